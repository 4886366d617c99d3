import PyProof.Rows.All
import Wide.All
import OpenK.AllK
import Wide.FinOn
import HandS.ForMost
import HandS.Wide
import HandS.WideMore
import HandS.FStr
import HandS.Zip
import HandS.StrMore
import HandS.IsInst
import HandS.Style
import HandS.Flow
import HandS.RevTup
import HandS.TupAny
import KE.GoesMore
import KE.GoesZip
import PySem.Challenge.RW_choirtrue_k02_ratios
set_option Elab.async false
set_option linter.all false
set_option maxRecDepth 100000
set_option maxHeartbeats 2000000
/-! OL: owned lists, frozen data, and functions in a monad that may fail. -/
namespace OL
open PySem L2

/-! ### heaps that grow -/
def Gr (B C : Hp) : Prop := ∀ a o, B a = some o → C a = some o
theorem Gr.refl (B : Hp) : Gr B B := fun _ _ h => h
theorem Gr.trans {B C D : Hp} (x : Gr B C) (y : Gr C D) : Gr B D := fun a o h => y a o (x a o h)
theorem Gr.new {B : Hp} {p : Addr} {o : HO} (h : B p = none) : Gr B (upd B p o) := fun a u e => by
  rw [upd_ne (ne_of_none e h)]; exact e
theorem Gr.mut {B C : Hp} {p : Addr} {o : HO} (g : Gr B C) (h : B p = none) : Gr B (upd C p o) := fun a u e => by
  rw [upd_ne (ne_of_none e h)]; exact g a u e
theorem Gr.both {B C : Hp} {p : Addr} {o : HO} (g : Gr B C) : Gr (upd B p o) (upd C p o) := fun a u e => by
  by_cases h : a = p
  · subst h; rw [upd_same] at e ⊢; exact e
  · rw [upd_ne h] at e ⊢; exact g a u e
theorem Gr.back {B C : Hp} {p : Addr} (g : Gr B C) (h : C p = none) : B p = none := by
  cases e : B p with
  | none => rfl
  | some o => rw [g p o e] at h; cases h
theorem Gr.rd {B C : Hp} {a : Addr} {u : HO} (g : Gr B C) (h : Rd B a u) : Rd C a u := by
  rcases h with h | ⟨o, h⟩
  · exact .inl (g a _ h)
  · exact .inr ⟨o, g a _ h⟩
theorem Gr.sqL {K : PySem.W.Frag} {B C : Hp} {a : Addr} {xs : List V} (g : Gr B C) (h : SqL K B a xs) : SqL K C a xs := by
  rcases h with h | h
  · exact .inl (g.rd h)
  · exact .inr h
theorem Gr.sqT {K : PySem.W.Frag} {B C : Hp} {a : Addr} {xs : List V} (g : Gr B C) (h : SqT K B a xs) : SqT K C a xs := by
  rcases h with h | h
  · exact .inl (g.rd h)
  · exact .inr h

/-! ### data in a heap -/
mutual
inductive Rp (K : PySem.W.Frag) (B : Hp) : V → PyData → Prop
  | non : Rp K B .non .none
  | bl (b : Bool) : Rp K B (.bl b) (.bool b)
  | int (i : Int) : Rp K B (.int i) (.int i)
  | str (x : Str) : Rp K B (.str x) (.str x)
  | lst {a : Addr} {xs : List V} {ds : List PyData} (h : B a = some (.lst xs)) (hs : Rps K B xs ds) : Rp K B (.ref a) (.list ds)
  | tup {a : Addr} {xs : List V} {ds : List PyData} (h : SqT K B a xs) (hs : Rps K B xs ds) : Rp K B (.ref a) (.tuple ds)
  /-- a list of ints that is read alone (the script): its data is told by a name of its own -/
  | scr {a : Addr} (ns : List Int) (h : SqL K B a (ns.map V.int)) : Rp K B (.ref a) (.dict (ns.map fun n => (.int n, .none)))
inductive Rps (K : PySem.W.Frag) (B : Hp) : List V → List PyData → Prop
  | nil : Rps K B [] []
  | cons {v : V} {vs : List V} {d : PyData} {ds : List PyData} (h : Rp K B v d) (hs : Rps K B vs ds) : Rps K B (v :: vs) (d :: ds)
end
mutual
theorem Rp.gr {K : PySem.W.Frag} {B C : Hp} (g : Gr B C) : ∀ {d : PyData} {v : V}, Rp K B v d → Rp K C v d
  | .none, _, h => by cases h; exact .non
  | .bool _, _, h => by cases h; exact .bl _
  | .int _, _, h => by cases h; exact .int _
  | .str _, _, h => by cases h; exact .str _
  | .list ds, _, h => by cases h with | lst h hs => exact .lst (g _ _ h) (Rps.gr g hs)
  | .tuple ds, _, h => by cases h with | tup h hs => exact .tup (g.sqT h) (Rps.gr g hs)
  | .dict _, _, h => by cases h with | scr ns h => exact .scr ns (g.sqL h)
theorem Rps.gr {K : PySem.W.Frag} {B C : Hp} (g : Gr B C) : ∀ {ds : List PyData} {vs : List V}, Rps K B vs ds → Rps K C vs ds
  | [], _, h => by cases h; exact .nil
  | d :: ds, _, h => by cases h with | cons h hs => exact .cons (Rp.gr g h) (Rps.gr g hs)
end
mutual
def noD : PyData → Bool
  | .none => true
  | .bool _ => true
  | .int _ => true
  | .str _ => true
  | .list ds => noDs ds
  | .tuple ds => noDs ds
  | .dict _ => false
def noDs : List PyData → Bool
  | [] => true
  | d :: ds => noD d && noDs ds
end
mutual
theorem Rp.dp {K : PySem.W.Frag} {B : Hp} : ∀ {d : PyData} {v : V}, noD d = true → Rp K B v d → Dp K B v d
  | .none, _, _, h => by cases h; exact .non
  | .bool _, _, _, h => by cases h; exact .bl _
  | .int _, _, _, h => by cases h; exact .int _
  | .str _, _, _, h => by cases h; exact .str _
  | .list ds, _, n, h => by
    rw [noD] at n
    cases h with | lst h hs => exact .lst (SqL.of h) (Rps.dp n hs)
  | .tuple ds, _, n, h => by
    rw [noD] at n
    cases h with | tup h hs => exact .tup h (Rps.dp n hs)
  | .dict _, _, n, _ => by rw [noD] at n; cases n
theorem Rps.dp {K : PySem.W.Frag} {B : Hp} : ∀ {ds : List PyData} {vs : List V}, noDs ds = true → Rps K B vs ds → DpAll K B vs ds
  | [], _, _, h => by cases h; exact .nil
  | d :: ds, _, n, h => by
    rw [noDs, Bool.and_eq_true] at n
    cases h with | cons h hs => exact .cons (Rp.dp n.1 h) (Rps.dp n.2 hs)
end
/-! ### values of Lean as data -/
class Enc (α : Type) where
  enc : α → PyData
abbrev enc {α : Type} [Enc α] (a : α) : PyData := Enc.enc a
instance : Enc Unit := ⟨fun _ => .none⟩
instance : Enc Bool := ⟨.bool⟩
instance : Enc Int := ⟨.int⟩
instance : Enc Str := ⟨.str⟩
instance {α : Type} [Enc α] : Enc (List α) := ⟨fun xs => .list (xs.map enc)⟩
instance {α : Type} [Enc α] : Enc (Option α) := ⟨fun o => match o with | some a => enc a | none => .none⟩
instance {α β : Type} [Enc α] [Enc β] : Enc (α ⊕ β) := ⟨fun o => match o with | .inl a => enc a | .inr b => enc b⟩
/-- the script -/
structure Sc where
  ns : List Int
instance : Enc Sc := ⟨fun s => .dict (s.ns.map fun n => (.int n, .none))⟩
/-- a tuple of any length -/
structure Tl (α : Type) where
  l : List α
  deriving DecidableEq
instance {α : Type} [Enc α] : Enc (Tl α) := ⟨fun t => .tuple (t.l.map enc)⟩
instance {α β : Type} [Enc α] [Enc β] : Enc (α × β) := ⟨fun t => .tuple [enc t.1, enc t.2]⟩
structure T3 (α β γ : Type) where
  (a : α) (b : β) (c : γ)
  deriving DecidableEq
instance {α β γ : Type} [Enc α] [Enc β] [Enc γ] : Enc (T3 α β γ) := ⟨fun t => .tuple [enc t.a, enc t.b, enc t.c]⟩
structure T4 (α β γ δ : Type) where
  (a : α) (b : β) (c : γ) (d : δ)
  deriving DecidableEq
instance {α β γ δ : Type} [Enc α] [Enc β] [Enc γ] [Enc δ] : Enc (T4 α β γ δ) := ⟨fun t => .tuple [enc t.a, enc t.b, enc t.c, enc t.d]⟩
structure T6 (α β γ δ ε ζ : Type) where
  (a : α) (b : β) (c : γ) (d : δ) (e : ε) (f : ζ)
  deriving DecidableEq
instance {α β γ δ ε ζ : Type} [Enc α] [Enc β] [Enc γ] [Enc δ] [Enc ε] [Enc ζ] : Enc (T6 α β γ δ ε ζ) := ⟨fun t => .tuple [enc t.a, enc t.b, enc t.c, enc t.d, enc t.e, enc t.f]⟩

section
variable {K : PySem.W.Frag} {B : Hp}
theorem Rps.len {vs : List V} {ds : List PyData} (h : Rps K B vs ds) : vs.length = ds.length := by
  induction ds generalizing vs with
  | nil => cases h; rfl
  | cons d ds ih => cases h with | cons h hs => rw [List.length_cons, List.length_cons, ih hs]
theorem Rps.get : ∀ {vs : List V} {ds : List PyData} {i : Nat} {d : PyData}, Rps K B vs ds → ds[i]? = some d → ∃ v, vs[i]? = some v ∧ Rp K B v d
  | _, _, _, _, .nil, e => by simp at e
  | _, _, 0, _, .cons h _, e => by cases Option.some.inj e; exact ⟨_, rfl, h⟩
  | _, _, i + 1, _, .cons _ hs, e => Rps.get (i := i) hs e
theorem Rps.app : ∀ {vs ws : List V} {ds es : List PyData}, Rps K B vs ds → Rps K B ws es → Rps K B (vs ++ ws) (ds ++ es)
  | _, _, _, _, .nil, h => h
  | _, _, _, _, .cons h hs, g => .cons h (Rps.app hs g)
theorem Rps.take : ∀ {vs : List V} {ds : List PyData} (n : Nat), Rps K B vs ds → Rps K B (vs.take n) (ds.take n)
  | _, _, 0, _ => .nil
  | _, _, _ + 1, .nil => .nil
  | _, _, n + 1, .cons h hs => .cons h (Rps.take n hs)
theorem Rps.drop : ∀ {vs : List V} {ds : List PyData} (n : Nat), Rps K B vs ds → Rps K B (vs.drop n) (ds.drop n)
  | _, _, 0, h => h
  | _, _, _ + 1, .nil => .nil
  | _, _, n + 1, .cons _ hs => Rps.drop n hs
theorem Rps.set : ∀ {vs : List V} {ds : List PyData} (n : Nat) {v : V} {d : PyData}, Rps K B vs ds → Rp K B v d → Rps K B (vs.set n v) (ds.set n d)
  | _, _, _, _, _, .nil, _ => .nil
  | _, _, 0, _, _, .cons _ hs, g => .cons g hs
  | _, _, n + 1, _, _, .cons h hs, g => .cons h (Rps.set n hs g)
theorem Rp.int_inv {v : V} {i : Int} (h : Rp K B v (.int i)) : v = .int i := by cases h; rfl
theorem Rp.bl_inv {v : V} {b : Bool} (h : Rp K B v (.bool b)) : v = .bl b := by cases h; rfl
theorem Rp.str_inv {v : V} {x : Str} (h : Rp K B v (.str x)) : v = .str x := by cases h; rfl
theorem Rp.non_inv {v : V} (h : Rp K B v .none) : v = .non := by cases h; rfl
theorem Rp.lst_inv {v : V} {ds : List PyData} (h : Rp K B v (.list ds)) : ∃ a xs, v = .ref a ∧ B a = some (.lst xs) ∧ Rps K B xs ds := by
  cases h with | lst h hs => exact ⟨_, _, rfl, h, hs⟩
theorem Rp.scr_inv {v : V} {s : Sc} (h : Rp K B v (.dict (s.ns.map fun n => (.int n, .none)))) : ∃ a, v = .ref a ∧ SqL K B a (s.ns.map V.int) := by
  have key : ∀ d, Rp K B v d → d = .dict (s.ns.map fun n => (.int n, .none)) → ∃ a, v = .ref a ∧ SqL K B a (s.ns.map V.int) := fun d h e => by
    cases h with
    | scr ns hq =>
      have z := PyData.dict.inj e
      have inj : ∀ (a b : List Int), a.map (fun n => (PyData.int n, PyData.none)) = b.map (fun n => (PyData.int n, PyData.none)) → a = b := fun a => by
        induction a with
        | nil => intro b e; cases b with | nil => rfl | cons _ _ => cases e
        | cons x a ih =>
          intro b e
          cases b with
          | nil => cases e
          | cons y b =>
            rw [List.map_cons, List.map_cons] at e
            have e1 := (List.cons.inj e).1
            have e2 := ih b (List.cons.inj e).2
            cases e1; rw [e2]
      rw [← inj _ _ z]
      exact ⟨_, rfl, hq⟩
    | _ => cases e
  exact key _ h rfl
theorem Rp.tup_inv {v : V} {ds : List PyData} (h : Rp K B v (.tuple ds)) : ∃ a xs, v = .ref a ∧ SqT K B a xs ∧ Rps K B xs ds := by
  cases h with | tup h hs => exact ⟨_, _, rfl, h, hs⟩
/-- ints need no heap -/
theorem Rps.ints : ∀ {xs : List V} {ns : List Int}, Rps K B xs (ns.map .int) → xs = ns.map V.int
  | _, [], h => by cases h; rfl
  | _, n :: ns, h => by
    cases h with | cons h hs => rw [h.int_inv, Rps.ints hs]; rfl
theorem Rps.ofInts : ∀ (ns : List Int), Rps K B (ns.map V.int) (ns.map .int)
  | [] => .nil
  | n :: ns => .cons (.int n) (Rps.ofInts ns)
theorem Rps.strs : ∀ {xs : List V} {ns : List Str}, Rps K B xs (ns.map .str) → xs = ns.map V.str
  | _, [], h => by cases h; rfl
  | _, n :: ns, h => by
    cases h with | cons h hs => rw [h.str_inv, Rps.strs hs]; rfl
theorem Rps.ofStrs : ∀ (ns : List Str), Rps K B (ns.map V.str) (ns.map .str)
  | [] => .nil
  | n :: ns => .cons (.str n) (Rps.ofStrs ns)
end

/-! ### the monads: Option for what keeps no state, Sm for what draws -/
def Sm (α : Type) : Type := Int → Option (α × Int)
class Mn (m : Type → Type) where
  run : {α : Type} → m α → Int → Option (α × Int)
  pur0 : {α : Type} → α → m α
  bnd0 : {α β : Type} → m α → (α → m β) → m β
  fl0 : {α : Type} → m α
  run_pur0 : ∀ {α : Type} (a : α) (k : Int), run (pur0 a) k = some (a, k)
  run_bnd0 : ∀ {α β : Type} (x : m α) (f : α → m β) (k : Int), run (bnd0 x f) k = (run x k).bind fun p => run (f p.1) p.2
  run_fl0 : ∀ {α : Type} (k : Int), run (fl0 : m α) k = none
instance : Mn Option where
  run o k := o.map fun a => (a, k)
  pur0 := some
  bnd0 := Option.bind
  fl0 := none
  run_pur0 _ _ := rfl
  run_bnd0 x f k := by cases x <;> rfl
  run_fl0 _ := rfl
instance : Mn Sm where
  run x k := x k
  pur0 a := fun k => some (a, k)
  bnd0 x f := fun k => (x k).bind fun p => f p.1 p.2
  fl0 := fun _ => none
  run_pur0 _ _ := rfl
  run_bnd0 _ _ _ := rfl
  run_fl0 _ := rfl
@[irreducible] def Mn.pur {m : Type → Type} [Mn m] {α : Type} (a : α) : m α := Mn.pur0 a
@[irreducible] def Mn.bnd {m : Type → Type} [Mn m] {α β : Type} (x : m α) (f : α → m β) : m β := Mn.bnd0 x f
@[irreducible] def Mn.fl {m : Type → Type} [Mn m] {α : Type} : m α := Mn.fl0
section
variable {m : Type → Type} [Mn m] {α β : Type}
theorem Mn.run_pur (a : α) (k : Int) : Mn.run (Mn.pur a : m α) k = some (a, k) := by unfold Mn.pur; exact Mn.run_pur0 a k
theorem Mn.run_bnd (x : m α) (f : α → m β) (k : Int) : Mn.run (Mn.bnd x f) k = (Mn.run x k).bind fun p => Mn.run (f p.1) p.2 := by unfold Mn.bnd; exact Mn.run_bnd0 x f k
theorem Mn.run_fl (k : Int) : Mn.run (Mn.fl : m α) k = none := by unfold Mn.fl; exact Mn.run_fl0 k
theorem pur_opt (a : α) : (Mn.pur a : Option α) = some a := by unfold Mn.pur; rfl
theorem bnd_opt (x : Option α) (f : α → Option β) : Mn.bnd x f = x.bind f := by unfold Mn.bnd; rfl
theorem fl_opt : (Mn.fl : Option α) = none := by unfold Mn.fl; rfl
theorem pur_sm (a : α) (k : Int) : (Mn.pur a : Sm α) k = some (a, k) := by unfold Mn.pur; rfl
theorem bnd_sm (x : Sm α) (f : α → Sm β) (k : Int) : (Mn.bnd x f) k = (x k).bind fun p => f p.1 p.2 := by unfold Mn.bnd; rfl
theorem fl_sm (k : Int) : (Mn.fl : Sm α) k = none := by unfold Mn.fl; rfl
end
@[irreducible] def lift {m : Type → Type} [Mn m] {α : Type} (o : Option α) : m α := match o with | some a => Mn.pur a | none => Mn.fl
@[irreducible] def gd {m : Type → Type} [Mn m] {α : Type} (p : Prop) [Decidable p] (x : m α) : m α := if p then x else Mn.fl
section
variable {m : Type → Type} [Mn m] {α β : Type}
theorem bnd_some {x : m α} {f : α → m β} {k k2 : Int} {b : β} (h : Mn.run (Mn.bnd x f) k = some (b, k2)) : ∃ a k1, Mn.run x k = some (a, k1) ∧ Mn.run (f a) k1 = some (b, k2) := by
  rw [Mn.run_bnd] at h
  cases e : Mn.run x k with
  | none => rw [e] at h; cases h
  | some p => rw [e] at h; exact ⟨p.1, p.2, rfl, h⟩
theorem pur_some {a b : α} {k k2 : Int} (h : Mn.run (Mn.pur a : m α) k = some (b, k2)) : b = a ∧ k2 = k := by
  rw [Mn.run_pur] at h
  cases h; exact ⟨rfl, rfl⟩
theorem gd_some {p : Prop} [Decidable p] {x : m α} {k k2 : Int} {b : α} (h : Mn.run (gd p x) k = some (b, k2)) : p ∧ Mn.run x k = some (b, k2) := by
  unfold gd at h
  by_cases c : p
  · rw [if_pos c] at h; exact ⟨c, h⟩
  · rw [if_neg c, Mn.run_fl] at h; cases h
theorem lift_some {o : Option α} {k k2 : Int} {b : α} (h : Mn.run (lift o : m α) k = some (b, k2)) : o = some b ∧ k2 = k := by
  cases o with
  | none => unfold lift at h; rw [Mn.run_fl] at h; cases h
  | some a => unfold lift at h; obtain ⟨rfl, rfl⟩ := pur_some h; exact ⟨rfl, rfl⟩
theorem fl_some {k k2 : Int} {b : α} (h : Mn.run (Mn.fl : m α) k = some (b, k2)) : False := by
  rw [Mn.run_fl] at h; cases h
end

/-! ### slots -/
inductive SD where
  | un
  | dat (d : PyData)
  | lst (ds : List PyData)
  | sr (cells : List Int) (names : Option (List Str))
def SD.own : SD → Bool
  | .lst _ => true
  | _ => false
/-- a def's frame: the heap and the data at its entry; the state that it draws from; what else stands -/
structure Fr where
  H0 : Hp
  B0 : Hp
  sa : Option (Addr × List Int × Option (List Str))
  ex : List (Addr × HO)
def stKvs (cv : V) (k : Int) (nv : Option V) : List (Key × V) := match nv with
  | some n => [(.inr "cells", cv), (.inr "at", .int k), (.inr "names", n)]
  | none => [(.inr "cells", cv), (.inr "at", .int k)]
/-- the state stands at a -/
def StAt (K : PySem.W.Frag) (B H : Hp) (a : Addr) (cells : List Int) (names : Option (List Str)) (k : Int) : Prop :=
  B a = none ∧ ∃ (c : Addr) (nv : Option V), H a = some (.dK (stKvs (.ref c) k nv)) ∧ SqL K B c (cells.map V.int) ∧ (match names, nv with | some ns, some n => Rp K B n (.list (ns.map .str)) | none, none => True | _, _ => False)
def SOk (K : PySem.W.Frag) (F : Fr) (B H : Hp) (o : Option V) : SD → Prop
  | .un => True
  | .dat d => ∃ v, o = some v ∧ Rp K B v d
  | .lst ds => ∃ a vs, o = some (.ref a) ∧ F.H0 a = none ∧ (∀ p ∈ F.ex, p.1 ≠ a) ∧ B a = none ∧ H a = some (.lst vs) ∧ Rps K B vs ds
  | .sr c n => ∃ a, o = some (.ref a) ∧ F.sa = some (a, c, n)
structure Rel (K : PySem.W.Frag) (F : Fr) (σ : L2.St) (B H : Hp) (sd : List SD) (k : Int) : Prop where
  len : sd.length = σ.length
  bh : Gr B H
  b0 : Gr F.B0 B
  bn : ∀ a o, B a = some o → F.B0 a = none → F.H0 a = none
  fr : ∀ a o, F.H0 a = some o → (∀ s, F.sa = some s → s.1 ≠ a) → H a = some o
  ex : ∀ p ∈ F.ex, H p.1 = some p.2 ∧ B p.1 = none
  sl : ∀ (i : Nat) (d : SD), sd[i]? = some d → ∃ o, σ[i]? = some o ∧ SOk K F B H o d
  ap : ∀ (i j : Nat) (d e : SD) (a : Addr), i ≠ j → sd[i]? = some d → sd[j]? = some e → d.own = true → e.own = true → σ[i]? = some (some (.ref a)) → σ[j]? = some (some (.ref a)) → False
  st : ∀ s, F.sa = some s → StAt K B H s.1 s.2.1 s.2.2 k ∧ ∀ p ∈ F.ex, p.1 ≠ s.1
  sx : ∀ (i : Nat) (d : SD) (a : Addr) s, sd[i]? = some d → d.own = true → σ[i]? = some (some (.ref a)) → F.sa = some s → s.1 ≠ a
end OL

set_option Elab.async false
set_option linter.all false
set_option maxRecDepth 100000
set_option maxHeartbeats 2000000
namespace OL
open PySem L2

/-! ### what holds of the heaps -/
structure Fresh (F : Fr) (σ : L2.St) (B : Hp) (sd : List SD) (p : Addr) : Prop where
  h0 : F.H0 p = none
  ex : ∀ q ∈ F.ex, q.1 ≠ p
  b : B p = none
  un : ∀ (i : Nat) (d : SD), sd[i]? = some d → d.own = true → σ[i]? ≠ some (some (.ref p))
  sa : ∀ s, F.sa = some s → s.1 ≠ p
section
variable {K : PySem.W.Frag} {F : Fr} {σ : L2.St} {B H : Hp} {sd : List SD} {k : Int} {p : Addr} {o : HO}
theorem SOk.gr {C : Hp} {x : Option V} {d : SD} (g : Gr B C) (hc : ∀ a, d.own = true → x = some (.ref a) → C a = none) (h : SOk K F B H x d) : SOk K F C H x d := by
  cases d with
  | un => trivial
  | dat d => obtain ⟨v, e, r⟩ := h; exact ⟨v, e, r.gr g⟩
  | lst ds => obtain ⟨a, vs, e, h0, hx, hb, hh, r⟩ := h; exact ⟨a, vs, e, h0, hx, hc a rfl e, hh, r.gr g⟩
  | sr c n => exact h
theorem StAt.gr {C : Hp} {a : Addr} {c : List Int} {n : Option (List Str)} (g : Gr B C) (hc : C a = none) (h : StAt K B H a c n k) : StAt K C H a c n k := by
  obtain ⟨_, ca, nv, hh, hq, hn⟩ := h
  refine ⟨hc, ca, nv, hh, g.sqL hq, ?_⟩
  cases n <;> cases nv <;> first | exact hn | exact Rp.gr g hn
/-- H changes at p alone, which is nobody's -/
theorem Rel.heap (R : Rel K F σ B H sd k) (f : Fresh F σ B sd p) : Rel K F σ B (upd H p o) sd k where
  len := R.len
  bh := R.bh.mut f.b
  b0 := R.b0
  bn := R.bn
  fr := fun a u e s => by rw [upd_ne (ne_of_none e f.h0)]; exact R.fr a u e s
  ex := fun q hq => by rw [upd_ne (f.ex q hq)]; exact R.ex q hq
  sl := fun i d e => by
    obtain ⟨x, ex, h⟩ := R.sl i d e
    refine ⟨x, ex, ?_⟩
    cases d with
    | un => trivial
    | dat d => exact h
    | lst ds =>
      obtain ⟨a, vs, e1, h0, hx, hb, hh, r⟩ := h
      refine ⟨a, vs, e1, h0, hx, hb, ?_, r⟩
      rw [upd_ne (fun z => f.un i _ e rfl (by rw [ex, e1, z]))]; exact hh
    | sr c n => exact h
  ap := R.ap
  st := fun s e => by
    obtain ⟨⟨h1, c, nv, hh, h2⟩, h3⟩ := R.st s e
    refine ⟨⟨h1, c, nv, ?_, h2⟩, h3⟩
    rw [upd_ne (f.sa s e)]; exact hh
  sx := R.sx
theorem Rel.free (R : Rel K F σ B H sd k) (h : H p = none) : Fresh F σ B sd p where
  h0 := by
    cases e : F.H0 p with
    | none => rfl
    | some u =>
      by_cases c : ∀ s, F.sa = some s → s.1 ≠ p
      · have z := R.fr p u e c; rw [h] at z; cases z
      · exfalso; refine c fun s es z => ?_
        obtain ⟨⟨_, c, nv, hh, _⟩, _⟩ := R.st s es
        rw [z, h] at hh; cases hh
  ex := fun q hq z => by have y := (R.ex q hq).1; rw [z, h] at y; cases y
  b := R.bh.back h
  un := fun i d e w z => by
    obtain ⟨x, ex, y⟩ := R.sl i d e
    cases d with
    | lst ds =>
      obtain ⟨a, vs, e1, h0, hx, hb, hh, r⟩ := y
      rw [ex, e1] at z; cases z
      rw [h] at hh; cases hh
    | un => cases w
    | dat d => cases w
    | sr c n => cases w
  sa := fun s es z => by
    obtain ⟨⟨_, c, nv, hh, _⟩, _⟩ := R.st s es
    rw [z, h] at hh; cases hh
theorem Rel.alloc (R : Rel K F σ B H sd k) (h : H p = none) : Rel K F σ B (upd H p o) sd k := R.heap (R.free h)
/-- what is nobody's becomes data -/
theorem Rel.freeze (R : Rel K F σ B H sd k) (f : Fresh F σ B sd p) (h : H p = some o) : Rel K F σ (upd B p o) H sd k where
  len := R.len
  bh := fun a u e => by
    by_cases c : a = p
    · subst c; rw [upd_same] at e; rw [h]; exact e
    · rw [upd_ne c] at e; exact R.bh a u e
  b0 := R.b0.trans (Gr.new f.b)
  bn := fun a u e e0 => by
    by_cases c : a = p
    · subst c; exact f.h0
    · rw [upd_ne c] at e; exact R.bn a u e e0
  fr := R.fr
  ex := fun q hq => by rw [upd_ne (f.ex q hq)]; exact R.ex q hq
  sl := fun i d e => by
    obtain ⟨x, ex, y⟩ := R.sl i d e
    refine ⟨x, ex, y.gr (Gr.new f.b) fun a w z => ?_⟩
    have ne : a ≠ p := fun q => f.un i d e w (by rw [ex, z, q])
    rw [upd_ne ne]
    cases d with
    | lst ds => obtain ⟨a', vs, e1, h0, hx, hb, hh, r⟩ := y; rw [e1] at z; cases z; exact hb
    | un => cases w
    | dat d => cases w
    | sr c n => cases w
  ap := R.ap
  st := fun s e => by
    obtain ⟨h1, h3⟩ := R.st s e
    refine ⟨h1.gr (Gr.new f.b) ?_, h3⟩
    rw [upd_ne (f.sa s e)]; exact h1.1
  sx := R.sx
theorem Fresh.more {C : Hp} (f : Fresh F σ B sd p) (h : C p = none) : Fresh F σ C sd p := ⟨f.h0, f.ex, h, f.un, f.sa⟩
/-- a new tuple or list of data, at once data -/
theorem Rel.data (R : Rel K F σ B H sd k) (h : H p = none) : Rel K F σ (upd B p o) (upd H p o) sd k ∧ Gr B (upd B p o) :=
  ⟨(R.alloc h).freeze (R.free h) upd_same, Gr.new (R.bh.back h)⟩
/-- a slot stored -/
theorem Rel.setDat (R : Rel K F σ B H sd k) {i : Nat} {v : V} {d : PyData} (r : Rp K B v d) : Rel K F (σ.set i (some v)) B H (sd.set i (.dat d)) k where
  len := by rw [List.length_set, List.length_set]; exact R.len
  bh := R.bh
  b0 := R.b0
  bn := R.bn
  fr := R.fr
  ex := R.ex
  sl := fun j e hj => by
    by_cases c : i = j
    · subst c
      have hl : i < sd.length := by
        have z := (List.getElem?_eq_some_iff.mp hj).1; rw [List.length_set] at z; exact z
      rw [List.getElem?_set_self hl] at hj
      cases hj
      exact ⟨_, List.getElem?_set_self (by rw [← R.len]; exact hl), v, rfl, r⟩
    · rw [List.getElem?_set_ne c] at hj ⊢
      exact R.sl j e hj
  ap := fun a b d1 d2 q ne h1 h2 w1 w2 s1 s2 => by
    by_cases c : i = a
    · subst c
      have hl : i < sd.length := by
        have z := (List.getElem?_eq_some_iff.mp h1).1; rw [List.length_set] at z; exact z
      rw [List.getElem?_set_self hl] at h1; cases h1; cases w1
    · by_cases c2 : i = b
      · subst c2
        have hl : i < sd.length := by
          have z := (List.getElem?_eq_some_iff.mp h2).1; rw [List.length_set] at z; exact z
        rw [List.getElem?_set_self hl] at h2; cases h2; cases w2
      · rw [List.getElem?_set_ne c] at h1 s1
        rw [List.getElem?_set_ne c2] at h2 s2
        exact R.ap a b d1 d2 q ne h1 h2 w1 w2 s1 s2
  st := R.st
  sx := fun a d1 q s h1 w1 s1 e => by
    by_cases c : i = a
    · subst c
      have hl : i < sd.length := by
        have z := (List.getElem?_eq_some_iff.mp h1).1; rw [List.length_set] at z; exact z
      rw [List.getElem?_set_self hl] at h1; cases h1; cases w1
    · rw [List.getElem?_set_ne c] at h1 s1
      exact R.sx a d1 q s h1 w1 s1 e
/-- an owned list stored -/
theorem Rel.setLst (R : Rel K F σ B H sd k) (f : Fresh F σ B sd p) {i : Nat} {vs : List V} {ds : List PyData} (h : H p = some (.lst vs)) (r : Rps K B vs ds) :
    Rel K F (σ.set i (some (.ref p))) B H (sd.set i (.lst ds)) k where
  len := by rw [List.length_set, List.length_set]; exact R.len
  bh := R.bh
  b0 := R.b0
  bn := R.bn
  fr := R.fr
  ex := R.ex
  sl := fun j e hj => by
    by_cases c : i = j
    · subst c
      have hl : i < sd.length := by
        have z := (List.getElem?_eq_some_iff.mp hj).1; rw [List.length_set] at z; exact z
      rw [List.getElem?_set_self hl] at hj
      cases hj
      exact ⟨_, List.getElem?_set_self (by rw [← R.len]; exact hl), p, vs, rfl, f.h0, f.ex, f.b, h, r⟩
    · rw [List.getElem?_set_ne c] at hj ⊢
      exact R.sl j e hj
  ap := fun a b d1 d2 q ne h1 h2 w1 w2 s1 s2 => by
    have key : ∀ (x y : Nat) (d : SD), i = x → i ≠ y → (sd.set i (.lst ds))[y]? = some d → d.own = true → (σ.set i (some (.ref p)))[x]? = some (some (.ref q)) → (σ.set i (some (.ref p)))[y]? = some (some (.ref q)) → False := fun x y d e1 e2 hy w sx sy => by
      subst e1
      rw [List.getElem?_set_ne e2] at hy sy
      have hl : i < σ.length := by
        have z := (List.getElem?_eq_some_iff.mp sx).1; rw [List.length_set] at z; exact z
      rw [List.getElem?_set_self hl] at sx
      cases sx
      exact f.un y d hy w sy
    by_cases c : i = a
    · exact key a b d2 c (fun z => ne (c.symm.trans z)) h2 w2 s1 s2
    · by_cases c2 : i = b
      · exact key b a d1 c2 c h1 w1 s2 s1
      · rw [List.getElem?_set_ne c] at h1 s1
        rw [List.getElem?_set_ne c2] at h2 s2
        exact R.ap a b d1 d2 q ne h1 h2 w1 w2 s1 s2
  st := R.st
  sx := fun a d1 q s h1 w1 s1 e => by
    by_cases c : i = a
    · subst c
      have hl : i < σ.length := by
        have z := (List.getElem?_eq_some_iff.mp s1).1; rw [List.length_set] at z; exact z
      rw [List.getElem?_set_self hl] at s1
      cases s1
      exact f.sa s e
    · rw [List.getElem?_set_ne c] at h1 s1
      exact R.sx a d1 q s h1 w1 s1 e
/-- the slot's owned list changed -/
theorem Rel.mutLst (R : Rel K F σ B H sd k) {i : Nat} {ds es : List PyData} (hi : sd[i]? = some (.lst ds)) (hs : σ[i]? = some (some (.ref p))) {vs : List V} (r : Rps K B vs es) : Rel K F σ B (upd H p (.lst vs)) (sd.set i (.lst es)) k := by
  obtain ⟨x, ex, a, ws, e1, h0, hx, hb, hh, _⟩ := R.sl i _ hi
  rw [hs] at ex; cases ex; cases e1
  have li : i < sd.length := (List.getElem?_eq_some_iff.mp hi).1
  have un : ∀ (j : Nat) (d : SD), i ≠ j → sd[j]? = some d → d.own = true → σ[j]? ≠ some (some (.ref p)) := fun j d c hj w z => R.ap i j _ d p c hi hj rfl w hs z
  refine ⟨?_, R.bh.mut hb, R.b0, R.bn, ?_, ?_, ?_, ?_, ?_, ?_⟩
  · rw [List.length_set]; exact R.len
  · intro b u e s; rw [upd_ne (ne_of_none e h0)]; exact R.fr b u e s
  · intro q hq; rw [upd_ne (hx q hq)]; exact R.ex q hq
  · intro j d hj
    by_cases c : i = j
    · subst c
      rw [List.getElem?_set_self li] at hj
      cases hj
      exact ⟨_, hs, p, vs, rfl, h0, hx, hb, upd_same, r⟩
    · rw [List.getElem?_set_ne c] at hj
      obtain ⟨y, ey, hy⟩ := R.sl j d hj
      refine ⟨y, ey, ?_⟩
      cases d with
      | un => trivial
      | dat d => exact hy
      | lst fs =>
        obtain ⟨a, us, e2, h02, hx2, hb2, hh2, r2⟩ := hy
        refine ⟨a, us, e2, h02, hx2, hb2, ?_, r2⟩
        rw [upd_ne (fun z => un j _ c hj rfl (by rw [ey, e2, z]))]; exact hh2
      | sr c n => exact hy
  · intro a b d1 d2 q ne h1 h2 w1 w2 s1 s2
    have get : ∀ (j : Nat) (d : SD), (sd.set i (.lst es))[j]? = some d → d.own = true → ∃ d', sd[j]? = some d' ∧ d'.own = true := fun j d hj w => by
      by_cases c : i = j
      · subst c; exact ⟨_, hi, rfl⟩
      · rw [List.getElem?_set_ne c] at hj; exact ⟨_, hj, w⟩
    obtain ⟨d1', g1, w1'⟩ := get a d1 h1 w1
    obtain ⟨d2', g2, w2'⟩ := get b d2 h2 w2
    exact R.ap a b d1' d2' q ne g1 g2 w1' w2' s1 s2
  · intro s e
    obtain ⟨⟨h1, c, nv, hh1, h2⟩, h3⟩ := R.st s e
    refine ⟨⟨h1, c, nv, ?_, h2⟩, h3⟩
    rw [upd_ne (R.sx i _ p s hi rfl hs e)]; exact hh1
  · intro a d q s h1 w1 s1 e
    by_cases c : i = a
    · subst c; exact R.sx i _ q s hi rfl s1 e
    · rw [List.getElem?_set_ne c] at h1; exact R.sx a d q s h1 w1 s1 e
/-- fewer slots told -/
inductive Le : List SD → List SD → Prop
  | nil : Le [] []
  | same {d : SD} {a b : List SD} (h : Le a b) : Le (d :: a) (d :: b)
  | un {d : SD} {a b : List SD} (h : Le a b) : Le (d :: a) (.un :: b)
theorem Le.refl : ∀ a : List SD, Le a a
  | [] => .nil
  | _ :: a => .same (Le.refl a)
theorem Le.len {a b : List SD} (h : Le a b) : b.length = a.length := by
  induction h with
  | nil => rfl
  | same h ih => rw [List.length_cons, List.length_cons, ih]
  | un h ih => rw [List.length_cons, List.length_cons, ih]
theorem Le.get {a b : List SD} (h : Le a b) : ∀ {i : Nat} {d : SD}, b[i]? = some d → d = .un ∧ (∃ e, a[i]? = some e) ∨ a[i]? = some d := by
  induction h with
  | nil => intro i d e; simp at e
  | same h ih =>
    intro i d e
    cases i with
    | zero => exact .inr e
    | succ i => exact ih (i := i) e
  | un h ih =>
    intro i d e
    cases i with
    | zero => cases Option.some.inj e; exact .inl ⟨rfl, _, rfl⟩
    | succ i => exact ih (i := i) e
theorem Rel.le {se : List SD} (R : Rel K F σ B H sd k) (l : Le sd se) : Rel K F σ B H se k where
  len := by rw [l.len]; exact R.len
  bh := R.bh
  b0 := R.b0
  bn := R.bn
  fr := R.fr
  ex := R.ex
  sl := fun i d h => by
    rcases l.get h with ⟨rfl, e, he⟩ | h
    · obtain ⟨x, hx, _⟩ := R.sl i e he; exact ⟨x, hx, trivial⟩
    · exact R.sl i d h
  ap := fun i j d e a ne h1 h2 w1 w2 => by
    rcases l.get h1 with ⟨rfl, _⟩ | h1
    · cases w1
    · rcases l.get h2 with ⟨rfl, _⟩ | h2
      · cases w2
      · exact R.ap i j d e a ne h1 h2 w1 w2
  st := R.st
  sx := fun i d a s h w => by
    rcases l.get h with ⟨rfl, _⟩ | h
    · cases w
    · exact R.sx i d a s h w
/-- an owned slot becomes data -/
theorem Rel.frz (R : Rel K F σ B H sd k) {i : Nat} {ds : List PyData} (hi : sd[i]? = some (.lst ds)) : ∃ B', Rel K F σ B' H (sd.set i (.dat (.list ds))) k ∧ Gr B B' := by
  obtain ⟨x, ex, a, vs, rfl, h0, hx, hb, hh, r⟩ := R.sl i _ hi
  have li : i < sd.length := (List.getElem?_eq_some_iff.mp hi).1
  have g : Gr B (upd B a (.lst vs)) := Gr.new hb
  refine ⟨upd B a (.lst vs), ?_, g⟩
  have R1 : Rel K F σ B H (sd.set i .un) k := by
    refine ⟨by rw [List.length_set]; exact R.len, R.bh, R.b0, R.bn, R.fr, R.ex, fun j d hj => ?_, fun j l d e b ne h1 h2 w1 w2 => ?_, R.st, fun j d b s h1 w1 => ?_⟩
    · by_cases c : i = j
      · subst c; rw [List.getElem?_set_self li] at hj; cases hj; exact ⟨_, ex, trivial⟩
      · rw [List.getElem?_set_ne c] at hj; exact R.sl j d hj
    · have get : ∀ (j : Nat) (d : SD), (sd.set i .un)[j]? = some d → d.own = true → sd[j]? = some d := fun j d hj w => by
        by_cases c : i = j
        · subst c; rw [List.getElem?_set_self li] at hj; cases hj; cases w
        · rw [List.getElem?_set_ne c] at hj; exact hj
      exact R.ap j l d e b ne (get j d h1 w1) (get l e h2 w2) w1 w2
    · by_cases c : i = j
      · subst c; rw [List.getElem?_set_self li] at h1; cases h1; cases w1
      · rw [List.getElem?_set_ne c] at h1; exact R.sx j d b s h1 w1
  have f : Fresh F σ B (sd.set i .un) a := ⟨h0, hx, hb, fun j d hj w z => by
    by_cases c : i = j
    · subst c; rw [List.getElem?_set_self li] at hj; cases hj; cases w
    · rw [List.getElem?_set_ne c] at hj; exact R.ap i j _ d a c hi hj rfl w ex z, fun s e => R.sx i _ a s hi rfl ex e⟩
  have R2 := (R1.freeze f hh).setDat (i := i) (v := .ref a) (d := .list ds) (.lst upd_same (r.gr g))
  have e1 : σ.set i (some (V.ref a)) = σ := by
    have z := List.getElem?_eq_some_iff.mp ex
    rw [← z.2]; exact List.set_getElem_self z.1
  rw [e1, List.set_set] at R2
  exact R2
end

/-! ### the judgements -/
section
variable (K : PySem.W.Frag) {m : Type → Type} [Mn m] {α : Type}
def EvM [Enc α] (te : TE) (sd : List SD) (x : m α) : Prop := ∀ (F : Fr) (σ : L2.St) (B H : Hp) (k : Int), Rel K F σ B H sd k → ∀ (a : α) (k' : Int), Mn.run x k = some (a, k') →
  ∀ Q : VK, (∀ v B' H', Rel K F σ B' H' sd k' → Gr B B' → Rp K B' v (enc a) → Q v H') → te σ H Q
def EvF [Enc α] (te : TE) (sd : List SD) (x : m (List α)) : Prop := ∀ (F : Fr) (σ : L2.St) (B H : Hp) (k : Int), Rel K F σ B H sd k → ∀ (a : List α) (k' : Int), Mn.run x k = some (a, k') →
  ∀ Q : VK, (∀ p vs B' H', Rel K F σ B' H' sd k' → Gr B B' → Fresh F σ B' sd p → H' p = some (.lst vs) → Rps K B' vs (a.map enc) → Q (.ref p) H') → te σ H Q
def EvB (te : TT) (sd : List SD) (x : m Bool) : Prop := ∀ (F : Fr) (σ : L2.St) (B H : Hp) (k : Int), Rel K F σ B H sd k → ∀ (a : Bool) (k' : Int), Mn.run x k = some (a, k') →
  ∀ Q : Bool → Hp → Prop, (∀ B' H', Rel K F σ B' H' sd k' → Gr B B' → Q a H') → te σ H Q
def EvA (ta : TA) (sd : List SD) (x : m α) (g : α → List PyData) : Prop := ∀ (F : Fr) (σ : L2.St) (B H : Hp) (k : Int), Rel K F σ B H sd k → ∀ (a : α) (k' : Int), Mn.run x k = some (a, k') →
  ∀ Q : List V → Hp → Prop, (∀ vs B' H', Rel K F σ B' H' sd k' → Gr B B' → Rps K B' vs (g a) → Q vs H') → ta σ H Q
end
inductive Fl (τ l ρ : Type) where
  | nx (t : τ)
  | bk (t : l)
  | ct (t : l)
  | rt (r : ρ)
section
variable (K : PySem.W.Frag) {m : Type → Type} [Mn m] {τ l ρ : Type} [Enc ρ]
def EndOk (F : Fr) (B : Hp) (D : Ends) (post : τ → List SD) (postL : l → List SD) (f : Fl τ l ρ) (k : Int) : Prop := match f with
  | .nx t => ∀ σ' B' H', Rel K F σ' B' H' (post t) k → Gr B B' → D.nx σ' H'
  | .bk t => ∀ σ' B' H', Rel K F σ' B' H' (postL t) k → Gr B B' → D.bk σ' H'
  | .ct t => ∀ σ' B' H', Rel K F σ' B' H' (postL t) k → Gr B B' → D.ct σ' H'
  | .rt r => ∀ v σ' B' H' sd', Rel K F σ' B' H' sd' k → Gr B B' → Rp K B' v (enc r) → D.rt v H'
def EvS (ts : TS) (sd : List SD) (post : τ → List SD) (postL : l → List SD) (x : m (Fl τ l ρ)) : Prop := ∀ (F : Fr) (σ : L2.St) (B H : Hp) (k : Int), Rel K F σ B H sd k → ∀ (f : Fl τ l ρ) (k' : Int), Mn.run x k = some (f, k') →
  ∀ D : Ends, EndOk K F B D post postL f k' → ts D σ H
end
theorem EndOk.gr {K : PySem.W.Frag} {τ l ρ : Type} [Enc ρ] {F : Fr} {B C : Hp} {D : Ends} {post : τ → List SD} {postL : l → List SD} {f : Fl τ l ρ} {k : Int} (g : Gr B C) (h : EndOk K F B D post postL f k) : EndOk K F C D post postL f k := by
  cases f with
  | nx t => exact fun σ' B' H' R g' => h σ' B' H' R (g.trans g')
  | bk t => exact fun σ' B' H' R g' => h σ' B' H' R (g.trans g')
  | ct t => exact fun σ' B' H' R g' => h σ' B' H' R (g.trans g')
  | rt r => exact fun v σ' B' H' sd' R g' => h v σ' B' H' sd' R (g.trans g')

/-! ### loops -/
section
variable {m : Type → Type} [Mn m] {τ τ' l ρ α : Type}
@[irreducible] def andThen (x : m (Fl τ l ρ)) (f : τ → m (Fl τ' l ρ)) : m (Fl τ' l ρ) := Mn.bnd x fun r => match r with
  | .nx t => f t
  | .bk t => Mn.pur (.bk t)
  | .ct t => Mn.pur (.ct t)
  | .rt r => Mn.pur (.rt r)
def forL0 (body : τ → α → m (Fl τ τ ρ)) : List α → τ → m (Fl τ l ρ)
  | [], t => Mn.pur (.nx t)
  | x :: xs, t => Mn.bnd (body t x) fun r => match r with
    | .nx t => forL0 body xs t
    | .ct t => forL0 body xs t
    | .bk t => Mn.pur (.nx t)
    | .rt r => Mn.pur (.rt r)
@[irreducible] def forL (body : τ → α → m (Fl τ τ ρ)) (xs : List α) (t : τ) : m (Fl τ l ρ) := forL0 body xs t
def whl0 (c : τ → m Bool) (body : τ → m (Fl τ τ ρ)) : Nat → τ → m (Fl τ l ρ)
  | 0, _ => Mn.fl
  | n + 1, t => Mn.bnd (c t) fun b => match b with
    | false => Mn.pur (.nx t)
    | true => Mn.bnd (body t) fun r => match r with
      | .nx t => whl0 c body n t
      | .ct t => whl0 c body n t
      | .bk t => Mn.pur (.nx t)
      | .rt r => Mn.pur (.rt r)
@[irreducible] def whl (c : τ → m Bool) (body : τ → m (Fl τ τ ρ)) (n : Nat) (t : τ) : m (Fl τ l ρ) := whl0 c body n t
/-- the comprehension: which, and what -/
def compL0 {β : Type} (p : α → m Bool) (f : α → m β) : List α → m (List β)
  | [] => Mn.pur []
  | x :: xs => Mn.bnd (p x) fun b => match b with
    | true => Mn.bnd (f x) fun y => Mn.bnd (compL0 p f xs) fun ys => Mn.pur (y :: ys)
    | false => compL0 p f xs
@[irreducible] def compL {β : Type} (p : α → m Bool) (f : α → m β) (xs : List α) : m (List β) := compL0 p f xs
variable {body : τ → α → m (Fl τ τ ρ)} {c : τ → m Bool} {bodyw : τ → m (Fl τ τ ρ)} {β : Type} {p : α → m Bool} {f : α → m β}
theorem forL_nil (t : τ) : (forL body [] t : m (Fl τ l ρ)) = Mn.pur (.nx t) := by unfold forL forL0; rfl
theorem forL_cons (x : α) (xs : List α) (t : τ) : (forL body (x :: xs) t : m (Fl τ l ρ)) = Mn.bnd (body t x) fun r => match r with
    | .nx t => forL body xs t
    | .ct t => forL body xs t
    | .bk t => Mn.pur (.nx t)
    | .rt r => Mn.pur (.rt r) := by unfold forL; rw [forL0]
theorem whl_zero (t : τ) : (whl c bodyw 0 t : m (Fl τ l ρ)) = Mn.fl := by unfold whl whl0; rfl
theorem whl_succ (n : Nat) (t : τ) : (whl c bodyw (n + 1) t : m (Fl τ l ρ)) = Mn.bnd (c t) fun b => match b with
    | false => Mn.pur (.nx t)
    | true => Mn.bnd (bodyw t) fun r => match r with
      | .nx t => whl c bodyw n t
      | .ct t => whl c bodyw n t
      | .bk t => Mn.pur (.nx t)
      | .rt r => Mn.pur (.rt r) := by unfold whl; rw [whl0]
theorem compL_nil : compL p f [] = Mn.pur [] := by unfold compL compL0; rfl
theorem compL_cons (x : α) (xs : List α) : compL p f (x :: xs) = Mn.bnd (p x) fun b => match b with
    | true => Mn.bnd (f x) fun y => Mn.bnd (compL p f xs) fun ys => Mn.pur (y :: ys)
    | false => compL p f xs := by unfold compL; rw [compL0]
end
end OL

set_option Elab.async false
set_option linter.all false
set_option maxRecDepth 100000
set_option maxHeartbeats 2000000
namespace OL
open PySem L2
section
variable {K : PySem.W.Frag} {m : Type → Type} [Mn m] {α β γ δ τ τ' l ρ : Type} {sd : List SD} {ta tb te : TE}

/-! ### names, constants -/
theorem em_var [Enc α] {i : Nat} {a : α} (h : sd[i]? = some (.dat (enc a))) : EvM K (tVar i) sd (Mn.pur a : m α) := fun F σ B H k R b k' e Q q => by
  obtain ⟨rfl, rfl⟩ := pur_some e
  obtain ⟨o, ho, v, rfl, r⟩ := R.sl i _ h
  exact ⟨v, ho, q v B H R (Gr.refl B) r⟩
theorem em_c [Enc α] {v : V} {a : α} (h : ∀ B, Rp K B v (enc a)) : EvM K (tC v) sd (Mn.pur a : m α) := fun F σ B H k R b k' e Q q => by
  obtain ⟨rfl, rfl⟩ := pur_some e
  exact q v B H R (Gr.refl B) (h B)
theorem em_int {i : Int} : EvM K (tC (.int i)) sd (Mn.pur i : m Int) := em_c fun _ => .int i
theorem em_str {i : Str} : EvM K (tC (.str i)) sd (Mn.pur i : m Str) := em_c fun _ => .str i
theorem em_bl {i : Bool} : EvM K (tC (.bl i)) sd (Mn.pur i : m Bool) := em_c fun _ => .bl i
theorem em_non : EvM K (tC .non) sd (Mn.pur () : m Unit) := em_c fun _ => .non
/-- the same data by another type -/
theorem em_as [Enc α] [Enc β] {x : m α} (f : α → β) (hf : ∀ a, enc a = enc (f a)) (h : EvM K te sd x) : EvM K te sd (Mn.bnd x fun a => Mn.pur (f a)) := fun F σ B H k R b k' e Q q => by
  obtain ⟨a, k1, e1, e2⟩ := bnd_some e
  obtain ⟨rfl, rfl⟩ := pur_some e2
  exact h F σ B H k R a k' e1 Q fun v B' H' R' g r => q v B' H' R' g (by rw [← hf]; exact r)
/-- a fresh list as data -/
theorem em_ofF [Enc α] {x : m (List α)} (h : EvF K te sd x) : EvM K te sd x := fun F σ B H k R a k' e Q q =>
  h F σ B H k R a k' e Q fun p vs B' H' R' g f hp r => q (.ref p) _ H' (R'.freeze f hp) (g.trans (Gr.new f.b)) (.lst upd_same (r.gr (Gr.new f.b)))

/-! ### operators -/
def OpM (K : PySem.W.Frag) [Enc α] [Enc β] [Enc γ] (r : R2) (a : α) (b : β) (z : m γ) : Prop := ∀ (F : Fr) (σ : L2.St) (B H : Hp) (sd : List SD) (k : Int), Rel K F σ B H sd k → ∀ va vb, Rp K B va (enc a) → Rp K B vb (enc b) →
  ∀ (c : γ) (k' : Int), Mn.run z k = some (c, k') → ∀ Q : VK, (∀ v B' H', Rel K F σ B' H' sd k' → Gr B B' → Rp K B' v (enc c) → Q v H') → r va vb H Q
theorem em_op [Enc α] [Enc β] [Enc γ] {r : R2} {x : m α} {y : m β} {f : α → β → m γ} (ha : EvM K ta sd x) (hb : EvM K tb sd y) (hr : ∀ a b, OpM K r a b (f a b)) :
    EvM K (tOp r ta tb) sd (Mn.bnd x fun a => Mn.bnd y fun b => f a b) := fun F σ B H k R c k' e Q q => by
  obtain ⟨a, k1, e1, e⟩ := bnd_some e
  obtain ⟨b, k2, e2, e3⟩ := bnd_some e
  refine ha F σ B H k R a k1 e1 _ fun va B1 H1 R1 g1 r1 => ?_
  refine hb F σ B1 H1 k1 R1 b k2 e2 _ fun vb B2 H2 R2 g2 r2 => ?_
  exact hr a b F σ B2 H2 sd k2 R2 va vb (r1.gr g2) r2 c k' e3 Q fun v B' H' R' g r => q v B' H' R' ((g1.trans g2).trans g) r
theorem om_I0 {g : Int → Int → Int} {a b : Int} : OpM K (rI0 fun i j => .int (g i j)) a b (Mn.pur (g a b) : m Int) := fun F σ B H sd k R va vb ra rb c k' e Q q => by
  obtain ⟨rfl, rfl⟩ := pur_some e
  exact ⟨a, b, Rp.int_inv ra, Rp.int_inv rb, q _ B H R (Gr.refl B) (.int _)⟩
theorem om_B0 {g : Int → Int → Bool} {a b : Int} : OpM K (rI0 fun i j => .bl (g i j)) a b (Mn.pur (g a b) : m Bool) := fun F σ B H sd k R va vb ra rb c k' e Q q => by
  obtain ⟨rfl, rfl⟩ := pur_some e
  exact ⟨a, b, Rp.int_inv ra, Rp.int_inv rb, q _ B H R (Gr.refl B) (.bl _)⟩
theorem om_I {C : Int → Int → Prop} {g : Int → Int → Int} {a b : Int} {P : Prop} [Decidable P] (hp : P → C a b) : OpM K (rI C fun i j => .int (g i j)) a b (gd P (Mn.pur (g a b)) : m Int) := fun F σ B H sd k R va vb ra rb c k' e Q q => by
  obtain ⟨hc, e⟩ := gd_some e
  obtain ⟨rfl, rfl⟩ := pur_some e
  exact ⟨a, b, Rp.int_inv ra, Rp.int_inv rb, hp hc, q _ B H R (Gr.refl B) (.int _)⟩
/-- two factors that a product takes -/
def MulOk (i j : Int) : Prop := ((-(2 ^ 64) < i ∧ i < 2 ^ 64) ∨ (-(2 ^ 64) < j ∧ j < 2 ^ 64)) ∨ i.natAbs.log2 + j.natAbs.log2 < 1000000
instance (i j : Int) : Decidable (MulOk i j) := by unfold MulOk; exact inferInstance
def DivOk (j : Int) : Prop := 0 < j ∧ j.natAbs.log2 < 9000
instance (j : Int) : Decidable (DivOk j) := by unfold DivOk; exact inferInstance
def rMul : R2 := rI MulOk fun i j => .int (i * j)
theorem op_mulU {X : Cx} : OpR X (binaryOp .Mult) rMul := fun pins s σ H x y v u Q I rx ry h => by
  obtain ⟨i, j, rfl, rfl, hc, q⟩ := h
  rcases hc with hc | hc
  · exact op_mul pins s σ H _ _ v u Q I rx ry ⟨i, j, rfl, rfl, hc, q⟩
  · exact op_mulW pins s σ H _ _ v u Q I rx ry ⟨i, j, rfl, rfl, hc, q⟩
theorem om_mul {a b : Int} : OpM K rMul a b (gd (MulOk a b) (Mn.pur (a * b)) : m Int) := om_I id
theorem om_fdiv {a b : Int} : OpM K (rI CDivW fun i j => .int (i / j)) a b (gd (DivOk b) (Mn.pur (a / b)) : m Int) := om_I id
theorem om_mod {a b : Int} : OpM K (rI (fun _ j => 0 < j) fun i j => .int (i % j)) a b (gd (0 < b) (Mn.pur (a % b)) : m Int) := om_I id
theorem om_catS {a b : Str} : OpM K (fun x y H Q => ∃ i j, x = .str i ∧ y = .str j ∧ i.length + j.length ≤ sizeLine ∧ Q (.str (i ++ j)) H) a b (gd (a.length + b.length ≤ sizeLine) (Mn.pur (a ++ b)) : m Str) := fun F σ B H sd k R va vb ra rb c k' e Q q => by
  obtain ⟨hc, e⟩ := gd_some e
  obtain ⟨rfl, rfl⟩ := pur_some e
  exact ⟨a, b, Rp.str_inv ra, Rp.str_inv rb, hc, q _ B H R (Gr.refl B) (.str _)⟩
theorem om_eqI {a b : Int} : OpM K rEq a b (Mn.pur (decide (a = b)) : m Bool) := fun F σ B H sd k R va vb ra rb c k' e Q q => by
  obtain ⟨rfl, rfl⟩ := pur_some e
  rw [Rp.int_inv ra, Rp.int_inv rb]
  refine ⟨rfl, ?_⟩
  have z : decide (V.int a = V.int b) = decide (a = b) := by
    by_cases c : a = b
    · subst c; simp
    · rw [decide_eq_false c, decide_eq_false (fun h => c (V.int.inj h))]
  rw [z]
  exact q _ B H R (Gr.refl B) (.bl _)
theorem om_neI {a b : Int} : OpM K rNe a b (Mn.pur (!decide (a = b)) : m Bool) := fun F σ B H sd k R va vb ra rb c k' e Q q => by
  obtain ⟨rfl, rfl⟩ := pur_some e
  rw [Rp.int_inv ra, Rp.int_inv rb]
  refine ⟨rfl, ?_⟩
  have z : decide (V.int a = V.int b) = decide (a = b) := by
    by_cases c : a = b
    · subst c; simp
    · rw [decide_eq_false c, decide_eq_false (fun h => c (V.int.inj h))]
  rw [z]
  exact q _ B H R (Gr.refl B) (.bl _)
theorem om_eqS {a b : Str} : OpM K rEq a b (Mn.pur (decide (a = b)) : m Bool) := fun F σ B H sd k R va vb ra rb c k' e Q q => by
  obtain ⟨rfl, rfl⟩ := pur_some e
  rw [Rp.str_inv ra, Rp.str_inv rb]
  refine ⟨rfl, ?_⟩
  have z : decide (V.str a = V.str b) = decide (a = b) := by
    by_cases c : a = b
    · subst c; simp
    · rw [decide_eq_false c, decide_eq_false (fun h => c (V.str.inj h))]
  rw [z]
  exact q _ B H R (Gr.refl B) (.bl _)
theorem om_neS {a b : Str} : OpM K rNe a b (Mn.pur (!decide (a = b)) : m Bool) := fun F σ B H sd k R va vb ra rb c k' e Q q => by
  obtain ⟨rfl, rfl⟩ := pur_some e
  rw [Rp.str_inv ra, Rp.str_inv rb]
  refine ⟨rfl, ?_⟩
  have z : decide (V.str a = V.str b) = decide (a = b) := by
    by_cases c : a = b
    · subst c; simp
    · rw [decide_eq_false c, decide_eq_false (fun h => c (V.str.inj h))]
  rw [z]
  exact q _ B H R (Gr.refl B) (.bl _)
/-- whether two data are told alike; both of a depth that can be looked at -/
def Shp (d : PyData) : Bool := SeqAt.shaped d && noD d
theorem om_eqD [Enc α] [Enc β] {a : α} {b : β} : OpM K (rEqD K) a b (gd (Shp (enc a) = true ∧ Shp (enc b) = true) (Mn.pur (PyData.eqv (enc a) (enc b))) : m Bool) := fun F σ B H sd k R va vb ra rb c k' e Q q => by
  obtain ⟨hc, e⟩ := gd_some e
  obtain ⟨rfl, rfl⟩ := pur_some e
  exact ⟨_, _, (ra.gr R.bh).dp (Bool.and_eq_true_iff.mp hc.1).2, (rb.gr R.bh).dp (Bool.and_eq_true_iff.mp hc.2).2, (Bool.and_eq_true_iff.mp hc.1).1, (Bool.and_eq_true_iff.mp hc.2).1, q _ B H R (Gr.refl B) (.bl _)⟩
theorem om_neD [Enc α] [Enc β] {a : α} {b : β} : OpM K (rNeD K) a b (gd (Shp (enc a) = true ∧ Shp (enc b) = true) (Mn.pur (!PyData.eqv (enc a) (enc b))) : m Bool) := fun F σ B H sd k R va vb ra rb c k' e Q q => by
  obtain ⟨hc, e⟩ := gd_some e
  obtain ⟨rfl, rfl⟩ := pur_some e
  exact ⟨_, _, (ra.gr R.bh).dp (Bool.and_eq_true_iff.mp hc.1).2, (rb.gr R.bh).dp (Bool.and_eq_true_iff.mp hc.2).2, (Bool.and_eq_true_iff.mp hc.1).1, (Bool.and_eq_true_iff.mp hc.2).1, q _ B H R (Gr.refl B) (.bl _)⟩
theorem em_neg {x : m Int} (ha : EvM K ta sd x) : EvM K (tUn (rU fun i => .int (-i)) ta) sd (Mn.bnd x fun a => Mn.pur (-a)) := fun F σ B H k R c k' e Q q => by
  obtain ⟨a, k1, e1, e⟩ := bnd_some e
  obtain ⟨rfl, rfl⟩ := pur_some e
  exact ha F σ B H k R a k' e1 _ fun va B1 H1 R1 g1 r1 => ⟨a, Rp.int_inv r1, q _ B1 H1 R1 g1 (.int _)⟩

/-! ### items -/
theorem atI_rps {xs : List V} {ds : List PyData} {B : Hp} (r : Rps K B xs ds) {i : Int} {d : PyData} (h : atI ds i = some d) : ∃ v, atI xs i = some v ∧ Rp K B v d := by
  unfold atI at h ⊢
  rw [r.len]
  cases e : ixN ds.length i with
  | none => rw [e] at h; cases h
  | some j => rw [e] at h; exact r.get h
theorem atI_map {β : Type} (f : α → β) (xs : List α) (i : Int) : atI (xs.map f) i = (atI xs i).map f := by
  unfold atI
  rw [List.length_map]
  cases ixN xs.length i with
  | none => rfl
  | some j => exact List.getElem?_map
theorem om_ixL [Enc α] {a : List α} {i : Int} : OpM K (rIxL K) a i (lift (atI a i) : m α) := fun F σ B H sd k R va vb ra rb c k' e Q q => by
  obtain ⟨hc, rfl⟩ := lift_some e
  obtain ⟨p, xs, rfl, hp, hs⟩ := Rp.lst_inv ra
  have h2 : atI (a.map enc) i = some (enc c) := by rw [atI_map, hc] <;> rfl
  obtain ⟨v, hv, rv⟩ := atI_rps hs h2
  exact ⟨p, xs, i, v, rfl, Rp.int_inv rb, SqL.of (R.bh _ _ hp), hv, q v B H R (Gr.refl B) rv⟩
theorem om_ixT [Enc α] {a : Tl α} {i : Int} : OpM K (rIxT K) a i (lift (atI a.l i) : m α) := fun F σ B H sd k R va vb ra rb c k' e Q q => by
  obtain ⟨hc, rfl⟩ := lift_some e
  obtain ⟨p, xs, rfl, hp, hs⟩ := Rp.tup_inv ra
  have h2 : atI (a.l.map enc) i = some (enc c) := by rw [atI_map, hc] <;> rfl
  obtain ⟨v, hv, rv⟩ := atI_rps hs h2
  exact ⟨p, xs, i, v, rfl, Rp.int_inv rb, R.bh.sqT hp, hv, q v B H R (Gr.refl B) rv⟩
def sgn (c : Nat) : Str := ⟨#[c]⟩
theorem om_ixS {a : Str} {i : Int} : OpM K rIxS a i (gd (a.length ≤ sizeLine) (Mn.bnd (lift (atI a.cps.toList i)) fun c => Mn.pur (sgn c)) : m Str) := fun F σ B H sd k R va vb ra rb c k' e Q q => by
  obtain ⟨hg, e⟩ := gd_some e
  obtain ⟨d, k1, e1, e2⟩ := bnd_some e
  obtain ⟨hc, rfl⟩ := lift_some e1
  obtain ⟨rfl, rfl⟩ := pur_some e2
  exact ⟨a, i, d, Rp.str_inv ra, Rp.int_inv rb, hg, hc, q _ B H R (Gr.refl B) (.str _)⟩

/-! ### tests, truth -/
theorem eb_B {x : m Bool} (h : EvM K te sd x) : EvB K (tB te) sd x := fun F σ B H k R b k' e Q q =>
  h F σ B H k R b k' e _ fun v B' H' R' g r => ⟨b, Rp.bl_inv r, q B' H' R' g⟩
theorem eb_T {x : m Bool} (h : EvM K te sd x) : EvB K (tTest te) sd x := fun F σ B H k R b k' e Q q =>
  h F σ B H k R b k' e _ fun v B' H' R' g r => ⟨b, Rp.bl_inv r, q B' H' R' g⟩
def cnd {ω : Type} (b : Bool) (x y : ω) : ω := match b with
  | true => x
  | false => y
variable {t u : TT}
theorem eb_and {x y : m Bool} (h1 : EvB K t sd x) (h2 : EvB K u sd y) : EvB K (tAnd t u) sd (Mn.bnd x fun a => cnd a y (Mn.pur false)) := fun F σ B H k R b k' e Q q => by
  obtain ⟨a, k1, e1, e⟩ := bnd_some e
  refine h1 F σ B H k R a k1 e1 _ fun B1 H1 R1 g1 => ?_
  cases a with
  | true => exact h2 F σ B1 H1 k1 R1 b k' e Q fun B' H' R' g => q B' H' R' (g1.trans g)
  | false => obtain ⟨rfl, rfl⟩ := pur_some e; exact q B1 H1 R1 g1
theorem eb_or {x y : m Bool} (h1 : EvB K t sd x) (h2 : EvB K u sd y) : EvB K (tOr t u) sd (Mn.bnd x fun a => cnd a (Mn.pur true) y) := fun F σ B H k R b k' e Q q => by
  obtain ⟨a, k1, e1, e⟩ := bnd_some e
  refine h1 F σ B H k R a k1 e1 _ fun B1 H1 R1 g1 => ?_
  cases a with
  | false => exact h2 F σ B1 H1 k1 R1 b k' e Q fun B' H' R' g => q B' H' R' (g1.trans g)
  | true => obtain ⟨rfl, rfl⟩ := pur_some e; exact q B1 H1 R1 g1
theorem eb_not {x : m Bool} (h1 : EvB K t sd x) : EvB K (tNot t) sd (Mn.bnd x fun a => Mn.pur (!a)) := fun F σ B H k R b k' e Q q => by
  obtain ⟨a, k1, e1, e2⟩ := bnd_some e
  obtain ⟨rfl, rfl⟩ := pur_some e2
  exact h1 F σ B H k R a _ e1 _ fun B1 H1 R1 g1 => q B1 H1 R1 g1
theorem em_and {x y : m Bool} (h1 : EvM K ta sd x) (h2 : EvM K tb sd y) : EvM K (tAndV ta tb) sd (Mn.bnd x fun a => cnd a y (Mn.pur false)) := fun F σ B H k R b k' e Q q => by
  obtain ⟨a, k1, e1, e⟩ := bnd_some e
  refine h1 F σ B H k R a k1 e1 _ fun v B1 H1 R1 g1 r1 => ⟨a, Rp.bl_inv r1, ?_⟩
  cases a with
  | true => exact h2 F σ B1 H1 k1 R1 b k' e Q fun v B' H' R' g => q v B' H' R' (g1.trans g)
  | false => obtain ⟨rfl, rfl⟩ := pur_some e; exact q _ B1 H1 R1 g1 (.bl _)
theorem em_or {x y : m Bool} (h1 : EvM K ta sd x) (h2 : EvM K tb sd y) : EvM K (tOrV ta tb) sd (Mn.bnd x fun a => cnd a (Mn.pur true) y) := fun F σ B H k R b k' e Q q => by
  obtain ⟨a, k1, e1, e⟩ := bnd_some e
  refine h1 F σ B H k R a k1 e1 _ fun v B1 H1 R1 g1 r1 => ⟨a, Rp.bl_inv r1, ?_⟩
  cases a with
  | false => exact h2 F σ B1 H1 k1 R1 b k' e Q fun v B' H' R' g => q v B' H' R' (g1.trans g)
  | true => obtain ⟨rfl, rfl⟩ := pur_some e; exact q _ B1 H1 R1 g1 (.bl _)
theorem em_not {x : m Bool} (h1 : EvM K ta sd x) : EvM K (tNotV ta) sd (Mn.bnd x fun a => Mn.pur (!a)) := fun F σ B H k R b k' e Q q => by
  obtain ⟨a, k1, e1, e2⟩ := bnd_some e
  obtain ⟨rfl, rfl⟩ := pur_some e2
  exact h1 F σ B H k R a _ e1 _ fun v B1 H1 R1 g1 r1 => ⟨a, Rp.bl_inv r1, q _ B1 H1 R1 g1 (.bl _)⟩
theorem em_if [Enc α] {x : m Bool} {y z : m α} (h : EvB K t sd x) (h1 : EvM K ta sd y) (h2 : EvM K tb sd z) : EvM K (tIf t ta tb) sd (Mn.bnd x fun b => cnd b y z) := fun F σ B H k R c k' e Q q => by
  obtain ⟨b, k1, e1, e⟩ := bnd_some e
  refine h F σ B H k R b k1 e1 _ fun B1 H1 R1 g1 => ?_
  cases b with
  | true => exact h1 F σ B1 H1 k1 R1 c k' e Q fun v B' H' R' g r => q v B' H' R' (g1.trans g) r
  | false => exact h2 F σ B1 H1 k1 R1 c k' e Q fun v B' H' R' g r => q v B' H' R' (g1.trans g) r

/-! ### arguments, displays -/
theorem ea_nil : EvA K tNil sd (Mn.pur () : m Unit) (fun _ => []) := fun F σ B H k R b k' e Q q => by
  obtain ⟨rfl, rfl⟩ := pur_some e
  exact q [] B H R (Gr.refl B) .nil
theorem ea_cons [Enc α] {tr : TA} {x : m α} {y : m β} {g : β → List PyData} (h : EvM K te sd x) (hr : EvA K tr sd y g) : EvA K (tCons te tr) sd (Mn.bnd x fun a => Mn.bnd y fun b => Mn.pur (a, b)) (fun p => enc p.1 :: g p.2) := fun F σ B H k R c k' e Q q => by
  obtain ⟨a, k1, e1, e⟩ := bnd_some e
  obtain ⟨b, k2, e2, e⟩ := bnd_some e
  obtain ⟨rfl, rfl⟩ := pur_some e
  refine h F σ B H k R a k1 e1 _ fun v B1 H1 R1 g1 r1 => ?_
  exact hr F σ B1 H1 k1 R1 b _ e2 _ fun vs B2 H2 R2 g2 r2 => q (v :: vs) B2 H2 R2 (g1.trans g2) (.cons (r1.gr g2) r2)
/-- the arguments' values, told by another function of them -/
theorem ea_map {tr : TA} {y : m β} {g : β → List PyData} {z : m γ} {g' : γ → List PyData} (h : EvA K tr sd y g) (hz : ∀ k c k', Mn.run z k = some (c, k') → ∃ b, Mn.run y k = some (b, k') ∧ g b = g' c) : EvA K tr sd z g' := fun F σ B H k R c k' e Q q => by
  obtain ⟨b, e1, e2⟩ := hz k c k' e
  exact h F σ B H k R b k' e1 Q fun vs B' H' R' g r => q vs B' H' R' g (e2 ▸ r)
theorem ea_1 [Enc α] {x : m α} (h : EvM K te sd x) : EvA K (tCons te tNil) sd x (fun a => [enc a]) := fun F σ B H k R c k' e Q q =>
  h F σ B H k R c k' e _ fun v B1 H1 R1 g1 r1 => q [v] B1 H1 R1 g1 (.cons r1 .nil)
variable {t1 t2 t3 t4 t5 t6 : TE}
theorem ea_2 [Enc α] [Enc β] {x : m α} {y : m β} (h1 : EvM K t1 sd x) (h2 : EvM K t2 sd y) : EvA K (tCons t1 (tCons t2 tNil)) sd (Mn.bnd x fun a => Mn.bnd y fun b => Mn.pur (a, b)) (fun p => [enc p.1, enc p.2]) :=
  ea_cons h1 (ea_1 h2)
/-- a tuple of written length, as a value of a type of its own -/
theorem em_tup {tr : TA} [Enc β] {y : m β} {g : β → List PyData} (h : EvA K tr sd y g) (hg : ∀ b, enc b = .tuple (g b)) (hl : ∀ b, (g b).length ≤ 1000) : EvM K (tTup tr) sd y := fun F σ B H k R c k' e Q q =>
  h F σ B H k R c k' e _ fun vs B1 H1 R1 g1 r1 => ⟨by rw [r1.len]; exact Nat.le_trans (hl c) (by decide), fun p hp => by
    obtain ⟨R2, g2⟩ := R1.data (o := .tup vs) hp
    exact q (.ref p) _ _ R2 (g1.trans g2) (by rw [hg]; exact .tup (.inl (.inl upd_same)) (r1.gr g2))⟩
theorem em_tup2 [Enc α] [Enc β] {x : m α} {y : m β} (h1 : EvM K t1 sd x) (h2 : EvM K t2 sd y) : EvM K (tTup (tCons t1 (tCons t2 tNil))) sd (Mn.bnd x fun a => Mn.bnd y fun b => Mn.pur (a, b)) :=
  em_tup (ea_2 h1 h2) (fun _ => rfl) fun _ => (by decide : 2 ≤ 1000)
theorem ef_lst [Enc α] {tr : TA} {y : m (List α)} (h : EvA K tr sd y (fun xs => xs.map enc)) : EvF K (tLst tr) sd (Mn.bnd y fun xs => gd (xs.length ≤ 1000) (Mn.pur xs)) := fun F σ B H k R c k' e Q q => by
  obtain ⟨xs, k1, e1, e⟩ := bnd_some e
  obtain ⟨hl, e⟩ := gd_some e
  obtain ⟨rfl, rfl⟩ := pur_some e
  refine h F σ B H k R c _ e1 _ fun vs B1 H1 R1 g1 r1 => ⟨?_, fun p hp => ?_⟩
  · rw [r1.len, List.length_map]; exact Nat.le_trans hl (by decide)
  · exact q p vs B1 _ (R1.alloc hp) g1 (R1.free hp) upd_same r1
theorem el_nil [Enc α] : EvA K tNil sd (Mn.pur [] : m (List α)) (fun xs => xs.map enc) := fun F σ B H k R b k' e Q q => by
  obtain ⟨rfl, rfl⟩ := pur_some e
  exact q [] B H R (Gr.refl B) .nil
theorem el_cons [Enc α] {tr : TA} {x : m α} {y : m (List α)} (h : EvM K te sd x) (hr : EvA K tr sd y (fun xs => xs.map enc)) : EvA K (tCons te tr) sd (Mn.bnd x fun a => Mn.bnd y fun b => Mn.pur (a :: b)) (fun xs => xs.map enc) := fun F σ B H k R c k' e Q q => by
  obtain ⟨a, k1, e1, e⟩ := bnd_some e
  obtain ⟨b, k2, e2, e⟩ := bnd_some e
  obtain ⟨rfl, rfl⟩ := pur_some e
  refine h F σ B H k R a k1 e1 _ fun v B1 H1 R1 g1 r1 => ?_
  exact hr F σ B1 H1 k1 R1 b _ e2 _ fun vs B2 H2 R2 g2 r2 => q (v :: vs) B2 H2 R2 (g1.trans g2) (.cons (r1.gr g2) r2)

/-! ### calls -/
/-- a def that hands back data and leaves what stands -/
def spP (K : PySem.W.Frag) (n : Nat) (pre : List PyData → PyData → Prop) : Sp := fun vs H Q _ => ∃ (B : Hp) (ds : List PyData) (r : PyData), pre ds r ∧ vs.length = n ∧ Gr B H ∧ Rps K B vs ds ∧
  ∀ v B' H', Gr B B' → Gr B' H' → Gr H H' → (∀ a o, B' a = some o → B a = none → H a = none) → Rp K B' v r → Q v H'
/-- one that draws from the state, its first argument -/
def spS (K : PySem.W.Frag) (n : Nat) (pre : List Int → Option (List Str) → List PyData → Int → PyData → Int → Prop) : Sp := fun vs H Q _ => ∃ (B : Hp) (a : Addr) (ws : List V) (c : List Int) (ns : Option (List Str)) (ds : List PyData) (k : Int) (r : PyData) (k' : Int),
  vs = .ref a :: ws ∧ pre c ns ds k r k' ∧ vs.length = n ∧ Gr B H ∧ StAt K B H a c ns k ∧ Rps K B ws ds ∧
  ∀ v B' H', Gr B B' → Gr B' H' → (∀ b o, b ≠ a → H b = some o → H' b = some o) → StAt K B' H' a c ns k' → (∀ b o, B' b = some o → B b = none → H b = none) → Rp K B' v r → Q v H'
theorem Rel.called {F : Fr} {σ : L2.St} {B H B' H' : Hp} {k : Int} (R : Rel K F σ B H sd k) (g1 : Gr B B') (g2 : Gr B' H') (g3 : Gr H H') (hn : ∀ a o, B' a = some o → B a = none → H a = none) : Rel K F σ B' H' sd k where
  len := R.len
  bh := g2
  b0 := R.b0.trans g1
  bn := fun a o e e0 => by
    cases h : B a with
    | some u => exact R.bn a u h e0
    | none =>
      have z := hn a o e h
      exact (R.free z).h0
  fr := fun a o e s => g3 a o (R.fr a o e s)
  ex := fun p hp => ⟨g3 _ _ (R.ex p hp).1, by
    cases h : B' p.1 with
    | none => rfl
    | some u =>
      have z := hn _ _ h (R.ex p hp).2
      rw [(R.ex p hp).1] at z; cases z⟩
  sl := fun i d e => by
    obtain ⟨x, ex, y⟩ := R.sl i d e
    refine ⟨x, ex, ?_⟩
    cases d with
    | un => trivial
    | dat d => obtain ⟨v, e1, r⟩ := y; exact ⟨v, e1, r.gr g1⟩
    | lst ds =>
      obtain ⟨a, vs, e1, h0, hx, hb, hh, r⟩ := y
      refine ⟨a, vs, e1, h0, hx, ?_, g3 _ _ hh, r.gr g1⟩
      cases h : B' a with
      | none => rfl
      | some u => have z := hn _ _ h hb; rw [hh] at z; cases z
    | sr c n => exact y
  ap := R.ap
  st := fun s e => by
    obtain ⟨h1, h3⟩ := R.st s e
    have hb : B' s.1 = none := by
      cases h : B' s.1 with
      | none => rfl
      | some u =>
        obtain ⟨hb, c, nv, hh, _⟩ := h1
        have z := hn _ _ h hb; rw [hh] at z; cases z
    obtain ⟨h4, c, nv, hh, hq⟩ := h1.gr g1 hb
    exact ⟨⟨h4, c, nv, g3 _ _ hh, hq⟩, h3⟩
  sx := R.sx
theorem Rel.drew {F : Fr} {σ : L2.St} {B H B' H' : Hp} {k k' : Int} {a : Addr} {c : List Int} {n : Option (List Str)} (R : Rel K F σ B H sd k) (hs : F.sa = some (a, c, n)) (g1 : Gr B B') (g2 : Gr B' H') (g3 : ∀ b o, b ≠ a → H b = some o → H' b = some o) (hS : StAt K B' H' a c n k')
    (hn : ∀ a o, B' a = some o → B a = none → H a = none) : Rel K F σ B' H' sd k' where
  len := R.len
  bh := g2
  b0 := R.b0.trans g1
  bn := fun a o e e0 => by
    cases h : B a with
    | some u => exact R.bn a u h e0
    | none =>
      have z := hn a o e h
      exact (R.free z).h0
  fr := fun b o e s => g3 b o (fun z => s _ hs z.symm) (R.fr b o e s)
  ex := fun p hp => ⟨g3 _ _ ((R.st _ hs).2 p hp) (R.ex p hp).1, by
    cases h : B' p.1 with
    | none => rfl
    | some u =>
      have z := hn _ _ h (R.ex p hp).2
      rw [(R.ex p hp).1] at z; cases z⟩
  sl := fun i d e => by
    obtain ⟨x, ex, y⟩ := R.sl i d e
    refine ⟨x, ex, ?_⟩
    cases d with
    | un => trivial
    | dat d => obtain ⟨v, e1, r⟩ := y; exact ⟨v, e1, r.gr g1⟩
    | lst ds =>
      obtain ⟨p, vs, e1, h0, hx, hb, hh, r⟩ := y
      refine ⟨p, vs, e1, h0, hx, ?_, g3 _ _ (fun z => R.sx i _ p _ e rfl (by rw [ex, e1]) hs z.symm) hh, r.gr g1⟩
      cases h : B' p with
      | none => rfl
      | some u => have z := hn _ _ h hb; rw [hh] at z; cases z
    | sr c n => exact y
  ap := R.ap
  st := fun s e => by
    rw [hs] at e; cases e
    exact ⟨hS, (R.st _ hs).2⟩
  sx := R.sx
/-- the call of a pure def: what its mirror says -/
theorem em_call {tr : TA} [Enc γ] {n : Nat} {pre : List PyData → PyData → Prop} {E : XK} {y : m β} {g : β → List PyData} {f : β → Option γ} (h : EvA K tr sd y g) (hn : ∀ b, (g b).length = n) (hp : ∀ b r, f b = some r → pre (g b) (enc r)) :
    EvM K (tCall (spP K n pre) [] E tr) sd (Mn.bnd y fun b => lift (f b)) := fun F σ B H k R c k' e Q q => by
  obtain ⟨b, k1, e1, e⟩ := bnd_some e
  obtain ⟨hf, rfl⟩ := lift_some e
  refine h F σ B H k R b _ e1 _ fun vs B1 H1 R1 g1 r1 => ?_
  refine ⟨B1, g b, enc c, hp b c hf, ?_, R1.bh, ?_, fun v B' H' g2 g3 g4 hn r => q v B' H' (R1.called g2 g3 g4 hn) (g1.trans g2) r⟩
  · rw [List.append_nil, r1.len, hn]
  · rw [List.append_nil]; exact r1
/-- the call of a def that draws: the state stands in slot i -/
theorem em_draw {tr : TA} [Enc γ] {n i : Nat} {pre : List Int → Option (List Str) → List PyData → Int → PyData → Int → Prop} {E : XK} {c : List Int} {ns : Option (List Str)} {y : Sm β} {g : β → List PyData} {f : β → Sm γ} (hi : sd[i]? = some (.sr c ns)) (h : EvA K tr sd y g)
    (hn : ∀ b, (g b).length + 1 = n) (hp : ∀ b k r k', f b k = some (r, k') → pre c ns (g b) k (enc r) k') : EvM K (tCall (spS K n pre) [] E (tCons (tVar i) tr)) sd (Mn.bnd y f) := fun F σ B H k R z k' e Q q => by
  obtain ⟨b, k1, e1, e⟩ := bnd_some e
  obtain ⟨o, ho, a, rfl, hs⟩ := R.sl i _ hi
  refine ⟨_, ho, ?_⟩
  refine h F σ B H k R b _ e1 _ fun vs B1 H1 R1 g1 r1 => ?_
  obtain ⟨hS, hx⟩ := R1.st _ hs
  refine ⟨B1, a, vs, c, ns, g b, k1, enc z, k', by rw [List.append_nil], hp b k1 z k' e, ?_, R1.bh, hS, r1, fun v B' H' g2 g3 g4 hS' hn' r => q v B' H' (R1.drew hs g2 g3 g4 hS' hn') (g1.trans g2) r⟩
  rw [List.append_nil, List.length_cons, r1.len, hn]
end
end OL

set_option Elab.async false
set_option linter.all false
set_option maxRecDepth 100000
set_option maxHeartbeats 2000000
namespace OL
open PySem L2
section
variable {K : PySem.W.Frag} {m : Type → Type} [Mn m] {α β γ δ τ τ' l ρ : Type} {sd : List SD} {ta tb te : TE}

/-! ### what is walked -/
def Src (K : PySem.W.Frag) [Enc α] (J : It) (B1 : Hp) (xs : List α) : Prop :=
  (∀ i B H, Gr B1 B → Gr B H → i < xs.length → J.go i H) ∧ (∀ i B H, Gr B1 B → Gr B H → xs.length = i → J.stop i H) ∧
  (∀ i B H x H' a, Gr B1 B → Gr B H → J.yld i H x H' → xs[i]? = some a → ∃ B', (∀ F σ sd k, Rel K F σ B H sd k → Rel K F σ B' H' sd k) ∧ Gr B B' ∧ Gr H H' ∧ (∀ p, H' p = none → H p = none) ∧ (∀ p o, H p = some o → B p = none → B' p = none) ∧ Rp K B' x (enc a))
def EvI (K : PySem.W.Frag) [Enc α] (wi : TI) (sd : List SD) (x : m (List α)) : Prop := ∀ (F : Fr) (σ : L2.St) (B H : Hp) (k : Int), Rel K F σ B H sd k → ∀ (xs : List α) (k' : Int), Mn.run x k = some (xs, k') →
  ∀ R : It → Hp → Prop, (∀ J B' H', Rel K F σ B' H' sd k' → Gr B B' → Src K J B' xs → R J H') → wi σ H R
theorem src_list [Enc α] {p : Addr} {vs : List V} {xs : List α} {B : Hp} (h : SqL K B p vs) (r : Rps K B vs (xs.map enc)) : Src K (Itl K p) B xs := by
  have hl : vs.length = xs.length := by rw [r.len, List.length_map]
  refine ⟨fun i C H g g2 hi => ?_, fun i C H g g2 hi => ⟨vs, (g.trans g2).sqL h, by omega⟩, fun i C H x H' a g g2 y hi => ?_⟩
  · obtain ⟨v, hv⟩ : ∃ v, vs[i]? = some v := ⟨vs[i], List.getElem?_eq_getElem (by omega)⟩
    exact ⟨vs, v, (g.trans g2).sqL h, hv⟩
  · obtain ⟨rfl, y⟩ := y
    have hx := y vs ((g.trans g2).sqL h)
    obtain ⟨v, hv, rv⟩ := r.get (i := i) (d := enc a) (by rw [List.getElem?_map, hi] <;> rfl)
    rw [hx] at hv; cases hv
    exact ⟨C, fun _ _ _ _ R => R, Gr.refl C, Gr.refl _, fun _ q => q, fun _ _ _ q => q, rv.gr g⟩
theorem src_tup [Enc α] {p : Addr} {vs : List V} {xs : List α} {B : Hp} (h : SqT K B p vs) (r : Rps K B vs (xs.map enc)) : Src K (Itt K p) B xs := by
  have hl : vs.length = xs.length := by rw [r.len, List.length_map]
  refine ⟨fun i C H g g2 hi => ?_, fun i C H g g2 hi => ⟨vs, (g.trans g2).sqT h, by omega⟩, fun i C H x H' a g g2 y hi => ?_⟩
  · obtain ⟨v, hv⟩ : ∃ v, vs[i]? = some v := ⟨vs[i], List.getElem?_eq_getElem (by omega)⟩
    exact ⟨vs, v, (g.trans g2).sqT h, hv⟩
  · obtain ⟨rfl, y⟩ := y
    have hx := y vs ((g.trans g2).sqT h)
    obtain ⟨v, hv, rv⟩ := r.get (i := i) (d := enc a) (by rw [List.getElem?_map, hi] <;> rfl)
    rw [hx] at hv; cases hv
    exact ⟨C, fun _ _ _ _ R => R, Gr.refl C, Gr.refl _, fun _ q => q, fun _ _ _ q => q, rv.gr g⟩
theorem src_zip [Enc α] [Enc β] {p q : Addr} {vs ws : List V} {xs : List α} {ys : List β} {B : Hp} (h : SqL K B p vs) (r : Rps K B vs (xs.map enc)) (h2 : SqL K B q ws) (r2 : Rps K B ws (ys.map enc)) : Src K (Itz K p q) B (xs.zip ys) := by
  have hl : vs.length = xs.length := by rw [r.len, List.length_map]
  have hl2 : ws.length = ys.length := by rw [r2.len, List.length_map]
  have hz : (xs.zip ys).length = min xs.length ys.length := List.length_zip
  refine ⟨fun i C H g g2 hi => ?_, fun i C H g g2 hi => ⟨vs, ws, (g.trans g2).sqL h, (g.trans g2).sqL h2, by omega⟩, fun i C H x H' a g g2 y hi => ?_⟩
  · exact ⟨vs, ws, vs[i]'(by omega), ws[i]'(by omega), (g.trans g2).sqL h, (g.trans g2).sqL h2, List.getElem?_eq_getElem (by omega), List.getElem?_eq_getElem (by omega)⟩
  · obtain ⟨T, y1, y2, rfl, nT, rfl, f1, f2⟩ := y
    have hx := f1 vs ((g.trans g2).sqL h)
    have hy := f2 ws ((g.trans g2).sqL h2)
    obtain ⟨a, b⟩ := a
    obtain ⟨ha, hb⟩ := List.getElem?_zip_eq_some.mp hi
    obtain ⟨v, hv, rv⟩ := r.get (i := i) (d := enc a) (by rw [List.getElem?_map, ha] <;> rfl)
    obtain ⟨w, hw, rw'⟩ := r2.get (i := i) (d := enc b) (by rw [List.getElem?_map, hb] <;> rfl)
    rw [hx] at hv; cases hv
    rw [hy] at hw; cases hw
    have gT : Gr C (upd C T (.tup [y1, y2])) := Gr.new (g2.back nT)
    refine ⟨upd C T (.tup [y1, y2]), fun F σ sd k R => (R.data nT).1, gT, Gr.new nT, fun p e => ?_, fun p o e eb => ?_, ?_⟩
    · by_cases c : p = T
      · subst c; exact nT
      · rw [upd_ne c] at e; exact e
    · rw [upd_ne (ne_of_none e nT)]; exact eb
    · exact .tup (.inl (.inl upd_same)) (.cons ((rv.gr g).gr gT) (.cons ((rw'.gr g).gr gT) .nil))
theorem src_zipT [Enc α] [Enc β] {p q : Addr} {vs ws : List V} {xs : List α} {ys : List β} {B : Hp} (h : SqT K B p vs) (r : Rps K B vs (xs.map enc)) (h2 : SqT K B q ws) (r2 : Rps K B ws (ys.map enc)) : Src K (RZ.ItzT K p q) B (xs.zip ys) := by
  have hl : vs.length = xs.length := by rw [r.len, List.length_map]
  have hl2 : ws.length = ys.length := by rw [r2.len, List.length_map]
  have hz : (xs.zip ys).length = min xs.length ys.length := List.length_zip
  refine ⟨fun i C H g g2 hi => ?_, fun i C H g g2 hi => ⟨vs, ws, (g.trans g2).sqT h, (g.trans g2).sqT h2, by omega⟩, fun i C H x H' a g g2 y hi => ?_⟩
  · exact ⟨vs, ws, vs[i]'(by omega), ws[i]'(by omega), (g.trans g2).sqT h, (g.trans g2).sqT h2, List.getElem?_eq_getElem (by omega), List.getElem?_eq_getElem (by omega)⟩
  · obtain ⟨T, y1, y2, rfl, nT, rfl, f1, f2⟩ := y
    have hx := f1 vs ((g.trans g2).sqT h)
    have hy := f2 ws ((g.trans g2).sqT h2)
    obtain ⟨a, b⟩ := a
    obtain ⟨ha, hb⟩ := List.getElem?_zip_eq_some.mp hi
    obtain ⟨v, hv, rv⟩ := r.get (i := i) (d := enc a) (by rw [List.getElem?_map, ha] <;> rfl)
    obtain ⟨w, hw, rw'⟩ := r2.get (i := i) (d := enc b) (by rw [List.getElem?_map, hb] <;> rfl)
    rw [hx] at hv; cases hv
    rw [hy] at hw; cases hw
    have gT : Gr C (upd C T (.tup [y1, y2])) := Gr.new (g2.back nT)
    refine ⟨upd C T (.tup [y1, y2]), fun F σ sd k R => (R.data nT).1, gT, Gr.new nT, fun p e => ?_, fun p o e eb => ?_, ?_⟩
    · by_cases c : p = T
      · subst c; exact nT
      · rw [upd_ne c] at e; exact e
    · rw [upd_ne (ne_of_none e nT)]; exact eb
    · exact .tup (.inl (.inl upd_same)) (.cons ((rv.gr g).gr gT) (.cons ((rw'.gr g).gr gT) .nil))
def upTo (lo : Int) (n : Nat) (c : Int) : List Int := (List.range n).map fun i => lo + (i : Nat) * c
theorem upTo_get {lo c a : Int} {n i : Nat} (h : (upTo lo n c)[i]? = some a) : i < n ∧ a = lo + (i : Nat) * c := by
  unfold upTo at h
  rw [List.getElem?_map] at h
  by_cases hi : i < n
  · rw [List.getElem?_range hi] at h; exact ⟨hi, (Option.some.inj h).symm⟩
  · rw [List.getElem?_eq_none (by rw [List.length_range]; omega)] at h; cases h
theorem upTo_len (lo c : Int) (n : Nat) : (upTo lo n c).length = n := by unfold upTo; rw [List.length_map, List.length_range]
theorem src_rng {lo : Int} {n : Nat} {B : Hp} : Src K (Itr lo n) B (upTo lo n 1) := by
  refine ⟨fun i C H g g2 hi => by rw [upTo_len] at hi; exact hi, fun i C H g g2 hi => by rw [upTo_len] at hi; exact Nat.le_of_eq hi, fun i C H x H' a g g2 y hi => ?_⟩
  obtain ⟨rfl, rfl⟩ := y
  obtain ⟨_, rfl⟩ := upTo_get hi
  rw [Int.mul_one]
  exact ⟨C, fun _ _ _ _ R => R, Gr.refl C, Gr.refl _, fun _ q => q, fun _ _ _ q => q, .int _⟩
theorem src_rngC {lo c : Int} {n : Nat} {B : Hp} : Src K (Itc lo c n) B (upTo lo n c) := by
  refine ⟨fun i C H g g2 hi => by rw [upTo_len] at hi; exact hi, fun i C H g g2 hi => by rw [upTo_len] at hi; exact Nat.le_of_eq hi, fun i C H x H' a g g2 y hi => ?_⟩
  obtain ⟨rfl, rfl⟩ := y
  obtain ⟨_, rfl⟩ := upTo_get hi
  exact ⟨C, fun _ _ _ _ R => R, Gr.refl C, Gr.refl _, fun _ q => q, fun _ _ _ q => q, .int _⟩
theorem src_str {x : Str} {B : Hp} : Src K (Its x) B (x.cps.toList.map sgn) := by
  have hl : (x.cps.toList.map sgn).length = x.cps.size := by simp
  refine ⟨fun i C H g g2 hi => by rw [hl] at hi; exact hi, fun i C H g g2 hi => by rw [hl] at hi; exact Nat.le_of_eq hi, fun i C H v H' a g g2 y hi => ?_⟩
  obtain ⟨rfl, c, hc, rfl⟩ := y
  rw [List.getElem?_map, Array.getElem?_toList, hc] at hi
  cases hi
  exact ⟨C, fun _ _ _ _ R => R, Gr.refl C, Gr.refl _, fun _ q => q, fun _ _ _ q => q, .str _⟩
theorem src_enum [Enc α] {p : Addr} {vs : List V} {xs : List α} {B : Hp} (h : SqL K B p vs) (r : Rps K B vs (xs.map enc)) : Src K (Ite K p) B ((upTo 0 xs.length 1).zip xs) := by
  have hl : vs.length = xs.length := by rw [r.len, List.length_map]
  have hz : ((upTo 0 xs.length 1).zip xs).length = xs.length := by rw [List.length_zip, upTo_len, Nat.min_self]
  refine ⟨fun i C H g g2 hi => ?_, fun i C H g g2 hi => ⟨vs, (g.trans g2).sqL h, by omega⟩, fun i C H x H' a g g2 y hi => ?_⟩
  · exact ⟨vs, vs[i]'(by omega), (g.trans g2).sqL h, List.getElem?_eq_getElem (by omega)⟩
  · obtain ⟨T, y1, rfl, nT, rfl, f1⟩ := y
    have hx := f1 vs ((g.trans g2).sqL h)
    obtain ⟨a, b⟩ := a
    obtain ⟨ha, hb⟩ := List.getElem?_zip_eq_some.mp hi
    obtain ⟨_, rfl⟩ := upTo_get ha
    obtain ⟨w, hw, rw'⟩ := r.get (i := i) (d := enc b) (by rw [List.getElem?_map, hb] <;> rfl)
    rw [hx] at hw; cases hw
    have gT : Gr C (upd C T (.tup [.int (i : Nat), y1])) := Gr.new (g2.back nT)
    refine ⟨upd C T (.tup [.int (i : Nat), y1]), fun F σ sd k R => (R.data nT).1, gT, Gr.new nT, fun p e => ?_, fun p o e eb => ?_, ?_⟩
    · by_cases c : p = T
      · subst c; exact nT
      · rw [upd_ne c] at e; exact e
    · rw [upd_ne (ne_of_none e nT)]; exact eb
    · refine .tup (.inl (.inl upd_same)) (.cons ?_ (.cons ((rw'.gr g).gr gT) .nil))
      have e : (0 : Int) + (i : Nat) * 1 = (i : Nat) := by omega
      show Rp K _ _ (.int _)
      rw [e]; exact .int _
theorem ei_list [Enc α] {x : m (List α)} (h : EvM K te sd x) : EvI K (iList K te) sd x := fun F σ B H k R xs k' e Q q =>
  h F σ B H k R xs k' e _ fun v B1 H1 R1 g1 r1 => by
    obtain ⟨p, vs, rfl, hp, hs⟩ := Rp.lst_inv r1
    exact ⟨p, rfl, ⟨vs, SqL.of (R1.bh _ _ hp)⟩, q _ B1 H1 R1 g1 (src_list (SqL.of hp) hs)⟩
theorem ei_tup [Enc α] {x : m (Tl α)} (h : EvM K te sd x) : EvI K (iTup K te) sd (Mn.bnd x fun t => Mn.pur t.l) := fun F σ B H k R xs k' e Q q => by
  obtain ⟨t, k1, e1, e2⟩ := bnd_some e
  obtain ⟨rfl, rfl⟩ := pur_some e2
  refine h F σ B H k R t _ e1 _ fun v B1 H1 R1 g1 r1 => ?_
  obtain ⟨p, vs, rfl, hp, hs⟩ := Rp.tup_inv r1
  exact ⟨p, rfl, ⟨vs, R1.bh.sqT hp⟩, q _ B1 H1 R1 g1 (src_tup hp hs)⟩
/-- an owned list that the loop leaves as it is: not served; freeze it first. A range -/
theorem ei_rng1 {tr : TA} {x : m Int} (h : EvA K tr sd x (fun a => [enc a])) : EvI K (iRng1 tr) sd (Mn.bnd x fun n => gd (-(2 ^ 62) ≤ n ∧ n < 2 ^ 62) (Mn.pur (upTo 0 n.toNat 1))) := fun F σ B H k R xs k' e Q q => by
  obtain ⟨n, k1, e1, e2⟩ := bnd_some e
  obtain ⟨hg, e3⟩ := gd_some e2
  obtain ⟨rfl, rfl⟩ := pur_some e3
  refine h F σ B H k R n _ e1 _ fun vs B1 H1 R1 g1 r1 => ?_
  cases r1 with | cons h hs => cases hs; exact ⟨n, by rw [Rp.int_inv h], hg.1, hg.2, q _ B1 H1 R1 g1 src_rng⟩
theorem ei_rng2 {tr : TA} {x : m (Int × Int)} (h : EvA K tr sd x (fun a => [enc a.1, enc a.2])) : EvI K (iRng2 tr) sd (Mn.bnd x fun n => gd (-(2 ^ 62) ≤ n.1 ∧ n.1 < 2 ^ 62 ∧ -(2 ^ 62) ≤ n.2 ∧ n.2 < 2 ^ 62) (Mn.pur (upTo n.1 (n.2 - n.1).toNat 1))) := fun F σ B H k R xs k' e Q q => by
  obtain ⟨n, k1, e1, e2⟩ := bnd_some e
  obtain ⟨hg, e3⟩ := gd_some e2
  obtain ⟨rfl, rfl⟩ := pur_some e3
  refine h F σ B H k R n _ e1 _ fun vs B1 H1 R1 g1 r1 => ?_
  cases r1 with | cons h hs => cases hs with | cons h2 hs => cases hs; exact ⟨n.1, n.2, by rw [Rp.int_inv h, Rp.int_inv h2], hg, q _ B1 H1 R1 g1 src_rng⟩
/-- zip of two lists, of two tuples -/
theorem ei_zipL [Enc α] [Enc β] {tr : TA} {x : m (List α × List β)} (h : EvA K tr sd x (fun a => [enc a.1, enc a.2])) : EvI K (RZ.iZipA K tr) sd (Mn.bnd x fun p => Mn.pur (p.1.zip p.2)) := fun F σ B H k R xs k' e Q q => by
  obtain ⟨n, k1, e1, e2⟩ := bnd_some e
  obtain ⟨rfl, rfl⟩ := pur_some e2
  refine h F σ B H k R n _ e1 _ fun vs B1 H1 R1 g1 r1 => ?_
  cases r1 with | cons h hs => cases hs with | cons h2 hs =>
    cases hs
    obtain ⟨p, vs, rfl, hp, hs⟩ := Rp.lst_inv h
    obtain ⟨p2, vs2, rfl, hp2, hs2⟩ := Rp.lst_inv h2
    exact ⟨p, p2, vs, vs2, rfl, .inl ⟨SqL.of (R1.bh _ _ hp), SqL.of (R1.bh _ _ hp2), q _ B1 H1 R1 g1 (src_zip (SqL.of hp) hs (SqL.of hp2) hs2)⟩⟩
theorem ei_zipT [Enc α] [Enc β] {tr : TA} {x : m (Tl α × Tl β)} (h : EvA K tr sd x (fun a => [enc a.1, enc a.2])) : EvI K (RZ.iZipA K tr) sd (Mn.bnd x fun p => Mn.pur (p.1.l.zip p.2.l)) := fun F σ B H k R xs k' e Q q => by
  obtain ⟨n, k1, e1, e2⟩ := bnd_some e
  obtain ⟨rfl, rfl⟩ := pur_some e2
  refine h F σ B H k R n _ e1 _ fun vs B1 H1 R1 g1 r1 => ?_
  cases r1 with | cons h hs => cases hs with | cons h2 hs =>
    cases hs
    obtain ⟨p, vs, rfl, hp, hs⟩ := Rp.tup_inv h
    obtain ⟨p2, vs2, rfl, hp2, hs2⟩ := Rp.tup_inv h2
    exact ⟨p, p2, vs, vs2, rfl, .inr ⟨R1.bh.sqT hp, R1.bh.sqT hp2, q _ B1 H1 R1 g1 (src_zipT hp hs hp2 hs2)⟩⟩
theorem ei_str {x : m Str} (h : EvM K te sd x) : EvI K (iStr te) sd (Mn.bnd x fun s => Mn.pur (s.cps.toList.map sgn)) := fun F σ B H k R xs k' e Q q => by
  obtain ⟨n, k1, e1, e2⟩ := bnd_some e
  obtain ⟨rfl, rfl⟩ := pur_some e2
  exact h F σ B H k R n _ e1 _ fun v B1 H1 R1 g1 r1 => ⟨n, Rp.str_inv r1, q _ B1 H1 R1 g1 src_str⟩

/-! ### targets -/
def EvG (K : PySem.W.Frag) [Enc α] (g : TG) (sd : List SD) (a : α) (sd' : List SD) (is : List Nat) : Prop := ∀ (F : Fr) (σ : L2.St) (B H : Hp) (k : Int) (v : V), Rel K F σ B H sd k → Rp K B v (enc a) → ∀ Q : L2.St → Hp → Prop,
  (∀ σ', Rel K F σ' B H sd' k → (∀ vs, (∀ i ∈ is, i ∈ vs) → wipe σ' vs = wipe σ vs) → Q σ' H) → g v σ H Q
theorem wipe_get (σ : L2.St) (vs : List Nat) (j : Nat) : (wipe σ vs)[j]? = if j ∈ vs then (σ[j]?).map fun _ => none else σ[j]? := by
  induction vs with
  | nil => rfl
  | cons v vs ih =>
    unfold wipe
    rw [List.getElem?_set]
    by_cases c : v = j
    · subst c
      rw [if_pos rfl, if_pos List.mem_cons_self, wipe_length]
      by_cases l : v < σ.length
      · rw [if_pos l, List.getElem?_eq_getElem l]; rfl
      · rw [if_neg l, List.getElem?_eq_none (by omega)]; rfl
    · rw [if_neg c, ih]
      have e : (j ∈ v :: vs) = (j ∈ vs) := by
        rw [List.mem_cons]; exact propext ⟨fun h => h.resolve_left fun z => c z.symm, .inr⟩
      simp only [e]
theorem wipe_set {σ : L2.St} {vs : List Nat} {i : Nat} {x : Option V} (h : i ∈ vs) : wipe (σ.set i x) vs = wipe σ vs := by
  refine List.ext_getElem? fun j => ?_
  rw [wipe_get, wipe_get]
  by_cases c : j ∈ vs
  · rw [if_pos c, if_pos c, List.getElem?_set]
    by_cases e : i = j
    · subst e
      rw [if_pos rfl]
      by_cases l : i < σ.length
      · rw [if_pos l, List.getElem?_eq_getElem l]; rfl
      · rw [if_neg l, List.getElem?_eq_none (by omega)]
    · rw [if_neg e]
  · rw [if_neg c, if_neg c, List.getElem?_set_ne (show i ≠ j from fun e => c (by rw [← e]; exact h))]
theorem wipe_wipe (σ : L2.St) (vs : List Nat) : wipe (wipe σ vs) vs = wipe σ vs := by
  refine List.ext_getElem? fun j => ?_
  rw [wipe_get, wipe_get]
  by_cases c : j ∈ vs
  · rw [if_pos c, if_pos c]
    cases σ[j]? <;> rfl
  · rw [if_neg c, if_neg c]
theorem eg_name [Enc α] {i : Nat} {a : α} : EvG K (gName i) sd a (sd.set i (.dat (enc a))) [i] := fun F σ B H k v R r Q q =>
  q _ (R.setDat r) fun vs h => wipe_set (h i (.head _))
theorem eg_pair [Enc α] [Enc β] {i j : Nat} {p : α × β} : EvG K (gTup K 2 (gCons (gName i) (gCons (gName j) gNil))) sd p ((sd.set i (.dat (enc p.1))).set j (.dat (enc p.2))) [i, j] := fun F σ B H k v R r Q q => by
  obtain ⟨a, xs, rfl, hp, hs⟩ := Rp.tup_inv r
  cases hs with | cons h1 hs => cases hs with | cons h2 hs =>
    cases hs
    refine ⟨a, _, rfl, R.bh.sqT hp, rfl, _, _, rfl, _, _, rfl, rfl, ?_⟩
    refine q _ ((R.setDat h1).setDat h2) fun vs h => ?_
    rw [wipe_set (h j (.tail _ (.head _))), wipe_set (h i (.head _))]

/-! ### comprehensions -/
def wipeS (sd : List SD) : List Nat → List SD
  | [] => sd
  | v :: vs => (wipeS sd vs).set v .un
theorem Rel.un1 {F : Fr} {σ : L2.St} {B H : Hp} {k : Int} (R : Rel K F σ B H sd k) (i : Nat) : Rel K F (σ.set i none) B H (sd.set i .un) k := by
  have get : ∀ (j : Nat) (d : SD), (sd.set i .un)[j]? = some d → d = .un ∧ j = i ∧ i < sd.length ∨ i ≠ j ∧ sd[j]? = some d := fun j d h => by
    by_cases c : i = j
    · subst c
      have hl : i < sd.length := by
        have z := (List.getElem?_eq_some_iff.mp h).1; rw [List.length_set] at z; exact z
      rw [List.getElem?_set_self hl] at h; cases h; exact .inl ⟨rfl, rfl, hl⟩
    · rw [List.getElem?_set_ne c] at h; exact .inr ⟨c, h⟩
  refine ⟨by rw [List.length_set, List.length_set]; exact R.len, R.bh, R.b0, R.bn, R.fr, R.ex, fun j d h => ?_, fun a b d e p ne h1 h2 w1 w2 s1 s2 => ?_, R.st, fun j d a s h w s1 => ?_⟩
  · rcases get j d h with ⟨rfl, rfl, hl⟩ | ⟨c, h⟩
    · exact ⟨none, List.getElem?_set_self (by rw [← R.len]; exact hl), trivial⟩
    · rw [List.getElem?_set_ne c]; exact R.sl j d h
  · rcases get a d h1 with ⟨rfl, _⟩ | ⟨c1, h1⟩
    · cases w1
    · rcases get b e h2 with ⟨rfl, _⟩ | ⟨c2, h2⟩
      · cases w2
      · rw [List.getElem?_set_ne c1] at s1; rw [List.getElem?_set_ne c2] at s2
        exact R.ap a b d e p ne h1 h2 w1 w2 s1 s2
  · rcases get j d h with ⟨rfl, _⟩ | ⟨c1, h⟩
    · cases w
    · rw [List.getElem?_set_ne c1] at s1
      exact R.sx j d a s h w s1
theorem Rel.wiped {F : Fr} {σ : L2.St} {B H : Hp} {k : Int} (R : Rel K F σ B H sd k) : ∀ vs : List Nat, Rel K F (wipe σ vs) B H (wipeS sd vs) k
  | [] => R
  | v :: vs => (Rel.wiped R vs).un1 v
/-- a fresh list set apart, and taken back -/
theorem Rel.apart {F : Fr} {σ : L2.St} {B H : Hp} {k : Int} {p : Addr} {o : HO} (R : Rel K F σ B H sd k) (f : Fresh F σ B sd p) (h : H p = some o) : Rel K { F with ex := (p, o) :: F.ex } σ B H sd k where
  len := R.len
  bh := R.bh
  b0 := R.b0
  bn := R.bn
  fr := R.fr
  ex := fun q hq => by
    rcases List.mem_cons.mp hq with rfl | hq
    · exact ⟨h, f.b⟩
    · exact R.ex q hq
  sl := fun i d e => by
    obtain ⟨x, ex, y⟩ := R.sl i d e
    refine ⟨x, ex, ?_⟩
    cases d with
    | un => trivial
    | dat d => exact y
    | lst ds =>
      obtain ⟨a, vs, e1, h0, hx, hb, hh, r⟩ := y
      refine ⟨a, vs, e1, h0, fun q hq => ?_, hb, hh, r⟩
      rcases List.mem_cons.mp hq with rfl | hq
      · exact fun z => f.un i _ e rfl (by rw [ex, e1, ← show p = a from z])
      · exact hx q hq
    | sr c n => exact y
  ap := R.ap
  st := fun s e => ⟨(R.st s e).1, fun q hq => by
    rcases List.mem_cons.mp hq with rfl | hq
    · exact fun z => f.sa s e z.symm
    · exact (R.st s e).2 q hq⟩
  sx := R.sx
theorem Rel.back {F : Fr} {σ : L2.St} {B H : Hp} {k : Int} {p : Addr} {o : HO} (R : Rel K { F with ex := (p, o) :: F.ex } σ B H sd k) : Rel K F σ B H sd k where
  len := R.len
  bh := R.bh
  b0 := R.b0
  bn := R.bn
  fr := R.fr
  ex := fun q hq => R.ex q (.tail _ hq)
  sl := fun i d e => by
    obtain ⟨x, ex, y⟩ := R.sl i d e
    refine ⟨x, ex, ?_⟩
    cases d with
    | un => trivial
    | dat d => exact y
    | lst ds =>
      obtain ⟨a, vs, e1, h0, hx, hb, hh, r⟩ := y
      exact ⟨a, vs, e1, h0, fun q hq => hx q (.tail _ hq), hb, hh, r⟩
    | sr c n => exact y
  ap := R.ap
  st := fun s e => ⟨(R.st s e).1, fun q hq => (R.st s e).2 q (.tail _ hq)⟩
  sx := R.sx
theorem wipeS_get (sd : List SD) (vs : List Nat) (j : Nat) : (wipeS sd vs)[j]? = if j ∈ vs then (sd[j]?).map fun _ => .un else sd[j]? := by
  induction vs with
  | nil => rfl
  | cons v vs ih =>
    have hl : (wipeS sd vs).length = sd.length := by
      clear ih
      induction vs with
      | nil => rfl
      | cons v vs ih => unfold wipeS; rw [List.length_set, ih]
    unfold wipeS
    rw [List.getElem?_set]
    by_cases c : v = j
    · subst c
      rw [if_pos rfl, if_pos List.mem_cons_self, hl]
      by_cases l : v < sd.length
      · rw [if_pos l, List.getElem?_eq_getElem l]; rfl
      · rw [if_neg l, List.getElem?_eq_none (by omega)]; rfl
    · rw [if_neg c, ih]
      have e : (j ∈ v :: vs) = (j ∈ vs) := by
        rw [List.mem_cons]; exact propext ⟨fun h => h.resolve_left fun z => c z.symm, .inr⟩
      simp only [e]
def noLst (sd : List SD) (vs : List Nat) : Prop := ∀ i ∈ vs, ∀ d, sd[i]? = some d → d.own = false
theorem Rel.unwipe {F : Fr} {σ : L2.St} {B H B' H' : Hp} {k k' : Int} {vs : List Nat} (R' : Rel K F (wipe σ vs) B' H' (wipeS sd vs) k') (R : Rel K F σ B H sd k) (g : Gr B B') (hv : noLst sd vs) : Rel K F σ B' H' sd k' where
  len := R.len
  bh := R'.bh
  b0 := R'.b0
  bn := R'.bn
  fr := R'.fr
  ex := R'.ex
  sl := fun i d e => by
    by_cases c : i ∈ vs
    · obtain ⟨x, ex, y⟩ := R.sl i d e
      refine ⟨x, ex, ?_⟩
      cases d with
      | un => trivial
      | dat d => obtain ⟨v, e1, r⟩ := y; exact ⟨v, e1, r.gr g⟩
      | lst ds => have z := hv i c _ e; cases z
      | sr c n => exact y
    · have z := R'.sl i d (by rw [wipeS_get, if_neg c]; exact e)
      rw [wipe_get, if_neg c] at z
      exact z
  ap := fun i j d e a ne h1 h2 w1 w2 s1 s2 => by
    have c1 : i ∉ vs := fun c => by have z := hv i c d h1; rw [w1] at z; cases z
    have c2 : j ∉ vs := fun c => by have z := hv j c e h2; rw [w2] at z; cases z
    exact R.ap i j d e a ne h1 h2 w1 w2 s1 s2
  st := R'.st
  sx := R.sx
theorem ef_lc [Enc α] [Enc β] {wi : TI} {g : TG} {tt : TT} {vs is : List Nat} {x : m (List α)} {p : α → m Bool} {f : α → m β} {sd1 : α → List SD} (hi : EvI K wi sd x) (hg : ∀ a, EvG K g (wipeS sd vs) a (sd1 a) is) (his : ∀ i ∈ is, i ∈ vs)
    (ht : ∀ a, EvB K tt (sd1 a) (p a)) (he : ∀ a, EvM K te (sd1 a) (f a)) (hle : ∀ a, Le (sd1 a) (wipeS sd vs)) (hv : noLst sd vs) : EvF K (tLc wi g tt te vs) sd (Mn.bnd x fun xs => gd (xs.length ≤ 100000) (compL p f xs)) := fun F σ B H k R out k' e Q q => by
  obtain ⟨xs, k1, e1, e2⟩ := bnd_some e
  obtain ⟨hlen, e3⟩ := gd_some e2
  refine hi F σ B H k R xs k1 e1 _ fun J B1 H1 R1 g1 S => ?_
  intro D hD
  have fD := R1.free hD
  have wl : ∀ σ', wipe σ' vs = wipe σ vs → Rel K F σ' B1 H1 (wipeS sd vs) k1 → True := fun _ _ _ => trivial
  refine ⟨fun i n H' => n = xs.length - i ∧ i ≤ xs.length ∧ ∃ B' k2 acc vacc rest, Rel K F (wipe σ vs) B' H' (wipeS sd vs) k2 ∧ Gr B1 B' ∧ B' D = none ∧ H' D = some (.lst vacc) ∧ Rps K B' vacc (acc.map enc) ∧ acc.length ≤ i ∧
    Mn.run (compL p f (xs.drop i)) k2 = some (rest, k') ∧ acc ++ rest = out, ⟨xs.length, by simp, Nat.zero_le _, B1, k1, [], [], out, ?_, Gr.refl B1, fD.b, upd_same, .nil, Nat.le_refl _, by rw [List.drop_zero]; exact e3, rfl⟩, ?_⟩
  · exact (R1.heap fD).wiped vs
  rintro i n H2 ⟨rfl, hi2, B2, k2, acc, vacc, rest, R2, g2, nD, hD2, ra, hl, hrun, happ⟩
  have fD2 : Fresh F (wipe σ vs) B2 (wipeS sd vs) D := ⟨fD.h0, fD.ex, nD, fun j d hj w z => by
    rw [wipeS_get] at hj
    rw [wipe_get] at z
    by_cases c : j ∈ vs
    · rw [if_pos c] at hj
      cases hs : sd[j]? with
      | none => rw [hs] at hj; cases hj
      | some y => rw [hs] at hj; cases hj; cases w
    · rw [if_neg c] at hj z
      exact fD.un j d hj w z, fD.sa⟩
  by_cases c : i < xs.length
  · right
    have hx : xs[i]? = some xs[i] := List.getElem?_eq_getElem c
    have hdrop : xs.drop i = xs[i] :: xs.drop (i + 1) := List.drop_eq_getElem_cons c
    refine ⟨S.1 i B2 H2 g2 R2.bh c, fun H' => ∃ n', n' < xs.length - i ∧ (n' = xs.length - (i + 1) ∧ i + 1 ≤ xs.length ∧ ∃ B' k2 acc vacc rest, Rel K F (wipe σ vs) B' H' (wipeS sd vs) k2 ∧ Gr B1 B' ∧ B' D = none ∧ H' D = some (.lst vacc) ∧ Rps K B' vacc (acc.map enc) ∧ acc.length ≤ i + 1 ∧
      Mn.run (compL p f (xs.drop (i + 1))) k2 = some (rest, k') ∧ acc ++ rest = out), fun H' h => h, fun v H3 y => ?_⟩
    obtain ⟨B3, rel3, g3, gh3, _, nb3, rv⟩ := S.2.2 i B2 H2 v H3 xs[i] g2 R2.bh y hx
    have R3 := rel3 F (wipe σ vs) (wipeS sd vs) k2 R2
    have hD3 : H3 D = some (.lst vacc) := gh3 _ _ hD2
    have nD3 : B3 D = none := nb3 D _ hD2 nD
    have R3a := R3.apart (p := D) (fD2.more nD3) hD3
    refine hg xs[i] _ (wipe σ vs) B3 H3 k2 v R3a rv _ fun σ2 R4 hw => ⟨?_, ?_⟩
    · rw [hw vs his, wipe_wipe]
    · rw [hdrop, compL_cons] at hrun
      obtain ⟨b, k3, e4, e5⟩ := bnd_some hrun
      refine ht xs[i] _ σ2 B3 H3 k2 R4 b k3 e4 _ fun B5 H5 R5 g5 => ?_
      have back : ∀ {B6 H6 k6}, Rel K { F with ex := (D, .lst vacc) :: F.ex } σ2 B6 H6 (sd1 xs[i]) k6 → Rel K { F with ex := (D, .lst vacc) :: F.ex } (wipe σ vs) B6 H6 (wipeS sd vs) k6 := fun {B6 H6 k6} R6 => by
        have z := (R6.le (hle xs[i])).wiped vs
        have w1 : wipe σ2 vs = wipe σ vs := by rw [hw vs his, wipe_wipe]
        have w2 : wipeS (wipeS sd vs) vs = wipeS sd vs := by
          refine List.ext_getElem? fun j => ?_
          rw [wipeS_get, wipeS_get]
          by_cases c : j ∈ vs
          · rw [if_pos c, if_pos c]; cases sd[j]? <;> rfl
          · rw [if_neg c, if_neg c]
        rw [w1, w2] at z
        exact z
      cases b with
      | false =>
        rw [if_neg Bool.false_ne_true]
        have R6 := back R5
        refine ⟨_, by omega, rfl, c, B5, k3, acc, vacc, rest, R6.back, (g2.trans g3).trans g5, (R6.ex _ (.head _)).2, (R6.ex _ (.head _)).1, (ra.gr g3).gr g5, by omega, e5, happ⟩
      | true =>
        rw [if_pos rfl]
        obtain ⟨y1, k4, e6, e7⟩ := bnd_some e5
        obtain ⟨ys, k5, e8, e9⟩ := bnd_some e7
        obtain ⟨rfl, rfl⟩ := pur_some e9
        refine he xs[i] _ σ2 B5 H5 k3 R5 y1 k4 e6 _ fun w B6 H6 R6 g6 r6 => ?_
        have R7 := back R6
        have hb6 := R7.ex _ (.head _)
        have hlen2 : vacc.length = acc.length := by rw [ra.len, List.length_map]
        have sl1 : 100000 < sizeLine := by decide
        have fD7 : Fresh F (wipe σ vs) B6 (wipeS sd vs) D := fD2.more hb6.2
        refine ⟨vacc, hb6.1, by omega, _, by omega, rfl, c, B6, k4, acc ++ [y1], vacc ++ [w], ys, R7.back.heap fD7, ((g2.trans g3).trans g5).trans g6, hb6.2, upd_same, ?_, by rw [List.length_append]; simp; omega, e8, by rw [← happ, List.append_assoc]; rfl⟩
        rw [List.map_append]
        exact (((ra.gr g3).gr g5).gr g6).app (.cons r6 .nil)
  · left
    have ei : i = xs.length := by omega
    subst ei
    rw [List.drop_length, compL_nil] at hrun
    obtain ⟨rfl, rfl⟩ := pur_some hrun
    rw [List.append_nil] at happ
    subst happ
    refine ⟨S.2.1 _ B2 H2 g2 R2.bh rfl, q D vacc B2 H2 (R2.unwipe R1 g2 hv) (g1.trans g2) (fD.more nD) hD2 ra⟩
end
end OL

set_option Elab.async false
set_option linter.all false
set_option maxRecDepth 100000
set_option maxHeartbeats 2000000
namespace OL
open PySem L2
section
variable {K : PySem.W.Frag} {m : Type → Type} [Mn m] {α β γ δ τ τ' l l' ρ : Type} {sd : List SD} {ta tb te : TE} [Enc ρ] {post : τ → List SD} {postL : l → List SD} {ts tu tb' : TS} {tt : TT}

/-! ### statements -/
theorem es_next {t : τ} (h : Le sd (post t)) : EvS K (ρ := ρ) tNext sd post postL (Mn.pur (.nx t) : m (Fl τ l ρ)) := fun F σ B H k R f k' e D q => by
  obtain ⟨rfl, rfl⟩ := pur_some e
  exact q σ B H (R.le h) (Gr.refl B)
theorem es_break {t : l} (h : Le sd (postL t)) : EvS K (ρ := ρ) tBreak sd post postL (Mn.pur (.bk t) : m (Fl τ l ρ)) := fun F σ B H k R f k' e D q => by
  obtain ⟨rfl, rfl⟩ := pur_some e
  exact q σ B H (R.le h) (Gr.refl B)
theorem es_cont {t : l} (h : Le sd (postL t)) : EvS K (ρ := ρ) tCont sd post postL (Mn.pur (.ct t) : m (Fl τ l ρ)) := fun F σ B H k R f k' e D q => by
  obtain ⟨rfl, rfl⟩ := pur_some e
  exact q σ B H (R.le h) (Gr.refl B)
theorem es_ret {x : m ρ} (h : EvM K te sd x) : EvS K (tRet te) sd post postL (Mn.bnd x fun r => (Mn.pur (.rt r) : m (Fl τ l ρ))) := fun F σ B H k R f k' e D q => by
  obtain ⟨r, k1, e1, e2⟩ := bnd_some e
  obtain ⟨rfl, rfl⟩ := pur_some e2
  exact h F σ B H k R r _ e1 _ fun v B' H' R' g rr => q v σ B' H' sd R' g rr
/-- name = e, then the rest -/
theorem es_set [Enc α] {i : Nat} {x : m α} {f : α → m (Fl τ l ρ)} (h : EvM K te sd x) (hf : ∀ a, EvS K tu (sd.set i (.dat (enc a))) post postL (f a)) : EvS K (tSeq (tAsg te (gName i)) tu) sd post postL (Mn.bnd x f) := fun F σ B H k R r k' e D q => by
  obtain ⟨a, k1, e1, e2⟩ := bnd_some e
  exact h F σ B H k R a k1 e1 _ fun v B' H' R' g rv => hf a F _ B' H' k1 (R'.setDat rv) r k' e2 D (q.gr g)
theorem es_setF [Enc α] {i : Nat} {x : m (List α)} {f : List α → m (Fl τ l ρ)} (h : EvF K te sd x) (hf : ∀ a, EvS K tu (sd.set i (.lst (a.map enc))) post postL (f a)) : EvS K (tSeq (tAsg te (gName i)) tu) sd post postL (Mn.bnd x f) := fun F σ B H k R r k' e D q => by
  obtain ⟨a, k1, e1, e2⟩ := bnd_some e
  exact h F σ B H k R a k1 e1 _ fun p vs B' H' R' g fr hp rs => hf a F _ B' H' k1 (R'.setLst fr hp rs) r k' e2 D (q.gr g)
/-- the last statement of a block: name = e -/
theorem es_set1 [Enc α] {i : Nat} {x : m α} {f : α → τ} (h : EvM K te sd x) (hf : ∀ a, Le (sd.set i (.dat (enc a))) (post (f a))) : EvS K (tAsg te (gName i)) sd post postL (Mn.bnd x fun a => (Mn.pur (.nx (f a)) : m (Fl τ l ρ))) := fun F σ B H k R r k' e D q => by
  obtain ⟨a, k1, e1, e2⟩ := bnd_some e
  obtain ⟨rfl, rfl⟩ := pur_some e2
  exact h F σ B H k R a _ e1 _ fun v B' H' R' g rv => q _ B' H' ((R'.setDat rv).le (hf a)) g
theorem es_set1F [Enc α] {i : Nat} {x : m (List α)} {f : List α → τ} (h : EvF K te sd x) (hf : ∀ a, Le (sd.set i (.lst (a.map enc))) (post (f a))) : EvS K (tAsg te (gName i)) sd post postL (Mn.bnd x fun a => (Mn.pur (.nx (f a)) : m (Fl τ l ρ))) := fun F σ B H k R r k' e D q => by
  obtain ⟨a, k1, e1, e2⟩ := bnd_some e
  obtain ⟨rfl, rfl⟩ := pur_some e2
  exact h F σ B H k R a _ e1 _ fun p vs B' H' R' g fr hp rs => q _ B' H' ((R'.setLst fr hp rs).le (hf a)) g
/-- a target of any kind -/
theorem es_tgt [Enc α] {g : TG} {x : m α} {sd1 : α → List SD} {is : List Nat} {f : α → m (Fl τ l ρ)} (h : EvM K te sd x) (hg : ∀ a, EvG K g sd a (sd1 a) is) (hf : ∀ a, EvS K tu (sd1 a) post postL (f a)) : EvS K (tSeq (tAsg te g) tu) sd post postL (Mn.bnd x f) := fun F σ B H k R r k' e D q => by
  obtain ⟨a, k1, e1, e2⟩ := bnd_some e
  exact h F σ B H k R a k1 e1 _ fun v B' H' R' g' rv => hg a F σ B' H' k1 v R' rv _ fun σ' R2 _ => hf a F _ B' H' k1 R2 r k' e2 D (q.gr g')
/-- an expression alone -/
theorem es_drop [Enc α] {x : m α} {f : α → m (Fl τ l ρ)} (h : EvM K te sd x) (hf : ∀ a, EvS K tu sd post postL (f a)) : EvS K (tSeq (tDrop te) tu) sd post postL (Mn.bnd x f) := fun F σ B H k R r k' e D q => by
  obtain ⟨a, k1, e1, e2⟩ := bnd_some e
  exact h F σ B H k R a k1 e1 _ fun v B' H' R' g' rv => hf a F _ B' H' k1 R' r k' e2 D (q.gr g')
/-- an operator at a name -/
theorem es_aug [Enc α] [Enc β] [Enc γ] {i : Nat} {r : R2} {a : α} {y : m β} {z : β → m γ} {f : γ → m (Fl τ l ρ)} (hi : sd[i]? = some (.dat (enc a))) (h : EvM K te sd y) (hr : ∀ b, OpM K r a b (z b)) (hf : ∀ c, EvS K tu (sd.set i (.dat (enc c))) post postL (f c)) :
    EvS K (tSeq (tAug i te r) tu) sd post postL (Mn.bnd (Mn.bnd y z) f) := fun F σ B H k R rr k' e D q => by
  obtain ⟨c, k1, e1, e2⟩ := bnd_some e
  obtain ⟨b, k2, e3, e4⟩ := bnd_some e1
  obtain ⟨o, ho, v, rfl, ra⟩ := R.sl i _ hi
  refine ⟨v, ho, ?_⟩
  refine h F σ B H k R b k2 e3 _ fun w B1 H1 R1 g1 r1 => ?_
  exact hr b F σ B1 H1 sd k2 R1 v w (ra.gr g1) r1 c k1 e4 _ fun u B2 H2 R2 g2 r2 => hf c F _ B2 H2 k1 (R2.setDat r2) rr k' e2 D (q.gr (g1.trans g2))
theorem es_aug1 [Enc α] [Enc β] [Enc γ] {i : Nat} {r : R2} {a : α} {y : m β} {z : β → m γ} {f : γ → τ} (hi : sd[i]? = some (.dat (enc a))) (h : EvM K te sd y) (hr : ∀ b, OpM K r a b (z b)) (hf : ∀ c, Le (sd.set i (.dat (enc c))) (post (f c))) :
    EvS K (tAug i te r) sd post postL (Mn.bnd (Mn.bnd y z) fun c => (Mn.pur (.nx (f c)) : m (Fl τ l ρ))) := fun F σ B H k R rr k' e D q => by
  obtain ⟨c, k1, e1, e2⟩ := bnd_some e
  obtain ⟨rfl, rfl⟩ := pur_some e2
  obtain ⟨b, k2, e3, e4⟩ := bnd_some e1
  obtain ⟨o, ho, v, rfl, ra⟩ := R.sl i _ hi
  refine ⟨v, ho, ?_⟩
  refine h F σ B H k R b k2 e3 _ fun w B1 H1 R1 g1 r1 => ?_
  exact hr b F σ B1 H1 sd k2 R1 v w (ra.gr g1) r1 c _ e4 _ fun u B2 H2 R2 g2 r2 => q _ B2 H2 ((R2.setDat r2).le (hf c)) (g1.trans g2)
/-- if, at the end of a block -/
theorem es_if {x : m Bool} {y z : m (Fl τ l ρ)} (h : EvB K tt sd x) (h1 : EvS K ts sd post postL y) (h2 : EvS K tu sd post postL z) : EvS K (tIfS tt ts tu) sd post postL (Mn.bnd x fun b => cnd b y z) := fun F σ B H k R f k' e D q => by
  obtain ⟨b, k1, e1, e2⟩ := bnd_some e
  refine h F σ B H k R b k1 e1 _ fun B1 H1 R1 g1 => ?_
  cases b with
  | true => rw [if_pos rfl]; exact h1 F σ B1 H1 k1 R1 f k' e2 D (q.gr g1)
  | false => rw [if_neg Bool.false_ne_true]; exact h2 F σ B1 H1 k1 R1 f k' e2 D (q.gr g1)
/-- any statement, then the rest -/
theorem es_seq {mid : τ' → List SD} {x : m (Fl τ' l ρ)} {f : τ' → m (Fl τ l ρ)} (h : EvS K ts sd mid postL x) (hf : ∀ t, EvS K tu (mid t) post postL (f t)) : EvS K (tSeq ts tu) sd post postL (andThen x f) := fun F σ B H k R r k' e D q => by
  unfold andThen at e
  obtain ⟨a, k1, e1, e2⟩ := bnd_some e
  refine h F σ B H k R a k1 e1 _ ?_
  cases a with
  | nx t => exact fun σ' B' H' R' g => hf t F σ' B' H' k1 R' r k' e2 D (q.gr g)
  | bk t => obtain ⟨rfl, rfl⟩ := pur_some e2; exact q
  | ct t => obtain ⟨rfl, rfl⟩ := pur_some e2; exact q
  | rt t => obtain ⟨rfl, rfl⟩ := pur_some e2; exact q
/-- an owned list grows -/
theorem es_app [Enc α] {i : Nat} {xs : List α} {y : m α} {f : List α → m (Fl τ l ρ)} (hi : sd[i]? = some (.lst (xs.map enc))) (h : EvM K te sd y) (hf : ∀ a, EvS K tu (sd.set i (.lst ((xs ++ [a]).map enc))) post postL (f (xs ++ [a]))) :
    EvS K (tSeq (tDrop (tBM K "list" rAppend (tVar i) (tCons te tNil))) tu) sd post postL (Mn.bnd y fun a => gd (xs.length < 100000) (f (xs ++ [a]))) := fun F σ B H k R r k' e D q => by
  obtain ⟨a, k1, e1, e2⟩ := bnd_some e
  obtain ⟨hl, e3⟩ := gd_some e2
  obtain ⟨o, ho, p, vs, rfl, h0, hx, hb, hh, rs⟩ := R.sl i _ hi
  refine ⟨_, ho, .inl ⟨rfl, vs, SqL.of hh⟩, ?_⟩
  refine h F σ B H k R a k1 e1 _ fun v B1 H1 R1 g1 r1 => ?_
  obtain ⟨o1, ho1, p1, vs1, e5, h01, hx1, hb1, hh1, rs1⟩ := R1.sl i _ hi
  rw [ho] at ho1; cases ho1; cases e5
  have l1 : vs1.length = xs.length := by rw [rs1.len, List.length_map]
  refine ⟨p, vs1, v, rfl, rfl, hh1, Nat.lt_of_lt_of_le (by omega : vs1.length < 100000) (by decide), ?_⟩
  exact hf a F σ B1 _ k1 (R1.mutLst hi ho (vs := vs1 ++ [v]) (by rw [List.map_append]; exact rs1.app (.cons r1 .nil))) r k' e3 D (q.gr g1)
theorem es_app1 [Enc α] {i : Nat} {xs : List α} {y : m α} {f : List α → τ} (hi : sd[i]? = some (.lst (xs.map enc))) (h : EvM K te sd y) (hf : ∀ a, Le (sd.set i (.lst ((xs ++ [a]).map enc))) (post (f (xs ++ [a])))) :
    EvS K (tDrop (tBM K "list" rAppend (tVar i) (tCons te tNil))) sd post postL (Mn.bnd y fun a => gd (xs.length < 100000) (Mn.pur (.nx (f (xs ++ [a]))) : m (Fl τ l ρ))) := fun F σ B H k R r k' e D q => by
  have z := es_app (K := K) (m := m) (post := post) (postL := postL) (ρ := ρ) (tu := tNext) hi h (f := fun zs => (Mn.pur (.nx (f zs)) : m (Fl τ l ρ))) (fun a => es_next (hf a)) F σ B H k R r k' e D q
  exact z
/-- an owned list is data from here on -/
theorem es_frz {i : Nat} {ds : List PyData} {x : m (Fl τ l ρ)} (hi : sd[i]? = some (.lst ds)) (h : EvS K ts (sd.set i (.dat (.list ds))) post postL x) : EvS K ts sd post postL x := fun F σ B H k R f k' e D q => by
  obtain ⟨B', R', g⟩ := R.frz hi
  exact h F σ B' H k R' f k' e D (q.gr g)
theorem es_le {sd' : List SD} {x : m (Fl τ l ρ)} (hl : Le sd sd') (h : EvS K ts sd' post postL x) : EvS K ts sd post postL x := fun F σ B H k R => h F σ B H k (R.le hl)

/-! ### loops -/
theorem es_for [Enc α] {wi : TI} {g : TG} {is : List Nat} {inv : τ → List SD} {t0 : τ} {sd1 : τ → α → List SD} {x : m (List α)} {body : τ → α → m (Fl τ τ ρ)} (hi : EvI K wi sd x) (h0 : Le sd (inv t0)) (hg : ∀ t a, EvG K g (inv t) a (sd1 t a) is)
    (hb : ∀ t a, EvS K tb' (sd1 t a) inv inv (body t a)) : EvS K (tFor wi g tb') sd inv postL (Mn.bnd x fun xs => (forL body xs t0 : m (Fl τ l ρ))) := fun F σ B H k R r k' e D q => by
  obtain ⟨xs, k1, e1, e2⟩ := bnd_some e
  refine hi F σ B H k R xs k1 e1 _ fun J B1 H1 R1 g1 S => ?_
  refine ⟨fun i n σ' H' => n = xs.length - i ∧ i ≤ xs.length ∧ ∃ B' k2 t, Rel K F σ' B' H' (inv t) k2 ∧ Gr B1 B' ∧ Mn.run (forL body (xs.drop i) t : m (Fl τ l ρ)) k2 = some (r, k'),
    ⟨xs.length, by simp, Nat.zero_le _, B1, k1, t0, R1.le h0, Gr.refl B1, by rw [List.drop_zero]; exact e2⟩, ?_⟩
  rintro i n σ2 H2 ⟨rfl, hi2, B2, k2, t, R2, g2, hrun⟩
  by_cases c : i < xs.length
  · right
    have hx : xs[i]? = some xs[i] := List.getElem?_eq_getElem c
    rw [List.drop_eq_getElem_cons c, forL_cons] at hrun
    obtain ⟨f, k3, e4, e5⟩ := bnd_some hrun
    refine ⟨S.1 i B2 H2 g2 R2.bh c, fun σ' H' => ∃ n', n' < xs.length - i ∧ (n' = xs.length - (i + 1) ∧ i + 1 ≤ xs.length ∧ ∃ B' k2 t, Rel K F σ' B' H' (inv t) k2 ∧ Gr B1 B' ∧ Mn.run (forL body (xs.drop (i + 1)) t : m (Fl τ l ρ)) k2 = some (r, k')), fun _ _ h => h, fun v H3 y => ?_⟩
    obtain ⟨B3, rel3, g3, gh3, _, nb3, rv⟩ := S.2.2 i B2 H2 v H3 xs[i] g2 R2.bh y hx
    refine hg t xs[i] F σ2 B3 H3 k2 v (rel3 F σ2 (inv t) k2 R2) rv _ fun σ3 R3 _ => ?_
    refine hb t xs[i] F σ3 B3 H3 k2 R3 f k3 e4 _ ?_
    cases f with
    | nx t' => exact fun σ' B' H' R' g' => ⟨_, by omega, rfl, c, B', k3, t', R', (g2.trans g3).trans g', e5⟩
    | ct t' => exact fun σ' B' H' R' g' => ⟨_, by omega, rfl, c, B', k3, t', R', (g2.trans g3).trans g', e5⟩
    | bk t' =>
      obtain ⟨rfl, rfl⟩ := pur_some e5
      exact fun σ' B' H' R' g' => q σ' B' H' R' (((g1.trans g2).trans g3).trans g')
    | rt z =>
      obtain ⟨rfl, rfl⟩ := pur_some e5
      exact fun w σ' B' H' sd' R' g' rw' => q w σ' B' H' sd' R' (((g1.trans g2).trans g3).trans g') rw'
  · left
    have ei : i = xs.length := by omega
    subst ei
    rw [List.drop_length, forL_nil] at hrun
    obtain ⟨rfl, rfl⟩ := pur_some hrun
    exact ⟨S.2.1 _ B2 H2 g2 R2.bh rfl, q σ2 B2 H2 R2 (g1.trans g2)⟩
theorem es_while {inv : τ → List SD} {t0 : τ} {c : τ → m Bool} {body : τ → m (Fl τ τ ρ)} {n : Nat} (h0 : Le sd (inv t0)) (hc : ∀ t, EvB K tt (inv t) (c t)) (hb : ∀ t, EvS K ts (inv t) inv inv (body t)) :
    EvS K (tWhile tt ts) sd inv postL (whl c body n t0 : m (Fl τ l ρ)) := fun F σ B H k R r k' e D q => by
  refine ⟨fun n' σ' H' => ∃ B' k2 t, Rel K F σ' B' H' (inv t) k2 ∧ Gr B B' ∧ Mn.run (whl c body n' t : m (Fl τ l ρ)) k2 = some (r, k'), ⟨n, B, k, t0, R.le h0, Gr.refl B, e⟩, ?_⟩
  rintro n' σ2 H2 ⟨B2, k2, t, R2, g2, hrun⟩
  cases n' with
  | zero => rw [whl_zero] at hrun; exact (fl_some hrun).elim
  | succ n' =>
    rw [whl_succ] at hrun
    obtain ⟨b, k3, e1, e2⟩ := bnd_some hrun
    refine hc t F σ2 B2 H2 k2 R2 b k3 e1 _ fun B3 H3 R3 g3 => ?_
    cases b with
    | false =>
      rw [if_neg Bool.false_ne_true]
      obtain ⟨rfl, rfl⟩ := pur_some e2
      exact q σ2 B3 H3 R3 (g2.trans g3)
    | true =>
      rw [if_pos rfl]
      obtain ⟨f, k4, e3, e4⟩ := bnd_some e2
      refine ⟨fun σ' H' => ∃ m', m' < n' + 1 ∧ ∃ B' k2 t, Rel K F σ' B' H' (inv t) k2 ∧ Gr B B' ∧ Mn.run (whl c body m' t : m (Fl τ l ρ)) k2 = some (r, k'), fun _ _ h => h, ?_⟩
      refine hb t F σ2 B3 H3 k3 R3 f k4 e3 _ ?_
      cases f with
      | nx t' => exact fun σ' B' H' R' g' => ⟨n', by omega, B', k4, t', R', (g2.trans g3).trans g', e4⟩
      | ct t' => exact fun σ' B' H' R' g' => ⟨n', by omega, B', k4, t', R', (g2.trans g3).trans g', e4⟩
      | bk t' =>
        obtain ⟨rfl, rfl⟩ := pur_some e4
        exact fun σ' B' H' R' g' => q σ' B' H' R' ((g2.trans g3).trans g')
      | rt z =>
        obtain ⟨rfl, rfl⟩ := pur_some e4
        exact fun w σ' B' H' sd' R' g' rw' => q w σ' B' H' sd' R' ((g2.trans g3).trans g') rw'

/-! ### a def's promise from its body -/
def fin {ρ : Type} (x : Option (Fl Empty Empty ρ)) : Option ρ := x.bind fun f => match f with
  | .rt r => some r
  | .nx t => t.elim
  | .bk t => t.elim
  | .ct t => t.elim
def finS {ρ : Type} (x : Sm (Fl Empty Empty ρ)) : Sm ρ := fun k => (x k).bind fun p => match p.1 with
  | .rt r => some (r, p.2)
  | .nx t => t.elim
  | .bk t => t.elim
  | .ct t => t.elim
theorem fin_some {x : Option (Fl Empty Empty ρ)} {r : ρ} (h : fin x = some r) : x = some (.rt r) := by
  cases x with
  | none => cases h
  | some f => cases f with
    | rt z => cases h; rfl
    | nx t => exact t.elim
    | bk t => exact t.elim
    | ct t => exact t.elim
theorem finS_some {x : Sm (Fl Empty Empty ρ)} {r : ρ} {k k' : Int} (h : finS x k = some (r, k')) : x k = some (.rt r, k') := by
  unfold finS at h
  cases e : x k with
  | none => rw [e] at h; cases h
  | some p =>
    rw [e] at h
    obtain ⟨f, k2⟩ := p
    cases f with
    | rt z => cases h; rfl
    | nx t => exact t.elim
    | bk t => exact t.elim
    | ct t => exact t.elim
def noEnd (t : Empty) : List SD := t.elim
theorem start_get {N : List Str} {vs : List V} {i : Nat} : (L2.start N vs)[i]? = if i < vs.length then (vs[i]?).map some else if i < vs.length + (N.length - vs.length) then some none else none := by
  unfold L2.start
  by_cases c : i < vs.length
  · rw [if_pos c, List.getElem?_append_left (by rw [List.length_map]; exact c), List.getElem?_map]
  · rw [if_neg c, List.getElem?_append_right (by rw [List.length_map]; omega), List.length_map, List.getElem?_replicate]
    by_cases c2 : i < vs.length + (N.length - vs.length)
    · rw [if_pos c2, if_pos (by omega)]
    · rw [if_neg c2, if_neg (by omega)]
def sd0 (n : Nat) (ds : List PyData) : List SD := ds.map SD.dat ++ List.replicate (n - ds.length) .un
theorem Rel.init {B H : Hp} {N : List Str} {vs : List V} {ds : List PyData} (g : Gr B H) (r : Rps K B vs ds) : Rel K ⟨H, B, none, []⟩ (L2.start N vs) B H (sd0 N.length ds) 0 where
  len := by
    have z := r.len
    unfold sd0 L2.start
    simp only [List.length_append, List.length_map, List.length_replicate]; omega
  bh := g
  b0 := Gr.refl B
  bn := fun a o e e0 => by
    have e1 : B a = none := e0
    rw [e] at e1; cases e1
  fr := fun a o e _ => e
  ex := fun p hp => nomatch hp
  sl := fun i d e => by
    have z := r.len
    unfold sd0 at e
    rw [start_get]
    by_cases c : i < ds.length
    · rw [List.getElem?_append_left (by rw [List.length_map]; exact c), List.getElem?_map] at e
      rw [if_pos (by omega)]
      obtain ⟨d', hd, rfl⟩ := Option.map_eq_some_iff.mp e
      obtain ⟨v, hv, rv⟩ := r.get hd
      exact ⟨some v, by rw [hv]; rfl, v, rfl, rv⟩
    · rw [List.getElem?_append_right (by rw [List.length_map]; omega), List.length_map, List.getElem?_replicate] at e
      by_cases c2 : i - ds.length < N.length - ds.length
      · rw [if_pos c2] at e; cases e
        rw [if_neg (by omega), if_pos (by omega)]
        exact ⟨none, rfl, trivial⟩
      · rw [if_neg c2] at e; cases e
  ap := fun i j d e a ne h1 h2 w1 w2 s1 s2 => by
    unfold sd0 at h1
    by_cases c : i < ds.length
    · rw [List.getElem?_append_left (by rw [List.length_map]; exact c), List.getElem?_map] at h1
      obtain ⟨d', hd, rfl⟩ := Option.map_eq_some_iff.mp h1
      cases w1
    · rw [List.getElem?_append_right (by rw [List.length_map]; omega), List.length_map, List.getElem?_replicate] at h1
      by_cases c2 : i - ds.length < N.length - ds.length
      · rw [if_pos c2] at h1; cases h1; cases w1
      · rw [if_neg c2] at h1; cases h1
  st := fun s e => nomatch e
  sx := fun i d a s h w s1 e => nomatch e
/-- the end of a pure def's proof -/
theorem fin_pure {N : List Str} {n : Nat} {pre : List PyData → PyData → Prop} {vs : List V} {H : Hp} {Q : VK} {E : XK} (h : spP K n pre vs H Q E)
    (hb : ∀ ds r, pre ds r → ∃ (ρ : Type) (_ : Enc ρ) (x : Option (Fl Empty Empty ρ)) (z : ρ), EvS K ts (sd0 N.length ds) noEnd noEnd x ∧ x = some (.rt z) ∧ enc z = r) : ts { nx := fun _ H' => Q .non H', rt := Q } (L2.start N vs) H := by
  obtain ⟨B, ds, r, hp, hn, g, rs, q⟩ := h
  obtain ⟨ρ, i, x, z, hx, ex, rfl⟩ := hb ds r hp
  refine hx _ _ B H 0 (Rel.init g rs) (.rt z) 0 (by rw [ex]; rfl) _ fun v σ' B' H' sd' R' g' rv => ?_
  refine q v B' H' R'.b0 R'.bh (fun a o e => R'.fr a o e fun s es => nomatch es) (fun a o e e0 => R'.bn a o e e0) rv
end
end OL

set_option Elab.async false
set_option linter.all false
set_option maxRecDepth 100000
set_option maxHeartbeats 2000000
namespace OL
open PySem L2
section
variable {K : PySem.W.Frag} {m : Type → Type} [Mn m] {α β γ δ : Type} {sd : List SD} {ta tb te : TE}

/-! ### built-ins by their reading -/
theorem em_cb1 [Enc α] [Enc β] {r : List V → Hp → VK → Prop} {x : m α} {f : α → m β} (h : EvM K te sd x)
    (hr : ∀ (F : Fr) (σ : L2.St) (B H : Hp) (k : Int) a v, Rel K F σ B H sd k → Rp K B v (enc a) → ∀ b k', Mn.run (f a) k = some (b, k') → ∀ Q : VK, (∀ w B' H', Rel K F σ B' H' sd k' → Gr B B' → Rp K B' w (enc b) → Q w H') → r [v] H Q) :
    EvM K (tCB r (tCons te tNil)) sd (Mn.bnd x f) := fun F σ B H k R b k' e Q q => by
  obtain ⟨a, k1, e1, e2⟩ := bnd_some e
  exact h F σ B H k R a k1 e1 _ fun v B1 H1 R1 g1 r1 => hr F σ B1 H1 k1 a v R1 r1 b k' e2 Q fun w B' H' R' g r => q w B' H' R' (g1.trans g) r
def rLen (K : PySem.W.Frag) : List V → Hp → VK → Prop := fun xs H Q => (∃ p ys, xs = [.ref p] ∧ (SqL K H p ys ∨ SqT K H p ys) ∧ Q (.int ys.length) H) ∨ ∃ z, xs = [.str z] ∧ z.length ≤ sizeLine ∧ Q (.int z.length) H
theorem cr_lenU {X : Cx} : CallR X (.builtin "len") (rLen X.K) := fun pins s σ H xs us Q I r h => by
  rcases h with h | h
  · exact call_len_seq pins s σ H xs us Q I r h
  · exact call_len_str pins s σ H xs us Q I r h
theorem em_lenL [Enc α] {x : m (List α)} (h : EvM K te sd x) : EvM K (tCB (rLen K) (tCons te tNil)) sd (Mn.bnd x fun xs => Mn.pur (xs.length : Int)) := em_cb1 h fun F σ B H k a v R r b k' e Q q => by
  obtain ⟨rfl, rfl⟩ := pur_some e
  obtain ⟨p, vs, rfl, hp, hs⟩ := Rp.lst_inv r
  refine .inl ⟨p, vs, rfl, .inl (SqL.of (R.bh _ _ hp)), ?_⟩
  rw [hs.len, List.length_map]
  exact q _ B H R (Gr.refl B) (.int _)
theorem em_lenT [Enc α] {x : m (Tl α)} (h : EvM K te sd x) : EvM K (tCB (rLen K) (tCons te tNil)) sd (Mn.bnd x fun xs => Mn.pur (xs.l.length : Int)) := em_cb1 h fun F σ B H k a v R r b k' e Q q => by
  obtain ⟨rfl, rfl⟩ := pur_some e
  obtain ⟨p, vs, rfl, hp, hs⟩ := Rp.tup_inv r
  refine .inl ⟨p, vs, rfl, .inr (R.bh.sqT hp), ?_⟩
  rw [hs.len, List.length_map]
  exact q _ B H R (Gr.refl B) (.int _)
theorem em_lenS {x : m Str} (h : EvM K te sd x) : EvM K (tCB (rLen K) (tCons te tNil)) sd (Mn.bnd x fun s => gd (s.length ≤ sizeLine) (Mn.pur (s.length : Int))) := em_cb1 h fun F σ B H k a v R r b k' e Q q => by
  obtain ⟨hg, e⟩ := gd_some e
  obtain ⟨rfl, rfl⟩ := pur_some e
  rw [Rp.str_inv r]
  exact .inr ⟨a, rfl, hg, q _ B H R (Gr.refl B) (.int _)⟩
/-- len of a pair -/
theorem em_len2 [Enc α] [Enc β] {x : m (α × β)} (h : EvM K te sd x) : EvM K (tCB (rLen K) (tCons te tNil)) sd (Mn.bnd x fun _ => Mn.pur (2 : Int)) := em_cb1 h fun F σ B H k a v R r b k' e Q q => by
  obtain ⟨rfl, rfl⟩ := pur_some e
  obtain ⟨p, vs, rfl, hp, hs⟩ := Rp.tup_inv r
  refine .inl ⟨p, vs, rfl, .inr (R.bh.sqT hp), ?_⟩
  rw [hs.len]
  exact q _ B H R (Gr.refl B) (.int _)
/-- an owned list's length -/
theorem em_lenO [Enc α] {i : Nat} {xs : List α} (hi : sd[i]? = some (.lst (xs.map enc))) : EvM K (tCB (rLen K) (tCons (tVar i) tNil)) sd (Mn.pur (xs.length : Int) : m Int) := fun F σ B H k R b k' e Q q => by
  obtain ⟨rfl, rfl⟩ := pur_some e
  obtain ⟨o, ho, p, vs, rfl, h0, hx, hb, hh, rs⟩ := R.sl i _ hi
  refine ⟨_, ho, .inl ⟨p, vs, rfl, .inl (SqL.of hh), ?_⟩⟩
  rw [rs.len, List.length_map]
  exact q _ B H R (Gr.refl B) (.int _)
def rTupOf (K : PySem.W.Frag) : List V → Hp → VK → Prop := fun xs H Q => ∃ p ys, xs = [.ref p] ∧ ((SqL K H p ys ∧ ∀ l, H l = none → Q (.ref l) (upd H l (.tup ys))) ∨ (SqT K H p ys ∧ Q (.ref p) H))
theorem cr_tup {X : Cx} : CallR X (.type "tuple") (rTupOf X.K) := call_tuple_of
theorem em_tupL [Enc α] {x : m (List α)} (h : EvM K te sd x) : EvM K (tCB (rTupOf K) (tCons te tNil)) sd (Mn.bnd x fun xs => Mn.pur (⟨xs⟩ : Tl α)) := em_cb1 h fun F σ B H k a v R r b k' e Q q => by
  obtain ⟨rfl, rfl⟩ := pur_some e
  obtain ⟨p, vs, rfl, hp, hs⟩ := Rp.lst_inv r
  refine ⟨p, vs, rfl, .inl ⟨SqL.of (R.bh _ _ hp), fun l hl => ?_⟩⟩
  obtain ⟨R2, g2⟩ := R.data (o := .tup vs) hl
  exact q _ _ _ R2 g2 (.tup (.inl (.inl upd_same)) (hs.gr g2))
def rSumI (K : PySem.W.Frag) : List V → Hp → VK → Prop := rSum K
theorem cr_sumU {X : Cx} (hc : X.calm = true) : CallR X (.builtin "sum") (rSumI X.K) := cr_sum hc
theorem em_sum {x : m (List Int)} (h : EvM K te sd x) : EvM K (tCB (rSumI K) (tCons te tNil)) sd (Mn.bnd x fun xs => Mn.pur xs.sum) := em_cb1 h fun F σ B H k a v R r b k' e Q q => by
  obtain ⟨rfl, rfl⟩ := pur_some e
  obtain ⟨p, vs, rfl, hp, hs⟩ := Rp.lst_inv r
  have z := Rps.ints (ns := a) hs
  subst z
  exact ⟨p, a, rfl, SqL.of (R.bh _ _ hp), q _ B H R (Gr.refl B) (.int _)⟩
theorem Rps.bls {B : Hp} : ∀ {xs : List V} {ns : List Bool}, Rps K B xs (ns.map .bool) → xs = ns.map V.bl
  | _, [], h => by cases h; rfl
  | _, n :: ns, h => by
    cases h with | cons h hs => rw [h.bl_inv, Rps.bls hs]; rfl
theorem em_all {x : m (List Bool)} (h : EvM K te sd x) : EvM K (tCB (rAll K) (tCons te tNil)) sd (Mn.bnd x fun xs => Mn.pur (xs.all id)) := em_cb1 h fun F σ B H k a v R r b k' e Q q => by
  obtain ⟨rfl, rfl⟩ := pur_some e
  obtain ⟨p, vs, rfl, hp, hs⟩ := Rp.lst_inv r
  have z := Rps.bls (ns := a) hs
  subst z
  exact ⟨p, a, rfl, SqL.of (R.bh _ _ hp), q _ B H R (Gr.refl B) (.bl _)⟩
theorem em_any {x : m (List Bool)} (h : EvM K te sd x) : EvM K (tCB (rAny K) (tCons te tNil)) sd (Mn.bnd x fun xs => Mn.pur (xs.any id)) := em_cb1 h fun F σ B H k a v R r b k' e Q q => by
  obtain ⟨rfl, rfl⟩ := pur_some e
  obtain ⟨p, vs, rfl, hp, hs⟩ := Rp.lst_inv r
  have z := Rps.bls (ns := a) hs
  subst z
  exact ⟨p, a, rfl, SqL.of (R.bh _ _ hp), q _ B H R (Gr.refl B) (.bl _)⟩
def rMaxI : List V → Hp → VK → Prop := fun xs H Q => ∃ i j, xs = [.int i, .int j] ∧ Q (.int (if j > i then j else i)) H
def rMinI : List V → Hp → VK → Prop := fun xs H Q => ∃ i j, xs = [.int i, .int j] ∧ Q (.int (if j < i then j else i)) H
theorem cr_maxU {X : Cx} (hc : X.calm = true) : CallR X (.builtin "max") rMaxI := call_max2 hc
theorem cr_minU {X : Cx} (hc : X.calm = true) : CallR X (.builtin "min") rMinI := call_min2 hc
theorem em_max {x y : m Int} {tr : TA} (h : EvA K tr sd (Mn.bnd x fun a => Mn.bnd y fun b => Mn.pur (a, b)) (fun p => [enc p.1, enc p.2])) : EvM K (tCB rMaxI tr) sd (Mn.bnd (Mn.bnd x fun a => Mn.bnd y fun b => Mn.pur (a, b)) fun p => Mn.pur (max p.1 p.2)) := fun F σ B H k R b k' e Q q => by
  obtain ⟨p, k1, e1, e2⟩ := bnd_some e
  obtain ⟨rfl, rfl⟩ := pur_some e2
  refine h F σ B H k R p _ e1 _ fun vs B1 H1 R1 g1 r1 => ?_
  cases r1 with | cons h1 hs => cases hs with | cons h2 hs =>
    cases hs
    refine ⟨p.1, p.2, by rw [Rp.int_inv h1, Rp.int_inv h2], ?_⟩
    have z : (if p.2 > p.1 then p.2 else p.1) = max p.1 p.2 := by rw [Int.max_def]; split <;> split <;> omega
    rw [z]
    exact q _ B1 H1 R1 g1 (.int _)
theorem em_min {x y : m Int} {tr : TA} (h : EvA K tr sd (Mn.bnd x fun a => Mn.bnd y fun b => Mn.pur (a, b)) (fun p => [enc p.1, enc p.2])) : EvM K (tCB rMinI tr) sd (Mn.bnd (Mn.bnd x fun a => Mn.bnd y fun b => Mn.pur (a, b)) fun p => Mn.pur (min p.1 p.2)) := fun F σ B H k R b k' e Q q => by
  obtain ⟨p, k1, e1, e2⟩ := bnd_some e
  obtain ⟨rfl, rfl⟩ := pur_some e2
  refine h F σ B H k R p _ e1 _ fun vs B1 H1 R1 g1 r1 => ?_
  cases r1 with | cons h1 hs => cases hs with | cons h2 hs =>
    cases hs
    refine ⟨p.1, p.2, by rw [Rp.int_inv h1, Rp.int_inv h2], ?_⟩
    have z : (if p.2 < p.1 then p.2 else p.1) = min p.1 p.2 := by rw [Int.min_def]; split <;> split <;> omega
    rw [z]
    exact q _ B1 H1 R1 g1 (.int _)
def strI (i : Int) : Str := toString i
def rStrI : List V → Hp → VK → Prop := fun xs H Q => ∃ i, xs = [.int i] ∧ i.natAbs.log2 < 1920 ∧ Q (.str (toString i)) H
theorem cr_strU {X : Cx} : CallR X (.type "str") rStrI := call_str_int
theorem em_str1 {x : m Int} (h : EvM K te sd x) : EvM K (tCB rStrI (tCons te tNil)) sd (Mn.bnd x fun i => gd (i.natAbs.log2 < 1920) (Mn.pur (strI i))) := em_cb1 h fun F σ B H k a v R r b k' e Q q => by
  obtain ⟨hg, e⟩ := gd_some e
  obtain ⟨rfl, rfl⟩ := pur_some e
  rw [Rp.int_inv r]
  exact ⟨a, rfl, hg, q _ B H R (Gr.refl B) (.str _)⟩
/-! ### isinstance of a built-in class -/
def tyN : PyData → String
  | .none => "NoneType"
  | .bool _ => "bool"
  | .int _ => "int"
  | .str _ => "str"
  | .list _ => "list"
  | .tuple _ => "tuple"
  | .dict _ => "list"
theorem Rp.ty {B : Hp} {v : V} {d : PyData} (r : Rp K B v d) : TyX K B v (.type (tyN d)) := by
  cases r with
  | non => exact .base .non
  | bl b => exact .base (.bl b)
  | int i => exact .base (.int i)
  | str x => exact .base (.str x)
  | lst h hs => exact .base (.lst h)
  | tup h hs =>
    rcases h with (h | ⟨o, h⟩) | ⟨o, its, n, h1, h2, _⟩
    · exact .base (.tup h)
    · exact .fTuple h
    · exact .kTuple h1 h2
  | scr ns h =>
    rcases h with (h | ⟨o, h⟩) | ⟨o, its, n, h1, h2, _⟩
    · exact .base (.lst h)
    · exact .base (.frz h)
    · exact .kList h1 h2
theorem em_isi [Enc α] {x : m α} {T : String} {f : α → Bool} (h : EvM K te sd x) (hk : ∀ a, kitB (tyN (enc a)) T = some (f a)) : EvM K (tCB (rIsi K) (tCons te (tCons (tC (.ty T)) tNil))) sd (Mn.bnd x fun a => Mn.pur (f a)) := fun F σ B H k R b k' e Q q => by
  obtain ⟨a, k1, e1, e2⟩ := bnd_some e
  obtain ⟨rfl, rfl⟩ := pur_some e2
  exact h F σ B H k R a _ e1 _ fun v B1 H1 R1 g1 r1 => ⟨v, .ty T, _, _, _, rfl, .ty T, (r1.gr R1.bh).ty, kit_ty (hk a), q _ B1 H1 R1 g1 (.bl _)⟩

/-! ### slices, lists put together -/
def EvO (K : PySem.W.Frag) (to : TO) (sd : List SD) (x : m (Option Int)) : Prop := ∀ (F : Fr) (σ : L2.St) (B H : Hp) (k : Int), Rel K F σ B H sd k → ∀ (a : Option Int) (k' : Int), Mn.run x k = some (a, k') →
  ∀ Q : Option Int → Hp → Prop, (∀ B' H', Rel K F σ B' H' sd k' → Gr B B' → Q a H') → to σ H Q
theorem eo_none : EvO K tNoPart sd (Mn.pur none : m (Option Int)) := fun F σ B H k R a k' e Q q => by
  obtain ⟨rfl, rfl⟩ := pur_some e
  exact q B H R (Gr.refl B)
theorem eo_some {x : m Int} (h : EvM K te sd x) : EvO K (tPart te) sd (Mn.bnd x fun i => Mn.pur (some i)) := fun F σ B H k R a k' e Q q => by
  obtain ⟨i, k1, e1, e2⟩ := bnd_some e
  obtain ⟨rfl, rfl⟩ := pur_some e2
  exact h F σ B H k R i _ e1 _ fun v B1 H1 R1 g1 r1 => ⟨i, Rp.int_inv r1, q B1 H1 R1 g1⟩
def cutL (xs : List α) (lo hi : Option Int) : List α := (xs.drop (HT.sIx xs.length 0 lo)).take (HT.sIx xs.length xs.length hi - HT.sIx xs.length 0 lo)
theorem Rps.cut {B : Hp} {vs : List V} {ds : List PyData} (r : Rps K B vs ds) (lo hi : Option Int) : Rps K B (cutV vs lo hi) (cutL ds lo hi) := by
  unfold cutV cutL
  rw [r.len]
  exact (r.drop _).take _
theorem cutL_map (f : α → β) (xs : List α) (lo hi : Option Int) : (cutL xs lo hi).map f = cutL (xs.map f) lo hi := by
  unfold cutL
  rw [List.length_map, List.map_take, List.map_drop]
variable {tl th : TO}
theorem ef_slice [Enc α] {x : m (List α)} {y z : m (Option Int)} (h : EvM K te sd x) (hl : EvO K tl sd y) (hh : EvO K th sd z) : EvF K (tSl (rSlL K) te tl th) sd (Mn.bnd x fun xs => Mn.bnd y fun lo => Mn.bnd z fun hi => Mn.pur (cutL xs lo hi)) := fun F σ B H k R b k' e Q q => by
  obtain ⟨xs, k1, e1, e2⟩ := bnd_some e
  obtain ⟨lo, k2, e3, e4⟩ := bnd_some e2
  obtain ⟨hi, k3, e5, e6⟩ := bnd_some e4
  obtain ⟨rfl, rfl⟩ := pur_some e6
  refine h F σ B H k R xs k1 e1 _ fun v B1 H1 R1 g1 r1 => ?_
  refine hl F σ B1 H1 k1 R1 lo k2 e3 _ fun B2 H2 R2 g2 => ?_
  refine hh F σ B2 H2 k2 R2 hi _ e5 _ fun B3 H3 R3 g3 => ?_
  obtain ⟨p, vs, rfl, hp, hs⟩ := Rp.lst_inv (r1.gr (g2.trans g3))
  refine ⟨p, vs, rfl, SqL.of (R3.bh _ _ hp), fun l hl => ?_⟩
  exact q l _ B3 _ (R3.alloc hl) ((g1.trans g2).trans g3) (R3.free hl) upd_same (by rw [cutL_map]; exact hs.cut lo hi)
theorem ef_sliceSc {x : m Sc} {y z : m (Option Int)} (h : EvM K te sd x) (hl : EvO K tl sd y) (hh : EvO K th sd z) : EvF K (tSl (rSlL K) te tl th) sd (Mn.bnd x fun xs => Mn.bnd y fun lo => Mn.bnd z fun hi => Mn.pur (cutL xs.ns lo hi)) := fun F σ B H k R b k' e Q q => by
  obtain ⟨xs, k1, e1, e2⟩ := bnd_some e
  obtain ⟨lo, k2, e3, e4⟩ := bnd_some e2
  obtain ⟨hi, k3, e5, e6⟩ := bnd_some e4
  obtain ⟨rfl, rfl⟩ := pur_some e6
  refine h F σ B H k R xs k1 e1 _ fun v B1 H1 R1 g1 r1 => ?_
  refine hl F σ B1 H1 k1 R1 lo k2 e3 _ fun B2 H2 R2 g2 => ?_
  refine hh F σ B2 H2 k2 R2 hi _ e5 _ fun B3 H3 R3 g3 => ?_
  obtain ⟨p, rfl, hp⟩ := Rp.scr_inv (s := xs) (r1.gr (g2.trans g3))
  refine ⟨p, _, rfl, R3.bh.sqL hp, fun l hl => ?_⟩
  exact q l _ B3 _ (R3.alloc hl) ((g1.trans g2).trans g3) (R3.free hl) upd_same (by rw [cutL_map]; exact (Rps.ofInts xs.ns).cut lo hi)
theorem em_lenSc {x : m Sc} (h : EvM K te sd x) : EvM K (tCB (rLen K) (tCons te tNil)) sd (Mn.bnd x fun xs => Mn.pur (xs.ns.length : Int)) := em_cb1 h fun F σ B H k a v R r b k' e Q q => by
  obtain ⟨rfl, rfl⟩ := pur_some e
  obtain ⟨p, rfl, hp⟩ := Rp.scr_inv (s := a) r
  refine .inl ⟨p, _, rfl, .inl (R.bh.sqL hp), ?_⟩
  rw [List.length_map]
  exact q _ B H R (Gr.refl B) (.int _)
def cutT (x : Str) (lo hi : Option Int) : Str := cutS x lo hi
theorem em_sliceS {x : m Str} {y z : m (Option Int)} (h : EvM K te sd x) (hl : EvO K tl sd y) (hh : EvO K th sd z) : EvM K (tSl rSlS te tl th) sd (Mn.bnd x fun xs => Mn.bnd y fun lo => Mn.bnd z fun hi => gd (xs.length ≤ sizeLine) (Mn.pur (cutT xs lo hi))) := fun F σ B H k R b k' e Q q => by
  obtain ⟨xs, k1, e1, e2⟩ := bnd_some e
  obtain ⟨lo, k2, e3, e4⟩ := bnd_some e2
  obtain ⟨hi, k3, e5, e6⟩ := bnd_some e4
  obtain ⟨hg, e7⟩ := gd_some e6
  obtain ⟨rfl, rfl⟩ := pur_some e7
  refine h F σ B H k R xs k1 e1 _ fun v B1 H1 R1 g1 r1 => ?_
  refine hl F σ B1 H1 k1 R1 lo k2 e3 _ fun B2 H2 R2 g2 => ?_
  refine hh F σ B2 H2 k2 R2 hi _ e5 _ fun B3 H3 R3 g3 => ?_
  exact ⟨xs, Rp.str_inv r1, hg, q _ B3 H3 R3 ((g1.trans g2).trans g3) (.str _)⟩
theorem ef_cat [Enc α] {x y : m (List α)} (h : EvM K ta sd x) (h2 : EvM K tb sd y) : EvF K (tOp rCat ta tb) sd (Mn.bnd x fun xs => Mn.bnd y fun ys => gd (xs.length + ys.length ≤ sizeLine) (Mn.pur (xs ++ ys))) := fun F σ B H k R b k' e Q q => by
  obtain ⟨xs, k1, e1, e2⟩ := bnd_some e
  obtain ⟨ys, k2, e3, e4⟩ := bnd_some e2
  obtain ⟨hg, e5⟩ := gd_some e4
  obtain ⟨rfl, rfl⟩ := pur_some e5
  refine h F σ B H k R xs k1 e1 _ fun v B1 H1 R1 g1 r1 => ?_
  refine h2 F σ B1 H1 k1 R1 ys _ e3 _ fun w B2 H2 R2 g2 r2 => ?_
  obtain ⟨p, vs, rfl, hp, hs⟩ := Rp.lst_inv (r1.gr g2)
  obtain ⟨p2, vs2, rfl, hp2, hs2⟩ := Rp.lst_inv r2
  refine ⟨p, p2, vs, vs2, rfl, rfl, R2.bh _ _ hp, R2.bh _ _ hp2, ?_, fun l hl => ?_⟩
  · rw [hs.len, hs2.len, List.length_map, List.length_map]; exact hg
  · exact q l _ B2 _ (R2.alloc hl) (g1.trans g2) (R2.free hl) upd_same (by rw [List.map_append]; exact hs.app hs2)
theorem ef_rev [Enc α] {x : m (List α)} (h : EvM K te sd x) : EvF K (tRevL K te) sd (Mn.bnd x fun xs => Mn.pur xs.reverse) := fun F σ B H k R b k' e Q q => by
  obtain ⟨xs, k1, e1, e2⟩ := bnd_some e
  obtain ⟨rfl, rfl⟩ := pur_some e2
  refine h F σ B H k R xs _ e1 _ fun v B1 H1 R1 g1 r1 => ?_
  obtain ⟨p, vs, rfl, hp, hs⟩ := Rp.lst_inv r1
  have rv : ∀ {vs : List V} {ds : List PyData}, Rps K B1 vs ds → Rps K B1 vs.reverse ds.reverse := fun {vs ds} h => by
    induction ds generalizing vs with
    | nil => cases h; exact .nil
    | cons d ds ih => cases h with | cons h hs => rw [List.reverse_cons, List.reverse_cons]; exact (ih hs).app (.cons h .nil)
  refine ⟨p, vs, rfl, SqL.of (R1.bh _ _ hp), fun l hl => ?_⟩
  exact q l _ B1 _ (R1.alloc hl) g1 (R1.free hl) upd_same (by rw [List.map_reverse]; exact rv hs)

/-! ### texts -/
theorem em_fs2 {t1 t3 : TE} {x z : m Str} {c : Str} (h1 : EvM K t1 sd x) (h2 : EvM K t3 sd z) : EvM K (fun σ H Q => tJs [tFmt t1, tC (.str c), tFmt t3] Str.empty σ H fun out H1 => Q (.str out) H1) sd
    (Mn.bnd x fun a => Mn.bnd z fun b => gd (a.length ≤ sizeLine ∧ b.length ≤ sizeLine ∧ (Str.empty ++ a).length ≤ sizeLine ∧ (Str.empty ++ a ++ c).length ≤ sizeLine ∧ (Str.empty ++ a ++ c ++ b).length ≤ sizeLine) (Mn.pur (Str.empty ++ a ++ c ++ b))) := fun F σ B H k R b k' e Q q => by
  obtain ⟨a, k1, e1, e2⟩ := bnd_some e
  obtain ⟨b', k2, e3, e4⟩ := bnd_some e2
  obtain ⟨⟨g1, g2, g3, g4, g5⟩, e5⟩ := gd_some e4
  obtain ⟨rfl, rfl⟩ := pur_some e5
  refine h1 F σ B H k R a k1 e1 _ fun v B1 H1 R1 gr1 r1 => ?_
  refine .inl ⟨a, Rp.str_inv r1, g1, a, rfl, g3, c, rfl, g4, ?_⟩
  refine h2 F σ B1 H1 k1 R1 b' _ e3 _ fun w B2 H2 R2 gr2 r2 => ?_
  exact .inl ⟨b', Rp.str_inv r2, g2, b', rfl, g5, q _ B2 H2 R2 (gr1.trans gr2) (.str _)⟩
def rZf : V → List V → Hp → VK → Prop := fun x xs H Q => ∃ (a : Str) (i : Int), x = .str a ∧ xs = [.int i] ∧ PadOk i = true ∧ Q (.str (Txt.zfill a i)) H
theorem mt_zfU {X : Cx} : MtR X "str.zfill" rZf := mt_zfill
theorem em_zfill {x : m Str} {i : Int} (h : EvM K te sd x) (hi : PadOk i = true) : EvM K (tBM K "str" rZf te (tCons (tC (.int i)) tNil)) sd (Mn.bnd x fun a => Mn.pur (Txt.zfill a i)) := fun F σ B H k R b k' e Q q => by
  obtain ⟨a, k1, e1, e2⟩ := bnd_some e
  obtain ⟨rfl, rfl⟩ := pur_some e2
  refine h F σ B H k R a _ e1 _ fun v B1 H1 R1 gr1 r1 => ?_
  rw [Rp.str_inv r1]
  exact ⟨rfl, a, i, rfl, rfl, hi, q _ B1 H1 R1 gr1 (.str _)⟩
def rJoin (K : PySem.W.Frag) : V → List V → Hp → VK → Prop := fun x xs H Q => ∃ a p, ∃ ys : List Str, x = .str a ∧ xs = [.ref p] ∧ (SqL K H p (ys.map V.str) ∨ SqT K H p (ys.map V.str)) ∧ (ys.map (·.length)).sum + ys.length * a.length ≤ 16777216 ∧ Q (.str (Txt.join a ys)) H
theorem mt_joinU {X : Cx} : MtR X "str.join" (rJoin X.K) := mt_join
theorem em_join {x : m (List Str)} {c : Str} (h : EvM K te sd x) : EvM K (tBM K "str" (rJoin K) (tC (.str c)) (tCons te tNil)) sd (Mn.bnd x fun ys => gd ((ys.map (·.length)).sum + ys.length * c.length ≤ 16777216) (Mn.pur (Txt.join c ys))) := fun F σ B H k R b k' e Q q => by
  obtain ⟨ys, k1, e1, e2⟩ := bnd_some e
  obtain ⟨hg, e3⟩ := gd_some e2
  obtain ⟨rfl, rfl⟩ := pur_some e3
  refine ⟨rfl, ?_⟩
  refine h F σ B H k R ys _ e1 _ fun v B1 H1 R1 gr1 r1 => ?_
  obtain ⟨p, vs, rfl, hp, hs⟩ := Rp.lst_inv r1
  have z := Rps.strs (ns := ys) hs
  subst z
  exact ⟨c, p, ys, rfl, rfl, .inl (SqL.of (R1.bh _ _ hp)), hg, q _ B1 H1 R1 gr1 (.str _)⟩
end
end OL

set_option Elab.async false
set_option linter.all false
set_option maxRecDepth 100000
set_option maxHeartbeats 2000000
namespace OL
open PySem PySem.Spec PyProof.Rows L2
section
variable {K : PySem.W.Frag} {m : Type → Type} [Mn m] {α β γ δ τ l ρ : Type} {sd : List SD} {ta tb te : TE} [Enc ρ] {post : τ → List SD} {postL : l → List SD} {ts tu : TS}
/-- return e; what follows is never reached -/
theorem es_retS {x : m ρ} (h : EvM K te sd x) : EvS K (tSeq (tRet te) tu) sd post postL (Mn.bnd x fun r => (Mn.pur (.rt r) : m (Fl τ l ρ))) := fun F σ B H k R f k' e D q => by
  obtain ⟨r, k1, e1, e2⟩ := bnd_some e
  obtain ⟨rfl, rfl⟩ := pur_some e2
  exact h F σ B H k R r _ e1 _ fun v B' H' R' g rr => q v σ B' H' sd R' g rr
theorem es_breakS {t : l} (h : Le sd (postL t)) : EvS K (ρ := ρ) (tSeq tBreak tu) sd post postL (Mn.pur (.bk t) : m (Fl τ l ρ)) := fun F σ B H k R f k' e D q => by
  obtain ⟨rfl, rfl⟩ := pur_some e
  exact q σ B H (R.le h) (Gr.refl B)
theorem es_contS {t : l} (h : Le sd (postL t)) : EvS K (ρ := ρ) (tSeq tCont tu) sd post postL (Mn.pur (.ct t) : m (Fl τ l ρ)) := fun F σ B H k R f k' e D q => by
  obtain ⟨rfl, rfl⟩ := pur_some e
  exact q σ B H (R.le h) (Gr.refl B)
/-- a, b = x, y -/
theorem es_par [Enc α] [Enc β] {i j : Nat} {tr : TA} {x : m (α × β)} {f : α × β → m (Fl τ l ρ)} (h : EvA K tr sd x (fun p => [enc p.1, enc p.2])) (hf : ∀ p, EvS K tu ((sd.set i (.dat (enc p.1))).set j (.dat (enc p.2))) post postL (f p)) :
    EvS K (tSeq (tPar i j tr) tu) sd post postL (Mn.bnd x f) := fun F σ B H k R r k' e D q => by
  obtain ⟨p, k1, e1, e2⟩ := bnd_some e
  refine h F σ B H k R p k1 e1 _ fun vs B1 H1 R1 g1 r1 => ?_
  cases r1 with | cons h1 hs => cases hs with | cons h2 hs =>
    cases hs
    exact ⟨_, _, rfl, hf p F _ B1 H1 k1 ((R1.setDat h1).setDat h2) r k' e2 D (q.gr g1)⟩
/-- a tuple display as a tuple of any length -/
theorem em_tupTl [Enc α] {tr : TA} {y : m (List α)} (h : EvA K tr sd y (fun xs => xs.map enc)) : EvM K (tTup tr) sd (Mn.bnd y fun xs => gd (xs.length ≤ 1000) (Mn.pur (⟨xs⟩ : Tl α))) := fun F σ B H k R c k' e Q q => by
  obtain ⟨xs, k1, e1, e2⟩ := bnd_some e
  obtain ⟨hl, e3⟩ := gd_some e2
  obtain ⟨rfl, rfl⟩ := pur_some e3
  refine h F σ B H k R xs _ e1 _ fun vs B1 H1 R1 g1 r1 => ⟨?_, fun p hp => ?_⟩
  · rw [r1.len, List.length_map]; exact Nat.le_trans hl (by decide)
  · obtain ⟨R2, g2⟩ := R1.data (o := .tup vs) hp
    exact q (.ref p) _ _ R2 (g1.trans g2) (.tup (.inl (.inl upd_same)) (r1.gr g2))
def PowOk (i j : Int) : Prop := 0 ≤ j ∧ j ≤ 1000000 ∧ i.natAbs < 2 ^ 64
instance (i j : Int) : Decidable (PowOk i j) := by unfold PowOk; exact inferInstance
theorem om_pow {a b : Int} : OpM K (rI CPow fun i j => .int (i ^ j.toNat)) a b (gd (PowOk a b) (Mn.pur (a ^ b.toNat)) : m Int) := om_I id
/-- in-place products -/
theorem iop_mulU {X : Cx} : PIp X .Mult rMul := fun pins s σ H x y v u Q I rx ry h => by
  obtain ⟨i, j, rfl, rfl, hc, q⟩ := h
  obtain ⟨t, rfl⟩ := rx
  obtain ⟨t', rfl⟩ := ry
  have ok := Or.elim hc (fun z => CMul.ok z) (fun z => CMulW.ok z)
  exact imul_int ⟨.int (i * j), H, I.tok _, ⟨_, rfl⟩, q⟩ ok
theorem room64 {k : Nat} {A : Around} (hr : Room k A) : A.units + 64 < cLine := by have := hr.un; omega
def FU : Nat := 1000000000
theorem Rp.tupK {B : Hp} {a : Addr} {od : Option Addr} {its : Array Value} {n : Nat} {sl : Array (Option Value)} {vs : List V} {ds : List PyData} (h : K.lookup a = some ⟨.type "tuple", od, .seq its n, sl⟩) (hl : its.size ≤ 1000) (hv : Vals vs its.toList) (hs : Rps K B vs ds) : Rp K B (.ref a) (.tuple ds) :=
  .tup (.inr ⟨_, its, n, h, rfl, rfl, Nat.le_trans hl (by decide), hv⟩) hs
end
end OL
namespace OL
open PySem PySem.Spec PyProof.Rows L2
section
variable {K : PySem.W.Frag} {m : Type → Type} [Mn m] {α β γ δ τ l ρ : Type} {sd : List SD} {ta tb te : TE}
theorem eb_yes : EvB K tYes sd (Mn.pur true : m Bool) := fun F σ B H k R b k' e Q q => by
  obtain ⟨rfl, rfl⟩ := pur_some e
  exact q B H R (Gr.refl B)
def noLstB (sd : List SD) (vs : List Nat) : Bool := vs.all fun i => match sd[i]? with
  | some d => !d.own
  | none => true
theorem noLst_by {vs : List Nat} (h : noLstB sd vs = true) : noLst sd vs := fun i hi d hd => by
  unfold noLstB at h
  have z := List.all_eq_true.mp h i hi
  rw [hd] at z
  cases w : d.own with
  | false => rfl
  | true => simp only [w] at z; cases z
def Rg3 (i j c : Int) : Prop := c ≠ 0 ∧ c.natAbs < 1073741824 ∧ Builtin.Range.small i j c = true ∧ 0 ≤ Builtin.Range.rangeSize i j c
instance (i j c : Int) : Decidable (Rg3 i j c) := by unfold Rg3; exact inferInstance
def rg3 (i j c : Int) : Nat := (Builtin.Range.rangeSize i j c).toNat
theorem ei_rng3 {tr : TA} {x : m (Int × Int × Int)} {g : Int × Int × Int → List PyData} (h : EvA K tr sd x g) (hg : ∀ p, g p = [enc p.1, enc p.2.1, enc p.2.2] := by intro _; rfl) : EvI K (iRng3 tr) sd (Mn.bnd x fun n => gd (Rg3 n.1 n.2.1 n.2.2) (Mn.pur (upTo n.1 (rg3 n.1 n.2.1 n.2.2) n.2.2))) := fun F σ B H k R xs k' e Q q => by
  obtain ⟨n, k1, e1, e2⟩ := bnd_some e
  obtain ⟨⟨h1, h2, h3, h4⟩, e3⟩ := gd_some e2
  obtain ⟨rfl, rfl⟩ := pur_some e3
  refine h F σ B H k R n _ e1 _ fun vs B1 H1 R1 g1 r1 => ?_
  rw [hg] at r1
  cases r1 with | cons a1 hs => cases hs with | cons a2 hs => cases hs with | cons a3 hs =>
    cases hs
    exact ⟨n.1, n.2.1, n.2.2, rg3 n.1 n.2.1 n.2.2, by rw [Rp.int_inv a1, Rp.int_inv a2, Rp.int_inv a3], ⟨h1, h2, h3, (Int.toNat_of_nonneg h4).symm⟩, q _ B1 H1 R1 g1 src_rngC⟩
end
end OL
namespace OL
open PySem PySem.Spec PyProof.Rows L2
section
variable {X : Cx} {K : PySem.W.Frag}
theorem PE.toK {e : Expr} {t t' : TE} (h : PE X e t) (ht : t = t') : PE X e t' := ht ▸ h
end
end OL

set_option Elab.async false
set_option linter.all false
set_option maxRecDepth 100000
set_option maxHeartbeats 2000000
/-! zip of a tuple and a list -/
namespace OL
open PySem PySem.Spec PyProof.Rows L2
def ItM (K : PySem.W.Frag) (a b : Addr) : It :=
  ⟨fun i H => ∃ (xs ys : List V) (x y : V), SqT K H a xs ∧ SqL K H b ys ∧ xs[i]? = some x ∧ ys[i]? = some y,
   fun i H v H' => ∃ T x y, v = .ref T ∧ H T = none ∧ H' = upd H T (.tup [x, y]) ∧ (∀ xs, SqT K H a xs → xs[i]? = some x) ∧ (∀ ys, SqL K H b ys → ys[i]? = some y),
   fun i H => ∃ xs ys : List V, SqT K H a xs ∧ SqL K H b ys ∧ (xs.length = i ∨ ys.length = i) ∧ i ≤ xs.length ∧ i ≤ ys.length⟩
theorem sep_of {z TI TO i1 i2 a b : Addr} (D : ZipApart z TI TO i1 i2 a b) : ZipSep2 z TI TO i1 i2 [i1, a] [i2, b] where
  TIz := D.TIz
  TOz := D.TOz
  TITO := D.TITO
  TIi1 := D.TIi1
  mem1 := by simp
  zf1 := by simp [D.i1z.symm, D.l1z.symm]
  Tf1 := by simp [D.TOi1, D.l1TO.symm]
  TIi2 := D.TIi2
  mem2 := by simp
  zf2 := by simp [D.i2z.symm, D.l2z.symm]
  Tf2 := by simp [D.TOi2, D.l2TO.symm]
  sep1_2 := by simp [D.i12, D.l2i1.symm]
  sep2_1 := by simp [D.i12.symm, D.l1i2.symm]
theorem five {c z TI TO i1 i2 : Addr} (h : c ∈ [z, TI, TO, i1, i2]) : c = z ∨ c = TI ∨ c = TO ∨ c = i1 ∨ c = i2 := by simpa using h
def StM (a b z TI TO i1 i2 : Addr) (i : Nat) (h : Heap) : Prop := IsZip h z TI TO .none ∧ IsPair h TI (.ref i1) (.ref i2) ∧ (∃ x y, IsPair h TO x y) ∧ h.IsTupleIter i1 a i ∧ h.IsListIter i2 b i
theorem turnM {P : Program} {w : World} {K : PySem.W.Frag} {es : List Expr} {kk : Nat} {tp : Pos} {a b z TI TO i1 i2 : Addr} (D : ZipApart z TI TO i1 i2 a b) :
    Turn P w K (.Tuple es kk tp) (ItM K a b) [z, TI, TO, i1, i2] z (StM a b z TI TO i1 i2) where
  mem := by simp
  obj := fun i h st c hc => by
    obtain ⟨hz, hI, ⟨x, y, hO⟩, ⟨o1, q1, _, d1⟩, ⟨o2, q2, _, d2⟩⟩ := st
    rcases five hc with rfl | rfl | rfl | rfl | rfl
    · exact ⟨_, hz, fun v q => nomatch q⟩
    · exact ⟨_, hI, fun v q => nomatch q⟩
    · exact ⟨_, hO, fun v q => nomatch q⟩
    · exact ⟨o1, q1, fun v q => by rw [d1] at q; cases q⟩
    · exact ⟨o2, q2, fun v q => by rw [d2] at q; cases q⟩
  keep := fun i h h' st k => by
    obtain ⟨hz, hI, ⟨x, y, hO⟩, n1, n2⟩ := st
    exact ⟨k z (by simp) _ hz, k TI (by simp) _ hI, ⟨x, y, k TO (by simp) _ hO⟩, n1.at fun o q => k i1 (by simp) o q, n2.at fun o q => k i2 (by simp) o q⟩
  item := by
    intro X hP hw hK hc i pins s σ H E I hf st hg
    subst hP hw hK
    obtain ⟨hz, hI, ⟨x0, y0, hO⟩, n1, n2⟩ := st
    obtain ⟨xs, ys, x, y, hqx, hqy, hx, hy⟩ := hg
    obtain ⟨ws, rv, p1, _⟩ := I.tuple hqx
    obtain ⟨ws2, rv2, p2, _⟩ := I.list hqy
    obtain ⟨u, hu, ru⟩ := rv.get hx
    obtain ⟨u2, hu2, ru2⟩ := rv2.get hy
    have zl : z < s.heap.objs.size := Heap.lt_size hz
    have hh : X.A.in1.handled = none := I.ok.hd hc
    refine wpAny_pyNext_zipD2_item (n1 := ws.toArray.size) (n2 := ws2.toArray.size) (sep_of D) (Draws.tuple hh i1 a D.l1i1 ws.toArray) (Draws.list hh i2 b D.l2i2 ws2.toArray) hz hI hO ⟨n1, p1⟩ ⟨n2, p2.isList⟩ ?_ ?_ ?_
    · have := (List.getElem?_eq_some_iff.mp hu).1; simpa using this
    · have := (List.getElem?_eq_some_iff.mp hu2).1; simpa using this
    intro v1 v2 h' tk e1 e2 z' O' st1 st2 hT hsz hk
    have ev1 : v1 = u := by
      have q : ws[i]? = some v1 := by simpa using e1
      rw [hu] at q; exact (Option.some.inj q).symm
    have ev2 : v2 = u2 := by
      have q : ws2[i]? = some v2 := by simpa using e2
      rw [hu2] at q; exact (Option.some.inj q).symm
    subst ev1 ev2
    refine ⟨_, rfl, wpAny_letOwnedTupleGo_zip (s := { s with heap := h', toks := tk }) z' fun h2 z2 sb => ?_⟩
    have T2 : h2.get? s.heap.objs.size = some { cls := .type "tuple", data := .seq #[v1, v2] } := (sb.2 _ (Nat.ne_of_gt zl)).trans hT
    have new : ObjOk X.prog X.w (upd H s.heap.objs.size (.tup [x, y])) h2 s.heap.objs.size (.tup [x, y]) := ⟨by show 2 ≤ sizeLine; decide, [v1, v2], .cons ru (.cons ru2 .nil), ⟨_, T2, rfl, _, rfl⟩⟩
    have lt : ∀ c ∈ [z, TI, TO, i1, i2], c < s.heap.objs.size := fun c hc => by
      rcases five hc with rfl | rfl | rfl | rfl | rfl
      · exact zl
      · exact Heap.lt_size hI
      · exact Heap.lt_size hO
      · obtain ⟨_, q, _⟩ := n1; exact Heap.lt_size q
      · obtain ⟨_, q, _⟩ := n2; exact Heap.lt_size q
    have I1 : Inv X pins σ (upd H s.heap.objs.size (.tup [x, y])) { s with heap := h2, toks := tk } := I.turnedNew (t' := tk) (ch := [z, TI, TO, i1, i2]) (fun c o hn q =>
      (sb.2 c (fun r => hn (by simp [r]))).trans (hk c o (fun r => hn (by simp [r])) (fun r => hn (by simp [r])) (fun r => hn (by simp [r])) (fun r => hn (by simp [r])) q)) hf (Nat.le_refl _) new
    refine ⟨.ref s.heap.objs.size, _, I1, rfl, ⟨_, x, y, rfl, I.hok.fresh (Nat.le_refl _), rfl, fun l hl => by rw [I.tuple_inj hl hqx]; exact hx, fun l hl => by rw [I.list_inj hl hqy]; exact hy⟩, ⟨z2, ?_, ⟨v1, v2, ?_⟩, ?_, ?_⟩, fun c hcm => ?_⟩
    · exact (sb.2 _ D.TIz).trans (hk _ _ D.TIz D.TITO D.TIi1 D.TIi2 hI)
    · exact (sb.2 _ D.TOz).trans O'
    · exact st1.1.at fun o q => (sb.2 _ D.i1z).trans q
    · exact st2.1.at fun o q => (sb.2 _ D.i2z).trans q
    · rw [upd_ne (Nat.ne_of_lt (lt c hcm))]
      exact (hf c hcm).1
  done := by
    intro X hP hw hK hc i pins s σ H E I hf st hg
    subst hP hw hK
    obtain ⟨hz, hI, ⟨x0, y0, hO⟩, n1, n2⟩ := st
    obtain ⟨xs, ys, hqx, hqy, he, l1, l2⟩ := hg
    obtain ⟨ws, rv, p1, _⟩ := I.tuple hqx
    obtain ⟨ws2, rv2, p2, _⟩ := I.list hqy
    have hh : X.A.in1.handled = none := I.ok.hd hc
    have s1 : ws.toArray.size = xs.length := by rw [List.size_toArray]; exact rv.length.symm
    have s2 : ws2.toArray.size = ys.length := by rw [List.size_toArray]; exact rv2.length.symm
    refine wpAny_pyNext_zipD2_end (n1 := ws.toArray.size) (n2 := ws2.toArray.size) (sep_of D) (Draws.tuple hh i1 a D.l1i1 ws.toArray) (Draws.list hh i2 b D.l2i2 ws2.toArray) hz hI hO ⟨n1, p1⟩ ⟨n2, p2.isList⟩ (by omega) (by omega) (by omega) fun h' tk hk => ?_
    exact ⟨rfl, I.turnedL (t' := tk) (ch := [z, TI, TO, i1, i2]) (fun c o hn q => hk c o (fun r => hn (by simp [r])) (fun r => hn (by simp [r])) (fun r => hn (by simp [r])) (fun r => hn (by simp [r])) q) hf⟩
  self := fun A i s Q E st h => wpAny_pyIter_zip st.1 h
def iZipM (K : PySem.W.Frag) (ta : TA) : TI := fun σ H R => ta σ H fun vs H1 => ∃ a b xs ys, vs = [.ref a, .ref b] ∧ SqT K H1 a xs ∧ SqL K H1 b ys ∧ R (ItM K a b) H1
theorem pi_zipM {X : Cx} {e e2 : Expr} {ta : TA} {p pos tpos : Pos} {elts : List Expr} {kk : Nat} (hg : Gl X "zip") (hm : X.mg "zip" = none) (ha : PA X [e, e2] ta)
    (hs : starEach [e, e2] X.env = (false, eval e X.env) :: starEach [e2] X.env := by rfl) (hpl : (backTo pos (starEach [e2] X.env)).any (·.1) = false := by rfl) :
    PI X (.Tuple elts kk tpos) (.Call (.Name "zip" p) [e, e2] [] pos) (iZipM X.K ta) := by
  refine ⟨fun pins s σ H R I h => ?_⟩
  refine Call_ (ld_blt I hg hm PyProof.Rows.boot_zip (PyProof.Rows.callWith_type1 (thn (ha.run pos pins s σ H _ I h) fun us s1 q0 => ?_) hs hpl))
  obtain ⟨vs, H1, I1, r1, a, b, xs, ys, rfl, hqx, hqy, q⟩ := q0
  cases r1 with
  | cons r rr =>
    cases rr with
    | cons r' rr =>
      cases rr
      cases r
      cases r'
      obtain ⟨ws, rv, p1, _⟩ := I1.tuple hqx
      obtain ⟨ws2, rv2, p2, _⟩ := I1.list hqy
      obtain ⟨o1, ho1, _⟩ := id p1
      have lt1 : a < s1.heap.objs.size := Heap.lt_size ho1
      have lt2 : b < s1.heap.objs.size := p2.lt
      refine zip_begins2 (begins_tuple a ws.toArray) (begins_list b ws2.toArray) p1 p2.isList fun h' hz hI hO g1 g2 hsz hk => wpAny_pyIter_zip hz ?_
      have fresh : ∀ c, c ∈ [s1.heap.objs.size + 4, s1.heap.objs.size + 2, s1.heap.objs.size + 3, s1.heap.objs.size, s1.heap.objs.size + 1] → FpOk X pins H1 c := fun c hcm => by
        have le : s1.heap.objs.size ≤ c := by
          rcases five hcm with rfl | rfl | rfl | rfl | rfl
          · exact Nat.le_add_right _ _
          · exact Nat.le_add_right _ _
          · exact Nat.le_add_right _ _
          · exact Nat.le_refl _
          · exact Nat.le_add_right _ _
        exact I1.fpOk le (I1.hok.fresh le)
      have I2 : Inv X pins σ H1 { s1 with heap := h' } := I1.kept (t' := s1.toks) hk
      exact ⟨_, _, _, _, H1, rfl, I2, turnM (PySem.W.ktu_apart s1.heap.objs.size a b lt1 lt2), ⟨hz, hI, ⟨_, _, hO⟩, ⟨_, g1, rfl, rfl⟩, ⟨_, g2, rfl, rfl⟩⟩, fresh, q⟩
section
variable {K : PySem.W.Frag} {m : Type → Type} [Mn m] {α β : Type} {sd : List SD}
theorem src_zipM [Enc α] [Enc β] {p q : Addr} {vs ws : List V} {xs : List α} {ys : List β} {B : Hp} (h : SqT K B p vs) (r : Rps K B vs (xs.map enc)) (h2 : SqL K B q ws) (r2 : Rps K B ws (ys.map enc)) : Src K (ItM K p q) B (xs.zip ys) := by
  have hl : vs.length = xs.length := by rw [r.len, List.length_map]
  have hl2 : ws.length = ys.length := by rw [r2.len, List.length_map]
  have hz : (xs.zip ys).length = min xs.length ys.length := List.length_zip
  refine ⟨fun i C H g g2 hi => ?_, fun i C H g g2 hi => ?_, fun i C H x H' a g g2 y hi => ?_⟩
  · exact ⟨vs, ws, vs[i]'(by omega), ws[i]'(by omega), (g.trans g2).sqT h, (g.trans g2).sqL h2, List.getElem?_eq_getElem (by omega), List.getElem?_eq_getElem (by omega)⟩
  · exact ⟨vs, ws, (g.trans g2).sqT h, (g.trans g2).sqL h2, by omega, by omega, by omega⟩
  · obtain ⟨T, y1, y2, rfl, nT, rfl, f1, f2⟩ := y
    have hx := f1 vs ((g.trans g2).sqT h)
    have hy := f2 ws ((g.trans g2).sqL h2)
    obtain ⟨a, b⟩ := a
    obtain ⟨ha, hb⟩ := List.getElem?_zip_eq_some.mp hi
    obtain ⟨v, hv, rv⟩ := r.get (i := i) (d := enc a) (by rw [List.getElem?_map, ha] <;> rfl)
    obtain ⟨w, hw, rw'⟩ := r2.get (i := i) (d := enc b) (by rw [List.getElem?_map, hb] <;> rfl)
    rw [hx] at hv; cases hv
    rw [hy] at hw; cases hw
    have gT : Gr C (upd C T (.tup [y1, y2])) := Gr.new (g2.back nT)
    refine ⟨upd C T (.tup [y1, y2]), fun F σ sd k R => (R.data nT).1, gT, Gr.new nT, fun p e => ?_, fun p o e eb => ?_, ?_⟩
    · by_cases c : p = T
      · subst c; exact nT
      · rw [upd_ne c] at e; exact e
    · rw [upd_ne (ne_of_none e nT)]; exact eb
    · exact .tup (.inl (.inl upd_same)) (.cons ((rv.gr g).gr gT) (.cons ((rw'.gr g).gr gT) .nil))
theorem ei_zipM [Enc α] [Enc β] {tr : TA} {x : m (Tl α × List β)} (h : EvA K tr sd x (fun a => [enc a.1, enc a.2])) : EvI K (iZipM K tr) sd (Mn.bnd x fun p => Mn.pur (p.1.l.zip p.2)) := fun F σ B H k R xs k' e Q q => by
  obtain ⟨n, k1, e1, e2⟩ := bnd_some e
  obtain ⟨rfl, rfl⟩ := pur_some e2
  refine h F σ B H k R n _ e1 _ fun vs B1 H1 R1 g1 r1 => ?_
  cases r1 with | cons h hs => cases hs with | cons h2 hs =>
    cases hs
    obtain ⟨p, vs, rfl, hp, hs⟩ := Rp.tup_inv h
    obtain ⟨p2, vs2, rfl, hp2, hs2⟩ := Rp.lst_inv h2
    exact ⟨p, p2, vs, vs2, rfl, R1.bh.sqT hp, SqL.of (R1.bh _ _ hp2), q _ B1 H1 R1 g1 (src_zipM hp hs (SqL.of hp2) hs2)⟩
end
end OL

set_option Elab.async false
set_option linter.all false
set_option maxRecDepth 100000
set_option maxHeartbeats 2000000
/-! the state that a law draws from -/
namespace OL
open PySem PySem.Spec PyProof.Rows L2
theorem st_at {cv : V} {k : Int} {nv : Option V} : valV (stKvs cv k nv) (.inr "at") = some (.int k) := by cases nv <;> rfl
theorem st_cells {cv : V} {k : Int} {nv : Option V} : valV (stKvs cv k nv) (.inr "cells") = some cv := by cases nv <;> rfl
theorem st_put {cv : V} {k k' : Int} {nv : Option V} : putK (stKvs cv k nv) (.inr "at") (.int k') = stKvs cv k' nv := by cases nv <;> rfl
theorem st_len {cv : V} {k : Int} {nv : Option V} : (stKvs cv k nv).length < sizeLine := by
  cases nv with
  | none => exact (by decide : 2 < sizeLine)
  | some n => exact (by decide : 3 < sizeLine)
theorem st_names {cv : V} {k : Int} {n : V} : valV (stKvs cv k (some n)) (.inr "names") = some n := rfl
theorem st_putN {cv : V} {k : Int} {n : V} : putK (stKvs cv k none) (.inr "names") n = stKvs cv k (some n) := rfl
/-- what is drawn -/
def nxB (c : List Int) (k1 : Int) : Int := 31 * k1 * k1 + 7919 * k1 + (match atI c (k1 % c.length) with | some z => z % 2147483647 * (1 + k1 / c.length) | none => 0)
def nxV (c : List Int) (k1 mm : Int) : Int := nxB c k1 * 48271 % 2147483647 / 7 % mm
def nx (c : List Int) (mm : Int) : Sm Int := fun k => if 0 ≤ k ∧ k < 1000000000000 ∧ 0 < mm ∧ c.length ≤ 1000 then some (nxV c (k + 1) mm, k + 1) else none
theorem nx_some {c : List Int} {mm k r k' : Int} (h : nx c mm k = some (r, k')) : (0 ≤ k ∧ k < 1000000000000 ∧ 0 < mm ∧ c.length ≤ 1000) ∧ r = nxV c (k + 1) mm ∧ k' = k + 1 := by
  unfold nx at h
  by_cases z : 0 ≤ k ∧ k < 1000000000000 ∧ 0 < mm ∧ c.length ≤ 1000
  · rw [if_pos z] at h; cases h; exact ⟨z, rfl, rfl⟩
  · rw [if_neg z] at h; cases h
abbrev pr_next (c : List Int) (_ : Option (List Str)) (ds : List PyData) (k : Int) (r : PyData) (k' : Int) : Prop := ∃ (p0 x : Int), ds = [enc p0] ∧ nx c p0 k = some (x, k') ∧ r = enc x
def rNxA : R2 := rI0 fun i j => .int (i + j)
def rNxM : R2 := rI (fun _ j => 0 < j) fun i j => .int (i % j)
def rNxD : R2 := rI CDivW fun i j => .int (i / j)
/-- the reading of the drawing def's body -/
def tNx (K : PySem.W.Frag) : TS := tSeq (sDPut (tVar 0) (tC (.str "at")) (tOp rNxA (tDGet (tVar 0) (tC (.str "at"))) (tC (.int 1))))
  (tSeq (tAsg (tDGet (tVar 0) (tC (.str "at"))) (gName 2)) (tSeq (tAsg (tDGet (tVar 0) (tC (.str "cells"))) (gName 3))
  (tSeq (tAsg (tOp rNxA (tOp rMul (tOp rMul (tC (.int 31)) (tVar 2)) (tVar 2)) (tOp rMul (tC (.int 7919)) (tVar 2))) (gName 4))
  (tSeq (tIfS (tTest (tOp (rNeD K) (tVar 3) (tLst tNil)))
    (tSeq (tAsg (tOp rNxA (tVar 4) (tOp rMul (tOp rNxM (tOp (rIxL K) (tVar 3) (tOp rNxM (tVar 2) (tCB (rLen K) (tCons (tVar 3) tNil)))) (tC (.int 2147483647)))
      (tOp rNxA (tC (.int 1)) (tOp rNxD (tVar 2) (tCB (rLen K) (tCons (tVar 3) tNil)))))) (gName 4)) tNext) tNext)
  (tSeq (tRet (tOp rNxM (tOp rNxD (tOp rNxM (tOp rMul (tVar 4) (tC (.int 48271))) (tC (.int 2147483647))) (tC (.int 7))) (tVar 1))) tNext)))))
theorem ints_eqv_nil (c : List Int) : PyData.eqv (.list (c.map .int)) (.list []) = decide (c = []) := by
  cases c with
  | nil => rfl
  | cons x r => simp [PyData.eqv, PyData.eqvAll]
theorem dp_ints (K : PySem.W.Frag) (H : Hp) : ∀ c : List Int, DpAll K H (c.map V.int) (c.map .int)
  | [] => .nil
  | x :: r => .cons (.int x) (dp_ints K H r)
theorem ints_shaped (c : List Int) : SeqAt.shaped (.list (c.map .int)) = true := by
  have h1 : ∀ c : List Int, PyData.canLayAll0 (c.map .int) = true := fun c => by
    induction c with
    | nil => rfl
    | cons x r ih => simp [PyData.canLayAll0, PyData.canLay0, ih]
  have h2 : ∀ c : List Int, PyData.depthAll (c.map .int) ≤ 1 := fun c => by
    induction c with
    | nil => simp [PyData.depthAll]
    | cons x r ih => simp only [List.map_cons, PyData.depthAll, PyData.depth]; omega
  show (PyData.canLay0 (.list (c.map .int)) && decide (PyData.depth (.list (c.map .int)) ≤ 64)) = true
  rw [Bool.and_eq_true]
  refine ⟨by simp only [PyData.canLay0]; exact h1 c, decide_eq_true ?_⟩
  have := h2 c
  simp only [PyData.depth]; omega
theorem mul_ok1 {i j : Int} (h : -(2 ^ 64) < i ∧ i < 2 ^ 64) : OL.MulOk i j := .inl (.inl h)
theorem mul_ok2 {i j : Int} (h : -(2 ^ 64) < j ∧ j < 2 ^ 64) : OL.MulOk i j := .inl (.inr h)
theorem log2_small {i : Int} (h : i.natAbs < 2 ^ 64) : i.natAbs.log2 < 9000 := Nat.lt_of_lt_of_le (PySem.Flt.log2_lt_of (by decide) h) (by decide)
theorem run_next {K : PySem.W.Frag} {vs : List V} {H : Hp} {Q : VK} {E : XK} (h : spS K 2 pr_next vs H Q E) : tNx K { nx := fun _ H' => Q .non H', rt := Q } (L2.start ["_law_state", "_law_many", "_law_k", "_law_cells", "_law_base"] vs) H := by
  obtain ⟨B, a, ws, c, ns, ds, k, r, k', rfl, ⟨mm, x, rfl, hx, rfl⟩, hl, g, hS, rs, q⟩ := h
  obtain ⟨⟨h0, h1, h2, h3⟩, rfl, rfl⟩ := nx_some hx
  cases rs with | cons r1 rs =>
  cases rs
  cases r1
  obtain ⟨hb, ca, nv, hh, hq, hn⟩ := hS
  have gg := DGet.k (k := .inr "at") hh
  rw [st_at] at gg
  -- state['at'] = state['at'] + 1
  refine ⟨_, rfl, a, _, rfl, gg, k, 1, rfl, rfl, _, rfl, a, _, rfl, DPut.k (k := .inr "at") hh st_len, ?_⟩
  rw [st_put]
  have hh2 : upd H a (.dK (stKvs (.ref ca) (k + 1) nv)) a = some (.dK (stKvs (.ref ca) (k + 1) nv)) := upd_same
  have g2 := DGet.k (k := .inr "at") hh2
  rw [st_at] at g2
  have g3 := DGet.k (k := .inr "cells") hh2
  rw [st_cells] at g3
  have gB : Gr B (upd H a (.dK (stKvs (.ref ca) (k + 1) nv))) := g.mut hb
  have hqH := gB.sqL hq
  refine ⟨_, rfl, a, _, rfl, g2, ?_⟩
  refine ⟨_, rfl, a, _, rfl, g3, ?_⟩
  -- base
  refine ⟨_, rfl, 31, k + 1, rfl, rfl, mul_ok1 (by decide), _, rfl, 31 * (k + 1), k + 1, rfl, rfl, mul_ok2 (by omega), _, rfl, 7919, k + 1, rfl, rfl, mul_ok1 (by decide), _, _, rfl, rfl, ?_⟩
  -- cells != []
  refine ⟨_, rfl, Nat.zero_le _, fun p np => ?_⟩
  have gP : Gr (upd H a (.dK (stKvs (.ref ca) (k + 1) nv))) (upd (upd H a (.dK (stKvs (.ref ca) (k + 1) nv))) p (.lst [])) := Gr.new np
  have hnp : a ≠ p := ne_of_none hh2 np
  refine ⟨.list (c.map .int), .list [], .lst (gP.sqL hqH) (dp_ints K _ c), .lst (SqL.of upd_same) .nil, ints_shaped c, ints_shaped [], _, rfl, ?_⟩
  rw [ints_eqv_nil]
  -- the end, from any base
  have fin : ∀ b : Int, b = nxB c (k + 1) → ∀ (w1 w2 w3 : Option V) (H3 : Hp), H3 = upd (upd H a (.dK (stKvs (.ref ca) (k + 1) nv))) p (.lst []) →
      tSeq (tRet (tOp rNxM (tOp rNxD (tOp rNxM (tOp rMul (tVar 4) (tC (.int 48271))) (tC (.int 2147483647))) (tC (.int 7))) (tVar 1))) tNext { nx := fun _ H' => Q .non H', rt := Q } [some (.ref a), some (.int mm), w2, w3, some (.int b)] H3 := fun b hbE w1 w2 w3 H3 e3 => by
    refine ⟨_, rfl, b, 48271, rfl, rfl, mul_ok2 (by decide), _, _, rfl, rfl, (by decide : (0 : Int) < 2147483647), _, 7, rfl, rfl, ⟨by decide, by decide⟩, _, rfl, _, mm, rfl, rfl, h2, ?_⟩
    subst e3
    refine q _ B _ (Gr.refl B) (gB.trans gP) (fun b o ne e => ?_) ?_ (fun b o e e0 => by rw [e] at e0; cases e0) ?_
    · rw [upd_ne (fun z => by rw [z] at e; rw [upd_ne (fun z2 => hnp z2.symm)] at np; rw [np] at e; cases e), upd_ne ne]; exact e
    · exact ⟨hb, ca, nv, by rw [upd_ne hnp, upd_same], hq, hn⟩
    · rw [hbE]; exact .int _
  by_cases hc : c = []
  · rw [decide_eq_true hc]
    refine iteF ?_
    refine fin _ ?_ none _ _ _ rfl
    subst hc
    unfold nxB
    have z : atI ([] : List Int) ((k + 1) % (([] : List Int).length : Int)) = none := by
      unfold atI
      cases ixN ([] : List Int).length ((k + 1) % (([] : List Int).length : Int)) with
      | none => rfl
      | some j => rfl
    rw [z]
    show 31 * (k + 1) * (k + 1) + 7919 * (k + 1) = 31 * (k + 1) * (k + 1) + 7919 * (k + 1) + 0
    rw [Int.add_zero]
  · rw [decide_eq_false hc]
    refine iteT ?_
    have lc : 0 < c.length := List.length_pos_iff.mpr hc
    have hL : (c.map V.int).length = c.length := List.length_map ..
    have hj : ∃ z, atI c ((k + 1) % (c.length : Int)) = some z := by
      have p0 : 0 ≤ (k + 1) % (c.length : Int) := Int.emod_nonneg _ (by omega)
      have p1 : (k + 1) % (c.length : Int) < c.length := Int.emod_lt_of_pos _ (by omega)
      have e := atI_nat (xs := c) (j := ((k + 1) % (c.length : Int)).toNat) (v := c[((k + 1) % (c.length : Int)).toNat]'(by omega)) (List.getElem?_eq_getElem (by omega))
      rw [Int.toNat_of_nonneg p0] at e
      exact ⟨_, e⟩
    obtain ⟨z, hz⟩ := hj
    have sq := gP.sqL hqH
    refine ⟨_, rfl, _, rfl, _, rfl, _, rfl, .inl ⟨ca, _, rfl, .inl sq, k + 1, c.length, rfl, ?_, ?_, ca, _, _, .int z, rfl, rfl, sq, ?_, z, 2147483647, rfl, rfl, (by show (0 : Int) < 2147483647; decide), _, rfl, _, rfl, .inl ⟨ca, _, rfl, .inl sq, k + 1, c.length, rfl, ?_, ?_, 1, _, rfl, rfl, _, _, rfl, rfl, ?_, _, _, rfl, rfl, ?_⟩⟩⟩
    · rw [hL]
    · show (0 : Int) < (c.length : Int); omega
    · rw [atI_map, hz]; rfl
    · rw [hL]
    · refine ⟨by show (0 : Int) < (c.length : Int); omega, log2_small ?_⟩
      rw [Int.natAbs_natCast]
      exact Nat.lt_of_le_of_lt h3 (by decide)
    · refine mul_ok1 ?_
      have q1 := Int.emod_nonneg z (show (2147483647 : Int) ≠ 0 by decide)
      have q2 := Int.emod_lt_of_pos z (show (0 : Int) < 2147483647 by decide)
      omega
    · refine fin _ ?_ none _ _ _ rfl
      unfold nxB
      rw [hz]
end OL

set_option Elab.async false
set_option linter.all false
set_option maxRecDepth 100000
set_option maxHeartbeats 2000000
namespace OL
open PySem PySem.Spec PyProof.Rows L2
section
variable {K : PySem.W.Frag} {α β τ l ρ : Type} {sd : List SD} {ta tb te : TE} [Enc ρ] {ts tu : TS}
theorem Rel.initS {B H : Hp} {N : List Str} {a : Addr} {c : List Int} {ns : Option (List Str)} {k : Int} {vs : List V} {ds : List PyData} (hN : 0 < N.length) (g : Gr B H) (hS : StAt K B H a c ns k) (r : Rps K B vs ds) :
    Rel K ⟨H, B, some (a, c, ns), []⟩ (L2.start N (.ref a :: vs)) B H (.sr c ns :: sd0 (N.length - 1) ds) k := by
  have z := r.len
  have hst : L2.start N (.ref a :: vs) = some (.ref a) :: (vs.map some ++ List.replicate (N.length - 1 - vs.length) none) := by
    unfold L2.start
    rw [List.map_cons, List.cons_append, List.length_cons, Nat.add_comm vs.length 1, Nat.sub_add_eq]
  have own : ∀ (i : Nat) (d : SD), (SD.sr c ns :: sd0 (N.length - 1) ds)[i]? = some d → d.own = false := fun i d e => by
    cases i with
    | zero => cases e; rfl
    | succ i =>
      have e : (sd0 (N.length - 1) ds)[i]? = some d := e
      unfold sd0 at e
      by_cases c : i < ds.length
      · rw [List.getElem?_append_left (by rw [List.length_map]; exact c), List.getElem?_map] at e
        obtain ⟨d', hd, rfl⟩ := Option.map_eq_some_iff.mp e
        rfl
      · rw [List.getElem?_append_right (by rw [List.length_map]; omega), List.length_map, List.getElem?_replicate] at e
        by_cases c2 : i - ds.length < N.length - 1 - ds.length
        · rw [if_pos c2] at e; cases e; rfl
        · rw [if_neg c2] at e; cases e
  refine ⟨?_, g, Gr.refl B, fun b o e e0 => ?_, fun b o e _ => e, fun p hp => (nomatch hp), fun i d e => ?_, fun i j d e b ne h1 h2 w1 w2 s1 s2 => ?_, fun s e => ?_, fun i d b s h w s1 e => ?_⟩
  · rw [hst]
    unfold sd0
    simp only [List.length_append, List.length_map, List.length_replicate, List.length_cons]; omega
  · have e1 : B b = none := e0
    rw [e] at e1; cases e1
  · rw [hst]
    cases i with
    | zero => cases e; exact ⟨_, rfl, a, rfl, rfl⟩
    | succ i =>
      have e : (sd0 (N.length - 1) ds)[i]? = some d := e
      show ∃ o, (vs.map some ++ List.replicate (N.length - 1 - vs.length) none)[i]? = some o ∧ _
      unfold sd0 at e
      by_cases c : i < ds.length
      · rw [List.getElem?_append_left (by rw [List.length_map]; exact c), List.getElem?_map] at e
        rw [List.getElem?_append_left (by rw [List.length_map]; omega), List.getElem?_map]
        obtain ⟨d', hd, rfl⟩ := Option.map_eq_some_iff.mp e
        obtain ⟨v, hv, rv⟩ := r.get hd
        exact ⟨some v, by rw [hv]; rfl, v, rfl, rv⟩
      · rw [List.getElem?_append_right (by rw [List.length_map]; omega), List.length_map, List.getElem?_replicate] at e
        rw [List.getElem?_append_right (by rw [List.length_map]; omega), List.length_map, List.getElem?_replicate]
        by_cases c2 : i - ds.length < N.length - 1 - ds.length
        · rw [if_pos c2] at e; cases e
          rw [if_pos (by omega)]
          exact ⟨none, rfl, trivial⟩
        · rw [if_neg c2] at e; cases e
  · rw [own i d h1] at w1; cases w1
  · cases e; exact ⟨hS, fun p hp => (nomatch hp)⟩
  · rw [own i d h] at w; cases w
/-- the end of a drawing def's proof -/
theorem fin_draw {N : List Str} {n : Nat} {pre : List Int → Option (List Str) → List PyData → Int → PyData → Int → Prop} {vs : List V} {H : Hp} {Q : VK} {E : XK} (hN : 0 < N.length) (h : spS K n pre vs H Q E)
    (hb : ∀ c ns ds k r k', pre c ns ds k r k' → ∃ (ρ : Type) (_ : Enc ρ) (x : Sm (Fl Empty Empty ρ)) (z : ρ), EvS K ts (.sr c ns :: sd0 (N.length - 1) ds) noEnd noEnd x ∧ x k = some (.rt z, k') ∧ enc z = r) : ts { nx := fun _ H' => Q .non H', rt := Q } (L2.start N vs) H := by
  obtain ⟨B, a, ws, c, ns, ds, k, r, k', rfl, hp, hn, g, hS, rs, q⟩ := h
  obtain ⟨ρ, i, x, z, hx, ex, rfl⟩ := hb c ns ds k r k' hp
  refine hx _ _ B H k (Rel.initS hN g hS rs) (.rt z) k' ex _ fun v σ' B' H' sd' R' g' rv => ?_
  obtain ⟨hS', _⟩ := R'.st _ rfl
  exact q v B' H' R'.b0 R'.bh (fun b o ne e => R'.fr b o e fun s es z => by cases es; exact ne z.symm) hS' (fun b o e e0 => R'.bn b o e e0) rv
/-- the same of a body that begins a state of its own: no state ahead -/
def EvS0 (K : PySem.W.Frag) (ts : TS) (sd : List SD) (x : Sm (Fl Empty Empty ρ)) : Prop := ∀ (F : Fr) (σ : L2.St) (B H : Hp) (k : Int), F.sa = none → Rel K F σ B H sd k → ∀ (r : ρ) (k' : Int), x k = some (.rt r, k') →
  ∀ D : Ends, (∀ v B' H', Gr B B' → Gr B' H' → (∀ a o, B' a = some o → F.B0 a = none → F.H0 a = none) → (∀ a o, F.H0 a = some o → H' a = some o) → Rp K B' v (enc r) → D.rt v H') → ts D σ H
theorem es0_of {x : Sm (Fl Empty Empty ρ)} (h : EvS K ts sd noEnd noEnd x) : EvS0 K ts sd x := fun F σ B H k hs R r k' e D q =>
  h F σ B H k R (.rt r) k' e D fun v σ' B' H' sd' R' g rv => q v B' H' g R'.bh (fun a o e e0 => R'.bn a o e e0) (fun a o e => R'.fr a o e fun s es => by rw [hs] at es; cases es) rv
theorem es0_set [Enc α] {i : Nat} {x : Sm α} {f : α → Sm (Fl Empty Empty ρ)} (h : EvM K te sd x) (hf : ∀ a, EvS0 K tu (sd.set i (.dat (enc a))) (f a)) : EvS0 K (tSeq (tAsg te (gName i)) tu) sd (Mn.bnd x f) := fun F σ B H k hs R r k' e D q => by
  obtain ⟨a, k1, e1, e2⟩ := bnd_some (m := Sm) e
  exact h F σ B H k R a k1 e1 _ fun v B' H' R' g rv => hf a F _ B' H' k1 hs (R'.setDat rv) r k' e2 D fun v' B2 H2 g2 => q v' B2 H2 (g.trans g2)
theorem es0_seq {mid : τ → List SD} {x : Sm (Fl τ Empty ρ)} {f : τ → Sm (Fl Empty Empty ρ)} (h : EvS K ts sd mid noEnd x) (hf : ∀ t, EvS0 K tu (mid t) (f t)) : EvS0 K (tSeq ts tu) sd (andThen x f) := fun F σ B H k hs R r k' e D q => by
  unfold andThen at e
  obtain ⟨a, k1, e1, e2⟩ := bnd_some (m := Sm) e
  refine h F σ B H k R a k1 e1 _ ?_
  cases a with
  | nx t => exact fun σ' B' H' R' g => hf t F σ' B' H' k1 hs R' r k' e2 D fun v' B2 H2 g2 => q v' B2 H2 (g.trans g2)
  | bk t => exact t.elim
  | ct t => exact t.elim
  | rt t =>
    obtain ⟨e3, rfl⟩ := pur_some (m := Sm) e2
    cases e3
    exact fun v σ' B' H' sd' R' g rv => q v B' H' g R'.bh (fun a o e e0 => R'.bn a o e e0) (fun a o e => R'.fr a o e fun s es => by rw [hs] at es; cases es) rv
/-- a new state's promise: of the cells (a list that is read), a state with so many draws made, with names -/
def spB (K : PySem.W.Frag) (ok : List Int → List Str → Int → Prop) : Sp := fun vs H Q _ => ∃ (B : Hp) (a : Addr) (c : List Int), vs = [.ref a] ∧ c.length ≤ 1000 ∧ Gr B H ∧ SqL K B a (c.map V.int) ∧
  ∀ p B' H' ns k, Gr B B' → Gr B' H' → Gr H H' → (∀ b o, B' b = some o → B b = none → H b = none) → H p = none → StAt K B' H' p c (some ns) k → ok c ns k → Q (.ref p) H'
/-- what a new state brings -/
def beg (ok : List Int → List Str → Int → Prop) (bg : List Int → Option (List Str × Int)) : Prop := ∀ c ns k, ok c ns k → bg c = some (ns, k)
class Cells (α : Type) [Enc α] where
  cells : α → List Int
  at_ : ∀ {K : PySem.W.Frag} {B : Hp} {v : V} {a : α}, Rp K B v (enc a) → ∃ p, v = .ref p ∧ SqL K B p ((cells a).map V.int)
instance : Cells Sc := ⟨Sc.ns, fun r => Rp.scr_inv r⟩
instance : Cells (List Int) := ⟨id, fun {K B v a} r => by
  obtain ⟨p, xs, rfl, hp, hs⟩ := Rp.lst_inv r
  have z := Rps.ints (ns := a) hs
  subst z
  exact ⟨p, rfl, SqL.of hp⟩⟩
/-- the rest of a body, over a new state; what it draws first is told by bg -/
def begun (bg : List Int → Option (List Str × Int)) (c : List Int) (f : List Str → Sm (Fl Empty Empty ρ)) : Sm (Fl Empty Empty ρ) := fun _ => if c.length ≤ 1000 then (bg c).bind fun p => f p.1 p.2 else none
theorem es_begun [Enc α] [Cells α] {i : Nat} {E : XK} {ok : List Int → List Str → Int → Prop} {bg : List Int → Option (List Str × Int)} {a : α} {f : List Str → Sm (Fl Empty Empty ρ)} {j : Nat} (hj : sd[j]? = some (.dat (enc a))) (hi : i < sd.length) (hok : beg ok bg)
    (hf : ∀ ns, EvS K tu (sd.set i (.sr (Cells.cells a) (some ns))) noEnd noEnd (f ns)) : EvS0 K (tSeq (tAsg (tCall (spB K ok) [] E (tCons (tVar j) tNil)) (gName i)) tu) sd (begun bg (Cells.cells a) f) := fun F σ B H k hs R r k' e D q => by
  obtain ⟨o, ho, v, rfl, ra⟩ := R.sl j _ hj
  obtain ⟨p, rfl, hp⟩ := Cells.at_ ra
  unfold begun at e
  by_cases hl : (Cells.cells a).length ≤ 1000
  · rw [if_pos hl] at e
    refine ⟨_, ho, B, p, Cells.cells a, rfl, hl, R.bh, hp, fun st B' H' ns k0 g1 g2 g3 hn hfree hS hk => ?_⟩
    have eb := hok _ _ _ hk
    rw [eb] at e
    have R1 := R.called g1 g2 g3 hn
    have fr := R.free hfree
    have R2 : Rel K { F with sa := some (st, Cells.cells a, some ns) } (σ.set i (some (.ref st))) B' H' (sd.set i (.sr (Cells.cells a) (some ns))) k0 := by
      have hl2 : sd.length = σ.length := R.len
      refine ⟨by rw [List.length_set, List.length_set]; exact R1.len, R1.bh, R1.b0, R1.bn, fun b o e _ => R1.fr b o e (fun s es => by rw [hs] at es; cases es), R1.ex, fun x d hx => ?_, fun x y d e b ne h1 h2 w1 w2 s1 s2 => ?_, fun s es => ?_, fun x d b s hx w s1 es => ?_⟩
      · by_cases c : i = x
        · subst c
          rw [List.getElem?_set_self hi] at hx; cases hx
          exact ⟨_, List.getElem?_set_self (by omega), st, rfl, rfl⟩
        · rw [List.getElem?_set_ne c] at hx ⊢
          obtain ⟨o, ho, h⟩ := R1.sl x d hx
          refine ⟨o, ho, ?_⟩
          cases d with
          | sr c n => obtain ⟨z, _, hz⟩ := h; rw [hs] at hz; cases hz
          | un => trivial
          | dat d => exact h
          | lst ds => exact h
      · have key : ∀ (z : Nat) (d : SD), (sd.set i (.sr (Cells.cells a) (some ns)))[z]? = some d → d.own = true → i ≠ z := fun z d hz w c => by
          subst c; rw [List.getElem?_set_self hi] at hz; cases hz; cases w
        have c1 := key x d h1 w1
        have c2 := key y e h2 w2
        rw [List.getElem?_set_ne c1] at h1 s1
        rw [List.getElem?_set_ne c2] at h2 s2
        exact R1.ap x y d e b ne h1 h2 w1 w2 s1 s2
      · cases es
        exact ⟨hS, fun z hz c => fr.ex z hz c⟩
      · cases es
        have c1 : i ≠ x := fun c => by
          subst c; rw [List.getElem?_set_self hi] at hx; cases hx; cases w
        rw [List.getElem?_set_ne c1] at hx s1
        exact fun z => fr.un x d hx w (by rw [s1, ← show st = b from z])
    refine hf ns _ _ B' H' k0 R2 (.rt r) k' e D fun v' σ' B2 H2 sd' R' g' rv => ?_
    exact q v' B2 H2 (g1.trans g') R'.bh (fun b o e e0 => R'.bn b o e e0) (fun b o e => R'.fr b o e fun s es z => by
      cases es
      have e2 : F.H0 b = some o := e
      rw [← show st = b from z, fr.h0] at e2; cases e2) rv
  · rw [if_neg hl] at e; cases e
theorem fin_pure0 {N : List Str} {n : Nat} {pre : List PyData → PyData → Prop} {vs : List V} {H : Hp} {Q : VK} {E : XK} (h : spP K n pre vs H Q E)
    (hb : ∀ ds r, pre ds r → ∃ (ρ : Type) (_ : Enc ρ) (x : Sm (Fl Empty Empty ρ)) (z : ρ) (k' : Int), EvS0 K ts (sd0 N.length ds) x ∧ x 0 = some (.rt z, k') ∧ enc z = r) : ts { nx := fun _ H' => Q .non H', rt := Q } (L2.start N vs) H := by
  obtain ⟨B, ds, r, hp, hn, g, rs, q⟩ := h
  obtain ⟨ρ, i, x, z, k', hx, ex, rfl⟩ := hb ds r hp
  refine hx ⟨H, B, none, []⟩ _ B H 0 rfl (Rel.init g rs) z k' ex _ fun v B' H' g1 g2 hn hk rv => ?_
  exact q v B' H' g1 g2 hk (fun a o e e0 => hn a o e e0) rv
def fin0 {ρ : Type} (x : Sm (Fl Empty Empty ρ)) : Option ρ := (finS x 0).map (·.1)
theorem fin0_some {ρ : Type} [Enc ρ] {x : Sm (Fl Empty Empty ρ)} {r : ρ} (h : fin0 x = some r) : ∃ k', x 0 = some (.rt r, k') := by
  unfold fin0 at h
  obtain ⟨p, hp, rfl⟩ := Option.map_eq_some_iff.mp h
  exact ⟨p.2, finS_some hp⟩
end
end OL

set_option Elab.async false
set_option linter.all false
set_option maxRecDepth 100000
set_option maxHeartbeats 2000000
namespace OL
open PySem PySem.Spec PyProof.Rows L2
def sdA (n : Nat) (c : List Int) : List SD := .un :: .sr c none :: List.replicate n .un
def bgM (x2 : List Int → Sm Str) (x3 : List Int → Str → Sm Int) (x4 : List Int → Str → Int → Sm (List Str)) (c : List Int) : Sm (List Str) := Mn.bnd (x2 c) fun r => Mn.bnd (x3 c r) fun a => x4 c r a
def tBg (te2 te3 te4 : TE) (i2 i3 : Nat) : TS := tSeq (tAsg (tDisp [(tC (.str "cells"), tVar 0), (tC (.str "at"), tC (.int 0))]) (gName 1)) (tSeq (tAsg te2 (gName i2)) (tSeq (tAsg te3 (gName i3)) (tSeq (sDPut (tVar 1) (tC (.str "names")) te4) (tSeq (tRet (tVar 1)) tNext))))
theorem run_begun {K : PySem.W.Frag} {te2 te3 te4 : TE} {i2 i3 n : Nat} {x2 : List Int → Sm Str} {x3 : List Int → Str → Sm Int} {x4 : List Int → Str → Int → Sm (List Str)} {N : List Str} (hN : N.length = n + 2) (hi2 : i2 ≠ 1) (hi3 : i3 ≠ 1)
    (h2 : ∀ c, EvM K te2 (sdA n c) (x2 c)) (h3 : ∀ c r, EvM K te3 ((sdA n c).set i2 (.dat (enc r))) (x3 c r)) (h4 : ∀ c r a, EvF K te4 (((sdA n c).set i2 (.dat (enc r))).set i3 (.dat (enc a))) (x4 c r a))
    (tot : ∀ c : List Int, c.length ≤ 1000 → ∃ ns k, bgM x2 x3 x4 c 0 = some (ns, k)) {vs : List V} {H : Hp} {Q : VK} {E : XK} (h : spB K (fun c ns k => bgM x2 x3 x4 c 0 = some (ns, k)) vs H Q E) :
    tBg te2 te3 te4 i2 i3 { nx := fun _ H' => Q .non H', rt := Q } (L2.start N vs) H := by
  obtain ⟨B, a, c, rfl, hl, g, hq, q⟩ := h
  obtain ⟨ns, k, hb⟩ := tot c hl
  have hb0 := hb
  unfold bgM at hb
  obtain ⟨r, k2, e2, e⟩ := bnd_some (m := Sm) hb
  obtain ⟨z, k3, e3, e4⟩ := bnd_some (m := Sm) e
  have hst : L2.start N [.ref a] = some (.ref a) :: none :: List.replicate n none := by
    unfold L2.start
    show some (V.ref a) :: List.replicate (N.length - 1) none = _
    rw [hN]; rfl
  rw [hst]
  intro p hp
  refine ⟨_, rfl, upd_same, [(.inr "cells", .ref a), (.inr "at", .int 0)], rfl, (by decide : 2 ≤ 15), ?_⟩
  rw [upd_upd]
  have ek : mergeK [] [((.inr "cells" : Key), V.ref a), (.inr "at", .int 0)] = stKvs (.ref a) 0 none := rfl
  rw [ek]
  show tSeq _ _ _ (some (V.ref a) :: some (V.ref p) :: List.replicate n none) _
  have nb : B p = none := g.back hp
  have gB : Gr B (upd H p (.dK (stKvs (.ref a) 0 none))) := g.mut nb
  have R0 : Rel K ⟨H, B, some (p, c, none), []⟩ (some (V.ref a) :: some (V.ref p) :: List.replicate n none) B (upd H p (.dK (stKvs (.ref a) 0 none))) (sdA n c) 0 := by
    have own : ∀ (i : Nat) (d : SD), (sdA n c)[i]? = some d → d.own = false := fun i d e => by
      match i, e with
      | 0, e => cases e; rfl
      | 1, e => cases e; rfl
      | i + 2, e =>
        have e : (List.replicate n SD.un)[i]? = some d := e
        rw [List.getElem?_replicate] at e
        by_cases c2 : i < n
        · rw [if_pos c2] at e; cases e; rfl
        · rw [if_neg c2] at e; cases e
    refine ⟨?_, gB, Gr.refl B, fun b o e e0 => ?_, fun b o e s => ?_, fun p hp => (nomatch hp), fun i d e => ?_, fun i j d e b ne h1 h2 w1 w2 s1 s2 => ?_, fun s e => ?_, fun i d b s h w s1 e => ?_⟩
    · unfold sdA; simp
    · have e1 : B b = none := e0
      rw [e] at e1; cases e1
    · rw [upd_ne (fun z => s _ rfl z.symm)]; exact e
    · match i, e with
      | 0, e => cases e; exact ⟨_, rfl, trivial⟩
      | 1, e => cases e; exact ⟨_, rfl, p, rfl, rfl⟩
      | i + 2, e =>
        have e : (List.replicate n SD.un)[i]? = some d := e
        show ∃ o, (List.replicate n none)[i]? = some o ∧ _
        rw [List.getElem?_replicate] at e ⊢
        by_cases c2 : i < n
        · rw [if_pos c2] at e ⊢; cases e; exact ⟨none, rfl, trivial⟩
        · rw [if_neg c2] at e; cases e
    · rw [own i d h1] at w1; cases w1
    · cases e; exact ⟨⟨nb, a, none, upd_same, hq, trivial⟩, fun z hz => (nomatch hz)⟩
    · rw [own i d h] at w; cases w
  refine h2 c _ _ B _ 0 R0 r k2 e2 _ fun v2 B2 H2 R2 g2 r2 => ?_
  refine h3 c r _ _ B2 H2 k2 (R2.setDat r2) z k3 e3 _ fun v3 B3 H3 R3 g3 r3 => ?_
  have R3' := R3.setDat (i := i3) r3
  refine h4 c r z _ _ B3 H3 k3 R3' ns k e4 _ fun l ws B4 H4 R4 g4 f4 hl4 rs4 => ?_
  have s1 : ∀ (σ : L2.St) (x y : Option V), σ[1]? = some (some (.ref p)) → ((σ.set i2 x).set i3 y)[1]? = some (some (.ref p)) := fun σ x y hs => by
    rw [List.getElem?_set_ne hi3, List.getElem?_set_ne hi2]; exact hs
  have s0 := s1 (some (V.ref a) :: some (V.ref p) :: List.replicate n none) (some v2) (some v3) rfl
  obtain ⟨⟨b4, ca, nv, hh, hq4, hn4⟩, _⟩ := R4.st _ rfl
  have env : nv = none := by
    cases nv with
    | none => rfl
    | some w => exact hn4.elim
  subst env
  -- the list of names becomes data
  have R5 := R4.freeze f4 hl4
  have g5 : Gr B4 (upd B4 l (.lst ws)) := Gr.new f4.b
  have npl : p ≠ l := f4.sa _ rfl
  refine ⟨_, s0, p, _, rfl, DPut.k (k := .inr "names") hh (by exact (by decide : 2 < sizeLine)), ?_⟩
  rw [st_putN]
  refine ⟨_, s0, ?_⟩
  refine q p (upd B4 l (.lst ws)) _ ns k (((g2.trans g3).trans g4).trans g5) ?_ (fun b o e => ?_) (fun b o e e0 => R5.bn b o e e0) hp ?_ hb0
  · exact R5.bh.mut (by rw [upd_ne npl]; exact b4)
  · rw [upd_ne (ne_of_none e hp)]
    exact R5.fr b o e fun s es z => by
      cases es
      rw [← show p = b from z, hp] at e; cases e
  · refine ⟨by rw [upd_ne npl]; exact b4, ca, some (.ref l), upd_same, g5.sqL hq4, ?_⟩
    exact .lst upd_same (rs4.gr g5)
end OL

set_option Elab.async false
set_option linter.all false
set_option maxRecDepth 100000
set_option maxHeartbeats 1000000
/-! the mathematics of mirrors: how they are read -/
namespace OL
open PySem PySem.Spec PyProof.Rows L2
section
variable {α β τ l ρ : Type}
theorem pbO (a : α) (f : α → Option β) : Mn.bnd (Mn.pur a) f = f a := by rw [bnd_opt, pur_opt]; rfl
theorem sbO (a : α) (f : α → Option β) : Mn.bnd (some a) f = f a := by rw [bnd_opt]; rfl
theorem pbS (a : α) (f : α → Sm β) : Mn.bnd (Mn.pur a) f = f a := by funext k; rw [bnd_sm, pur_sm]; rfl
theorem gd_y {m : Type → Type} [Mn m] {p : Prop} [Decidable p] (h : p) (x : m α) : gd p x = x := by unfold gd; rw [if_pos h]
theorem liftO (o : Option α) : (lift o : Option α) = o := by
  cases o with
  | none => unfold lift; exact fl_opt
  | some a => unfold lift; exact pur_opt a
theorem cnd_t {ω : Type} (x y : ω) : cnd true x y = x := rfl
theorem cnd_f {ω : Type} (x y : ω) : cnd false x y = y := rfl
theorem andThen_nx {τ' : Type} (t : τ) (f : τ → Option (Fl τ' l ρ)) : andThen (some (.nx t)) f = f t := by unfold andThen; rw [bnd_opt]; rfl
theorem andThen_rt {τ' : Type} (r : ρ) (f : τ → Option (Fl τ' l ρ)) : andThen (some (.rt r)) f = some (.rt r) := by unfold andThen; rw [bnd_opt]; exact pur_opt _
theorem andThen_bk {τ' : Type} (r : l) (f : τ → Option (Fl τ' l ρ)) : andThen (some (.bk r)) f = some (.bk r) := by unfold andThen; rw [bnd_opt]; exact pur_opt _
theorem andThen_ct {τ' : Type} (r : l) (f : τ → Option (Fl τ' l ρ)) : andThen (some (.ct r)) f = some (.ct r) := by unfold andThen; rw [bnd_opt]; exact pur_opt _
theorem fin_rt [Enc ρ] (r : ρ) : fin (some (.rt r)) = some r := rfl
/-- a while's turn, a while's end -/
theorem whl_go {c : τ → Option Bool} {b : τ → Option (Fl τ τ ρ)} {n : Nat} {t t' : τ} (h : c t = some true) (hb : b t = some (.nx t')) : (whl c b (n + 1) t : Option (Fl τ l ρ)) = whl c b n t' := by
  rw [whl_succ, h, sbO]; show Mn.bnd (b t) _ = _; rw [hb, sbO]
theorem whl_end {c : τ → Option Bool} {b : τ → Option (Fl τ τ ρ)} {n : Nat} {t : τ} (h : c t = some false) : (whl c b (n + 1) t : Option (Fl τ l ρ)) = some (.nx t) := by
  rw [whl_succ, h, sbO]; exact pur_opt _
/-- a while by its measure: an invariant, a turn, an end -/
theorem whl_inv {c : τ → Option Bool} {b : τ → Option (Fl τ τ ρ)} (I : τ → Prop) (mu : τ → Nat) (fin : τ → τ) (hgo : ∀ t, I t → c t = some true → ∃ t', b t = some (.nx t') ∧ I t' ∧ mu t' < mu t ∧ fin t' = fin t) (hc : ∀ t, I t → c t = some true ∨ (c t = some false ∧ fin t = t)) :
    ∀ (n : Nat) (t : τ), I t → mu t < n → (whl c b n t : Option (Fl τ l ρ)) = some (.nx (fin t)) := by
  intro n
  induction n with
  | zero => intro t _ h; omega
  | succ n ih =>
    intro t it hm
    rcases hc t it with h | ⟨h, e⟩
    · obtain ⟨t', hb, it', hl, hf⟩ := hgo t it h
      rw [whl_go h hb, ih t' it' (by omega), hf]
    · rw [whl_end h, e]
/-- the same, the end told by the invariant -/
theorem whl_ex {c : τ → Option Bool} {b : τ → Option (Fl τ τ ρ)} (I : τ → Prop) (mu : τ → Nat) (hgo : ∀ t, I t → c t = some true → ∃ t', b t = some (.nx t') ∧ I t' ∧ mu t' < mu t) (hc : ∀ t, I t → c t = some true ∨ c t = some false) :
    ∀ (n : Nat) (t : τ), I t → mu t < n → ∃ t', (whl c b n t : Option (Fl τ l ρ)) = some (.nx t') ∧ I t' ∧ c t' = some false := by
  intro n
  induction n with
  | zero => intro t _ h; omega
  | succ n ih =>
    intro t it hm
    rcases hc t it with h | h
    · obtain ⟨t', hb, it', hl⟩ := hgo t it h
      rw [whl_go h hb]
      exact ih t' it' (by omega)
    · exact ⟨t, whl_end h, it, h⟩
theorem andThen_whl {τ' : Type} {c : τ → Option Bool} {b : τ → Option (Fl τ τ ρ)} {f : τ → Option (Fl τ' l ρ)} {r : Option (Fl τ' l ρ)} (I : τ → Prop) (mu : τ → Nat) {n : Nat} {t : τ} (it : I t) (ht : mu t < n)
    (hgo : ∀ t, I t → c t = some true → ∃ t', b t = some (.nx t') ∧ I t' ∧ mu t' < mu t) (hc : ∀ t, I t → c t = some true ∨ c t = some false) (hf : ∀ t, I t → c t = some false → f t = r) : andThen (whl c b n t) f = r := by
  obtain ⟨t', e, i2, h2⟩ := whl_ex (l := l) I mu hgo hc n t it ht
  rw [e, andThen_nx]
  exact hf t' i2 h2
/-- for and comprehension over Option -/
theorem forL_all {b : τ → α → Option (Fl τ τ ρ)} {f : τ → α → τ} : ∀ (xs : List α) (t : τ) (I : τ → Prop), I t → (∀ t x, I t → x ∈ xs → b t x = some (.nx (f t x)) ∧ I (f t x)) → (forL b xs t : Option (Fl τ l ρ)) = some (.nx (xs.foldl f t)) := by
  intro xs
  induction xs with
  | nil => intro t I _ _; rw [forL_nil]; exact pur_opt _
  | cons x xs ih =>
    intro t I it h
    obtain ⟨e, i2⟩ := h t x it (.head _)
    rw [forL_cons, e, sbO]
    exact ih (f t x) I i2 fun t y it hy => h t y it (.tail _ hy)
theorem compL_map {p : α → Option Bool} {g : α → Option β} {f : α → β} : ∀ xs : List α, (∀ x ∈ xs, p x = some true ∧ g x = some (f x)) → compL p g xs = some (xs.map f) := by
  intro xs
  induction xs with
  | nil => intro _; rw [compL_nil]; exact pur_opt _
  | cons x xs ih =>
    intro h
    obtain ⟨h1, h2⟩ := h x (.head _)
    rw [compL_cons, h1, sbO]
    show Mn.bnd (g x) _ = _
    rw [h2, sbO, ih fun y hy => h y (.tail _ hy), sbO]; exact pur_opt _
/-- the shapes that == looks at -/
theorem shp_int (i : Int) : Shp (enc i) = true := rfl
theorem shp_ints (xs : List Int) : Shp (.tuple (xs.map enc)) = true := by
  have h1 : ∀ c : List Int, PyData.canLayAll0 (c.map .int) = true := fun c => by
    induction c with
    | nil => rfl
    | cons x r ih => simp [PyData.canLayAll0, PyData.canLay0, ih]
  have h2 : ∀ c : List Int, PyData.depthAll (c.map .int) ≤ 1 := fun c => by
    induction c with
    | nil => simp [PyData.depthAll]
    | cons x r ih => simp only [List.map_cons, PyData.depthAll, PyData.depth]; omega
  have h3 : ∀ c : List Int, noDs (c.map .int) = true := fun c => by
    induction c with
    | nil => rfl
    | cons x r ih => rw [List.map_cons, noDs, ih]; rfl
  unfold Shp
  rw [Bool.and_eq_true]
  constructor
  · show (PyData.canLay0 (.tuple (xs.map .int)) && decide (PyData.depth (.tuple (xs.map .int)) ≤ 64)) = true
    rw [Bool.and_eq_true]
    refine ⟨by simp only [PyData.canLay0]; exact h1 xs, decide_eq_true ?_⟩
    have := h2 xs
    simp only [PyData.depth]; omega
  · rw [noD]; exact h3 xs
theorem shp_tl (t : Tl Int) : Shp (enc t) = true := shp_ints t.l
theorem shp_pr (t : Int × Int) : Shp (enc t) = true := shp_ints [t.1, t.2]
theorem eqv_ints : ∀ xs ys : List Int, PyData.eqvAll (xs.map .int) (ys.map .int) = decide (xs = ys)
  | [], [] => rfl
  | [], _ :: _ => rfl
  | _ :: _, [] => rfl
  | x :: xs, y :: ys => by
    rw [List.map_cons, List.map_cons, PyData.eqvAll, eqv_ints xs ys, PyData.eqv]
    by_cases h : x = y
    · subst h
      by_cases g : xs = ys
      · subst g; simp
      · simp [g]
    · simp [h]
theorem eqv_tl (a b : Tl Int) : PyData.eqv (enc a) (enc b) = decide (a = b) := by
  show PyData.eqv (.tuple (a.l.map .int)) (.tuple (b.l.map .int)) = _
  rw [PyData.eqv, eqv_ints]
  obtain ⟨x⟩ := a
  obtain ⟨y⟩ := b
  by_cases h : x = y
  · subst h; simp
  · rw [decide_eq_false h, decide_eq_false (fun z => h (Tl.mk.inj z))]
theorem eqv_pr (a b : Int × Int) : PyData.eqv (enc a) (enc b) = decide (a = b) := by
  show PyData.eqv (.tuple ([a.1, a.2].map .int)) (.tuple ([b.1, b.2].map .int)) = _
  rw [PyData.eqv, eqv_ints]
  obtain ⟨x, y⟩ := a
  obtain ⟨z, w⟩ := b
  by_cases h : ([x, y] : List Int) = [z, w]
  · cases h; simp
  · rw [decide_eq_false h, decide_eq_false]; intro z; cases z; exact h rfl
end
end OL

set_option Elab.async false
set_option linter.all false
set_option maxRecDepth 100000
set_option maxHeartbeats 1000000
/-! what a drawing function comes to, whatever is drawn -/
namespace OL
open PySem PySem.Spec PyProof.Rows L2
def W {α : Type} (x : Sm α) (k : Int) (P : α → Int → Prop) : Prop := ∃ a k', x k = some (a, k') ∧ P a k'
section
variable {α β τ τ' l ρ : Type} {k : Int}
theorem W.mono {x : Sm α} {P Q : α → Int → Prop} (h : W x k P) (hq : ∀ a k', P a k' → Q a k') : W x k Q := by
  obtain ⟨a, k', e, p⟩ := h
  exact ⟨a, k', e, hq a k' p⟩
theorem W.pur {a : α} {P : α → Int → Prop} (h : P a k) : W (Mn.pur a : Sm α) k P := ⟨a, k, pur_sm a k, h⟩
theorem W.bnd {x : Sm α} {f : α → Sm β} {P : β → Int → Prop} (h : W x k fun a k' => W (f a) k' P) : W (Mn.bnd x f) k P := by
  obtain ⟨a, k1, e, b, k2, e2, p⟩ := h
  exact ⟨b, k2, by rw [bnd_sm, e]; exact e2, p⟩
theorem W.gd {p : Prop} [Decidable p] {x : Sm α} {P : α → Int → Prop} (hp : p) (h : W x k P) : W (OL.gd p x) k P := by rw [gd_y hp]; exact h
theorem W.lift {o : Option α} {a : α} {P : α → Int → Prop} (e : o = some a) (h : P a k) : W (OL.lift o : Sm α) k P := by
  subst e
  refine ⟨a, k, ?_, h⟩
  unfold OL.lift; exact pur_sm a k
theorem W.nx {c : List Int} {mm : Int} {P : Int → Int → Prop} (hc : c.length ≤ 1000) (hk : 0 ≤ k ∧ k < 1000000000000) (hm : 0 < mm) (h : ∀ r, 0 ≤ r → r < mm → P r (k + 1)) : W (OL.nx c mm) k P := by
  refine ⟨nxV c (k + 1) mm, k + 1, ?_, h _ (Int.emod_nonneg _ (by omega)) (Int.emod_lt_of_pos _ hm)⟩
  unfold OL.nx
  rw [if_pos ⟨hk.1, hk.2, hm, hc⟩]
theorem W.andThen {x : Sm (Fl τ l ρ)} {f : τ → Sm (Fl τ' l ρ)} {P : Fl τ' l ρ → Int → Prop} (h : W x k fun r k' => match r with
    | .nx t => W (f t) k' P
    | .bk t => P (.bk t) k'
    | .ct t => P (.ct t) k'
    | .rt t => P (.rt t) k') : W (OL.andThen x f) k P := by
  unfold OL.andThen
  refine W.bnd (h.mono fun r k' hr => ?_)
  cases r with
  | nx t => exact hr
  | bk t => exact W.pur hr
  | ct t => exact W.pur hr
  | rt t => exact W.pur hr
/-- a loop that goes through -/
theorem W.forL {body : τ → α → Sm (Fl τ τ ρ)} {P : Fl τ l ρ → Int → Prop} (I : Nat → τ → Int → Prop) : ∀ (xs : List α) (i : Nat) (t : τ) (k : Int), I i t k → (∀ j t k x, i ≤ j → j < i + xs.length → I j t k → x ∈ xs → W (body t x) k fun r k' => ∃ t', r = .nx t' ∧ I (j + 1) t' k') → (∀ t k, I (i + xs.length) t k → P (.nx t) k) → W (OL.forL body xs t) k P := by
  intro xs
  induction xs with
  | nil => intro i t k it _ h; rw [forL_nil]; exact W.pur (h t k it)
  | cons x xs ih =>
    intro i t k it hb h
    rw [forL_cons]
    refine W.bnd ((hb i t k x (Nat.le_refl _) (by rw [List.length_cons]; omega) it (.head _)).mono fun r k' hr => ?_)
    obtain ⟨t', rfl, it'⟩ := hr
    exact ih (i + 1) t' k' it' (fun j t k y h0 h1 h2 hy => hb j t k y (by omega) (by rw [List.length_cons]; omega) h2 (.tail _ hy)) fun t k h2 => h t k (by rw [List.length_cons, show i + (xs.length + 1) = i + 1 + xs.length by omega]; exact h2)
theorem W.compL {f : α → Sm β} {Q : β → Prop} {P : List β → Int → Prop} (b : Int) : ∀ (xs : List α) (k : Int), (∀ k x, 0 ≤ k → k < b + xs.length → x ∈ xs → W (f x) k fun y k' => Q y ∧ k ≤ k' ∧ k' ≤ k + 1) → 0 ≤ k → k ≤ b → (∀ ys k', ys.length = xs.length → (∀ y ∈ ys, Q y) → k ≤ k' → k' ≤ k + xs.length → P ys k') → W (OL.compL (fun _ => Mn.pur true) f xs) k P := by
  intro xs
  induction xs generalizing b P with
  | nil => intro k _ _ _ h; rw [compL_nil]; exact W.pur (h [] k rfl (fun y hy => nomatch hy) (Int.le_refl _) (by simp))
  | cons x xs ih =>
    intro k hf h0 hb h
    rw [compL_cons]
    refine W.bnd (W.pur ?_)
    refine W.bnd ((hf k x h0 (by rw [List.length_cons]; omega) (.head _)).mono fun y k1 hy => ?_)
    obtain ⟨q, l1, l2⟩ := hy
    refine W.bnd (ih (b := b + 1) (P := fun ys k' => W (Mn.pur (y :: ys)) k' P) k1 (fun k2 z h2 h3 hz => hf k2 z h2 (by rw [List.length_cons]; omega) (.tail _ hz)) (by omega) (by omega) fun ys k' hl hq l3 l4 => ?_)
    refine W.pur (h (y :: ys) k' (by rw [List.length_cons, List.length_cons, hl]) (fun z hz => ?_) (by omega) (by rw [List.length_cons]; omega))
    rcases List.mem_cons.mp hz with rfl | hz
    · exact q
    · exact hq z hz
theorem W.finS [Enc ρ] {x : Sm (Fl Empty Empty ρ)} {P : ρ → Int → Prop} (h : W x k fun f k' => ∃ r, f = .rt r ∧ P r k') : W (OL.finS x) k P := by
  obtain ⟨f, k', e, r, rfl, p⟩ := h
  refine ⟨r, k', ?_, p⟩
  unfold OL.finS
  rw [e]; rfl
theorem W.run {x : Sm α} {P : α → Int → Prop} (h : W x k P) : ∃ a k', x k = some (a, k') ∧ P a k' := h
end
end OL

set_option Elab.async false
set_option linter.all false
set_option maxRecDepth 100000
set_option maxHeartbeats 1000000
namespace OL
open PySem PySem.Spec PyProof.Rows L2
abbrev m__law_next (c : List Int) (_ : Option (List Str)) (mm : Int) : Sm Int := nx c mm
def bg2 (c : List Int) : Sm Str := (Mn.bnd (Mn.bnd (Mn.bnd (Mn.bnd (Mn.pur (8 : Int)) fun p_141 => m__law_next c none p_141) fun n_142 => gd (-(2 ^ 62) ≤ n_142 ∧ n_142 < 2 ^ 62) (Mn.pur (upTo 0 (Int.toNat n_142) 1))) fun w_148 => gd (List.length w_148 ≤ 100000) (compL (fun (a_143 : Int) => (Mn.pur true)) (fun (a_143 : Int) => (Mn.bnd (Mn.pur ("qzjv" : Str)) fun x_145 => Mn.bnd (Mn.bnd (Mn.pur (4 : Int)) fun p_144 => m__law_next c none p_144) fun y_146 => gd (x_145.length ≤ sizeLine) (Mn.bnd (lift (atI (Array.toList (Str.cps x_145)) y_146)) fun c_147 => Mn.pur (sgn c_147)))) w_148)) fun j_150 => gd ((List.map Str.length j_150).sum + List.length j_150 * Str.length ("" : Str) ≤ 16777216) (Mn.pur (Txt.join ("" : Str) j_150)))
def bg3 (c : List Int) (r : Str) : Sm Int := (Mn.bnd (Mn.bnd (Mn.bnd (Mn.pur r) fun u_151 => gd (u_151.length ≤ sizeLine) (Mn.pur ((Str.length u_151 : Nat) : Int))) fun x_152 => Mn.bnd (Mn.pur (1 : Int)) fun y_153 => Mn.pur (x_152 + y_153)) fun p_154 => m__law_next c none p_154)
def bg4 (c : List Int) (r : Str) (a : Int) : Sm (List Str) := (Mn.bnd (Mn.bnd (Mn.pur ("mcxgtaqerbvkdunhspjfwlio" : Str)) fun w_155 => Mn.pur (List.map sgn (Array.toList (Str.cps w_155)))) fun w_169 => gd (List.length w_169 ≤ 100000) (compL (fun (a_156 : Str) => (Mn.pur true)) (fun (a_156 : Str) => (Mn.bnd (Mn.bnd (Mn.bnd (Mn.pur r) fun x_158 => Mn.bnd (Mn.pur (none : Option Int)) fun l_159 => Mn.bnd (Mn.bnd (Mn.pur a) fun i_157 => Mn.pur (some i_157)) fun h_160 => gd (x_158.length ≤ sizeLine) (Mn.pur (cutT x_158 l_159 h_160))) fun x_161 => Mn.bnd (Mn.pur a_156) fun y_162 => gd (x_161.length + y_162.length ≤ sizeLine) (Mn.pur (x_161 ++ y_162))) fun x_167 => Mn.bnd (Mn.bnd (Mn.pur r) fun x_164 => Mn.bnd (Mn.bnd (Mn.pur a) fun i_163 => Mn.pur (some i_163)) fun l_165 => Mn.bnd (Mn.pur (none : Option Int)) fun h_166 => gd (x_164.length ≤ sizeLine) (Mn.pur (cutT x_164 l_165 h_166))) fun y_168 => gd (x_167.length + y_168.length ≤ sizeLine) (Mn.pur (x_167 ++ y_168)))) w_169))
abbrev okB (c : List Int) (ns : List Str) (k : Int) : Prop := bgM bg2 bg3 bg4 c 0 = some (ns, k)
def bgF (c : List Int) : Option (List Str × Int) := bgM bg2 bg3 bg4 c 0
theorem bg_ok : beg okB bgF := fun _ _ _ h => h
theorem joinL_nil_len : ∀ ps : List (List Nat), (TL.joinL [] ps).length = (ps.map List.length).sum
  | [] => rfl
  | [p] => by simp [TL.joinL]
  | p :: q :: r => by
    rw [TL.joinL, List.length_append, List.nil_append, joinL_nil_len (q :: r)]; rfl
theorem join_len (ys : List Str) : (Txt.join ("" : Str) ys).length = (ys.map Str.length).sum := by
  show (Txt.join ("" : Str) ys).cps.size = _
  rw [← Array.length_toList]
  have e : (Txt.join ("" : Str) ys).cps.toList = TL.joinL [] (ys.map fun y => y.cps.toList) := by rw [TL.join_eq]; exact TL.tl_join ("" : Str) ys
  rw [e, joinL_nil_len, List.map_map]
  congr 1
theorem sum_ones : ∀ ys : List Str, (∀ y ∈ ys, y.length = 1) → (ys.map Str.length).sum = ys.length
  | [], _ => rfl
  | y :: ys, h => by
    rw [List.map_cons, List.sum_cons, h y (.head _), sum_ones ys fun z hz => h z (.tail _ hz), List.length_cons]; omega
theorem bg_W (c : List Int) (hc : c.length ≤ 1000) : W (bgM bg2 bg3 bg4 c) 0 fun ns k => 0 ≤ k ∧ k ≤ 100 ∧ ns.length = 24 := by
  have sz : 100000 < sizeLine := by decide
  unfold bgM
  refine W.bnd ?_
  unfold bg2
  refine W.bnd (W.bnd (W.bnd (W.bnd (W.pur (W.nx hc (by decide) (by decide) fun n n0 n1 => ?_)))))
  refine W.gd (by omega) (W.pur ?_)
  have hl := upTo_len 0 1 n.toNat
  refine W.gd (by rw [hl]; omega) (W.compL (Q := fun y : Str => y.length = 1) 1 _ _ (fun k x k0 k1 _ => ?_) (by decide) (by decide) fun ys k' h1 h2 h3 h4 => ?_)
  · refine W.bnd (W.pur (W.bnd (W.bnd (W.pur (W.nx hc (by rw [hl] at k1; omega) (by decide) fun r r0 r1 => ?_)))))
    refine W.gd (by decide) (W.bnd ?_)
    have hr : ∃ z, atI (Array.toList (Str.cps ("qzjv" : Str))) r = some z := by
      have : r = 0 ∨ r = 1 ∨ r = 2 ∨ r = 3 := by omega
      rcases this with rfl | rfl | rfl | rfl <;> exact ⟨_, rfl⟩
    obtain ⟨z, hz⟩ := hr
    exact W.lift hz (W.pur ⟨rfl, by omega, by omega⟩)
  rw [hl] at h1 h4
  have hs := sum_ones ys h2
  have e0 : Str.length ("" : Str) = 0 := rfl
  refine W.gd (by rw [e0]; omega) (W.pur (W.bnd ?_))
  have hj := join_len ys
  unfold bg3
  refine W.bnd (W.bnd (W.bnd (W.pur (W.gd (by omega) (W.pur (W.bnd (W.pur (W.pur (W.nx hc (by omega) (by omega) fun a a0 a1 => ?_)))))))))
  unfold bg4
  refine W.bnd (W.bnd (W.pur (W.pur (W.gd (by decide) (W.compL (Q := fun _ => True) 20 _ _ (fun k x k0 k1 hx => ?_) (by omega) (by omega) fun ns k2 g1 g2 g3 g4 => ?_)))))
  · have hx1 : x.length = 1 := by
      obtain ⟨z, _, rfl⟩ := List.mem_map.mp hx
      rfl
    have cl : ∀ lo hi, (cutT (Txt.join ("" : Str) ys) lo hi).length ≤ (Txt.join ("" : Str) ys).length := fun lo hi => by
      unfold cutT cutS Str.length
      rw [List.size_toArray, List.length_take, List.length_drop, Array.length_toList]
      omega
    have c1 := cl none (some a)
    have c2 := cl (some a) none
    have q1 : (Txt.join ("" : Str) ys).length ≤ sizeLine := by omega
    have q2 : (cutT (Txt.join ("" : Str) ys) none (some a)).length + x.length ≤ sizeLine := by omega
    have q3 : (cutT (Txt.join ("" : Str) ys) none (some a) ++ x).length + (cutT (Txt.join ("" : Str) ys) (some a) none).length ≤ sizeLine := by rw [Str.length_append]; omega
    simp only [pbS, gd_y q1, gd_y q2, gd_y q3]
    exact W.pur ⟨trivial, by omega, by omega⟩
  · have e24 : (List.map sgn (Array.toList (Str.cps ("mcxgtaqerbvkdunhspjfwlio" : Str)))).length = 24 := rfl
    rw [e24] at g1 g4
    exact ⟨by omega, by omega, g1⟩
theorem bg_tot : ∀ c : List Int, c.length ≤ 1000 → ∃ ns k, bgM bg2 bg3 bg4 c 0 = some (ns, k) := fun c hc => by
  obtain ⟨ns, k, e, _⟩ := bg_W c hc
  exact ⟨ns, k, e⟩
theorem W.begun {ρ : Type} [Enc ρ] {c : List Int} {f : List Str → Sm (Fl Empty Empty ρ)} {k : Int} {P : Fl Empty Empty ρ → Int → Prop} (hc : c.length ≤ 1000) (h : ∀ ns k, 0 ≤ k → k ≤ 100 → ns.length = 24 → W (f ns) k P) : W (OL.begun bgF c f) k P := by
  obtain ⟨ns, k0, e, h1, h2, h3⟩ := bg_W c hc
  obtain ⟨a, k', e2, p⟩ := h ns k0 h1 h2 h3
  refine ⟨a, k', ?_, p⟩
  unfold OL.begun bgF
  rw [if_pos hc, e]
  exact e2
theorem fin0_of {ρ : Type} [Enc ρ] {x : Sm (Fl Empty Empty ρ)} {r : ρ} (h : W x 0 fun f _ => f = .rt r) : fin0 x = some r := by
  obtain ⟨f, k', e, rfl⟩ := h
  unfold fin0 finS
  rw [e]; rfl
end OL

set_option Elab.async false
set_option linter.all false
set_option maxRecDepth 100000
set_option maxHeartbeats 1000000
namespace K02
open PySem PySem.Spec PyProof.Rows L2 OL
def c_PRIMES : (Tl Int) := ⟨[2, 3, 5, 7]⟩
def c_GRAINS : (Tl Int) := ⟨[1200000, 1901955, 2786314, 3368826]⟩
def mb_how_often (p0 : Int) (p1 : Int) : Option (Fl Empty Empty Int) := (Mn.bnd (Mn.pur (0 : Int)) fun many_1 => (andThen (whl (fun (t_2 : Int × Int) => ((Mn.bnd (Mn.bnd (Mn.pur t_2.1) fun x_3 => Mn.bnd (Mn.pur (1 : Int)) fun y_4 => Mn.pur (decide (y_4 < x_3))) fun b_9 => cnd b_9 (Mn.bnd (Mn.bnd (Mn.pur t_2.1) fun x_5 => Mn.bnd (Mn.pur p1) fun y_6 => gd (0 < y_6) (Mn.pur (x_5 % y_6))) fun x_7 => Mn.bnd (Mn.pur (0 : Int)) fun y_8 => Mn.pur (decide (x_7 = y_8))) (Mn.pur false)) : Option Bool)) (fun (t_2 : Int × Int) => ((Mn.bnd (Mn.bnd (Mn.pur p1) fun y_10 => gd (OL.DivOk y_10) (Mn.pur (t_2.1 / y_10))) fun number_11 => (Mn.bnd (Mn.bnd (Mn.pur (1 : Int)) fun y_12 => Mn.pur (t_2.2 + y_12)) fun many_13 => (Mn.pur (.nx (number_11, many_13))))) : Option (Fl (Int × Int) (Int × Int) Int))) FU (p0, many_1) : Option (Fl (Int × Int) Empty Int)) fun t_2 => (Mn.bnd (Mn.pur t_2.2) fun r_14 => Mn.pur (.rt r_14))))
def m_how_often (p0 : Int) (p1 : Int) : Option Int := fin (mb_how_often p0 p1)
def mb_raised (p0 : Int) (p1 : Int) : Option (Fl Empty Empty Int) := (Mn.bnd (Mn.pur (1 : Int)) fun out_15 => (andThen (whl (fun (t_16 : Int × Int × Int) => ((Mn.bnd (Mn.pur t_16.2.1) fun x_17 => Mn.bnd (Mn.pur (0 : Int)) fun y_18 => Mn.pur (decide (y_18 < x_17))) : Option Bool)) (fun (t_16 : Int × Int × Int) => ((andThen (Mn.bnd (Mn.bnd (Mn.bnd (Mn.pur t_16.2.1) fun x_19 => Mn.bnd (Mn.pur (2 : Int)) fun y_20 => gd (0 < y_20) (Mn.pur (x_19 % y_20))) fun x_21 => Mn.bnd (Mn.pur (1 : Int)) fun y_22 => Mn.pur (decide (x_21 = y_22))) fun b_23 => cnd b_23 (Mn.bnd (Mn.bnd (Mn.pur t_16.1) fun y_25 => gd (OL.MulOk t_16.2.2 y_25) (Mn.pur (t_16.2.2 * y_25))) fun out_26 => (Mn.pur (.nx out_26))) (Mn.pur (.nx t_16.2.2)) : Option (Fl (Int) (Int × Int × Int) Int)) fun t_24 => (Mn.bnd (Mn.bnd (Mn.pur t_16.1) fun y_27 => gd (OL.MulOk t_16.1 y_27) (Mn.pur (t_16.1 * y_27))) fun prime_28 => (Mn.bnd (Mn.bnd (Mn.pur (2 : Int)) fun y_29 => gd (OL.DivOk y_29) (Mn.pur (t_16.2.1 / y_29))) fun many_30 => (Mn.pur (.nx (prime_28, many_30, t_24)))))) : Option (Fl (Int × Int × Int) (Int × Int × Int) Int))) FU (p0, p1, out_15) : Option (Fl (Int × Int × Int) Empty Int)) fun t_16 => (Mn.bnd (Mn.pur t_16.2.2) fun r_31 => Mn.pur (.rt r_31))))
def m_raised (p0 : Int) (p1 : Int) : Option Int := fin (mb_raised p0 p1)
def mb_ratio_of (p0 : Int) (p1 : Int) : Option (Fl Empty Empty (Tl Int)) := (Mn.bnd (Mn.bnd (Mn.bnd (Mn.bnd (Mn.pur c_PRIMES) fun w_32 => Mn.pur (Tl.l w_32)) fun w_42 => gd (List.length w_42 ≤ 100000) (compL (fun (a_33 : Int) => (Mn.pur true)) (fun (a_33 : Int) => (Mn.bnd (Mn.bnd (Mn.bnd (Mn.pur p0) fun x_34 => Mn.bnd (Mn.pur a_33) fun y_35 => Mn.pur (x_34, y_35)) fun p_36 => lift (m_how_often p_36.1 p_36.2)) fun x_40 => Mn.bnd (Mn.bnd (Mn.bnd (Mn.pur p1) fun x_37 => Mn.bnd (Mn.pur a_33) fun y_38 => Mn.pur (x_37, y_38)) fun p_39 => lift (m_how_often p_39.1 p_39.2)) fun y_41 => Mn.pur (x_40 - y_41))) w_42)) fun u_44 => Mn.pur (⟨u_44⟩ : (Tl Int))) fun r_45 => Mn.pur (.rt r_45))
def m_ratio_of (p0 : Int) (p1 : Int) : Option (Tl Int) := fin (mb_ratio_of p0 p1)
def mb_together (p0 : (Tl Int)) (p1 : (Tl Int)) : Option (Fl Empty Empty (Tl Int)) := (Mn.bnd (Mn.bnd (Mn.bnd (Mn.bnd (Mn.bnd (Mn.pur p0) fun x_46 => Mn.bnd (Mn.pur p1) fun y_47 => Mn.pur (x_46, y_47)) fun z_48 => Mn.pur (List.zip (Tl.l z_48.1) (Tl.l z_48.2))) fun w_52 => gd (List.length w_52 ≤ 100000) (compL (fun (a_49 : (Int × Int)) => (Mn.pur true)) (fun (a_49 : (Int × Int)) => (Mn.bnd (Mn.pur a_49.1) fun x_50 => Mn.bnd (Mn.pur a_49.2) fun y_51 => Mn.pur (x_50 + y_51))) w_52)) fun u_54 => Mn.pur (⟨u_54⟩ : (Tl Int))) fun r_55 => Mn.pur (.rt r_55))
def m_together (p0 : (Tl Int)) (p1 : (Tl Int)) : Option (Tl Int) := fin (mb_together p0 p1)
def mb_turned (p0 : (Tl Int)) : Option (Fl Empty Empty (Tl Int)) := (Mn.bnd (Mn.bnd (Mn.bnd (Mn.bnd (Mn.pur p0) fun w_56 => Mn.pur (Tl.l w_56)) fun w_59 => gd (List.length w_59 ≤ 100000) (compL (fun (a_57 : Int) => (Mn.pur true)) (fun (a_57 : Int) => (Mn.bnd (Mn.pur a_57) fun x_58 => Mn.pur (-x_58))) w_59)) fun u_61 => Mn.pur (⟨u_61⟩ : (Tl Int))) fun r_62 => Mn.pur (.rt r_62))
def m_turned (p0 : (Tl Int)) : Option (Tl Int) := fin (mb_turned p0)
def mb_power (p0 : (Tl Int)) (p1 : Int) : Option (Fl Empty Empty (Tl Int)) := (Mn.bnd (Mn.bnd (Mn.bnd (Mn.bnd (Mn.pur p0) fun w_63 => Mn.pur (Tl.l w_63)) fun w_67 => gd (List.length w_67 ≤ 100000) (compL (fun (a_64 : Int) => (Mn.pur true)) (fun (a_64 : Int) => (Mn.bnd (Mn.pur a_64) fun x_65 => Mn.bnd (Mn.pur p1) fun y_66 => gd (OL.MulOk x_65 y_66) (Mn.pur (x_65 * y_66)))) w_67)) fun u_69 => Mn.pur (⟨u_69⟩ : (Tl Int))) fun r_70 => Mn.pur (.rt r_70))
def m_power (p0 : (Tl Int)) (p1 : Int) : Option (Tl Int) := fin (mb_power p0 p1)
def mb_size (p0 : (Tl Int)) : Option (Fl Empty Empty Int) := (Mn.bnd (Mn.bnd (Mn.bnd (Mn.bnd (Mn.bnd (Mn.pur p0) fun x_71 => Mn.bnd (Mn.pur c_GRAINS) fun y_72 => Mn.pur (x_71, y_72)) fun z_73 => Mn.pur (List.zip (Tl.l z_73.1) (Tl.l z_73.2))) fun w_77 => gd (List.length w_77 ≤ 100000) (compL (fun (a_74 : (Int × Int)) => (Mn.pur true)) (fun (a_74 : (Int × Int)) => (Mn.bnd (Mn.pur a_74.1) fun x_75 => Mn.bnd (Mn.pur a_74.2) fun y_76 => gd (OL.MulOk x_75 y_76) (Mn.pur (x_75 * y_76)))) w_77)) fun u_79 => Mn.pur (List.sum u_79)) fun r_80 => Mn.pur (.rt r_80))
def m_size (p0 : (Tl Int)) : Option Int := fin (mb_size p0)
def mb_fraction (p0 : (Tl Int)) : Option (Fl Empty Empty (Int × Int)) := (Mn.bnd (Mn.pur (1 : Int)) fun p_81 => (Mn.bnd (Mn.pur (1 : Int)) fun q_82 => (andThen (Mn.bnd (Mn.bnd (Mn.bnd (Mn.pur p0) fun x_83 => Mn.bnd (Mn.pur c_PRIMES) fun y_84 => Mn.pur (x_83, y_84)) fun z_85 => Mn.pur (List.zip (Tl.l z_85.1) (Tl.l z_85.2))) fun w_110 => forL (fun (t_86 : Int × Int) (a_87 : (Int × Int)) => ((Mn.bnd (Mn.bnd (Mn.bnd (Mn.bnd (Mn.pur a_87.2) fun x_92 => Mn.bnd (Mn.bnd (Mn.bnd (Mn.pur a_87.1) fun x_89 => Mn.bnd (Mn.pur (0 : Int)) fun y_90 => Mn.pur (x_89, y_90)) fun p_91 => Mn.pur (max p_91.1 p_91.2)) fun y_93 => Mn.pur (x_92, y_93)) fun p_94 => lift (m_raised p_94.1 p_94.2)) fun y_95 => gd (OL.MulOk t_86.1 y_95) (Mn.pur (t_86.1 * y_95))) fun p_96 => (Mn.bnd (Mn.bnd (Mn.bnd (Mn.bnd (Mn.pur a_87.2) fun x_102 => Mn.bnd (Mn.bnd (Mn.bnd (Mn.bnd (Mn.pur a_87.1) fun x_97 => Mn.pur (-x_97)) fun x_99 => Mn.bnd (Mn.pur (0 : Int)) fun y_100 => Mn.pur (x_99, y_100)) fun p_101 => Mn.pur (max p_101.1 p_101.2)) fun y_103 => Mn.pur (x_102, y_103)) fun p_104 => lift (m_raised p_104.1 p_104.2)) fun y_105 => gd (OL.MulOk t_86.2 y_105) (Mn.pur (t_86.2 * y_105))) fun q_106 => (Mn.pur (.nx (p_96, q_106))))) : Option (Fl (Int × Int) (Int × Int) (Int × Int)))) w_110 (p_81, q_82) : Option (Fl (Int × Int) Empty (Int × Int))) fun t_86 => (Mn.bnd (Mn.bnd (Mn.pur t_86.1) fun x_107 => Mn.bnd (Mn.pur t_86.2) fun y_108 => Mn.pur (x_107, y_108)) fun r_109 => Mn.pur (.rt r_109)))))
def m_fraction (p0 : (Tl Int)) : Option (Int × Int) := fin (mb_fraction p0)
def mb_figures (p0 : Int) : Option (Fl Empty Empty Str) := (Mn.bnd (Mn.bnd (Mn.pur ([] : List Str)) fun l_111 => gd (List.length l_111 ≤ 1000) (Mn.pur l_111)) fun pieces_112 => (andThen (whl (fun (t_113 : Int × List Str) => ((Mn.bnd (Mn.pur t_113.1) fun x_116 => Mn.bnd (Mn.bnd (Mn.pur (10 : Int)) fun x_114 => Mn.bnd (Mn.pur (60 : Int)) fun y_115 => gd (OL.PowOk x_114 y_115) (Mn.pur (x_114 ^ Int.toNat y_115))) fun y_117 => Mn.pur (decide (y_117 ≤ x_116))) : Option Bool)) (fun (t_113 : Int × List Str) => ((Mn.bnd (Mn.bnd (Mn.bnd (Mn.bnd (Mn.pur t_113.1) fun x_120 => Mn.bnd (Mn.bnd (Mn.pur (10 : Int)) fun x_118 => Mn.bnd (Mn.pur (60 : Int)) fun y_119 => gd (OL.PowOk x_118 y_119) (Mn.pur (x_118 ^ Int.toNat y_119))) fun y_121 => gd (0 < y_121) (Mn.pur (x_120 % y_121))) fun u_122 => gd (Nat.log2 (Int.natAbs u_122) < 1920) (Mn.pur (strI u_122))) fun z_123 => Mn.pur (Txt.zfill z_123 (60 : Int))) fun e_124 => gd (List.length t_113.2 < 100000) (Mn.bnd (Mn.bnd (Mn.bnd (Mn.pur (10 : Int)) fun x_125 => Mn.bnd (Mn.pur (60 : Int)) fun y_126 => gd (OL.PowOk x_125 y_126) (Mn.pur (x_125 ^ Int.toNat y_126))) fun y_127 => gd (OL.DivOk y_127) (Mn.pur (t_113.1 / y_127))) fun number_128 => (Mn.pur (.nx (number_128, (t_113.2 ++ [e_124])))))) : Option (Fl (Int × List Str) (Int × List Str) Str))) FU (p0, pieces_112) : Option (Fl (Int × List Str) Empty Str)) fun t_113 => (Mn.bnd (Mn.bnd (Mn.pur t_113.1) fun u_129 => gd (Nat.log2 (Int.natAbs u_129) < 1920) (Mn.pur (strI u_129))) fun e_130 => gd (List.length t_113.2 < 100000) (Mn.bnd (Mn.bnd (Mn.bnd (Mn.pur (t_113.2 ++ [e_130])) fun x_131 => Mn.pur (List.reverse x_131)) fun j_132 => gd ((List.map Str.length j_132).sum + List.length j_132 * Str.length ("" : Str) ≤ 16777216) (Mn.pur (Txt.join ("" : Str) j_132))) fun r_133 => Mn.pur (.rt r_133)))))
def m_figures (p0 : Int) : Option Str := fin (mb_figures p0)
def mb_ratio_text (p0 : (Tl Int)) : Option (Fl Empty Empty Str) := (Mn.bnd (Mn.bnd (Mn.pur p0) fun p_134 => lift (m_fraction p_134)) fun p_135 => (Mn.bnd (Mn.bnd (Mn.bnd (Mn.pur p_135.1) fun p_136 => lift (m_figures p_136)) fun x_138 => Mn.bnd (Mn.bnd (Mn.pur p_135.2) fun p_137 => lift (m_figures p_137)) fun y_139 => gd (x_138.length ≤ sizeLine ∧ y_139.length ≤ sizeLine ∧ (Str.empty ++ x_138).length ≤ sizeLine ∧ (Str.empty ++ x_138 ++ (" / " : Str)).length ≤ sizeLine ∧ (Str.empty ++ x_138 ++ (" / " : Str) ++ y_139).length ≤ sizeLine) (Mn.pur (Str.empty ++ x_138 ++ (" / " : Str) ++ y_139))) fun r_140 => Mn.pur (.rt r_140)))
def m_ratio_text (p0 : (Tl Int)) : Option Str := fin (mb_ratio_text p0)
def mb__law_part (cl : List Int) (nm : Option (List Str)) : Sm (Fl Empty Empty Int) := (Mn.bnd (Mn.pur (1 : Int)) fun found_171 => (andThen (Mn.bnd (Mn.bnd (Mn.bnd (Mn.pur (10 : Int)) fun p_172 => m__law_next cl nm p_172) fun n_173 => gd (-(2 ^ 62) ≤ n_173 ∧ n_173 < 2 ^ 62) (Mn.pur (upTo 0 (Int.toNat n_173) 1))) fun w_198 => forL (fun (t_174 : Int) (a_175 : Int) => ((Mn.bnd (Mn.bnd (Mn.bnd (Mn.bnd (Mn.pur (2 : Int)) fun x_182 => Mn.bnd (Mn.bnd (Mn.pur (3 : Int)) fun x_180 => Mn.bnd (Mn.bnd (Mn.pur (5 : Int)) fun x_178 => Mn.bnd (Mn.bnd (Mn.pur (7 : Int)) fun x_176 => Mn.bnd (Mn.pur ([] : List Int)) fun y_177 => Mn.pur (x_176 :: y_177)) fun y_179 => Mn.pur (x_178 :: y_179)) fun y_181 => Mn.pur (x_180 :: y_181)) fun y_183 => Mn.pur (x_182 :: y_183)) fun l_184 => gd (List.length l_184 ≤ 1000) (Mn.pur l_184)) fun x_186 => Mn.bnd (Mn.bnd (Mn.pur (4 : Int)) fun p_185 => m__law_next cl nm p_185) fun y_187 => lift (atI x_186 y_187)) fun prime_188 => (Mn.bnd (Mn.bnd (Mn.bnd (Mn.bnd (Mn.pur t_174) fun x_189 => Mn.bnd (Mn.pur prime_188) fun y_190 => gd (OL.MulOk x_189 y_190) (Mn.pur (x_189 * y_190))) fun x_191 => Mn.bnd (Mn.pur (9999 : Int)) fun y_192 => Mn.pur (decide (x_191 ≤ y_192))) fun b_195 => cnd b_195 (Mn.bnd (Mn.pur t_174) fun x_193 => Mn.bnd (Mn.pur prime_188) fun y_194 => gd (OL.MulOk x_193 y_194) (Mn.pur (x_193 * y_194))) (Mn.pur t_174)) fun found_196 => (Mn.pur (.nx found_196)))) : Sm (Fl (Int) (Int) Int))) w_198 found_171 : Sm (Fl (Int) Empty Int)) fun t_174 => (Mn.bnd (Mn.pur t_174) fun r_197 => Mn.pur (.rt r_197))))
def m__law_part (cl : List Int) (nm : Option (List Str)) : Sm Int := finS (mb__law_part cl nm)
def mb__law_common (p0 : Int) (p1 : Int) : Option (Fl Empty Empty Int) := (andThen (whl (fun (t_199 : Int × Int) => ((Mn.bnd (Mn.pur t_199.2) fun x_200 => Mn.bnd (Mn.pur (0 : Int)) fun y_201 => Mn.pur (decide (y_201 < x_200))) : Option Bool)) (fun (t_199 : Int × Int) => ((Mn.bnd (Mn.bnd (Mn.pur t_199.2) fun x_204 => Mn.bnd (Mn.bnd (Mn.pur t_199.1) fun x_202 => Mn.bnd (Mn.pur t_199.2) fun y_203 => gd (0 < y_203) (Mn.pur (x_202 % y_203))) fun y_205 => Mn.pur (x_204, y_205)) fun p_206 => (Mn.pur (.nx (p_206.1, p_206.2)))) : Option (Fl (Int × Int) (Int × Int) Int))) FU (p0, p1) : Option (Fl (Int × Int) Empty Int)) fun t_199 => (Mn.bnd (Mn.pur t_199.1) fun r_207 => Mn.pur (.rt r_207)))
def m__law_common (p0 : Int) (p1 : Int) : Option Int := fin (mb__law_common p0 p1)
def mb__law_over (p0 : Int) (p1 : Int) : Option (Fl Empty Empty Int) := (Mn.bnd (Mn.pur (1 : Int)) fun found_208 => (andThen (Mn.bnd (Mn.bnd (Mn.pur p1) fun n_209 => gd (-(2 ^ 62) ≤ n_209 ∧ n_209 < 2 ^ 62) (Mn.pur (upTo 0 (Int.toNat n_209) 1))) fun w_216 => forL (fun (t_210 : Int) (a_211 : Int) => ((Mn.bnd (Mn.bnd (Mn.pur t_210) fun x_212 => Mn.bnd (Mn.pur p0) fun y_213 => gd (OL.MulOk x_212 y_213) (Mn.pur (x_212 * y_213))) fun found_214 => (Mn.pur (.nx found_214))) : Option (Fl (Int) (Int) Int))) w_216 found_208 : Option (Fl (Int) Empty Int)) fun t_210 => (Mn.bnd (Mn.pur t_210) fun r_215 => Mn.pur (.rt r_215))))
def m__law_over (p0 : Int) (p1 : Int) : Option Int := fin (mb__law_over p0 p1)
def mb__law_due (p0 : Int) (p1 : Int) : Option (Fl Empty Empty (Tl Int)) := (Mn.bnd (Mn.bnd (Mn.pur ([] : List Int)) fun l_217 => gd (List.length l_217 ≤ 1000) (Mn.pur l_217)) fun found_218 => (andThen (Mn.bnd (Mn.bnd (Mn.bnd (Mn.bnd (Mn.pur (2 : Int)) fun x_225 => Mn.bnd (Mn.bnd (Mn.pur (3 : Int)) fun x_223 => Mn.bnd (Mn.bnd (Mn.pur (5 : Int)) fun x_221 => Mn.bnd (Mn.bnd (Mn.pur (7 : Int)) fun x_219 => Mn.bnd (Mn.pur ([] : List Int)) fun y_220 => Mn.pur (x_219 :: y_220)) fun y_222 => Mn.pur (x_221 :: y_222)) fun y_224 => Mn.pur (x_223 :: y_224)) fun y_226 => Mn.pur (x_225 :: y_226)) fun l_227 => gd (List.length l_227 ≤ 1000) (Mn.pur (⟨l_227⟩ : (Tl Int)))) fun w_228 => Mn.pur (Tl.l w_228)) fun w_258 => forL (fun (t_229 : Int × List Int) (a_230 : Int) => ((Mn.bnd (Mn.pur (0 : Int)) fun many_231 => (Mn.bnd (Mn.pur a_230) fun great_232 => (andThen (whl (fun (t_233 : Int × Int) => ((Mn.bnd (Mn.bnd (Mn.pur p0) fun x_234 => Mn.bnd (Mn.pur t_233.2) fun y_235 => gd (0 < y_235) (Mn.pur (x_234 % y_235))) fun x_236 => Mn.bnd (Mn.pur (0 : Int)) fun y_237 => Mn.pur (decide (x_236 = y_237))) : Option Bool)) (fun (t_233 : Int × Int) => ((Mn.bnd (Mn.bnd (Mn.pur t_233.1) fun x_238 => Mn.bnd (Mn.pur (1 : Int)) fun y_239 => Mn.pur (x_238 + y_239)) fun many_240 => (Mn.bnd (Mn.bnd (Mn.pur t_233.2) fun x_241 => Mn.bnd (Mn.pur a_230) fun y_242 => gd (OL.MulOk x_241 y_242) (Mn.pur (x_241 * y_242))) fun great_243 => (Mn.pur (.nx (many_240, great_243))))) : Option (Fl (Int × Int) (Int × Int) (Tl Int)))) FU (many_231, great_232) : Option (Fl (Int × Int) (Int × List Int) (Tl Int))) fun t_233 => (andThen (whl (fun (t_244 : Int × Int) => ((Mn.bnd (Mn.bnd (Mn.pur t_244.1) fun x_245 => Mn.bnd (Mn.pur a_230) fun y_246 => gd (0 < y_246) (Mn.pur (x_245 % y_246))) fun x_247 => Mn.bnd (Mn.pur (0 : Int)) fun y_248 => Mn.pur (decide (x_247 = y_248))) : Option Bool)) (fun (t_244 : Int × Int) => ((Mn.bnd (Mn.bnd (Mn.pur t_244.1) fun x_249 => Mn.bnd (Mn.pur a_230) fun y_250 => gd (OL.DivOk y_250) (Mn.pur (x_249 / y_250))) fun q_251 => (Mn.bnd (Mn.bnd (Mn.pur t_244.2) fun x_252 => Mn.bnd (Mn.pur (1 : Int)) fun y_253 => Mn.pur (x_252 - y_253)) fun many_254 => (Mn.pur (.nx (q_251, many_254))))) : Option (Fl (Int × Int) (Int × Int) (Tl Int)))) FU (t_229.1, t_233.1) : Option (Fl (Int × Int) (Int × List Int) (Tl Int))) fun t_244 => (Mn.bnd (Mn.pur t_244.2) fun e_255 => gd (List.length t_229.2 < 100000) (Mn.pur (.nx (t_244.1, (t_229.2 ++ [e_255]))))))))) : Option (Fl (Int × List Int) (Int × List Int) (Tl Int)))) w_258 (p1, found_218) : Option (Fl (Int × List Int) Empty (Tl Int))) fun t_229 => (Mn.bnd (Mn.bnd (Mn.pur t_229.2) fun u_256 => Mn.pur (⟨u_256⟩ : (Tl Int))) fun r_257 => Mn.pur (.rt r_257))))
def m__law_due (p0 : Int) (p1 : Int) : Option (Tl Int) := fin (mb__law_due p0 p1)
def mb__law_whole (p0 : (Tl Int)) (p1 : Int) : Option (Fl Empty Empty Bool) := (andThen (Mn.bnd (Mn.bnd (Mn.bnd (Mn.bnd (Mn.pur p0) fun _ => Mn.pur true) fun b_260 => Mn.pur (!b_260)) fun b_264 => cnd b_264 (Mn.pur true) (Mn.bnd (Mn.bnd (Mn.pur p0) fun u_261 => Mn.pur ((List.length (Tl.l u_261) : Nat) : Int)) fun x_262 => Mn.bnd (Mn.pur p1) fun y_263 => Mn.pur (!decide (x_262 = y_263)))) fun b_265 => cnd b_265 (Mn.bnd (Mn.pur false) fun r_267 => Mn.pur (.rt r_267)) (Mn.pur (.nx ())) : Option (Fl (Unit) Empty Bool)) fun t_266 => (Mn.bnd (Mn.bnd (Mn.bnd (Mn.bnd (Mn.pur p0) fun w_268 => Mn.pur (Tl.l w_268)) fun w_274 => gd (List.length w_274 ≤ 100000) (compL (fun (a_269 : Int) => (Mn.pur true)) (fun (a_269 : Int) => (Mn.bnd (Mn.bnd (Mn.pur a_269) fun _ => Mn.pur true) fun b_273 => cnd b_273 (Mn.bnd (Mn.bnd (Mn.pur a_269) fun _ => Mn.pur false) fun x_272 => Mn.pur (!x_272)) (Mn.pur false))) w_274)) fun u_276 => Mn.pur (List.all u_276 id)) fun r_277 => Mn.pur (.rt r_277)))
def m__law_whole (p0 : (Tl Int)) (p1 : Int) : Option Bool := fin (mb__law_whole p0 p1)
def mb__law_ratio_right (p0 : Int) (p1 : Int) : Option (Fl Empty Empty Bool) := (Mn.bnd (Mn.bnd (Mn.bnd (Mn.pur p0) fun x_278 => Mn.bnd (Mn.pur p1) fun y_279 => Mn.pur (x_278, y_279)) fun p_280 => lift (m_ratio_of p_280.1 p_280.2)) fun one_281 => (Mn.bnd (Mn.bnd (Mn.bnd (Mn.pur p0) fun x_282 => Mn.bnd (Mn.pur p1) fun y_283 => Mn.pur (x_282, y_283)) fun p_284 => lift (m__law_common p_284.1 p_284.2)) fun by_285 => (andThen (Mn.bnd (Mn.bnd (Mn.bnd (Mn.bnd (Mn.bnd (Mn.pur one_281) fun x_286 => Mn.bnd (Mn.pur (4 : Int)) fun y_287 => Mn.pur (x_286, y_287)) fun p_288 => lift (m__law_whole p_288.1 p_288.2)) fun b_289 => Mn.pur (!b_289)) fun b_302 => cnd b_302 (Mn.pur true) (Mn.bnd (Mn.bnd (Mn.pur one_281) fun x_293 => Mn.bnd (Mn.bnd (Mn.bnd (Mn.pur p0) fun x_290 => Mn.bnd (Mn.pur p1) fun y_291 => Mn.pur (x_290, y_291)) fun p_292 => lift (m__law_due p_292.1 p_292.2)) fun y_294 => gd (Shp (enc x_293) = true ∧ Shp (enc y_294) = true) (Mn.pur (!PyData.eqv (enc x_293) (enc y_294)))) fun b_301 => cnd b_301 (Mn.pur true) (Mn.bnd (Mn.bnd (Mn.bnd (Mn.bnd (Mn.bnd (Mn.pur one_281) fun p_295 => lift (m_fraction p_295)) fun x_296 => Mn.pur (⟨[x_296.1, x_296.2]⟩ : (Tl Int))) fun x_297 => Mn.bnd (Mn.pur (2 : Int)) fun y_298 => Mn.pur (x_297, y_298)) fun p_299 => lift (m__law_whole p_299.1 p_299.2)) fun b_300 => Mn.pur (!b_300)))) fun b_303 => cnd b_303 (Mn.bnd (Mn.pur false) fun r_305 => Mn.pur (.rt r_305)) (Mn.pur (.nx ())) : Option (Fl (Unit) Empty Bool)) fun t_304 => (Mn.bnd (Mn.bnd (Mn.bnd (Mn.pur (1200000 : Int)) fun x_312 => Mn.bnd (Mn.bnd (Mn.pur (1901955 : Int)) fun x_310 => Mn.bnd (Mn.bnd (Mn.pur (2786314 : Int)) fun x_308 => Mn.bnd (Mn.bnd (Mn.pur (3368826 : Int)) fun x_306 => Mn.bnd (Mn.pur ([] : List Int)) fun y_307 => Mn.pur (x_306 :: y_307)) fun y_309 => Mn.pur (x_308 :: y_309)) fun y_311 => Mn.pur (x_310 :: y_311)) fun y_313 => Mn.pur (x_312 :: y_313)) fun l_314 => gd (List.length l_314 ≤ 1000) (Mn.pur l_314)) fun grains_315 => (Mn.bnd (Mn.bnd (Mn.bnd (Mn.bnd (Mn.bnd (Mn.bnd (Mn.bnd (Mn.pur p0) fun x_316 => Mn.bnd (Mn.pur p1) fun y_317 => Mn.pur (x_316, y_317)) fun p_318 => lift (m__law_due p_318.1 p_318.2)) fun x_319 => Mn.bnd (Mn.pur grains_315) fun y_320 => Mn.pur (x_319, y_320)) fun z_321 => Mn.pur (List.zip (Tl.l z_321.1) z_321.2)) fun w_325 => gd (List.length w_325 ≤ 100000) (compL (fun (a_322 : (Int × Int)) => (Mn.pur true)) (fun (a_322 : (Int × Int)) => (Mn.bnd (Mn.pur a_322.1) fun x_323 => Mn.bnd (Mn.pur a_322.2) fun y_324 => gd (OL.MulOk x_323 y_324) (Mn.pur (x_323 * y_324)))) w_325)) fun u_327 => Mn.pur (List.sum u_327)) fun duehere_328 => (andThen (Mn.bnd (Mn.bnd (Mn.bnd (Mn.bnd (Mn.pur one_281) fun p_329 => lift (m_fraction p_329)) fun x_336 => Mn.bnd (Mn.bnd (Mn.bnd (Mn.pur p0) fun x_330 => Mn.bnd (Mn.pur by_285) fun y_331 => gd (OL.DivOk y_331) (Mn.pur (x_330 / y_331))) fun x_334 => Mn.bnd (Mn.bnd (Mn.pur p1) fun x_332 => Mn.bnd (Mn.pur by_285) fun y_333 => gd (OL.DivOk y_333) (Mn.pur (x_332 / y_333))) fun y_335 => Mn.pur (x_334, y_335)) fun y_337 => gd (Shp (enc x_336) = true ∧ Shp (enc y_337) = true) (Mn.pur (!PyData.eqv (enc x_336) (enc y_337)))) fun b_344 => cnd b_344 (Mn.pur true) (Mn.bnd (Mn.bnd (Mn.bnd (Mn.pur one_281) fun p_338 => lift (m_size p_338)) fun x_339 => Mn.bnd (Mn.pur duehere_328) fun y_340 => Mn.pur (!decide (x_339 = y_340))) fun b_343 => cnd b_343 (Mn.pur true) (Mn.bnd (Mn.bnd (Mn.pur one_281) fun p_341 => lift (m_size p_341)) fun _ => Mn.pur false))) fun b_345 => cnd b_345 (Mn.bnd (Mn.pur false) fun r_347 => Mn.pur (.rt r_347)) (Mn.pur (.nx ())) : Option (Fl (Unit) Empty Bool)) fun t_346 => (andThen (Mn.bnd (Mn.bnd (Mn.bnd (Mn.pur one_281) fun p_348 => lift (m_ratio_text p_348)) fun x_359 => Mn.bnd (Mn.bnd (Mn.bnd (Mn.bnd (Mn.bnd (Mn.pur p0) fun x_349 => Mn.bnd (Mn.pur by_285) fun y_350 => gd (OL.DivOk y_350) (Mn.pur (x_349 / y_350))) fun u_351 => gd (Nat.log2 (Int.natAbs u_351) < 1920) (Mn.pur (strI u_351))) fun x_352 => Mn.bnd (Mn.pur (" / " : Str)) fun y_353 => gd (x_352.length + y_353.length ≤ sizeLine) (Mn.pur (x_352 ++ y_353))) fun x_357 => Mn.bnd (Mn.bnd (Mn.bnd (Mn.pur p1) fun x_354 => Mn.bnd (Mn.pur by_285) fun y_355 => gd (OL.DivOk y_355) (Mn.pur (x_354 / y_355))) fun u_356 => gd (Nat.log2 (Int.natAbs u_356) < 1920) (Mn.pur (strI u_356))) fun y_358 => gd (x_357.length + y_358.length ≤ sizeLine) (Mn.pur (x_357 ++ y_358))) fun y_360 => Mn.pur (!decide (x_359 = y_360))) fun b_361 => cnd b_361 (Mn.bnd (Mn.pur false) fun r_363 => Mn.pur (.rt r_363)) (Mn.pur (.nx ())) : Option (Fl (Unit) Empty Bool)) fun t_362 => (Mn.bnd (Mn.bnd (Mn.bnd (Mn.bnd (Mn.pur one_281) fun p_364 => lift (m_turned p_364)) fun x_368 => Mn.bnd (Mn.bnd (Mn.bnd (Mn.pur p1) fun x_365 => Mn.bnd (Mn.pur p0) fun y_366 => Mn.pur (x_365, y_366)) fun p_367 => lift (m_ratio_of p_367.1 p_367.2)) fun y_369 => gd (Shp (enc x_368) = true ∧ Shp (enc y_369) = true) (Mn.pur (PyData.eqv (enc x_368) (enc y_369)))) fun b_379 => cnd b_379 (Mn.bnd (Mn.bnd (Mn.bnd (Mn.bnd (Mn.pur one_281) fun p_370 => lift (m_turned p_370)) fun x_371 => Mn.bnd (Mn.pur (4 : Int)) fun y_372 => Mn.pur (x_371, y_372)) fun p_373 => lift (m__law_whole p_373.1 p_373.2)) fun b_378 => cnd b_378 (Mn.bnd (Mn.bnd (Mn.bnd (Mn.pur one_281) fun p_374 => lift (m_turned p_374)) fun p_375 => lift (m_turned p_375)) fun x_376 => Mn.bnd (Mn.pur one_281) fun y_377 => gd (Shp (enc x_376) = true ∧ Shp (enc y_377) = true) (Mn.pur (PyData.eqv (enc x_376) (enc y_377)))) (Mn.pur false)) (Mn.pur false)) fun r_380 => Mn.pur (.rt r_380)))))))))
def m__law_ratio_right (p0 : Int) (p1 : Int) : Option Bool := fin (mb__law_ratio_right p0 p1)
def mb__law_step (p0 : (List Int)) : Sm (Fl Empty Empty Bool) := (begun bgF (Cells.cells p0) fun nm_381 => (Mn.bnd (Mn.bnd (Mn.bnd (Mn.pur ()) fun (_ : Unit) => m__law_part (Cells.cells p0) (some nm_381)) fun x_384 => Mn.bnd (Mn.bnd (Mn.pur ()) fun (_ : Unit) => m__law_part (Cells.cells p0) (some nm_381)) fun y_385 => Mn.pur (x_384, y_385)) fun p_386 => (Mn.bnd (Mn.bnd (Mn.bnd (Mn.pur ()) fun (_ : Unit) => m__law_part (Cells.cells p0) (some nm_381)) fun x_389 => Mn.bnd (Mn.bnd (Mn.pur ()) fun (_ : Unit) => m__law_part (Cells.cells p0) (some nm_381)) fun y_390 => Mn.pur (x_389, y_390)) fun p_391 => (andThen (Mn.bnd (Mn.bnd (Mn.bnd (Mn.pur (3 : Int)) fun p_392 => m__law_next (Cells.cells p0) (some nm_381) p_392) fun x_393 => Mn.bnd (Mn.pur (1 : Int)) fun y_394 => Mn.pur (decide (x_393 = y_394))) fun b_395 => cnd b_395 (Mn.bnd (Mn.bnd (Mn.bnd (Mn.pur p_386.1) fun x_401 => Mn.bnd (Mn.bnd (Mn.bnd (Mn.pur p_391.1) fun x_398 => Mn.bnd (Mn.bnd (Mn.pur (6 : Int)) fun p_397 => m__law_next (Cells.cells p0) (some nm_381) p_397) fun y_399 => Mn.pur (x_398, y_399)) fun p_400 => lift (m__law_over p_400.1 p_400.2)) fun y_402 => gd (OL.MulOk x_401 y_402) (Mn.pur (x_401 * y_402))) fun x_407 => Mn.bnd (Mn.bnd (Mn.pur p_391.2) fun x_405 => Mn.bnd (Mn.bnd (Mn.pur p_386.2) fun x_403 => Mn.bnd (Mn.pur (3 : Int)) fun y_404 => gd (OL.PowOk x_403 y_404) (Mn.pur (x_403 ^ Int.toNat y_404))) fun y_406 => gd (OL.MulOk x_405 y_406) (Mn.pur (x_405 * y_406))) fun y_408 => Mn.pur (x_407, y_408)) fun p_409 => (Mn.pur (.nx (p_409.1, p_409.2)))) (Mn.pur (.nx (p_386.1, p_391.2))) : Sm (Fl (Int × Int) Empty Bool)) fun t_396 => (andThen (Mn.bnd (Mn.bnd (Mn.bnd (Mn.bnd (Mn.bnd (Mn.pur t_396.1) fun x_410 => Mn.bnd (Mn.pur p_386.2) fun y_411 => Mn.pur (x_410, y_411)) fun x_436 => Mn.bnd (Mn.bnd (Mn.bnd (Mn.pur p_391.1) fun x_412 => Mn.bnd (Mn.pur t_396.2) fun y_413 => Mn.pur (x_412, y_413)) fun x_434 => Mn.bnd (Mn.bnd (Mn.bnd (Mn.bnd (Mn.pur t_396.1) fun x_414 => Mn.bnd (Mn.pur p_391.1) fun y_415 => gd (OL.MulOk x_414 y_415) (Mn.pur (x_414 * y_415))) fun x_418 => Mn.bnd (Mn.bnd (Mn.pur p_386.2) fun x_416 => Mn.bnd (Mn.pur t_396.2) fun y_417 => gd (OL.MulOk x_416 y_417) (Mn.pur (x_416 * y_417))) fun y_419 => Mn.pur (x_418, y_419)) fun x_432 => Mn.bnd (Mn.bnd (Mn.bnd (Mn.bnd (Mn.pur t_396.1) fun x_420 => Mn.bnd (Mn.pur p_391.1) fun y_421 => gd (OL.MulOk x_420 y_421) (Mn.pur (x_420 * y_421))) fun x_424 => Mn.bnd (Mn.bnd (Mn.pur p_386.2) fun x_422 => Mn.bnd (Mn.pur p_391.1) fun y_423 => gd (OL.MulOk x_422 y_423) (Mn.pur (x_422 * y_423))) fun y_425 => Mn.pur (x_424, y_425)) fun x_430 => Mn.bnd (Mn.bnd (Mn.bnd (Mn.pur t_396.1) fun x_426 => Mn.bnd (Mn.pur t_396.1) fun y_427 => Mn.pur (x_426, y_427)) fun x_428 => Mn.bnd (Mn.pur ([] : List (Int × Int))) fun y_429 => Mn.pur (x_428 :: y_429)) fun y_431 => Mn.pur (x_430 :: y_431)) fun y_433 => Mn.pur (x_432 :: y_433)) fun y_435 => Mn.pur (x_434 :: y_435)) fun y_437 => Mn.pur (x_436 :: y_437)) fun l_438 => gd (List.length l_438 ≤ 1000) (Mn.pur (⟨l_438⟩ : (Tl (Int × Int))))) fun w_439 => Mn.pur (Tl.l w_439)) fun w_543 => forL (fun (t_440 : Unit) (a_441 : (Int × Int)) => ((andThen (Mn.bnd (Mn.bnd (Mn.bnd (Mn.bnd (Mn.pur a_441.1) fun x_442 => Mn.bnd (Mn.pur a_441.2) fun y_443 => Mn.pur (x_442, y_443)) fun p_444 => lift (m__law_ratio_right p_444.1 p_444.2)) fun b_445 => Mn.pur (!b_445)) fun b_446 => cnd b_446 (Mn.bnd (Mn.pur false) fun r_448 => Mn.pur (.rt r_448)) (Mn.pur (.nx ())) : Sm (Fl (Unit) (Unit) Bool)) fun t_447 => (Mn.pur (.nx ()))) : Sm (Fl (Unit) (Unit) Bool))) w_543 () : Sm (Fl (Unit) Empty Bool)) fun t_440 => (Mn.bnd (Mn.bnd (Mn.bnd (Mn.bnd (Mn.bnd (Mn.pur t_396.1) fun x_449 => Mn.bnd (Mn.pur p_386.2) fun y_450 => Mn.pur (x_449, y_450)) fun p_451 => lift (m_ratio_of p_451.1 p_451.2)) fun x_455 => Mn.bnd (Mn.bnd (Mn.bnd (Mn.pur p_391.1) fun x_452 => Mn.bnd (Mn.pur t_396.2) fun y_453 => Mn.pur (x_452, y_453)) fun p_454 => lift (m_ratio_of p_454.1 p_454.2)) fun y_456 => Mn.pur (x_455, y_456)) fun p_457 => lift (m_together p_457.1 p_457.2)) fun both_458 => (andThen (Mn.bnd (Mn.bnd (Mn.bnd (Mn.bnd (Mn.bnd (Mn.pur both_458) fun x_459 => Mn.bnd (Mn.pur (4 : Int)) fun y_460 => Mn.pur (x_459, y_460)) fun p_461 => lift (m__law_whole p_461.1 p_461.2)) fun b_462 => Mn.pur (!b_462)) fun b_484 => cnd b_484 (Mn.pur true) (Mn.bnd (Mn.bnd (Mn.pur both_458) fun x_470 => Mn.bnd (Mn.bnd (Mn.bnd (Mn.bnd (Mn.pur t_396.1) fun x_463 => Mn.bnd (Mn.pur p_391.1) fun y_464 => gd (OL.MulOk x_463 y_464) (Mn.pur (x_463 * y_464))) fun x_467 => Mn.bnd (Mn.bnd (Mn.pur p_386.2) fun x_465 => Mn.bnd (Mn.pur t_396.2) fun y_466 => gd (OL.MulOk x_465 y_466) (Mn.pur (x_465 * y_466))) fun y_468 => Mn.pur (x_467, y_468)) fun p_469 => lift (m_ratio_of p_469.1 p_469.2)) fun y_471 => gd (Shp (enc x_470) = true ∧ Shp (enc y_471) = true) (Mn.pur (!PyData.eqv (enc x_470) (enc y_471)))) fun b_483 => cnd b_483 (Mn.pur true) (Mn.bnd (Mn.pur both_458) fun x_481 => Mn.bnd (Mn.bnd (Mn.bnd (Mn.bnd (Mn.bnd (Mn.pur p_391.1) fun x_472 => Mn.bnd (Mn.pur t_396.2) fun y_473 => Mn.pur (x_472, y_473)) fun p_474 => lift (m_ratio_of p_474.1 p_474.2)) fun x_478 => Mn.bnd (Mn.bnd (Mn.bnd (Mn.pur t_396.1) fun x_475 => Mn.bnd (Mn.pur p_386.2) fun y_476 => Mn.pur (x_475, y_476)) fun p_477 => lift (m_ratio_of p_477.1 p_477.2)) fun y_479 => Mn.pur (x_478, y_479)) fun p_480 => lift (m_together p_480.1 p_480.2)) fun y_482 => gd (Shp (enc x_481) = true ∧ Shp (enc y_482) = true) (Mn.pur (!PyData.eqv (enc x_481) (enc y_482)))))) fun b_485 => cnd b_485 (Mn.bnd (Mn.pur false) fun r_487 => Mn.pur (.rt r_487)) (Mn.pur (.nx ())) : Sm (Fl (Unit) Empty Bool)) fun t_486 => (Mn.bnd (Mn.bnd (Mn.pur (13 : Int)) fun p_488 => m__law_next (Cells.cells p0) (some nm_381) p_488) fun many_489 => (Mn.bnd (Mn.bnd (Mn.bnd (Mn.bnd (Mn.bnd (Mn.pur t_396.1) fun x_490 => Mn.bnd (Mn.pur p_386.2) fun y_491 => Mn.pur (x_490, y_491)) fun p_492 => lift (m_ratio_of p_492.1 p_492.2)) fun x_493 => Mn.bnd (Mn.pur many_489) fun y_494 => Mn.pur (x_493, y_494)) fun p_495 => lift (m_power p_495.1 p_495.2)) fun found_496 => (andThen (Mn.bnd (Mn.bnd (Mn.bnd (Mn.bnd (Mn.bnd (Mn.pur found_496) fun x_497 => Mn.bnd (Mn.pur (4 : Int)) fun y_498 => Mn.pur (x_497, y_498)) fun p_499 => lift (m__law_whole p_499.1 p_499.2)) fun b_500 => Mn.pur (!b_500)) fun b_512 => cnd b_512 (Mn.pur true) (Mn.bnd (Mn.pur found_496) fun x_510 => Mn.bnd (Mn.bnd (Mn.bnd (Mn.bnd (Mn.bnd (Mn.pur t_396.1) fun x_501 => Mn.bnd (Mn.pur many_489) fun y_502 => Mn.pur (x_501, y_502)) fun p_503 => lift (m__law_over p_503.1 p_503.2)) fun x_507 => Mn.bnd (Mn.bnd (Mn.bnd (Mn.pur p_386.2) fun x_504 => Mn.bnd (Mn.pur many_489) fun y_505 => Mn.pur (x_504, y_505)) fun p_506 => lift (m__law_over p_506.1 p_506.2)) fun y_508 => Mn.pur (x_507, y_508)) fun p_509 => lift (m_ratio_of p_509.1 p_509.2)) fun y_511 => gd (Shp (enc x_510) = true ∧ Shp (enc y_511) = true) (Mn.pur (!PyData.eqv (enc x_510) (enc y_511))))) fun b_513 => cnd b_513 (Mn.bnd (Mn.pur false) fun r_515 => Mn.pur (.rt r_515)) (Mn.pur (.nx ())) : Sm (Fl (Unit) Empty Bool)) fun t_514 => (Mn.bnd (Mn.bnd (Mn.bnd (Mn.bnd (Mn.pur both_458) fun p_516 => lift (m_size p_516)) fun x_527 => Mn.bnd (Mn.bnd (Mn.bnd (Mn.bnd (Mn.bnd (Mn.pur t_396.1) fun x_517 => Mn.bnd (Mn.pur p_386.2) fun y_518 => Mn.pur (x_517, y_518)) fun p_519 => lift (m_ratio_of p_519.1 p_519.2)) fun p_520 => lift (m_size p_520)) fun x_525 => Mn.bnd (Mn.bnd (Mn.bnd (Mn.bnd (Mn.pur p_391.1) fun x_521 => Mn.bnd (Mn.pur t_396.2) fun y_522 => Mn.pur (x_521, y_522)) fun p_523 => lift (m_ratio_of p_523.1 p_523.2)) fun p_524 => lift (m_size p_524)) fun y_526 => Mn.pur (x_525 + y_526)) fun y_528 => Mn.pur (decide (x_527 = y_528))) fun b_541 => cnd b_541 (Mn.bnd (Mn.bnd (Mn.bnd (Mn.bnd (Mn.pur t_396.1) fun x_529 => Mn.bnd (Mn.pur p_391.1) fun y_530 => gd (OL.MulOk x_529 y_530) (Mn.pur (x_529 * y_530))) fun x_533 => Mn.bnd (Mn.bnd (Mn.pur p_386.2) fun x_531 => Mn.bnd (Mn.pur p_391.1) fun y_532 => gd (OL.MulOk x_531 y_532) (Mn.pur (x_531 * y_532))) fun y_534 => Mn.pur (x_533, y_534)) fun p_535 => lift (m_ratio_of p_535.1 p_535.2)) fun x_539 => Mn.bnd (Mn.bnd (Mn.bnd (Mn.pur t_396.1) fun x_536 => Mn.bnd (Mn.pur p_386.2) fun y_537 => Mn.pur (x_536, y_537)) fun p_538 => lift (m_ratio_of p_538.1 p_538.2)) fun y_540 => gd (Shp (enc x_539) = true ∧ Shp (enc y_540) = true) (Mn.pur (PyData.eqv (enc x_539) (enc y_540)))) (Mn.pur false)) fun r_542 => Mn.pur (.rt r_542))))))))))))
def m__law_step (p0 : (List Int)) : Option Bool := fin0 (mb__law_step p0)
def mb_law (p0 : Sc) : Option (Fl Empty Empty Bool) := (andThen (Mn.bnd (Mn.bnd (Mn.bnd (Mn.pur (0 : Int)) fun x_551 => Mn.bnd (Mn.bnd (Mn.bnd (Mn.bnd (Mn.pur (1 : Int)) fun x_546 => Mn.bnd (Mn.bnd (Mn.pur p0) fun u_545 => Mn.pur ((List.length (Sc.ns u_545) : Nat) : Int)) fun y_547 => Mn.pur (x_546, y_547)) fun p_548 => Mn.pur (max p_548.1 p_548.2)) fun x_549 => Mn.bnd (Mn.pur (3 : Int)) fun y_550 => Mn.pur (x_549, y_550)) fun y_552 => Mn.pur (x_551, y_552)) fun n_553 => gd (Rg3 n_553.1 n_553.2.1 n_553.2.2) (Mn.pur (upTo n_553.1 (rg3 n_553.1 n_553.2.1 n_553.2.2) n_553.2.2))) fun w_569 => forL (fun (t_554 : Unit) (a_555 : Int) => ((andThen (Mn.bnd (Mn.bnd (Mn.bnd (Mn.bnd (Mn.pur p0) fun x_560 => Mn.bnd (Mn.bnd (Mn.pur a_555) fun i_556 => Mn.pur (some i_556)) fun l_561 => Mn.bnd (Mn.bnd (Mn.bnd (Mn.pur a_555) fun x_557 => Mn.bnd (Mn.pur (3 : Int)) fun y_558 => Mn.pur (x_557 + y_558)) fun i_559 => Mn.pur (some i_559)) fun h_562 => Mn.pur (cutL (Sc.ns x_560) l_561 h_562)) fun p_563 => lift (m__law_step p_563)) fun b_564 => Mn.pur (!b_564)) fun b_565 => cnd b_565 (Mn.bnd (Mn.pur false) fun r_567 => Mn.pur (.rt r_567)) (Mn.pur (.nx ())) : Option (Fl (Unit) (Unit) Bool)) fun t_566 => (Mn.pur (.nx ()))) : Option (Fl (Unit) (Unit) Bool))) w_569 () : Option (Fl (Unit) Empty Bool)) fun t_554 => (Mn.bnd (Mn.pur true) fun r_568 => Mn.pur (.rt r_568)))
def m_law (p0 : Sc) : Option Bool := fin (mb_law p0)
end K02

set_option Elab.async false
set_option linter.all false
set_option maxRecDepth 100000
set_option maxHeartbeats 1000000
namespace K02
open PySem PySem.Spec PyProof.Rows L2 OL
theorem small_div {p : Int} (h : 2 ≤ p ∧ p ≤ 7) : OL.DivOk p := ⟨by omega, log2_small (by omega)⟩
theorem how_often_eq {p : Int} (hp : 2 ≤ p ∧ p ≤ 7) (e : Nat) (m : Int) (hm : 0 < m) (hd : m % p ≠ 0) (he : e < 100000) : m_how_often (p ^ e * m) p = some (e : Int) := by
  unfold m_how_often mb_how_often
  rw [pbO]
  have pp : ∀ e : Nat, 0 < p ^ e := fun e => Int.pow_pos (by omega)
  have ex : ∀ (e : Nat) (k : Int) (e' : Nat), True := fun _ _ _ => trivial
  -- the state: what is left is p ^ j * m
  rw [whl_inv (I := fun t => ∃ j : Nat, j ≤ e ∧ t = (p ^ j * m, ((e : Int) - j))) (mu := fun t => (e - t.2).toNat) (fin := fun _ => (m, (e : Int)))]
  · rw [andThen_nx, pbO, pur_opt]; rfl
  · rintro t ⟨j, hj, rfl⟩ hc
    have hj0 : j ≠ 0 := fun z => by
      subst z
      simp only [pbO, bnd_opt, pur_opt, Option.bind_some, Int.pow_zero, Int.one_mul] at hc
      by_cases h1 : 1 < m
      · rw [decide_eq_true h1] at hc
        simp only [cnd_t, gd_y (show (0 : Int) < p by omega), pur_opt, Option.bind_some, Option.some.injEq, decide_eq_true_eq] at hc
        exact hd hc
      · rw [decide_eq_false h1] at hc
        simp [cnd_f] at hc
    obtain ⟨i, rfl⟩ : ∃ i, j = i + 1 := ⟨j - 1, by omega⟩
    have dv : p ^ (i + 1) * m / p = p ^ i * m := by
      rw [Int.pow_succ, Int.mul_comm (p ^ i) p, Int.mul_assoc]
      exact Int.mul_ediv_cancel_left _ (by omega)
    refine ⟨(p ^ i * m, (e : Int) - i), ?_, ⟨i, by omega, rfl⟩, ?_, rfl⟩
    · simp only [pbO, gd_y (small_div hp)]
      rw [dv, pur_opt]
      congr 3; omega
    · show ((e : Int) - (e - i)).toNat < ((e : Int) - (e - (i + 1 : Nat))).toNat
      omega
  · rintro t ⟨j, hj, rfl⟩
    simp only [pbO, bnd_opt, pur_opt, Option.bind_some]
    by_cases h0 : j = 0
    · subst h0
      right
      refine ⟨?_, by simp⟩
      rw [Int.pow_zero, Int.one_mul]
      by_cases h1 : 1 < m
      · rw [decide_eq_true h1]
        simp only [cnd_t, gd_y (show (0 : Int) < p by omega), pur_opt, Option.bind_some, decide_eq_false hd]
      · rw [decide_eq_false h1]; rfl
    · left
      obtain ⟨i, rfl⟩ : ∃ i, j = i + 1 := ⟨j - 1, by omega⟩
      have hs : p ^ (i + 1) * m = p * (p ^ i * m) := by rw [Int.pow_succ, Int.mul_comm (p ^ i) p, Int.mul_assoc]
      have g1 : 1 < p ^ (i + 1) * m := by
        rw [hs]
        have h2 : 0 < p ^ i * m := Int.mul_pos (pp i) hm
        have h3 : p * 1 ≤ p * (p ^ i * m) := Int.mul_le_mul_of_nonneg_left (by omega) (by omega)
        omega
      rw [decide_eq_true g1]
      have g2 : p ^ (i + 1) * m % p = 0 := by rw [hs]; exact Int.mul_emod_right _ _
      simp only [cnd_t, gd_y (show (0 : Int) < p by omega), pur_opt, Option.bind_some, g2]
      rfl
  · exact ⟨e, Nat.le_refl _, by simp⟩
  · show ((e : Int) - 0).toNat < FU
    have : FU = 1000000000 := rfl
    rw [this]; omega
/-! ### numbers of 2s, 3s, 5s and 7s -/
def sm (a b c d : Nat) : Int := 2 ^ a * (3 ^ b * (5 ^ c * 7 ^ d))
theorem nz_mul {p : Int} (hp : p = 2 ∨ p = 3 ∨ p = 5 ∨ p = 7) {x y : Int} (hx : x % p ≠ 0) (hy : y % p ≠ 0) : x * y % p ≠ 0 := by
  rw [Int.mul_emod]
  have h1 := Int.emod_nonneg x (show p ≠ 0 by omega)
  have h2 := Int.emod_lt_of_pos x (show 0 < p by omega)
  have h3 := Int.emod_nonneg y (show p ≠ 0 by omega)
  have h4 := Int.emod_lt_of_pos y (show 0 < p by omega)
  generalize x % p = u at *
  generalize y % p = v at *
  rcases hp with rfl | rfl | rfl | rfl
  · have e1 : u = 1 := by omega
    have e2 : v = 1 := by omega
    subst e1 e2; decide
  · have e1 : u = 1 ∨ u = 2 := by omega
    have e2 : v = 1 ∨ v = 2 := by omega
    rcases e1 with rfl | rfl <;> rcases e2 with rfl | rfl <;> decide
  · have e1 : u = 1 ∨ u = 2 ∨ u = 3 ∨ u = 4 := by omega
    have e2 : v = 1 ∨ v = 2 ∨ v = 3 ∨ v = 4 := by omega
    rcases e1 with rfl | rfl | rfl | rfl <;> rcases e2 with rfl | rfl | rfl | rfl <;> decide
  · have e1 : u = 1 ∨ u = 2 ∨ u = 3 ∨ u = 4 ∨ u = 5 ∨ u = 6 := by omega
    have e2 : v = 1 ∨ v = 2 ∨ v = 3 ∨ v = 4 ∨ v = 5 ∨ v = 6 := by omega
    rcases e1 with rfl | rfl | rfl | rfl | rfl | rfl <;> rcases e2 with rfl | rfl | rfl | rfl | rfl | rfl <;> decide
theorem nz_pow {p q : Int} (hp : p = 2 ∨ p = 3 ∨ p = 5 ∨ p = 7) (hq : q % p ≠ 0) : ∀ n : Nat, q ^ n % p ≠ 0
  | 0 => by rw [Int.pow_zero]; rcases hp with rfl | rfl | rfl | rfl <;> decide
  | n + 1 => by rw [Int.pow_succ]; exact nz_mul hp (nz_pow hp hq n) hq
theorem pw_pos {q : Int} (h : 0 < q) (n : Nat) : 0 < q ^ n := Int.pow_pos h
theorem sm2 (a b c d : Nat) : ∃ m, sm a b c d = 2 ^ a * m ∧ 0 < m ∧ m % 2 ≠ 0 ∧ m = sm 0 b c d := ⟨sm 0 b c d, by unfold sm; rw [Int.pow_zero, Int.one_mul], by
  unfold sm; rw [Int.pow_zero, Int.one_mul]; exact Int.mul_pos (pw_pos (by decide) _) (Int.mul_pos (pw_pos (by decide) _) (pw_pos (by decide) _)), by
  unfold sm; rw [Int.pow_zero, Int.one_mul]; exact nz_mul (by decide) (nz_pow (by decide) (by decide) _) (nz_mul (by decide) (nz_pow (by decide) (by decide) _) (nz_pow (by decide) (by decide) _)), rfl⟩
theorem sm3 (a b c d : Nat) : ∃ m, sm a b c d = 3 ^ b * m ∧ 0 < m ∧ m % 3 ≠ 0 ∧ m = sm a 0 c d := ⟨sm a 0 c d, by unfold sm; rw [Int.pow_zero, Int.one_mul]; ac_rfl, by
  unfold sm; rw [Int.pow_zero, Int.one_mul]; exact Int.mul_pos (pw_pos (by decide) _) (Int.mul_pos (pw_pos (by decide) _) (pw_pos (by decide) _)), by
  unfold sm; rw [Int.pow_zero, Int.one_mul]; exact nz_mul (by decide) (nz_pow (by decide) (by decide) _) (nz_mul (by decide) (nz_pow (by decide) (by decide) _) (nz_pow (by decide) (by decide) _)), rfl⟩
theorem sm5 (a b c d : Nat) : ∃ m, sm a b c d = 5 ^ c * m ∧ 0 < m ∧ m % 5 ≠ 0 ∧ m = sm a b 0 d := ⟨sm a b 0 d, by unfold sm; rw [Int.pow_zero, Int.one_mul]; ac_rfl, by
  unfold sm; rw [Int.pow_zero, Int.one_mul]; exact Int.mul_pos (pw_pos (by decide) _) (Int.mul_pos (pw_pos (by decide) _) (pw_pos (by decide) _)), by
  unfold sm; rw [Int.pow_zero, Int.one_mul]; exact nz_mul (by decide) (nz_pow (by decide) (by decide) _) (nz_mul (by decide) (nz_pow (by decide) (by decide) _) (nz_pow (by decide) (by decide) _)), rfl⟩
theorem sm7 (a b c d : Nat) : ∃ m, sm a b c d = 7 ^ d * m ∧ 0 < m ∧ m % 7 ≠ 0 ∧ m = sm a b c 0 := ⟨sm a b c 0, by unfold sm; rw [Int.pow_zero, Int.mul_one]; ac_rfl, by
  unfold sm; rw [Int.pow_zero, Int.mul_one]; exact Int.mul_pos (pw_pos (by decide) _) (Int.mul_pos (pw_pos (by decide) _) (pw_pos (by decide) _)), by
  unfold sm; rw [Int.pow_zero, Int.mul_one]; exact nz_mul (by decide) (nz_pow (by decide) (by decide) _) (nz_mul (by decide) (nz_pow (by decide) (by decide) _) (nz_pow (by decide) (by decide) _)), rfl⟩
theorem sm_pos (a b c d : Nat) : 0 < sm a b c d := Int.mul_pos (pw_pos (by decide) _) (Int.mul_pos (pw_pos (by decide) _) (Int.mul_pos (pw_pos (by decide) _) (pw_pos (by decide) _)))
theorem sm_mul (a b c d a' b' c' d' : Nat) : sm a b c d * sm a' b' c' d' = sm (a + a') (b + b') (c + c') (d + d') := by
  unfold sm; rw [Int.pow_add, Int.pow_add, Int.pow_add, Int.pow_add]; ac_rfl
theorem ho2 {a b c d : Nat} (h : a < 100000) : m_how_often (sm a b c d) 2 = some (a : Int) := by
  obtain ⟨m, e, h1, h2, _⟩ := sm2 a b c d
  rw [e]; exact how_often_eq (by decide) a m h1 h2 h
theorem ho3 {a b c d : Nat} (h : b < 100000) : m_how_often (sm a b c d) 3 = some (b : Int) := by
  obtain ⟨m, e, h1, h2, _⟩ := sm3 a b c d
  rw [e]; exact how_often_eq (by decide) b m h1 h2 h
theorem ho5 {a b c d : Nat} (h : c < 100000) : m_how_often (sm a b c d) 5 = some (c : Int) := by
  obtain ⟨m, e, h1, h2, _⟩ := sm5 a b c d
  rw [e]; exact how_often_eq (by decide) c m h1 h2 h
theorem ho7 {a b c d : Nat} (h : d < 100000) : m_how_often (sm a b c d) 7 = some (d : Int) := by
  obtain ⟨m, e, h1, h2, _⟩ := sm7 a b c d
  rw [e]; exact how_often_eq (by decide) d m h1 h2 h
/-- an exponent vector -/
abbrev Rt (w x y z : Int) : Tl Int := ⟨[w, x, y, z]⟩
theorem ratio_of_eq {a b c d a' b' c' d' : Nat} (h : a + b + c + d < 100000) (h' : a' + b' + c' + d' < 100000) : m_ratio_of (sm a b c d) (sm a' b' c' d') = some (Rt (a - a') (b - b') (c - c') (d - d')) := by
  unfold m_ratio_of mb_ratio_of
  simp only [pbO, c_PRIMES, gd_y (show ([2, 3, 5, 7] : List Int).length ≤ 100000 by decide), compL_cons, compL_nil, liftO, ho2 (show a < 100000 by omega), ho3 (show b < 100000 by omega), ho5 (show c < 100000 by omega), ho7 (show d < 100000 by omega),
    ho2 (show a' < 100000 by omega), ho3 (show b' < 100000 by omega), ho5 (show c' < 100000 by omega), ho7 (show d' < 100000 by omega), sbO, pur_opt]
  rfl
theorem together_eq (w x y z w' x' y' z' : Int) : m_together (Rt w x y z) (Rt w' x' y' z') = some (Rt (w + w') (x + x') (y + y') (z + z')) := by
  unfold m_together mb_together
  simp only [pbO, List.zip_cons_cons, List.zip_nil_right, compL_cons, compL_nil, sbO, pur_opt]
  rw [gd_y (by simp), sbO, sbO]; rfl
theorem turned_eq (w x y z : Int) : m_turned (Rt w x y z) = some (Rt (-w) (-x) (-y) (-z)) := by
  unfold m_turned mb_turned
  simp only [pbO, compL_cons, compL_nil, sbO, pur_opt]
  rw [gd_y (by simp), sbO, sbO]; rfl
theorem power_eq (w x y z : Int) {n : Int} (h : 0 ≤ n ∧ n ≤ 1000) : m_power (Rt w x y z) n = some (Rt (w * n) (x * n) (y * n) (z * n)) := by
  have g : ∀ i : Int, OL.MulOk i n := fun i => mul_ok2 (by omega)
  unfold m_power mb_power
  simp only [pbO, compL_cons, compL_nil, gd_y (g _), sbO, pur_opt]
  rw [gd_y (by simp), sbO, sbO]; rfl
theorem size_eq (w x y z : Int) : m_size (Rt w x y z) = some (w * 1200000 + (x * 1901955 + (y * 2786314 + (z * 3368826 + 0)))) := by
  have g1 : ∀ i : Int, OL.MulOk i 1200000 := fun i => mul_ok2 (by decide)
  have g2 : ∀ i : Int, OL.MulOk i 1901955 := fun i => mul_ok2 (by decide)
  have g3 : ∀ i : Int, OL.MulOk i 2786314 := fun i => mul_ok2 (by decide)
  have g4 : ∀ i : Int, OL.MulOk i 3368826 := fun i => mul_ok2 (by decide)
  unfold m_size mb_size
  simp only [pbO, c_GRAINS, List.zip_cons_cons, List.zip_nil_right, compL_cons, compL_nil, gd_y (g1 _), gd_y (g2 _), gd_y (g3 _), gd_y (g4 _), sbO, pur_opt]
  rw [gd_y (by simp), sbO, sbO]; rfl
/-! ### powers -/
theorem nat_pow_lt {q : Int} (h : 2 ≤ q ∧ q ≤ 7) (n : Nat) : (q ^ n).natAbs < 2 ^ (3 * n + 1) := by
  rw [Int.natAbs_pow, Nat.pow_succ, Nat.pow_mul]
  have h1 : q.natAbs ^ n ≤ (2 ^ 3) ^ n := Nat.pow_le_pow_left (by omega) n
  have h2 : 0 < (2 ^ 3) ^ n := Nat.pow_pos (by decide)
  omega
theorem le_abs {x y : Int} {b : Nat} (h0 : 0 < x) (h : x ≤ y) (hb : y.natAbs < b) : x.natAbs < b := by omega
theorem mul_ok3 {i j : Int} {a b : Nat} (ha : i.natAbs < 2 ^ a) (hb : j.natAbs < 2 ^ b) (h0 : 0 < a) (h1 : 0 < b) (h : a + b ≤ 1000000) : OL.MulOk i j := .inr (wide_mul ha hb h0 h1 h)
theorem sq_pow (P : Int) : ∀ n : Nat, (P * P) ^ n = P ^ (n + n)
  | 0 => by simp
  | n + 1 => by
    rw [Int.pow_succ, sq_pow P n, show n + 1 + (n + 1) = n + n + 1 + 1 by omega, Int.pow_succ, Int.pow_succ]; ac_rfl
theorem raised_eq {q : Int} (hq : 2 ≤ q ∧ q ≤ 7) {n : Nat} (hn : n ≤ 5000) : m_raised q (n : Int) = some (q ^ n) := by
  unfold m_raised mb_raised
  rw [pbO]
  have hb := nat_pow_lt hq n
  rw [andThen_whl (I := fun t => ∃ (P o : Int) (k : Nat), t = (P, (k : Int), o) ∧ 0 < P ∧ 0 < o ∧ o * P ^ k = q ^ n ∧ k ≤ n) (mu := fun t => t.2.1.toNat) (r := some (.rt (q ^ n)))]
  · rfl
  · exact ⟨q, 1, n, rfl, by omega, by decide, by rw [Int.one_mul], Nat.le_refl _⟩
  · show ((n : Int)).toNat < FU
    have : FU = 1000000000 := rfl
    rw [this]; omega
  · rintro t ⟨P, o, k, rfl, hP, ho, hk, hkn⟩ hc
    have k1 : 1 ≤ k := by
      simp only [pbO, sbO, pur_opt, Option.some.injEq, decide_eq_true_eq] at hc
      omega
    have pk : 0 < P ^ k := Int.pow_pos hP
    have hPle : P ≤ q ^ n := by
      obtain ⟨j, rfl⟩ : ∃ j, k = j + 1 := ⟨k - 1, by omega⟩
      have pj : 0 < P ^ j := Int.pow_pos hP
      have h1 : P * 1 ≤ P * (P ^ j * o) := Int.mul_le_mul_of_nonneg_left (by have := Int.mul_pos pj ho; omega) (by omega)
      have h2 : P * (P ^ j * o) = q ^ n := by rw [← hk, Int.pow_succ]; ac_rfl
      omega
    have hole : o ≤ q ^ n := by
      have h1 : o * 1 ≤ o * P ^ k := Int.mul_le_mul_of_nonneg_left (by omega) (by omega)
      omega
    have bP := le_abs hP hPle hb
    have bo := le_abs ho hole hb
    have g1 : OL.MulOk o P := mul_ok3 bo bP (by omega) (by omega) (by omega)
    have g2 : OL.MulOk P P := mul_ok3 bP bP (by omega) (by omega) (by omega)
    have g3 : OL.DivOk 2 := small_div (by decide)
    have hdiv : ((k : Int) / 2) = ((k / 2 : Nat) : Int) := by omega
    by_cases odd : k % 2 = 1
    · refine ⟨(P * P, ((k / 2 : Nat) : Int), o * P), ?_, ⟨P * P, o * P, k / 2, rfl, Int.mul_pos hP hP, Int.mul_pos ho hP, ?_, by omega⟩, ?_⟩
      · have e : (k : Int) % 2 = 1 := by omega
        simp only [pbO, sbO, gd_y (show (0 : Int) < 2 by decide), e, decide_true, cnd_t, gd_y g1, gd_y g2, gd_y g3, hdiv, pur_opt, andThen_nx]
      · have ek : k = k / 2 + k / 2 + 1 := by omega
        rw [sq_pow, ← hk]
        conv => rhs; rw [ek, Int.pow_succ]
        ac_rfl
      · show ((k / 2 : Nat) : Int).toNat < ((k : Nat) : Int).toNat
        omega
    · refine ⟨(P * P, ((k / 2 : Nat) : Int), o), ?_, ⟨P * P, o, k / 2, rfl, Int.mul_pos hP hP, ho, ?_, by omega⟩, ?_⟩
      · have e : (k : Int) % 2 ≠ 1 := by omega
        simp only [pbO, sbO, gd_y (show (0 : Int) < 2 by decide), decide_eq_false e, cnd_f, gd_y g2, gd_y g3, hdiv, pur_opt, andThen_nx]
      · have ek : k = k / 2 + k / 2 := by omega
        rw [sq_pow, ← hk]
        conv => rhs; rw [ek]
      · show ((k / 2 : Nat) : Int).toNat < ((k : Nat) : Int).toNat
        omega
  · rintro t ⟨P, o, k, rfl, hP, ho, hk, hkn⟩
    simp only [pbO, sbO, pur_opt, Option.some.injEq]
    by_cases z : (0 : Int) < k
    · left; exact decide_eq_true z
    · right; exact decide_eq_false z
  · rintro t ⟨P, o, k, rfl, hP, ho, hk, hkn⟩ e2
    have k0 : k = 0 := by
      simp only [pbO, sbO, pur_opt, Option.some.injEq, decide_eq_false_iff_not] at e2
      omega
    subst k0
    rw [Int.pow_zero, Int.mul_one] at hk
    rw [pbO, pur_opt, hk]
theorem max0 (w : Int) : max w 0 = (w.toNat : Int) := by rw [Int.max_def]; split <;> omega
theorem fraction_eq {w x y z : Int} (h : w.natAbs ≤ 3000 ∧ x.natAbs ≤ 3000 ∧ y.natAbs ≤ 3000 ∧ z.natAbs ≤ 3000) : m_fraction (Rt w x y z) = some (sm w.toNat x.toNat y.toNat z.toNat, sm (-w).toNat (-x).toNat (-y).toNat (-z).toNat) := by
  unfold m_fraction mb_fraction
  have r : ∀ {q v : Int}, (2 ≤ q ∧ q ≤ 7) → v.natAbs ≤ 3000 → m_raised q (v.toNat : Int) = some (q ^ v.toNat) := fun hq hv => raised_eq hq (by omega)
  have b : ∀ {q v : Int}, (2 ≤ q ∧ q ≤ 7) → v.natAbs ≤ 3000 → (q ^ v.toNat).natAbs < 2 ^ 9001 := fun hq hv => Nat.lt_of_lt_of_le (nat_pow_lt hq _) (Nat.pow_le_pow_right (by decide) (by omega))
  have b0 : (1 : Int).natAbs < 2 ^ 1 := by decide
  have n1 : ∀ {v : Int}, v.natAbs ≤ 3000 → (-v).natAbs ≤ 3000 := fun h => by omega
  have q2 : (2 : Int) ≤ 2 ∧ (2 : Int) ≤ 7 := by decide
  have q3 : (2 : Int) ≤ 3 ∧ (3 : Int) ≤ 7 := by decide
  have q5 : (2 : Int) ≤ 5 ∧ (5 : Int) ≤ 7 := by decide
  have q7 : (2 : Int) ≤ 7 ∧ (7 : Int) ≤ 7 := by decide
  obtain ⟨h1, h2, h3, h4⟩ := h
  have c1 := wide_lt b0 (b q2 h1)
  have c2 := wide_lt c1 (b q3 h2)
  have c3 := wide_lt c2 (b q5 h3)
  have d1 := wide_lt b0 (b q2 (n1 h1))
  have d2 := wide_lt d1 (b q3 (n1 h2))
  have d3 := wide_lt d2 (b q5 (n1 h3))
  simp only [pbO, c_PRIMES, List.zip_cons_cons, List.zip_nil_right, forL_cons, forL_nil, max0, liftO, r q2 h1, r q3 h2, r q5 h3, r q7 h4, r q2 (n1 h1), r q3 (n1 h2), r q5 (n1 h3), r q7 (n1 h4), sbO, pur_opt,
    gd_y (mul_ok3 b0 (b q2 h1) (by decide) (by decide) (by decide)), gd_y (mul_ok3 c1 (b q3 h2) (by decide) (by decide) (by decide)), gd_y (mul_ok3 c2 (b q5 h3) (by decide) (by decide) (by decide)), gd_y (mul_ok3 c3 (b q7 h4) (by decide) (by decide) (by decide)),
    gd_y (mul_ok3 b0 (b q2 (n1 h1)) (by decide) (by decide) (by decide)), gd_y (mul_ok3 d1 (b q3 (n1 h2)) (by decide) (by decide) (by decide)), gd_y (mul_ok3 d2 (b q5 (n1 h3)) (by decide) (by decide) (by decide)), gd_y (mul_ok3 d3 (b q7 (n1 h4)) (by decide) (by decide) (by decide)), andThen_nx]
  show some (_, _) = _
  unfold sm
  simp only [Int.one_mul, Int.mul_assoc]
theorem over_loop {p : Int} {b : Nat} (hb : p.natAbs < 2 ^ b) (h0 : 0 < b) {body : Int → Int → Option (Fl Int Int Int)} (hbo : ∀ t x, OL.MulOk t p → body t x = some (.nx (t * p))) :
    ∀ (xs : List Int) (t : Int) (a : Nat), t.natAbs < 2 ^ a → 0 < a → a + b * xs.length ≤ 900000 → b ≤ 1000 → (forL body xs t : Option (Fl Int Empty Int)) = some (.nx (t * p ^ xs.length))
  | [], t, a, _, _, _, _ => by rw [forL_nil, pur_opt]; simp
  | x :: xs, t, a, ht, ha, hs, h1 => by
    rw [List.length_cons, Nat.mul_succ] at hs
    rw [forL_cons, hbo t x (mul_ok3 ht hb ha h0 (by omega)), sbO]
    show forL body xs (t * p) = _
    rw [over_loop hb h0 hbo xs (t * p) (a + b) (wide_lt ht hb) (by omega) (by omega) h1, List.length_cons, Int.pow_succ]
    congr 2; ac_rfl
theorem over_eq {p : Int} {b : Nat} (hb : p.natAbs < 2 ^ b) (h0 : 0 < b) (h1 : b ≤ 1000) {n : Nat} (hn : n ≤ 100) : m__law_over p (n : Int) = some (p ^ n) := by
  unfold m__law_over mb__law_over
  have e : (n : Int).toNat = n := Int.toNat_natCast n
  have hl : b * n ≤ 1000 * 100 := Nat.mul_le_mul h1 hn
  simp only [pbO, sbO, pur_opt, gd_y (show -(2 ^ 62) ≤ (n : Int) ∧ (n : Int) < 2 ^ 62 by omega), e]
  rw [over_loop hb h0 (fun t x hm => by simp only [gd_y hm, sbO]) (upTo 0 n 1) 1 1 (by decide) (by decide) (by rw [upTo_len]; omega) h1, andThen_nx, upTo_len, Int.one_mul]
  rfl
/-! ### the greatest common divisor -/
def muG (t : Int × Int) : Nat := if t.2 = 0 then 0 else (t.1.natAbs * t.2.natAbs).log2 + (if t.1 < t.2 then 2 else 1)
theorem log2_half {x y r : Nat} (hr : r < y) (hy : y ≤ x) (e : x % y = r) (r0 : 0 < r) : (y * r).log2 < (x * y).log2 := by
  have h2 : 2 * r ≤ x := by
    have h3 : y * (x / y) + x % y = x := Nat.div_add_mod x y
    have h4 : 1 ≤ x / y := (Nat.le_div_iff_mul_le (by omega)).mpr (by omega)
    have h5 : y * 1 ≤ y * (x / y) := Nat.mul_le_mul_left y h4
    omega
  refine Nat.lt_of_not_le fun hle => ?_
  have p1 : 0 < y * r := Nat.mul_pos (by omega) r0
  have a1 : 2 ^ (y * r).log2 ≤ y * r := Nat.log2_self_le (by omega)
  have a2 : x * y < 2 ^ ((x * y).log2 + 1) := Nat.lt_log2_self
  have a3 : 2 ^ ((x * y).log2 + 1) ≤ 2 ^ ((y * r).log2 + 1) := Nat.pow_le_pow_right (by decide) (by omega)
  rw [Nat.pow_succ 2 (y * r).log2] at a3
  have a4 : y * r * 2 ≤ x * y := by
    have := Nat.mul_le_mul_left y h2
    rw [Nat.mul_comm x y]
    calc y * r * 2 = y * (2 * r) := by rw [Nat.mul_assoc, Nat.mul_comm r 2]
      _ ≤ y * x := this
  omega
theorem common_eq {p q : Nat} (hp : 0 < p) (hq : 0 < q) (h1 : p < 2 ^ 3000) (h2 : q < 2 ^ 3000) : m__law_common (p : Int) (q : Int) = some (Nat.gcd p q : Int) := by
  unfold m__law_common mb__law_common
  rw [andThen_whl (I := fun t => ∃ x y : Nat, t = ((x : Int), (y : Int)) ∧ Nat.gcd x y = Nat.gcd p q) (mu := muG) (r := some (.rt (Nat.gcd p q : Int)))]
  · rfl
  · exact ⟨p, q, rfl, rfl⟩
  · have hl : (p * q).log2 < 6000 := by
      rw [Nat.log2_lt (by have := Nat.mul_pos hp hq; omega)]
      calc p * q < 2 ^ 3000 * 2 ^ 3000 := Nat.mul_lt_mul'' h1 h2
        _ = 2 ^ 6000 := by rw [← Nat.pow_add]
    have e : FU = 1000000000 := rfl
    unfold muG
    simp only [Int.natAbs_natCast]
    split
    · rw [e]; omega
    · split <;> (rw [e]; omega)
  · rintro t ⟨x, y, rfl, hg⟩ hc
    simp only [pbO, sbO, pur_opt, Option.some.injEq, decide_eq_true_eq] at hc
    have y0 : 0 < y := by omega
    refine ⟨((y : Int), ((x % y : Nat) : Int)), ?_, ⟨y, x % y, rfl, ?_⟩, ?_⟩
    · simp only [pbO, sbO, pur_opt, gd_y (show (0 : Int) < y by omega)]
      rw [Int.natCast_emod]
    · rw [← hg, Nat.gcd_comm x y, Nat.gcd_rec y x, Nat.gcd_comm]
    · unfold muG
      have hr : x % y < y := Nat.mod_lt _ y0
      simp only [Int.natAbs_natCast]
      rw [if_neg (show ¬ ((y : Nat) : Int) = 0 by omega)]
      by_cases r0 : ((x % y : Nat) : Int) = 0
      · rw [if_pos r0]; split <;> omega
      · rw [if_neg r0, if_neg (show ¬ ((y : Nat) : Int) < ((x % y : Nat) : Int) by omega)]
        by_cases c : ((x : Nat) : Int) < ((y : Nat) : Int)
        · rw [if_pos c, Nat.mod_eq_of_lt (by omega), Nat.mul_comm y x]; omega
        · rw [if_neg c]
          have := log2_half hr (by omega) rfl (by omega)
          omega
  · rintro t ⟨x, y, rfl, hg⟩
    simp only [pbO, sbO, pur_opt, Option.some.injEq]
    by_cases z : (0 : Int) < (y : Int)
    · left; exact decide_eq_true z
    · right; exact decide_eq_false z
  · rintro t ⟨x, y, rfl, hg⟩ hc
    simp only [pbO, sbO, pur_opt, Option.some.injEq, decide_eq_false_iff_not] at hc
    have y0 : y = 0 := by omega
    subst y0
    rw [Nat.gcd_zero_right] at hg
    rw [pbO, pur_opt, hg]
/-! ### how often, by the law -/
theorem not_dvd {p m : Int} (hp : 0 < p) (hm : m % p ≠ 0) (e : Nat) : p ^ e * m % p ^ (e + 1) ≠ 0 := by
  rw [Int.pow_succ, Int.mul_emod_mul_of_pos _ _ (pw_pos hp e)]
  intro z
  rcases Int.mul_eq_zero.mp z with h | h
  · have := pw_pos hp e; omega
  · exact hm h
theorem is_dvd {p m : Int} {e j : Nat} (h : j < e) : p ^ e * m % p ^ (j + 1) = 0 := by
  have : p ^ e = p ^ (j + 1) * p ^ (e - (j + 1)) := by rw [← Int.pow_add]; congr 1; omega
  rw [this, Int.mul_assoc]
  exact Int.mul_emod_right _ _
theorem due_turn {p P Q : Int} (hp : 2 ≤ p ∧ p ≤ 7) {e e' : Nat} {m m' : Int} (hP : P = p ^ e * m) (hQ : Q = p ^ e' * m') (he : e < 100000) (he' : e' < 100000) (hm : m % p ≠ 0) (hm' : m' % p ≠ 0)
    {c1 : Int × Int → Option Bool} {b1 : Int × Int → Option (Fl (Int × Int) (Int × Int) (Tl Int))} {c2 : Int × Int → Option Bool} {b2 : Int × Int → Option (Fl (Int × Int) (Int × Int) (Tl Int))} {τ : Type}
    (h1 : ∀ j g, 0 < g → c1 (j, g) = some (decide (P % g = 0))) (h2 : ∀ j g, b1 (j, g) = some (.nx (j + 1, g * p))) (h3 : ∀ q j, c2 (q, j) = some (decide (q % p = 0))) (h4 : ∀ q j, b2 (q, j) = some (.nx (q / p, j - 1)))
    {k2 : Int × Int → Option (Fl τ (Int × List Int) (Tl Int))} :
    (andThen (whl c1 b1 FU (0, p) : Option (Fl (Int × Int) (Int × List Int) (Tl Int))) fun t => andThen (whl c2 b2 FU (Q, t.1) : Option (Fl (Int × Int) (Int × List Int) (Tl Int))) k2) = k2 (m', (e : Int) - e') := by
  subst hP hQ
  have hF : FU = 1000000000 := rfl
  have pp : ∀ n : Nat, 0 < p ^ n := fun n => pw_pos (by omega) n
  rw [andThen_whl (I := fun t => ∃ j : Nat, j ≤ e ∧ t = ((j : Int), p ^ (j + 1))) (mu := fun t => (e - t.1).toNat) (r := k2 (m', (e : Int) - e'))]
  · exact ⟨0, Nat.zero_le _, by rw [Int.pow_succ, Int.pow_zero, Int.one_mul]; rfl⟩
  · show ((e : Int) - 0).toNat < FU
    rw [hF]; omega
  · rintro t ⟨j, hj, rfl⟩ hc
    rw [h1 _ _ (pp _)] at hc
    have hlt : j < e := by
      refine Nat.lt_of_le_of_ne hj fun z => ?_
      subst z
      simp only [Option.some.injEq, decide_eq_true_eq] at hc
      exact not_dvd (by omega) hm j hc
    refine ⟨(((j + 1 : Nat) : Int), p ^ (j + 1 + 1)), ?_, ⟨j + 1, hlt, rfl⟩, ?_⟩
    · rw [h2, Int.pow_succ p (j + 1)]; rfl
    · show ((e : Int) - ((j + 1 : Nat) : Int)).toNat < ((e : Int) - (j : Int)).toNat
      omega
  · rintro t ⟨j, hj, rfl⟩
    rw [h1 _ _ (pp _)]
    cases decide (p ^ e * m % p ^ (j + 1) = 0) <;> simp
  rintro t ⟨j, hj, rfl⟩ hc
  rw [h1 _ _ (pp _)] at hc
  have hje : j = e := by
    refine Nat.le_antisymm hj (Nat.le_of_not_lt fun z => ?_)
    rw [is_dvd z] at hc
    simp at hc
  subst hje
  rw [andThen_whl (I := fun t => ∃ i : Nat, i ≤ e' ∧ t = (p ^ i * m', (j : Int) - (e' - i))) (mu := fun t => (e' - ((j : Int) - t.2)).toNat) (r := k2 (m', (j : Int) - e'))]
  · exact ⟨e', Nat.le_refl _, by simp⟩
  · show ((e' : Int) - ((j : Int) - j)).toNat < FU
    rw [hF]; omega
  · rintro t ⟨i, hi, rfl⟩ hc
    rw [h3] at hc
    have hi0 : i ≠ 0 := fun z => by
      subst z
      rw [Int.pow_zero, Int.one_mul] at hc
      simp only [Option.some.injEq, decide_eq_true_eq] at hc
      exact hm' hc
    obtain ⟨i', rfl⟩ : ∃ i', i = i' + 1 := ⟨i - 1, by omega⟩
    refine ⟨(p ^ i' * m', (j : Int) - (e' - i')), ?_, ⟨i', by omega, rfl⟩, ?_⟩
    · rw [h4]
      have dv : p ^ (i' + 1) * m' / p = p ^ i' * m' := by
        rw [Int.pow_succ, Int.mul_comm (p ^ i') p, Int.mul_assoc]
        exact Int.mul_ediv_cancel_left _ (by omega)
      rw [dv]; congr 3; omega
    · show ((e' : Int) - ((j : Int) - ((j : Int) - (e' - i')))).toNat < ((e' : Int) - ((j : Int) - ((j : Int) - (e' - (i' + 1 : Nat))))).toNat
      omega
  · rintro t ⟨i, hi, rfl⟩
    rw [h3]
    cases decide (p ^ i * m' % p = 0) <;> simp
  · rintro t ⟨i, hi, rfl⟩ hc
    rw [h3] at hc
    have hi0 : i = 0 := by
      cases i with
      | zero => rfl
      | succ i =>
        rw [Int.pow_succ, Int.mul_comm (p ^ i) p, Int.mul_assoc, Int.mul_emod_right] at hc
        simp at hc
    subst hi0
    rw [Int.pow_zero, Int.one_mul]
    congr 2
theorem due_eq {a b c d a' b' c' d' : Nat} (h : a + b + c + d < 100000) (h' : a' + b' + c' + d' < 100000) : m__law_due (sm a b c d) (sm a' b' c' d') = some (Rt (a - a') (b - b') (c - c') (d - d')) := by
  unfold m__law_due mb__law_due
  obtain ⟨m2, e2, _, n2, _⟩ := sm2 a b c d
  obtain ⟨m3, e3, _, n3, _⟩ := sm3 a b c d
  obtain ⟨m5, e5, _, n5, _⟩ := sm5 a b c d
  obtain ⟨m7, e7, _, n7, _⟩ := sm7 a b c d
  obtain ⟨x2, f2, _, o2, g2⟩ := sm2 a' b' c' d'
  obtain ⟨x3, f3, _, o3, g3⟩ := sm3 0 b' c' d'
  obtain ⟨x5, f5, _, o5, g5⟩ := sm5 0 0 c' d'
  obtain ⟨x7, f7, _, o7, g7⟩ := sm7 0 0 0 d'
  have mk : ∀ {g p : Int}, (2 ≤ p ∧ p ≤ 7) → OL.MulOk g p := fun hp => mul_ok2 (by omega)
  simp only [pbO, sbO, pur_opt, gd_y (show ([] : List Int).length ≤ 1000 by decide), gd_y (show ([2, 3, 5, 7] : List Int).length ≤ 1000 by decide), forL_cons, forL_nil]
  have q2 : (2 : Int) ≤ 2 ∧ (2 : Int) ≤ 7 := by decide
  have q3 : (2 : Int) ≤ 3 ∧ (3 : Int) ≤ 7 := by decide
  have q5 : (2 : Int) ≤ 5 ∧ (5 : Int) ≤ 7 := by decide
  have q7 : (2 : Int) ≤ 7 ∧ (7 : Int) ≤ 7 := by decide
  rw [due_turn q2 e2 f2 (by omega) (by omega) n2 o2 (fun j g hg => by simp only [gd_y hg, sbO]) (fun j g => by simp only [gd_y (mk q2), sbO]) (fun q j => by simp only [gd_y (show (0 : Int) < 2 by decide), sbO]) (fun q j => by simp only [gd_y (small_div q2), sbO])]
  simp only [gd_y (show ([] : List Int).length < 100000 by decide), sbO, List.nil_append]
  rw [due_turn q3 e3 (g2.trans f3) (by omega) (by omega) n3 o3 (fun j g hg => by simp only [gd_y hg, sbO]) (fun j g => by simp only [gd_y (mk q3), sbO]) (fun q j => by simp only [gd_y (show (0 : Int) < 3 by decide), sbO]) (fun q j => by simp only [gd_y (small_div q3), sbO])]
  rw [gd_y (by simp), sbO]
  show fin (andThen (Mn.bnd (andThen (whl _ _ FU (0, 5)) _) _) _) = _
  rw [due_turn q5 e5 (g3.trans f5) (by omega) (by omega) n5 o5 (fun j g hg => by simp only [gd_y hg, sbO]) (fun j g => by simp only [gd_y (mk q5), sbO]) (fun q j => by simp only [gd_y (show (0 : Int) < 5 by decide), sbO]) (fun q j => by simp only [gd_y (small_div q5), sbO])]
  rw [gd_y (by simp), sbO]
  show fin (andThen (Mn.bnd (andThen (whl _ _ FU (0, 7)) _) _) _) = _
  rw [due_turn q7 e7 (g5.trans f7) (by omega) (by omega) n7 o7 (fun j g hg => by simp only [gd_y hg, sbO]) (fun j g => by simp only [gd_y (mk q7), sbO]) (fun q j => by simp only [gd_y (show (0 : Int) < 7 by decide), sbO]) (fun q j => by simp only [gd_y (small_div q7), sbO])]
  rw [gd_y (by simp), sbO]
  show fin (andThen (some (.nx _)) _) = _
  rw [andThen_nx]
  rfl
/-! ### texts -/
theorem str_len {n : Nat} (h : n < 10 ^ 60) : (strI (n : Int)).length ≤ 60 := by
  have e := PySem.W.KIN.signs_num n
  have h2 := PyProof.Rows.digits10_le (k := 60) (by decide) h
  have e2 : (strI (n : Int)).cps.toList.length = (Nat.toDigits 10 n).length := by
    show (PySem.Str.ofString (toString ((n : Nat) : Int))).cps.toList.length = _
    rw [e, List.length_map]
  show (strI (n : Int)).cps.size ≤ 60
  rw [← Array.length_toList, e2]; exact h2
theorem log_small {n : Nat} (h : n < 10 ^ 60) : ((n : Int).natAbs).log2 < 1920 := by
  rw [Int.natAbs_natCast]
  exact PySem.Flt.log2_lt_of (by decide) (Nat.lt_trans h (by decide))
theorem figures_eq {n : Nat} (h : n < 10 ^ 60) : m_figures (n : Int) = some (strI (n : Int)) := by
  have hl := str_len h
  have hlt : ¬ ((10 : Int) ^ Int.toNat 60 ≤ (n : Int)) := by
    have e : (10 : Int) ^ Int.toNat 60 = ((10 ^ 60 : Nat) : Int) := by decide
    rw [e]; omega
  have hF : FU = 999999999 + 1 := rfl
  unfold m_figures mb_figures
  simp only [pbO, gd_y (show ([] : List Str).length ≤ 1000 by decide), gd_y (show OL.PowOk 10 60 by decide)]
  rw [hF, whl_end (by simp only [decide_eq_false hlt, pur_opt]), andThen_nx]
  simp only [gd_y (log_small h), pbO, gd_y (show ([] : List Str).length < 100000 by decide)]
  rw [gd_y (by
    simp only [List.nil_append, List.reverse_cons, List.reverse_nil, List.map_cons, List.map_nil, List.sum_cons, List.sum_nil, List.length_cons, List.length_nil]
    have z : Str.length ("" : Str) = 0 := rfl
    rw [z]; omega), pbO, pur_opt]
  have z : Txt.join ("" : Str) ([] ++ [strI (n : Int)]).reverse = strI (n : Int) := rfl
  rw [z]; rfl
theorem whole_eq (xs : List Int) (h : xs.length ≤ 1000) : m__law_whole ⟨xs⟩ (xs.length : Int) = some true := by
  unfold m__law_whole mb__law_whole
  simp only [pbO, Bool.not_true, cnd_f, decide_true, andThen_nx, pur_opt, sbO, cnd_t, Bool.not_false]
  rw [gd_y (by omega), compL_map (f := fun _ => true) _ (fun x _ => ⟨rfl, rfl⟩), sbO, sbO]
  have e : (xs.map fun _ => true).all id = true := by simp
  rw [e]; rfl
/-! ### two numbers over their common divisor -/
def sn (a b c d : Nat) : Nat := 2 ^ a * (3 ^ b * (5 ^ c * 7 ^ d))
theorem sn_sm (a b c d : Nat) : ((sn a b c d : Nat) : Int) = sm a b c d := by
  unfold sn sm
  simp only [Int.natCast_mul, Int.natCast_pow]
  rfl
theorem sn_mul (a b c d a' b' c' d' : Nat) : sn a b c d * sn a' b' c' d' = sn (a + a') (b + b') (c + c') (d + d') := by
  unfold sn; rw [Nat.pow_add, Nat.pow_add, Nat.pow_add, Nat.pow_add]; ac_rfl
theorem sn_pos (a b c d : Nat) : 0 < sn a b c d := by
  have := sm_pos a b c d
  rw [← sn_sm] at this; omega
theorem cop_pow {p q : Nat} (h : Nat.Coprime p q) (a b : Nat) : Nat.Coprime (p ^ a) (q ^ b) := Nat.Coprime.pow a b h
theorem cop_same {p a b : Nat} (h : a = 0 ∨ b = 0) : Nat.Coprime (p ^ a) (p ^ b) := by
  rcases h with rfl | rfl
  · rw [Nat.pow_zero]; exact Nat.coprime_one_left _
  · rw [Nat.pow_zero]; exact Nat.coprime_one_right _
theorem sn_cop {a b c d a' b' c' d' : Nat} (h1 : a = 0 ∨ a' = 0) (h2 : b = 0 ∨ b' = 0) (h3 : c = 0 ∨ c' = 0) (h4 : d = 0 ∨ d' = 0) : Nat.Coprime (sn a b c d) (sn a' b' c' d') := by
  unfold sn
  have k : ∀ {x : Nat}, Nat.Coprime x (2 ^ a') → Nat.Coprime x (3 ^ b') → Nat.Coprime x (5 ^ c') → Nat.Coprime x (7 ^ d') → Nat.Coprime x (2 ^ a' * (3 ^ b' * (5 ^ c' * 7 ^ d'))) := fun u v w z => u.mul_right (v.mul_right (w.mul_right z))
  refine Nat.Coprime.mul_left (k (cop_same h1) (cop_pow (by decide) _ _) (cop_pow (by decide) _ _) (cop_pow (by decide) _ _)) (Nat.Coprime.mul_left (k (cop_pow (by decide) _ _) (cop_same h2) (cop_pow (by decide) _ _) (cop_pow (by decide) _ _))
    (Nat.Coprime.mul_left (k (cop_pow (by decide) _ _) (cop_pow (by decide) _ _) (cop_same h3) (cop_pow (by decide) _ _)) (k (cop_pow (by decide) _ _) (cop_pow (by decide) _ _) (cop_pow (by decide) _ _) (cop_same h4))))
theorem sn_split (a b c d a' b' c' d' : Nat) : sn a b c d = sn (min a a') (min b b') (min c c') (min d d') * sn (a - a') (b - b') (c - c') (d - d') := by
  rw [sn_mul]; congr 1 <;> omega
theorem sn_gcd (a b c d a' b' c' d' : Nat) : Nat.gcd (sn a b c d) (sn a' b' c' d') = sn (min a a') (min b b') (min c c') (min d d') := by
  have e2 : sn a' b' c' d' = sn (min a a') (min b b') (min c c') (min d d') * sn (a' - a) (b' - b) (c' - c) (d' - d) := by
    rw [sn_mul]; congr 1 <;> omega
  rw [sn_split a b c d a' b' c' d', e2, Nat.gcd_mul_left, sn_cop (by omega) (by omega) (by omega) (by omega), Nat.mul_one]
theorem ratio_right {a b c d a' b' c' d' : Nat} (hs : a + b + c + d < 1000) (hs' : a' + b' + c' + d' < 1000) (h : sn a b c d < 10 ^ 60) (h' : sn a' b' c' d' < 10 ^ 60) : m__law_ratio_right (sm a b c d) (sm a' b' c' d') = some true := by
  have eR : m_ratio_of (sm a b c d) (sm a' b' c' d') = _ := ratio_of_eq (by omega) (by omega)
  have eR2 : m_ratio_of (sm a' b' c' d') (sm a b c d) = _ := ratio_of_eq (by omega) (by omega)
  have eD : m__law_due (sm a b c d) (sm a' b' c' d') = _ := due_eq (by omega) (by omega)
  have lim : (10 : Nat) ^ 60 < 2 ^ 3000 := Nat.lt_of_lt_of_le (show 10 ^ 60 < 2 ^ 200 by decide) (Nat.pow_le_pow_right (by decide) (by decide))
  have eC : m__law_common (sm a b c d) (sm a' b' c' d') = some ((sn (min a a') (min b b') (min c c') (min d d') : Nat) : Int) := by
    rw [← sn_sm, ← sn_sm, common_eq (sn_pos ..) (sn_pos ..) (Nat.lt_trans h lim) (Nat.lt_trans h' lim), sn_gcd]
  have eF : m_fraction (Rt (a - a') (b - b') (c - c') (d - d')) = some (((sn (a - a') (b - b') (c - c') (d - d') : Nat) : Int), ((sn (a' - a) (b' - b) (c' - c) (d' - d) : Nat) : Int)) := by
    rw [fraction_eq (by omega), sn_sm, sn_sm]
    have t : ∀ x y : Nat, ((x : Int) - y).toNat = x - y := fun x y => by omega
    have t2 : ∀ x y : Nat, (-((x : Int) - y)).toNat = y - x := fun x y => by omega
    rw [t, t, t, t, t2, t2, t2, t2]
  have eq1 : sm a b c d / ((sn (min a a') (min b b') (min c c') (min d d') : Nat) : Int) = ((sn (a - a') (b - b') (c - c') (d - d') : Nat) : Int) := by
    rw [← sn_sm, sn_split a b c d a' b' c' d', Int.natCast_mul]
    exact Int.mul_ediv_cancel_left _ (by have := sn_pos (min a a') (min b b') (min c c') (min d d'); omega)
  have eq2 : sm a' b' c' d' / ((sn (min a a') (min b b') (min c c') (min d d') : Nat) : Int) = ((sn (a' - a) (b' - b) (c' - c) (d' - d) : Nat) : Int) := by
    rw [← sn_sm, sn_split a' b' c' d' a b c d, Int.natCast_mul, Nat.min_comm a' a, Nat.min_comm b' b, Nat.min_comm c' c, Nat.min_comm d' d]
    exact Int.mul_ediv_cancel_left _ (by have := sn_pos (min a a') (min b b') (min c c') (min d d'); omega)
  have le1 : sn (a - a') (b - b') (c - c') (d - d') ≤ sn a b c d := by
    rw [sn_split a b c d a' b' c' d']
    exact Nat.le_mul_of_pos_left _ (sn_pos ..)
  have le2 : sn (a' - a) (b' - b) (c' - c) (d' - d) ≤ sn a' b' c' d' := by
    rw [sn_split a' b' c' d' a b c d]
    exact Nat.le_mul_of_pos_left _ (sn_pos ..)
  have le3 : sn (min a a') (min b b') (min c c') (min d d') ≤ sn a b c d := by
    rw [sn_split a b c d a' b' c' d']
    exact Nat.le_mul_of_pos_right _ (sn_pos ..)
  have dv : OL.DivOk ((sn (min a a') (min b b') (min c c') (min d d') : Nat) : Int) := by
    refine ⟨by have := sn_pos (min a a') (min b b') (min c c') (min d d'); omega, ?_⟩
    have := log_small (Nat.lt_of_le_of_lt le3 h)
    omega
  have f1 : sn (a - a') (b - b') (c - c') (d - d') < 10 ^ 60 := Nat.lt_of_le_of_lt le1 h
  have f2 : sn (a' - a) (b' - b) (c' - c) (d' - d) < 10 ^ 60 := Nat.lt_of_le_of_lt le2 h'
  have l1 := str_len f1
  have l2 := str_len f2
  have l3 : (" / " : Str).length = 3 := rfl
  have sz : 200 < sizeLine := by decide
  have eT : m_ratio_text (Rt (a - a') (b - b') (c - c') (d - d')) = some (strI ((sn (a - a') (b - b') (c - c') (d - d') : Nat) : Int) ++ (" / " : Str) ++ strI ((sn (a' - a) (b' - b) (c' - c) (d' - d) : Nat) : Int)) := by
    unfold m_ratio_text mb_ratio_text
    simp only [pbO, liftO, eF, sbO, figures_eq f1, figures_eq f2, Str.empty_append]
    rw [gd_y (by simp only [Str.length_append]; omega), pbO, pur_opt]; rfl
  have g1 : ∀ i : Int, OL.MulOk i 1200000 := fun i => mul_ok2 (by decide)
  have g2 : ∀ i : Int, OL.MulOk i 1901955 := fun i => mul_ok2 (by decide)
  have g3 : ∀ i : Int, OL.MulOk i 2786314 := fun i => mul_ok2 (by decide)
  have g4 : ∀ i : Int, OL.MulOk i 3368826 := fun i => mul_ok2 (by decide)
  have w4 : ∀ w x y z : Int, m__law_whole (Rt w x y z) 4 = some true := fun w x y z => whole_eq [w, x, y, z] (by simp)
  have w2 : ∀ x y : Int, m__law_whole ⟨[x, y]⟩ 2 = some true := fun x y => whole_eq [x, y] (by simp)
  have ng : ∀ x y : Int, -(x - y) = y - x := fun x y => by omega
  have ngg : ∀ x : Int, - -x = x := fun x => by omega
  unfold m__law_ratio_right mb__law_ratio_right
  simp only [pbO, liftO, eR, eC, eD, eF, eR2, eT, eq1, eq2, sbO, pur_opt, w4, w2, Bool.not_true, cnd_f, gd_y (And.intro (shp_tl _) (shp_tl _)), gd_y (And.intro (shp_pr _) (shp_pr _)), eqv_tl, eqv_pr, decide_true, andThen_nx,
    gd_y (show ([1200000, 1901955, 2786314, 3368826] : List Int).length ≤ 1000 by decide), List.zip_cons_cons, List.zip_nil_right, compL_cons, compL_nil, gd_y (g1 _), gd_y (g2 _), gd_y (g3 _), gd_y (g4 _), size_eq, turned_eq, ng, ngg, cnd_t, gd_y dv, gd_y (log_small f1), gd_y (log_small f2)]
  have gA : (strI ((sn (a - a') (b - b') (c - c') (d - d') : Nat) : Int)).length + (" / " : Str).length ≤ sizeLine := by omega
  have gB : (strI ((sn (a - a') (b - b') (c - c') (d - d') : Nat) : Int) ++ (" / " : Str)).length + (strI ((sn (a' - a) (b' - b) (c' - c) (d' - d) : Nat) : Int)).length ≤ sizeLine := by rw [Str.length_append]; omega
  rw [gd_y (by simp), sbO, sbO]
  simp only [List.sum_cons, List.sum_nil, decide_true, Bool.not_true, cnd_f, sbO, andThen_nx, gd_y gA, gd_y gB]
  rfl
/-! ### what the law draws -/
end K02


set_option Elab.async false
set_option linter.all false
set_option maxRecDepth 100000
set_option maxHeartbeats 1000000
namespace K02
open PySem PySem.Spec PyProof.Rows L2 OL
theorem two_le : ∀ n : Nat, ∀ q : Nat, 2 ≤ q → 2 ^ n ≤ q ^ n := fun n q h => Nat.pow_le_pow_left h n
theorem sn_ge (a b c d : Nat) : 2 ^ (a + b + c + d) ≤ sn a b c d := by
  unfold sn
  rw [Nat.pow_add, Nat.pow_add, Nat.pow_add]
  calc 2 ^ a * 2 ^ b * 2 ^ c * 2 ^ d = 2 ^ a * (2 ^ b * (2 ^ c * 2 ^ d)) := by ac_rfl
    _ ≤ 2 ^ a * (3 ^ b * (5 ^ c * 7 ^ d)) := Nat.mul_le_mul_left _ (Nat.mul_le_mul (two_le _ _ (by decide)) (Nat.mul_le_mul (two_le _ _ (by decide)) (two_le _ _ (by decide))))
/-- a product of 2s, 3s, 5s, 7s: so many factors at most, below a bound -/
def Ok (x : Int) (M B : Nat) : Prop := ∃ a b c d, x = sm a b c d ∧ a + b + c + d ≤ M ∧ sn a b c d < B
theorem Ok.mul {x y : Int} {M B N C : Nat} (h : Ok x M B) (g : Ok y N C) : Ok (x * y) (M + N) (B * C) := by
  obtain ⟨a, b, c, d, rfl, h1, h2⟩ := h
  obtain ⟨a', b', c', d', rfl, g1, g2⟩ := g
  refine ⟨a + a', b + b', c + c', d + d', sm_mul .., by omega, ?_⟩
  rw [← sn_mul]
  exact Nat.mul_lt_mul'' h2 g2
theorem sm_zero : sm 0 0 0 0 = 1 := by decide
theorem Ok.pow {x : Int} {M B : Nat} (h : Ok x M B) (hB : 1 ≤ B) : ∀ n : Nat, Ok (x ^ n) (M * n) (B ^ n + 1)
  | 0 => ⟨0, 0, 0, 0, by rw [Int.pow_zero, sm_zero], by omega, by
      show 1 < B ^ 0 + 1
      rw [Nat.pow_zero]; decide⟩
  | n + 1 => by
    obtain ⟨a, b, c, d, e, h1, h2⟩ := h
    obtain ⟨a', b', c', d', e', g1, g2⟩ := Ok.pow ⟨a, b, c, d, e, h1, h2⟩ hB n
    refine ⟨a' + a, b' + b, c' + c, d' + d, by rw [Int.pow_succ, e', e, sm_mul], by rw [Nat.mul_succ]; omega, ?_⟩
    rw [← sn_mul, Nat.pow_succ]
    have := Nat.mul_le_mul (show sn a' b' c' d' ≤ B ^ n by omega) (show sn a b c d ≤ B by omega)
    omega
theorem Ok.le {x : Int} {M B N C : Nat} (h : Ok x M B) (h1 : M ≤ N) (h2 : B ≤ C) : Ok x N C := by
  obtain ⟨a, b, c, d, e, g1, g2⟩ := h
  exact ⟨a, b, c, d, e, by omega, by omega⟩
theorem Ok.small {x : Int} {M B : Nat} (h : Ok x M B) : 0 < x ∧ x < B := by
  obtain ⟨a, b, c, d, rfl, h1, h2⟩ := h
  rw [← sn_sm]
  have := sn_pos a b c d
  omega
theorem Ok.right {x y : Int} {M B N C : Nat} (h : Ok x M B) (g : Ok y N C) (h1 : M < 1000) (h2 : B ≤ 10 ^ 60) (g1 : N < 1000) (g2 : C ≤ 10 ^ 60) : m__law_ratio_right x y = some true := by
  obtain ⟨a, b, c, d, rfl, p1, p2⟩ := h
  obtain ⟨a', b', c', d', rfl, q1, q2⟩ := g
  exact ratio_right (by omega) (by omega) (Nat.lt_of_lt_of_le p2 h2) (Nat.lt_of_lt_of_le q2 g2)
theorem ok1 : Ok 1 0 2 := ⟨0, 0, 0, 0, sm_zero.symm, by decide, by decide⟩
theorem okp {q : Int} (h : q = 2 ∨ q = 3 ∨ q = 5 ∨ q = 7) : ∃ a b c d, q = sm a b c d := by
  rcases h with rfl | rfl | rfl | rfl
  · exact ⟨1, 0, 0, 0, by decide⟩
  · exact ⟨0, 1, 0, 0, by decide⟩
  · exact ⟨0, 0, 1, 0, by decide⟩
  · exact ⟨0, 0, 0, 1, by decide⟩
theorem part_W {cl : List Int} {nm : Option (List Str)} {k : Int} {P : Int → Int → Prop} (hc : cl.length ≤ 1000) (hk : 0 ≤ k ∧ k < 1000000) (h : ∀ r k', Ok r 13 10000 → k ≤ k' → k' ≤ k + 20 → P r k') : W (m__law_part cl nm) k P := by
  unfold m__law_part
  refine W.finS ?_
  unfold mb__law_part
  simp only [pbS]
  refine W.andThen (W.bnd (W.bnd (W.nx hc (by omega) (by decide) fun n n0 n1 => ?_)))
  refine W.gd (by omega) (W.pur ?_)
  have hl := upTo_len 0 1 n.toNat
  refine W.forL (I := fun i t k' => (∃ a b c d, t = sm a b c d ∧ t ≤ 9999) ∧ k' = k + 1 + i) _ 0 _ _ ⟨⟨0, 0, 0, 0, by decide, by decide⟩, by omega⟩ (fun i t k' x _ hi it hx => ?_) (fun t k' it => ?_)
  · obtain ⟨⟨a, b, c, d, rfl, ht⟩, rfl⟩ := it
    rw [hl] at hi
    have hi2 : i < 20 := by omega
    simp only [gd_y (show ([2, 3, 5, 7] : List Int).length ≤ 1000 by decide), pbS]
    refine W.bnd (W.bnd (W.nx hc (by omega) (by decide) fun r r0 r1 => ?_))
    have hr : ∃ z : Int, atI ([2, 3, 5, 7] : List Int) r = some z ∧ (z = 2 ∨ z = 3 ∨ z = 5 ∨ z = 7) := by
      have : r = 0 ∨ r = 1 ∨ r = 2 ∨ r = 3 := by omega
      rcases this with rfl | rfl | rfl | rfl
      · exact ⟨2, rfl, by decide⟩
      · exact ⟨3, rfl, by decide⟩
      · exact ⟨5, rfl, by decide⟩
      · exact ⟨7, rfl, by decide⟩
    obtain ⟨z, hz, hz2⟩ := hr
    refine W.lift hz ?_
    obtain ⟨a', b', c', d', rfl⟩ := okp hz2
    have g : OL.MulOk (sm a b c d) (sm a' b' c' d') := mul_ok2 (by omega)
    simp only [gd_y g, pbS]
    by_cases c9 : sm a b c d * sm a' b' c' d' ≤ 9999
    · rw [decide_eq_true c9, cnd_t, pbS]
      exact W.pur ⟨_, rfl, ⟨a + a', b + b', c + c', d + d', sm_mul .., c9⟩, by omega⟩
    · rw [decide_eq_false c9, cnd_f, pbS]
      exact W.pur ⟨_, rfl, ⟨a, b, c, d, rfl, ht⟩, by omega⟩
  · obtain ⟨⟨a, b, c, d, rfl, ht⟩, rfl⟩ := it
    rw [hl]
    refine W.pur ⟨_, rfl, h _ _ ⟨a, b, c, d, rfl, ?_, ?_⟩ (by omega) (by omega)⟩
    · have h1 := sn_ge a b c d
      rw [← sn_sm] at ht
      refine Nat.le_of_not_lt fun z => ?_
      have h2 : 2 ^ 14 ≤ 2 ^ (a + b + c + d) := Nat.pow_le_pow_right (by decide) z
      omega
    · rw [← sn_sm] at ht; omega
theorem sm_pow (a b c d : Nat) : ∀ n : Nat, sm a b c d ^ n = sm (a * n) (b * n) (c * n) (d * n)
  | 0 => by rw [Int.pow_zero]; exact sm_zero.symm
  | n + 1 => by rw [Int.pow_succ, sm_pow a b c d n, sm_mul]; rfl
theorem step_eq (p0 : List Int) (hc : p0.length ≤ 1000) : m__law_step p0 = some true := by
  unfold m__law_step
  refine fin0_of ?_
  unfold mb__law_step
  have hc2 : (Cells.cells p0 : List Int).length ≤ 1000 := hc
  generalize (Cells.cells p0 : List Int) = cl at hc2
  refine W.begun hc2 fun nm k k0 k1 _ => ?_
  simp only [pbS]
  refine W.bnd (W.bnd (part_W hc2 (by omega) fun p k2 hp l1 l2 => W.bnd (part_W hc2 (by omega) fun q k3 hq l3 l4 => W.pur ?_)))
  refine W.bnd (W.bnd (part_W hc2 (by omega) fun r k4 hr l5 l6 => W.bnd (part_W hc2 (by omega) fun s k5 hs l7 l8 => W.pur ?_)))
  have b1 := hp.small
  have b2 := hq.small
  have b3 := hr.small
  have b4 := hs.small
  refine W.andThen (W.bnd (W.bnd (W.nx hc2 (by omega) (by decide) fun z z0 z1 => W.pur ?_)))
  refine W.mono (P := fun f k' => ∃ t : Int × Int, f = .nx t ∧ Ok t.1 78 (10 ^ 25) ∧ Ok t.2 52 (10 ^ 17) ∧ 0 ≤ k' ∧ k' < 1000000) ?_ fun f k' hf => ?_
  · by_cases z1 : z = 1
    · rw [decide_eq_true z1, cnd_t]
      refine W.bnd (W.bnd (W.bnd (W.bnd (W.bnd (W.nx hc2 (by omega) (by decide) fun n n0 n1 => W.pur ?_)))))
      obtain ⟨m, rfl⟩ : ∃ m : Nat, n = (m : Int) := ⟨n.toNat, by omega⟩
      have eo := over_eq (p := r) (b := 14) (by omega) (by decide) (by decide) (n := m) (by omega)
      have pw := hr.pow (by decide) m
      have ok6 : Ok (p * r ^ m) 78 (10 ^ 25) := (hp.mul pw).le (by omega) (by
        have h1 : 10000 ^ m ≤ 10000 ^ 5 := Nat.pow_le_pow_right (by decide) (by omega)
        have h2 : 10000 * (10000 ^ m + 1) ≤ 10000 * (10000 ^ 5 + 1) := Nat.mul_le_mul_left _ (by omega)
        exact Nat.le_trans h2 (by decide))
      have ok4 : Ok (s * q ^ 3) 52 (10 ^ 17) := (hs.mul (hq.pow (by decide) 3)).le (by decide) (by decide)
      refine W.lift eo ?_
      have g1 : OL.MulOk p (r ^ m) := mul_ok1 (by omega)
      have g2 : OL.PowOk q 3 := ⟨by decide, by decide, by omega⟩
      have g3 : OL.MulOk s (q ^ Int.toNat 3) := mul_ok1 (by omega)
      simp only [gd_y g1, gd_y g2, gd_y g3, pbS]
      refine W.pur (W.pur ?_)
      exact W.pur (show ∃ t : Int × Int, _ from ⟨(p * r ^ m, s * q ^ 3), rfl, ok6, ok4, by omega, by omega⟩)
    · rw [decide_eq_false z1, cnd_f]
      exact W.pur (show ∃ t : Int × Int, _ from ⟨(p, s), rfl, hp.le (by decide) (by decide), hs.le (by decide) (by decide), by omega, by omega⟩)
  obtain ⟨⟨P, S⟩, rfl, hP, hS, k6, k7⟩ := hf
  clear hp hs b1 b4
  have hPr := hP.mul hr
  have hqS := hq.mul hS
  have hqr := hq.mul hr
  have t1 := hP.right hq (by decide) (by decide) (by decide) (by decide)
  have t2 := hr.right hS (by decide) (by decide) (by decide) (by decide)
  have t3 := hPr.right hqS (by decide) (by decide) (by decide) (by decide)
  have t4 := hPr.right hqr (by decide) (by decide) (by decide) (by decide)
  have t5 := hP.right hP (by decide) (by decide) (by decide) (by decide)
  have bP := hP.small
  have bS := hS.small
  have g1 : OL.MulOk P r := mul_ok2 (by omega)
  have g2 : OL.MulOk q S := mul_ok1 (by omega)
  have g3 : OL.MulOk q r := mul_ok2 (by omega)
  have lsome : ∀ {α : Type} (a : α), (lift (some a) : Sm α) = Mn.pur a := fun a => by unfold OL.lift; rfl
  show W (OL.andThen _ _) _ _
  simp only [pbS, gd_y g1, gd_y g2, gd_y g3, gd_y (show ([(P, q), (r, S), (P * r, q * S), (P * r, q * r), (P, P)] : List (Int × Int)).length ≤ 1000 by exact (by decide : 5 ≤ 1000))]
  refine W.andThen (W.forL (I := fun _ _ k2 => k2 = k') _ 0 () k' rfl (fun j t k2 x _ _ it hx => ?_) (fun t k2 it => ?_))
  · subst it
    have hb : m__law_ratio_right x.1 x.2 = some true := by
      rcases List.mem_cons.mp hx with rfl | hx
      · exact t1
      rcases List.mem_cons.mp hx with rfl | hx
      · exact t2
      rcases List.mem_cons.mp hx with rfl | hx
      · exact t3
      rcases List.mem_cons.mp hx with rfl | hx
      · exact t4
      rcases List.mem_cons.mp hx with rfl | hx
      · exact t5
      cases hx
    rw [hb]
    simp only [lsome, pbS, Bool.not_true, cnd_f]
    exact W.andThen (W.pur (W.pur ⟨_, rfl, rfl⟩))
  subst it
  obtain ⟨a, b, c, d, rfl, hs1, hs2⟩ := hP
  obtain ⟨a1, b1, c1, d1, rfl, hq1, hq2⟩ := hq
  obtain ⟨a2, b2', c2, d2, rfl, hr1, hr2⟩ := hr
  obtain ⟨a3, b3', c3, d3, rfl, hS1, hS2⟩ := hS
  have r1 := ratio_of_eq (a := a) (b := b) (c := c) (d := d) (a' := a1) (b' := b1) (c' := c1) (d' := d1) (by omega) (by omega)
  have r2 := ratio_of_eq (a := a2) (b := b2') (c := c2) (d := d2) (a' := a3) (b' := b3') (c' := c3) (d' := d3) (by omega) (by omega)
  have r3 : m_ratio_of (sm a b c d * sm a2 b2' c2 d2) (sm a1 b1 c1 d1 * sm a3 b3' c3 d3) = some (Rt ((a : Int) - a1 + (a2 - a3)) ((b : Int) - b1 + (b2' - b3')) ((c : Int) - c1 + (c2 - c3)) ((d : Int) - d1 + (d2 - d3))) := by
    rw [sm_mul, sm_mul, ratio_of_eq (by omega) (by omega)]
    rw [show ((a + a2 : Nat) : Int) - ((a1 + a3 : Nat) : Int) = a - a1 + (a2 - a3) by omega, show ((b + b2' : Nat) : Int) - ((b1 + b3' : Nat) : Int) = b - b1 + (b2' - b3') by omega,
      show ((c + c2 : Nat) : Int) - ((c1 + c3 : Nat) : Int) = c - c1 + (c2 - c3) by omega, show ((d + d2 : Nat) : Int) - ((d1 + d3 : Nat) : Int) = d - d1 + (d2 - d3) by omega]
  have r4 : m_ratio_of (sm a b c d * sm a2 b2' c2 d2) (sm a1 b1 c1 d1 * sm a2 b2' c2 d2) = some (Rt ((a : Int) - a1) ((b : Int) - b1) ((c : Int) - c1) ((d : Int) - d1)) := by
    rw [sm_mul, sm_mul, ratio_of_eq (by omega) (by omega)]
    rw [show ((a + a2 : Nat) : Int) - ((a1 + a2 : Nat) : Int) = a - a1 by omega, show ((b + b2' : Nat) : Int) - ((b1 + b2' : Nat) : Int) = b - b1 by omega,
      show ((c + c2 : Nat) : Int) - ((c1 + c2 : Nat) : Int) = c - c1 by omega, show ((d + d2 : Nat) : Int) - ((d1 + d2 : Nat) : Int) = d - d1 by omega]
  have ec : Rt ((a : Int) - a1 + (a2 - a3)) ((b : Int) - b1 + (b2' - b3')) ((c : Int) - c1 + (c2 - c3)) ((d : Int) - d1 + (d2 - d3)) = Rt ((a2 : Int) - a3 + (a - a1)) ((b2' : Int) - b3' + (b - b1)) ((c2 : Int) - c3 + (c - c1)) ((d2 : Int) - d3 + (d - d1)) := by
    rw [Int.add_comm ((a2 : Int) - a3), Int.add_comm ((b2' : Int) - b3'), Int.add_comm ((c2 : Int) - c3), Int.add_comm ((d2 : Int) - d3)]
  have w4 : ∀ w x y z : Int, m__law_whole (Rt w x y z) 4 = some true := fun w x y z => whole_eq [w, x, y, z] (by simp)
  simp only [r1, r2, lsome, pbS, together_eq, w4, Bool.not_true, cnd_f, r3, gd_y (And.intro (shp_tl _) (shp_tl _)), eqv_tl, decide_true]
  rw [decide_eq_true ec, Bool.not_true, cnd_f]
  refine W.andThen (W.pur (W.bnd (W.nx hc2 (by omega) (by decide) fun n n0 n1 => ?_)))
  obtain ⟨m, rfl⟩ : ∃ m : Nat, n = (m : Int) := ⟨n.toNat, by omega⟩
  have l84 : (10 : Nat) ^ 25 < 2 ^ 84 := by decide
  have o1 := over_eq (p := sm a b c d) (b := 84) (by have := bP.1; have := bP.2; simp only at *; omega) (by decide) (by decide) (n := m) (by omega)
  have o2 := over_eq (p := sm a1 b1 c1 d1) (b := 14) (by omega) (by decide) (by decide) (n := m) (by omega)
  have bm : ∀ x : Nat, x ≤ 100 → x * m ≤ 100 * 12 := fun x hx => Nat.mul_le_mul hx (by omega)
  have r5 : m_ratio_of (sm a b c d ^ m) (sm a1 b1 c1 d1 ^ m) = some (Rt (((a : Int) - a1) * m) (((b : Int) - b1) * m) (((c : Int) - c1) * m) (((d : Int) - d1) * m)) := by
    rw [sm_pow, sm_pow, ratio_of_eq (by have := bm a (by omega); have := bm b (by omega); have := bm c (by omega); have := bm d (by omega); omega) (by have := bm a1 (by omega); have := bm b1 (by omega); have := bm c1 (by omega); have := bm d1 (by omega); omega)]
    simp only [Int.natCast_mul, Int.sub_mul]
  simp only [power_eq _ _ _ _ (show 0 ≤ (m : Int) ∧ (m : Int) ≤ 1000 by omega), o1, o2, r4, r5, lsome, pbS, w4, Bool.not_true, cnd_f, decide_true]
  refine W.andThen (W.pur ?_)
  simp only [size_eq, lsome, pbS]
  rw [decide_eq_true (by omega)]
  simp only [pbS, cnd_t]
  exact W.pur rfl
theorem rg_ok : ∀ n : Nat, n < 64 → Rg3 0 (n : Int) 3 := by decide +kernel
theorem law_true (s : Sc) (h : s.ns.length ≤ 63) : m_law s = some true := by
  unfold m_law mb_law
  have g : Rg3 0 (max 1 ((s.ns.length : Nat) : Int)) 3 := by
    have e : max 1 ((s.ns.length : Nat) : Int) = ((max 1 s.ns.length : Nat) : Int) := by omega
    rw [e]; exact rg_ok _ (by omega)
  simp only [pbO, gd_y g]
  have cl : ∀ lo hi, (cutL s.ns lo hi).length ≤ 1000 := fun lo hi => by
    unfold cutL
    rw [List.length_take, List.length_drop]; omega
  rw [forL_all (f := fun _ _ => ()) _ _ (fun _ => True) trivial (fun t x _ _ => ⟨by simp only [step_eq _ (cl _ _), liftO, sbO, Bool.not_true, cnd_f, pur_opt, andThen_nx], trivial⟩), andThen_nx, pur_opt]
  rfl
end K02

set_option Elab.async false
set_option linter.all false
set_option maxRecDepth 100000
set_option maxHeartbeats 1000000
namespace K02
open PySem PySem.Spec PyProof.Rows L2 OL
def topS (i : Nat) : Stmt := PySem.Challenge.pw_choirtrue_k02_ratios.main.body.getD i (.Pass ⟨0, 0, 0, 0⟩)
abbrev s_how_often : Stmt := topS 10
theorem sc_how_often : FnScope ["number", "prime", "many"] ["number", "prime"] (defScope s_how_often) := ⟨rfl, rfl, rfl, by decide +kernel, rfl, by decide +kernel, by decide +kernel⟩
abbrev s_raised : Stmt := topS 11
theorem sc_raised : FnScope ["prime", "many", "out"] ["prime", "many"] (defScope s_raised) := ⟨rfl, rfl, rfl, by decide +kernel, rfl, by decide +kernel, by decide +kernel⟩
abbrev s_ratio_of : Stmt := topS 3
theorem sc_ratio_of : FnScope ["p", "q", "prime"] ["p", "q"] (defScope s_ratio_of) := ⟨rfl, rfl, rfl, by decide +kernel, rfl, by decide +kernel, by decide +kernel⟩
abbrev s_together : Stmt := topS 4
theorem sc_together : FnScope ["one", "other", "ours", "theirs"] ["one", "other"] (defScope s_together) := ⟨rfl, rfl, rfl, by decide +kernel, rfl, by decide +kernel, by decide +kernel⟩
abbrev s_turned : Stmt := topS 5
theorem sc_turned : FnScope ["one", "often"] ["one"] (defScope s_turned) := ⟨rfl, rfl, rfl, by decide +kernel, rfl, by decide +kernel, by decide +kernel⟩
abbrev s_power : Stmt := topS 6
theorem sc_power : FnScope ["one", "many", "often"] ["one", "many"] (defScope s_power) := ⟨rfl, rfl, rfl, by decide +kernel, rfl, by decide +kernel, by decide +kernel⟩
abbrev s_size : Stmt := topS 7
theorem sc_size : FnScope ["one", "often", "grains"] ["one"] (defScope s_size) := ⟨rfl, rfl, rfl, by decide +kernel, rfl, by decide +kernel, by decide +kernel⟩
abbrev s_fraction : Stmt := topS 8
theorem sc_fraction : FnScope ["one", "p", "q", "often", "prime"] ["one"] (defScope s_fraction) := ⟨rfl, rfl, rfl, by decide +kernel, rfl, by decide +kernel, by decide +kernel⟩
abbrev s_figures : Stmt := topS 12
theorem sc_figures : FnScope ["number", "pieces"] ["number"] (defScope s_figures) := ⟨rfl, rfl, rfl, by decide +kernel, rfl, by decide +kernel, by decide +kernel⟩
abbrev s_ratio_text : Stmt := topS 9
theorem sc_ratio_text : FnScope ["one", "p", "q"] ["one"] (defScope s_ratio_text) := ⟨rfl, rfl, rfl, by decide +kernel, rfl, by decide +kernel, by decide +kernel⟩
abbrev s__law_next : Stmt := topS 14
theorem sc__law_next : FnScope ["_law_state", "_law_many", "_law_k", "_law_cells", "_law_base"] ["_law_state", "_law_many"] (defScope s__law_next) := ⟨rfl, rfl, rfl, by decide +kernel, rfl, by decide +kernel, by decide +kernel⟩
abbrev s__law_begun : Stmt := topS 15
theorem sc__law_begun : FnScope ["_law_cells", "_law_state", "_law_rest", "_law_at", "_law_sign", "_law_k"] ["_law_cells"] (defScope s__law_begun) := ⟨rfl, rfl, rfl, by decide +kernel, rfl, by decide +kernel, by decide +kernel⟩
abbrev s__law_part : Stmt := topS 16
theorem sc__law_part : FnScope ["_law_state", "_law_found", "_law_turn", "_law_prime"] ["_law_state"] (defScope s__law_part) := ⟨rfl, rfl, rfl, by decide +kernel, rfl, by decide +kernel, by decide +kernel⟩
abbrev s__law_common : Stmt := topS 17
theorem sc__law_common : FnScope ["_law_one", "_law_other"] ["_law_one", "_law_other"] (defScope s__law_common) := ⟨rfl, rfl, rfl, by decide +kernel, rfl, by decide +kernel, by decide +kernel⟩
abbrev s__law_over : Stmt := topS 18
theorem sc__law_over : FnScope ["_law_number", "_law_many", "_law_found", "_law_turn"] ["_law_number", "_law_many"] (defScope s__law_over) := ⟨rfl, rfl, rfl, by decide +kernel, rfl, by decide +kernel, by decide +kernel⟩
abbrev s__law_due : Stmt := topS 19
theorem sc__law_due : FnScope ["_law_p", "_law_q", "_law_found", "_law_prime", "_law_many", "_law_great"] ["_law_p", "_law_q"] (defScope s__law_due) := ⟨rfl, rfl, rfl, by decide +kernel, rfl, by decide +kernel, by decide +kernel⟩
abbrev s__law_whole : Stmt := topS 20
theorem sc__law_whole : FnScope ["_law_thing", "_law_many", "_law_one"] ["_law_thing", "_law_many"] (defScope s__law_whole) := ⟨rfl, rfl, rfl, by decide +kernel, rfl, by decide +kernel, by decide +kernel⟩
abbrev s__law_ratio_right : Stmt := topS 21
theorem sc__law_ratio_right : FnScope ["_law_p", "_law_q", "_law_one", "_law_by", "_law_grains", "_law_due_here", "_law_many", "_law_each"] ["_law_p", "_law_q"] (defScope s__law_ratio_right) := ⟨rfl, rfl, rfl, by decide +kernel, rfl, by decide +kernel, by decide +kernel⟩
abbrev s__law_step : Stmt := topS 22
theorem sc__law_step : FnScope ["_law_cells", "_law_state", "_law_both", "_law_many", "_law_found", "_law_p", "_law_q", "_law_r", "_law_s", "_law_one", "_law_other"] ["_law_cells"] (defScope s__law_step) := ⟨rfl, rfl, rfl, by decide +kernel, rfl, by decide +kernel, by decide +kernel⟩
abbrev s_law : Stmt := topS 23
theorem sc_law : FnScope ["_law_script", "_law_first"] ["_law_script"] (defScope s_law) := ⟨rfl, rfl, rfl, by decide +kernel, rfl, by decide +kernel, by decide +kernel⟩
abbrev pr_how_often (ds : List PyData) (r : PyData) : Prop := ∃ (p0 : Int) (p1 : Int) (x : Int), ds = [enc p0, enc p1] ∧ m_how_often p0 p1 = some x ∧ r = enc x
abbrev pr_raised (ds : List PyData) (r : PyData) : Prop := ∃ (p0 : Int) (p1 : Int) (x : Int), ds = [enc p0, enc p1] ∧ m_raised p0 p1 = some x ∧ r = enc x
abbrev pr_ratio_of (ds : List PyData) (r : PyData) : Prop := ∃ (p0 : Int) (p1 : Int) (x : (Tl Int)), ds = [enc p0, enc p1] ∧ m_ratio_of p0 p1 = some x ∧ r = enc x
abbrev pr_together (ds : List PyData) (r : PyData) : Prop := ∃ (p0 : (Tl Int)) (p1 : (Tl Int)) (x : (Tl Int)), ds = [enc p0, enc p1] ∧ m_together p0 p1 = some x ∧ r = enc x
abbrev pr_turned (ds : List PyData) (r : PyData) : Prop := ∃ (p0 : (Tl Int)) (x : (Tl Int)), ds = [enc p0] ∧ m_turned p0 = some x ∧ r = enc x
abbrev pr_power (ds : List PyData) (r : PyData) : Prop := ∃ (p0 : (Tl Int)) (p1 : Int) (x : (Tl Int)), ds = [enc p0, enc p1] ∧ m_power p0 p1 = some x ∧ r = enc x
abbrev pr_size (ds : List PyData) (r : PyData) : Prop := ∃ (p0 : (Tl Int)) (x : Int), ds = [enc p0] ∧ m_size p0 = some x ∧ r = enc x
abbrev pr_fraction (ds : List PyData) (r : PyData) : Prop := ∃ (p0 : (Tl Int)) (x : (Int × Int)), ds = [enc p0] ∧ m_fraction p0 = some x ∧ r = enc x
abbrev pr_figures (ds : List PyData) (r : PyData) : Prop := ∃ (p0 : Int) (x : Str), ds = [enc p0] ∧ m_figures p0 = some x ∧ r = enc x
abbrev pr_ratio_text (ds : List PyData) (r : PyData) : Prop := ∃ (p0 : (Tl Int)) (x : Str), ds = [enc p0] ∧ m_ratio_text p0 = some x ∧ r = enc x
abbrev pr__law_part (c : List Int) (ns : Option (List Str)) (ds : List PyData) (k : Int) (r : PyData) (k2 : Int) : Prop := ∃ (x : Int), ds = [] ∧ m__law_part c ns k = some (x, k2) ∧ r = enc x
abbrev pr__law_common (ds : List PyData) (r : PyData) : Prop := ∃ (p0 : Int) (p1 : Int) (x : Int), ds = [enc p0, enc p1] ∧ m__law_common p0 p1 = some x ∧ r = enc x
abbrev pr__law_over (ds : List PyData) (r : PyData) : Prop := ∃ (p0 : Int) (p1 : Int) (x : Int), ds = [enc p0, enc p1] ∧ m__law_over p0 p1 = some x ∧ r = enc x
abbrev pr__law_due (ds : List PyData) (r : PyData) : Prop := ∃ (p0 : Int) (p1 : Int) (x : (Tl Int)), ds = [enc p0, enc p1] ∧ m__law_due p0 p1 = some x ∧ r = enc x
abbrev pr__law_whole (ds : List PyData) (r : PyData) : Prop := ∃ (p0 : (Tl Int)) (p1 : Int) (x : Bool), ds = [enc p0, enc p1] ∧ m__law_whole p0 p1 = some x ∧ r = enc x
abbrev pr__law_ratio_right (ds : List PyData) (r : PyData) : Prop := ∃ (p0 : Int) (p1 : Int) (x : Bool), ds = [enc p0, enc p1] ∧ m__law_ratio_right p0 p1 = some x ∧ r = enc x
abbrev pr__law_step (ds : List PyData) (r : PyData) : Prop := ∃ (p0 : (List Int)) (x : Bool), ds = [enc p0] ∧ m__law_step p0 = some x ∧ r = enc x
abbrev pr_law (ds : List PyData) (r : PyData) : Prop := ∃ (p0 : Sc) (x : Bool), ds = [enc p0] ∧ m_law p0 = some x ∧ r = enc x
/-- what the top has left -/
structure Tx (K : PySem.W.Frag) (mg : Str → Option Value) : Prop where
  d_how_often : ∃ f fd, Fun K "how_often" "how_often" s_how_often f fd ∧ mg "how_often" = some (.ref f) ∧ Binds K fd ["number", "prime"] []
  d_raised : ∃ f fd, Fun K "raised" "raised" s_raised f fd ∧ mg "raised" = some (.ref f) ∧ Binds K fd ["prime", "many"] []
  d_ratio_of : ∃ f fd, Fun K "ratio_of" "ratio_of" s_ratio_of f fd ∧ mg "ratio_of" = some (.ref f) ∧ Binds K fd ["p", "q"] []
  d_together : ∃ f fd, Fun K "together" "together" s_together f fd ∧ mg "together" = some (.ref f) ∧ Binds K fd ["one", "other"] []
  d_turned : ∃ f fd, Fun K "turned" "turned" s_turned f fd ∧ mg "turned" = some (.ref f) ∧ Binds K fd ["one"] []
  d_power : ∃ f fd, Fun K "power" "power" s_power f fd ∧ mg "power" = some (.ref f) ∧ Binds K fd ["one", "many"] []
  d_size : ∃ f fd, Fun K "size" "size" s_size f fd ∧ mg "size" = some (.ref f) ∧ Binds K fd ["one"] []
  d_fraction : ∃ f fd, Fun K "fraction" "fraction" s_fraction f fd ∧ mg "fraction" = some (.ref f) ∧ Binds K fd ["one"] []
  d_figures : ∃ f fd, Fun K "figures" "figures" s_figures f fd ∧ mg "figures" = some (.ref f) ∧ Binds K fd ["number"] []
  d_ratio_text : ∃ f fd, Fun K "ratio_text" "ratio_text" s_ratio_text f fd ∧ mg "ratio_text" = some (.ref f) ∧ Binds K fd ["one"] []
  d__law_next : ∃ f fd, Fun K "_law_next" "_law_next" s__law_next f fd ∧ mg "_law_next" = some (.ref f) ∧ Binds K fd ["_law_state", "_law_many"] []
  d__law_begun : ∃ f fd, Fun K "_law_begun" "_law_begun" s__law_begun f fd ∧ mg "_law_begun" = some (.ref f) ∧ Binds K fd ["_law_cells"] []
  d__law_part : ∃ f fd, Fun K "_law_part" "_law_part" s__law_part f fd ∧ mg "_law_part" = some (.ref f) ∧ Binds K fd ["_law_state"] []
  d__law_common : ∃ f fd, Fun K "_law_common" "_law_common" s__law_common f fd ∧ mg "_law_common" = some (.ref f) ∧ Binds K fd ["_law_one", "_law_other"] []
  d__law_over : ∃ f fd, Fun K "_law_over" "_law_over" s__law_over f fd ∧ mg "_law_over" = some (.ref f) ∧ Binds K fd ["_law_number", "_law_many"] []
  d__law_due : ∃ f fd, Fun K "_law_due" "_law_due" s__law_due f fd ∧ mg "_law_due" = some (.ref f) ∧ Binds K fd ["_law_p", "_law_q"] []
  d__law_whole : ∃ f fd, Fun K "_law_whole" "_law_whole" s__law_whole f fd ∧ mg "_law_whole" = some (.ref f) ∧ Binds K fd ["_law_thing", "_law_many"] []
  d__law_ratio_right : ∃ f fd, Fun K "_law_ratio_right" "_law_ratio_right" s__law_ratio_right f fd ∧ mg "_law_ratio_right" = some (.ref f) ∧ Binds K fd ["_law_p", "_law_q"] []
  d__law_step : ∃ f fd, Fun K "_law_step" "_law_step" s__law_step f fd ∧ mg "_law_step" = some (.ref f) ∧ Binds K fd ["_law_cells"] []
  d_law : ∃ f fd, Fun K "law" "law" s_law f fd ∧ mg "law" = some (.ref f) ∧ Binds K fd ["_law_script"] []
  m_PRIMES : ∃ a, mg "PRIMES" = some (.ref a) ∧ ∀ B, Rp K B (.ref a) (enc c_PRIMES)
  m_GRAINS : ∃ a, mg "GRAINS" = some (.ref a) ∧ ∀ B, Rp K B (.ref a) (enc c_GRAINS)
  b_all : mg "all" = none
  b_bool : mg "bool" = none
  b_int : mg "int" = none
  b_isinstance : mg "isinstance" = none
  b_len : mg "len" = none
  b_max : mg "max" = none
  b_range : mg "range" = none
  b_str : mg "str" = none
  b_sum : mg "sum" = none
  b_tuple : mg "tuple" = none
  b_zip : mg "zip" = none
section
variable {P : Program} {w : World} {K : PySem.W.Frag} {mg : Str → Option Value} {base : Heap}
theorem ok_how_often (T : Tx K mg) {f : Addr} {fd : FuncData} (F : Fun K "how_often" "how_often" s_how_often f fd) : FnOk P w K mg base CX0 1 f fd ["number", "prime"] (spP K 2 pr_how_often) := by
  have sc := sc_how_often
  refine F.ok sc (fun vs H Q E h => by obtain ⟨_, _, _, _, hl, _⟩ := h; exact hl) (fun cdv A outer s H vs Q E hr h => ?_)
  refine ⟨_, (pss_cons (ps_set (i := 2) sc.nd rfl (by first | exact Or.inl rfl | exact Or.inr rfl) pe_int) (pss_cons (ps_while PassesOwn.never (PW.pt (pw_and (pt_cmpR op_gt (pv 0) pe_int (nomark _)) (pw_and1 (pt_cmpR op_eq (pe_op op_mod (pv 0) (pv 1)) pe_int (nomark _))))) (pss_cons (ps_aug (i := 0) sc.nd rfl (by first | exact Or.inl rfl | exact Or.inr rfl) (pv 1) iop_fdivW) (pss_cons (ps_aug (i := 2) sc.nd rfl (by first | exact Or.inl rfl | exact Or.inr rfl) pe_int iop_add) pss_nil))) (pss_cons (ps_ret (pv 2)) pss_nil))), ?_⟩
  refine fin_pure h fun ds r hp => ?_
  obtain ⟨p0, p1, x, rfl, hm, rfl⟩ := hp
  refine ⟨_, inferInstance, mb_how_often p0 p1, x, ?_, fin_some hm, rfl⟩
  exact (show EvS K _ [.dat (enc (p0 : Int)), .dat (enc (p1 : Int)), .un] noEnd noEnd (mb_how_often p0 p1) from (es_set em_int fun many_1 => (es_seq (mid := (fun (t_2 : Int × Int) => [.dat (enc (t_2.1 : Int)), .dat (enc (p1 : Int)), .dat (enc (t_2.2 : Int))])) (es_while (inv := (fun (t_2 : Int × Int) => [.dat (enc (t_2.1 : Int)), .dat (enc (p1 : Int)), .dat (enc (t_2.2 : Int))])) (t0 := (p0, many_1)) (c := (fun (t_2 : Int × Int) => ((Mn.bnd (Mn.bnd (Mn.pur t_2.1) fun x_3 => Mn.bnd (Mn.pur (1 : Int)) fun y_4 => Mn.pur (decide (y_4 < x_3))) fun b_9 => cnd b_9 (Mn.bnd (Mn.bnd (Mn.pur t_2.1) fun x_5 => Mn.bnd (Mn.pur p1) fun y_6 => gd (0 < y_6) (Mn.pur (x_5 % y_6))) fun x_7 => Mn.bnd (Mn.pur (0 : Int)) fun y_8 => Mn.pur (decide (x_7 = y_8))) (Mn.pur false)) : Option Bool))) (body := (fun (t_2 : Int × Int) => ((Mn.bnd (Mn.bnd (Mn.pur p1) fun y_10 => gd (OL.DivOk y_10) (Mn.pur (t_2.1 / y_10))) fun number_11 => (Mn.bnd (Mn.bnd (Mn.pur (1 : Int)) fun y_12 => Mn.pur (t_2.2 + y_12)) fun many_13 => (Mn.pur (.nx (number_11, many_13))))) : Option (Fl (Int × Int) (Int × Int) Int)))) (n := FU) (.same (.same (.same .nil))) (fun t_2 => (eb_and (eb_T (em_op (em_var rfl) em_int fun _ _ => om_B0)) (eb_T (em_op (em_op (em_var rfl) (em_var rfl) fun _ _ => om_mod) em_int fun _ _ => om_eqI)))) fun t_2 => (es_aug (a := t_2.1) rfl (em_var rfl) (fun _ => om_fdiv) fun number_11 => (es_aug (a := t_2.2) rfl em_int (fun _ => om_I0) fun many_13 => (es_next (.same (.same (.same .nil))))))) fun t_2 => (es_retS (em_var rfl)))))
theorem ok_raised (T : Tx K mg) {f : Addr} {fd : FuncData} (F : Fun K "raised" "raised" s_raised f fd) : FnOk P w K mg base CX0 1 f fd ["prime", "many"] (spP K 2 pr_raised) := by
  have sc := sc_raised
  refine F.ok sc (fun vs H Q E h => by obtain ⟨_, _, _, _, hl, _⟩ := h; exact hl) (fun cdv A outer s H vs Q E hr h => ?_)
  refine ⟨_, (pss_cons (ps_set (i := 2) sc.nd rfl (by first | exact Or.inl rfl | exact Or.inr rfl) pe_int) (pss_cons (ps_while PassesOwn.never (pt_cmpR op_gt (pv 1) pe_int (nomark _)) (pss_cons (ps_if (pt_cmpR op_eq (pe_op op_mod (pv 1) pe_int) pe_int (nomark _)) (pss_cons (ps_aug (i := 2) sc.nd rfl (by first | exact Or.inl rfl | exact Or.inr rfl) (pv 0) iop_mulU) pss_nil) pss_nil) (pss_cons (ps_aug (i := 0) sc.nd rfl (by first | exact Or.inl rfl | exact Or.inr rfl) (pv 0) iop_mulU) (pss_cons (ps_aug (i := 1) sc.nd rfl (by first | exact Or.inl rfl | exact Or.inr rfl) pe_int iop_fdivW) pss_nil)))) (pss_cons (ps_ret (pv 2)) pss_nil))), ?_⟩
  refine fin_pure h fun ds r hp => ?_
  obtain ⟨p0, p1, x, rfl, hm, rfl⟩ := hp
  refine ⟨_, inferInstance, mb_raised p0 p1, x, ?_, fin_some hm, rfl⟩
  exact (show EvS K _ [.dat (enc (p0 : Int)), .dat (enc (p1 : Int)), .un] noEnd noEnd (mb_raised p0 p1) from (es_set em_int fun out_15 => (es_seq (mid := (fun (t_16 : Int × Int × Int) => [.dat (enc (t_16.1 : Int)), .dat (enc (t_16.2.1 : Int)), .dat (enc (t_16.2.2 : Int))])) (es_while (inv := (fun (t_16 : Int × Int × Int) => [.dat (enc (t_16.1 : Int)), .dat (enc (t_16.2.1 : Int)), .dat (enc (t_16.2.2 : Int))])) (t0 := (p0, p1, out_15)) (c := (fun (t_16 : Int × Int × Int) => ((Mn.bnd (Mn.pur t_16.2.1) fun x_17 => Mn.bnd (Mn.pur (0 : Int)) fun y_18 => Mn.pur (decide (y_18 < x_17))) : Option Bool))) (body := (fun (t_16 : Int × Int × Int) => ((andThen (Mn.bnd (Mn.bnd (Mn.bnd (Mn.pur t_16.2.1) fun x_19 => Mn.bnd (Mn.pur (2 : Int)) fun y_20 => gd (0 < y_20) (Mn.pur (x_19 % y_20))) fun x_21 => Mn.bnd (Mn.pur (1 : Int)) fun y_22 => Mn.pur (decide (x_21 = y_22))) fun b_23 => cnd b_23 (Mn.bnd (Mn.bnd (Mn.pur t_16.1) fun y_25 => gd (OL.MulOk t_16.2.2 y_25) (Mn.pur (t_16.2.2 * y_25))) fun out_26 => (Mn.pur (.nx out_26))) (Mn.pur (.nx t_16.2.2)) : Option (Fl (Int) (Int × Int × Int) Int)) fun t_24 => (Mn.bnd (Mn.bnd (Mn.pur t_16.1) fun y_27 => gd (OL.MulOk t_16.1 y_27) (Mn.pur (t_16.1 * y_27))) fun prime_28 => (Mn.bnd (Mn.bnd (Mn.pur (2 : Int)) fun y_29 => gd (OL.DivOk y_29) (Mn.pur (t_16.2.1 / y_29))) fun many_30 => (Mn.pur (.nx (prime_28, many_30, t_24)))))) : Option (Fl (Int × Int × Int) (Int × Int × Int) Int)))) (n := FU) (.same (.same (.same .nil))) (fun t_16 => (eb_T (em_op (em_var rfl) em_int fun _ _ => om_B0))) fun t_16 => (es_seq (mid := (fun (t_24 : Int) => [.dat (enc (t_16.1 : Int)), .dat (enc (t_16.2.1 : Int)), .dat (enc (t_24 : Int))])) (es_if (eb_T (em_op (em_op (em_var rfl) em_int fun _ _ => om_mod) em_int fun _ _ => om_eqI)) (es_aug (a := t_16.2.2) rfl (em_var rfl) (fun _ => om_mul) fun out_26 => (es_next (.same (.same (.same .nil))))) (es_next (.same (.same (.same .nil))))) fun t_24 => (es_aug (a := t_16.1) rfl (em_var rfl) (fun _ => om_mul) fun prime_28 => (es_aug (a := t_16.2.1) rfl em_int (fun _ => om_fdiv) fun many_30 => (es_next (.same (.same (.same .nil)))))))) fun t_16 => (es_retS (em_var rfl)))))
theorem ok_ratio_of (T : Tx K mg) {f : Addr} {fd : FuncData} (F : Fun K "ratio_of" "ratio_of" s_ratio_of f fd) : FnOk P w K mg base CX0 2 f fd ["p", "q"] (spP K 2 pr_ratio_of) := by
  obtain ⟨f_how_often, fd_how_often, F_how_often, mg_how_often, b_how_often⟩ := T.d_how_often
  have G_how_often := ok_how_often (P := P) (w := w) (base := base) T F_how_often
  obtain ⟨a_PRIMES, m_PRIMES, k_PRIMES⟩ := T.m_PRIMES
  have sc := sc_ratio_of
  refine F.ok sc (fun vs H Q E h => by obtain ⟨_, _, _, _, hl, _⟩ := h; exact hl) (fun cdv A outer s H vs Q E hr h => ?_)
  refine ⟨_, (pss_cons (ps_ret (pe_callTy (r := rTupOf K) cr_tup (by rfl) T.b_tuple (by decide +kernel) (pa_cons (pe_lc (own := [("prime", 2)]) (g := gName 2) rfl sc.nd (pi_tup (pe_glob (v := .ref a_PRIMES) rfl m_PRIMES rfl)) (blkOk_by (N := ["p", "q", "prime"]) (sc := defScope s_ratio_of) (by decide +kernel)) (fun _ _ _ _ _ => (pg_name (i := 2) sc.nd rfl (by first | exact Or.inl rfl | exact Or.inr rfl))) (fun _ _ _ _ _ => pts_nil) (fun _ _ _ _ _ => (pe_op op_sub (pe_call G_how_often (hr.mono (by decide)) (by rfl) mg_how_often F_how_often.kp b_how_often .nil pass0 (pa_cons (pv 0) (pa_cons (pv 2) pa_nil))) (pe_call G_how_often (hr.mono (by decide)) (by rfl) mg_how_often F_how_often.kp b_how_often .nil pass0 (pa_cons (pv 1) (pa_cons (pv 2) pa_nil)))))) pa_nil))) pss_nil), ?_⟩
  refine fin_pure h fun ds r hp => ?_
  obtain ⟨p0, p1, x, rfl, hm, rfl⟩ := hp
  refine ⟨_, inferInstance, mb_ratio_of p0 p1, x, ?_, fin_some hm, rfl⟩
  exact (show EvS K _ [.dat (enc (p0 : Int)), .dat (enc (p1 : Int)), .un] noEnd noEnd (mb_ratio_of p0 p1) from (es_retS (em_tupL (em_ofF (ef_lc (vs := [2]) (is := [2]) (sd1 := fun (a_33 : Int) => [.dat (enc (p0 : Int)), .dat (enc (p1 : Int)), .dat (enc (a_33 : Int))]) (ei_tup (em_c k_PRIMES)) (fun _ => eg_name) (by decide) (fun a_33 => eb_yes) (fun a_33 => (em_op (em_call (f := fun p_36 => m_how_often p_36.1 p_36.2) (ea_cons (em_var rfl) (ea_1 (em_var rfl))) (fun _ => rfl) fun b r h => ⟨b.1, b.2, r, rfl, h, rfl⟩) (em_call (f := fun p_39 => m_how_often p_39.1 p_39.2) (ea_cons (em_var rfl) (ea_1 (em_var rfl))) (fun _ => rfl) fun b r h => ⟨b.1, b.2, r, rfl, h, rfl⟩) fun _ _ => om_I0)) (fun a_33 => (.same (.same (.un .nil)))) (noLst_by rfl))))))
theorem ok_together (T : Tx K mg) {f : Addr} {fd : FuncData} (F : Fun K "together" "together" s_together f fd) : FnOk P w K mg base CX0 1 f fd ["one", "other"] (spP K 2 pr_together) := by
  have sc := sc_together
  refine F.ok sc (fun vs H Q E h => by obtain ⟨_, _, _, _, hl, _⟩ := h; exact hl) (fun cdv A outer s H vs Q E hr h => ?_)
  refine ⟨_, (pss_cons (ps_ret (pe_callTy (r := rTupOf K) cr_tup (by rfl) T.b_tuple (by decide +kernel) (pa_cons (pe_lc (own := [("ours", 2), ("theirs", 3)]) (g := gTup K 2 (gCons (gName 2) (gCons (gName 3) gNil))) rfl sc.nd (RZ.pi_zipA rfl T.b_zip (pa_cons (pv 0) (pa_cons (pv 1) pa_nil))) (blkOk_by (N := ["one", "other", "ours", "theirs"]) (sc := defScope s_together) (by decide +kernel)) (fun _ _ _ _ _ => (pg_tup rfl (pgs_cons (pg_name (i := 2) sc.nd rfl (by first | exact Or.inl rfl | exact Or.inr rfl)) (pgs_cons (pg_name (i := 3) sc.nd rfl (by first | exact Or.inl rfl | exact Or.inr rfl)) pgs_nil)))) (fun _ _ _ _ _ => pts_nil) (fun _ _ _ _ _ => (pe_op op_add (pv 2) (pv 3)))) pa_nil))) pss_nil), ?_⟩
  refine fin_pure h fun ds r hp => ?_
  obtain ⟨p0, p1, x, rfl, hm, rfl⟩ := hp
  refine ⟨_, inferInstance, mb_together p0 p1, x, ?_, fin_some hm, rfl⟩
  exact (show EvS K _ [.dat (enc (p0 : (Tl Int))), .dat (enc (p1 : (Tl Int))), .un, .un] noEnd noEnd (mb_together p0 p1) from (es_retS (em_tupL (em_ofF (ef_lc (vs := [2, 3]) (is := [2, 3]) (sd1 := fun (a_49 : (Int × Int)) => [.dat (enc (p0 : (Tl Int))), .dat (enc (p1 : (Tl Int))), .dat (enc (a_49.1 : Int)), .dat (enc (a_49.2 : Int))]) (ei_zipT (ea_cons (em_var rfl) (ea_1 (em_var rfl)))) (fun _ => eg_pair) (by decide) (fun a_49 => eb_yes) (fun a_49 => (em_op (em_var rfl) (em_var rfl) fun _ _ => om_I0)) (fun a_49 => (.same (.same (.un (.un .nil))))) (noLst_by rfl))))))
theorem ok_turned (T : Tx K mg) {f : Addr} {fd : FuncData} (F : Fun K "turned" "turned" s_turned f fd) : FnOk P w K mg base CX0 1 f fd ["one"] (spP K 1 pr_turned) := by
  have sc := sc_turned
  refine F.ok sc (fun vs H Q E h => by obtain ⟨_, _, _, _, hl, _⟩ := h; exact hl) (fun cdv A outer s H vs Q E hr h => ?_)
  refine ⟨_, (pss_cons (ps_ret (pe_callTy (r := rTupOf K) cr_tup (by rfl) T.b_tuple (by decide +kernel) (pa_cons (pe_lc (own := [("often", 1)]) (g := gName 1) rfl sc.nd (pi_tup (pv 0)) (blkOk_by (N := ["one", "often"]) (sc := defScope s_turned) (by decide +kernel)) (fun _ _ _ _ _ => (pg_name (i := 1) sc.nd rfl (by first | exact Or.inl rfl | exact Or.inr rfl))) (fun _ _ _ _ _ => pts_nil) (fun _ _ _ _ _ => (pe_un un_neg (pv 1)))) pa_nil))) pss_nil), ?_⟩
  refine fin_pure h fun ds r hp => ?_
  obtain ⟨p0, x, rfl, hm, rfl⟩ := hp
  refine ⟨_, inferInstance, mb_turned p0, x, ?_, fin_some hm, rfl⟩
  exact (show EvS K _ [.dat (enc (p0 : (Tl Int))), .un] noEnd noEnd (mb_turned p0) from (es_retS (em_tupL (em_ofF (ef_lc (vs := [1]) (is := [1]) (sd1 := fun (a_57 : Int) => [.dat (enc (p0 : (Tl Int))), .dat (enc (a_57 : Int))]) (ei_tup (em_var rfl)) (fun _ => eg_name) (by decide) (fun a_57 => eb_yes) (fun a_57 => (em_neg (em_var rfl))) (fun a_57 => (.same (.un .nil))) (noLst_by rfl))))))
theorem ok_power (T : Tx K mg) {f : Addr} {fd : FuncData} (F : Fun K "power" "power" s_power f fd) : FnOk P w K mg base CX0 1 f fd ["one", "many"] (spP K 2 pr_power) := by
  have sc := sc_power
  refine F.ok sc (fun vs H Q E h => by obtain ⟨_, _, _, _, hl, _⟩ := h; exact hl) (fun cdv A outer s H vs Q E hr h => ?_)
  refine ⟨_, (pss_cons (ps_ret (pe_callTy (r := rTupOf K) cr_tup (by rfl) T.b_tuple (by decide +kernel) (pa_cons (pe_lc (own := [("often", 2)]) (g := gName 2) rfl sc.nd (pi_tup (pv 0)) (blkOk_by (N := ["one", "many", "often"]) (sc := defScope s_power) (by decide +kernel)) (fun _ _ _ _ _ => (pg_name (i := 2) sc.nd rfl (by first | exact Or.inl rfl | exact Or.inr rfl))) (fun _ _ _ _ _ => pts_nil) (fun _ _ _ _ _ => (pe_op op_mulU (pv 2) (pv 1)))) pa_nil))) pss_nil), ?_⟩
  refine fin_pure h fun ds r hp => ?_
  obtain ⟨p0, p1, x, rfl, hm, rfl⟩ := hp
  refine ⟨_, inferInstance, mb_power p0 p1, x, ?_, fin_some hm, rfl⟩
  exact (show EvS K _ [.dat (enc (p0 : (Tl Int))), .dat (enc (p1 : Int)), .un] noEnd noEnd (mb_power p0 p1) from (es_retS (em_tupL (em_ofF (ef_lc (vs := [2]) (is := [2]) (sd1 := fun (a_64 : Int) => [.dat (enc (p0 : (Tl Int))), .dat (enc (p1 : Int)), .dat (enc (a_64 : Int))]) (ei_tup (em_var rfl)) (fun _ => eg_name) (by decide) (fun a_64 => eb_yes) (fun a_64 => (em_op (em_var rfl) (em_var rfl) fun _ _ => om_mul)) (fun a_64 => (.same (.same (.un .nil)))) (noLst_by rfl))))))
theorem ok_size (T : Tx K mg) {f : Addr} {fd : FuncData} (F : Fun K "size" "size" s_size f fd) : FnOk P w K mg base CX0 1 f fd ["one"] (spP K 1 pr_size) := by
  obtain ⟨a_GRAINS, m_GRAINS, k_GRAINS⟩ := T.m_GRAINS
  have sc := sc_size
  refine F.ok sc (fun vs H Q E h => by obtain ⟨_, _, _, _, hl, _⟩ := h; exact hl) (fun cdv A outer s H vs Q E hr h => ?_)
  refine ⟨_, (pss_cons (ps_ret (pe_callB (r := rSumI K) (cr_sumU rfl) (by rfl) T.b_sum (by decide +kernel) (pa_cons (pe_lc (own := [("often", 1), ("grains", 2)]) (g := gTup K 2 (gCons (gName 1) (gCons (gName 2) gNil))) rfl sc.nd (RZ.pi_zipA rfl T.b_zip (pa_cons (pv 0) (pa_cons (pe_glob (v := .ref a_GRAINS) rfl m_GRAINS rfl) pa_nil))) (blkOk_by (N := ["one", "often", "grains"]) (sc := defScope s_size) (by decide +kernel)) (fun _ _ _ _ _ => (pg_tup rfl (pgs_cons (pg_name (i := 1) sc.nd rfl (by first | exact Or.inl rfl | exact Or.inr rfl)) (pgs_cons (pg_name (i := 2) sc.nd rfl (by first | exact Or.inl rfl | exact Or.inr rfl)) pgs_nil)))) (fun _ _ _ _ _ => pts_nil) (fun _ _ _ _ _ => (pe_op op_mulU (pv 1) (pv 2)))) pa_nil))) pss_nil), ?_⟩
  refine fin_pure h fun ds r hp => ?_
  obtain ⟨p0, x, rfl, hm, rfl⟩ := hp
  refine ⟨_, inferInstance, mb_size p0, x, ?_, fin_some hm, rfl⟩
  exact (show EvS K _ [.dat (enc (p0 : (Tl Int))), .un, .un] noEnd noEnd (mb_size p0) from (es_retS (em_sum (em_ofF (ef_lc (vs := [1, 2]) (is := [1, 2]) (sd1 := fun (a_74 : (Int × Int)) => [.dat (enc (p0 : (Tl Int))), .dat (enc (a_74.1 : Int)), .dat (enc (a_74.2 : Int))]) (ei_zipT (ea_cons (em_var rfl) (ea_1 (em_c k_GRAINS)))) (fun _ => eg_pair) (by decide) (fun a_74 => eb_yes) (fun a_74 => (em_op (em_var rfl) (em_var rfl) fun _ _ => om_mul)) (fun a_74 => (.same (.un (.un .nil)))) (noLst_by rfl))))))
theorem ok_fraction (T : Tx K mg) {f : Addr} {fd : FuncData} (F : Fun K "fraction" "fraction" s_fraction f fd) : FnOk P w K mg base CX0 2 f fd ["one"] (spP K 1 pr_fraction) := by
  obtain ⟨f_raised, fd_raised, F_raised, mg_raised, b_raised⟩ := T.d_raised
  have G_raised := ok_raised (P := P) (w := w) (base := base) T F_raised
  obtain ⟨a_PRIMES, m_PRIMES, k_PRIMES⟩ := T.m_PRIMES
  have sc := sc_fraction
  refine F.ok sc (fun vs H Q E h => by obtain ⟨_, _, _, _, hl, _⟩ := h; exact hl) (fun cdv A outer s H vs Q E hr h => ?_)
  refine ⟨_, (pss_cons (ps_set (i := 1) sc.nd rfl (by first | exact Or.inl rfl | exact Or.inr rfl) pe_int) (pss_cons (ps_set (i := 2) sc.nd rfl (by first | exact Or.inl rfl | exact Or.inr rfl) pe_int) (pss_cons (ps_for PassesOwn.never rfl (RZ.pi_zipA rfl T.b_zip (pa_cons (pv 0) (pa_cons (pe_glob (v := .ref a_PRIMES) rfl m_PRIMES rfl) pa_nil))) (pg_tup rfl (pgs_cons (pg_name (i := 3) sc.nd rfl (by first | exact Or.inl rfl | exact Or.inr rfl)) (pgs_cons (pg_name (i := 4) sc.nd rfl (by first | exact Or.inl rfl | exact Or.inr rfl)) pgs_nil))) (pss_cons (ps_aug (i := 1) sc.nd rfl (by first | exact Or.inl rfl | exact Or.inr rfl) (pe_call G_raised (hr.mono (by decide)) (by rfl) mg_raised F_raised.kp b_raised .nil pass0 (pa_cons (pv 4) (pa_cons (pe_callB (cr_maxU rfl) (by rfl) T.b_max (by decide +kernel) (pa_cons (pv 3) (pa_cons pe_int pa_nil))) pa_nil))) iop_mulU) (pss_cons (ps_aug (i := 2) sc.nd rfl (by first | exact Or.inl rfl | exact Or.inr rfl) (pe_call G_raised (hr.mono (by decide)) (by rfl) mg_raised F_raised.kp b_raised .nil pass0 (pa_cons (pv 4) (pa_cons (pe_callB (cr_maxU rfl) (by rfl) T.b_max (by decide +kernel) (pa_cons (pe_un un_neg (pv 3)) (pa_cons pe_int pa_nil))) pa_nil))) iop_mulU) pss_nil))) (pss_cons (ps_ret (pe_tup (pa_cons (pv 1) (pa_cons (pv 2) pa_nil)))) pss_nil)))), ?_⟩
  refine fin_pure h fun ds r hp => ?_
  obtain ⟨p0, x, rfl, hm, rfl⟩ := hp
  refine ⟨_, inferInstance, mb_fraction p0, x, ?_, fin_some hm, rfl⟩
  exact (show EvS K _ [.dat (enc (p0 : (Tl Int))), .un, .un, .un, .un] noEnd noEnd (mb_fraction p0) from (es_set em_int fun p_81 => (es_set em_int fun q_82 => (es_seq (mid := (fun (t_86 : Int × Int) => [.dat (enc (p0 : (Tl Int))), .dat (enc (t_86.1 : Int)), .dat (enc (t_86.2 : Int)), .un, .un])) (es_for (inv := (fun (t_86 : Int × Int) => [.dat (enc (p0 : (Tl Int))), .dat (enc (t_86.1 : Int)), .dat (enc (t_86.2 : Int)), .un, .un])) (t0 := (p_81, q_82)) (sd1 := fun (t_86 : Int × Int) (a_87 : (Int × Int)) => [.dat (enc (p0 : (Tl Int))), .dat (enc (t_86.1 : Int)), .dat (enc (t_86.2 : Int)), .dat (enc (a_87.1 : Int)), .dat (enc (a_87.2 : Int))]) (body := (fun (t_86 : Int × Int) (a_87 : (Int × Int)) => ((Mn.bnd (Mn.bnd (Mn.bnd (Mn.bnd (Mn.pur a_87.2) fun x_92 => Mn.bnd (Mn.bnd (Mn.bnd (Mn.pur a_87.1) fun x_89 => Mn.bnd (Mn.pur (0 : Int)) fun y_90 => Mn.pur (x_89, y_90)) fun p_91 => Mn.pur (max p_91.1 p_91.2)) fun y_93 => Mn.pur (x_92, y_93)) fun p_94 => lift (m_raised p_94.1 p_94.2)) fun y_95 => gd (OL.MulOk t_86.1 y_95) (Mn.pur (t_86.1 * y_95))) fun p_96 => (Mn.bnd (Mn.bnd (Mn.bnd (Mn.bnd (Mn.pur a_87.2) fun x_102 => Mn.bnd (Mn.bnd (Mn.bnd (Mn.bnd (Mn.pur a_87.1) fun x_97 => Mn.pur (-x_97)) fun x_99 => Mn.bnd (Mn.pur (0 : Int)) fun y_100 => Mn.pur (x_99, y_100)) fun p_101 => Mn.pur (max p_101.1 p_101.2)) fun y_103 => Mn.pur (x_102, y_103)) fun p_104 => lift (m_raised p_104.1 p_104.2)) fun y_105 => gd (OL.MulOk t_86.2 y_105) (Mn.pur (t_86.2 * y_105))) fun q_106 => (Mn.pur (.nx (p_96, q_106))))) : Option (Fl (Int × Int) (Int × Int) (Int × Int))))) (ei_zipT (ea_cons (em_var rfl) (ea_1 (em_c k_PRIMES)))) (.same (.same (.same (.same (.same .nil))))) (fun _ _ => eg_pair) fun t_86 a_87 => (es_aug (a := t_86.1) rfl (em_call (f := fun p_94 => m_raised p_94.1 p_94.2) (ea_cons (em_var rfl) (ea_1 (em_max (ea_2 (em_var rfl) em_int)))) (fun _ => rfl) fun b r h => ⟨b.1, b.2, r, rfl, h, rfl⟩) (fun _ => om_mul) fun p_96 => (es_aug (a := t_86.2) rfl (em_call (f := fun p_104 => m_raised p_104.1 p_104.2) (ea_cons (em_var rfl) (ea_1 (em_max (ea_2 (em_neg (em_var rfl)) em_int)))) (fun _ => rfl) fun b r h => ⟨b.1, b.2, r, rfl, h, rfl⟩) (fun _ => om_mul) fun q_106 => (es_next (.same (.same (.same (.un (.un .nil))))))))) fun t_86 => (es_retS (em_tup2 (em_var rfl) (em_var rfl)))))))
theorem ok_figures (T : Tx K mg) {f : Addr} {fd : FuncData} (F : Fun K "figures" "figures" s_figures f fd) : FnOk P w K mg base CX0 1 f fd ["number"] (spP K 1 pr_figures) := by
  have sc := sc_figures
  refine F.ok sc (fun vs H Q E h => by obtain ⟨_, _, _, _, hl, _⟩ := h; exact hl) (fun cdv A outer s H vs Q E hr h => ?_)
  refine ⟨_, (pss_cons (ps_set (i := 1) sc.nd rfl (by first | exact Or.inl rfl | exact Or.inr rfl) (pe_lst pa_nil)) (pss_cons (ps_while PassesOwn.never (pt_cmpR op_ge (pv 0) (pe_op op_pow pe_int pe_int) (nomark _)) (pss_cons (ps_expr (pe_bm PySem.F.plainAttrs_list PySem.F.slot_list_append PySem.F.type_list_append mt_append (pv 1) (pa_cons (pe_bm PySem.F.plainAttrs_str PySem.F.slot_str_zfill PySem.F.type_str_zfill mt_zfU (pe_callTy cr_strU (by rfl) T.b_str (by decide +kernel) (pa_cons (pe_op op_mod (pv 0) (pe_op op_pow pe_int pe_int)) pa_nil)) (pa_cons pe_int pa_nil)) pa_nil))) (pss_cons (ps_aug (i := 0) sc.nd rfl (by first | exact Or.inl rfl | exact Or.inr rfl) (pe_op op_pow pe_int pe_int) iop_fdivW) pss_nil))) (pss_cons (ps_expr (pe_bm PySem.F.plainAttrs_list PySem.F.slot_list_append PySem.F.type_list_append mt_append (pv 1) (pa_cons (pe_callTy cr_strU (by rfl) T.b_str (by decide +kernel) (pa_cons (pv 0) pa_nil)) pa_nil))) (pss_cons (ps_ret (pe_bm PySem.F.plainAttrs_str PySem.F.slot_str_join PySem.F.type_str_join mt_joinU pe_str (pa_cons (pe_revL (pv 1)) pa_nil))) pss_nil)))), ?_⟩
  refine fin_pure h fun ds r hp => ?_
  obtain ⟨p0, x, rfl, hm, rfl⟩ := hp
  refine ⟨_, inferInstance, mb_figures p0, x, ?_, fin_some hm, rfl⟩
  exact (show EvS K _ [.dat (enc (p0 : Int)), .un] noEnd noEnd (mb_figures p0) from (es_setF (ef_lst el_nil) fun pieces_112 => (es_seq (mid := (fun (t_113 : Int × List Str) => [.dat (enc (t_113.1 : Int)), .lst ((t_113.2 : List Str).map enc)])) (es_while (inv := (fun (t_113 : Int × List Str) => [.dat (enc (t_113.1 : Int)), .lst ((t_113.2 : List Str).map enc)])) (t0 := (p0, pieces_112)) (c := (fun (t_113 : Int × List Str) => ((Mn.bnd (Mn.pur t_113.1) fun x_116 => Mn.bnd (Mn.bnd (Mn.pur (10 : Int)) fun x_114 => Mn.bnd (Mn.pur (60 : Int)) fun y_115 => gd (OL.PowOk x_114 y_115) (Mn.pur (x_114 ^ Int.toNat y_115))) fun y_117 => Mn.pur (decide (y_117 ≤ x_116))) : Option Bool))) (body := (fun (t_113 : Int × List Str) => ((Mn.bnd (Mn.bnd (Mn.bnd (Mn.bnd (Mn.pur t_113.1) fun x_120 => Mn.bnd (Mn.bnd (Mn.pur (10 : Int)) fun x_118 => Mn.bnd (Mn.pur (60 : Int)) fun y_119 => gd (OL.PowOk x_118 y_119) (Mn.pur (x_118 ^ Int.toNat y_119))) fun y_121 => gd (0 < y_121) (Mn.pur (x_120 % y_121))) fun u_122 => gd (Nat.log2 (Int.natAbs u_122) < 1920) (Mn.pur (strI u_122))) fun z_123 => Mn.pur (Txt.zfill z_123 (60 : Int))) fun e_124 => gd (List.length t_113.2 < 100000) (Mn.bnd (Mn.bnd (Mn.bnd (Mn.pur (10 : Int)) fun x_125 => Mn.bnd (Mn.pur (60 : Int)) fun y_126 => gd (OL.PowOk x_125 y_126) (Mn.pur (x_125 ^ Int.toNat y_126))) fun y_127 => gd (OL.DivOk y_127) (Mn.pur (t_113.1 / y_127))) fun number_128 => (Mn.pur (.nx (number_128, (t_113.2 ++ [e_124])))))) : Option (Fl (Int × List Str) (Int × List Str) Str)))) (n := FU) (.same (.same .nil)) (fun t_113 => (eb_T (em_op (em_var rfl) (em_op em_int em_int fun _ _ => om_pow) fun _ _ => om_B0))) fun t_113 => (es_app (xs := t_113.2) (f := fun zs_e_124 => (Mn.bnd (Mn.bnd (Mn.bnd (Mn.pur (10 : Int)) fun x_125 => Mn.bnd (Mn.pur (60 : Int)) fun y_126 => gd (OL.PowOk x_125 y_126) (Mn.pur (x_125 ^ Int.toNat y_126))) fun y_127 => gd (OL.DivOk y_127) (Mn.pur (t_113.1 / y_127))) fun number_128 => (Mn.pur (.nx (number_128, zs_e_124))))) rfl (em_zfill (i := 60) (em_str1 (em_op (em_var rfl) (em_op em_int em_int fun _ _ => om_pow) fun _ _ => om_mod)) (by decide)) fun e_124 => (es_aug (a := t_113.1) rfl (em_op em_int em_int fun _ _ => om_pow) (fun _ => om_fdiv) fun number_128 => (es_next (.same (.same .nil)))))) fun t_113 => (es_app (xs := t_113.2) (f := fun zs_e_130 => (Mn.bnd (Mn.bnd (Mn.bnd (Mn.pur zs_e_130) fun x_131 => Mn.pur (List.reverse x_131)) fun j_132 => gd ((List.map Str.length j_132).sum + List.length j_132 * Str.length ("" : Str) ≤ 16777216) (Mn.pur (Txt.join ("" : Str) j_132))) fun r_133 => Mn.pur (.rt r_133))) rfl (em_str1 (em_var rfl)) fun e_130 => (es_frz (i := 1) rfl (es_retS (em_join (em_ofF (ef_rev (em_var rfl))))))))))
theorem ok_ratio_text (T : Tx K mg) {f : Addr} {fd : FuncData} (F : Fun K "ratio_text" "ratio_text" s_ratio_text f fd) : FnOk P w K mg base CX0 3 f fd ["one"] (spP K 1 pr_ratio_text) := by
  obtain ⟨f_figures, fd_figures, F_figures, mg_figures, b_figures⟩ := T.d_figures
  have G_figures := ok_figures (P := P) (w := w) (base := base) T F_figures
  obtain ⟨f_fraction, fd_fraction, F_fraction, mg_fraction, b_fraction⟩ := T.d_fraction
  have G_fraction := ok_fraction (P := P) (w := w) (base := base) T F_fraction
  have sc := sc_ratio_text
  refine F.ok sc (fun vs H Q E h => by obtain ⟨_, _, _, _, hl, _⟩ := h; exact hl) (fun cdv A outer s H vs Q E hr h => ?_)
  refine ⟨_, (pss_cons (ps_asg (pe_call G_fraction (hr.mono (by decide)) (by rfl) mg_fraction F_fraction.kp b_fraction .nil pass0 (pa_cons (pv 0) pa_nil)) (pg_tup rfl (pgs_cons (pg_name (i := 1) sc.nd rfl (by first | exact Or.inl rfl | exact Or.inr rfl)) (pgs_cons (pg_name (i := 2) sc.nd rfl (by first | exact Or.inl rfl | exact Or.inr rfl)) pgs_nil)))) (pss_cons (ps_ret (pe_joined (.cons (pe_fmt (pe_call G_figures (hr.mono (by decide)) (by rfl) mg_figures F_figures.kp b_figures .nil pass0 (pa_cons (pv 1) pa_nil))) (.cons pe_str (.cons (pe_fmt (pe_call G_figures (hr.mono (by decide)) (by rfl) mg_figures F_figures.kp b_figures .nil pass0 (pa_cons (pv 2) pa_nil))) .nil))))) pss_nil)), ?_⟩
  refine fin_pure h fun ds r hp => ?_
  obtain ⟨p0, x, rfl, hm, rfl⟩ := hp
  refine ⟨_, inferInstance, mb_ratio_text p0, x, ?_, fin_some hm, rfl⟩
  exact (show EvS K _ [.dat (enc (p0 : (Tl Int))), .un, .un] noEnd noEnd (mb_ratio_text p0) from (es_tgt (em_call (f := fun p_134 => m_fraction p_134) (ea_1 (em_var rfl)) (fun _ => rfl) fun b r h => ⟨b, r, rfl, h, rfl⟩) (fun _ => eg_pair) fun p_135 => (es_retS (em_fs2 (em_call (f := fun p_136 => m_figures p_136) (ea_1 (em_var rfl)) (fun _ => rfl) fun b r h => ⟨b, r, rfl, h, rfl⟩) (em_call (f := fun p_137 => m_figures p_137) (ea_1 (em_var rfl)) (fun _ => rfl) fun b r h => ⟨b, r, rfl, h, rfl⟩)))))
theorem ok__law_next (T : Tx K mg) {f : Addr} {fd : FuncData} (F : Fun K "_law_next" "_law_next" s__law_next f fd) : FnOk P w K mg base CX0 1 f fd ["_law_state", "_law_many"] (spS K 2 pr_next) := by
  have sc := sc__law_next
  refine F.ok sc (fun vs H Q E h => by obtain ⟨_, _, _, _, _, _, _, _, _, rfl, _, hl, _⟩ := h; exact hl) (fun cdv A outer s H vs Q E hr h => ?_)
  have hu := hu_of hr
  exact ⟨tNx K, (pss_cons (ps_dput hu (pv 0) pe_str (pe_op op_add (pe_dget hu (pv 0) pe_str (fun _ _ => rfl)) pe_int) rfl) (pss_cons (ps_set (i := 2) sc.nd rfl (by first | exact Or.inl rfl | exact Or.inr rfl) (pe_dget hu (pv 0) pe_str (fun _ _ => rfl))) (pss_cons (ps_set (i := 3) sc.nd rfl (by first | exact Or.inl rfl | exact Or.inr rfl) (pe_dget hu (pv 0) pe_str (fun _ _ => rfl))) (pss_cons (ps_set (i := 4) sc.nd rfl (by first | exact Or.inl rfl | exact Or.inr rfl) (pe_op op_add (pe_op op_mulU (pe_op op_mulU pe_int (pv 2)) (pv 2)) (pe_op op_mulU pe_int (pv 2)))) (pss_cons (ps_if (pt_cmpR (op_neD (room64 hr)) (pv 3) (pe_lst pa_nil) (nomark _)) (pss_cons (ps_set (i := 4) sc.nd rfl (by first | exact Or.inl rfl | exact Or.inr rfl) (pe_op op_add (pv 4) (pe_op op_mulU (pe_op op_mod (pe_ix ix_list (pv 3) (pe_op op_mod (pv 2) (pe_callB (r := rLen K) cr_lenU (by rfl) T.b_len (by decide +kernel) (pa_cons (pv 3) pa_nil))) (fun _ _ => rfl)) pe_int) (pe_op op_add pe_int (pe_op op_fdivW (pv 2) (pe_callB (r := rLen K) cr_lenU (by rfl) T.b_len (by decide +kernel) (pa_cons (pv 3) pa_nil))))))) pss_nil) pss_nil) (pss_cons (ps_ret (pe_op op_mod (pe_op op_fdivW (pe_op op_mod (pe_op op_mulU (pv 4) pe_int) pe_int) pe_int) (pv 1))) pss_nil)))))), run_next h⟩
theorem ok__law_begun (T : Tx K mg) {f : Addr} {fd : FuncData} (F : Fun K "_law_begun" "_law_begun" s__law_begun f fd) : FnOk P w K mg base CX0 2 f fd ["_law_cells"] (spB K okB) := by
  obtain ⟨f__law_next, fd__law_next, F__law_next, mg__law_next, b__law_next⟩ := T.d__law_next
  have G__law_next := ok__law_next (P := P) (w := w) (base := base) T F__law_next
  have sc := sc__law_begun
  refine F.ok sc (fun vs H Q E h => by obtain ⟨_, _, _, rfl, _⟩ := h; rfl) (fun cdv A outer s H vs Q E hr h => ?_)
  have hu := hu_of hr
  refine ⟨tBg _ _ _ 2 3, (pss_cons (ps_set (i := 1) sc.nd rfl (by first | exact Or.inl rfl | exact Or.inr rfl) (pe_disp (pps_cons pe_str (pv 0) (pps_cons pe_str pe_int pps_nil)) rfl rfl (by decide) (by decide))) (pss_cons (ps_set (i := 2) sc.nd rfl (by first | exact Or.inl rfl | exact Or.inr rfl) (pe_bm PySem.F.plainAttrs_str PySem.F.slot_str_join PySem.F.type_str_join mt_joinU pe_str (pa_cons (pe_lc (own := [("_law_k", 5)]) (g := gName 5) rfl sc.nd (pi_range1 rfl T.b_range (pa_cons (pe_call G__law_next (hr.mono (by decide)) (by rfl) mg__law_next F__law_next.kp b__law_next .nil pass0 (pa_cons (pv 1) (pa_cons pe_int pa_nil))) pa_nil)) (blkOk_by (N := ["_law_cells", "_law_state", "_law_rest", "_law_at", "_law_sign", "_law_k"]) (sc := defScope s__law_begun) (by decide +kernel)) (fun _ _ _ _ _ => (pg_name (i := 5) sc.nd rfl (by first | exact Or.inl rfl | exact Or.inr rfl))) (fun _ _ _ _ _ => pts_nil) (fun _ _ _ _ _ => (pe_ix ix_str pe_str (pe_call G__law_next (hr.mono (by decide)) (by rfl) mg__law_next F__law_next.kp b__law_next .nil pass0 (pa_cons (pv 1) (pa_cons pe_int pa_nil))) (fun _ _ => rfl)))) pa_nil))) (pss_cons (ps_set (i := 3) sc.nd rfl (by first | exact Or.inl rfl | exact Or.inr rfl) (pe_call G__law_next (hr.mono (by decide)) (by rfl) mg__law_next F__law_next.kp b__law_next .nil pass0 (pa_cons (pv 1) (pa_cons (pe_op op_add (pe_callB (r := rLen K) cr_lenU (by rfl) T.b_len (by decide +kernel) (pa_cons (pv 2) pa_nil)) pe_int) pa_nil)))) (pss_cons (ps_dput hu (pv 1) pe_str (pe_lc (own := [("_law_sign", 4)]) (g := gName 4) rfl sc.nd (pi_str pe_str) (blkOk_by (N := ["_law_cells", "_law_state", "_law_rest", "_law_at", "_law_sign", "_law_k"]) (sc := defScope s__law_begun) (by decide +kernel)) (fun _ _ _ _ _ => (pg_name (i := 4) sc.nd rfl (by first | exact Or.inl rfl | exact Or.inr rfl))) (fun _ _ _ _ _ => pts_nil) (fun _ _ _ _ _ => (pe_op op_add_str (pe_op op_add_str (pe_slice sl_str (pv 2) po_none (po_some (pv 3))) (pv 4)) (pe_slice sl_str (pv 2) (po_some (pv 3)) po_none)))) rfl) (pss_cons (ps_ret (pv 1)) pss_nil))))), run_begun (n := 4) rfl (by decide) (by decide) (x2 := bg2) (x3 := bg3) (x4 := bg4) (fun c => ?_) (fun c r => ?_) (fun c r a => ?_) bg_tot h⟩
  · exact (show EvM K _ (sdA 4 c) (bg2 c) from (em_join (em_ofF (ef_lc (vs := [5]) (is := [5]) (sd1 := fun (a_143 : Int) => [.un, .sr c none, .un, .un, .un, .dat (enc (a_143 : Int))]) (ei_rng1 (ea_1 (em_draw (f := fun p_141 => m__law_next c none p_141) rfl (ea_1 em_int) (fun _ => rfl) fun b k r k2 h => ⟨b, r, rfl, h, rfl⟩))) (fun _ => eg_name) (by decide) (fun a_143 => eb_yes) (fun a_143 => (em_op em_str (em_draw (f := fun p_144 => m__law_next c none p_144) rfl (ea_1 em_int) (fun _ => rfl) fun b k r k2 h => ⟨b, r, rfl, h, rfl⟩) fun _ _ => om_ixS)) (fun a_143 => (.same (.same (.same (.same (.same (.un .nil))))))) (noLst_by rfl)))))
  · exact (show EvM K _ ((sdA 4 c).set 2 (.dat (enc r))) (bg3 c r) from (em_draw (f := fun p_154 => m__law_next c none p_154) rfl (ea_1 (em_op (em_lenS (em_var rfl)) em_int fun _ _ => om_I0)) (fun _ => rfl) fun b k r k2 h => ⟨b, r, rfl, h, rfl⟩))
  · exact (show EvF K _ (((sdA 4 c).set 2 (.dat (enc r))).set 3 (.dat (enc a))) (bg4 c r a) from (ef_lc (vs := [4]) (is := [4]) (sd1 := fun (a_156 : Str) => [.un, .sr c none, .dat (enc (r : Str)), .dat (enc (a : Int)), .dat (enc (a_156 : Str)), .un]) (ei_str em_str) (fun _ => eg_name) (by decide) (fun a_156 => eb_yes) (fun a_156 => (em_op (em_op (em_sliceS (em_var rfl) eo_none (eo_some (em_var rfl))) (em_var rfl) fun _ _ => om_catS) (em_sliceS (em_var rfl) (eo_some (em_var rfl)) eo_none) fun _ _ => om_catS)) (fun a_156 => (.same (.same (.same (.same (.un (.same .nil))))))) (noLst_by rfl)))
theorem ok__law_part (T : Tx K mg) {f : Addr} {fd : FuncData} (F : Fun K "_law_part" "_law_part" s__law_part f fd) : FnOk P w K mg base CX0 2 f fd ["_law_state"] (spS K 1 pr__law_part) := by
  obtain ⟨f__law_next, fd__law_next, F__law_next, mg__law_next, b__law_next⟩ := T.d__law_next
  have G__law_next := ok__law_next (P := P) (w := w) (base := base) T F__law_next
  have sc := sc__law_part
  refine F.ok sc (fun vs H Q E h => by obtain ⟨_, _, _, _, _, _, _, _, _, rfl, _, hl, _⟩ := h; exact hl) (fun cdv A outer s H vs Q E hr h => ?_)
  refine ⟨_, (pss_cons (ps_set (i := 1) sc.nd rfl (by first | exact Or.inl rfl | exact Or.inr rfl) pe_int) (pss_cons (ps_for PassesOwn.never rfl (pi_range1 rfl T.b_range (pa_cons (pe_call G__law_next (hr.mono (by decide)) (by rfl) mg__law_next F__law_next.kp b__law_next .nil pass0 (pa_cons (pv 0) (pa_cons pe_int pa_nil))) pa_nil)) (pg_name (i := 2) sc.nd rfl (by first | exact Or.inl rfl | exact Or.inr rfl)) (pss_cons (ps_set (i := 3) sc.nd rfl (by first | exact Or.inl rfl | exact Or.inr rfl) (pe_ix (r := rIxL K) ix_list (pe_lst (pa_cons pe_int (pa_cons pe_int (pa_cons pe_int (pa_cons pe_int pa_nil))))) (pe_call G__law_next (hr.mono (by decide)) (by rfl) mg__law_next F__law_next.kp b__law_next .nil pass0 (pa_cons (pv 0) (pa_cons pe_int pa_nil))) (fun _ _ => rfl))) (pss_cons (ps_set (i := 1) sc.nd rfl (by first | exact Or.inl rfl | exact Or.inr rfl) (pe_ifExp (pt_cmpR op_le (pe_op op_mulU (pv 1) (pv 3)) pe_int (nomark _)) (pe_op op_mulU (pv 1) (pv 3)) (pv 1))) pss_nil))) (pss_cons (ps_ret (pv 1)) pss_nil))), ?_⟩
  refine fin_draw (by decide) h fun cl nm ds k r k2 hp => ?_
  obtain ⟨x, rfl, hm, rfl⟩ := hp
  refine ⟨_, inferInstance, mb__law_part cl nm, x, ?_, finS_some hm, rfl⟩
  exact (show EvS K _ [.sr cl nm, .un, .un, .un] noEnd noEnd (mb__law_part cl nm) from (es_set em_int fun found_171 => (es_seq (mid := (fun (t_174 : Int) => [.sr cl nm, .dat (enc (t_174 : Int)), .un, .un])) (es_for (inv := (fun (t_174 : Int) => [.sr cl nm, .dat (enc (t_174 : Int)), .un, .un])) (t0 := found_171) (sd1 := fun (t_174 : Int) (a_175 : Int) => [.sr cl nm, .dat (enc (t_174 : Int)), .dat (enc (a_175 : Int)), .un]) (body := (fun (t_174 : Int) (a_175 : Int) => ((Mn.bnd (Mn.bnd (Mn.bnd (Mn.bnd (Mn.pur (2 : Int)) fun x_182 => Mn.bnd (Mn.bnd (Mn.pur (3 : Int)) fun x_180 => Mn.bnd (Mn.bnd (Mn.pur (5 : Int)) fun x_178 => Mn.bnd (Mn.bnd (Mn.pur (7 : Int)) fun x_176 => Mn.bnd (Mn.pur ([] : List Int)) fun y_177 => Mn.pur (x_176 :: y_177)) fun y_179 => Mn.pur (x_178 :: y_179)) fun y_181 => Mn.pur (x_180 :: y_181)) fun y_183 => Mn.pur (x_182 :: y_183)) fun l_184 => gd (List.length l_184 ≤ 1000) (Mn.pur l_184)) fun x_186 => Mn.bnd (Mn.bnd (Mn.pur (4 : Int)) fun p_185 => m__law_next cl nm p_185) fun y_187 => lift (atI x_186 y_187)) fun prime_188 => (Mn.bnd (Mn.bnd (Mn.bnd (Mn.bnd (Mn.pur t_174) fun x_189 => Mn.bnd (Mn.pur prime_188) fun y_190 => gd (OL.MulOk x_189 y_190) (Mn.pur (x_189 * y_190))) fun x_191 => Mn.bnd (Mn.pur (9999 : Int)) fun y_192 => Mn.pur (decide (x_191 ≤ y_192))) fun b_195 => cnd b_195 (Mn.bnd (Mn.pur t_174) fun x_193 => Mn.bnd (Mn.pur prime_188) fun y_194 => gd (OL.MulOk x_193 y_194) (Mn.pur (x_193 * y_194))) (Mn.pur t_174)) fun found_196 => (Mn.pur (.nx found_196)))) : Sm (Fl (Int) (Int) Int)))) (ei_rng1 (ea_1 (em_draw (f := fun p_172 => m__law_next cl nm p_172) rfl (ea_1 em_int) (fun _ => rfl) fun b k r k2 h => ⟨b, r, rfl, h, rfl⟩))) (.same (.same (.same (.same .nil)))) (fun _ _ => eg_name) fun t_174 a_175 => (es_set (em_op (em_ofF (ef_lst (el_cons em_int (el_cons em_int (el_cons em_int (el_cons em_int el_nil)))))) (em_draw (f := fun p_185 => m__law_next cl nm p_185) rfl (ea_1 em_int) (fun _ => rfl) fun b k r k2 h => ⟨b, r, rfl, h, rfl⟩) fun _ _ => om_ixL) fun prime_188 => (es_set (em_if (eb_T (em_op (em_op (em_var rfl) (em_var rfl) fun _ _ => om_mul) em_int fun _ _ => om_B0)) (em_op (em_var rfl) (em_var rfl) fun _ _ => om_mul) (em_var rfl)) fun found_196 => (es_next (.same (.same (.un (.un .nil)))))))) fun t_174 => (es_retS (em_var rfl)))))
theorem ok__law_common (T : Tx K mg) {f : Addr} {fd : FuncData} (F : Fun K "_law_common" "_law_common" s__law_common f fd) : FnOk P w K mg base CX0 1 f fd ["_law_one", "_law_other"] (spP K 2 pr__law_common) := by
  have sc := sc__law_common
  refine F.ok sc (fun vs H Q E h => by obtain ⟨_, _, _, _, hl, _⟩ := h; exact hl) (fun cdv A outer s H vs Q E hr h => ?_)
  refine ⟨_, (pss_cons (ps_while PassesOwn.never (pt_cmpR op_gt (pv 1) pe_int (nomark _)) (pss_cons (ps_par rfl sc.nd (i := 0) (j := 1) rfl rfl (by decide) rfl rfl (pa_cons (pv 1) (pa_cons (pe_op op_mod (pv 0) (pv 1)) pa_nil)) rfl) pss_nil)) (pss_cons (ps_ret (pv 0)) pss_nil)), ?_⟩
  refine fin_pure h fun ds r hp => ?_
  obtain ⟨p0, p1, x, rfl, hm, rfl⟩ := hp
  refine ⟨_, inferInstance, mb__law_common p0 p1, x, ?_, fin_some hm, rfl⟩
  exact (show EvS K _ [.dat (enc (p0 : Int)), .dat (enc (p1 : Int))] noEnd noEnd (mb__law_common p0 p1) from (es_seq (mid := (fun (t_199 : Int × Int) => [.dat (enc (t_199.1 : Int)), .dat (enc (t_199.2 : Int))])) (es_while (inv := (fun (t_199 : Int × Int) => [.dat (enc (t_199.1 : Int)), .dat (enc (t_199.2 : Int))])) (t0 := (p0, p1)) (c := (fun (t_199 : Int × Int) => ((Mn.bnd (Mn.pur t_199.2) fun x_200 => Mn.bnd (Mn.pur (0 : Int)) fun y_201 => Mn.pur (decide (y_201 < x_200))) : Option Bool))) (body := (fun (t_199 : Int × Int) => ((Mn.bnd (Mn.bnd (Mn.pur t_199.2) fun x_204 => Mn.bnd (Mn.bnd (Mn.pur t_199.1) fun x_202 => Mn.bnd (Mn.pur t_199.2) fun y_203 => gd (0 < y_203) (Mn.pur (x_202 % y_203))) fun y_205 => Mn.pur (x_204, y_205)) fun p_206 => (Mn.pur (.nx (p_206.1, p_206.2)))) : Option (Fl (Int × Int) (Int × Int) Int)))) (n := FU) (.same (.same .nil)) (fun t_199 => (eb_T (em_op (em_var rfl) em_int fun _ _ => om_B0))) fun t_199 => (es_par (ea_cons (em_var rfl) (ea_1 (em_op (em_var rfl) (em_var rfl) fun _ _ => om_mod))) fun p_206 => (es_next (.same (.same .nil))))) fun t_199 => (es_retS (em_var rfl))))
theorem ok__law_over (T : Tx K mg) {f : Addr} {fd : FuncData} (F : Fun K "_law_over" "_law_over" s__law_over f fd) : FnOk P w K mg base CX0 1 f fd ["_law_number", "_law_many"] (spP K 2 pr__law_over) := by
  have sc := sc__law_over
  refine F.ok sc (fun vs H Q E h => by obtain ⟨_, _, _, _, hl, _⟩ := h; exact hl) (fun cdv A outer s H vs Q E hr h => ?_)
  refine ⟨_, (pss_cons (ps_set (i := 2) sc.nd rfl (by first | exact Or.inl rfl | exact Or.inr rfl) pe_int) (pss_cons (ps_for PassesOwn.never rfl (pi_range1 rfl T.b_range (pa_cons (pv 1) pa_nil)) (pg_name (i := 3) sc.nd rfl (by first | exact Or.inl rfl | exact Or.inr rfl)) (pss_cons (ps_set (i := 2) sc.nd rfl (by first | exact Or.inl rfl | exact Or.inr rfl) (pe_op op_mulU (pv 2) (pv 0))) pss_nil)) (pss_cons (ps_ret (pv 2)) pss_nil))), ?_⟩
  refine fin_pure h fun ds r hp => ?_
  obtain ⟨p0, p1, x, rfl, hm, rfl⟩ := hp
  refine ⟨_, inferInstance, mb__law_over p0 p1, x, ?_, fin_some hm, rfl⟩
  exact (show EvS K _ [.dat (enc (p0 : Int)), .dat (enc (p1 : Int)), .un, .un] noEnd noEnd (mb__law_over p0 p1) from (es_set em_int fun found_208 => (es_seq (mid := (fun (t_210 : Int) => [.dat (enc (p0 : Int)), .dat (enc (p1 : Int)), .dat (enc (t_210 : Int)), .un])) (es_for (inv := (fun (t_210 : Int) => [.dat (enc (p0 : Int)), .dat (enc (p1 : Int)), .dat (enc (t_210 : Int)), .un])) (t0 := found_208) (sd1 := fun (t_210 : Int) (a_211 : Int) => [.dat (enc (p0 : Int)), .dat (enc (p1 : Int)), .dat (enc (t_210 : Int)), .dat (enc (a_211 : Int))]) (body := (fun (t_210 : Int) (a_211 : Int) => ((Mn.bnd (Mn.bnd (Mn.pur t_210) fun x_212 => Mn.bnd (Mn.pur p0) fun y_213 => gd (OL.MulOk x_212 y_213) (Mn.pur (x_212 * y_213))) fun found_214 => (Mn.pur (.nx found_214))) : Option (Fl (Int) (Int) Int)))) (ei_rng1 (ea_1 (em_var rfl))) (.same (.same (.same (.same .nil)))) (fun _ _ => eg_name) fun t_210 a_211 => (es_set (em_op (em_var rfl) (em_var rfl) fun _ _ => om_mul) fun found_214 => (es_next (.same (.same (.same (.un .nil))))))) fun t_210 => (es_retS (em_var rfl)))))
theorem ok__law_due (T : Tx K mg) {f : Addr} {fd : FuncData} (F : Fun K "_law_due" "_law_due" s__law_due f fd) : FnOk P w K mg base CX0 1 f fd ["_law_p", "_law_q"] (spP K 2 pr__law_due) := by
  have sc := sc__law_due
  refine F.ok sc (fun vs H Q E h => by obtain ⟨_, _, _, _, hl, _⟩ := h; exact hl) (fun cdv A outer s H vs Q E hr h => ?_)
  refine ⟨_, (pss_cons (ps_set (i := 2) sc.nd rfl (by first | exact Or.inl rfl | exact Or.inr rfl) (pe_lst pa_nil)) (pss_cons (ps_for PassesOwn.never rfl (pi_tup (pe_tup (pa_cons pe_int (pa_cons pe_int (pa_cons pe_int (pa_cons pe_int pa_nil)))))) (pg_name (i := 3) sc.nd rfl (by first | exact Or.inl rfl | exact Or.inr rfl)) (pss_cons (ps_set (i := 4) sc.nd rfl (by first | exact Or.inl rfl | exact Or.inr rfl) pe_int) (pss_cons (ps_set (i := 5) sc.nd rfl (by first | exact Or.inl rfl | exact Or.inr rfl) (pv 3)) (pss_cons (ps_while PassesOwn.never (pt_cmpR op_eq (pe_op op_mod (pv 0) (pv 5)) pe_int (nomark _)) (pss_cons (ps_set (i := 4) sc.nd rfl (by first | exact Or.inl rfl | exact Or.inr rfl) (pe_op op_add (pv 4) pe_int)) (pss_cons (ps_set (i := 5) sc.nd rfl (by first | exact Or.inl rfl | exact Or.inr rfl) (pe_op op_mulU (pv 5) (pv 3))) pss_nil))) (pss_cons (ps_while PassesOwn.never (pt_cmpR op_eq (pe_op op_mod (pv 1) (pv 3)) pe_int (nomark _)) (pss_cons (ps_set (i := 1) sc.nd rfl (by first | exact Or.inl rfl | exact Or.inr rfl) (pe_op op_fdivW (pv 1) (pv 3))) (pss_cons (ps_set (i := 4) sc.nd rfl (by first | exact Or.inl rfl | exact Or.inr rfl) (pe_op op_sub (pv 4) pe_int)) pss_nil))) (pss_cons (ps_expr (pe_bm PySem.F.plainAttrs_list PySem.F.slot_list_append PySem.F.type_list_append mt_append (pv 2) (pa_cons (pv 4) pa_nil))) pss_nil)))))) (pss_cons (ps_ret (pe_callTy (r := rTupOf K) cr_tup (by rfl) T.b_tuple (by decide +kernel) (pa_cons (pv 2) pa_nil))) pss_nil))), ?_⟩
  refine fin_pure h fun ds r hp => ?_
  obtain ⟨p0, p1, x, rfl, hm, rfl⟩ := hp
  refine ⟨_, inferInstance, mb__law_due p0 p1, x, ?_, fin_some hm, rfl⟩
  exact (show EvS K _ [.dat (enc (p0 : Int)), .dat (enc (p1 : Int)), .un, .un, .un, .un] noEnd noEnd (mb__law_due p0 p1) from (es_setF (ef_lst el_nil) fun found_218 => (es_seq (mid := (fun (t_229 : Int × List Int) => [.dat (enc (p0 : Int)), .dat (enc (t_229.1 : Int)), .lst ((t_229.2 : List Int).map enc), .un, .un, .un])) (es_for (inv := (fun (t_229 : Int × List Int) => [.dat (enc (p0 : Int)), .dat (enc (t_229.1 : Int)), .lst ((t_229.2 : List Int).map enc), .un, .un, .un])) (t0 := (p1, found_218)) (sd1 := fun (t_229 : Int × List Int) (a_230 : Int) => [.dat (enc (p0 : Int)), .dat (enc (t_229.1 : Int)), .lst ((t_229.2 : List Int).map enc), .dat (enc (a_230 : Int)), .un, .un]) (body := (fun (t_229 : Int × List Int) (a_230 : Int) => ((Mn.bnd (Mn.pur (0 : Int)) fun many_231 => (Mn.bnd (Mn.pur a_230) fun great_232 => (andThen (whl (fun (t_233 : Int × Int) => ((Mn.bnd (Mn.bnd (Mn.pur p0) fun x_234 => Mn.bnd (Mn.pur t_233.2) fun y_235 => gd (0 < y_235) (Mn.pur (x_234 % y_235))) fun x_236 => Mn.bnd (Mn.pur (0 : Int)) fun y_237 => Mn.pur (decide (x_236 = y_237))) : Option Bool)) (fun (t_233 : Int × Int) => ((Mn.bnd (Mn.bnd (Mn.pur t_233.1) fun x_238 => Mn.bnd (Mn.pur (1 : Int)) fun y_239 => Mn.pur (x_238 + y_239)) fun many_240 => (Mn.bnd (Mn.bnd (Mn.pur t_233.2) fun x_241 => Mn.bnd (Mn.pur a_230) fun y_242 => gd (OL.MulOk x_241 y_242) (Mn.pur (x_241 * y_242))) fun great_243 => (Mn.pur (.nx (many_240, great_243))))) : Option (Fl (Int × Int) (Int × Int) (Tl Int)))) FU (many_231, great_232) : Option (Fl (Int × Int) (Int × List Int) (Tl Int))) fun t_233 => (andThen (whl (fun (t_244 : Int × Int) => ((Mn.bnd (Mn.bnd (Mn.pur t_244.1) fun x_245 => Mn.bnd (Mn.pur a_230) fun y_246 => gd (0 < y_246) (Mn.pur (x_245 % y_246))) fun x_247 => Mn.bnd (Mn.pur (0 : Int)) fun y_248 => Mn.pur (decide (x_247 = y_248))) : Option Bool)) (fun (t_244 : Int × Int) => ((Mn.bnd (Mn.bnd (Mn.pur t_244.1) fun x_249 => Mn.bnd (Mn.pur a_230) fun y_250 => gd (OL.DivOk y_250) (Mn.pur (x_249 / y_250))) fun q_251 => (Mn.bnd (Mn.bnd (Mn.pur t_244.2) fun x_252 => Mn.bnd (Mn.pur (1 : Int)) fun y_253 => Mn.pur (x_252 - y_253)) fun many_254 => (Mn.pur (.nx (q_251, many_254))))) : Option (Fl (Int × Int) (Int × Int) (Tl Int)))) FU (t_229.1, t_233.1) : Option (Fl (Int × Int) (Int × List Int) (Tl Int))) fun t_244 => (Mn.bnd (Mn.pur t_244.2) fun e_255 => gd (List.length t_229.2 < 100000) (Mn.pur (.nx (t_244.1, (t_229.2 ++ [e_255]))))))))) : Option (Fl (Int × List Int) (Int × List Int) (Tl Int))))) (ei_tup (em_tupTl (el_cons em_int (el_cons em_int (el_cons em_int (el_cons em_int el_nil)))))) (.same (.same (.same (.same (.same (.same .nil)))))) (fun _ _ => eg_name) fun t_229 a_230 => (es_set em_int fun many_231 => (es_set (em_var rfl) fun great_232 => (es_seq (mid := (fun (t_233 : Int × Int) => [.dat (enc (p0 : Int)), .dat (enc (t_229.1 : Int)), .lst ((t_229.2 : List Int).map enc), .dat (enc (a_230 : Int)), .dat (enc (t_233.1 : Int)), .dat (enc (t_233.2 : Int))])) (es_while (inv := (fun (t_233 : Int × Int) => [.dat (enc (p0 : Int)), .dat (enc (t_229.1 : Int)), .lst ((t_229.2 : List Int).map enc), .dat (enc (a_230 : Int)), .dat (enc (t_233.1 : Int)), .dat (enc (t_233.2 : Int))])) (t0 := (many_231, great_232)) (c := (fun (t_233 : Int × Int) => ((Mn.bnd (Mn.bnd (Mn.pur p0) fun x_234 => Mn.bnd (Mn.pur t_233.2) fun y_235 => gd (0 < y_235) (Mn.pur (x_234 % y_235))) fun x_236 => Mn.bnd (Mn.pur (0 : Int)) fun y_237 => Mn.pur (decide (x_236 = y_237))) : Option Bool))) (body := (fun (t_233 : Int × Int) => ((Mn.bnd (Mn.bnd (Mn.pur t_233.1) fun x_238 => Mn.bnd (Mn.pur (1 : Int)) fun y_239 => Mn.pur (x_238 + y_239)) fun many_240 => (Mn.bnd (Mn.bnd (Mn.pur t_233.2) fun x_241 => Mn.bnd (Mn.pur a_230) fun y_242 => gd (OL.MulOk x_241 y_242) (Mn.pur (x_241 * y_242))) fun great_243 => (Mn.pur (.nx (many_240, great_243))))) : Option (Fl (Int × Int) (Int × Int) (Tl Int))))) (n := FU) (.same (.same (.same (.same (.same (.same .nil)))))) (fun t_233 => (eb_T (em_op (em_op (em_var rfl) (em_var rfl) fun _ _ => om_mod) em_int fun _ _ => om_eqI))) fun t_233 => (es_set (em_op (em_var rfl) em_int fun _ _ => om_I0) fun many_240 => (es_set (em_op (em_var rfl) (em_var rfl) fun _ _ => om_mul) fun great_243 => (es_next (.same (.same (.same (.same (.same (.same .nil)))))))))) fun t_233 => (es_seq (mid := (fun (t_244 : Int × Int) => [.dat (enc (p0 : Int)), .dat (enc (t_244.1 : Int)), .lst ((t_229.2 : List Int).map enc), .dat (enc (a_230 : Int)), .dat (enc (t_244.2 : Int)), .dat (enc (t_233.2 : Int))])) (es_while (inv := (fun (t_244 : Int × Int) => [.dat (enc (p0 : Int)), .dat (enc (t_244.1 : Int)), .lst ((t_229.2 : List Int).map enc), .dat (enc (a_230 : Int)), .dat (enc (t_244.2 : Int)), .dat (enc (t_233.2 : Int))])) (t0 := (t_229.1, t_233.1)) (c := (fun (t_244 : Int × Int) => ((Mn.bnd (Mn.bnd (Mn.pur t_244.1) fun x_245 => Mn.bnd (Mn.pur a_230) fun y_246 => gd (0 < y_246) (Mn.pur (x_245 % y_246))) fun x_247 => Mn.bnd (Mn.pur (0 : Int)) fun y_248 => Mn.pur (decide (x_247 = y_248))) : Option Bool))) (body := (fun (t_244 : Int × Int) => ((Mn.bnd (Mn.bnd (Mn.pur t_244.1) fun x_249 => Mn.bnd (Mn.pur a_230) fun y_250 => gd (OL.DivOk y_250) (Mn.pur (x_249 / y_250))) fun q_251 => (Mn.bnd (Mn.bnd (Mn.pur t_244.2) fun x_252 => Mn.bnd (Mn.pur (1 : Int)) fun y_253 => Mn.pur (x_252 - y_253)) fun many_254 => (Mn.pur (.nx (q_251, many_254))))) : Option (Fl (Int × Int) (Int × Int) (Tl Int))))) (n := FU) (.same (.same (.same (.same (.same (.same .nil)))))) (fun t_244 => (eb_T (em_op (em_op (em_var rfl) (em_var rfl) fun _ _ => om_mod) em_int fun _ _ => om_eqI))) fun t_244 => (es_set (em_op (em_var rfl) (em_var rfl) fun _ _ => om_fdiv) fun q_251 => (es_set (em_op (em_var rfl) em_int fun _ _ => om_I0) fun many_254 => (es_next (.same (.same (.same (.same (.same (.same .nil)))))))))) fun t_244 => (es_app (xs := t_229.2) (f := fun zs_e_255 => (Mn.pur (.nx (t_244.1, zs_e_255)))) rfl (em_var rfl) fun e_255 => (es_next (.same (.same (.same (.un (.un (.un .nil))))))))))))) fun t_229 => (es_frz (i := 2) rfl (es_retS (em_tupL (em_var rfl)))))))
theorem ok__law_whole (T : Tx K mg) {f : Addr} {fd : FuncData} (F : Fun K "_law_whole" "_law_whole" s__law_whole f fd) : FnOk P w K mg base CX0 1 f fd ["_law_thing", "_law_many"] (spP K 2 pr__law_whole) := by
  have sc := sc__law_whole
  refine F.ok sc (fun vs H Q E h => by obtain ⟨_, _, _, _, hl, _⟩ := h; exact hl) (fun cdv A outer s H vs Q E hr h => ?_)
  refine ⟨_, (pss_cons (ps_if (PW.pt (pw_or (pt_not (pt_val (pe_callB (id := "isinstance") (r := rIsi K) call_isi (by rfl) T.b_isinstance PyProof.Rows.boot_isinstance (pa_cons (pv 0) (pa_cons (pe_bltn (v := .ty "tuple") (u := .type "tuple") rfl T.b_tuple PyProof.Rows.boot_tuple rfl) pa_nil))))) (pw_or1 (pt_cmpR op_ne (pe_callB (r := rLen K) cr_lenU (by rfl) T.b_len (by decide +kernel) (pa_cons (pv 0) pa_nil)) (pv 1) (nomark _))))) (pss_cons (ps_ret pe_bl) pss_nil) pss_nil) (pss_cons (ps_ret (pe_callB (r := rAll K) (cr_all rfl) (by rfl) T.b_all (by decide +kernel) (pa_cons (pe_lc (own := [("_law_one", 2)]) (g := gName 2) rfl sc.nd (pi_tup (pv 0)) (blkOk_by (N := ["_law_thing", "_law_many", "_law_one"]) (sc := defScope s__law_whole) (by decide +kernel)) (fun _ _ _ _ _ => (pg_name (i := 2) sc.nd rfl (by first | exact Or.inl rfl | exact Or.inr rfl))) (fun _ _ _ _ _ => pts_nil) (fun _ _ _ _ _ => (pe_and (pe_callB (id := "isinstance") (r := rIsi K) call_isi (by rfl) T.b_isinstance PyProof.Rows.boot_isinstance (pa_cons (pv 2) (pa_cons (pe_bltn (v := .ty "int") (u := .type "int") rfl T.b_int PyProof.Rows.boot_int rfl) pa_nil))) (pe_one (pe_not (pe_callB (id := "isinstance") (r := rIsi K) call_isi (by rfl) T.b_isinstance PyProof.Rows.boot_isinstance (pa_cons (pv 2) (pa_cons (pe_bltn (v := .ty "bool") (u := .type "bool") rfl T.b_bool PyProof.Rows.boot_bool rfl) pa_nil)))))))) pa_nil))) pss_nil)), ?_⟩
  refine fin_pure h fun ds r hp => ?_
  obtain ⟨p0, p1, x, rfl, hm, rfl⟩ := hp
  refine ⟨_, inferInstance, mb__law_whole p0 p1, x, ?_, fin_some hm, rfl⟩
  exact (show EvS K _ [.dat (enc (p0 : (Tl Int))), .dat (enc (p1 : Int)), .un] noEnd noEnd (mb__law_whole p0 p1) from (es_seq (mid := (fun (t_266 : Unit) => [.dat (enc (p0 : (Tl Int))), .dat (enc (p1 : Int)), .un])) (es_if (eb_or (eb_not (eb_B (em_isi (T := "tuple") (f := fun _ => true) (em_var rfl) (fun _ => (by decide +kernel : kitB "tuple" "tuple" = some true))))) (eb_T (em_op (em_lenT (em_var rfl)) (em_var rfl) fun _ _ => om_neI))) (es_retS em_bl) (es_next (.same (.same (.same .nil))))) fun t_266 => (es_retS (em_all (em_ofF (ef_lc (vs := [2]) (is := [2]) (sd1 := fun (a_269 : Int) => [.dat (enc (p0 : (Tl Int))), .dat (enc (p1 : Int)), .dat (enc (a_269 : Int))]) (ei_tup (em_var rfl)) (fun _ => eg_name) (by decide) (fun a_269 => eb_yes) (fun a_269 => (em_and (em_isi (T := "int") (f := fun _ => true) (em_var rfl) (fun _ => (by decide +kernel : kitB "int" "int" = some true))) (em_not (em_isi (T := "bool") (f := fun _ => false) (em_var rfl) (fun _ => (by decide +kernel : kitB "int" "bool" = some false)))))) (fun a_269 => (.same (.same (.un .nil)))) (noLst_by rfl)))))))
theorem ok__law_ratio_right (T : Tx K mg) {f : Addr} {fd : FuncData} (F : Fun K "_law_ratio_right" "_law_ratio_right" s__law_ratio_right f fd) : FnOk P w K mg base CX0 4 f fd ["_law_p", "_law_q"] (spP K 2 pr__law_ratio_right) := by
  obtain ⟨f__law_common, fd__law_common, F__law_common, mg__law_common, b__law_common⟩ := T.d__law_common
  have G__law_common := ok__law_common (P := P) (w := w) (base := base) T F__law_common
  obtain ⟨f__law_due, fd__law_due, F__law_due, mg__law_due, b__law_due⟩ := T.d__law_due
  have G__law_due := ok__law_due (P := P) (w := w) (base := base) T F__law_due
  obtain ⟨f__law_whole, fd__law_whole, F__law_whole, mg__law_whole, b__law_whole⟩ := T.d__law_whole
  have G__law_whole := ok__law_whole (P := P) (w := w) (base := base) T F__law_whole
  obtain ⟨f_fraction, fd_fraction, F_fraction, mg_fraction, b_fraction⟩ := T.d_fraction
  have G_fraction := ok_fraction (P := P) (w := w) (base := base) T F_fraction
  obtain ⟨f_ratio_of, fd_ratio_of, F_ratio_of, mg_ratio_of, b_ratio_of⟩ := T.d_ratio_of
  have G_ratio_of := ok_ratio_of (P := P) (w := w) (base := base) T F_ratio_of
  obtain ⟨f_ratio_text, fd_ratio_text, F_ratio_text, mg_ratio_text, b_ratio_text⟩ := T.d_ratio_text
  have G_ratio_text := ok_ratio_text (P := P) (w := w) (base := base) T F_ratio_text
  obtain ⟨f_size, fd_size, F_size, mg_size, b_size⟩ := T.d_size
  have G_size := ok_size (P := P) (w := w) (base := base) T F_size
  obtain ⟨f_turned, fd_turned, F_turned, mg_turned, b_turned⟩ := T.d_turned
  have G_turned := ok_turned (P := P) (w := w) (base := base) T F_turned
  have sc := sc__law_ratio_right
  refine F.ok sc (fun vs H Q E h => by obtain ⟨_, _, _, _, hl, _⟩ := h; exact hl) (fun cdv A outer s H vs Q E hr h => ?_)
  refine ⟨_, (pss_cons (ps_set (i := 2) sc.nd rfl (by first | exact Or.inl rfl | exact Or.inr rfl) (pe_call G_ratio_of (hr.mono (by decide)) (by rfl) mg_ratio_of F_ratio_of.kp b_ratio_of .nil pass0 (pa_cons (pv 0) (pa_cons (pv 1) pa_nil)))) (pss_cons (ps_set (i := 3) sc.nd rfl (by first | exact Or.inl rfl | exact Or.inr rfl) (pe_call G__law_common (hr.mono (by decide)) (by rfl) mg__law_common F__law_common.kp b__law_common .nil pass0 (pa_cons (pv 0) (pa_cons (pv 1) pa_nil)))) (pss_cons (ps_if (PW.pt (pw_or (pt_not (pt_val (pe_call G__law_whole (hr.mono (by decide)) (by rfl) mg__law_whole F__law_whole.kp b__law_whole .nil pass0 (pa_cons (pv 2) (pa_cons pe_int pa_nil))))) (pw_or (pt_cmpR (r := rNeD K) (op_neD (room64 hr)) (pv 2) (pe_call G__law_due (hr.mono (by decide)) (by rfl) mg__law_due F__law_due.kp b__law_due .nil pass0 (pa_cons (pv 0) (pa_cons (pv 1) pa_nil))) (nomark _)) (pw_or1 (pt_not (pt_val (pe_call G__law_whole (hr.mono (by decide)) (by rfl) mg__law_whole F__law_whole.kp b__law_whole .nil pass0 (pa_cons (pe_call G_fraction (hr.mono (by decide)) (by rfl) mg_fraction F_fraction.kp b_fraction .nil pass0 (pa_cons (pv 2) pa_nil)) (pa_cons pe_int pa_nil))))))))) (pss_cons (ps_ret pe_bl) pss_nil) pss_nil) (pss_cons (ps_set (i := 4) sc.nd rfl (by first | exact Or.inl rfl | exact Or.inr rfl) (pe_lst (pa_cons pe_int (pa_cons pe_int (pa_cons pe_int (pa_cons pe_int pa_nil)))))) (pss_cons (ps_set (i := 5) sc.nd rfl (by first | exact Or.inl rfl | exact Or.inr rfl) (pe_callB (r := rSumI K) (cr_sumU rfl) (by rfl) T.b_sum (by decide +kernel) (pa_cons (pe_lc (own := [("_law_many", 6), ("_law_each", 7)]) (g := gTup K 2 (gCons (gName 6) (gCons (gName 7) gNil))) rfl sc.nd (pi_zipM rfl T.b_zip (pa_cons (pe_call G__law_due (hr.mono (by decide)) (by rfl) mg__law_due F__law_due.kp b__law_due .nil pass0 (pa_cons (pv 0) (pa_cons (pv 1) pa_nil))) (pa_cons (pv 4) pa_nil))) (blkOk_by (N := ["_law_p", "_law_q", "_law_one", "_law_by", "_law_grains", "_law_due_here", "_law_many", "_law_each"]) (sc := defScope s__law_ratio_right) (by decide +kernel)) (fun _ _ _ _ _ => (pg_tup rfl (pgs_cons (pg_name (i := 6) sc.nd rfl (by first | exact Or.inl rfl | exact Or.inr rfl)) (pgs_cons (pg_name (i := 7) sc.nd rfl (by first | exact Or.inl rfl | exact Or.inr rfl)) pgs_nil)))) (fun _ _ _ _ _ => pts_nil) (fun _ _ _ _ _ => (pe_op op_mulU (pv 6) (pv 7)))) pa_nil))) (pss_cons (ps_if (PW.pt (pw_or (pt_cmpR (r := rNeD K) (op_neD (room64 hr)) (pe_call G_fraction (hr.mono (by decide)) (by rfl) mg_fraction F_fraction.kp b_fraction .nil pass0 (pa_cons (pv 2) pa_nil)) (pe_tup (pa_cons (pe_op op_fdivW (pv 0) (pv 3)) (pa_cons (pe_op op_fdivW (pv 1) (pv 3)) pa_nil))) (nomark _)) (pw_or (pt_cmpR op_ne (pe_call G_size (hr.mono (by decide)) (by rfl) mg_size F_size.kp b_size .nil pass0 (pa_cons (pv 2) pa_nil)) (pv 5) (nomark _)) (pw_or1 (pt_val (pe_callB (id := "isinstance") (r := rIsi K) call_isi (by rfl) T.b_isinstance PyProof.Rows.boot_isinstance (pa_cons (pe_call G_size (hr.mono (by decide)) (by rfl) mg_size F_size.kp b_size .nil pass0 (pa_cons (pv 2) pa_nil)) (pa_cons (pe_bltn (v := .ty "bool") (u := .type "bool") rfl T.b_bool PyProof.Rows.boot_bool rfl) pa_nil)))))))) (pss_cons (ps_ret pe_bl) pss_nil) pss_nil) (pss_cons (ps_if (pt_cmpR op_ne (pe_call G_ratio_text (hr.mono (by decide)) (by rfl) mg_ratio_text F_ratio_text.kp b_ratio_text .nil pass0 (pa_cons (pv 2) pa_nil)) (pe_op op_add_str (pe_op op_add_str (pe_callTy cr_strU (by rfl) T.b_str (by decide +kernel) (pa_cons (pe_op op_fdivW (pv 0) (pv 3)) pa_nil)) pe_str) (pe_callTy cr_strU (by rfl) T.b_str (by decide +kernel) (pa_cons (pe_op op_fdivW (pv 1) (pv 3)) pa_nil))) (nomark _)) (pss_cons (ps_ret pe_bl) pss_nil) pss_nil) (pss_cons (ps_ret (pe_and (pe_cmpR (r := rEqD K) (op_eqD (room64 hr)) (pe_call G_turned (hr.mono (by decide)) (by rfl) mg_turned F_turned.kp b_turned .nil pass0 (pa_cons (pv 2) pa_nil)) (pe_call G_ratio_of (hr.mono (by decide)) (by rfl) mg_ratio_of F_ratio_of.kp b_ratio_of .nil pass0 (pa_cons (pv 1) (pa_cons (pv 0) pa_nil))) (nomark _)) (pe_and (pe_call G__law_whole (hr.mono (by decide)) (by rfl) mg__law_whole F__law_whole.kp b__law_whole .nil pass0 (pa_cons (pe_call G_turned (hr.mono (by decide)) (by rfl) mg_turned F_turned.kp b_turned .nil pass0 (pa_cons (pv 2) pa_nil)) (pa_cons pe_int pa_nil))) (pe_one (pe_cmpR (r := rEqD K) (op_eqD (room64 hr)) (pe_call G_turned (hr.mono (by decide)) (by rfl) mg_turned F_turned.kp b_turned .nil pass0 (pa_cons (pe_call G_turned (hr.mono (by decide)) (by rfl) mg_turned F_turned.kp b_turned .nil pass0 (pa_cons (pv 2) pa_nil)) pa_nil)) (pv 2) (nomark _)))))) pss_nil)))))))), ?_⟩
  refine fin_pure h fun ds r hp => ?_
  obtain ⟨p0, p1, x, rfl, hm, rfl⟩ := hp
  refine ⟨_, inferInstance, mb__law_ratio_right p0 p1, x, ?_, fin_some hm, rfl⟩
  exact (show EvS K _ [.dat (enc (p0 : Int)), .dat (enc (p1 : Int)), .un, .un, .un, .un, .un, .un] noEnd noEnd (mb__law_ratio_right p0 p1) from (es_set (em_call (f := fun p_280 => m_ratio_of p_280.1 p_280.2) (ea_cons (em_var rfl) (ea_1 (em_var rfl))) (fun _ => rfl) fun b r h => ⟨b.1, b.2, r, rfl, h, rfl⟩) fun one_281 => (es_set (em_call (f := fun p_284 => m__law_common p_284.1 p_284.2) (ea_cons (em_var rfl) (ea_1 (em_var rfl))) (fun _ => rfl) fun b r h => ⟨b.1, b.2, r, rfl, h, rfl⟩) fun by_285 => (es_seq (mid := (fun (t_304 : Unit) => [.dat (enc (p0 : Int)), .dat (enc (p1 : Int)), .dat (enc (one_281 : (Tl Int))), .dat (enc (by_285 : Int)), .un, .un, .un, .un])) (es_if (eb_or (eb_not (eb_B (em_call (f := fun p_288 => m__law_whole p_288.1 p_288.2) (ea_cons (em_var rfl) (ea_1 em_int)) (fun _ => rfl) fun b r h => ⟨b.1, b.2, r, rfl, h, rfl⟩))) (eb_or (eb_T (em_op (em_var rfl) (em_call (f := fun p_292 => m__law_due p_292.1 p_292.2) (ea_cons (em_var rfl) (ea_1 (em_var rfl))) (fun _ => rfl) fun b r h => ⟨b.1, b.2, r, rfl, h, rfl⟩) fun _ _ => om_neD)) (eb_not (eb_B (em_call (f := fun p_299 => m__law_whole p_299.1 p_299.2) (ea_cons (em_as (fun p => (⟨[p.1, p.2]⟩ : (Tl Int))) (fun _ => rfl) (em_call (f := fun p_295 => m_fraction p_295) (ea_1 (em_var rfl)) (fun _ => rfl) fun b r h => ⟨b, r, rfl, h, rfl⟩)) (ea_1 em_int)) (fun _ => rfl) fun b r h => ⟨b.1, b.2, r, rfl, h, rfl⟩))))) (es_retS em_bl) (es_next (.same (.same (.same (.same (.same (.same (.same (.same .nil)))))))))) fun t_304 => (es_set (em_ofF (ef_lst (el_cons em_int (el_cons em_int (el_cons em_int (el_cons em_int el_nil)))))) fun grains_315 => (es_set (em_sum (em_ofF (ef_lc (vs := [6, 7]) (is := [6, 7]) (sd1 := fun (a_322 : (Int × Int)) => [.dat (enc (p0 : Int)), .dat (enc (p1 : Int)), .dat (enc (one_281 : (Tl Int))), .dat (enc (by_285 : Int)), .dat (enc (grains_315 : (List Int))), .un, .dat (enc (a_322.1 : Int)), .dat (enc (a_322.2 : Int))]) (ei_zipM (ea_cons (em_call (f := fun p_318 => m__law_due p_318.1 p_318.2) (ea_cons (em_var rfl) (ea_1 (em_var rfl))) (fun _ => rfl) fun b r h => ⟨b.1, b.2, r, rfl, h, rfl⟩) (ea_1 (em_var rfl)))) (fun _ => eg_pair) (by decide) (fun a_322 => eb_yes) (fun a_322 => (em_op (em_var rfl) (em_var rfl) fun _ _ => om_mul)) (fun a_322 => (.same (.same (.same (.same (.same (.same (.un (.un .nil))))))))) (noLst_by rfl)))) fun duehere_328 => (es_seq (mid := (fun (t_346 : Unit) => [.dat (enc (p0 : Int)), .dat (enc (p1 : Int)), .dat (enc (one_281 : (Tl Int))), .dat (enc (by_285 : Int)), .dat (enc (grains_315 : (List Int))), .dat (enc (duehere_328 : Int)), .un, .un])) (es_if (eb_or (eb_T (em_op (em_call (f := fun p_329 => m_fraction p_329) (ea_1 (em_var rfl)) (fun _ => rfl) fun b r h => ⟨b, r, rfl, h, rfl⟩) (em_tup2 (em_op (em_var rfl) (em_var rfl) fun _ _ => om_fdiv) (em_op (em_var rfl) (em_var rfl) fun _ _ => om_fdiv)) fun _ _ => om_neD)) (eb_or (eb_T (em_op (em_call (f := fun p_338 => m_size p_338) (ea_1 (em_var rfl)) (fun _ => rfl) fun b r h => ⟨b, r, rfl, h, rfl⟩) (em_var rfl) fun _ _ => om_neI)) (eb_B (em_isi (T := "bool") (f := fun _ => false) (em_call (f := fun p_341 => m_size p_341) (ea_1 (em_var rfl)) (fun _ => rfl) fun b r h => ⟨b, r, rfl, h, rfl⟩) (fun _ => (by decide +kernel : kitB "int" "bool" = some false)))))) (es_retS em_bl) (es_next (.same (.same (.same (.same (.same (.same (.same (.same .nil)))))))))) fun t_346 => (es_seq (mid := (fun (t_362 : Unit) => [.dat (enc (p0 : Int)), .dat (enc (p1 : Int)), .dat (enc (one_281 : (Tl Int))), .dat (enc (by_285 : Int)), .dat (enc (grains_315 : (List Int))), .dat (enc (duehere_328 : Int)), .un, .un])) (es_if (eb_T (em_op (em_call (f := fun p_348 => m_ratio_text p_348) (ea_1 (em_var rfl)) (fun _ => rfl) fun b r h => ⟨b, r, rfl, h, rfl⟩) (em_op (em_op (em_str1 (em_op (em_var rfl) (em_var rfl) fun _ _ => om_fdiv)) em_str fun _ _ => om_catS) (em_str1 (em_op (em_var rfl) (em_var rfl) fun _ _ => om_fdiv)) fun _ _ => om_catS) fun _ _ => om_neS)) (es_retS em_bl) (es_next (.same (.same (.same (.same (.same (.same (.same (.same .nil)))))))))) fun t_362 => (es_retS (em_and (em_op (em_call (f := fun p_364 => m_turned p_364) (ea_1 (em_var rfl)) (fun _ => rfl) fun b r h => ⟨b, r, rfl, h, rfl⟩) (em_call (f := fun p_367 => m_ratio_of p_367.1 p_367.2) (ea_cons (em_var rfl) (ea_1 (em_var rfl))) (fun _ => rfl) fun b r h => ⟨b.1, b.2, r, rfl, h, rfl⟩) fun _ _ => om_eqD) (em_and (em_call (f := fun p_373 => m__law_whole p_373.1 p_373.2) (ea_cons (em_call (f := fun p_370 => m_turned p_370) (ea_1 (em_var rfl)) (fun _ => rfl) fun b r h => ⟨b, r, rfl, h, rfl⟩) (ea_1 em_int)) (fun _ => rfl) fun b r h => ⟨b.1, b.2, r, rfl, h, rfl⟩) (em_op (em_call (f := fun p_375 => m_turned p_375) (ea_1 (em_call (f := fun p_374 => m_turned p_374) (ea_1 (em_var rfl)) (fun _ => rfl) fun b r h => ⟨b, r, rfl, h, rfl⟩)) (fun _ => rfl) fun b r h => ⟨b, r, rfl, h, rfl⟩) (em_var rfl) fun _ _ => om_eqD))))))))))))
theorem ok__law_step (T : Tx K mg) {f : Addr} {fd : FuncData} (F : Fun K "_law_step" "_law_step" s__law_step f fd) : FnOk P w K mg base CX0 5 f fd ["_law_cells"] (spP K 1 pr__law_step) := by
  obtain ⟨f__law_begun, fd__law_begun, F__law_begun, mg__law_begun, b__law_begun⟩ := T.d__law_begun
  have G__law_begun := ok__law_begun (P := P) (w := w) (base := base) T F__law_begun
  obtain ⟨f__law_next, fd__law_next, F__law_next, mg__law_next, b__law_next⟩ := T.d__law_next
  have G__law_next := ok__law_next (P := P) (w := w) (base := base) T F__law_next
  obtain ⟨f__law_over, fd__law_over, F__law_over, mg__law_over, b__law_over⟩ := T.d__law_over
  have G__law_over := ok__law_over (P := P) (w := w) (base := base) T F__law_over
  obtain ⟨f__law_part, fd__law_part, F__law_part, mg__law_part, b__law_part⟩ := T.d__law_part
  have G__law_part := ok__law_part (P := P) (w := w) (base := base) T F__law_part
  obtain ⟨f__law_ratio_right, fd__law_ratio_right, F__law_ratio_right, mg__law_ratio_right, b__law_ratio_right⟩ := T.d__law_ratio_right
  have G__law_ratio_right := ok__law_ratio_right (P := P) (w := w) (base := base) T F__law_ratio_right
  obtain ⟨f__law_whole, fd__law_whole, F__law_whole, mg__law_whole, b__law_whole⟩ := T.d__law_whole
  have G__law_whole := ok__law_whole (P := P) (w := w) (base := base) T F__law_whole
  obtain ⟨f_power, fd_power, F_power, mg_power, b_power⟩ := T.d_power
  have G_power := ok_power (P := P) (w := w) (base := base) T F_power
  obtain ⟨f_ratio_of, fd_ratio_of, F_ratio_of, mg_ratio_of, b_ratio_of⟩ := T.d_ratio_of
  have G_ratio_of := ok_ratio_of (P := P) (w := w) (base := base) T F_ratio_of
  obtain ⟨f_size, fd_size, F_size, mg_size, b_size⟩ := T.d_size
  have G_size := ok_size (P := P) (w := w) (base := base) T F_size
  obtain ⟨f_together, fd_together, F_together, mg_together, b_together⟩ := T.d_together
  have G_together := ok_together (P := P) (w := w) (base := base) T F_together
  have sc := sc__law_step
  refine F.ok sc (fun vs H Q E h => by obtain ⟨_, _, _, _, hl, _⟩ := h; exact hl) (fun cdv A outer s H vs Q E hr h => ?_)
  refine ⟨_, (pss_cons (ps_set (i := 1) sc.nd rfl (by first | exact Or.inl rfl | exact Or.inr rfl) (pe_call G__law_begun (hr.mono (by decide)) (by rfl) mg__law_begun F__law_begun.kp b__law_begun .nil pass0 (pa_cons (pv 0) pa_nil))) (pss_cons (ps_par rfl sc.nd (i := 5) (j := 6) rfl rfl (by decide) rfl rfl (pa_cons (pe_call G__law_part (hr.mono (by decide)) (by rfl) mg__law_part F__law_part.kp b__law_part .nil pass0 (pa_cons (pv 1) pa_nil)) (pa_cons (pe_call G__law_part (hr.mono (by decide)) (by rfl) mg__law_part F__law_part.kp b__law_part .nil pass0 (pa_cons (pv 1) pa_nil)) pa_nil)) rfl) (pss_cons (ps_par rfl sc.nd (i := 7) (j := 8) rfl rfl (by decide) rfl rfl (pa_cons (pe_call G__law_part (hr.mono (by decide)) (by rfl) mg__law_part F__law_part.kp b__law_part .nil pass0 (pa_cons (pv 1) pa_nil)) (pa_cons (pe_call G__law_part (hr.mono (by decide)) (by rfl) mg__law_part F__law_part.kp b__law_part .nil pass0 (pa_cons (pv 1) pa_nil)) pa_nil)) rfl) (pss_cons (ps_if (pt_cmpR op_eq (pe_call G__law_next (hr.mono (by decide)) (by rfl) mg__law_next F__law_next.kp b__law_next .nil pass0 (pa_cons (pv 1) (pa_cons pe_int pa_nil))) pe_int (nomark _)) (pss_cons (ps_par rfl sc.nd (i := 5) (j := 8) rfl rfl (by decide) rfl rfl (pa_cons (pe_op op_mulU (pv 5) (pe_call G__law_over (hr.mono (by decide)) (by rfl) mg__law_over F__law_over.kp b__law_over .nil pass0 (pa_cons (pv 7) (pa_cons (pe_call G__law_next (hr.mono (by decide)) (by rfl) mg__law_next F__law_next.kp b__law_next .nil pass0 (pa_cons (pv 1) (pa_cons pe_int pa_nil))) pa_nil)))) (pa_cons (pe_op op_mulU (pv 8) (pe_op op_pow (pv 6) pe_int)) pa_nil)) rfl) pss_nil) pss_nil) (pss_cons (ps_for PassesOwn.never rfl (pi_tup (pe_tup (pa_cons (pe_tup (pa_cons (pv 5) (pa_cons (pv 6) pa_nil))) (pa_cons (pe_tup (pa_cons (pv 7) (pa_cons (pv 8) pa_nil))) (pa_cons (pe_tup (pa_cons (pe_op op_mulU (pv 5) (pv 7)) (pa_cons (pe_op op_mulU (pv 6) (pv 8)) pa_nil))) (pa_cons (pe_tup (pa_cons (pe_op op_mulU (pv 5) (pv 7)) (pa_cons (pe_op op_mulU (pv 6) (pv 7)) pa_nil))) (pa_cons (pe_tup (pa_cons (pv 5) (pa_cons (pv 5) pa_nil))) pa_nil))))))) (pg_tup rfl (pgs_cons (pg_name (i := 9) sc.nd rfl (by first | exact Or.inl rfl | exact Or.inr rfl)) (pgs_cons (pg_name (i := 10) sc.nd rfl (by first | exact Or.inl rfl | exact Or.inr rfl)) pgs_nil))) (pss_cons (ps_if (pt_not (pt_val (pe_call G__law_ratio_right (hr.mono (by decide)) (by rfl) mg__law_ratio_right F__law_ratio_right.kp b__law_ratio_right .nil pass0 (pa_cons (pv 9) (pa_cons (pv 10) pa_nil))))) (pss_cons (ps_ret pe_bl) pss_nil) pss_nil) pss_nil)) (pss_cons (ps_set (i := 2) sc.nd rfl (by first | exact Or.inl rfl | exact Or.inr rfl) (pe_call G_together (hr.mono (by decide)) (by rfl) mg_together F_together.kp b_together .nil pass0 (pa_cons (pe_call G_ratio_of (hr.mono (by decide)) (by rfl) mg_ratio_of F_ratio_of.kp b_ratio_of .nil pass0 (pa_cons (pv 5) (pa_cons (pv 6) pa_nil))) (pa_cons (pe_call G_ratio_of (hr.mono (by decide)) (by rfl) mg_ratio_of F_ratio_of.kp b_ratio_of .nil pass0 (pa_cons (pv 7) (pa_cons (pv 8) pa_nil))) pa_nil)))) (pss_cons (ps_if (PW.pt (pw_or (pt_not (pt_val (pe_call G__law_whole (hr.mono (by decide)) (by rfl) mg__law_whole F__law_whole.kp b__law_whole .nil pass0 (pa_cons (pv 2) (pa_cons pe_int pa_nil))))) (pw_or (pt_cmpR (r := rNeD K) (op_neD (room64 hr)) (pv 2) (pe_call G_ratio_of (hr.mono (by decide)) (by rfl) mg_ratio_of F_ratio_of.kp b_ratio_of .nil pass0 (pa_cons (pe_op op_mulU (pv 5) (pv 7)) (pa_cons (pe_op op_mulU (pv 6) (pv 8)) pa_nil))) (nomark _)) (pw_or1 (pt_cmpR (r := rNeD K) (op_neD (room64 hr)) (pv 2) (pe_call G_together (hr.mono (by decide)) (by rfl) mg_together F_together.kp b_together .nil pass0 (pa_cons (pe_call G_ratio_of (hr.mono (by decide)) (by rfl) mg_ratio_of F_ratio_of.kp b_ratio_of .nil pass0 (pa_cons (pv 7) (pa_cons (pv 8) pa_nil))) (pa_cons (pe_call G_ratio_of (hr.mono (by decide)) (by rfl) mg_ratio_of F_ratio_of.kp b_ratio_of .nil pass0 (pa_cons (pv 5) (pa_cons (pv 6) pa_nil))) pa_nil))) (nomark _)))))) (pss_cons (ps_ret pe_bl) pss_nil) pss_nil) (pss_cons (ps_set (i := 3) sc.nd rfl (by first | exact Or.inl rfl | exact Or.inr rfl) (pe_call G__law_next (hr.mono (by decide)) (by rfl) mg__law_next F__law_next.kp b__law_next .nil pass0 (pa_cons (pv 1) (pa_cons pe_int pa_nil)))) (pss_cons (ps_set (i := 4) sc.nd rfl (by first | exact Or.inl rfl | exact Or.inr rfl) (pe_call G_power (hr.mono (by decide)) (by rfl) mg_power F_power.kp b_power .nil pass0 (pa_cons (pe_call G_ratio_of (hr.mono (by decide)) (by rfl) mg_ratio_of F_ratio_of.kp b_ratio_of .nil pass0 (pa_cons (pv 5) (pa_cons (pv 6) pa_nil))) (pa_cons (pv 3) pa_nil)))) (pss_cons (ps_if (PW.pt (pw_or (pt_not (pt_val (pe_call G__law_whole (hr.mono (by decide)) (by rfl) mg__law_whole F__law_whole.kp b__law_whole .nil pass0 (pa_cons (pv 4) (pa_cons pe_int pa_nil))))) (pw_or1 (pt_cmpR (r := rNeD K) (op_neD (room64 hr)) (pv 4) (pe_call G_ratio_of (hr.mono (by decide)) (by rfl) mg_ratio_of F_ratio_of.kp b_ratio_of .nil pass0 (pa_cons (pe_call G__law_over (hr.mono (by decide)) (by rfl) mg__law_over F__law_over.kp b__law_over .nil pass0 (pa_cons (pv 5) (pa_cons (pv 3) pa_nil))) (pa_cons (pe_call G__law_over (hr.mono (by decide)) (by rfl) mg__law_over F__law_over.kp b__law_over .nil pass0 (pa_cons (pv 6) (pa_cons (pv 3) pa_nil))) pa_nil))) (nomark _))))) (pss_cons (ps_ret pe_bl) pss_nil) pss_nil) (pss_cons (ps_ret (pe_and (pe_cmpR op_eq (pe_call G_size (hr.mono (by decide)) (by rfl) mg_size F_size.kp b_size .nil pass0 (pa_cons (pv 2) pa_nil)) (pe_op op_add (pe_call G_size (hr.mono (by decide)) (by rfl) mg_size F_size.kp b_size .nil pass0 (pa_cons (pe_call G_ratio_of (hr.mono (by decide)) (by rfl) mg_ratio_of F_ratio_of.kp b_ratio_of .nil pass0 (pa_cons (pv 5) (pa_cons (pv 6) pa_nil))) pa_nil)) (pe_call G_size (hr.mono (by decide)) (by rfl) mg_size F_size.kp b_size .nil pass0 (pa_cons (pe_call G_ratio_of (hr.mono (by decide)) (by rfl) mg_ratio_of F_ratio_of.kp b_ratio_of .nil pass0 (pa_cons (pv 7) (pa_cons (pv 8) pa_nil))) pa_nil))) (nomark _)) (pe_one (pe_cmpR (r := rEqD K) (op_eqD (room64 hr)) (pe_call G_ratio_of (hr.mono (by decide)) (by rfl) mg_ratio_of F_ratio_of.kp b_ratio_of .nil pass0 (pa_cons (pe_op op_mulU (pv 5) (pv 7)) (pa_cons (pe_op op_mulU (pv 6) (pv 7)) pa_nil))) (pe_call G_ratio_of (hr.mono (by decide)) (by rfl) mg_ratio_of F_ratio_of.kp b_ratio_of .nil pass0 (pa_cons (pv 5) (pa_cons (pv 6) pa_nil))) (nomark _))))) pss_nil))))))))))), ?_⟩
  refine fin_pure0 h fun ds r hp => ?_
  obtain ⟨p0, x, rfl, hm, rfl⟩ := hp
  obtain ⟨k2, hm⟩ := fin0_some hm
  refine ⟨_, inferInstance, mb__law_step p0, x, k2, ?_, hm, rfl⟩
  exact (show EvS0 K _ [.dat (enc (p0 : (List Int))), .un, .un, .un, .un, .un, .un, .un, .un, .un, .un] (mb__law_step p0) from (es_begun (a := p0) (bg := bgF) rfl (by exact (by decide : 1 < 11)) bg_ok fun nm_381 => (es_par (ea_cons (em_draw (f := fun (_ : Unit) => m__law_part (Cells.cells p0) (some nm_381)) rfl ea_nil (fun _ => rfl) fun b k r k2 h => ⟨r, rfl, h, rfl⟩) (ea_1 (em_draw (f := fun (_ : Unit) => m__law_part (Cells.cells p0) (some nm_381)) rfl ea_nil (fun _ => rfl) fun b k r k2 h => ⟨r, rfl, h, rfl⟩))) fun p_386 => (es_par (ea_cons (em_draw (f := fun (_ : Unit) => m__law_part (Cells.cells p0) (some nm_381)) rfl ea_nil (fun _ => rfl) fun b k r k2 h => ⟨r, rfl, h, rfl⟩) (ea_1 (em_draw (f := fun (_ : Unit) => m__law_part (Cells.cells p0) (some nm_381)) rfl ea_nil (fun _ => rfl) fun b k r k2 h => ⟨r, rfl, h, rfl⟩))) fun p_391 => (es_seq (mid := (fun (t_396 : Int × Int) => [.dat (enc (p0 : (List Int))), .sr (Cells.cells p0) (some nm_381), .un, .un, .un, .dat (enc (t_396.1 : Int)), .dat (enc (p_386.2 : Int)), .dat (enc (p_391.1 : Int)), .dat (enc (t_396.2 : Int)), .un, .un])) (es_if (eb_T (em_op (em_draw (f := fun p_392 => m__law_next (Cells.cells p0) (some nm_381) p_392) rfl (ea_1 em_int) (fun _ => rfl) fun b k r k2 h => ⟨b, r, rfl, h, rfl⟩) em_int fun _ _ => om_eqI)) (es_par (ea_cons (em_op (em_var rfl) (em_call (f := fun p_400 => m__law_over p_400.1 p_400.2) (ea_cons (em_var rfl) (ea_1 (em_draw (f := fun p_397 => m__law_next (Cells.cells p0) (some nm_381) p_397) rfl (ea_1 em_int) (fun _ => rfl) fun b k r k2 h => ⟨b, r, rfl, h, rfl⟩))) (fun _ => rfl) fun b r h => ⟨b.1, b.2, r, rfl, h, rfl⟩) fun _ _ => om_mul) (ea_1 (em_op (em_var rfl) (em_op (em_var rfl) em_int fun _ _ => om_pow) fun _ _ => om_mul))) fun p_409 => (es_next (.same (.same (.same (.same (.same (.same (.same (.same (.same (.same (.same .nil))))))))))))) (es_next (.same (.same (.same (.same (.same (.same (.same (.same (.same (.same (.same .nil))))))))))))) fun t_396 => (es_seq (mid := (fun (t_440 : Unit) => [.dat (enc (p0 : (List Int))), .sr (Cells.cells p0) (some nm_381), .un, .un, .un, .dat (enc (t_396.1 : Int)), .dat (enc (p_386.2 : Int)), .dat (enc (p_391.1 : Int)), .dat (enc (t_396.2 : Int)), .un, .un])) (es_for (inv := (fun (t_440 : Unit) => [.dat (enc (p0 : (List Int))), .sr (Cells.cells p0) (some nm_381), .un, .un, .un, .dat (enc (t_396.1 : Int)), .dat (enc (p_386.2 : Int)), .dat (enc (p_391.1 : Int)), .dat (enc (t_396.2 : Int)), .un, .un])) (t0 := ()) (sd1 := fun (t_440 : Unit) (a_441 : (Int × Int)) => [.dat (enc (p0 : (List Int))), .sr (Cells.cells p0) (some nm_381), .un, .un, .un, .dat (enc (t_396.1 : Int)), .dat (enc (p_386.2 : Int)), .dat (enc (p_391.1 : Int)), .dat (enc (t_396.2 : Int)), .dat (enc (a_441.1 : Int)), .dat (enc (a_441.2 : Int))]) (body := (fun (t_440 : Unit) (a_441 : (Int × Int)) => ((andThen (Mn.bnd (Mn.bnd (Mn.bnd (Mn.bnd (Mn.pur a_441.1) fun x_442 => Mn.bnd (Mn.pur a_441.2) fun y_443 => Mn.pur (x_442, y_443)) fun p_444 => lift (m__law_ratio_right p_444.1 p_444.2)) fun b_445 => Mn.pur (!b_445)) fun b_446 => cnd b_446 (Mn.bnd (Mn.pur false) fun r_448 => Mn.pur (.rt r_448)) (Mn.pur (.nx ())) : Sm (Fl (Unit) (Unit) Bool)) fun t_447 => (Mn.pur (.nx ()))) : Sm (Fl (Unit) (Unit) Bool)))) (ei_tup (em_tupTl (el_cons (em_tup2 (em_var rfl) (em_var rfl)) (el_cons (em_tup2 (em_var rfl) (em_var rfl)) (el_cons (em_tup2 (em_op (em_var rfl) (em_var rfl) fun _ _ => om_mul) (em_op (em_var rfl) (em_var rfl) fun _ _ => om_mul)) (el_cons (em_tup2 (em_op (em_var rfl) (em_var rfl) fun _ _ => om_mul) (em_op (em_var rfl) (em_var rfl) fun _ _ => om_mul)) (el_cons (em_tup2 (em_var rfl) (em_var rfl)) el_nil))))))) (.same (.same (.same (.same (.same (.same (.same (.same (.same (.same (.same .nil))))))))))) (fun _ _ => eg_pair) fun t_440 a_441 => (es_seq (mid := (fun (t_447 : Unit) => [.dat (enc (p0 : (List Int))), .sr (Cells.cells p0) (some nm_381), .un, .un, .un, .dat (enc (t_396.1 : Int)), .dat (enc (p_386.2 : Int)), .dat (enc (p_391.1 : Int)), .dat (enc (t_396.2 : Int)), .dat (enc (a_441.1 : Int)), .dat (enc (a_441.2 : Int))])) (es_if (eb_not (eb_B (em_call (f := fun p_444 => m__law_ratio_right p_444.1 p_444.2) (ea_cons (em_var rfl) (ea_1 (em_var rfl))) (fun _ => rfl) fun b r h => ⟨b.1, b.2, r, rfl, h, rfl⟩))) (es_retS em_bl) (es_next (.same (.same (.same (.same (.same (.same (.same (.same (.same (.same (.same .nil))))))))))))) fun t_447 => (es_next (.same (.same (.same (.same (.same (.same (.same (.same (.same (.un (.un .nil)))))))))))))) fun t_440 => (es_set (em_call (f := fun p_457 => m_together p_457.1 p_457.2) (ea_cons (em_call (f := fun p_451 => m_ratio_of p_451.1 p_451.2) (ea_cons (em_var rfl) (ea_1 (em_var rfl))) (fun _ => rfl) fun b r h => ⟨b.1, b.2, r, rfl, h, rfl⟩) (ea_1 (em_call (f := fun p_454 => m_ratio_of p_454.1 p_454.2) (ea_cons (em_var rfl) (ea_1 (em_var rfl))) (fun _ => rfl) fun b r h => ⟨b.1, b.2, r, rfl, h, rfl⟩))) (fun _ => rfl) fun b r h => ⟨b.1, b.2, r, rfl, h, rfl⟩) fun both_458 => (es_seq (mid := (fun (t_486 : Unit) => [.dat (enc (p0 : (List Int))), .sr (Cells.cells p0) (some nm_381), .dat (enc (both_458 : (Tl Int))), .un, .un, .dat (enc (t_396.1 : Int)), .dat (enc (p_386.2 : Int)), .dat (enc (p_391.1 : Int)), .dat (enc (t_396.2 : Int)), .un, .un])) (es_if (eb_or (eb_not (eb_B (em_call (f := fun p_461 => m__law_whole p_461.1 p_461.2) (ea_cons (em_var rfl) (ea_1 em_int)) (fun _ => rfl) fun b r h => ⟨b.1, b.2, r, rfl, h, rfl⟩))) (eb_or (eb_T (em_op (em_var rfl) (em_call (f := fun p_469 => m_ratio_of p_469.1 p_469.2) (ea_cons (em_op (em_var rfl) (em_var rfl) fun _ _ => om_mul) (ea_1 (em_op (em_var rfl) (em_var rfl) fun _ _ => om_mul))) (fun _ => rfl) fun b r h => ⟨b.1, b.2, r, rfl, h, rfl⟩) fun _ _ => om_neD)) (eb_T (em_op (em_var rfl) (em_call (f := fun p_480 => m_together p_480.1 p_480.2) (ea_cons (em_call (f := fun p_474 => m_ratio_of p_474.1 p_474.2) (ea_cons (em_var rfl) (ea_1 (em_var rfl))) (fun _ => rfl) fun b r h => ⟨b.1, b.2, r, rfl, h, rfl⟩) (ea_1 (em_call (f := fun p_477 => m_ratio_of p_477.1 p_477.2) (ea_cons (em_var rfl) (ea_1 (em_var rfl))) (fun _ => rfl) fun b r h => ⟨b.1, b.2, r, rfl, h, rfl⟩))) (fun _ => rfl) fun b r h => ⟨b.1, b.2, r, rfl, h, rfl⟩) fun _ _ => om_neD)))) (es_retS em_bl) (es_next (.same (.same (.same (.same (.same (.same (.same (.same (.same (.same (.same .nil))))))))))))) fun t_486 => (es_set (em_draw (f := fun p_488 => m__law_next (Cells.cells p0) (some nm_381) p_488) rfl (ea_1 em_int) (fun _ => rfl) fun b k r k2 h => ⟨b, r, rfl, h, rfl⟩) fun many_489 => (es_set (em_call (f := fun p_495 => m_power p_495.1 p_495.2) (ea_cons (em_call (f := fun p_492 => m_ratio_of p_492.1 p_492.2) (ea_cons (em_var rfl) (ea_1 (em_var rfl))) (fun _ => rfl) fun b r h => ⟨b.1, b.2, r, rfl, h, rfl⟩) (ea_1 (em_var rfl))) (fun _ => rfl) fun b r h => ⟨b.1, b.2, r, rfl, h, rfl⟩) fun found_496 => (es_seq (mid := (fun (t_514 : Unit) => [.dat (enc (p0 : (List Int))), .sr (Cells.cells p0) (some nm_381), .dat (enc (both_458 : (Tl Int))), .dat (enc (many_489 : Int)), .dat (enc (found_496 : (Tl Int))), .dat (enc (t_396.1 : Int)), .dat (enc (p_386.2 : Int)), .dat (enc (p_391.1 : Int)), .dat (enc (t_396.2 : Int)), .un, .un])) (es_if (eb_or (eb_not (eb_B (em_call (f := fun p_499 => m__law_whole p_499.1 p_499.2) (ea_cons (em_var rfl) (ea_1 em_int)) (fun _ => rfl) fun b r h => ⟨b.1, b.2, r, rfl, h, rfl⟩))) (eb_T (em_op (em_var rfl) (em_call (f := fun p_509 => m_ratio_of p_509.1 p_509.2) (ea_cons (em_call (f := fun p_503 => m__law_over p_503.1 p_503.2) (ea_cons (em_var rfl) (ea_1 (em_var rfl))) (fun _ => rfl) fun b r h => ⟨b.1, b.2, r, rfl, h, rfl⟩) (ea_1 (em_call (f := fun p_506 => m__law_over p_506.1 p_506.2) (ea_cons (em_var rfl) (ea_1 (em_var rfl))) (fun _ => rfl) fun b r h => ⟨b.1, b.2, r, rfl, h, rfl⟩))) (fun _ => rfl) fun b r h => ⟨b.1, b.2, r, rfl, h, rfl⟩) fun _ _ => om_neD))) (es_retS em_bl) (es_next (.same (.same (.same (.same (.same (.same (.same (.same (.same (.same (.same .nil))))))))))))) fun t_514 => (es_retS (em_and (em_op (em_call (f := fun p_516 => m_size p_516) (ea_1 (em_var rfl)) (fun _ => rfl) fun b r h => ⟨b, r, rfl, h, rfl⟩) (em_op (em_call (f := fun p_520 => m_size p_520) (ea_1 (em_call (f := fun p_519 => m_ratio_of p_519.1 p_519.2) (ea_cons (em_var rfl) (ea_1 (em_var rfl))) (fun _ => rfl) fun b r h => ⟨b.1, b.2, r, rfl, h, rfl⟩)) (fun _ => rfl) fun b r h => ⟨b, r, rfl, h, rfl⟩) (em_call (f := fun p_524 => m_size p_524) (ea_1 (em_call (f := fun p_523 => m_ratio_of p_523.1 p_523.2) (ea_cons (em_var rfl) (ea_1 (em_var rfl))) (fun _ => rfl) fun b r h => ⟨b.1, b.2, r, rfl, h, rfl⟩)) (fun _ => rfl) fun b r h => ⟨b, r, rfl, h, rfl⟩) fun _ _ => om_I0) fun _ _ => om_eqI) (em_op (em_call (f := fun p_535 => m_ratio_of p_535.1 p_535.2) (ea_cons (em_op (em_var rfl) (em_var rfl) fun _ _ => om_mul) (ea_1 (em_op (em_var rfl) (em_var rfl) fun _ _ => om_mul))) (fun _ => rfl) fun b r h => ⟨b.1, b.2, r, rfl, h, rfl⟩) (em_call (f := fun p_538 => m_ratio_of p_538.1 p_538.2) (ea_cons (em_var rfl) (ea_1 (em_var rfl))) (fun _ => rfl) fun b r h => ⟨b.1, b.2, r, rfl, h, rfl⟩) fun _ _ => om_eqD))))))))))))))
theorem ok_law (T : Tx K mg) {f : Addr} {fd : FuncData} (F : Fun K "law" "law" s_law f fd) : FnOk P w K mg base CX0 6 f fd ["_law_script"] (spP K 1 pr_law) := by
  obtain ⟨f__law_step, fd__law_step, F__law_step, mg__law_step, b__law_step⟩ := T.d__law_step
  have G__law_step := ok__law_step (P := P) (w := w) (base := base) T F__law_step
  have sc := sc_law
  refine F.ok sc (fun vs H Q E h => by obtain ⟨_, _, _, _, hl, _⟩ := h; exact hl) (fun cdv A outer s H vs Q E hr h => ?_)
  refine ⟨_, (pss_cons (ps_for PassesOwn.never rfl (pi_range3 rfl T.b_range (pa_cons pe_int (pa_cons (pe_callB (cr_maxU rfl) (by rfl) T.b_max (by decide +kernel) (pa_cons pe_int (pa_cons (pe_callB (r := rLen K) cr_lenU (by rfl) T.b_len (by decide +kernel) (pa_cons (pv 0) pa_nil)) pa_nil))) (pa_cons pe_int pa_nil)))) (pg_name (i := 1) sc.nd rfl (by first | exact Or.inl rfl | exact Or.inr rfl)) (pss_cons (ps_if (pt_not (pt_val (pe_call G__law_step (hr.mono (by decide)) (by rfl) mg__law_step F__law_step.kp b__law_step .nil pass0 (pa_cons (pe_slice (r := rSlL K) sl_list (pv 0) (po_some (pv 1)) (po_some (pe_op op_add (pv 1) pe_int))) pa_nil)))) (pss_cons (ps_ret pe_bl) pss_nil) pss_nil) pss_nil)) (pss_cons (ps_ret pe_bl) pss_nil)), ?_⟩
  refine fin_pure h fun ds r hp => ?_
  obtain ⟨p0, x, rfl, hm, rfl⟩ := hp
  refine ⟨_, inferInstance, mb_law p0, x, ?_, fin_some hm, rfl⟩
  exact (show EvS K _ [.dat (enc (p0 : Sc)), .un] noEnd noEnd (mb_law p0) from (es_seq (mid := (fun (t_554 : Unit) => [.dat (enc (p0 : Sc)), .un])) (es_for (inv := (fun (t_554 : Unit) => [.dat (enc (p0 : Sc)), .un])) (t0 := ()) (sd1 := fun (t_554 : Unit) (a_555 : Int) => [.dat (enc (p0 : Sc)), .dat (enc (a_555 : Int))]) (body := (fun (t_554 : Unit) (a_555 : Int) => ((andThen (Mn.bnd (Mn.bnd (Mn.bnd (Mn.bnd (Mn.pur p0) fun x_560 => Mn.bnd (Mn.bnd (Mn.pur a_555) fun i_556 => Mn.pur (some i_556)) fun l_561 => Mn.bnd (Mn.bnd (Mn.bnd (Mn.pur a_555) fun x_557 => Mn.bnd (Mn.pur (3 : Int)) fun y_558 => Mn.pur (x_557 + y_558)) fun i_559 => Mn.pur (some i_559)) fun h_562 => Mn.pur (cutL (Sc.ns x_560) l_561 h_562)) fun p_563 => lift (m__law_step p_563)) fun b_564 => Mn.pur (!b_564)) fun b_565 => cnd b_565 (Mn.bnd (Mn.pur false) fun r_567 => Mn.pur (.rt r_567)) (Mn.pur (.nx ())) : Option (Fl (Unit) (Unit) Bool)) fun t_566 => (Mn.pur (.nx ()))) : Option (Fl (Unit) (Unit) Bool)))) (ei_rng3 (ea_cons em_int (ea_cons (em_max (ea_2 em_int (em_lenSc (em_var rfl)))) (ea_1 em_int)))) (.same (.same .nil)) (fun _ _ => eg_name) fun t_554 a_555 => (es_seq (mid := (fun (t_566 : Unit) => [.dat (enc (p0 : Sc)), .dat (enc (a_555 : Int))])) (es_if (eb_not (eb_B (em_call (f := fun p_563 => m__law_step p_563) (ea_1 (em_ofF (ef_sliceSc (em_var rfl) (eo_some (em_var rfl)) (eo_some (em_op (em_var rfl) em_int fun _ _ => om_I0))))) (fun _ => rfl) fun b r h => ⟨b, r, rfl, h, rfl⟩))) (es_retS em_bl) (es_next (.same (.same .nil)))) fun t_566 => (es_next (.same (.un .nil))))) fun t_554 => (es_retS em_bl)))
end
end K02

set_option Elab.async false
set_option linter.all false
set_option maxRecDepth 100000
set_option maxHeartbeats 1000000
namespace K02
open PySem PySem.Spec PyProof.Rows L2 OL
def spLaw (K : PySem.W.Frag) : Sp := fun vs H Q _ => ∃ (a : Addr) (ns : List Int), vs = [.ref a] ∧ SqL K H a (ns.map V.int) ∧ ns.length ≤ 63 ∧ ∀ H2, Q (.bl true) H2
theorem all_mk {l : PySem.W.OpenLaw} {w : World} {K : PySem.W.Frag} {h : Heap} {mg : Str → Option Value} {fa : Addr} (X : K.In h) (G : h.Ns mainGlobals mg) (hfa : mg "law" = some (.ref fa))
    {f0 : Addr} {od0 an0 : Option Addr} {sl0 : Array (Option Value)} {oc0 kV0 dc0 pm0 cd0 ct0 : Value}
    {f1 : Addr} {od1 an1 : Option Addr} {sl1 : Array (Option Value)} {oc1 kV1 dc1 pm1 cd1 ct1 : Value}
    {f2 : Addr} {od2 an2 : Option Addr} {sl2 : Array (Option Value)} {oc2 kV2 dc2 pm2 cd2 ct2 : Value}
    {f3 : Addr} {od3 an3 : Option Addr} {sl3 : Array (Option Value)} {oc3 kV3 dc3 pm3 cd3 ct3 : Value}
    {f4 : Addr} {od4 an4 : Option Addr} {sl4 : Array (Option Value)} {oc4 kV4 dc4 pm4 cd4 ct4 : Value}
    {f5 : Addr} {od5 an5 : Option Addr} {sl5 : Array (Option Value)} {oc5 kV5 dc5 pm5 cd5 ct5 : Value}
    {f6 : Addr} {od6 an6 : Option Addr} {sl6 : Array (Option Value)} {oc6 kV6 dc6 pm6 cd6 ct6 : Value}
    {f7 : Addr} {od7 an7 : Option Addr} {sl7 : Array (Option Value)} {oc7 kV7 dc7 pm7 cd7 ct7 : Value}
    {f8 : Addr} {od8 an8 : Option Addr} {sl8 : Array (Option Value)} {oc8 kV8 dc8 pm8 cd8 ct8 : Value}
    {f9 : Addr} {od9 an9 : Option Addr} {sl9 : Array (Option Value)} {oc9 kV9 dc9 pm9 cd9 ct9 : Value}
    {f10 : Addr} {od10 an10 : Option Addr} {sl10 : Array (Option Value)} {oc10 kV10 dc10 pm10 cd10 ct10 : Value}
    {f11 : Addr} {od11 an11 : Option Addr} {sl11 : Array (Option Value)} {oc11 kV11 dc11 pm11 cd11 ct11 : Value}
    {f12 : Addr} {od12 an12 : Option Addr} {sl12 : Array (Option Value)} {oc12 kV12 dc12 pm12 cd12 ct12 : Value}
    {f13 : Addr} {od13 an13 : Option Addr} {sl13 : Array (Option Value)} {oc13 kV13 dc13 pm13 cd13 ct13 : Value}
    {f14 : Addr} {od14 an14 : Option Addr} {sl14 : Array (Option Value)} {oc14 kV14 dc14 pm14 cd14 ct14 : Value}
    {f15 : Addr} {od15 an15 : Option Addr} {sl15 : Array (Option Value)} {oc15 kV15 dc15 pm15 cd15 ct15 : Value}
    {f16 : Addr} {od16 an16 : Option Addr} {sl16 : Array (Option Value)} {oc16 kV16 dc16 pm16 cd16 ct16 : Value}
    {f17 : Addr} {od17 an17 : Option Addr} {sl17 : Array (Option Value)} {oc17 kV17 dc17 pm17 cd17 ct17 : Value}
    {f18 : Addr} {od18 an18 : Option Addr} {sl18 : Array (Option Value)} {oc18 kV18 dc18 pm18 cd18 ct18 : Value}
    {f19 : Addr} {od19 an19 : Option Addr} {sl19 : Array (Option Value)} {oc19 kV19 dc19 pm19 cd19 ct19 : Value}
    {t_PRIMES : Addr} {od_PRIMES : Option Addr} {n_PRIMES : Nat} {sl_PRIMES : Array (Option Value)} {k0_PRIMES k1_PRIMES k2_PRIMES k3_PRIMES : Tok}
    {t_GRAINS : Addr} {od_GRAINS : Option Addr} {n_GRAINS : Nat} {sl_GRAINS : Array (Option Value)} {k0_GRAINS k1_GRAINS k2_GRAINS k3_GRAINS : Tok}
    (a0 : PySem.W.nsIn K mainGlobals "how_often" = some (some (.ref f0))) (l0 : K.lookup f0 = some ⟨oc0, od0, .func (PySem.W.fnOf "how_often" "how_often" (defArgs s_how_often) (defBody s_how_often) (defScope s_how_often) .none kV0 dc0 pm0 an0 cd0 ct0), sl0⟩) (c0 : PySem.W.codeIn K cd0 "how_often" = true) (k0 : PySem.W.keepIn K (.ref f0) = true)
    (a1 : PySem.W.nsIn K mainGlobals "raised" = some (some (.ref f1))) (l1 : K.lookup f1 = some ⟨oc1, od1, .func (PySem.W.fnOf "raised" "raised" (defArgs s_raised) (defBody s_raised) (defScope s_raised) .none kV1 dc1 pm1 an1 cd1 ct1), sl1⟩) (c1 : PySem.W.codeIn K cd1 "raised" = true) (k1 : PySem.W.keepIn K (.ref f1) = true)
    (a2 : PySem.W.nsIn K mainGlobals "ratio_of" = some (some (.ref f2))) (l2 : K.lookup f2 = some ⟨oc2, od2, .func (PySem.W.fnOf "ratio_of" "ratio_of" (defArgs s_ratio_of) (defBody s_ratio_of) (defScope s_ratio_of) .none kV2 dc2 pm2 an2 cd2 ct2), sl2⟩) (c2 : PySem.W.codeIn K cd2 "ratio_of" = true) (k2 : PySem.W.keepIn K (.ref f2) = true)
    (a3 : PySem.W.nsIn K mainGlobals "together" = some (some (.ref f3))) (l3 : K.lookup f3 = some ⟨oc3, od3, .func (PySem.W.fnOf "together" "together" (defArgs s_together) (defBody s_together) (defScope s_together) .none kV3 dc3 pm3 an3 cd3 ct3), sl3⟩) (c3 : PySem.W.codeIn K cd3 "together" = true) (k3 : PySem.W.keepIn K (.ref f3) = true)
    (a4 : PySem.W.nsIn K mainGlobals "turned" = some (some (.ref f4))) (l4 : K.lookup f4 = some ⟨oc4, od4, .func (PySem.W.fnOf "turned" "turned" (defArgs s_turned) (defBody s_turned) (defScope s_turned) .none kV4 dc4 pm4 an4 cd4 ct4), sl4⟩) (c4 : PySem.W.codeIn K cd4 "turned" = true) (k4 : PySem.W.keepIn K (.ref f4) = true)
    (a5 : PySem.W.nsIn K mainGlobals "power" = some (some (.ref f5))) (l5 : K.lookup f5 = some ⟨oc5, od5, .func (PySem.W.fnOf "power" "power" (defArgs s_power) (defBody s_power) (defScope s_power) .none kV5 dc5 pm5 an5 cd5 ct5), sl5⟩) (c5 : PySem.W.codeIn K cd5 "power" = true) (k5 : PySem.W.keepIn K (.ref f5) = true)
    (a6 : PySem.W.nsIn K mainGlobals "size" = some (some (.ref f6))) (l6 : K.lookup f6 = some ⟨oc6, od6, .func (PySem.W.fnOf "size" "size" (defArgs s_size) (defBody s_size) (defScope s_size) .none kV6 dc6 pm6 an6 cd6 ct6), sl6⟩) (c6 : PySem.W.codeIn K cd6 "size" = true) (k6 : PySem.W.keepIn K (.ref f6) = true)
    (a7 : PySem.W.nsIn K mainGlobals "fraction" = some (some (.ref f7))) (l7 : K.lookup f7 = some ⟨oc7, od7, .func (PySem.W.fnOf "fraction" "fraction" (defArgs s_fraction) (defBody s_fraction) (defScope s_fraction) .none kV7 dc7 pm7 an7 cd7 ct7), sl7⟩) (c7 : PySem.W.codeIn K cd7 "fraction" = true) (k7 : PySem.W.keepIn K (.ref f7) = true)
    (a8 : PySem.W.nsIn K mainGlobals "figures" = some (some (.ref f8))) (l8 : K.lookup f8 = some ⟨oc8, od8, .func (PySem.W.fnOf "figures" "figures" (defArgs s_figures) (defBody s_figures) (defScope s_figures) .none kV8 dc8 pm8 an8 cd8 ct8), sl8⟩) (c8 : PySem.W.codeIn K cd8 "figures" = true) (k8 : PySem.W.keepIn K (.ref f8) = true)
    (a9 : PySem.W.nsIn K mainGlobals "ratio_text" = some (some (.ref f9))) (l9 : K.lookup f9 = some ⟨oc9, od9, .func (PySem.W.fnOf "ratio_text" "ratio_text" (defArgs s_ratio_text) (defBody s_ratio_text) (defScope s_ratio_text) .none kV9 dc9 pm9 an9 cd9 ct9), sl9⟩) (c9 : PySem.W.codeIn K cd9 "ratio_text" = true) (k9 : PySem.W.keepIn K (.ref f9) = true)
    (a10 : PySem.W.nsIn K mainGlobals "_law_next" = some (some (.ref f10))) (l10 : K.lookup f10 = some ⟨oc10, od10, .func (PySem.W.fnOf "_law_next" "_law_next" (defArgs s__law_next) (defBody s__law_next) (defScope s__law_next) .none kV10 dc10 pm10 an10 cd10 ct10), sl10⟩) (c10 : PySem.W.codeIn K cd10 "_law_next" = true) (k10 : PySem.W.keepIn K (.ref f10) = true)
    (a11 : PySem.W.nsIn K mainGlobals "_law_begun" = some (some (.ref f11))) (l11 : K.lookup f11 = some ⟨oc11, od11, .func (PySem.W.fnOf "_law_begun" "_law_begun" (defArgs s__law_begun) (defBody s__law_begun) (defScope s__law_begun) .none kV11 dc11 pm11 an11 cd11 ct11), sl11⟩) (c11 : PySem.W.codeIn K cd11 "_law_begun" = true) (k11 : PySem.W.keepIn K (.ref f11) = true)
    (a12 : PySem.W.nsIn K mainGlobals "_law_part" = some (some (.ref f12))) (l12 : K.lookup f12 = some ⟨oc12, od12, .func (PySem.W.fnOf "_law_part" "_law_part" (defArgs s__law_part) (defBody s__law_part) (defScope s__law_part) .none kV12 dc12 pm12 an12 cd12 ct12), sl12⟩) (c12 : PySem.W.codeIn K cd12 "_law_part" = true) (k12 : PySem.W.keepIn K (.ref f12) = true)
    (a13 : PySem.W.nsIn K mainGlobals "_law_common" = some (some (.ref f13))) (l13 : K.lookup f13 = some ⟨oc13, od13, .func (PySem.W.fnOf "_law_common" "_law_common" (defArgs s__law_common) (defBody s__law_common) (defScope s__law_common) .none kV13 dc13 pm13 an13 cd13 ct13), sl13⟩) (c13 : PySem.W.codeIn K cd13 "_law_common" = true) (k13 : PySem.W.keepIn K (.ref f13) = true)
    (a14 : PySem.W.nsIn K mainGlobals "_law_over" = some (some (.ref f14))) (l14 : K.lookup f14 = some ⟨oc14, od14, .func (PySem.W.fnOf "_law_over" "_law_over" (defArgs s__law_over) (defBody s__law_over) (defScope s__law_over) .none kV14 dc14 pm14 an14 cd14 ct14), sl14⟩) (c14 : PySem.W.codeIn K cd14 "_law_over" = true) (k14 : PySem.W.keepIn K (.ref f14) = true)
    (a15 : PySem.W.nsIn K mainGlobals "_law_due" = some (some (.ref f15))) (l15 : K.lookup f15 = some ⟨oc15, od15, .func (PySem.W.fnOf "_law_due" "_law_due" (defArgs s__law_due) (defBody s__law_due) (defScope s__law_due) .none kV15 dc15 pm15 an15 cd15 ct15), sl15⟩) (c15 : PySem.W.codeIn K cd15 "_law_due" = true) (k15 : PySem.W.keepIn K (.ref f15) = true)
    (a16 : PySem.W.nsIn K mainGlobals "_law_whole" = some (some (.ref f16))) (l16 : K.lookup f16 = some ⟨oc16, od16, .func (PySem.W.fnOf "_law_whole" "_law_whole" (defArgs s__law_whole) (defBody s__law_whole) (defScope s__law_whole) .none kV16 dc16 pm16 an16 cd16 ct16), sl16⟩) (c16 : PySem.W.codeIn K cd16 "_law_whole" = true) (k16 : PySem.W.keepIn K (.ref f16) = true)
    (a17 : PySem.W.nsIn K mainGlobals "_law_ratio_right" = some (some (.ref f17))) (l17 : K.lookup f17 = some ⟨oc17, od17, .func (PySem.W.fnOf "_law_ratio_right" "_law_ratio_right" (defArgs s__law_ratio_right) (defBody s__law_ratio_right) (defScope s__law_ratio_right) .none kV17 dc17 pm17 an17 cd17 ct17), sl17⟩) (c17 : PySem.W.codeIn K cd17 "_law_ratio_right" = true) (k17 : PySem.W.keepIn K (.ref f17) = true)
    (a18 : PySem.W.nsIn K mainGlobals "_law_step" = some (some (.ref f18))) (l18 : K.lookup f18 = some ⟨oc18, od18, .func (PySem.W.fnOf "_law_step" "_law_step" (defArgs s__law_step) (defBody s__law_step) (defScope s__law_step) .none kV18 dc18 pm18 an18 cd18 ct18), sl18⟩) (c18 : PySem.W.codeIn K cd18 "_law_step" = true) (k18 : PySem.W.keepIn K (.ref f18) = true)
    (a19 : PySem.W.nsIn K mainGlobals "law" = some (some (.ref f19))) (l19 : K.lookup f19 = some ⟨oc19, od19, .func (PySem.W.fnOf "law" "law" (defArgs s_law) (defBody s_law) (defScope s_law) .none kV19 dc19 pm19 an19 cd19 ct19), sl19⟩) (c19 : PySem.W.codeIn K cd19 "law" = true) (k19 : PySem.W.keepIn K (.ref f19) = true)
    (a_PRIMES : PySem.W.nsIn K mainGlobals "PRIMES" = some (some (.ref t_PRIMES))) (l_PRIMES : K.lookup t_PRIMES = some ⟨.type "tuple", od_PRIMES, .seq #[.int 2 k0_PRIMES, .int 3 k1_PRIMES, .int 5 k2_PRIMES, .int 7 k3_PRIMES] n_PRIMES, sl_PRIMES⟩)
    (a_GRAINS : PySem.W.nsIn K mainGlobals "GRAINS" = some (some (.ref t_GRAINS))) (l_GRAINS : K.lookup t_GRAINS = some ⟨.type "tuple", od_GRAINS, .seq #[.int 1200000 k0_GRAINS, .int 1901955 k1_GRAINS, .int 2786314 k2_GRAINS, .int 3368826 k3_GRAINS] n_GRAINS, sl_GRAINS⟩)
    (z_all : PySem.W.nsIn K mainGlobals "all" = some none)
    (z_bool : PySem.W.nsIn K mainGlobals "bool" = some none)
    (z_int : PySem.W.nsIn K mainGlobals "int" = some none)
    (z_isinstance : PySem.W.nsIn K mainGlobals "isinstance" = some none)
    (z_len : PySem.W.nsIn K mainGlobals "len" = some none)
    (z_max : PySem.W.nsIn K mainGlobals "max" = some none)
    (z_range : PySem.W.nsIn K mainGlobals "range" = some none)
    (z_str : PySem.W.nsIn K mainGlobals "str" = some none)
    (z_sum : PySem.W.nsIn K mainGlobals "sum" = some none)
    (z_tuple : PySem.W.nsIn K mainGlobals "tuple" = some none)
    (z_zip : PySem.W.nsIn K mainGlobals "zip" = some none) :
    ∃ fd : FuncData, (∀ (s : Shared) (v : Value), BindsTo s fd ⟨[v], []⟩ [("_law_script", v)]) ∧ ∀ base : Heap, K.In base → base.Ns mainGlobals mg → FnOk l.prog w K mg base CX0 6 fa fd ["_law_script"] (spLaw K) := by
  have e := hfa.symm.trans (PySem.W.mg_of X G a19)
  cases e
  have F0 := fun_mk (st := s_how_often) l0 c0 k0
  have B0 := F0.binds (ps := ["number", "prime"]) fun _ _ _ _ _ _ us hl => match us, hl with | [_, _], _ => rfl
  have F1 := fun_mk (st := s_raised) l1 c1 k1
  have B1 := F1.binds (ps := ["prime", "many"]) fun _ _ _ _ _ _ us hl => match us, hl with | [_, _], _ => rfl
  have F2 := fun_mk (st := s_ratio_of) l2 c2 k2
  have B2 := F2.binds (ps := ["p", "q"]) fun _ _ _ _ _ _ us hl => match us, hl with | [_, _], _ => rfl
  have F3 := fun_mk (st := s_together) l3 c3 k3
  have B3 := F3.binds (ps := ["one", "other"]) fun _ _ _ _ _ _ us hl => match us, hl with | [_, _], _ => rfl
  have F4 := fun_mk (st := s_turned) l4 c4 k4
  have B4 := F4.binds (ps := ["one"]) fun _ _ _ _ _ _ us hl => match us, hl with | [_], _ => rfl
  have F5 := fun_mk (st := s_power) l5 c5 k5
  have B5 := F5.binds (ps := ["one", "many"]) fun _ _ _ _ _ _ us hl => match us, hl with | [_, _], _ => rfl
  have F6 := fun_mk (st := s_size) l6 c6 k6
  have B6 := F6.binds (ps := ["one"]) fun _ _ _ _ _ _ us hl => match us, hl with | [_], _ => rfl
  have F7 := fun_mk (st := s_fraction) l7 c7 k7
  have B7 := F7.binds (ps := ["one"]) fun _ _ _ _ _ _ us hl => match us, hl with | [_], _ => rfl
  have F8 := fun_mk (st := s_figures) l8 c8 k8
  have B8 := F8.binds (ps := ["number"]) fun _ _ _ _ _ _ us hl => match us, hl with | [_], _ => rfl
  have F9 := fun_mk (st := s_ratio_text) l9 c9 k9
  have B9 := F9.binds (ps := ["one"]) fun _ _ _ _ _ _ us hl => match us, hl with | [_], _ => rfl
  have F10 := fun_mk (st := s__law_next) l10 c10 k10
  have B10 := F10.binds (ps := ["_law_state", "_law_many"]) fun _ _ _ _ _ _ us hl => match us, hl with | [_, _], _ => rfl
  have F11 := fun_mk (st := s__law_begun) l11 c11 k11
  have B11 := F11.binds (ps := ["_law_cells"]) fun _ _ _ _ _ _ us hl => match us, hl with | [_], _ => rfl
  have F12 := fun_mk (st := s__law_part) l12 c12 k12
  have B12 := F12.binds (ps := ["_law_state"]) fun _ _ _ _ _ _ us hl => match us, hl with | [_], _ => rfl
  have F13 := fun_mk (st := s__law_common) l13 c13 k13
  have B13 := F13.binds (ps := ["_law_one", "_law_other"]) fun _ _ _ _ _ _ us hl => match us, hl with | [_, _], _ => rfl
  have F14 := fun_mk (st := s__law_over) l14 c14 k14
  have B14 := F14.binds (ps := ["_law_number", "_law_many"]) fun _ _ _ _ _ _ us hl => match us, hl with | [_, _], _ => rfl
  have F15 := fun_mk (st := s__law_due) l15 c15 k15
  have B15 := F15.binds (ps := ["_law_p", "_law_q"]) fun _ _ _ _ _ _ us hl => match us, hl with | [_, _], _ => rfl
  have F16 := fun_mk (st := s__law_whole) l16 c16 k16
  have B16 := F16.binds (ps := ["_law_thing", "_law_many"]) fun _ _ _ _ _ _ us hl => match us, hl with | [_, _], _ => rfl
  have F17 := fun_mk (st := s__law_ratio_right) l17 c17 k17
  have B17 := F17.binds (ps := ["_law_p", "_law_q"]) fun _ _ _ _ _ _ us hl => match us, hl with | [_, _], _ => rfl
  have F18 := fun_mk (st := s__law_step) l18 c18 k18
  have B18 := F18.binds (ps := ["_law_cells"]) fun _ _ _ _ _ _ us hl => match us, hl with | [_], _ => rfl
  have F19 := fun_mk (st := s_law) l19 c19 k19
  have B19 := F19.binds (ps := ["_law_script"]) fun _ _ _ _ _ _ us hl => match us, hl with | [_], _ => rfl
  have T : Tx K mg := { d_how_often := ⟨_, _, F0, PySem.W.mg_of X G a0, B0⟩, d_raised := ⟨_, _, F1, PySem.W.mg_of X G a1, B1⟩, d_ratio_of := ⟨_, _, F2, PySem.W.mg_of X G a2, B2⟩, d_together := ⟨_, _, F3, PySem.W.mg_of X G a3, B3⟩, d_turned := ⟨_, _, F4, PySem.W.mg_of X G a4, B4⟩, d_power := ⟨_, _, F5, PySem.W.mg_of X G a5, B5⟩, d_size := ⟨_, _, F6, PySem.W.mg_of X G a6, B6⟩, d_fraction := ⟨_, _, F7, PySem.W.mg_of X G a7, B7⟩, d_figures := ⟨_, _, F8, PySem.W.mg_of X G a8, B8⟩, d_ratio_text := ⟨_, _, F9, PySem.W.mg_of X G a9, B9⟩, d__law_next := ⟨_, _, F10, PySem.W.mg_of X G a10, B10⟩, d__law_begun := ⟨_, _, F11, PySem.W.mg_of X G a11, B11⟩, d__law_part := ⟨_, _, F12, PySem.W.mg_of X G a12, B12⟩, d__law_common := ⟨_, _, F13, PySem.W.mg_of X G a13, B13⟩, d__law_over := ⟨_, _, F14, PySem.W.mg_of X G a14, B14⟩, d__law_due := ⟨_, _, F15, PySem.W.mg_of X G a15, B15⟩, d__law_whole := ⟨_, _, F16, PySem.W.mg_of X G a16, B16⟩, d__law_ratio_right := ⟨_, _, F17, PySem.W.mg_of X G a17, B17⟩, d__law_step := ⟨_, _, F18, PySem.W.mg_of X G a18, B18⟩, d_law := ⟨_, _, F19, PySem.W.mg_of X G a19, B19⟩, m_PRIMES := ⟨_, PySem.W.mg_of X G a_PRIMES, fun B => .tupK (vs := [.int 2, .int 3, .int 5, .int 7]) l_PRIMES (by exact (by decide : 4 ≤ 1000)) (.cons ⟨_, rfl⟩ (.cons ⟨_, rfl⟩ (.cons ⟨_, rfl⟩ (.cons ⟨_, rfl⟩ .nil)))) (Rps.ofInts [2, 3, 5, 7])⟩, m_GRAINS := ⟨_, PySem.W.mg_of X G a_GRAINS, fun B => .tupK (vs := [.int 1200000, .int 1901955, .int 2786314, .int 3368826]) l_GRAINS (by exact (by decide : 4 ≤ 1000)) (.cons ⟨_, rfl⟩ (.cons ⟨_, rfl⟩ (.cons ⟨_, rfl⟩ (.cons ⟨_, rfl⟩ .nil)))) (Rps.ofInts [1200000, 1901955, 2786314, 3368826])⟩, b_all := PySem.W.mg_none_of X G z_all, b_bool := PySem.W.mg_none_of X G z_bool, b_int := PySem.W.mg_none_of X G z_int, b_isinstance := PySem.W.mg_none_of X G z_isinstance, b_len := PySem.W.mg_none_of X G z_len, b_max := PySem.W.mg_none_of X G z_max, b_range := PySem.W.mg_none_of X G z_range, b_str := PySem.W.mg_none_of X G z_str, b_sum := PySem.W.mg_none_of X G z_sum, b_tuple := PySem.W.mg_none_of X G z_tuple, b_zip := PySem.W.mg_none_of X G z_zip }
  refine ⟨_, fun s v => .of_eq rfl, fun base _ _ => (ok_law (P := l.prog) (w := w) (base := base) T F19).imp fun vs H Q E hq => ?_⟩
  obtain ⟨a, ns, rfl, hs, hl, q⟩ := hq
  exact ⟨H, _, _, ⟨⟨ns⟩, true, rfl, law_true ⟨ns⟩ hl, rfl⟩, rfl, Gr.refl H, .cons (.scr ns hs) .nil, fun v B2 H2 _ _ _ _ r => by rw [Rp.bl_inv r]; exact q H2⟩
end K02
open PySem PySem.W PyProof.Rows
set_option maxHeartbeats 0 in
theorem PySem.Challenge.cw_choirtrue_k02_ratios_holds : PySem.Challenge.rw_choirtrue_k02_ratios.Holds := by
  w_on; o_law; k_head; (case hw => w_witness2)
  k_fill
  refine L2.walk_of (l := PySem.Challenge.rw_choirtrue_k02_ratios) (n := 63) (k := 6) (x := "_law_script") (CX := fun _ => L2.CX0) (sp := fun w => K02.spLaw _) rfl (by decide) rfl ⟨rfl, by decide, by decide⟩ (fun w h Y => PySem.W.kIn_of Y) ?F (fun _ _ a ns hl _ hS => ⟨a, ns, rfl, hS, hl, fun _ => rfl⟩) (fun _ _ _ _ _ h => h)
  case F =>
    intro w mg fa h KX G hmg
    refine' K02.all_mk KX G hmg ?a0 ?l0 ?c0 ?k0 ?a1 ?l1 ?c1 ?k1 ?a2 ?l2 ?c2 ?k2 ?a3 ?l3 ?c3 ?k3 ?a4 ?l4 ?c4 ?k4 ?a5 ?l5 ?c5 ?k5 ?a6 ?l6 ?c6 ?k6 ?a7 ?l7 ?c7 ?k7 ?a8 ?l8 ?c8 ?k8 ?a9 ?l9 ?c9 ?k9 ?a10 ?l10 ?c10 ?k10 ?a11 ?l11 ?c11 ?k11 ?a12 ?l12 ?c12 ?k12 ?a13 ?l13 ?c13 ?k13 ?a14 ?l14 ?c14 ?k14 ?a15 ?l15 ?c15 ?k15 ?a16 ?l16 ?c16 ?k16 ?a17 ?l17 ?c17 ?k17 ?a18 ?l18 ?c18 ?k18 ?a19 ?l19 ?c19 ?k19 ?a_PRIMES ?l_PRIMES ?a_GRAINS ?l_GRAINS ?z_all ?z_bool ?z_int ?z_isinstance ?z_len ?z_max ?z_range ?z_str ?z_sum ?z_tuple ?z_zip
    (case a0 => k_is)
    (case l0 => k_is)
    (case c0 => k_is)
    (case k0 => k_is)
    (case a1 => k_is)
    (case l1 => k_is)
    (case c1 => k_is)
    (case k1 => k_is)
    (case a2 => k_is)
    (case l2 => k_is)
    (case c2 => k_is)
    (case k2 => k_is)
    (case a3 => k_is)
    (case l3 => k_is)
    (case c3 => k_is)
    (case k3 => k_is)
    (case a4 => k_is)
    (case l4 => k_is)
    (case c4 => k_is)
    (case k4 => k_is)
    (case a5 => k_is)
    (case l5 => k_is)
    (case c5 => k_is)
    (case k5 => k_is)
    (case a6 => k_is)
    (case l6 => k_is)
    (case c6 => k_is)
    (case k6 => k_is)
    (case a7 => k_is)
    (case l7 => k_is)
    (case c7 => k_is)
    (case k7 => k_is)
    (case a8 => k_is)
    (case l8 => k_is)
    (case c8 => k_is)
    (case k8 => k_is)
    (case a9 => k_is)
    (case l9 => k_is)
    (case c9 => k_is)
    (case k9 => k_is)
    (case a10 => k_is)
    (case l10 => k_is)
    (case c10 => k_is)
    (case k10 => k_is)
    (case a11 => k_is)
    (case l11 => k_is)
    (case c11 => k_is)
    (case k11 => k_is)
    (case a12 => k_is)
    (case l12 => k_is)
    (case c12 => k_is)
    (case k12 => k_is)
    (case a13 => k_is)
    (case l13 => k_is)
    (case c13 => k_is)
    (case k13 => k_is)
    (case a14 => k_is)
    (case l14 => k_is)
    (case c14 => k_is)
    (case k14 => k_is)
    (case a15 => k_is)
    (case l15 => k_is)
    (case c15 => k_is)
    (case k15 => k_is)
    (case a16 => k_is)
    (case l16 => k_is)
    (case c16 => k_is)
    (case k16 => k_is)
    (case a17 => k_is)
    (case l17 => k_is)
    (case c17 => k_is)
    (case k17 => k_is)
    (case a18 => k_is)
    (case l18 => k_is)
    (case c18 => k_is)
    (case k18 => k_is)
    (case a19 => k_is)
    (case l19 => k_is)
    (case c19 => k_is)
    (case k19 => k_is)
    (case a_PRIMES => k_is)
    (case l_PRIMES => k_is)
    (case a_GRAINS => k_is)
    (case l_GRAINS => k_is)
    (case z_all => k_is)
    (case z_bool => k_is)
    (case z_int => k_is)
    (case z_isinstance => k_is)
    (case z_len => k_is)
    (case z_max => k_is)
    (case z_range => k_is)
    (case z_str => k_is)
    (case z_sum => k_is)
    (case z_tuple => k_is)
    (case z_zip => k_is)

