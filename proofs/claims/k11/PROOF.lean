import PyProof.Rows.All
import Wide.All
import OpenK.AllK
import Wide.FinOn
import HandS.ForMost
import HandS.Wide
import HandS.WideMore
import HandS.FStr
import HandS.Zip
import HandS.StrMore
import HandS.IsInst
import HandS.Style
import HandS.Flow
import HandS.RevTup
import HandS.TupAny
import HandS.ForExc
import HandS.ExcField
import HandS.ExcIs
import HandS.DictComp
import HandS.SetKeys
import HandS.Conv
import HandS.Deep
import KE.GoesMore
import KE.GoesZip
import KE.KExcIs
import HandS.ExcOwn
import HandS.WordsExc
import KE.KExcSuper
import KE.KSuper
import HandS.ExcInit
import HandS.Call
import HandS.List
import KE.RegKIsAll
import KE.RegKTryMore
import KE.KExcLine
import HandS.Iter
import HandS.NoneIn
import HandS.FStrTup
import HandS.HeadHook3
import KE.GoesEnum
import HandS.EndOwn
import PyProof.ReprNest
import HandS.DictSubView
import KE.KDictCopyH
import PySem.Challenge.RW_choirtrue_k11_overlaps_and_parts
set_option Elab.async false
set_option linter.all false
set_option maxRecDepth 100000
set_option maxHeartbeats 2000000
/-! N1: data, things owned, what holds of a frame. -/
namespace ON
open PySem L2

/-! ### heaps that grow -/
def Gr (B C : Hp) : Prop := ∀ a o, B a = some o → C a = some o
theorem Gr.refl (B : Hp) : Gr B B := fun _ _ h => h
theorem Gr.trans {B C D : Hp} (x : Gr B C) (y : Gr C D) : Gr B D := fun a o h => y a o (x a o h)
theorem Gr.new {B : Hp} {p : Addr} {o : HO} (h : B p = none) : Gr B (upd B p o) := fun a u e => by
  rw [upd_ne (ne_of_none e h)]; exact e
theorem Gr.mut {B C : Hp} {p : Addr} {o : HO} (g : Gr B C) (h : B p = none) : Gr B (upd C p o) := fun a u e => by
  rw [upd_ne (ne_of_none e h)]; exact g a u e
theorem Gr.back {B C : Hp} {p : Addr} (g : Gr B C) (h : C p = none) : B p = none := by
  cases e : B p with
  | none => rfl
  | some o => rw [g p o e] at h; cases h
theorem Gr.rd {B C : Hp} {a : Addr} {u : HO} (g : Gr B C) (h : Rd B a u) : Rd C a u := by
  rcases h with h | ⟨o, h⟩
  · exact .inl (g a _ h)
  · exact .inr ⟨o, g a _ h⟩
theorem Gr.sqL {K : PySem.W.Frag} {B C : Hp} {a : Addr} {xs : List V} (g : Gr B C) (h : SqL K B a xs) : SqL K C a xs := by
  rcases h with h | h
  · exact .inl (g.rd h)
  · exact .inr h
theorem Gr.sqT {K : PySem.W.Frag} {B C : Hp} {a : Addr} {xs : List V} (g : Gr B C) (h : SqT K B a xs) : SqT K C a xs := by
  rcases h with h | h
  · exact .inl (g.rd h)
  · exact .inr h

/-! ### data -/
inductive D where
  | non
  | bl (b : Bool)
  | int (i : Int)
  | str (s : Str)
  | lst (ds : List D)
  | tup (ds : List D)
  | dic (ks : List Key) (ds : List D)
  /-- the script -/
  | scr (ns : List Int)
  /-- an error that is kept: its class, its fields -/
  | err (c : Str) (ns : List Str) (ds : List D)
/-- an error kept: its class and its own dict -/
def XO (cls : Value) (d : Option Addr) (a : Addr) : HO := .ext fun h => ∃ oe vs, h.get? a = some oe ∧ Zc cls d oe ∧ oe.data = .fields vs
mutual
/-- the value stands for the data -/
inductive Rp (K : PySem.W.Frag) (B : Hp) : V → D → Prop
  | non : Rp K B .non .non
  | bl (b : Bool) : Rp K B (.bl b) (.bl b)
  | int (i : Int) : Rp K B (.int i) (.int i)
  | str (x : Str) : Rp K B (.str x) (.str x)
  | lst {a : Addr} {xs : List V} {ds : List D} (h : B a = some (.lst xs)) (hs : Rps K B xs ds) : Rp K B (.ref a) (.lst ds)
  | tup {a : Addr} {xs : List V} {ds : List D} (h : SqT K B a xs) (hs : Rps K B xs ds) : Rp K B (.ref a) (.tup ds)
  | dic {a : Addr} {o : Obj} {ks : List Key} {vs : List V} {ds : List D} (hl : ks.length = vs.length) (h : B a = some (.frz o (.dK (ks.zip vs)))) (hs : Rps K B vs ds) : Rp K B (.ref a) (.dic ks ds)
  | scr {a : Addr} (ns : List Int) (h : SqL K B a (ns.map V.int)) : Rp K B (.ref a) (.scr ns)
  | err {a C : Addr} {c : Str} (hc : PySem.W.nsIn K mainGlobals c = some (some (.ref C))) (h : B a = some (XO (.ref C) none a)) : Rp K B (.ref a) (.err c [] [])
  | erf {a C dd : Addr} {c n : Str} {v : V} {d : D} (hc : PySem.W.nsIn K mainGlobals c = some (some (.ref C))) (h : B a = some (XO (.ref C) (some dd) a)) (h2 : B dd = some (.xd [(n, v)])) (hv : Rp K B v d) : Rp K B (.ref a) (.err c [n] [d])
inductive Rps (K : PySem.W.Frag) (B : Hp) : List V → List D → Prop
  | nil : Rps K B [] []
  | cons {v : V} {vs : List V} {d : D} {ds : List D} (h : Rp K B v d) (hs : Rps K B vs ds) : Rps K B (v :: vs) (d :: ds)
end
mutual
theorem Rp.gr {K : PySem.W.Frag} {B C : Hp} (g : Gr B C) : ∀ {d : D} {v : V}, Rp K B v d → Rp K C v d
  | _, _, .non => .non
  | _, _, .bl b => .bl b
  | _, _, .int i => .int i
  | _, _, .str x => .str x
  | _, _, .lst h hs => .lst (g _ _ h) (Rps.gr g hs)
  | _, _, .tup h hs => .tup (g.sqT h) (Rps.gr g hs)
  | _, _, .dic hl h hs => .dic hl (g _ _ h) (Rps.gr g hs)
  | _, _, .scr ns h => .scr ns (g.sqL h)
  | _, _, .err hc h => .err hc (g _ _ h)
  | _, _, .erf hc h h2 hv => .erf hc (g _ _ h) (g _ _ h2) (Rp.gr g hv)
theorem Rps.gr {K : PySem.W.Frag} {B C : Hp} (g : Gr B C) : ∀ {ds : List D} {vs : List V}, Rps K B vs ds → Rps K C vs ds
  | _, _, .nil => .nil
  | _, _, .cons h hs => .cons (Rp.gr g h) (Rps.gr g hs)
end
mutual
/-- data as the library's data; what is plain -/
def D.py : D → PyData
  | .non => .none
  | .bl b => .bool b
  | .int i => .int i
  | .str s => .str s
  | .lst ds => .list (D.pys ds)
  | .tup ds => .tuple (D.pys ds)
  | .dic _ _ => .none
  | .scr _ => .none
  | .err _ _ _ => .none
def D.pys : List D → List PyData
  | [] => []
  | d :: ds => D.py d :: D.pys ds
end
mutual
def D.pl : D → Bool
  | .non => true
  | .bl _ => true
  | .int _ => true
  | .str _ => true
  | .lst ds => D.pls ds
  | .tup ds => D.pls ds
  | .dic _ _ => false
  | .scr _ => false
  | .err _ _ _ => false
def D.pls : List D → Bool
  | [] => true
  | d :: ds => D.pl d && D.pls ds
end
mutual
theorem Rp.dp {K : PySem.W.Frag} {B : Hp} : ∀ {d : D} {v : V}, d.pl = true → Rp K B v d → Dp K B v d.py
  | .non, _, _, h => by cases h; exact .non
  | .bl _, _, _, h => by cases h; exact .bl _
  | .int _, _, _, h => by cases h; exact .int _
  | .str _, _, _, h => by cases h; exact .str _
  | .lst ds, _, n, h => by
    rw [D.pl] at n; rw [D.py]
    cases h with | lst h hs => exact .lst (SqL.of h) (Rps.dp n hs)
  | .tup ds, _, n, h => by
    rw [D.pl] at n; rw [D.py]
    cases h with | tup h hs => exact .tup h (Rps.dp n hs)
  | .dic _ _, _, n, _ => by rw [D.pl] at n; cases n
  | .scr _, _, n, _ => by rw [D.pl] at n; cases n
  | .err _ _ _, _, n, _ => by rw [D.pl] at n; cases n
theorem Rps.dp {K : PySem.W.Frag} {B : Hp} : ∀ {ds : List D} {vs : List V}, D.pls ds = true → Rps K B vs ds → DpAll K B vs (D.pys ds)
  | [], _, _, h => by cases h; exact .nil
  | d :: ds, _, n, h => by
    rw [D.pls, Bool.and_eq_true] at n
    rw [D.pys]
    cases h with | cons h hs => exact .cons (Rp.dp n.1 h) (Rps.dp n.2 hs)
end
section
variable {K : PySem.W.Frag} {B : Hp}
theorem Rps.len {vs : List V} {ds : List D} (h : Rps K B vs ds) : vs.length = ds.length := by
  induction ds generalizing vs with
  | nil => cases h; rfl
  | cons d ds ih => cases h with | cons h hs => rw [List.length_cons, List.length_cons, ih hs]
theorem Rps.get : ∀ {vs : List V} {ds : List D} {i : Nat} {d : D}, Rps K B vs ds → ds[i]? = some d → ∃ v, vs[i]? = some v ∧ Rp K B v d
  | _, _, _, _, .nil, e => by simp at e
  | _, _, 0, _, .cons h _, e => by cases Option.some.inj e; exact ⟨_, rfl, h⟩
  | _, _, i + 1, _, .cons _ hs, e => Rps.get (i := i) hs e
theorem Rps.app : ∀ {vs ws : List V} {ds es : List D}, Rps K B vs ds → Rps K B ws es → Rps K B (vs ++ ws) (ds ++ es)
  | _, _, _, _, .nil, h => h
  | _, _, _, _, .cons h hs, g => .cons h (Rps.app hs g)
theorem Rps.take : ∀ {vs : List V} {ds : List D} (n : Nat), Rps K B vs ds → Rps K B (vs.take n) (ds.take n)
  | _, _, 0, _ => .nil
  | _, _, _ + 1, .nil => .nil
  | _, _, n + 1, .cons h hs => .cons h (Rps.take n hs)
theorem Rps.drop : ∀ {vs : List V} {ds : List D} (n : Nat), Rps K B vs ds → Rps K B (vs.drop n) (ds.drop n)
  | _, _, 0, h => h
  | _, _, _ + 1, .nil => .nil
  | _, _, n + 1, .cons _ hs => Rps.drop n hs
theorem Rps.set : ∀ {vs : List V} {ds : List D} (n : Nat) {v : V} {d : D}, Rps K B vs ds → Rp K B v d → Rps K B (vs.set n v) (ds.set n d)
  | _, _, _, _, _, .nil, _ => .nil
  | _, _, 0, _, _, .cons _ hs, g => .cons g hs
  | _, _, n + 1, _, _, .cons h hs, g => .cons h (Rps.set n hs g)
theorem Rps.rev {vs : List V} {ds : List D} (h : Rps K B vs ds) : Rps K B vs.reverse ds.reverse := by
  induction ds generalizing vs with
  | nil => cases h; exact .nil
  | cons d ds ih => cases h with | cons h hs => rw [List.reverse_cons, List.reverse_cons]; exact (ih hs).app (.cons h .nil)
theorem Rp.int_inv {v : V} {i : Int} (h : Rp K B v (.int i)) : v = .int i := by cases h; rfl
theorem Rp.bl_inv {v : V} {b : Bool} (h : Rp K B v (.bl b)) : v = .bl b := by cases h; rfl
theorem Rp.str_inv {v : V} {x : Str} (h : Rp K B v (.str x)) : v = .str x := by cases h; rfl
theorem Rp.non_inv {v : V} (h : Rp K B v .non) : v = .non := by cases h; rfl
theorem Rp.lst_inv {v : V} {ds : List D} (h : Rp K B v (.lst ds)) : ∃ a xs, v = .ref a ∧ B a = some (.lst xs) ∧ Rps K B xs ds := by
  cases h with | lst h hs => exact ⟨_, _, rfl, h, hs⟩
theorem Rp.tup_inv {v : V} {ds : List D} (h : Rp K B v (.tup ds)) : ∃ a xs, v = .ref a ∧ SqT K B a xs ∧ Rps K B xs ds := by
  cases h with | tup h hs => exact ⟨_, _, rfl, h, hs⟩
theorem Rp.dic_inv {v : V} {ks : List Key} {ds : List D} (h : Rp K B v (.dic ks ds)) : ∃ a o vs, v = .ref a ∧ ks.length = vs.length ∧ B a = some (.frz o (.dK (ks.zip vs))) ∧ Rps K B vs ds := by
  cases h with | dic hl h hs => exact ⟨_, _, _, rfl, hl, h, hs⟩
theorem Rp.scr_inv {v : V} {ns : List Int} (h : Rp K B v (.scr ns)) : ∃ a, v = .ref a ∧ SqL K B a (ns.map V.int) := by
  cases h with | scr _ h => exact ⟨_, rfl, h⟩
/-- ints, texts, truths need no heap -/
theorem Rps.ints : ∀ {xs : List V} {ns : List Int}, Rps K B xs (ns.map .int) → xs = ns.map V.int
  | _, [], h => by cases h; rfl
  | _, n :: ns, h => by
    cases h with | cons h hs => rw [h.int_inv, Rps.ints hs]; rfl
theorem Rps.ofInts : ∀ (ns : List Int), Rps K B (ns.map V.int) (ns.map .int)
  | [] => .nil
  | n :: ns => .cons (.int n) (Rps.ofInts ns)
theorem Rps.strs : ∀ {xs : List V} {ns : List Str}, Rps K B xs (ns.map .str) → xs = ns.map V.str
  | _, [], h => by cases h; rfl
  | _, n :: ns, h => by
    cases h with | cons h hs => rw [h.str_inv, Rps.strs hs]; rfl
theorem Rps.ofStrs : ∀ (ns : List Str), Rps K B (ns.map V.str) (ns.map .str)
  | [] => .nil
  | n :: ns => .cons (.str n) (Rps.ofStrs ns)
theorem Rps.bls : ∀ {xs : List V} {ns : List Bool}, Rps K B xs (ns.map .bl) → xs = ns.map V.bl
  | _, [], h => by cases h; rfl
  | _, n :: ns, h => by
    cases h with | cons h hs => rw [h.bl_inv, Rps.bls hs]; rfl
end

/-! ### values of Lean as data -/
class Enc (α : Type) where
  enc : α → D
abbrev enc {α : Type} [Enc α] (a : α) : D := Enc.enc a
instance : Enc Unit := ⟨fun _ => .non⟩
instance : Enc Bool := ⟨.bl⟩
instance : Enc Int := ⟨.int⟩
instance : Enc Str := ⟨.str⟩
instance : Enc D := ⟨id⟩
instance {α : Type} [Enc α] : Enc (List α) := ⟨fun xs => .lst (xs.map enc)⟩
instance {α : Type} [Enc α] : Enc (Option α) := ⟨fun o => match o with | some a => enc a | none => .non⟩
instance {α β : Type} [Enc α] [Enc β] : Enc (α ⊕ β) := ⟨fun o => match o with | .inl a => enc a | .inr b => enc b⟩
/-- the script -/
structure Sc where
  ns : List Int
instance : Enc Sc := ⟨fun s => .scr s.ns⟩
/-- an error: its class's name, its field's name and data -/
structure Er where
  c : Str
  f : Option (Str × D)
instance : Enc Er := ⟨fun e => match e.f with | none => .err e.c [] [] | some p => .err e.c [p.1] [p.2]⟩
/-- dicts -/
structure Dc (κ α : Type) where
  l : List (κ × α)
  deriving DecidableEq
class IsKey (κ : Type) where
  key : κ → Key
  val : κ → D
  dec : DecidableEq κ
  inj : ∀ a b, key a = key b → a = b
  rp : ∀ K B v a, Rp K B v (val a) ↔ v = kV (key a)
instance : IsKey Int := ⟨.inl, .int, inferInstance, fun _ _ e => Sum.inl.inj e, fun K B v a => ⟨fun h => h.int_inv, fun h => by subst h; exact .int a⟩⟩
instance : IsKey Str := ⟨.inr, .str, inferInstance, fun _ _ e => Sum.inr.inj e, fun K B v a => ⟨fun h => h.str_inv, fun h => by subst h; exact .str a⟩⟩
instance {κ α : Type} [IsKey κ] [Enc α] : Enc (Dc κ α) := ⟨fun d => .dic (d.l.map fun p => IsKey.key p.1) (d.l.map fun p => enc p.2)⟩
/-- a tuple of any length -/
structure Tl (α : Type) where
  l : List α
  deriving DecidableEq
instance {α : Type} [Enc α] : Enc (Tl α) := ⟨fun t => .tup (t.l.map enc)⟩
structure T1 (α : Type) where
  (a : α)
  deriving DecidableEq
instance {α : Type} [Enc α] : Enc (T1 α) := ⟨fun t => .tup [enc t.a]⟩
instance {α β : Type} [Enc α] [Enc β] : Enc (α × β) := ⟨fun t => .tup [enc t.1, enc t.2]⟩
structure T3 (α β γ : Type) where
  (a : α) (b : β) (c : γ)
  deriving DecidableEq
instance {α β γ : Type} [Enc α] [Enc β] [Enc γ] : Enc (T3 α β γ) := ⟨fun t => .tup [enc t.a, enc t.b, enc t.c]⟩
structure T4 (α β γ δ : Type) where
  (a : α) (b : β) (c : γ) (d : δ)
  deriving DecidableEq
instance {α β γ δ : Type} [Enc α] [Enc β] [Enc γ] [Enc δ] : Enc (T4 α β γ δ) := ⟨fun t => .tup [enc t.a, enc t.b, enc t.c, enc t.d]⟩
structure T5 (α β γ δ ε : Type) where
  (a : α) (b : β) (c : γ) (d : δ) (e : ε)
  deriving DecidableEq
instance {α β γ δ ε : Type} [Enc α] [Enc β] [Enc γ] [Enc δ] [Enc ε] : Enc (T5 α β γ δ ε) := ⟨fun t => .tup [enc t.a, enc t.b, enc t.c, enc t.d, enc t.e]⟩
structure T6 (α β γ δ ε ζ : Type) where
  (a : α) (b : β) (c : γ) (d : δ) (e : ε) (f : ζ)
  deriving DecidableEq
instance {α β γ δ ε ζ : Type} [Enc α] [Enc β] [Enc γ] [Enc δ] [Enc ε] [Enc ζ] : Enc (T6 α β γ δ ε ζ) := ⟨fun t => .tup [enc t.a, enc t.b, enc t.c, enc t.d, enc t.e, enc t.f]⟩

/-- an error under way -/
def ErOk (K : PySem.W.Frag) (B : Hp) (cls : Value) (d : Option Addr) (e : Er) : Prop :=
  ∃ C, PySem.W.nsIn K mainGlobals e.c = some (some (.ref C)) ∧ cls = .ref C ∧ match e.f with
    | none => d = none
    | some p => ∃ (dd : Addr) (v : V), d = some dd ∧ B dd = some (.xd [(p.1, v)]) ∧ Rp K B v p.2
theorem ErOk.gr {K : PySem.W.Frag} {B C : Hp} {cls : Value} {d : Option Addr} {e : Er} (g : Gr B C) (h : ErOk K B cls d e) : ErOk K C cls d e := by
  obtain ⟨A, h1, h2, h3⟩ := h
  refine ⟨A, h1, h2, ?_⟩
  obtain ⟨c, f⟩ := e
  cases f with
  | none => exact h3
  | some p => obtain ⟨dd, v, q1, q2, q3⟩ := h3; exact ⟨dd, v, q1, g _ _ q2, q3.gr g⟩
/-- .. kept at a -/
theorem ErOk.kept {K : PySem.W.Frag} {B : Hp} {cls : Value} {d : Option Addr} {e : Er} {a : Addr} (h : ErOk K B cls d e) (ha : B a = some (XO cls d a)) : Rp K B (.ref a) (enc e) := by
  obtain ⟨A, h1, rfl, h3⟩ := h
  obtain ⟨c, f⟩ := e
  cases f with
  | none => obtain rfl : d = none := h3; exact .err h1 ha
  | some p => obtain ⟨dd, v, rfl, q2, q3⟩ := h3; exact .erf h1 ha q2 q3

/-! ### things owned -/
inductive Sh where
  | dat
  | lst (s : Sh)
  | dic (s : Sh)
  /-- this, or data that is no list and no dict -/
  | opt (s : Sh)
/-- data that is no list and no dict -/
def D.sc : D → Bool
  | .lst _ => false
  | .dic _ _ => false
  | _ => true
def Ows (R : V → D → List Addr → Prop) : List V → List D → List Addr → Prop
  | [], [], f => f = []
  | v :: vs, d :: ds, f => ∃ f1 f2, f = f1 ++ f2 ∧ R v d f1 ∧ Ows R vs ds f2
  | _, _, _ => False
def Ow (K : PySem.W.Frag) (B H : Hp) : Sh → V → D → List Addr → Prop
  | .dat, v, d, f => f = [] ∧ Rp K B v d
  | .lst s, v, d, f => ∃ a xs ds g, v = .ref a ∧ d = .lst ds ∧ f = a :: g ∧ H a = some (.lst xs) ∧ Ows (Ow K B H s) xs ds g
  | .dic s, v, d, f => ∃ a ks vs ds g, v = .ref a ∧ d = .dic ks ds ∧ f = a :: g ∧ ks.length = vs.length ∧ H a = some (.dK (ks.zip vs)) ∧ Ows (Ow K B H s) vs ds g
  | .opt s, v, d, f => (f = [] ∧ d.sc = true ∧ Rp K B v d) ∨ Ow K B H s v d f
section
variable {K : PySem.W.Frag} {B H B' H' : Hp}
theorem Ows.imp {R S : V → D → List Addr → Prop} : ∀ {vs : List V} {ds : List D} {f : List Addr}, (∀ v d g, (∀ a ∈ g, a ∈ f) → R v d g → S v d g) → Ows R vs ds f → Ows S vs ds f
  | [], [], _, _, h => h
  | _ :: _, _ :: _, _, i, ⟨f1, f2, e, h1, h2⟩ => ⟨f1, f2, e, i _ _ _ (fun a m => by rw [e]; exact List.mem_append_left _ m) h1, Ows.imp (fun v d g hg => i v d g fun a m => by rw [e]; exact List.mem_append_right _ (hg a m)) h2⟩
  | [], _ :: _, _, _, h => h
  | _ :: _, [], _, _, h => h
theorem Ows.len {R : V → D → List Addr → Prop} : ∀ {vs : List V} {ds : List D} {f : List Addr}, Ows R vs ds f → vs.length = ds.length
  | [], [], _, _ => rfl
  | _ :: _, _ :: _, _, ⟨_, _, _, _, h⟩ => by rw [List.length_cons, List.length_cons, Ows.len h]
  | [], _ :: _, _, h => h.elim
  | _ :: _, [], _, h => h.elim
theorem Ow.frame (g : Gr B B') : ∀ {s : Sh} {v : V} {d : D} {f : List Addr}, (∀ a ∈ f, H' a = H a) → Ow K B H s v d f → Ow K B' H' s v d f
  | .dat, _, _, _, _, ⟨e, r⟩ => ⟨e, r.gr g⟩
  | .lst s, _, _, _, k, ⟨a, xs, ds, f, e1, e2, e3, e4, h⟩ => ⟨a, xs, ds, f, e1, e2, e3, by rw [k a (by rw [e3]; exact List.mem_cons_self)]; exact e4, Ows.imp (fun v d u hu r => Ow.frame g (fun b m => k b (by rw [e3]; exact List.mem_cons_of_mem _ (hu b m))) r) h⟩
  | .dic s, _, _, _, k, ⟨a, ks, vs, ds, f, e1, e2, e3, el, e4, h⟩ => ⟨a, ks, vs, ds, f, e1, e2, e3, el, by rw [k a (by rw [e3]; exact List.mem_cons_self)]; exact e4, Ows.imp (fun v d u hu r => Ow.frame g (fun b m => k b (by rw [e3]; exact List.mem_cons_of_mem _ (hu b m))) r) h⟩
  | .opt s, _, _, _, k, h => h.elim (fun h => .inl ⟨h.1, h.2.1, h.2.2.gr g⟩) fun h => .inr (Ow.frame g k h)
theorem Ows.some {R : V → D → List Addr → Prop} {P : Addr → Prop} (hR : ∀ v d f, R v d f → ∀ a ∈ f, P a) : ∀ {vs : List V} {ds : List D} {f : List Addr}, Ows R vs ds f → ∀ a ∈ f, P a
  | [], [], _, h, a, m => by rw [show _ = [] from h] at m; cases m
  | _ :: _, _ :: _, _, ⟨f1, f2, e, h1, h2⟩, a, m => by
    rw [e] at m
    rcases List.mem_append.mp m with m | m
    · exact hR _ _ _ h1 a m
    · exact Ows.some hR h2 a m
  | [], _ :: _, _, h, _, _ => h.elim
  | _ :: _, [], _, h, _, _ => h.elim
theorem Ow.some : ∀ {s : Sh} {v : V} {d : D} {f : List Addr}, Ow K B H s v d f → ∀ a ∈ f, H a ≠ none
  | .dat, _, _, _, ⟨e, _⟩, a, m => by rw [e] at m; cases m
  | .lst s, _, _, _, ⟨b, xs, ds, f, _, _, e, e4, h⟩, a, m => by
    rw [e] at m
    rcases List.mem_cons.mp m with rfl | m
    · rw [e4]; exact fun z => nomatch z
    · exact Ows.some (fun _ _ _ r => Ow.some r) h a m
  | .dic s, _, _, _, ⟨b, ks, vs, ds, f, _, _, e, _, e4, h⟩, a, m => by
    rw [e] at m
    rcases List.mem_cons.mp m with rfl | m
    · rw [e4]; exact fun z => nomatch z
    · exact Ows.some (fun _ _ _ r => Ow.some r) h a m
  | .opt s, _, _, _, h, a, m => h.elim (fun h => by rw [h.1] at m; cases m) fun h => Ow.some (s := s) h a m
/-- a list of data -/
theorem ows_dat : ∀ {vs : List V} {ds : List D} {f : List Addr}, Ows (Ow K B H .dat) vs ds f ↔ f = [] ∧ Rps K B vs ds
  | [], [], f => ⟨fun h => ⟨h, .nil⟩, fun h => h.1⟩
  | v :: vs, d :: ds, f => ⟨fun ⟨f1, f2, e, h1, h2⟩ => by
      obtain ⟨e1, r⟩ := h1
      obtain ⟨e2, rs⟩ := ows_dat.mp h2
      exact ⟨by rw [e, e1, e2]; rfl, .cons r rs⟩, fun ⟨e, h⟩ => by
      cases h with | cons h hs => exact ⟨[], [], e, ⟨rfl, h⟩, ows_dat.mpr ⟨rfl, hs⟩⟩⟩
  | [], _ :: _, _ => ⟨fun h => h.elim, fun h => nomatch h.2⟩
  | _ :: _, [], _ => ⟨fun h => h.elim, fun h => nomatch h.2⟩
theorem ow_lstd {v : V} {d : D} {f : List Addr} : Ow K B H (.lst .dat) v d f ↔ ∃ a xs ds, v = .ref a ∧ d = .lst ds ∧ f = [a] ∧ H a = some (.lst xs) ∧ Rps K B xs ds := by
  constructor
  · rintro ⟨a, xs, ds, g, e1, e2, e3, e4, h⟩
    obtain ⟨rfl, rs⟩ := ows_dat.mp h
    exact ⟨a, xs, ds, e1, e2, e3, e4, rs⟩
  · rintro ⟨a, xs, ds, e1, e2, e3, e4, rs⟩
    exact ⟨a, xs, ds, [], e1, e2, e3, e4, ows_dat.mpr ⟨rfl, rs⟩⟩
theorem ow_dicd {v : V} {d : D} {f : List Addr} : Ow K B H (.dic .dat) v d f ↔ ∃ a ks vs ds, v = .ref a ∧ d = .dic ks ds ∧ f = [a] ∧ ks.length = vs.length ∧ H a = some (.dK (ks.zip vs)) ∧ Rps K B vs ds := by
  constructor
  · rintro ⟨a, ks, vs, ds, g, e1, e2, e3, el, e4, h⟩
    obtain ⟨rfl, rs⟩ := ows_dat.mp h
    exact ⟨a, ks, vs, ds, e1, e2, e3, el, e4, rs⟩
  · rintro ⟨a, ks, vs, ds, e1, e2, e3, el, e4, rs⟩
    exact ⟨a, ks, vs, ds, [], e1, e2, e3, el, e4, ows_dat.mpr ⟨rfl, rs⟩⟩
/-- no dict in it: what may become data as it stands -/
def Sh.nd : Sh → Bool
  | .dat => true
  | .lst s => s.nd
  | .dic _ => false
  | .opt s => s.nd
def frzB (B H : Hp) (f : List Addr) : Hp := fun a => if a ∈ f then H a else B a
theorem frzB_gr {f : List Addr} (h : ∀ a ∈ f, B a = none) : Gr B (frzB B H f) := fun a o e => by
  unfold frzB
  rw [if_neg (fun m => by rw [h a m] at e; cases e)]; exact e
theorem Ows.rps {R : V → D → List Addr → Prop} {f0 : List Addr} {C : Hp} (hR : ∀ v d f, (∀ a ∈ f, a ∈ f0) → R v d f → Rp K C v d) : ∀ {vs : List V} {ds : List D} {f : List Addr}, (∀ a ∈ f, a ∈ f0) → Ows R vs ds f → Rps K C vs ds
  | [], [], _, _, _ => .nil
  | _ :: _, _ :: _, _, i, ⟨f1, f2, e, h1, h2⟩ => .cons (hR _ _ _ (fun a m => i a (by rw [e]; exact List.mem_append_left _ m)) h1) (Ows.rps hR (fun a m => i a (by rw [e]; exact List.mem_append_right _ m)) h2)
  | [], _ :: _, _, _, h => h.elim
  | _ :: _, [], _, _, h => h.elim
theorem Ow.rp {f0 : List Addr} (h0 : ∀ a ∈ f0, B a = none) : ∀ {s : Sh} {v : V} {d : D} {f : List Addr}, s.nd = true → (∀ a ∈ f, a ∈ f0) → Ow K B H s v d f → Rp K (frzB B H f0) v d
  | .dat, _, _, _, _, _, ⟨_, r⟩ => r.gr (frzB_gr h0)
  | .lst s, _, _, _, n, i, ⟨a, xs, ds, f, e1, e2, e3, e4, h⟩ => by
    subst e1; subst e2
    refine .lst (xs := xs) ?_ (Ows.rps (f0 := f0) (fun v d u hu r => Ow.rp (s := s) h0 n hu r) (fun b m => i b (by rw [e3]; exact List.mem_cons_of_mem _ m)) h)
    unfold frzB
    rw [if_pos (i a (by rw [e3]; exact List.mem_cons_self))]; exact e4
  | .dic s, _, _, _, n, _, _ => by cases n
  | .opt s, _, _, _, n, i, h => h.elim (fun h => h.2.2.gr (frzB_gr h0)) fun h => Ow.rp (s := s) h0 n i h
end
end ON

set_option Elab.async false
set_option linter.all false
set_option maxRecDepth 100000
set_option maxHeartbeats 2000000
/-! N2: slots, the state that a law draws from, what holds of a frame. -/
namespace ON
open PySem L2

/-- the state that is drawn from: the numbered one, the one of digits -/
inductive SK where
  | run (cells : List Int) (names : Option (List Str))
  | left
inductive SD where
  | un
  | dat (d : D)
  | own (s : Sh) (d : D)
  | sr (q : SK)
def SD.ow : SD → Bool
  | .own _ _ => true
  | _ => false
/-- the state: what it is, its cells, its names -/
structure Sa where
  q : SK
  cp : Addr
  nv : Option V
/-- a def's frame: the heap and the data at its entry; the state; what else is owned -/
structure Fr where
  H0 : Hp
  B0 : Hp
  sa : Option (Addr × Sa)
  ex : List (V × Sh × D)
def Fr.push (F : Fr) (v : V) (s : Sh) (d : D) : Fr := { F with ex := F.ex ++ [(v, s, d)] }
def stKvs (cv : V) (k : Int) (nv : Option V) : List (Key × V) := match nv with
  | some n => [(.inr "cells", cv), (.inr "at", .int k), (.inr "names", n)]
  | none => [(.inr "cells", cv), (.inr "at", .int k)]
def StHO (K : PySem.W.Frag) (B : Hp) (k : Int) (w : Sa) (o : Option HO) : Prop := match w.q with
  | .run cells names => o = some (.dK (stKvs (.ref w.cp) k w.nv)) ∧ SqL K B w.cp (cells.map V.int) ∧ (match names, w.nv with | some ns, some n => Rp K B n (.lst (ns.map .str)) | none, none => True | _, _ => False)
  | .left => o = some (.dK [(.inr "left", .int k)])
/-- the state stands at a -/
def StAt (K : PySem.W.Frag) (B H : Hp) (a : Addr) (q : Sa) (k : Int) : Prop := B a = none ∧ StHO K B k q (H a)
def SOk (K : PySem.W.Frag) (F : Fr) (B H : Hp) (o : Option V) : SD → List Addr → Prop
  | .un, f => f = []
  | .dat d, f => f = [] ∧ ∃ v, o = some v ∧ Rp K B v d
  | .own s d, f => ∃ v, o = some v ∧ Ow K B H s v d f
  | .sr q, f => f = [] ∧ ∃ a w, o = some (.ref a) ∧ F.sa = some (a, w) ∧ w.q = q
/-- what may own: a slot, or what the frame holds besides -/
def cell (F : Fr) (σ : L2.St) (sd : List SD) : Nat ⊕ Nat → Option (Option V × SD)
  | .inl i => match sd[i]?, σ[i]? with
    | some d, some o => some (o, d)
    | _, _ => none
  | .inr j => (F.ex[j]?).map fun e => (some e.1, .own e.2.1 e.2.2)
structure Pool (K : PySem.W.Frag) (F : Fr) (σ : L2.St) (B H : Hp) (sd : List SD) (g : Nat ⊕ Nat → List Addr) : Prop where
  ok : ∀ x c, cell F σ sd x = some c → SOk K F B H c.1 c.2 (g x)
  no : ∀ x, cell F σ sd x = none → g x = []
  nd : ∀ x, (g x).Nodup
  dj : ∀ x y a, a ∈ g x → a ∈ g y → x = y
  b : ∀ x a, a ∈ g x → B a = none
  h0 : ∀ x a, a ∈ g x → F.H0 a = none
  sa : ∀ x a, a ∈ g x → ∀ s, F.sa = some s → s.1 ≠ a
structure Rel (K : PySem.W.Frag) (F : Fr) (σ : L2.St) (B H : Hp) (sd : List SD) (k : Int) : Prop where
  len : sd.length = σ.length
  bh : Gr B H
  b0 : Gr F.B0 B
  bn : ∀ a o, B a = some o → F.B0 a = none → F.H0 a = none
  fr : ∀ a o, F.H0 a = some o → (∀ s, F.sa = some s → s.1 ≠ a) → H a = some o
  st : ∀ s, F.sa = some s → StAt K B H s.1 s.2 k
  pool : ∃ g, Pool K F σ B H sd g
section
variable {K : PySem.W.Frag} {F F' : Fr} {σ σ' : L2.St} {B H B' H' : Hp} {sd sd' : List SD} {k k' : Int} {g : Nat ⊕ Nat → List Addr}
theorem SOk.inH {o : Option V} {d : SD} {f : List Addr} (h : SOk K F B H o d f) : ∀ a ∈ f, H a ≠ none := fun a m => by
  cases d with
  | un => rw [show f = [] from h] at m; cases m
  | dat d => rw [h.1] at m; cases m
  | own s d => obtain ⟨v, _, h⟩ := h; exact h.some a m
  | sr q => rw [h.1] at m; cases m
theorem SOk.frame {o : Option V} {d : SD} {f : List Addr} (gr : Gr B B') (hs : F'.sa = F.sa) (hk : ∀ a ∈ f, H' a = H a) (h : SOk K F B H o d f) : SOk K F' B' H' o d f := by
  cases d with
  | un => exact h
  | dat d => obtain ⟨e, v, ho, r⟩ := h; exact ⟨e, v, ho, r.gr gr⟩
  | own s d => obtain ⟨v, e, h⟩ := h; exact ⟨v, e, h.frame gr hk⟩
  | sr q => obtain ⟨e, a, w, ho, hsa, hw⟩ := h; exact ⟨e, a, w, ho, hs.trans hsa, hw⟩
theorem Pool.inH (p : Pool K F σ B H sd g) : ∀ x a, a ∈ g x → H a ≠ none := fun x a m => by
  cases e : cell F σ sd x with
  | none => rw [p.no x e] at m; cases m
  | some c => exact (p.ok x c e).inH a m
theorem StAt.gr {C : Hp} {a : Addr} {q : Sa} (g : Gr B C) (hc : C a = none) (h : StAt K B H a q k) : StAt K C H a q k := by
  obtain ⟨_, h⟩ := h
  refine ⟨hc, ?_⟩
  obtain ⟨q, cp, nv⟩ := q
  cases q with
  | run c n =>
    obtain ⟨hh, hq, hn⟩ := h
    refine ⟨hh, g.sqL hq, ?_⟩
    cases n <;> cases nv <;> first | exact hn | exact Rp.gr g hn
  | left => exact h
/-- the state read off a later heap, over the data of before -/
theorem StAt.back {B2 H2 : Hp} {a : Addr} {q : Sa} {k k' : Int} (h : StAt K B H a q k) (h2 : StAt K B2 H2 a q k') : StAt K B H2 a q k' := by
  obtain ⟨b, h⟩ := h
  obtain ⟨_, h2⟩ := h2
  refine ⟨b, ?_⟩
  obtain ⟨q, cp, nv⟩ := q
  cases q with
  | run c n =>
    obtain ⟨hh, hq, hn⟩ := h
    exact ⟨h2.1, hq, hn⟩
  | left => exact h2
theorem StAt.heap {a : Addr} {q : Sa} (e : H' a = H a) (h : StAt K B H a q k) : StAt K B H' a q k := by
  obtain ⟨h1, h2⟩ := h
  exact ⟨h1, by rw [e]; exact h2⟩
theorem StAt.inH {a : Addr} {q : Sa} (h : StAt K B H a q k) : ∃ o, H a = some o := by
  obtain ⟨_, h⟩ := h
  obtain ⟨q, cp, nv⟩ := q
  cases q with
  | run c n => obtain ⟨hh, _⟩ := h; exact ⟨_, hh⟩
  | left => exact ⟨_, h⟩
/-- the cells of S change, the others stay -/
theorem Pool.move (p : Pool K F σ B H sd g) (S : Nat ⊕ Nat → Bool) (g' : Nat ⊕ Nat → List Addr) (gr : Gr B B') (hs : F'.sa = F.sa) (h0 : F'.H0 = F.H0)
    (same : ∀ x, S x = false → cell F' σ' sd' x = cell F σ sd x)
    (keep : ∀ x a, S x = false → a ∈ g x → H' a = H a ∧ B' a = none)
    (news : ∀ x c, S x = true → cell F' σ' sd' x = some c → SOk K F' B' H' c.1 c.2 (g' x)) (newn : ∀ x, S x = true → cell F' σ' sd' x = none → g' x = [])
    (nd : ∀ x, S x = true → (g' x).Nodup) (dj : ∀ x y a, S x = true → S y = true → a ∈ g' x → a ∈ g' y → x = y)
    (from_ : ∀ x a, S x = true → a ∈ g' x → B' a = none ∧ ((∃ y, S y = true ∧ a ∈ g y) ∨ (F.H0 a = none ∧ (∀ s, F.sa = some s → s.1 ≠ a) ∧ ∀ y, a ∉ g y))) :
    Pool K F' σ' B' H' sd' (fun x => if S x = true then g' x else g x) where
  ok := fun x c e => by
    cases hS : S x with
    | true => simp only [if_true]; exact news x c hS e
    | false =>
      simp only [Bool.false_eq_true, if_false]
      exact (p.ok x c (by rw [← same x hS]; exact e)).frame gr hs fun a m => (keep x a hS m).1
  no := fun x e => by
    cases hS : S x with
    | true => simp only [if_true]; exact newn x hS e
    | false => simp only [Bool.false_eq_true, if_false]; exact p.no x (by rw [← same x hS]; exact e)
  nd := fun x => by
    cases hS : S x with
    | true => simp only [if_true]; exact nd x hS
    | false => simp only [Bool.false_eq_true, if_false]; exact p.nd x
  dj := fun x y a mx my => by
    have key : ∀ x y, S x = true → S y = false → a ∈ g' x → a ∈ g y → False := fun x y h1 h2 m1 m2 => by
      rcases (from_ x a h1 m1).2 with ⟨z, hz, mz⟩ | ⟨_, _, q⟩
      · obtain rfl := p.dj z y a mz m2
        rw [hz] at h2; cases h2
      · exact q y m2
    cases hx : S x with
    | true =>
      simp only [hx, if_true] at mx
      cases hy : S y with
      | true => simp only [hy, if_true] at my; exact dj x y a hx hy mx my
      | false => simp only [hy, Bool.false_eq_true, if_false] at my; exact (key x y hx hy mx my).elim
    | false =>
      simp only [hx, Bool.false_eq_true, if_false] at mx
      cases hy : S y with
      | true => simp only [hy, if_true] at my; exact (key y x hy hx my mx).elim
      | false => simp only [hy, Bool.false_eq_true, if_false] at my; exact p.dj x y a mx my
  b := fun x a m => by
    cases hS : S x with
    | true => simp only [hS, if_true] at m; exact (from_ x a hS m).1
    | false => simp only [hS, Bool.false_eq_true, if_false] at m; exact (keep x a hS m).2
  h0 := fun x a m => by
    rw [h0]
    cases hS : S x with
    | true =>
      simp only [hS, if_true] at m
      rcases (from_ x a hS m).2 with ⟨z, _, mz⟩ | ⟨q, _, _⟩
      · exact p.h0 z a mz
      · exact q
    | false => simp only [hS, Bool.false_eq_true, if_false] at m; exact p.h0 x a m
  sa := fun x a m s e => by
    rw [hs] at e
    cases hS : S x with
    | true =>
      simp only [hS, if_true] at m
      rcases (from_ x a hS m).2 with ⟨z, _, mz⟩ | ⟨_, q, _⟩
      · exact p.sa z a mz s e
      · exact q s e
    | false => simp only [hS, Bool.false_eq_true, if_false] at m; exact p.sa x a m s e
theorem Rel.h0free (R : Rel K F σ B H sd k) {p : Addr} (h : H p = none) : F.H0 p = none ∧ ∀ s, F.sa = some s → s.1 ≠ p := by
  have hsa : ∀ s, F.sa = some s → s.1 ≠ p := fun s es z => by
    obtain ⟨o, ho⟩ := (R.st s es).inH
    rw [z, h] at ho; cases ho
  refine ⟨?_, hsa⟩
  cases e : F.H0 p with
  | none => rfl
  | some u => have z := R.fr p u e hsa; rw [h] at z; cases z
theorem upd_gr {p : Addr} {o : HO} (h : H p = none) : Gr H (upd H p o) := Gr.new h
/-- heap and data grow at new places -/
theorem Rel.called (R : Rel K F σ B H sd k) (g1 : Gr B B') (g2 : Gr B' H') (g3 : Gr H H') (hn : ∀ a o, B' a = some o → B a = none → H a = none) : Rel K F σ B' H' sd k where
  len := R.len
  bh := g2
  b0 := R.b0.trans g1
  bn := fun a o e e0 => by
    cases h : B a with
    | some u => exact R.bn a u h e0
    | none => exact (R.h0free (hn a o e h)).1
  fr := fun a o e s => g3 a o (R.fr a o e s)
  st := fun s e => by
    have h1 := R.st s e
    have hb : B' s.1 = none := by
      cases h : B' s.1 with
      | none => rfl
      | some u => obtain ⟨o, ho⟩ := h1.inH; rw [hn _ _ h h1.1] at ho; cases ho
    refine (h1.gr g1 hb).heap ?_
    obtain ⟨o, ho⟩ := h1.inH
    rw [ho]; exact g3 _ _ ho
  pool := by
    obtain ⟨g, p⟩ := R.pool
    have z := p.move (F' := F) (σ' := σ) (sd' := sd) (B' := B') (H' := H') (fun _ => false) g g1 rfl rfl (fun _ _ => rfl) (fun x a _ m => by
      have hs := p.inH x a m
      refine ⟨?_, ?_⟩
      · cases e : H a with
        | none => exact absurd e hs
        | some o => exact g3 a o e
      · cases h : B' a with
        | none => rfl
        | some u => exact absurd (hn a u h (p.b x a m)) hs) (fun _ _ e => nomatch e) (fun _ e => nomatch e) (fun _ e => nomatch e) (fun _ _ _ e => nomatch e) (fun _ _ e => nomatch e)
    exact ⟨_, z⟩
theorem Rel.alloc {p : Addr} {o : HO} (R : Rel K F σ B H sd k) (h : H p = none) : Rel K F σ B (upd H p o) sd k :=
  R.called (Gr.refl B) (R.bh.trans (Gr.new h)) (Gr.new h) fun a u e e0 => by rw [e] at e0; cases e0
/-- a new thing, at once data -/
theorem Rel.data {p : Addr} {o : HO} (R : Rel K F σ B H sd k) (h : H p = none) : Rel K F σ (upd B p o) (upd H p o) sd k ∧ Gr B (upd B p o) := by
  have gB : Gr B (upd B p o) := Gr.new (R.bh.back h)
  refine ⟨R.called gB (fun a u e => ?_) (Gr.new h) (fun a u e e0 => ?_), gB⟩
  · by_cases c : a = p
    · subst c; rw [upd_same] at e ⊢; exact e
    · rw [upd_ne c] at e ⊢; exact R.bh a u e
  · by_cases c : a = p
    · subst c; exact h
    · rw [upd_ne c] at e; rw [e] at e0; cases e0
/-- the state changed -/
theorem Rel.drew {a : Addr} {q : Sa} (R : Rel K F σ B H sd k) (hs : F.sa = some (a, q)) (g1 : Gr B B') (g2 : Gr B' H') (g3 : ∀ b o, b ≠ a → H b = some o → H' b = some o) (hS : StAt K B' H' a q k')
    (hn : ∀ a o, B' a = some o → B a = none → H a = none) : Rel K F σ B' H' sd k' where
  len := R.len
  bh := g2
  b0 := R.b0.trans g1
  bn := fun a o e e0 => by
    cases h : B a with
    | some u => exact R.bn a u h e0
    | none => exact (R.h0free (hn a o e h)).1
  fr := fun b o e s => g3 b o (fun z => s _ hs z.symm) (R.fr b o e s)
  st := fun s e => by rw [hs] at e; cases e; exact hS
  pool := by
    obtain ⟨g, p⟩ := R.pool
    have z := p.move (F' := F) (σ' := σ) (sd' := sd) (B' := B') (H' := H') (fun _ => false) g g1 rfl rfl (fun _ _ => rfl) (fun x b _ m => by
      have hs2 := p.inH x b m
      refine ⟨?_, ?_⟩
      · cases e : H b with
        | none => exact absurd e hs2
        | some o => exact g3 b o (fun z => p.sa x b m _ hs z.symm) e
      · cases h : B' b with
        | none => rfl
        | some u => exact absurd (hn b u h (p.b x b m)) hs2) (fun _ _ e => nomatch e) (fun _ e => nomatch e) (fun _ e => nomatch e) (fun _ _ _ e => nomatch e) (fun _ _ e => nomatch e)
    exact ⟨_, z⟩
theorem cell_set_ne {i : Nat} {o : Option V} {d : SD} {x : Nat ⊕ Nat} (h : x ≠ .inl i) : cell F (σ.set i o) (sd.set i d) x = cell F σ sd x := by
  cases x with
  | inl j =>
    have ne : i ≠ j := fun z => h (by rw [z])
    simp only [cell]
    rw [List.getElem?_set_ne ne, List.getElem?_set_ne ne]
  | inr j => rfl
theorem cell_set {i : Nat} {o : Option V} {d : SD} (h1 : i < sd.length) (h2 : i < σ.length) : cell F (σ.set i o) (sd.set i d) (.inl i) = some (o, d) := by
  simp only [cell]
  rw [List.getElem?_set_self h1, List.getElem?_set_self h2]
/-- slot i: what is there, and what may be put there -/
theorem Rel.slot {i : Nat} {d : SD} (R : Rel K F σ B H sd k) (hi : sd[i]? = some d) : ∃ o f, σ[i]? = some o ∧ SOk K F B H o d f ∧ f.Nodup ∧ (∀ a ∈ f, B a = none ∧ F.H0 a = none ∧ ∀ s, F.sa = some s → s.1 ≠ a) ∧
    ∀ (o' : Option V) (d' : SD) (f' : List Addr) (B' H' : Hp), SOk K F B' H' o' d' f' → f'.Nodup → (∀ a ∈ f', B' a = none ∧ (a ∈ f ∨ H a = none)) → (∀ a u, a ∉ f → H a = some u → H' a = some u) → Gr B B' → Gr B' H' →
      (∀ a u, B' a = some u → B a = none → a ∈ f ∨ H a = none) → Rel K F (σ.set i o') B' H' (sd.set i d') k := by
  obtain ⟨g, p⟩ := R.pool
  have li : i < sd.length := (List.getElem?_eq_some_iff.mp hi).1
  have lo : i < σ.length := by rw [← R.len]; exact li
  have ho : σ[i]? = some σ[i] := List.getElem?_eq_getElem lo
  have hc : cell F σ sd (.inl i) = some (σ[i], d) := by simp only [cell]; rw [hi, ho]
  refine ⟨σ[i], g (.inl i), ho, p.ok _ _ hc, p.nd _, fun a m => ⟨p.b _ a m, p.h0 _ a m, p.sa _ a m⟩, fun o' d' f' B' H' hok hnd hin hkeep gB gH hB => ?_⟩
  have hnB : ∀ a u, B' a = some u → B a = none → F.H0 a = none ∧ ∀ s, F.sa = some s → s.1 ≠ a := fun a u e e0 => by
    rcases hB a u e e0 with m | h
    · exact ⟨p.h0 _ a m, p.sa _ a m⟩
    · exact R.h0free h
  refine ⟨by rw [List.length_set, List.length_set]; exact R.len, gH, R.b0.trans gB, fun a u e e0 => ?_, fun a u e s => ?_, fun s e => ?_, ?_⟩
  · cases h : B a with
    | some w => exact R.bn a w h e0
    | none => exact (hnB a u e h).1
  · exact hkeep a u (fun m => by rw [p.h0 _ a m] at e; cases e) (R.fr a u e s)
  · have h1 := R.st s e
    have hb : B' s.1 = none := by
      cases h : B' s.1 with
      | none => rfl
      | some u => exact absurd rfl ((hnB _ u h h1.1).2 s e)
    refine (h1.gr gB hb).heap ?_
    obtain ⟨u, hu⟩ := h1.inH
    rw [hu]; exact hkeep _ u (fun m => p.sa _ _ m s e rfl) hu
  · refine ⟨_, p.move (F' := F) (fun x => decide (x = .inl i)) (fun _ => f') gB rfl rfl (fun x hx => cell_set_ne (of_decide_eq_false hx)) (fun x a hx m => ?_) (fun x c hx e => ?_) (fun x hx e => ?_) (fun _ _ => hnd) (fun x y a hx hy _ _ => (of_decide_eq_true hx).trans (of_decide_eq_true hy).symm) fun x a hx m => ?_⟩
    · have ni : a ∉ g (.inl i) := fun m2 => of_decide_eq_false hx (p.dj _ _ a m m2)
      refine ⟨?_, ?_⟩
      · cases e : H a with
        | none => exact absurd e (p.inH x a m)
        | some u => exact hkeep a u ni e
      · cases h : B' a with
        | none => rfl
        | some u =>
          rcases hB a u h (p.b x a m) with m2 | h2
          · exact absurd m2 ni
          · exact absurd h2 (p.inH x a m)
    · obtain rfl := of_decide_eq_true hx
      rw [cell_set li lo] at e; cases e
      exact hok
    · obtain rfl := of_decide_eq_true hx
      rw [cell_set li lo] at e; cases e
    · obtain ⟨m1, m2⟩ := hin a m
      refine ⟨m1, ?_⟩
      rcases m2 with m2 | m2
      · exact .inl ⟨.inl i, decide_eq_true rfl, m2⟩
      · obtain ⟨q1, q2⟩ := R.h0free m2
        exact .inr ⟨q1, q2, fun y my => p.inH y a my m2⟩
/-- a slot set: what was there is dropped -/
theorem Rel.setDat {i : Nat} {v : V} {d : D} (R : Rel K F σ B H sd k) (r : Rp K B v d) : Rel K F (σ.set i (some v)) B H (sd.set i (.dat d)) k := by
  by_cases c : i < sd.length
  · obtain ⟨o, f, _, _, _, _, q⟩ := R.slot (List.getElem?_eq_getElem c)
    exact q _ _ [] B H ⟨rfl, v, rfl, r⟩ .nil (fun a m => nomatch m) (fun a u _ e => e) (Gr.refl B) R.bh fun a u e e0 => by rw [e] at e0; cases e0
  · have hl := R.len; rw [List.set_eq_of_length_le (show σ.length ≤ i by omega), List.set_eq_of_length_le (show sd.length ≤ i by omega)]; exact R
theorem Rel.setUn {i : Nat} {o' : Option V} (R : Rel K F σ B H sd k) : Rel K F (σ.set i o') B H (sd.set i .un) k := by
  by_cases c : i < sd.length
  · obtain ⟨o, f, _, _, _, _, q⟩ := R.slot (List.getElem?_eq_getElem c)
    exact q _ _ [] B H rfl .nil (fun a m => nomatch m) (fun a u _ e => e) (Gr.refl B) R.bh fun a u e e0 => by rw [e] at e0; cases e0
  · have hl := R.len; rw [List.set_eq_of_length_le (show σ.length ≤ i by omega), List.set_eq_of_length_le (show sd.length ≤ i by omega)]; exact R
theorem σ_set_self {i : Nat} {o : Option V} (h : σ[i]? = some o) : σ.set i o = σ := by
  obtain ⟨h1, h2⟩ := List.getElem?_eq_some_iff.mp h
  subst h2; exact List.set_getElem_self h1
theorem Rel.forget {i : Nat} (R : Rel K F σ B H sd k) : Rel K F σ B H (sd.set i .un) k := by
  by_cases c : i < sd.length
  · obtain ⟨o, f, ho, _, _, _, q⟩ := R.slot (List.getElem?_eq_getElem c)
    have z := q o .un [] B H rfl .nil (fun a m => nomatch m) (fun a u _ e => e) (Gr.refl B) R.bh fun a u e e0 => by rw [e] at e0; cases e0
    rw [σ_set_self ho] at z; exact z
  · rw [List.set_eq_of_length_le (by omega)]; exact R
/-- a slot's data read -/
theorem Rel.dat {i : Nat} {d : D} (R : Rel K F σ B H sd k) (hi : sd[i]? = some (.dat d)) : ∃ v, σ[i]? = some (some v) ∧ Rp K B v d := by
  obtain ⟨o, f, ho, ⟨_, v, rfl, r⟩, _⟩ := R.slot hi
  exact ⟨v, ho, r⟩
/-- an owned slot becomes data -/
theorem Rel.frz {i : Nat} {s : Sh} {d : D} (R : Rel K F σ B H sd k) (hi : sd[i]? = some (.own s d)) (hn : s.nd = true) : ∃ B', Rel K F σ B' H (sd.set i (.dat d)) k ∧ Gr B B' := by
  obtain ⟨o, f, ho, ⟨v, rfl, w⟩, nd, hf, q⟩ := R.slot hi
  have hb : ∀ a ∈ f, B a = none := fun a m => (hf a m).1
  have g := frzB_gr (H := H) hb
  have z := q (some v) (.dat d) [] (frzB B H f) H ⟨rfl, v, rfl, w.rp hb hn (fun _ m => m)⟩ .nil (fun a m => nomatch m) (fun a u _ e => e) g (fun a u e => ?_) (fun a u e e0 => ?_)
  · rw [σ_set_self ho] at z
    exact ⟨_, z, g⟩
  · unfold frzB at e
    by_cases c : a ∈ f
    · rw [if_pos c] at e; exact e
    · rw [if_neg c] at e; exact R.bh a u e
  · unfold frzB at e
    by_cases c : a ∈ f
    · exact .inl c
    · rw [if_neg c, e0] at e; cases e

/-! ### what the frame holds besides -/
theorem cell_push_ne {v : V} {s : Sh} {d : D} {x : Nat ⊕ Nat} (h : x ≠ .inr F.ex.length) : cell (F.push v s d) σ sd x = cell F σ sd x := by
  cases x with
  | inl j => rfl
  | inr j =>
    show ((F.ex ++ [(v, s, d)])[j]?).map _ = (F.ex[j]?).map _
    have ne : j ≠ F.ex.length := fun z => h (by rw [z])
    by_cases c : j < F.ex.length
    · rw [List.getElem?_append_left c]
    · rw [List.getElem?_eq_none (by rw [List.length_append]; simp; omega), List.getElem?_eq_none (by omega)]
theorem cell_push {v : V} {s : Sh} {d : D} : cell (F.push v s d) σ sd (.inr F.ex.length) = some (some v, .own s d) := by
  show ((F.ex ++ [(v, s, d)])[F.ex.length]?).map _ = _
  rw [List.getElem?_append_right (Nat.le_refl _), Nat.sub_self]; rfl
theorem cell_top : cell F σ sd (.inr F.ex.length) = none := by
  show (F.ex[F.ex.length]?).map _ = none
  rw [List.getElem?_eq_none (Nat.le_refl _)]; rfl
/-- a new owned thing -/
theorem Rel.push {v : V} {s : Sh} {d : D} {f : List Addr} (R : Rel K F σ B H sd k) (w : Ow K B' H' s v d f) (nd : f.Nodup) (hf : ∀ a ∈ f, B' a = none ∧ H a = none) (g1 : Gr B B') (g2 : Gr B' H') (g3 : Gr H H') (hn : ∀ a o, B' a = some o → B a = none → H a = none) :
    Rel K (F.push v s d) σ B' H' sd k := by
  have R' := R.called g1 g2 g3 hn
  obtain ⟨g, p⟩ := R.pool
  refine ⟨R'.len, R'.bh, R'.b0, R'.bn, R'.fr, R'.st, _, p.move (F' := F.push v s d) (fun x => decide (x = .inr F.ex.length)) (fun _ => f) g1 rfl rfl (fun x hx => cell_push_ne (of_decide_eq_false hx)) (fun x a hx m => ?_) (fun x c hx e => ?_) (fun x hx e => ?_) (fun _ _ => nd) (fun x y a hx hy _ _ => (of_decide_eq_true hx).trans (of_decide_eq_true hy).symm) fun x a hx m => ?_⟩
  · refine ⟨?_, ?_⟩
    · cases e : H a with
      | none => exact absurd e (p.inH x a m)
      | some u => exact g3 a u e
    · cases h : B' a with
      | none => rfl
      | some u => exact absurd (hn a u h (p.b x a m)) (p.inH x a m)
  · obtain rfl := of_decide_eq_true hx
    rw [cell_push] at e; cases e
    exact ⟨v, rfl, w⟩
  · obtain rfl := of_decide_eq_true hx
    rw [cell_push] at e; cases e
  · obtain ⟨m1, m2⟩ := hf a m
    obtain ⟨q1, q2⟩ := R.h0free m2
    exact ⟨m1, .inr ⟨q1, q2, fun y my => p.inH y a my m2⟩⟩
/-- the last thing held: what it is, and what may become of it -/
theorem Rel.top {v : V} {s : Sh} {d : D} (R : Rel K (F.push v s d) σ B H sd k) : ∃ f, Ow K B H s v d f ∧ f.Nodup ∧ (∀ a ∈ f, B a = none ∧ F.H0 a = none ∧ ∀ s, F.sa = some s → s.1 ≠ a) ∧
    (∀ (B' H' : Hp), (∀ a u, a ∉ f → H a = some u → H' a = some u) → Gr B B' → Gr B' H' → (∀ a u, B' a = some u → B a = none → a ∈ f ∨ H a = none) →
      Rel K F σ B' H' sd k ∧
      (∀ v' s' d' f', Ow K B' H' s' v' d' f' → f'.Nodup → (∀ a ∈ f', B' a = none ∧ (a ∈ f ∨ H a = none)) → Rel K (F.push v' s' d') σ B' H' sd k) ∧
      (∀ i o' d' f', SOk K F B' H' o' d' f' → f'.Nodup → (∀ a ∈ f', B' a = none ∧ (a ∈ f ∨ H a = none)) → Rel K F (σ.set i o') B' H' (sd.set i d') k)) := by
  obtain ⟨g, p⟩ := R.pool
  obtain ⟨v1, e1, w⟩ := p.ok (.inr F.ex.length) _ cell_push
  cases e1
  have h0 : ∀ a, a ∈ g (.inr F.ex.length) → F.H0 a = none := fun a m => p.h0 _ a m
  have hsa : ∀ a, a ∈ g (.inr F.ex.length) → ∀ s, F.sa = some s → s.1 ≠ a := fun a m => p.sa _ a m
  refine ⟨g (.inr F.ex.length), w, p.nd _, fun a m => ⟨p.b _ a m, h0 a m, hsa a m⟩, fun B' H' hkeep gB gH hB => ?_⟩
  have free : ∀ {a}, H a = none → F.H0 a = none ∧ ∀ s, F.sa = some s → s.1 ≠ a := fun {a} h => R.h0free h
  have hnB : ∀ a u, B' a = some u → B a = none → F.H0 a = none ∧ ∀ s, F.sa = some s → s.1 ≠ a := fun a u e e0 => by
    rcases hB a u e e0 with m | h
    · exact ⟨h0 a m, hsa a m⟩
    · exact free h
  have b0 : Gr F.B0 B' := fun a o e => gB a o (R.b0 a o e)
  have bn : ∀ a o, B' a = some o → F.B0 a = none → F.H0 a = none := fun a u e e0 => by
    cases h : B a with
    | some w => exact R.bn a w h e0
    | none => exact (hnB a u e h).1
  have fr : ∀ a o, F.H0 a = some o → (∀ s, F.sa = some s → s.1 ≠ a) → H' a = some o := fun a u e s => hkeep a u (fun m => by rw [h0 a m] at e; cases e) (R.fr a u e s)
  have st : ∀ s, F.sa = some s → StAt K B' H' s.1 s.2 k := fun s e => by
    have h1 := R.st s e
    have hb : B' s.1 = none := by
      cases h : B' s.1 with
      | none => rfl
      | some u => exact absurd rfl ((hnB _ u h h1.1).2 s e)
    refine (h1.gr gB hb).heap ?_
    obtain ⟨u, hu⟩ := h1.inH
    rw [hu]; exact hkeep _ u (fun m => hsa _ m s e rfl) hu
  have keep : ∀ x a, x ≠ .inr F.ex.length → a ∈ g x → H' a = H a ∧ B' a = none := fun x a hx m => by
    have ni : a ∉ g (.inr F.ex.length) := fun m2 => hx (p.dj _ _ a m m2)
    refine ⟨?_, ?_⟩
    · cases e : H a with
      | none => exact absurd e (p.inH x a m)
      | some u => exact hkeep a u ni e
    · cases h : B' a with
      | none => rfl
      | some u =>
        rcases hB a u h (p.b x a m) with m2 | h2
        · exact absurd m2 ni
        · exact absurd h2 (p.inH x a m)
  refine ⟨⟨R.len, gH, b0, bn, fr, st, _, p.move (F' := F) (fun x => decide (x = .inr F.ex.length)) (fun _ => []) gB rfl rfl (fun x hx => (cell_push_ne (of_decide_eq_false hx)).symm) (fun x a hx m => keep x a (of_decide_eq_false hx) m) (fun x c hx e => ?_) (fun _ _ _ => rfl) (fun _ _ => .nil) (fun x y a hx hy m _ => nomatch m) fun x a hx m => nomatch m⟩, fun v' s' d' f' w' nd' hf' => ?_, fun i o' d' f' hok hnd hin => ?_⟩
  · obtain rfl := of_decide_eq_true hx
    rw [cell_top] at e; cases e
  · refine ⟨R.len, gH, b0, bn, fr, st, _, p.move (F' := F.push v' s' d') (fun x => decide (x = .inr F.ex.length)) (fun _ => f') gB rfl rfl (fun x hx => by rw [cell_push_ne (of_decide_eq_false hx), cell_push_ne (of_decide_eq_false hx)]) (fun x a hx m => keep x a (of_decide_eq_false hx) m) (fun x c hx e => ?_) (fun x hx e => ?_) (fun _ _ => nd') (fun x y a hx hy _ _ => (of_decide_eq_true hx).trans (of_decide_eq_true hy).symm) fun x a hx m => ?_⟩
    · obtain rfl := of_decide_eq_true hx
      rw [cell_push] at e; cases e
      exact ⟨v', rfl, w'⟩
    · obtain rfl := of_decide_eq_true hx
      rw [cell_push] at e; cases e
    · obtain ⟨m1, m2⟩ := hf' a m
      refine ⟨m1, ?_⟩
      rcases m2 with m2 | m2
      · exact .inl ⟨_, decide_eq_true rfl, m2⟩
      · obtain ⟨q1, q2⟩ := free m2
        exact .inr ⟨q1, q2, fun y my => p.inH y a my m2⟩
  · by_cases c : i < sd.length
    · have lo : i < σ.length := by rw [← R.len]; exact c
      refine ⟨by rw [List.length_set, List.length_set]; exact R.len, gH, b0, bn, fr, st, _, p.move (F' := F) (fun x => decide (x = .inr F.ex.length) || decide (x = .inl i)) (fun x => if x = .inl i then f' else []) gB rfl rfl (fun x hx => ?_) (fun x a hx m => ?_) (fun x cc hx e => ?_) (fun x hx e => ?_) (fun x _ => ?_) (fun x y a hx hy mx my => ?_) fun x a hx m => ?_⟩
      · have h1 : x ≠ .inr F.ex.length := fun z => by subst z; simp at hx
        have h2 : x ≠ .inl i := fun z => by subst z; simp at hx
        rw [cell_set_ne h2, cell_push_ne h1]
      · refine keep x a (fun z => ?_) m
        subst z; simp at hx
      · by_cases h2 : x = .inl i
        · subst h2
          rw [cell_set c lo] at e; cases e
          rw [if_pos rfl]; exact hok
        · have h1 : x = .inr F.ex.length := by
            simp only [Bool.or_eq_true, decide_eq_true_eq] at hx
            exact hx.resolve_right h2
          subst h1
          rw [cell_set_ne h2, cell_top] at e; cases e
      · by_cases h2 : x = .inl i
        · subst h2
          rw [cell_set c lo] at e; cases e
        · rw [if_neg h2]
      · split
        · exact hnd
        · exact .nil
      · by_cases h2 : x = .inl i
        · by_cases h3 : y = .inl i
          · exact h2.trans h3.symm
          · rw [if_neg h3] at my; cases my
        · rw [if_neg h2] at mx; cases mx
      · by_cases h2 : x = .inl i
        · rw [if_pos h2] at m
          obtain ⟨m1, m2⟩ := hin a m
          refine ⟨m1, ?_⟩
          rcases m2 with m2 | m2
          · exact .inl ⟨.inr F.ex.length, by simp, m2⟩
          · obtain ⟨q1, q2⟩ := free m2
            exact .inr ⟨q1, q2, fun y my => p.inH y a my m2⟩
        · rw [if_neg h2] at m; cases m
    · have hl := R.len; rw [List.set_eq_of_length_le (show σ.length ≤ i by omega), List.set_eq_of_length_le (show sd.length ≤ i by omega)]
      refine ⟨R.len, gH, b0, bn, fr, st, _, p.move (F' := F) (fun x => decide (x = .inr F.ex.length)) (fun _ => []) gB rfl rfl (fun x hx => (cell_push_ne (of_decide_eq_false hx)).symm) (fun x a hx m => keep x a (of_decide_eq_false hx) m) (fun x c hx e => ?_) (fun _ _ _ => rfl) (fun _ _ => .nil) (fun x y a hx hy m _ => nomatch m) fun x a hx m => nomatch m⟩
      obtain rfl := of_decide_eq_true hx
      rw [cell_top] at e; cases e
theorem Rel.pop {v : V} {s : Sh} {d : D} (R : Rel K (F.push v s d) σ B H sd k) : Rel K F σ B H sd k := by
  obtain ⟨f, _, _, _, q⟩ := R.top
  exact (q B H (fun a u _ e => e) (Gr.refl B) R.bh fun a u e e0 => by rw [e] at e0; cases e0).1
theorem Rel.toSlot {v : V} {s : Sh} {d : D} {i : Nat} (R : Rel K (F.push v s d) σ B H sd k) : Rel K F (σ.set i (some v)) B H (sd.set i (.own s d)) k := by
  obtain ⟨f, w, nd, hf, q⟩ := R.top
  exact (q B H (fun a u _ e => e) (Gr.refl B) R.bh fun a u e e0 => by rw [e] at e0; cases e0).2.2 i _ _ f ⟨v, rfl, w⟩ nd fun a m => ⟨(hf a m).1, .inl m⟩
/-- what is held becomes data -/
theorem Rel.frzX {v : V} {s : Sh} {d : D} (R : Rel K (F.push v s d) σ B H sd k) (hn : s.nd = true) : ∃ B', Rel K F σ B' H sd k ∧ Gr B B' ∧ Rp K B' v d := by
  obtain ⟨f, w, nd, hf, q⟩ := R.top
  have hb : ∀ a ∈ f, B a = none := fun a m => (hf a m).1
  have g := frzB_gr (H := H) hb
  refine ⟨frzB B H f, (q (frzB B H f) H (fun a u _ e => e) g (fun a u e => ?_) fun a u e e0 => ?_).1, g, w.rp hb hn fun _ m => m⟩
  · unfold frzB at e
    by_cases c : a ∈ f
    · rw [if_pos c] at e; exact e
    · rw [if_neg c] at e; exact R.bh a u e
  · unfold frzB at e
    by_cases c : a ∈ f
    · exact .inl c
    · rw [if_neg c, e0] at e; cases e
/-- a new list of data -/
theorem Rel.newL {p : Addr} {vs : List V} {ds : List D} (R : Rel K F σ B H sd k) (h : H p = none) (r : Rps K B vs ds) : Rel K (F.push (.ref p) (.lst .dat) (.lst ds)) σ B (upd H p (.lst vs)) sd k :=
  R.push (f := [p]) (ow_lstd.mpr ⟨p, vs, ds, rfl, rfl, rfl, upd_same, r⟩) (by simp) (fun a m => by rw [List.mem_singleton.mp m]; exact ⟨R.bh.back h, h⟩) (Gr.refl B) (R.bh.trans (Gr.new h)) (Gr.new h) fun a u e e0 => by rw [e] at e0; cases e0
theorem Rel.newD {p : Addr} {ks : List Key} {vs : List V} {ds : List D} (R : Rel K F σ B H sd k) (h : H p = none) (hl : ks.length = vs.length) (r : Rps K B vs ds) : Rel K (F.push (.ref p) (.dic .dat) (.dic ks ds)) σ B (upd H p (.dK (ks.zip vs))) sd k :=
  R.push (f := [p]) (ow_dicd.mpr ⟨p, ks, vs, ds, rfl, rfl, rfl, hl, upd_same, r⟩) (by simp) (fun a m => by rw [List.mem_singleton.mp m]; exact ⟨R.bh.back h, h⟩) (Gr.refl B) (R.bh.trans (Gr.new h)) (Gr.new h) fun a u e e0 => by rw [e] at e0; cases e0

/-! ### fewer slots told, or told otherwise -/
inductive Le : List SD → List SD → Prop
  | nil : Le [] []
  | same {d : SD} {a b : List SD} (h : Le a b) : Le (d :: a) (d :: b)
  | un {d : SD} {a b : List SD} (h : Le a b) : Le (d :: a) (.un :: b)
  /-- what is owned is told as what may be -/
  | opt {s : Sh} {d : D} {a b : List SD} (h : Le a b) : Le (.own s d :: a) (.own (.opt s) d :: b)
  | scal {s : Sh} {d : D} {a b : List SD} (hd : d.sc = true) (h : Le a b) : Le (.dat d :: a) (.own (.opt s) d :: b)
theorem Le.refl : ∀ a : List SD, Le a a
  | [] => .nil
  | _ :: a => .same (Le.refl a)
theorem Le.len {a b : List SD} (h : Le a b) : b.length = a.length := by
  induction h with
  | nil => rfl
  | same h ih => rw [List.length_cons, List.length_cons, ih]
  | un h ih => rw [List.length_cons, List.length_cons, ih]
  | opt h ih => rw [List.length_cons, List.length_cons, ih]
  | scal _ h ih => rw [List.length_cons, List.length_cons, ih]
theorem Le.get {a b : List SD} (h : Le a b) : ∀ {i : Nat} {d : SD}, b[i]? = some d → (d = .un ∧ ∃ e, a[i]? = some e) ∨ ∃ e, a[i]? = some e ∧ ∀ K F B H o f, SOk K F B H o e f → SOk K F B H o d f := by
  induction h with
  | nil => intro i d e; simp at e
  | same h ih =>
    intro i d e
    cases i with
    | zero => exact .inr ⟨d, e, fun _ _ _ _ _ _ h => h⟩
    | succ i => exact ih (i := i) e
  | un h ih =>
    intro i d e
    cases i with
    | zero => cases Option.some.inj e; exact .inl ⟨rfl, _, rfl⟩
    | succ i => exact ih (i := i) e
  | opt h ih =>
    intro i d e
    cases i with
    | zero => cases Option.some.inj e; exact .inr ⟨_, rfl, fun _ _ _ _ _ _ h => by obtain ⟨v, ho, w⟩ := h; exact ⟨v, ho, .inr w⟩⟩
    | succ i => exact ih (i := i) e
  | scal hd h ih =>
    intro i d e
    cases i with
    | zero => cases Option.some.inj e; exact .inr ⟨_, rfl, fun _ _ _ _ _ _ h => by obtain ⟨e, v, ho, r⟩ := h; exact ⟨v, ho, .inl ⟨e, hd, r⟩⟩⟩
    | succ i => exact ih (i := i) e
theorem Rel.le {se : List SD} (R : Rel K F σ B H sd k) (l : Le sd se) : Rel K F σ B H se k := by
  refine ⟨by rw [l.len]; exact R.len, R.bh, R.b0, R.bn, R.fr, R.st, ?_⟩
  obtain ⟨g, p⟩ := R.pool
  let un : Nat ⊕ Nat → Bool := fun x => match x with
    | .inl i => match se[i]? with
      | some .un => true
      | _ => false
    | .inr _ => false
  refine ⟨fun x => if un x = true then [] else g x, fun x c e => ?_, fun x e => ?_, fun x => ?_, fun x y a mx my => ?_, fun x a m => ?_, fun x a m => ?_, fun x a m => ?_⟩
  · cases x with
    | inr j => simp only [un, Bool.false_eq_true, if_false]; exact p.ok (.inr j) c e
    | inl i =>
      simp only [cell] at e
      cases e2 : se[i]? with
      | none => rw [e2] at e; cases e
      | some d =>
        rw [e2] at e
        cases e3 : σ[i]? with
        | none => rw [e3] at e; cases e
        | some o =>
          rw [e3] at e; cases e
          rcases l.get e2 with ⟨rfl, _⟩ | ⟨d0, h0, hok⟩
          · simp only [un, e2, if_true]; rfl
          · have hc : cell F σ sd (.inl i) = some (o, d0) := by simp only [cell]; rw [h0, e3]
            have z := hok _ _ _ _ _ _ (p.ok _ _ hc)
            by_cases hu : un (.inl i) = true
            · have : d = .un := by
                simp only [un, e2] at hu
                cases d <;> first | rfl | cases hu
              subst this
              simp only [hu, if_true]; rfl
            · simp only [hu, if_false, Bool.false_eq_true]; exact z
  · cases x with
    | inr j => simp only [un, Bool.false_eq_true, if_false]; exact p.no (.inr j) e
    | inl i =>
      by_cases hu : un (.inl i) = true
      · simp only [hu, if_true]
      · simp only [hu, if_false, Bool.false_eq_true]
        refine p.no _ ?_
        simp only [cell] at e ⊢
        cases e2 : se[i]? with
        | none =>
          have : sd[i]? = none := by
            rw [List.getElem?_eq_none_iff] at e2 ⊢
            rw [l.len] at e2; exact e2
          rw [this]
        | some d =>
          rw [e2] at e
          cases e3 : σ[i]? with
          | none => cases sd[i]? <;> rfl
          | some o => rw [e3] at e; cases e
  · show (if un x = true then [] else g x).Nodup
    split
    · exact .nil
    · exact p.nd x
  · have f1 : ∀ z, a ∈ (if un z = true then [] else g z) → a ∈ g z := fun z mz => by
      split at mz
      · cases mz
      · exact mz
    exact p.dj x y a (f1 x mx) (f1 y my)
  · have f1 : a ∈ g x := by
      have m : a ∈ (if un x = true then [] else g x) := m
      split at m
      · cases m
      · exact m
    exact p.b x a f1
  · have f1 : a ∈ g x := by
      have m : a ∈ (if un x = true then [] else g x) := m
      split at m
      · cases m
      · exact m
    exact p.h0 x a f1
  · have f1 : a ∈ g x := by
      have m : a ∈ (if un x = true then [] else g x) := m
      split at m
      · cases m
      · exact m
    exact p.sa x a f1
end
end ON

set_option Elab.async false
set_option linter.all false
set_option maxRecDepth 100000
set_option maxHeartbeats 2000000
/-! N3: monads, judgements, rules of expressions. -/
namespace ON
open PySem L2
/-! ### the monads: Option for what keeps no state, Sm for what draws -/
def Sm (α : Type) : Type := Int → Option (α × Int)
class Mn (m : Type → Type) where
  run : {α : Type} → m α → Int → Option (α × Int)
  pur0 : {α : Type} → α → m α
  bnd0 : {α β : Type} → m α → (α → m β) → m β
  fl0 : {α : Type} → m α
  run_pur0 : ∀ {α : Type} (a : α) (k : Int), run (pur0 a) k = some (a, k)
  run_bnd0 : ∀ {α β : Type} (x : m α) (f : α → m β) (k : Int), run (bnd0 x f) k = (run x k).bind fun p => run (f p.1) p.2
  run_fl0 : ∀ {α : Type} (k : Int), run (fl0 : m α) k = none
instance : Mn Option where
  run o k := o.map fun a => (a, k)
  pur0 := some
  bnd0 := Option.bind
  fl0 := none
  run_pur0 _ _ := rfl
  run_bnd0 x f k := by cases x <;> rfl
  run_fl0 _ := rfl
instance : Mn Sm where
  run x k := x k
  pur0 a := fun k => some (a, k)
  bnd0 x f := fun k => (x k).bind fun p => f p.1 p.2
  fl0 := fun _ => none
  run_pur0 _ _ := rfl
  run_bnd0 _ _ _ := rfl
  run_fl0 _ := rfl
@[irreducible] def Mn.pur {m : Type → Type} [Mn m] {α : Type} (a : α) : m α := Mn.pur0 a
@[irreducible] def Mn.bnd {m : Type → Type} [Mn m] {α β : Type} (x : m α) (f : α → m β) : m β := Mn.bnd0 x f
@[irreducible] def Mn.fl {m : Type → Type} [Mn m] {α : Type} : m α := Mn.fl0
section
variable {m : Type → Type} [Mn m] {α β : Type}
theorem Mn.run_pur (a : α) (k : Int) : Mn.run (Mn.pur a : m α) k = some (a, k) := by unfold Mn.pur; exact Mn.run_pur0 a k
theorem Mn.run_bnd (x : m α) (f : α → m β) (k : Int) : Mn.run (Mn.bnd x f) k = (Mn.run x k).bind fun p => Mn.run (f p.1) p.2 := by unfold Mn.bnd; exact Mn.run_bnd0 x f k
theorem Mn.run_fl (k : Int) : Mn.run (Mn.fl : m α) k = none := by unfold Mn.fl; exact Mn.run_fl0 k
theorem pur_opt (a : α) : (Mn.pur a : Option α) = some a := by unfold Mn.pur; rfl
theorem bnd_opt (x : Option α) (f : α → Option β) : Mn.bnd x f = x.bind f := by unfold Mn.bnd; rfl
theorem fl_opt : (Mn.fl : Option α) = none := by unfold Mn.fl; rfl
theorem pur_sm (a : α) (k : Int) : (Mn.pur a : Sm α) k = some (a, k) := by unfold Mn.pur; rfl
theorem bnd_sm (x : Sm α) (f : α → Sm β) (k : Int) : (Mn.bnd x f) k = (x k).bind fun p => f p.1 p.2 := by unfold Mn.bnd; rfl
theorem fl_sm (k : Int) : (Mn.fl : Sm α) k = none := by unfold Mn.fl; rfl
end
@[irreducible] def lift {m : Type → Type} [Mn m] {α : Type} (o : Option α) : m α := match o with | some a => Mn.pur a | none => Mn.fl
@[irreducible] def gd {m : Type → Type} [Mn m] {α : Type} (p : Prop) [Decidable p] (x : m α) : m α := if p then x else Mn.fl
section
variable {m : Type → Type} [Mn m] {α β : Type}
theorem bnd_some {x : m α} {f : α → m β} {k k2 : Int} {b : β} (h : Mn.run (Mn.bnd x f) k = some (b, k2)) : ∃ a k1, Mn.run x k = some (a, k1) ∧ Mn.run (f a) k1 = some (b, k2) := by
  rw [Mn.run_bnd] at h
  cases e : Mn.run x k with
  | none => rw [e] at h; cases h
  | some p => rw [e] at h; exact ⟨p.1, p.2, rfl, h⟩
theorem pur_some {a b : α} {k k2 : Int} (h : Mn.run (Mn.pur a : m α) k = some (b, k2)) : b = a ∧ k2 = k := by
  rw [Mn.run_pur] at h
  cases h; exact ⟨rfl, rfl⟩
theorem gd_some {p : Prop} [Decidable p] {x : m α} {k k2 : Int} {b : α} (h : Mn.run (gd p x) k = some (b, k2)) : p ∧ Mn.run x k = some (b, k2) := by
  unfold gd at h
  by_cases c : p
  · rw [if_pos c] at h; exact ⟨c, h⟩
  · rw [if_neg c, Mn.run_fl] at h; cases h
theorem lift_some {o : Option α} {k k2 : Int} {b : α} (h : Mn.run (lift o : m α) k = some (b, k2)) : o = some b ∧ k2 = k := by
  cases o with
  | none => unfold lift at h; rw [Mn.run_fl] at h; cases h
  | some a => unfold lift at h; obtain ⟨rfl, rfl⟩ := pur_some h; exact ⟨rfl, rfl⟩
theorem fl_some {k k2 : Int} {b : α} (h : Mn.run (Mn.fl : m α) k = some (b, k2)) : False := by
  rw [Mn.run_fl] at h; cases h
end

/-! ### the judgements -/
section
variable (K : PySem.W.Frag) {m : Type → Type} [Mn m] {α : Type}
def EvM [Enc α] (te : TE) (sd : List SD) (x : m α) : Prop := ∀ (F : Fr) (σ : L2.St) (B H : Hp) (k : Int), Rel K F σ B H sd k → ∀ (a : α) (k' : Int), Mn.run x k = some (a, k') →
  ∀ Q : VK, (∀ v B' H', Rel K F σ B' H' sd k' → Gr B B' → Rp K B' v (enc a) → Q v H') → te σ H Q
/-- what is owned by nobody else: of shape s -/
def EvF [Enc α] (s : Sh) (te : TE) (sd : List SD) (x : m α) : Prop := ∀ (F : Fr) (σ : L2.St) (B H : Hp) (k : Int), Rel K F σ B H sd k → ∀ (a : α) (k' : Int), Mn.run x k = some (a, k') →
  ∀ Q : VK, (∀ v B' H', Rel K (F.push v s (enc a)) σ B' H' sd k' → Gr B B' → Q v H') → te σ H Q
def EvB (te : TT) (sd : List SD) (x : m Bool) : Prop := ∀ (F : Fr) (σ : L2.St) (B H : Hp) (k : Int), Rel K F σ B H sd k → ∀ (a : Bool) (k' : Int), Mn.run x k = some (a, k') →
  ∀ Q : Bool → Hp → Prop, (∀ B' H', Rel K F σ B' H' sd k' → Gr B B' → Q a H') → te σ H Q
def EvA (ta : TA) (sd : List SD) (x : m α) (g : α → List D) : Prop := ∀ (F : Fr) (σ : L2.St) (B H : Hp) (k : Int), Rel K F σ B H sd k → ∀ (a : α) (k' : Int), Mn.run x k = some (a, k') →
  ∀ Q : List V → Hp → Prop, (∀ vs B' H', Rel K F σ B' H' sd k' → Gr B B' → Rps K B' vs (g a) → Q vs H') → ta σ H Q
end
inductive Fl (τ l ρ : Type) where
  | nx (t : τ)
  | bk (t : l)
  | ct (t : l)
  | rt (r : ρ)
/-- what is wished of an error that leaves, and the slots that it finds -/
structure Wr where
  w : WX
  sd : List SD
def W0 : Wr := ⟨fun _ _ _ _ => False, []⟩
/-- kinds of answers of a def: what stands where it ends so -/
class Rt (ρ : Type) where
  ok : PySem.W.Frag → Wr → Fr → Hp → VK → ρ → Int → Prop
  gr : ∀ {K : PySem.W.Frag} {W : Wr} {F : Fr} {B C : Hp} {Q : VK} {r : ρ} {k : Int}, Gr B C → ok K W F B Q r k → ok K W F C Q r k
instance {ρ : Type} [Enc ρ] : Rt ρ where
  ok K W F B Q r k := ∀ v σ' B' H' sd', Rel K F σ' B' H' sd' k → Gr B B' → Rp K B' v (enc r) → Q v H'
  gr g h := fun v σ' B' H' sd' R g' => h v σ' B' H' sd' R (g.trans g')
/-- an answer or an error -/
inductive Xr (ρ : Type) where
  | ok (r : ρ)
  | er (e : Er)
instance (priority := high) {ρ : Type} [Enc ρ] : Rt (Xr ρ) where
  ok K W F B Q r k := match r with
    | .ok r => ∀ v σ' B' H' sd', Rel K F σ' B' H' sd' k → Gr B B' → Rp K B' v (enc r) → Q v H'
    | .er e => ∀ cls d σ' B' H', Rel K F σ' B' H' W.sd k → Gr B B' → ErOk K B' cls d e → W.w cls d σ' H'
  gr {K W F B C Q r k} g h := by
    cases r with
    | ok r => exact fun v σ' B' H' sd' R g' => h v σ' B' H' sd' R (g.trans g')
    | er e => exact fun cls d σ' B' H' R g' => h cls d σ' B' H' R (g.trans g')
section
variable (K : PySem.W.Frag) (W : Wr) {m : Type → Type} [Mn m] {τ l ρ : Type} [Rt ρ]
def EndOk (F : Fr) (B : Hp) (D : Ends) (post : τ → List SD) (postL : l → List SD) (f : Fl τ l ρ) (k : Int) : Prop := match f with
  | .nx t => ∀ σ' B' H', Rel K F σ' B' H' (post t) k → Gr B B' → D.nx σ' H'
  | .bk t => ∀ σ' B' H', Rel K F σ' B' H' (postL t) k → Gr B B' → D.bk σ' H'
  | .ct t => ∀ σ' B' H', Rel K F σ' B' H' (postL t) k → Gr B B' → D.ct σ' H'
  | .rt r => Rt.ok K W F B D.rt r k
def EvS (ts : TS) (sd : List SD) (post : τ → List SD) (postL : l → List SD) (x : m (Fl τ l ρ)) : Prop := ∀ (F : Fr) (σ : L2.St) (B H : Hp) (k : Int), Rel K F σ B H sd k → ∀ (f : Fl τ l ρ) (k' : Int), Mn.run x k = some (f, k') →
  ∀ D : Ends, EndOk K W F B D post postL f k' → ts D σ H
end
theorem EndOk.gr {K : PySem.W.Frag} {W : Wr} {τ l ρ : Type} [Rt ρ] {F : Fr} {B C : Hp} {D : Ends} {post : τ → List SD} {postL : l → List SD} {f : Fl τ l ρ} {k : Int} (g : Gr B C) (h : EndOk K W F B D post postL f k) : EndOk K W F C D post postL f k := by
  cases f with
  | nx t => exact fun σ' B' H' R g' => h σ' B' H' R (g.trans g')
  | bk t => exact fun σ' B' H' R g' => h σ' B' H' R (g.trans g')
  | ct t => exact fun σ' B' H' R g' => h σ' B' H' R (g.trans g')
  | rt r => exact Rt.gr g h

/-! ### loops -/
section
variable {m : Type → Type} [Mn m] {τ τ' l ρ α : Type}
@[irreducible] def andThen (x : m (Fl τ l ρ)) (f : τ → m (Fl τ' l ρ)) : m (Fl τ' l ρ) := Mn.bnd x fun r => match r with
  | .nx t => f t
  | .bk t => Mn.pur (.bk t)
  | .ct t => Mn.pur (.ct t)
  | .rt r => Mn.pur (.rt r)
def forL0 (body : τ → α → m (Fl τ τ ρ)) : List α → τ → m (Fl τ l ρ)
  | [], t => Mn.pur (.nx t)
  | x :: xs, t => Mn.bnd (body t x) fun r => match r with
    | .nx t => forL0 body xs t
    | .ct t => forL0 body xs t
    | .bk t => Mn.pur (.nx t)
    | .rt r => Mn.pur (.rt r)
@[irreducible] def forL (body : τ → α → m (Fl τ τ ρ)) (xs : List α) (t : τ) : m (Fl τ l ρ) := forL0 body xs t
def whl0 (c : τ → m Bool) (body : τ → m (Fl τ τ ρ)) : Nat → τ → m (Fl τ l ρ)
  | 0, _ => Mn.fl
  | n + 1, t => Mn.bnd (c t) fun b => match b with
    | false => Mn.pur (.nx t)
    | true => Mn.bnd (body t) fun r => match r with
      | .nx t => whl0 c body n t
      | .ct t => whl0 c body n t
      | .bk t => Mn.pur (.nx t)
      | .rt r => Mn.pur (.rt r)
@[irreducible] def whl (c : τ → m Bool) (body : τ → m (Fl τ τ ρ)) (n : Nat) (t : τ) : m (Fl τ l ρ) := whl0 c body n t
/-- the comprehension: which, and what -/
def compL0 {β : Type} (p : α → m Bool) (f : α → m β) : List α → m (List β)
  | [] => Mn.pur []
  | x :: xs => Mn.bnd (p x) fun b => match b with
    | true => Mn.bnd (f x) fun y => Mn.bnd (compL0 p f xs) fun ys => Mn.pur (y :: ys)
    | false => compL0 p f xs
@[irreducible] def compL {β : Type} (p : α → m Bool) (f : α → m β) (xs : List α) : m (List β) := compL0 p f xs
variable {body : τ → α → m (Fl τ τ ρ)} {c : τ → m Bool} {bodyw : τ → m (Fl τ τ ρ)} {β : Type} {p : α → m Bool} {f : α → m β}
theorem forL_nil (t : τ) : (forL body [] t : m (Fl τ l ρ)) = Mn.pur (.nx t) := by unfold forL forL0; rfl
theorem forL_cons (x : α) (xs : List α) (t : τ) : (forL body (x :: xs) t : m (Fl τ l ρ)) = Mn.bnd (body t x) fun r => match r with
    | .nx t => forL body xs t
    | .ct t => forL body xs t
    | .bk t => Mn.pur (.nx t)
    | .rt r => Mn.pur (.rt r) := by unfold forL; rw [forL0]
theorem whl_zero (t : τ) : (whl c bodyw 0 t : m (Fl τ l ρ)) = Mn.fl := by unfold whl whl0; rfl
theorem whl_succ (n : Nat) (t : τ) : (whl c bodyw (n + 1) t : m (Fl τ l ρ)) = Mn.bnd (c t) fun b => match b with
    | false => Mn.pur (.nx t)
    | true => Mn.bnd (bodyw t) fun r => match r with
      | .nx t => whl c bodyw n t
      | .ct t => whl c bodyw n t
      | .bk t => Mn.pur (.nx t)
      | .rt r => Mn.pur (.rt r) := by unfold whl; rw [whl0]
theorem compL_nil : compL p f [] = Mn.pur [] := by unfold compL compL0; rfl
theorem compL_cons (x : α) (xs : List α) : compL p f (x :: xs) = Mn.bnd (p x) fun b => match b with
    | true => Mn.bnd (f x) fun y => Mn.bnd (compL p f xs) fun ys => Mn.pur (y :: ys)
    | false => compL p f xs := by unfold compL; rw [compL0]
end
section
variable {K : PySem.W.Frag} {m : Type → Type} [Mn m] {α β γ δ τ τ' l ρ : Type} {sd : List SD} {ta tb te : TE}

/-! ### names, constants -/
theorem em_var [Enc α] {i : Nat} {a : α} (h : sd[i]? = some (.dat (enc a))) : EvM K (tVar i) sd (Mn.pur a : m α) := fun F σ B H k R b k' e Q q => by
  obtain ⟨rfl, rfl⟩ := pur_some e
  obtain ⟨v, ho, r⟩ := R.dat h
  exact ⟨v, ho, q v B H R (Gr.refl B) r⟩
theorem em_c [Enc α] {v : V} {a : α} (h : ∀ B, Rp K B v (enc a)) : EvM K (tC v) sd (Mn.pur a : m α) := fun F σ B H k R b k' e Q q => by
  obtain ⟨rfl, rfl⟩ := pur_some e
  exact q v B H R (Gr.refl B) (h B)
theorem em_int {i : Int} : EvM K (tC (.int i)) sd (Mn.pur i : m Int) := em_c fun _ => .int i
theorem em_str {i : Str} : EvM K (tC (.str i)) sd (Mn.pur i : m Str) := em_c fun _ => .str i
theorem em_bl {i : Bool} : EvM K (tC (.bl i)) sd (Mn.pur i : m Bool) := em_c fun _ => .bl i
theorem em_non : EvM K (tC .non) sd (Mn.pur () : m Unit) := em_c fun _ => .non
/-- the same data by another type -/
theorem em_as [Enc α] [Enc β] {x : m α} (f : α → β) (hf : ∀ a, enc a = enc (f a)) (h : EvM K te sd x) : EvM K te sd (Mn.bnd x fun a => Mn.pur (f a)) := fun F σ B H k R b k' e Q q => by
  obtain ⟨a, k1, e1, e2⟩ := bnd_some e
  obtain ⟨rfl, rfl⟩ := pur_some e2
  exact h F σ B H k R a k' e1 Q fun v B' H' R' g r => q v B' H' R' g (by rw [← hf]; exact r)
/-- what is owned becomes data -/
theorem em_ofF [Enc α] {s : Sh} {x : m α} (h : EvF K s te sd x) (hn : s.nd = true := by rfl) : EvM K te sd x := fun F σ B H k R a k' e Q q =>
  h F σ B H k R a k' e Q fun v B' H' R' g => by
    obtain ⟨B2, R2, g2, r⟩ := R'.frzX hn
    exact q v B2 H' R2 (g.trans g2) r

/-! ### operators -/
def OpM (K : PySem.W.Frag) [Enc α] [Enc β] [Enc γ] (r : R2) (a : α) (b : β) (z : m γ) : Prop := ∀ (F : Fr) (σ : L2.St) (B H : Hp) (sd : List SD) (k : Int), Rel K F σ B H sd k → ∀ va vb, Rp K B va (enc a) → Rp K B vb (enc b) →
  ∀ (c : γ) (k' : Int), Mn.run z k = some (c, k') → ∀ Q : VK, (∀ v B' H', Rel K F σ B' H' sd k' → Gr B B' → Rp K B' v (enc c) → Q v H') → r va vb H Q
theorem em_op [Enc α] [Enc β] [Enc γ] {r : R2} {x : m α} {y : m β} {f : α → β → m γ} (ha : EvM K ta sd x) (hb : EvM K tb sd y) (hr : ∀ a b, OpM K r a b (f a b)) :
    EvM K (tOp r ta tb) sd (Mn.bnd x fun a => Mn.bnd y fun b => f a b) := fun F σ B H k R c k' e Q q => by
  obtain ⟨a, k1, e1, e⟩ := bnd_some e
  obtain ⟨b, k2, e2, e3⟩ := bnd_some e
  refine ha F σ B H k R a k1 e1 _ fun va B1 H1 R1 g1 r1 => ?_
  refine hb F σ B1 H1 k1 R1 b k2 e2 _ fun vb B2 H2 R2 g2 r2 => ?_
  exact hr a b F σ B2 H2 sd k2 R2 va vb (r1.gr g2) r2 c k' e3 Q fun v B' H' R' g r => q v B' H' R' ((g1.trans g2).trans g) r
theorem om_I0 {g : Int → Int → Int} {a b : Int} : OpM K (rI0 fun i j => .int (g i j)) a b (Mn.pur (g a b) : m Int) := fun F σ B H sd k R va vb ra rb c k' e Q q => by
  obtain ⟨rfl, rfl⟩ := pur_some e
  exact ⟨a, b, Rp.int_inv ra, Rp.int_inv rb, q _ B H R (Gr.refl B) (.int _)⟩
theorem om_B0 {g : Int → Int → Bool} {a b : Int} : OpM K (rI0 fun i j => .bl (g i j)) a b (Mn.pur (g a b) : m Bool) := fun F σ B H sd k R va vb ra rb c k' e Q q => by
  obtain ⟨rfl, rfl⟩ := pur_some e
  exact ⟨a, b, Rp.int_inv ra, Rp.int_inv rb, q _ B H R (Gr.refl B) (.bl _)⟩
theorem om_I {C : Int → Int → Prop} {g : Int → Int → Int} {a b : Int} {P : Prop} [Decidable P] (hp : P → C a b) : OpM K (rI C fun i j => .int (g i j)) a b (gd P (Mn.pur (g a b)) : m Int) := fun F σ B H sd k R va vb ra rb c k' e Q q => by
  obtain ⟨hc, e⟩ := gd_some e
  obtain ⟨rfl, rfl⟩ := pur_some e
  exact ⟨a, b, Rp.int_inv ra, Rp.int_inv rb, hp hc, q _ B H R (Gr.refl B) (.int _)⟩
/-- two factors that a product takes -/
def MulOk (i j : Int) : Prop := ((-(2 ^ 64) < i ∧ i < 2 ^ 64) ∨ (-(2 ^ 64) < j ∧ j < 2 ^ 64)) ∨ i.natAbs.log2 + j.natAbs.log2 < 1000000
instance (i j : Int) : Decidable (MulOk i j) := by unfold MulOk; exact inferInstance
def DivOk (j : Int) : Prop := 0 < j ∧ j.natAbs.log2 < 9000
instance (j : Int) : Decidable (DivOk j) := by unfold DivOk; exact inferInstance
def rMul : R2 := rI MulOk fun i j => .int (i * j)
theorem op_mulU {X : Cx} : OpR X (binaryOp .Mult) rMul := fun pins s σ H x y v u Q I rx ry h => by
  obtain ⟨i, j, rfl, rfl, hc, q⟩ := h
  rcases hc with hc | hc
  · exact op_mul pins s σ H _ _ v u Q I rx ry ⟨i, j, rfl, rfl, hc, q⟩
  · exact op_mulW pins s σ H _ _ v u Q I rx ry ⟨i, j, rfl, rfl, hc, q⟩
theorem om_mul {a b : Int} : OpM K rMul a b (gd (MulOk a b) (Mn.pur (a * b)) : m Int) := om_I id
theorem om_fdiv {a b : Int} : OpM K (rI CDivW fun i j => .int (i / j)) a b (gd (DivOk b) (Mn.pur (a / b)) : m Int) := om_I id
theorem om_mod {a b : Int} : OpM K (rI (fun _ j => 0 < j) fun i j => .int (i % j)) a b (gd (0 < b) (Mn.pur (a % b)) : m Int) := om_I id
theorem om_catS {a b : Str} : OpM K (fun x y H Q => ∃ i j, x = .str i ∧ y = .str j ∧ i.length + j.length ≤ sizeLine ∧ Q (.str (i ++ j)) H) a b (gd (a.length + b.length ≤ sizeLine) (Mn.pur (a ++ b)) : m Str) := fun F σ B H sd k R va vb ra rb c k' e Q q => by
  obtain ⟨hc, e⟩ := gd_some e
  obtain ⟨rfl, rfl⟩ := pur_some e
  exact ⟨a, b, Rp.str_inv ra, Rp.str_inv rb, hc, q _ B H R (Gr.refl B) (.str _)⟩
theorem om_eqI {a b : Int} : OpM K rEq a b (Mn.pur (decide (a = b)) : m Bool) := fun F σ B H sd k R va vb ra rb c k' e Q q => by
  obtain ⟨rfl, rfl⟩ := pur_some e
  rw [Rp.int_inv ra, Rp.int_inv rb]
  refine ⟨rfl, ?_⟩
  have z : decide (V.int a = V.int b) = decide (a = b) := by
    by_cases c : a = b
    · subst c; simp
    · rw [decide_eq_false c, decide_eq_false (fun h => c (V.int.inj h))]
  rw [z]
  exact q _ B H R (Gr.refl B) (.bl _)
theorem om_neI {a b : Int} : OpM K rNe a b (Mn.pur (!decide (a = b)) : m Bool) := fun F σ B H sd k R va vb ra rb c k' e Q q => by
  obtain ⟨rfl, rfl⟩ := pur_some e
  rw [Rp.int_inv ra, Rp.int_inv rb]
  refine ⟨rfl, ?_⟩
  have z : decide (V.int a = V.int b) = decide (a = b) := by
    by_cases c : a = b
    · subst c; simp
    · rw [decide_eq_false c, decide_eq_false (fun h => c (V.int.inj h))]
  rw [z]
  exact q _ B H R (Gr.refl B) (.bl _)
theorem om_eqS {a b : Str} : OpM K rEq a b (Mn.pur (decide (a = b)) : m Bool) := fun F σ B H sd k R va vb ra rb c k' e Q q => by
  obtain ⟨rfl, rfl⟩ := pur_some e
  rw [Rp.str_inv ra, Rp.str_inv rb]
  refine ⟨rfl, ?_⟩
  have z : decide (V.str a = V.str b) = decide (a = b) := by
    by_cases c : a = b
    · subst c; simp
    · rw [decide_eq_false c, decide_eq_false (fun h => c (V.str.inj h))]
  rw [z]
  exact q _ B H R (Gr.refl B) (.bl _)
theorem om_neS {a b : Str} : OpM K rNe a b (Mn.pur (!decide (a = b)) : m Bool) := fun F σ B H sd k R va vb ra rb c k' e Q q => by
  obtain ⟨rfl, rfl⟩ := pur_some e
  rw [Rp.str_inv ra, Rp.str_inv rb]
  refine ⟨rfl, ?_⟩
  have z : decide (V.str a = V.str b) = decide (a = b) := by
    by_cases c : a = b
    · subst c; simp
    · rw [decide_eq_false c, decide_eq_false (fun h => c (V.str.inj h))]
  rw [z]
  exact q _ B H R (Gr.refl B) (.bl _)
/-- whether two data are told alike; both of a depth that can be looked at -/
def Shp (d : D) : Bool := SeqAt.shaped d.py && d.pl
def deqv (d e : D) : Bool := PyData.eqv d.py e.py
theorem om_eqD [Enc α] [Enc β] {a : α} {b : β} : OpM K (rEqD K) a b (gd (Shp (enc a) = true ∧ Shp (enc b) = true) (Mn.pur (deqv (enc a) (enc b))) : m Bool) := fun F σ B H sd k R va vb ra rb c k' e Q q => by
  obtain ⟨hc, e⟩ := gd_some e
  obtain ⟨rfl, rfl⟩ := pur_some e
  exact ⟨_, _, (ra.gr R.bh).dp (Bool.and_eq_true_iff.mp hc.1).2, (rb.gr R.bh).dp (Bool.and_eq_true_iff.mp hc.2).2, (Bool.and_eq_true_iff.mp hc.1).1, (Bool.and_eq_true_iff.mp hc.2).1, q _ B H R (Gr.refl B) (.bl _)⟩
theorem om_neD [Enc α] [Enc β] {a : α} {b : β} : OpM K (rNeD K) a b (gd (Shp (enc a) = true ∧ Shp (enc b) = true) (Mn.pur (!deqv (enc a) (enc b))) : m Bool) := fun F σ B H sd k R va vb ra rb c k' e Q q => by
  obtain ⟨hc, e⟩ := gd_some e
  obtain ⟨rfl, rfl⟩ := pur_some e
  exact ⟨_, _, (ra.gr R.bh).dp (Bool.and_eq_true_iff.mp hc.1).2, (rb.gr R.bh).dp (Bool.and_eq_true_iff.mp hc.2).2, (Bool.and_eq_true_iff.mp hc.1).1, (Bool.and_eq_true_iff.mp hc.2).1, q _ B H R (Gr.refl B) (.bl _)⟩
theorem em_neg {x : m Int} (ha : EvM K ta sd x) : EvM K (tUn (rU fun i => .int (-i)) ta) sd (Mn.bnd x fun a => Mn.pur (-a)) := fun F σ B H k R c k' e Q q => by
  obtain ⟨a, k1, e1, e⟩ := bnd_some e
  obtain ⟨rfl, rfl⟩ := pur_some e
  exact ha F σ B H k R a k' e1 _ fun va B1 H1 R1 g1 r1 => ⟨a, Rp.int_inv r1, q _ B1 H1 R1 g1 (.int _)⟩

/-! ### items -/
theorem atI_rps {xs : List V} {ds : List D} {B : Hp} (r : Rps K B xs ds) {i : Int} {d : D} (h : atI ds i = some d) : ∃ v, atI xs i = some v ∧ Rp K B v d := by
  unfold atI at h ⊢
  rw [r.len]
  cases e : ixN ds.length i with
  | none => rw [e] at h; cases h
  | some j => rw [e] at h; exact r.get h
theorem atI_map {β : Type} (f : α → β) (xs : List α) (i : Int) : atI (xs.map f) i = (atI xs i).map f := by
  unfold atI
  rw [List.length_map]
  cases ixN xs.length i with
  | none => rfl
  | some j => exact List.getElem?_map
theorem om_ixL [Enc α] {a : List α} {i : Int} : OpM K (rIxL K) a i (lift (atI a i) : m α) := fun F σ B H sd k R va vb ra rb c k' e Q q => by
  obtain ⟨hc, rfl⟩ := lift_some e
  obtain ⟨p, xs, rfl, hp, hs⟩ := Rp.lst_inv ra
  have h2 : atI (a.map enc) i = some (enc c) := by rw [atI_map, hc] <;> rfl
  obtain ⟨v, hv, rv⟩ := atI_rps hs h2
  exact ⟨p, xs, i, v, rfl, Rp.int_inv rb, SqL.of (R.bh _ _ hp), hv, q v B H R (Gr.refl B) rv⟩
theorem om_ixT [Enc α] {a : Tl α} {i : Int} : OpM K (rIxT K) a i (lift (atI a.l i) : m α) := fun F σ B H sd k R va vb ra rb c k' e Q q => by
  obtain ⟨hc, rfl⟩ := lift_some e
  obtain ⟨p, xs, rfl, hp, hs⟩ := Rp.tup_inv ra
  have h2 : atI (a.l.map enc) i = some (enc c) := by rw [atI_map, hc] <;> rfl
  obtain ⟨v, hv, rv⟩ := atI_rps hs h2
  exact ⟨p, xs, i, v, rfl, Rp.int_inv rb, R.bh.sqT hp, hv, q v B H R (Gr.refl B) rv⟩
def sgn (c : Nat) : Str := ⟨#[c]⟩
theorem om_ixS {a : Str} {i : Int} : OpM K rIxS a i (gd (a.length ≤ sizeLine) (Mn.bnd (lift (atI a.cps.toList i)) fun c => Mn.pur (sgn c)) : m Str) := fun F σ B H sd k R va vb ra rb c k' e Q q => by
  obtain ⟨hg, e⟩ := gd_some e
  obtain ⟨d, k1, e1, e2⟩ := bnd_some e
  obtain ⟨hc, rfl⟩ := lift_some e1
  obtain ⟨rfl, rfl⟩ := pur_some e2
  exact ⟨a, i, d, Rp.str_inv ra, Rp.int_inv rb, hg, hc, q _ B H R (Gr.refl B) (.str _)⟩

/-! ### tests, truth -/
theorem eb_B {x : m Bool} (h : EvM K te sd x) : EvB K (tB te) sd x := fun F σ B H k R b k' e Q q =>
  h F σ B H k R b k' e _ fun v B' H' R' g r => ⟨b, Rp.bl_inv r, q B' H' R' g⟩
theorem eb_T {x : m Bool} (h : EvM K te sd x) : EvB K (tTest te) sd x := fun F σ B H k R b k' e Q q =>
  h F σ B H k R b k' e _ fun v B' H' R' g r => ⟨b, Rp.bl_inv r, q B' H' R' g⟩
def cnd {ω : Type} (b : Bool) (x y : ω) : ω := match b with
  | true => x
  | false => y
variable {t u : TT}
theorem eb_and {x y : m Bool} (h1 : EvB K t sd x) (h2 : EvB K u sd y) : EvB K (tAnd t u) sd (Mn.bnd x fun a => cnd a y (Mn.pur false)) := fun F σ B H k R b k' e Q q => by
  obtain ⟨a, k1, e1, e⟩ := bnd_some e
  refine h1 F σ B H k R a k1 e1 _ fun B1 H1 R1 g1 => ?_
  cases a with
  | true => exact h2 F σ B1 H1 k1 R1 b k' e Q fun B' H' R' g => q B' H' R' (g1.trans g)
  | false => obtain ⟨rfl, rfl⟩ := pur_some e; exact q B1 H1 R1 g1
theorem eb_or {x y : m Bool} (h1 : EvB K t sd x) (h2 : EvB K u sd y) : EvB K (tOr t u) sd (Mn.bnd x fun a => cnd a (Mn.pur true) y) := fun F σ B H k R b k' e Q q => by
  obtain ⟨a, k1, e1, e⟩ := bnd_some e
  refine h1 F σ B H k R a k1 e1 _ fun B1 H1 R1 g1 => ?_
  cases a with
  | false => exact h2 F σ B1 H1 k1 R1 b k' e Q fun B' H' R' g => q B' H' R' (g1.trans g)
  | true => obtain ⟨rfl, rfl⟩ := pur_some e; exact q B1 H1 R1 g1
theorem eb_not {x : m Bool} (h1 : EvB K t sd x) : EvB K (tNot t) sd (Mn.bnd x fun a => Mn.pur (!a)) := fun F σ B H k R b k' e Q q => by
  obtain ⟨a, k1, e1, e2⟩ := bnd_some e
  obtain ⟨rfl, rfl⟩ := pur_some e2
  exact h1 F σ B H k R a _ e1 _ fun B1 H1 R1 g1 => q B1 H1 R1 g1
theorem em_and {x y : m Bool} (h1 : EvM K ta sd x) (h2 : EvM K tb sd y) : EvM K (tAndV ta tb) sd (Mn.bnd x fun a => cnd a y (Mn.pur false)) := fun F σ B H k R b k' e Q q => by
  obtain ⟨a, k1, e1, e⟩ := bnd_some e
  refine h1 F σ B H k R a k1 e1 _ fun v B1 H1 R1 g1 r1 => ⟨a, Rp.bl_inv r1, ?_⟩
  cases a with
  | true => exact h2 F σ B1 H1 k1 R1 b k' e Q fun v B' H' R' g => q v B' H' R' (g1.trans g)
  | false => obtain ⟨rfl, rfl⟩ := pur_some e; exact q _ B1 H1 R1 g1 (.bl _)
theorem em_or {x y : m Bool} (h1 : EvM K ta sd x) (h2 : EvM K tb sd y) : EvM K (tOrV ta tb) sd (Mn.bnd x fun a => cnd a (Mn.pur true) y) := fun F σ B H k R b k' e Q q => by
  obtain ⟨a, k1, e1, e⟩ := bnd_some e
  refine h1 F σ B H k R a k1 e1 _ fun v B1 H1 R1 g1 r1 => ⟨a, Rp.bl_inv r1, ?_⟩
  cases a with
  | false => exact h2 F σ B1 H1 k1 R1 b k' e Q fun v B' H' R' g => q v B' H' R' (g1.trans g)
  | true => obtain ⟨rfl, rfl⟩ := pur_some e; exact q _ B1 H1 R1 g1 (.bl _)
theorem em_not {x : m Bool} (h1 : EvM K ta sd x) : EvM K (tNotV ta) sd (Mn.bnd x fun a => Mn.pur (!a)) := fun F σ B H k R b k' e Q q => by
  obtain ⟨a, k1, e1, e2⟩ := bnd_some e
  obtain ⟨rfl, rfl⟩ := pur_some e2
  exact h1 F σ B H k R a _ e1 _ fun v B1 H1 R1 g1 r1 => ⟨a, Rp.bl_inv r1, q _ B1 H1 R1 g1 (.bl _)⟩
theorem em_if [Enc α] {x : m Bool} {y z : m α} (h : EvB K t sd x) (h1 : EvM K ta sd y) (h2 : EvM K tb sd z) : EvM K (tIf t ta tb) sd (Mn.bnd x fun b => cnd b y z) := fun F σ B H k R c k' e Q q => by
  obtain ⟨b, k1, e1, e⟩ := bnd_some e
  refine h F σ B H k R b k1 e1 _ fun B1 H1 R1 g1 => ?_
  cases b with
  | true => exact h1 F σ B1 H1 k1 R1 c k' e Q fun v B' H' R' g r => q v B' H' R' (g1.trans g) r
  | false => exact h2 F σ B1 H1 k1 R1 c k' e Q fun v B' H' R' g r => q v B' H' R' (g1.trans g) r

/-! ### arguments, displays -/
theorem ea_nil : EvA K tNil sd (Mn.pur () : m Unit) (fun _ => []) := fun F σ B H k R b k' e Q q => by
  obtain ⟨rfl, rfl⟩ := pur_some e
  exact q [] B H R (Gr.refl B) .nil
theorem ea_cons [Enc α] {tr : TA} {x : m α} {y : m β} {g : β → List D} (h : EvM K te sd x) (hr : EvA K tr sd y g) : EvA K (tCons te tr) sd (Mn.bnd x fun a => Mn.bnd y fun b => Mn.pur (a, b)) (fun p => enc p.1 :: g p.2) := fun F σ B H k R c k' e Q q => by
  obtain ⟨a, k1, e1, e⟩ := bnd_some e
  obtain ⟨b, k2, e2, e⟩ := bnd_some e
  obtain ⟨rfl, rfl⟩ := pur_some e
  refine h F σ B H k R a k1 e1 _ fun v B1 H1 R1 g1 r1 => ?_
  exact hr F σ B1 H1 k1 R1 b _ e2 _ fun vs B2 H2 R2 g2 r2 => q (v :: vs) B2 H2 R2 (g1.trans g2) (.cons (r1.gr g2) r2)
/-- the arguments' values, told by another function of them -/
theorem ea_map {tr : TA} {y : m β} {g : β → List D} {z : m γ} {g' : γ → List D} (h : EvA K tr sd y g) (hz : ∀ k c k', Mn.run z k = some (c, k') → ∃ b, Mn.run y k = some (b, k') ∧ g b = g' c) : EvA K tr sd z g' := fun F σ B H k R c k' e Q q => by
  obtain ⟨b, e1, e2⟩ := hz k c k' e
  exact h F σ B H k R b k' e1 Q fun vs B' H' R' g r => q vs B' H' R' g (e2 ▸ r)
theorem ea_1 [Enc α] {x : m α} (h : EvM K te sd x) : EvA K (tCons te tNil) sd x (fun a => [enc a]) := fun F σ B H k R c k' e Q q =>
  h F σ B H k R c k' e _ fun v B1 H1 R1 g1 r1 => q [v] B1 H1 R1 g1 (.cons r1 .nil)
variable {t1 t2 t3 t4 t5 t6 : TE}
theorem ea_2 [Enc α] [Enc β] {x : m α} {y : m β} (h1 : EvM K t1 sd x) (h2 : EvM K t2 sd y) : EvA K (tCons t1 (tCons t2 tNil)) sd (Mn.bnd x fun a => Mn.bnd y fun b => Mn.pur (a, b)) (fun p => [enc p.1, enc p.2]) :=
  ea_cons h1 (ea_1 h2)
/-- a tuple of written length, as a value of a type of its own -/
theorem em_tup {tr : TA} [Enc β] {y : m β} {g : β → List D} (h : EvA K tr sd y g) (hg : ∀ b, enc b = .tup (g b)) (hl : ∀ b, (g b).length ≤ 1000) : EvM K (tTup tr) sd y := fun F σ B H k R c k' e Q q =>
  h F σ B H k R c k' e _ fun vs B1 H1 R1 g1 r1 => ⟨by rw [r1.len]; exact Nat.le_trans (hl c) (by decide), fun p hp => by
    obtain ⟨R2, g2⟩ := R1.data (o := .tup vs) hp
    exact q (.ref p) _ _ R2 (g1.trans g2) (by rw [hg]; exact .tup (.inl (.inl upd_same)) (r1.gr g2))⟩
theorem em_tup2 [Enc α] [Enc β] {x : m α} {y : m β} (h1 : EvM K t1 sd x) (h2 : EvM K t2 sd y) : EvM K (tTup (tCons t1 (tCons t2 tNil))) sd (Mn.bnd x fun a => Mn.bnd y fun b => Mn.pur (a, b)) :=
  em_tup (ea_2 h1 h2) (fun _ => rfl) fun _ => (by decide : 2 ≤ 1000)
theorem ef_lst [Enc α] {tr : TA} {y : m (List α)} (h : EvA K tr sd y (fun xs => xs.map enc)) : EvF K (.lst .dat) (tLst tr) sd (Mn.bnd y fun xs => gd (xs.length ≤ 1000) (Mn.pur xs)) := fun F σ B H k R c k' e Q q => by
  obtain ⟨xs, k1, e1, e⟩ := bnd_some e
  obtain ⟨hl, e⟩ := gd_some e
  obtain ⟨rfl, rfl⟩ := pur_some e
  refine h F σ B H k R c _ e1 _ fun vs B1 H1 R1 g1 r1 => ⟨?_, fun p hp => ?_⟩
  · rw [r1.len, List.length_map]; exact Nat.le_trans hl (by decide)
  · exact q _ B1 _ (R1.newL hp r1) g1
theorem el_nil [Enc α] : EvA K tNil sd (Mn.pur [] : m (List α)) (fun xs => xs.map enc) := fun F σ B H k R b k' e Q q => by
  obtain ⟨rfl, rfl⟩ := pur_some e
  exact q [] B H R (Gr.refl B) .nil
theorem el_cons [Enc α] {tr : TA} {x : m α} {y : m (List α)} (h : EvM K te sd x) (hr : EvA K tr sd y (fun xs => xs.map enc)) : EvA K (tCons te tr) sd (Mn.bnd x fun a => Mn.bnd y fun b => Mn.pur (a :: b)) (fun xs => xs.map enc) := fun F σ B H k R c k' e Q q => by
  obtain ⟨a, k1, e1, e⟩ := bnd_some e
  obtain ⟨b, k2, e2, e⟩ := bnd_some e
  obtain ⟨rfl, rfl⟩ := pur_some e
  refine h F σ B H k R a k1 e1 _ fun v B1 H1 R1 g1 r1 => ?_
  exact hr F σ B1 H1 k1 R1 b _ e2 _ fun vs B2 H2 R2 g2 r2 => q (v :: vs) B2 H2 R2 (g1.trans g2) (.cons (r1.gr g2) r2)

end
end ON

set_option Elab.async false
set_option linter.all false
set_option maxRecDepth 100000
set_option maxHeartbeats 2000000
/-! N4: calls of defs. -/
namespace ON
open PySem L2

/-- arguments: data, or the state -/
def Arps (K : PySem.W.Frag) (B : Hp) (a : Addr) : List V → List (Option D) → Prop
  | [], [] => True
  | v :: vs, some d :: ds => Rp K B v d ∧ Arps K B a vs ds
  | v :: vs, none :: ds => v = .ref a ∧ Arps K B a vs ds
  | _, _ => False
/-- a def that hands back something of shape s and leaves what stands -/
def spP (K : PySem.W.Frag) (n : Nat) (s : Sh) (pre : List D → D → Prop) : Sp := fun vs H Q _ => ∃ (B : Hp) (ds : List D) (r : D), pre ds r ∧ vs.length = n ∧ Gr B H ∧ Rps K B vs ds ∧
  ∀ v B' H' f, Gr B B' → Gr B' H' → Gr H H' → (∀ a o, B' a = some o → B a = none → H a = none) → Ow K B' H' s v r f → f.Nodup → (∀ a ∈ f, B' a = none ∧ H a = none) → Q v H'
/-- one that draws from the state -/
def spS (K : PySem.W.Frag) (n : Nat) (s : Sh) (pre : SK → List (Option D) → Int → D → Int → Prop) : Sp := fun vs H Q _ => ∃ (B : Hp) (a : Addr) (q : Sa) (ds : List (Option D)) (k : Int) (r : D) (k' : Int),
  pre q.q ds k r k' ∧ vs.length = n ∧ Gr B H ∧ StAt K B H a q k ∧ Arps K B a vs ds ∧
  ∀ v B' H' f, Gr B B' → Gr B' H' → (∀ b o, b ≠ a → H b = some o → H' b = some o) → StAt K B' H' a q k' → (∀ b o, B' b = some o → B b = none → H b = none) → Ow K B' H' s v r f → f.Nodup → (∀ b ∈ f, B' b = none ∧ H b = none) → Q v H'
/-- the arguments of a def that draws -/
def EvAS (K : PySem.W.Frag) {m : Type → Type} [Mn m] {α : Type} (ta : TA) (sd : List SD) (x : m α) (g : α → List (Option D)) : Prop := ∀ (F : Fr) (σ : L2.St) (B H : Hp) (k : Int) (a : Addr) (q : Sa), F.sa = some (a, q) → Rel K F σ B H sd k → ∀ (c : α) (k' : Int), Mn.run x k = some (c, k') →
  ∀ Q : List V → Hp → Prop, (∀ vs B' H', Rel K F σ B' H' sd k' → Gr B B' → Arps K B' a vs (g c) → Q vs H') → ta σ H Q
/-- .. of one whose state is made for it: {'left': k0}, the last argument -/
def EvAT (K : PySem.W.Frag) {m : Type → Type} [Mn m] {α : Type} (ta : TA) (sd : List SD) (x : m α) (g : α → List (Option D)) (k0 : α → Int) : Prop := ∀ (F : Fr) (σ : L2.St) (B H : Hp) (k : Int), Rel K F σ B H sd k → ∀ (c : α) (k' : Int), Mn.run x k = some (c, k') →
  ∀ Q : List V → Hp → Prop, (∀ a vs B' H', Rel K (F.push (.ref a) (.dic .dat) (.dic [.inr "left"] [.int (k0 c)])) σ B' H' sd k' → Gr B B' → Arps K B' a vs (g c) → Q vs H') → ta σ H Q
theorem Arps.gr {K : PySem.W.Frag} {B C : Hp} {a : Addr} (g : Gr B C) : ∀ {vs : List V} {ds : List (Option D)}, Arps K B a vs ds → Arps K C a vs ds
  | [], [], _ => trivial
  | _ :: _, some _ :: _, ⟨h, hs⟩ => ⟨h.gr g, Arps.gr g hs⟩
  | _ :: _, none :: _, ⟨h, hs⟩ => ⟨h, Arps.gr g hs⟩
  | [], _ :: _, h => by cases h
  | _ :: _, [], h => by cases h
theorem Arps.len {K : PySem.W.Frag} {B : Hp} {a : Addr} : ∀ {vs : List V} {ds : List (Option D)}, Arps K B a vs ds → vs.length = ds.length
  | [], [], _ => rfl
  | _ :: _, some _ :: _, ⟨_, hs⟩ => by rw [List.length_cons, List.length_cons, Arps.len hs]
  | _ :: _, none :: _, ⟨_, hs⟩ => by rw [List.length_cons, List.length_cons, Arps.len hs]
  | [], _ :: _, h => by cases h
  | _ :: _, [], h => by cases h
section
variable {K : PySem.W.Frag} {m : Type → Type} [Mn m] {α β γ δ τ τ' l ρ : Type} {sd : List SD} {ta tb te : TE}
/-- the call of a pure def: what its mirror says -/
theorem ef_call {tr : TA} [Enc γ] {n : Nat} {s : Sh} {pre : List D → D → Prop} {E : XK} {dvs : List V} {dds : List D} {y : m β} {g : β → List D} {f : β → Option γ} (h : EvA K tr sd y g) (hd : ∀ B, Rps K B dvs dds) (hn : ∀ b, (g b ++ dds).length = n) (hp : ∀ b r, f b = some r → pre (g b ++ dds) (enc r)) :
    EvF K s (tCall (spP K n s pre) dvs E tr) sd (Mn.bnd y fun b => lift (f b)) := fun F σ B H k R c k' e Q q => by
  obtain ⟨b, k1, e1, e⟩ := bnd_some e
  obtain ⟨hf, rfl⟩ := lift_some e
  refine h F σ B H k R b _ e1 _ fun vs B1 H1 R1 g1 r1 => ?_
  have rr := r1.app (hd B1)
  exact ⟨B1, g b ++ dds, enc c, hp b c hf, by rw [rr.len, hn], R1.bh, rr, fun v B' H' f g2 g3 g4 hn w nd hf => q v B' H' (R1.push w nd hf g2 g3 g4 hn) (g1.trans g2)⟩
theorem em_call {tr : TA} [Enc γ] {n : Nat} {pre : List D → D → Prop} {E : XK} {dvs : List V} {dds : List D} {y : m β} {g : β → List D} {f : β → Option γ} (h : EvA K tr sd y g) (hd : ∀ B, Rps K B dvs dds) (hn : ∀ b, (g b ++ dds).length = n) (hp : ∀ b r, f b = some r → pre (g b ++ dds) (enc r)) :
    EvM K (tCall (spP K n .dat pre) dvs E tr) sd (Mn.bnd y fun b => lift (f b)) := em_ofF (ef_call h hd hn hp)
theorem Rel.drewX {F : Fr} {σ : L2.St} {B H B' H' : Hp} {k k' : Int} {a : Addr} {q : Sa} {v : V} {s : Sh} {r : D} {f : List Addr} (R : Rel K F σ B H sd k) (hs : F.sa = some (a, q)) (g1 : Gr B B') (g2 : Gr B' H') (g3 : ∀ b o, b ≠ a → H b = some o → H' b = some o) (hS : StAt K B' H' a q k')
    (hn : ∀ a o, B' a = some o → B a = none → H a = none) (w : Ow K B' H' s v r f) (nd : f.Nodup) (hf : ∀ b ∈ f, B' b = none ∧ H b = none) : Rel K (F.push v s r) σ B' H' sd k' := by
  have hS0 := R.st _ hs
  obtain ⟨o0, ho0⟩ := hS0.inH
  have na : a ∉ f := fun m => by have z := (hf a m).2; rw [show H a = some o0 from ho0] at z; cases z
  let H2 : Hp := fun b => if b = a then H b else H' b
  have e2 : ∀ b, b ≠ a → H2 b = H' b := fun b ne => by show (if b = a then H b else H' b) = _; rw [if_neg ne]
  have ea : H2 a = H a := by show (if a = a then H a else H' a) = _; rw [if_pos rfl]
  have gB2 : Gr B' H2 := fun b o e => by
    by_cases c : b = a
    · subst c; rw [hS.1] at e; cases e
    · rw [e2 b c]; exact g2 b o e
  have gH2 : Gr H H2 := fun b o e => by
    by_cases c : b = a
    · subst c; rw [ea]; exact e
    · rw [e2 b c]; exact g3 b o c e
  have w2 : Ow K B' H2 s v r f := w.frame (Gr.refl _) fun b m => e2 b fun z => na (z ▸ m)
  have R2 := R.push w2 nd hf g1 gB2 gH2 hn
  exact R2.drew (F := F.push v s r) hs (Gr.refl _) g2 (fun b o ne e => by rw [e2 b ne] at e; exact e) hS fun b o e e0 => by rw [e] at e0; cases e0
theorem ef_draw {tr : TA} [Enc γ] {n : Nat} {s : Sh} {pre : SK → List (Option D) → Int → D → Int → Prop} {E : XK} {i : Nat} {q : SK} {y : Sm β} {g : β → List (Option D)} {f : β → Sm γ} (hi : sd[i]? = some (.sr q)) (h : EvAS K tr sd y g)
    (hn : ∀ b, (g b).length = n) (hp : ∀ b k r k', f b k = some (r, k') → pre q (g b) k (enc r) k') : EvF K s (tCall (spS K n s pre) [] E tr) sd (Mn.bnd y f) := fun F σ B H k R z k' e Q q => by
  obtain ⟨b, k1, e1, e⟩ := bnd_some e
  obtain ⟨o, _, ho, ⟨_, a, w0, rfl, hs, rfl⟩, _⟩ := R.slot hi
  refine h F σ B H k a _ hs R b _ e1 _ fun vs B1 H1 R1 g1 r1 => ?_
  have hS := R1.st _ hs
  refine ⟨B1, a, _, g b, k1, enc z, k', hp b k1 z k' e, ?_, R1.bh, hS, by rw [List.append_nil]; exact r1, fun v B' H' f g2 g3 g4 hS' hn' w nd hf => ?_⟩
  · rw [List.append_nil, r1.len, hn]
  · exact q v B' H' (R1.drewX hs g2 g3 g4 hS' hn' w nd hf) (g1.trans g2)
theorem em_draw {tr : TA} [Enc γ] {n : Nat} {pre : SK → List (Option D) → Int → D → Int → Prop} {E : XK} {i : Nat} {q : SK} {y : Sm β} {g : β → List (Option D)} {f : β → Sm γ} (hi : sd[i]? = some (.sr q)) (h : EvAS K tr sd y g)
    (hn : ∀ b, (g b).length = n) (hp : ∀ b k r k', f b k = some (r, k') → pre q (g b) k (enc r) k') : EvM K (tCall (spS K n .dat pre) [] E tr) sd (Mn.bnd y f) := em_ofF (ef_draw hi h hn hp)
/-- arguments of a def that draws -/
theorem ea_nilS : EvAS K tNil sd (Mn.pur () : m Unit) (fun _ => []) := fun F σ B H k a q hs R b k' e Q q => by
  obtain ⟨rfl, rfl⟩ := pur_some e
  exact q [] B H R (Gr.refl B) trivial
theorem ea_st {i : Nat} {q : SK} {tr : TA} {y : m β} {g : β → List (Option D)} (hi : sd[i]? = some (.sr q)) (hr : EvAS K tr sd y g) : EvAS K (tCons (tVar i) tr) sd y (fun b => none :: g b) := fun F σ B H k a q hs R c k' e Q q => by
  obtain ⟨o, _, ho, ⟨_, a2, w0, rfl, hs2, rfl⟩, _⟩ := R.slot hi
  rw [hs] at hs2; cases hs2
  exact ⟨_, ho, hr F σ B H k a _ hs R c k' e _ fun vs B' H' R' g' r' => q (.ref a :: vs) B' H' R' g' ⟨rfl, r'⟩⟩
theorem ea_dt [Enc α] {tr : TA} {x : m α} {y : m β} {g : β → List (Option D)} (h : EvM K te sd x) (hr : EvAS K tr sd y g) : EvAS K (tCons te tr) sd (Mn.bnd x fun a => Mn.bnd y fun b => Mn.pur (a, b)) (fun p => some (enc p.1) :: g p.2) := fun F σ B H k a q hs R c k' e Q q => by
  obtain ⟨b, k1, e1, e⟩ := bnd_some e
  obtain ⟨d, k2, e2, e⟩ := bnd_some e
  obtain ⟨rfl, rfl⟩ := pur_some e
  refine h F σ B H k R b k1 e1 _ fun v B1 H1 R1 g1 r1 => ?_
  exact hr F σ B1 H1 k1 a _ hs R1 d _ e2 _ fun vs B2 H2 R2 g2 r2 => q (v :: vs) B2 H2 R2 (g1.trans g2) ⟨r1.gr g2, r2⟩
theorem ea_dt1 [Enc α] {x : m α} (h : EvM K te sd x) : EvAS K (tCons te tNil) sd x (fun p => [some (enc p)]) := fun F σ B H k a q hs R c k' e Q q =>
  h F σ B H k R c k' e _ fun v B1 H1 R1 g1 r1 => q [v] B1 H1 R1 g1 ⟨r1, trivial⟩
/-- a state made for the call -/
theorem et_new {x : m Int} (h : EvM K te sd x) : EvAT K (tCons (tDisp [(tC (.str "left"), te)]) tNil) sd x (fun _ => [none]) id := fun F σ B H k R c k' e Q q => by
  intro p hp
  -- the dict stands empty while its value is reckoned
  have R0 := R.newD (ks := []) (vs := []) (ds := []) hp rfl .nil
  refine h (F.push (.ref p) (.dic .dat) (.dic [] [])) σ B _ k R0 c k' e _ fun v B1 H1 R1 g1 r1 => ?_
  rw [Rp.int_inv r1]
  obtain ⟨f, w, nd, hf, q1⟩ := R1.top
  obtain ⟨a, ks, vs, ds, ea, ed, rfl, hl, hH, hv⟩ := ow_dicd.mp w
  cases ea
  cases ed
  have ev : vs = [] := List.length_eq_zero_iff.mp hl.symm
  subst ev
  refine ⟨hH, [(.inr "left", .int c)], rfl, (by decide : 1 ≤ 15), ?_⟩
  have hb := (hf p (List.mem_singleton.mpr rfl)).1
  have z := q1 B1 (upd H1 p (.dK (mergeK [] [((.inr "left" : Key), V.int c)]))) (fun a u na e => by rw [upd_ne (fun z => na (List.mem_singleton.mpr z))]; exact e) (Gr.refl _) (R1.bh.mut hb) fun a u e e0 => by rw [e] at e0; cases e0
  refine q p [.ref p] B1 _ (z.2.1 (.ref p) (.dic .dat) _ [p] (ow_dicd.mpr ⟨p, [.inr "left"], [.int c], [.int c], rfl, rfl, rfl, rfl, upd_same, .cons (.int c) .nil⟩) (by simp) fun a m => ⟨(hf a m).1, .inl m⟩) g1 ⟨rfl, trivial⟩
theorem et_dt [Enc α] {tr : TA} {x : m α} {y : m β} {g : β → List (Option D)} {k0 : β → Int} (h : EvM K te sd x) (hr : EvAT K tr sd y g k0) : EvAT K (tCons te tr) sd (Mn.bnd x fun a => Mn.bnd y fun b => Mn.pur (a, b)) (fun p => some (enc p.1) :: g p.2) (fun p => k0 p.2) := fun F σ B H k R c k' e Q q => by
  obtain ⟨b, k1, e1, e⟩ := bnd_some e
  obtain ⟨d, k2, e2, e⟩ := bnd_some e
  obtain ⟨rfl, rfl⟩ := pur_some e
  refine h F σ B H k R b k1 e1 _ fun v B1 H1 R1 g1 r1 => ?_
  exact hr F σ B1 H1 k1 R1 d _ e2 _ fun a vs B2 H2 R2 g2 r2 => q a (v :: vs) B2 H2 R2 (g1.trans g2) ⟨r1.gr g2, r2⟩
theorem ef_callT {tr : TA} [Enc γ] {n : Nat} {s : Sh} {pre : SK → List (Option D) → Int → D → Int → Prop} {E : XK} {y : m β} {g : β → List (Option D)} {k0 : β → Int} {f : β → Sm γ} (h : EvAT K tr sd y g k0)
    (hn : ∀ b, (g b).length = n) (hp : ∀ b k r k', f b k = some (r, k') → pre .left (g b) k (enc r) k') : EvF K s (tCall (spS K n s pre) [] E tr) sd (Mn.bnd y fun b => lift ((f b (k0 b)).map (·.1))) := fun F σ B H k R z k' e Q q => by
  obtain ⟨b, k1, e1, e⟩ := bnd_some e
  obtain ⟨hm, rfl⟩ := lift_some e
  obtain ⟨p, hf, rfl⟩ := Option.map_eq_some_iff.mp hm
  obtain ⟨z, k2⟩ := p
  refine h F σ B H k R b _ e1 _ fun a vs B1 H1 R1 g1 r1 => ?_
  obtain ⟨fp, w, nd, hf1, q1⟩ := R1.top
  obtain ⟨a', ks, ws, ds, ea, ed, rfl, hl, hH, hv⟩ := ow_dicd.mp w
  cases ea; cases ed
  have hH2 : H1 a = some (.dK [(.inr "left", .int (k0 b))]) := by
    match ws, hl, hv with
    | [w1], _, hv =>
      cases hv with | cons hv _ => rw [Rp.int_inv hv] at hH; exact hH
  have hb := (hf1 a (List.mem_singleton.mpr rfl)).1
  refine ⟨B1, a, ⟨.left, a, none⟩, g b, k0 b, enc z, k2, hp b _ z k2 hf, ?_, R1.bh, ⟨hb, hH2⟩, by rw [List.append_nil]; exact r1, fun v B' H' fv g2 g3 g4 hS' hn' w2 nd2 hf2 => ?_⟩
  · rw [List.append_nil, r1.len, hn]
  · -- the state made for the call is dropped
    have key := q1 B' H' (fun c u nc e => g4 c u (fun z => nc (List.mem_singleton.mpr z)) e) g2 g3 fun c u e e0 => .inr (hn' c u e e0)
    exact q v B' H' (key.2.1 v s _ fv w2 nd2 fun c m => ⟨(hf2 c m).1, .inr (hf2 c m).2⟩) (g1.trans g2)
theorem em_callT {tr : TA} [Enc γ] {n : Nat} {pre : SK → List (Option D) → Int → D → Int → Prop} {E : XK} {y : m β} {g : β → List (Option D)} {k0 : β → Int} {f : β → Sm γ} (h : EvAT K tr sd y g k0)
    (hn : ∀ b, (g b).length = n) (hp : ∀ b k r k', f b k = some (r, k') → pre .left (g b) k (enc r) k') : EvM K (tCall (spS K n .dat pre) [] E tr) sd (Mn.bnd y fun b => lift ((f b (k0 b)).map (·.1))) := em_ofF (ef_callT h hn hp)
end
end ON

set_option Elab.async false
set_option linter.all false
set_option maxRecDepth 100000
set_option maxHeartbeats 2000000
/-! zip of a tuple and a list -/
namespace ON
open PySem PySem.Spec PyProof.Rows L2
def ItM (K : PySem.W.Frag) (a b : Addr) : It :=
  ⟨fun i H => ∃ (xs ys : List V) (x y : V), SqT K H a xs ∧ SqL K H b ys ∧ xs[i]? = some x ∧ ys[i]? = some y,
   fun i H v H' => ∃ T x y, v = .ref T ∧ H T = none ∧ H' = upd H T (.tup [x, y]) ∧ (∀ xs, SqT K H a xs → xs[i]? = some x) ∧ (∀ ys, SqL K H b ys → ys[i]? = some y),
   fun i H => ∃ xs ys : List V, SqT K H a xs ∧ SqL K H b ys ∧ (xs.length = i ∨ ys.length = i) ∧ i ≤ xs.length ∧ i ≤ ys.length⟩
theorem sep_of {z TI TO i1 i2 a b : Addr} (D : ZipApart z TI TO i1 i2 a b) : ZipSep2 z TI TO i1 i2 [i1, a] [i2, b] where
  TIz := D.TIz
  TOz := D.TOz
  TITO := D.TITO
  TIi1 := D.TIi1
  mem1 := by simp
  zf1 := by simp [D.i1z.symm, D.l1z.symm]
  Tf1 := by simp [D.TOi1, D.l1TO.symm]
  TIi2 := D.TIi2
  mem2 := by simp
  zf2 := by simp [D.i2z.symm, D.l2z.symm]
  Tf2 := by simp [D.TOi2, D.l2TO.symm]
  sep1_2 := by simp [D.i12, D.l2i1.symm]
  sep2_1 := by simp [D.i12.symm, D.l1i2.symm]
theorem five {c z TI TO i1 i2 : Addr} (h : c ∈ [z, TI, TO, i1, i2]) : c = z ∨ c = TI ∨ c = TO ∨ c = i1 ∨ c = i2 := by simpa using h
def StM (a b z TI TO i1 i2 : Addr) (i : Nat) (h : Heap) : Prop := IsZip h z TI TO .none ∧ IsPair h TI (.ref i1) (.ref i2) ∧ (∃ x y, IsPair h TO x y) ∧ h.IsTupleIter i1 a i ∧ h.IsListIter i2 b i
theorem turnM {P : Program} {w : World} {K : PySem.W.Frag} {es : List Expr} {kk : Nat} {tp : Pos} {a b z TI TO i1 i2 : Addr} (D : ZipApart z TI TO i1 i2 a b) :
    Turn P w K (.Tuple es kk tp) (ItM K a b) [z, TI, TO, i1, i2] z (StM a b z TI TO i1 i2) where
  mem := by simp
  obj := fun i h st c hc => by
    obtain ⟨hz, hI, ⟨x, y, hO⟩, ⟨o1, q1, _, d1⟩, ⟨o2, q2, _, d2⟩⟩ := st
    rcases five hc with rfl | rfl | rfl | rfl | rfl
    · exact ⟨_, hz, fun v q => nomatch q⟩
    · exact ⟨_, hI, fun v q => nomatch q⟩
    · exact ⟨_, hO, fun v q => nomatch q⟩
    · exact ⟨o1, q1, fun v q => by rw [d1] at q; cases q⟩
    · exact ⟨o2, q2, fun v q => by rw [d2] at q; cases q⟩
  keep := fun i h h' st k => by
    obtain ⟨hz, hI, ⟨x, y, hO⟩, n1, n2⟩ := st
    exact ⟨k z (by simp) _ hz, k TI (by simp) _ hI, ⟨x, y, k TO (by simp) _ hO⟩, n1.at fun o q => k i1 (by simp) o q, n2.at fun o q => k i2 (by simp) o q⟩
  item := by
    intro X hP hw hK hc i pins s σ H E I hf st hg
    subst hP hw hK
    obtain ⟨hz, hI, ⟨x0, y0, hO⟩, n1, n2⟩ := st
    obtain ⟨xs, ys, x, y, hqx, hqy, hx, hy⟩ := hg
    obtain ⟨ws, rv, p1, _⟩ := I.tuple hqx
    obtain ⟨ws2, rv2, p2, _⟩ := I.list hqy
    obtain ⟨u, hu, ru⟩ := rv.get hx
    obtain ⟨u2, hu2, ru2⟩ := rv2.get hy
    have zl : z < s.heap.objs.size := Heap.lt_size hz
    have hh : X.A.in1.handled = none := I.ok.hd hc
    refine wpAny_pyNext_zipD2_item (n1 := ws.toArray.size) (n2 := ws2.toArray.size) (sep_of D) (Draws.tuple hh i1 a D.l1i1 ws.toArray) (Draws.list hh i2 b D.l2i2 ws2.toArray) hz hI hO ⟨n1, p1⟩ ⟨n2, p2.isList⟩ ?_ ?_ ?_
    · have := (List.getElem?_eq_some_iff.mp hu).1; simpa using this
    · have := (List.getElem?_eq_some_iff.mp hu2).1; simpa using this
    intro v1 v2 h' tk e1 e2 z' O' st1 st2 hT hsz hk
    have ev1 : v1 = u := by
      have q : ws[i]? = some v1 := by simpa using e1
      rw [hu] at q; exact (Option.some.inj q).symm
    have ev2 : v2 = u2 := by
      have q : ws2[i]? = some v2 := by simpa using e2
      rw [hu2] at q; exact (Option.some.inj q).symm
    subst ev1 ev2
    refine ⟨_, rfl, wpAny_letOwnedTupleGo_zip (s := { s with heap := h', toks := tk }) z' fun h2 z2 sb => ?_⟩
    have T2 : h2.get? s.heap.objs.size = some { cls := .type "tuple", data := .seq #[v1, v2] } := (sb.2 _ (Nat.ne_of_gt zl)).trans hT
    have new : ObjOk X.prog X.w (upd H s.heap.objs.size (.tup [x, y])) h2 s.heap.objs.size (.tup [x, y]) := ⟨by show 2 ≤ sizeLine; decide, [v1, v2], .cons ru (.cons ru2 .nil), ⟨_, T2, rfl, _, rfl⟩⟩
    have lt : ∀ c ∈ [z, TI, TO, i1, i2], c < s.heap.objs.size := fun c hc => by
      rcases five hc with rfl | rfl | rfl | rfl | rfl
      · exact zl
      · exact Heap.lt_size hI
      · exact Heap.lt_size hO
      · obtain ⟨_, q, _⟩ := n1; exact Heap.lt_size q
      · obtain ⟨_, q, _⟩ := n2; exact Heap.lt_size q
    have I1 : Inv X pins σ (upd H s.heap.objs.size (.tup [x, y])) { s with heap := h2, toks := tk } := I.turnedNew (t' := tk) (ch := [z, TI, TO, i1, i2]) (fun c o hn q =>
      (sb.2 c (fun r => hn (by simp [r]))).trans (hk c o (fun r => hn (by simp [r])) (fun r => hn (by simp [r])) (fun r => hn (by simp [r])) (fun r => hn (by simp [r])) q)) hf (Nat.le_refl _) new
    refine ⟨.ref s.heap.objs.size, _, I1, rfl, ⟨_, x, y, rfl, I.hok.fresh (Nat.le_refl _), rfl, fun l hl => by rw [I.tuple_inj hl hqx]; exact hx, fun l hl => by rw [I.list_inj hl hqy]; exact hy⟩, ⟨z2, ?_, ⟨v1, v2, ?_⟩, ?_, ?_⟩, fun c hcm => ?_⟩
    · exact (sb.2 _ D.TIz).trans (hk _ _ D.TIz D.TITO D.TIi1 D.TIi2 hI)
    · exact (sb.2 _ D.TOz).trans O'
    · exact st1.1.at fun o q => (sb.2 _ D.i1z).trans q
    · exact st2.1.at fun o q => (sb.2 _ D.i2z).trans q
    · rw [upd_ne (Nat.ne_of_lt (lt c hcm))]
      exact (hf c hcm).1
  done := by
    intro X hP hw hK hc i pins s σ H E I hf st hg
    subst hP hw hK
    obtain ⟨hz, hI, ⟨x0, y0, hO⟩, n1, n2⟩ := st
    obtain ⟨xs, ys, hqx, hqy, he, l1, l2⟩ := hg
    obtain ⟨ws, rv, p1, _⟩ := I.tuple hqx
    obtain ⟨ws2, rv2, p2, _⟩ := I.list hqy
    have hh : X.A.in1.handled = none := I.ok.hd hc
    have s1 : ws.toArray.size = xs.length := by rw [List.size_toArray]; exact rv.length.symm
    have s2 : ws2.toArray.size = ys.length := by rw [List.size_toArray]; exact rv2.length.symm
    refine wpAny_pyNext_zipD2_end (n1 := ws.toArray.size) (n2 := ws2.toArray.size) (sep_of D) (Draws.tuple hh i1 a D.l1i1 ws.toArray) (Draws.list hh i2 b D.l2i2 ws2.toArray) hz hI hO ⟨n1, p1⟩ ⟨n2, p2.isList⟩ (by omega) (by omega) (by omega) fun h' tk hk => ?_
    exact ⟨rfl, I.turnedL (t' := tk) (ch := [z, TI, TO, i1, i2]) (fun c o hn q => hk c o (fun r => hn (by simp [r])) (fun r => hn (by simp [r])) (fun r => hn (by simp [r])) (fun r => hn (by simp [r])) q) hf⟩
  self := fun A i s Q E st h => wpAny_pyIter_zip st.1 h
def iZipM (K : PySem.W.Frag) (ta : TA) : TI := fun σ H R => ta σ H fun vs H1 => ∃ a b xs ys, vs = [.ref a, .ref b] ∧ SqT K H1 a xs ∧ SqL K H1 b ys ∧ R (ItM K a b) H1
theorem pi_zipM {X : Cx} {e e2 : Expr} {ta : TA} {p pos tpos : Pos} {elts : List Expr} {kk : Nat} (hg : Gl X "zip") (hm : X.mg "zip" = none) (ha : PA X [e, e2] ta)
    (hs : starEach [e, e2] X.env = (false, eval e X.env) :: starEach [e2] X.env := by rfl) (hpl : (backTo pos (starEach [e2] X.env)).any (·.1) = false := by rfl) :
    PI X (.Tuple elts kk tpos) (.Call (.Name "zip" p) [e, e2] [] pos) (iZipM X.K ta) := by
  refine ⟨fun pins s σ H R I h => ?_⟩
  refine Call_ (ld_blt I hg hm PyProof.Rows.boot_zip (PyProof.Rows.callWith_type1 (thn (ha.run pos pins s σ H _ I h) fun us s1 q0 => ?_) hs hpl))
  obtain ⟨vs, H1, I1, r1, a, b, xs, ys, rfl, hqx, hqy, q⟩ := q0
  cases r1 with
  | cons r rr =>
    cases rr with
    | cons r' rr =>
      cases rr
      cases r
      cases r'
      obtain ⟨ws, rv, p1, _⟩ := I1.tuple hqx
      obtain ⟨ws2, rv2, p2, _⟩ := I1.list hqy
      obtain ⟨o1, ho1, _⟩ := id p1
      have lt1 : a < s1.heap.objs.size := Heap.lt_size ho1
      have lt2 : b < s1.heap.objs.size := p2.lt
      refine zip_begins2 (begins_tuple a ws.toArray) (begins_list b ws2.toArray) p1 p2.isList fun h' hz hI hO g1 g2 hsz hk => wpAny_pyIter_zip hz ?_
      have fresh : ∀ c, c ∈ [s1.heap.objs.size + 4, s1.heap.objs.size + 2, s1.heap.objs.size + 3, s1.heap.objs.size, s1.heap.objs.size + 1] → FpOk X pins H1 c := fun c hcm => by
        have le : s1.heap.objs.size ≤ c := by
          rcases five hcm with rfl | rfl | rfl | rfl | rfl
          · exact Nat.le_add_right _ _
          · exact Nat.le_add_right _ _
          · exact Nat.le_add_right _ _
          · exact Nat.le_refl _
          · exact Nat.le_add_right _ _
        exact I1.fpOk le (I1.hok.fresh le)
      have I2 : Inv X pins σ H1 { s1 with heap := h' } := I1.kept (t' := s1.toks) hk
      exact ⟨_, _, _, _, H1, rfl, I2, turnM (PySem.W.ktu_apart s1.heap.objs.size a b lt1 lt2), ⟨hz, hI, ⟨_, _, hO⟩, ⟨_, g1, rfl, rfl⟩, ⟨_, g2, rfl, rfl⟩⟩, fresh, q⟩
end ON

set_option Elab.async false
set_option linter.all false
set_option maxRecDepth 100000
set_option maxHeartbeats 2000000
/-! N5: what is walked, targets, comprehensions. -/
namespace ON
open PySem L2
section
variable {K : PySem.W.Frag} {m : Type → Type} [Mn m] {α β γ δ τ τ' l ρ : Type} {sd : List SD} {ta tb te : TE}

/-! ### what is walked -/
def Src (K : PySem.W.Frag) [Enc α] (J : It) (B1 : Hp) (xs : List α) : Prop :=
  (∀ i B H, Gr B1 B → Gr B H → i < xs.length → J.go i H) ∧ (∀ i B H, Gr B1 B → Gr B H → xs.length = i → J.stop i H) ∧
  (∀ i B H x H' a, Gr B1 B → Gr B H → J.yld i H x H' → xs[i]? = some a → ∃ B', (∀ F σ sd k, Rel K F σ B H sd k → Rel K F σ B' H' sd k) ∧ Gr B B' ∧ Gr H H' ∧ (∀ p, H' p = none → H p = none) ∧ (∀ p o, H p = some o → B p = none → B' p = none) ∧ Rp K B' x (enc a))
def EvI (K : PySem.W.Frag) [Enc α] (wi : TI) (sd : List SD) (x : m (List α)) : Prop := ∀ (F : Fr) (σ : L2.St) (B H : Hp) (k : Int), Rel K F σ B H sd k → ∀ (xs : List α) (k' : Int), Mn.run x k = some (xs, k') →
  ∀ R : It → Hp → Prop, (∀ J B' H', Rel K F σ B' H' sd k' → Gr B B' → Src K J B' xs → R J H') → wi σ H R
theorem src_list [Enc α] {p : Addr} {vs : List V} {xs : List α} {B : Hp} (h : SqL K B p vs) (r : Rps K B vs (xs.map enc)) : Src K (Itl K p) B xs := by
  have hl : vs.length = xs.length := by rw [r.len, List.length_map]
  refine ⟨fun i C H g g2 hi => ?_, fun i C H g g2 hi => ⟨vs, (g.trans g2).sqL h, by omega⟩, fun i C H x H' a g g2 y hi => ?_⟩
  · obtain ⟨v, hv⟩ : ∃ v, vs[i]? = some v := ⟨vs[i], List.getElem?_eq_getElem (by omega)⟩
    exact ⟨vs, v, (g.trans g2).sqL h, hv⟩
  · obtain ⟨rfl, y⟩ := y
    have hx := y vs ((g.trans g2).sqL h)
    obtain ⟨v, hv, rv⟩ := r.get (i := i) (d := enc a) (by rw [List.getElem?_map, hi] <;> rfl)
    rw [hx] at hv; cases hv
    exact ⟨C, fun _ _ _ _ R => R, Gr.refl C, Gr.refl _, fun _ q => q, fun _ _ _ q => q, rv.gr g⟩
theorem src_tup [Enc α] {p : Addr} {vs : List V} {xs : List α} {B : Hp} (h : SqT K B p vs) (r : Rps K B vs (xs.map enc)) : Src K (Itt K p) B xs := by
  have hl : vs.length = xs.length := by rw [r.len, List.length_map]
  refine ⟨fun i C H g g2 hi => ?_, fun i C H g g2 hi => ⟨vs, (g.trans g2).sqT h, by omega⟩, fun i C H x H' a g g2 y hi => ?_⟩
  · obtain ⟨v, hv⟩ : ∃ v, vs[i]? = some v := ⟨vs[i], List.getElem?_eq_getElem (by omega)⟩
    exact ⟨vs, v, (g.trans g2).sqT h, hv⟩
  · obtain ⟨rfl, y⟩ := y
    have hx := y vs ((g.trans g2).sqT h)
    obtain ⟨v, hv, rv⟩ := r.get (i := i) (d := enc a) (by rw [List.getElem?_map, hi] <;> rfl)
    rw [hx] at hv; cases hv
    exact ⟨C, fun _ _ _ _ R => R, Gr.refl C, Gr.refl _, fun _ q => q, fun _ _ _ q => q, rv.gr g⟩
theorem src_zip [Enc α] [Enc β] {p q : Addr} {vs ws : List V} {xs : List α} {ys : List β} {B : Hp} (h : SqL K B p vs) (r : Rps K B vs (xs.map enc)) (h2 : SqL K B q ws) (r2 : Rps K B ws (ys.map enc)) : Src K (Itz K p q) B (xs.zip ys) := by
  have hl : vs.length = xs.length := by rw [r.len, List.length_map]
  have hl2 : ws.length = ys.length := by rw [r2.len, List.length_map]
  have hz : (xs.zip ys).length = min xs.length ys.length := List.length_zip
  refine ⟨fun i C H g g2 hi => ?_, fun i C H g g2 hi => ⟨vs, ws, (g.trans g2).sqL h, (g.trans g2).sqL h2, by omega⟩, fun i C H x H' a g g2 y hi => ?_⟩
  · exact ⟨vs, ws, vs[i]'(by omega), ws[i]'(by omega), (g.trans g2).sqL h, (g.trans g2).sqL h2, List.getElem?_eq_getElem (by omega), List.getElem?_eq_getElem (by omega)⟩
  · obtain ⟨T, y1, y2, rfl, nT, rfl, f1, f2⟩ := y
    have hx := f1 vs ((g.trans g2).sqL h)
    have hy := f2 ws ((g.trans g2).sqL h2)
    obtain ⟨a, b⟩ := a
    obtain ⟨ha, hb⟩ := List.getElem?_zip_eq_some.mp hi
    obtain ⟨v, hv, rv⟩ := r.get (i := i) (d := enc a) (by rw [List.getElem?_map, ha] <;> rfl)
    obtain ⟨w, hw, rw'⟩ := r2.get (i := i) (d := enc b) (by rw [List.getElem?_map, hb] <;> rfl)
    rw [hx] at hv; cases hv
    rw [hy] at hw; cases hw
    have gT : Gr C (upd C T (.tup [y1, y2])) := Gr.new (g2.back nT)
    refine ⟨upd C T (.tup [y1, y2]), fun F σ sd k R => (R.data nT).1, gT, Gr.new nT, fun p e => ?_, fun p o e eb => ?_, ?_⟩
    · by_cases c : p = T
      · subst c; exact nT
      · rw [upd_ne c] at e; exact e
    · rw [upd_ne (ne_of_none e nT)]; exact eb
    · exact .tup (.inl (.inl upd_same)) (.cons ((rv.gr g).gr gT) (.cons ((rw'.gr g).gr gT) .nil))
theorem src_zipT [Enc α] [Enc β] {p q : Addr} {vs ws : List V} {xs : List α} {ys : List β} {B : Hp} (h : SqT K B p vs) (r : Rps K B vs (xs.map enc)) (h2 : SqT K B q ws) (r2 : Rps K B ws (ys.map enc)) : Src K (RZ.ItzT K p q) B (xs.zip ys) := by
  have hl : vs.length = xs.length := by rw [r.len, List.length_map]
  have hl2 : ws.length = ys.length := by rw [r2.len, List.length_map]
  have hz : (xs.zip ys).length = min xs.length ys.length := List.length_zip
  refine ⟨fun i C H g g2 hi => ?_, fun i C H g g2 hi => ⟨vs, ws, (g.trans g2).sqT h, (g.trans g2).sqT h2, by omega⟩, fun i C H x H' a g g2 y hi => ?_⟩
  · exact ⟨vs, ws, vs[i]'(by omega), ws[i]'(by omega), (g.trans g2).sqT h, (g.trans g2).sqT h2, List.getElem?_eq_getElem (by omega), List.getElem?_eq_getElem (by omega)⟩
  · obtain ⟨T, y1, y2, rfl, nT, rfl, f1, f2⟩ := y
    have hx := f1 vs ((g.trans g2).sqT h)
    have hy := f2 ws ((g.trans g2).sqT h2)
    obtain ⟨a, b⟩ := a
    obtain ⟨ha, hb⟩ := List.getElem?_zip_eq_some.mp hi
    obtain ⟨v, hv, rv⟩ := r.get (i := i) (d := enc a) (by rw [List.getElem?_map, ha] <;> rfl)
    obtain ⟨w, hw, rw'⟩ := r2.get (i := i) (d := enc b) (by rw [List.getElem?_map, hb] <;> rfl)
    rw [hx] at hv; cases hv
    rw [hy] at hw; cases hw
    have gT : Gr C (upd C T (.tup [y1, y2])) := Gr.new (g2.back nT)
    refine ⟨upd C T (.tup [y1, y2]), fun F σ sd k R => (R.data nT).1, gT, Gr.new nT, fun p e => ?_, fun p o e eb => ?_, ?_⟩
    · by_cases c : p = T
      · subst c; exact nT
      · rw [upd_ne c] at e; exact e
    · rw [upd_ne (ne_of_none e nT)]; exact eb
    · exact .tup (.inl (.inl upd_same)) (.cons ((rv.gr g).gr gT) (.cons ((rw'.gr g).gr gT) .nil))
def upTo (lo : Int) (n : Nat) (c : Int) : List Int := (List.range n).map fun i => lo + (i : Nat) * c
theorem upTo_get {lo c a : Int} {n i : Nat} (h : (upTo lo n c)[i]? = some a) : i < n ∧ a = lo + (i : Nat) * c := by
  unfold upTo at h
  rw [List.getElem?_map] at h
  by_cases hi : i < n
  · rw [List.getElem?_range hi] at h; exact ⟨hi, (Option.some.inj h).symm⟩
  · rw [List.getElem?_eq_none (by rw [List.length_range]; omega)] at h; cases h
theorem upTo_len (lo c : Int) (n : Nat) : (upTo lo n c).length = n := by unfold upTo; rw [List.length_map, List.length_range]
theorem src_rng {lo : Int} {n : Nat} {B : Hp} : Src K (Itr lo n) B (upTo lo n 1) := by
  refine ⟨fun i C H g g2 hi => by rw [upTo_len] at hi; exact hi, fun i C H g g2 hi => by rw [upTo_len] at hi; exact Nat.le_of_eq hi, fun i C H x H' a g g2 y hi => ?_⟩
  obtain ⟨rfl, rfl⟩ := y
  obtain ⟨_, rfl⟩ := upTo_get hi
  rw [Int.mul_one]
  exact ⟨C, fun _ _ _ _ R => R, Gr.refl C, Gr.refl _, fun _ q => q, fun _ _ _ q => q, .int _⟩
theorem src_rngC {lo c : Int} {n : Nat} {B : Hp} : Src K (Itc lo c n) B (upTo lo n c) := by
  refine ⟨fun i C H g g2 hi => by rw [upTo_len] at hi; exact hi, fun i C H g g2 hi => by rw [upTo_len] at hi; exact Nat.le_of_eq hi, fun i C H x H' a g g2 y hi => ?_⟩
  obtain ⟨rfl, rfl⟩ := y
  obtain ⟨_, rfl⟩ := upTo_get hi
  exact ⟨C, fun _ _ _ _ R => R, Gr.refl C, Gr.refl _, fun _ q => q, fun _ _ _ q => q, .int _⟩
theorem src_str {x : Str} {B : Hp} : Src K (Its x) B (x.cps.toList.map sgn) := by
  have hl : (x.cps.toList.map sgn).length = x.cps.size := by simp
  refine ⟨fun i C H g g2 hi => by rw [hl] at hi; exact hi, fun i C H g g2 hi => by rw [hl] at hi; exact Nat.le_of_eq hi, fun i C H v H' a g g2 y hi => ?_⟩
  obtain ⟨rfl, c, hc, rfl⟩ := y
  rw [List.getElem?_map, Array.getElem?_toList, hc] at hi
  cases hi
  exact ⟨C, fun _ _ _ _ R => R, Gr.refl C, Gr.refl _, fun _ q => q, fun _ _ _ q => q, .str _⟩
theorem src_enum [Enc α] {p : Addr} {vs : List V} {xs : List α} {B : Hp} (h : SqL K B p vs) (r : Rps K B vs (xs.map enc)) : Src K (Ite K p) B ((upTo 0 xs.length 1).zip xs) := by
  have hl : vs.length = xs.length := by rw [r.len, List.length_map]
  have hz : ((upTo 0 xs.length 1).zip xs).length = xs.length := by rw [List.length_zip, upTo_len, Nat.min_self]
  refine ⟨fun i C H g g2 hi => ?_, fun i C H g g2 hi => ⟨vs, (g.trans g2).sqL h, by omega⟩, fun i C H x H' a g g2 y hi => ?_⟩
  · exact ⟨vs, vs[i]'(by omega), (g.trans g2).sqL h, List.getElem?_eq_getElem (by omega)⟩
  · obtain ⟨T, y1, rfl, nT, rfl, f1⟩ := y
    have hx := f1 vs ((g.trans g2).sqL h)
    obtain ⟨a, b⟩ := a
    obtain ⟨ha, hb⟩ := List.getElem?_zip_eq_some.mp hi
    obtain ⟨_, rfl⟩ := upTo_get ha
    obtain ⟨w, hw, rw'⟩ := r.get (i := i) (d := enc b) (by rw [List.getElem?_map, hb] <;> rfl)
    rw [hx] at hw; cases hw
    have gT : Gr C (upd C T (.tup [.int (i : Nat), y1])) := Gr.new (g2.back nT)
    refine ⟨upd C T (.tup [.int (i : Nat), y1]), fun F σ sd k R => (R.data nT).1, gT, Gr.new nT, fun p e => ?_, fun p o e eb => ?_, ?_⟩
    · by_cases c : p = T
      · subst c; exact nT
      · rw [upd_ne c] at e; exact e
    · rw [upd_ne (ne_of_none e nT)]; exact eb
    · refine .tup (.inl (.inl upd_same)) (.cons ?_ (.cons ((rw'.gr g).gr gT) .nil))
      have e : (0 : Int) + (i : Nat) * 1 = (i : Nat) := by omega
      show Rp K _ _ (.int _)
      rw [e]; exact .int _
theorem ei_list [Enc α] {x : m (List α)} (h : EvM K te sd x) : EvI K (iList K te) sd x := fun F σ B H k R xs k' e Q q =>
  h F σ B H k R xs k' e _ fun v B1 H1 R1 g1 r1 => by
    obtain ⟨p, vs, rfl, hp, hs⟩ := Rp.lst_inv r1
    exact ⟨p, rfl, ⟨vs, SqL.of (R1.bh _ _ hp)⟩, q _ B1 H1 R1 g1 (src_list (SqL.of hp) hs)⟩
theorem ei_tup [Enc α] {x : m (Tl α)} (h : EvM K te sd x) : EvI K (iTup K te) sd (Mn.bnd x fun t => Mn.pur t.l) := fun F σ B H k R xs k' e Q q => by
  obtain ⟨t, k1, e1, e2⟩ := bnd_some e
  obtain ⟨rfl, rfl⟩ := pur_some e2
  refine h F σ B H k R t _ e1 _ fun v B1 H1 R1 g1 r1 => ?_
  obtain ⟨p, vs, rfl, hp, hs⟩ := Rp.tup_inv r1
  exact ⟨p, rfl, ⟨vs, R1.bh.sqT hp⟩, q _ B1 H1 R1 g1 (src_tup hp hs)⟩
/-- an owned list that the loop leaves as it is: not served; freeze it first. A range -/
theorem ei_rng1 {tr : TA} {x : m Int} (h : EvA K tr sd x (fun a => [enc a])) : EvI K (iRng1 tr) sd (Mn.bnd x fun n => gd (-(2 ^ 62) ≤ n ∧ n < 2 ^ 62) (Mn.pur (upTo 0 n.toNat 1))) := fun F σ B H k R xs k' e Q q => by
  obtain ⟨n, k1, e1, e2⟩ := bnd_some e
  obtain ⟨hg, e3⟩ := gd_some e2
  obtain ⟨rfl, rfl⟩ := pur_some e3
  refine h F σ B H k R n _ e1 _ fun vs B1 H1 R1 g1 r1 => ?_
  cases r1 with | cons h hs => cases hs; exact ⟨n, by rw [Rp.int_inv h], hg.1, hg.2, q _ B1 H1 R1 g1 src_rng⟩
theorem ei_rng2 {tr : TA} {x : m (Int × Int)} (h : EvA K tr sd x (fun a => [enc a.1, enc a.2])) : EvI K (iRng2 tr) sd (Mn.bnd x fun n => gd (-(2 ^ 62) ≤ n.1 ∧ n.1 < 2 ^ 62 ∧ -(2 ^ 62) ≤ n.2 ∧ n.2 < 2 ^ 62) (Mn.pur (upTo n.1 (n.2 - n.1).toNat 1))) := fun F σ B H k R xs k' e Q q => by
  obtain ⟨n, k1, e1, e2⟩ := bnd_some e
  obtain ⟨hg, e3⟩ := gd_some e2
  obtain ⟨rfl, rfl⟩ := pur_some e3
  refine h F σ B H k R n _ e1 _ fun vs B1 H1 R1 g1 r1 => ?_
  cases r1 with | cons h hs => cases hs with | cons h2 hs => cases hs; exact ⟨n.1, n.2, by rw [Rp.int_inv h, Rp.int_inv h2], hg, q _ B1 H1 R1 g1 src_rng⟩
/-- zip of two lists, of two tuples -/
theorem ei_zipL [Enc α] [Enc β] {tr : TA} {x : m (List α × List β)} (h : EvA K tr sd x (fun a => [enc a.1, enc a.2])) : EvI K (RZ.iZipA K tr) sd (Mn.bnd x fun p => Mn.pur (p.1.zip p.2)) := fun F σ B H k R xs k' e Q q => by
  obtain ⟨n, k1, e1, e2⟩ := bnd_some e
  obtain ⟨rfl, rfl⟩ := pur_some e2
  refine h F σ B H k R n _ e1 _ fun vs B1 H1 R1 g1 r1 => ?_
  cases r1 with | cons h hs => cases hs with | cons h2 hs =>
    cases hs
    obtain ⟨p, vs, rfl, hp, hs⟩ := Rp.lst_inv h
    obtain ⟨p2, vs2, rfl, hp2, hs2⟩ := Rp.lst_inv h2
    exact ⟨p, p2, vs, vs2, rfl, .inl ⟨SqL.of (R1.bh _ _ hp), SqL.of (R1.bh _ _ hp2), q _ B1 H1 R1 g1 (src_zip (SqL.of hp) hs (SqL.of hp2) hs2)⟩⟩
theorem ei_zipT [Enc α] [Enc β] {tr : TA} {x : m (Tl α × Tl β)} (h : EvA K tr sd x (fun a => [enc a.1, enc a.2])) : EvI K (RZ.iZipA K tr) sd (Mn.bnd x fun p => Mn.pur (p.1.l.zip p.2.l)) := fun F σ B H k R xs k' e Q q => by
  obtain ⟨n, k1, e1, e2⟩ := bnd_some e
  obtain ⟨rfl, rfl⟩ := pur_some e2
  refine h F σ B H k R n _ e1 _ fun vs B1 H1 R1 g1 r1 => ?_
  cases r1 with | cons h hs => cases hs with | cons h2 hs =>
    cases hs
    obtain ⟨p, vs, rfl, hp, hs⟩ := Rp.tup_inv h
    obtain ⟨p2, vs2, rfl, hp2, hs2⟩ := Rp.tup_inv h2
    exact ⟨p, p2, vs, vs2, rfl, .inr ⟨R1.bh.sqT hp, R1.bh.sqT hp2, q _ B1 H1 R1 g1 (src_zipT hp hs hp2 hs2)⟩⟩
theorem ei_str {x : m Str} (h : EvM K te sd x) : EvI K (iStr te) sd (Mn.bnd x fun s => Mn.pur (s.cps.toList.map sgn)) := fun F σ B H k R xs k' e Q q => by
  obtain ⟨n, k1, e1, e2⟩ := bnd_some e
  obtain ⟨rfl, rfl⟩ := pur_some e2
  exact h F σ B H k R n _ e1 _ fun v B1 H1 R1 g1 r1 => ⟨n, Rp.str_inv r1, q _ B1 H1 R1 g1 src_str⟩

theorem src_zipM [Enc α] [Enc β] {p q : Addr} {vs ws : List V} {xs : List α} {ys : List β} {B : Hp} (h : SqT K B p vs) (r : Rps K B vs (xs.map enc)) (h2 : SqL K B q ws) (r2 : Rps K B ws (ys.map enc)) : Src K (ItM K p q) B (xs.zip ys) := by
  have hl : vs.length = xs.length := by rw [r.len, List.length_map]
  have hl2 : ws.length = ys.length := by rw [r2.len, List.length_map]
  have hz : (xs.zip ys).length = min xs.length ys.length := List.length_zip
  refine ⟨fun i C H g g2 hi => ?_, fun i C H g g2 hi => ?_, fun i C H x H' a g g2 y hi => ?_⟩
  · exact ⟨vs, ws, vs[i]'(by omega), ws[i]'(by omega), (g.trans g2).sqT h, (g.trans g2).sqL h2, List.getElem?_eq_getElem (by omega), List.getElem?_eq_getElem (by omega)⟩
  · exact ⟨vs, ws, (g.trans g2).sqT h, (g.trans g2).sqL h2, by omega, by omega, by omega⟩
  · obtain ⟨T, y1, y2, rfl, nT, rfl, f1, f2⟩ := y
    have hx := f1 vs ((g.trans g2).sqT h)
    have hy := f2 ws ((g.trans g2).sqL h2)
    obtain ⟨a, b⟩ := a
    obtain ⟨ha, hb⟩ := List.getElem?_zip_eq_some.mp hi
    obtain ⟨v, hv, rv⟩ := r.get (i := i) (d := enc a) (by rw [List.getElem?_map, ha] <;> rfl)
    obtain ⟨w, hw, rw'⟩ := r2.get (i := i) (d := enc b) (by rw [List.getElem?_map, hb] <;> rfl)
    rw [hx] at hv; cases hv
    rw [hy] at hw; cases hw
    have gT : Gr C (upd C T (.tup [y1, y2])) := Gr.new (g2.back nT)
    refine ⟨upd C T (.tup [y1, y2]), fun F σ sd k R => (R.data nT).1, gT, Gr.new nT, fun p e => ?_, fun p o e eb => ?_, ?_⟩
    · by_cases c : p = T
      · subst c; exact nT
      · rw [upd_ne c] at e; exact e
    · rw [upd_ne (ne_of_none e nT)]; exact eb
    · exact .tup (.inl (.inl upd_same)) (.cons ((rv.gr g).gr gT) (.cons ((rw'.gr g).gr gT) .nil))
theorem ei_zipM [Enc α] [Enc β] {tr : TA} {x : m (Tl α × List β)} (h : EvA K tr sd x (fun a => [enc a.1, enc a.2])) : EvI K (iZipM K tr) sd (Mn.bnd x fun p => Mn.pur (p.1.l.zip p.2)) := fun F σ B H k R xs k' e Q q => by
  obtain ⟨n, k1, e1, e2⟩ := bnd_some e
  obtain ⟨rfl, rfl⟩ := pur_some e2
  refine h F σ B H k R n _ e1 _ fun vs B1 H1 R1 g1 r1 => ?_
  cases r1 with | cons h hs => cases hs with | cons h2 hs =>
    cases hs
    obtain ⟨p, vs, rfl, hp, hs⟩ := Rp.tup_inv h
    obtain ⟨p2, vs2, rfl, hp2, hs2⟩ := Rp.lst_inv h2
    exact ⟨p, p2, vs, vs2, rfl, R1.bh.sqT hp, SqL.of (R1.bh _ _ hp2), q _ B1 H1 R1 g1 (src_zipM hp hs (SqL.of hp2) hs2)⟩

/-! ### targets -/
def EvG (K : PySem.W.Frag) [Enc α] (g : TG) (sd : List SD) (a : α) (sd' : List SD) (is : List Nat) : Prop := ∀ (F : Fr) (σ : L2.St) (B H : Hp) (k : Int) (v : V), Rel K F σ B H sd k → Rp K B v (enc a) → ∀ Q : L2.St → Hp → Prop,
  (∀ σ', Rel K F σ' B H sd' k → (∀ vs, (∀ i ∈ is, i ∈ vs) → wipe σ' vs = wipe σ vs) → Q σ' H) → g v σ H Q
theorem wipe_get (σ : L2.St) (vs : List Nat) (j : Nat) : (wipe σ vs)[j]? = if j ∈ vs then (σ[j]?).map fun _ => none else σ[j]? := by
  induction vs with
  | nil => rfl
  | cons v vs ih =>
    unfold wipe
    rw [List.getElem?_set]
    by_cases c : v = j
    · subst c
      rw [if_pos rfl, if_pos List.mem_cons_self, wipe_length]
      by_cases l : v < σ.length
      · rw [if_pos l, List.getElem?_eq_getElem l]; rfl
      · rw [if_neg l, List.getElem?_eq_none (by omega)]; rfl
    · rw [if_neg c, ih]
      have e : (j ∈ v :: vs) = (j ∈ vs) := by
        rw [List.mem_cons]; exact propext ⟨fun h => h.resolve_left fun z => c z.symm, .inr⟩
      simp only [e]
theorem wipe_set {σ : L2.St} {vs : List Nat} {i : Nat} {x : Option V} (h : i ∈ vs) : wipe (σ.set i x) vs = wipe σ vs := by
  refine List.ext_getElem? fun j => ?_
  rw [wipe_get, wipe_get]
  by_cases c : j ∈ vs
  · rw [if_pos c, if_pos c, List.getElem?_set]
    by_cases e : i = j
    · subst e
      rw [if_pos rfl]
      by_cases l : i < σ.length
      · rw [if_pos l, List.getElem?_eq_getElem l]; rfl
      · rw [if_neg l, List.getElem?_eq_none (by omega)]
    · rw [if_neg e]
  · rw [if_neg c, if_neg c, List.getElem?_set_ne (show i ≠ j from fun e => c (by rw [← e]; exact h))]
theorem wipe_wipe (σ : L2.St) (vs : List Nat) : wipe (wipe σ vs) vs = wipe σ vs := by
  refine List.ext_getElem? fun j => ?_
  rw [wipe_get, wipe_get]
  by_cases c : j ∈ vs
  · rw [if_pos c, if_pos c]
    cases σ[j]? <;> rfl
  · rw [if_neg c, if_neg c]
theorem eg_name [Enc α] {i : Nat} {a : α} : EvG K (gName i) sd a (sd.set i (.dat (enc a))) [i] := fun F σ B H k v R r Q q =>
  q _ (R.setDat r) fun vs h => wipe_set (h i (.head _))
theorem eg_pair [Enc α] [Enc β] {i j : Nat} {p : α × β} : EvG K (gTup K 2 (gCons (gName i) (gCons (gName j) gNil))) sd p ((sd.set i (.dat (enc p.1))).set j (.dat (enc p.2))) [i, j] := fun F σ B H k v R r Q q => by
  obtain ⟨a, xs, rfl, hp, hs⟩ := Rp.tup_inv r
  cases hs with | cons h1 hs => cases hs with | cons h2 hs =>
    cases hs
    refine ⟨a, _, rfl, R.bh.sqT hp, rfl, _, _, rfl, _, _, rfl, rfl, ?_⟩
    refine q _ ((R.setDat h1).setDat h2) fun vs h => ?_
    rw [wipe_set (h j (.tail _ (.head _))), wipe_set (h i (.head _))]

/-! ### comprehensions -/
def wipeS (sd : List SD) : List Nat → List SD
  | [] => sd
  | v :: vs => (wipeS sd vs).set v .un
theorem Rel.wiped {F : Fr} {σ : L2.St} {B H : Hp} {k : Int} (R : Rel K F σ B H sd k) : ∀ vs : List Nat, Rel K F (wipe σ vs) B H (wipeS sd vs) k
  | [] => R
  | v :: vs => (Rel.wiped R vs).setUn
theorem wipeS_get (sd : List SD) (vs : List Nat) (j : Nat) : (wipeS sd vs)[j]? = if j ∈ vs then (sd[j]?).map fun _ => .un else sd[j]? := by
  induction vs with
  | nil => rfl
  | cons v vs ih =>
    have hl : (wipeS sd vs).length = sd.length := by
      clear ih
      induction vs with
      | nil => rfl
      | cons v vs ih => unfold wipeS; rw [List.length_set, ih]
    unfold wipeS
    rw [List.getElem?_set]
    by_cases c : v = j
    · subst c
      rw [if_pos rfl, if_pos List.mem_cons_self, hl]
      by_cases l : v < sd.length
      · rw [if_pos l, List.getElem?_eq_getElem l]; rfl
      · rw [if_neg l, List.getElem?_eq_none (by omega)]; rfl
    · rw [if_neg c, ih]
      have e : (j ∈ v :: vs) = (j ∈ vs) := by
        rw [List.mem_cons]; exact propext ⟨fun h => h.resolve_left fun z => c z.symm, .inr⟩
      simp only [e]
theorem wipeS_wipeS (sd : List SD) (vs : List Nat) : wipeS (wipeS sd vs) vs = wipeS sd vs := by
  refine List.ext_getElem? fun j => ?_
  rw [wipeS_get, wipeS_get]
  by_cases c : j ∈ vs
  · rw [if_pos c, if_pos c]; cases sd[j]? <;> rfl
  · rw [if_neg c, if_neg c]
def noOwn (sd : List SD) (vs : List Nat) : Prop := ∀ i ∈ vs, ∀ d, sd[i]? = some d → d.ow = false
def noOwnB (sd : List SD) (vs : List Nat) : Bool := vs.all fun i => match sd[i]? with
  | some d => !d.ow
  | none => true
theorem noOwn_by {vs : List Nat} (h : noOwnB sd vs = true) : noOwn sd vs := fun i hi d hd => by
  unfold noOwnB at h
  have z := List.all_eq_true.mp h i hi
  rw [hd] at z
  cases w : d.ow with
  | false => rfl
  | true => simp only [w] at z; cases z
/-- what a comprehension leaves: the slots as they were -/
theorem Rel.unwipe {F F0 : Fr} {σ : L2.St} {B H B' H' : Hp} {k k' : Int} {vs : List Nat} (R' : Rel K F (wipe σ vs) B' H' (wipeS sd vs) k') (R : Rel K F0 σ B H sd k) (hsa : F.sa = F0.sa) (g : Gr B B') (hv : noOwn sd vs) : Rel K F σ B' H' sd k' := by
  refine ⟨R.len, R'.bh, R'.b0, R'.bn, R'.fr, R'.st, ?_⟩
  obtain ⟨q, p⟩ := R'.pool
  obtain ⟨q0, p0⟩ := R.pool
  have nocell : ∀ x c, cell F σ sd x = some c → (∃ i, x = .inl i ∧ i ∈ vs) → q x = [] := fun x c e ⟨i, hx, hi⟩ => by
    subst hx
    cases hc : cell F (wipe σ vs) (wipeS sd vs) (.inl i) with
    | none => exact p.no _ hc
    | some c2 =>
      have z := p.ok _ _ hc
      simp only [cell] at hc
      rw [wipeS_get, if_pos hi, wipe_get, if_pos hi] at hc
      cases h1 : sd[i]? with
      | none => rw [h1] at hc; cases hc
      | some d =>
        cases h2 : σ[i]? with
        | none => rw [h1, h2] at hc; cases hc
        | some o => rw [h1, h2] at hc; cases hc; exact z
  have same : ∀ x, (¬ ∃ i, x = .inl i ∧ i ∈ vs) → cell F (wipe σ vs) (wipeS sd vs) x = cell F σ sd x := fun x hx => by
    cases x with
    | inr j => rfl
    | inl i =>
      have ni : i ∉ vs := fun m => hx ⟨i, rfl, m⟩
      simp only [cell]
      rw [wipeS_get, if_neg ni, wipe_get, if_neg ni]
  refine ⟨q, ⟨fun x c e => ?_, fun x e => ?_, p.nd, p.dj, p.b, p.h0, p.sa⟩⟩
  · by_cases hx : ∃ i, x = .inl i ∧ i ∈ vs
    · have nq := nocell x c e hx
      rw [nq]
      obtain ⟨i, rfl, hi⟩ := hx
      have e0 : cell F0 σ sd (.inl i) = some c := e
      have z := p0.ok _ _ e0
      have hd : sd[i]? = some c.2 := by
        simp only [cell] at e
        cases h1 : sd[i]? with
        | none => rw [h1] at e; cases e
        | some d =>
          cases h2 : σ[i]? with
          | none => rw [h1, h2] at e; cases e
          | some o => rw [h1, h2] at e; cases e; rfl
      have no := hv i hi _ hd
      obtain ⟨o, d⟩ := c
      cases d with
      | un => rfl
      | dat d => obtain ⟨_, v, ho, r⟩ := z; exact ⟨rfl, v, ho, r.gr g⟩
      | own s d => cases no
      | sr q2 => obtain ⟨_, a, w, ho, hs, hw⟩ := z; exact ⟨rfl, a, w, ho, hsa.trans hs, hw⟩
    · exact p.ok x c (by rw [same x hx]; exact e)
  · by_cases hx : ∃ i, x = .inl i ∧ i ∈ vs
    · obtain ⟨i, rfl, hi⟩ := hx
      refine p.no _ ?_
      simp only [cell] at e ⊢
      rw [wipeS_get, if_pos hi, wipe_get, if_pos hi]
      cases h1 : sd[i]? with
      | none => rfl
      | some d =>
        cases h2 : σ[i]? with
        | none => rfl
        | some o => rw [h1, h2] at e; cases e
    · exact p.no x (by rw [same x hx]; exact e)
theorem ef_lc [Enc α] [Enc β] {wi : TI} {g : TG} {tt : TT} {vs is : List Nat} {x : m (List α)} {p : α → m Bool} {f : α → m β} {sd1 : α → List SD} (hi : EvI K wi sd x) (hg : ∀ a, EvG K g (wipeS sd vs) a (sd1 a) is) (his : ∀ i ∈ is, i ∈ vs)
    (ht : ∀ a, EvB K tt (sd1 a) (p a)) (he : ∀ a, EvM K te (sd1 a) (f a)) (hle : ∀ a, Le (sd1 a) (wipeS sd vs)) (hv : noOwn sd vs) : EvF K (.lst .dat) (tLc wi g tt te vs) sd (Mn.bnd x fun xs => gd (xs.length ≤ 100000) (compL p f xs)) := fun F σ B H k R out k' e Q q => by
  obtain ⟨xs, k1, e1, e2⟩ := bnd_some e
  obtain ⟨hlen, e3⟩ := gd_some e2
  refine hi F σ B H k R xs k1 e1 _ fun J B1 H1 R1 g1 S => ?_
  intro D hD
  have RD := R1.newL (ds := []) hD .nil
  refine ⟨fun i n H' => n = xs.length - i ∧ i ≤ xs.length ∧ ∃ B' k2 acc rest, Rel K (F.push (.ref D) (.lst .dat) (.lst (acc.map enc))) (wipe σ vs) B' H' (wipeS sd vs) k2 ∧ Gr B1 B' ∧ acc.length ≤ i ∧
    Mn.run (compL p f (xs.drop i)) k2 = some (rest, k') ∧ acc ++ rest = out, ⟨xs.length, by simp, Nat.zero_le _, B1, k1, [], out, RD.wiped vs, Gr.refl B1, Nat.le_refl _, by rw [List.drop_zero]; exact e3, rfl⟩, ?_⟩
  rintro i n H2 ⟨rfl, hi2, B2, k2, acc, rest, R2, g2, hl, hrun, happ⟩
  by_cases c : i < xs.length
  · right
    have hx : xs[i]? = some xs[i] := List.getElem?_eq_getElem c
    have hdrop : xs.drop i = xs[i] :: xs.drop (i + 1) := List.drop_eq_getElem_cons c
    refine ⟨S.1 i B2 H2 g2 R2.bh c, fun H' => ∃ n', n' < xs.length - i ∧ (n' = xs.length - (i + 1) ∧ i + 1 ≤ xs.length ∧ ∃ B' k2 acc rest, Rel K (F.push (.ref D) (.lst .dat) (.lst (acc.map enc))) (wipe σ vs) B' H' (wipeS sd vs) k2 ∧ Gr B1 B' ∧ acc.length ≤ i + 1 ∧
      Mn.run (compL p f (xs.drop (i + 1))) k2 = some (rest, k') ∧ acc ++ rest = out), fun H' h => h, fun v H3 y => ?_⟩
    obtain ⟨B3, rel3, g3, gh3, _, nb3, rv⟩ := S.2.2 i B2 H2 v H3 xs[i] g2 R2.bh y hx
    have R3 := rel3 (F.push (.ref D) (.lst .dat) (.lst (acc.map enc))) (wipe σ vs) (wipeS sd vs) k2 R2
    refine hg xs[i] _ (wipe σ vs) B3 H3 k2 v R3 rv _ fun σ2 R4 hw => ⟨?_, ?_⟩
    · rw [hw vs his, wipe_wipe]
    · rw [hdrop, compL_cons] at hrun
      obtain ⟨b, k3, e4, e5⟩ := bnd_some hrun
      refine ht xs[i] _ σ2 B3 H3 k2 R4 b k3 e4 _ fun B5 H5 R5 g5 => ?_
      have back : ∀ {F' B6 H6 k6}, Rel K F' σ2 B6 H6 (sd1 xs[i]) k6 → Rel K F' (wipe σ vs) B6 H6 (wipeS sd vs) k6 := fun {F' B6 H6 k6} R6 => by
        have z := (R6.le (hle xs[i])).wiped vs
        have w1 : wipe σ2 vs = wipe σ vs := by rw [hw vs his, wipe_wipe]
        rw [w1, wipeS_wipeS] at z
        exact z
      cases b with
      | false =>
        rw [if_neg Bool.false_ne_true]
        exact ⟨_, by omega, rfl, c, B5, k3, acc, rest, back R5, (g2.trans g3).trans g5, by omega, e5, happ⟩
      | true =>
        rw [if_pos rfl]
        obtain ⟨y1, k4, e6, e7⟩ := bnd_some e5
        obtain ⟨ys, k5, e8, e9⟩ := bnd_some e7
        obtain ⟨rfl, rfl⟩ := pur_some e9
        refine he xs[i] _ σ2 B5 H5 k3 R5 y1 k4 e6 _ fun w B6 H6 R6 g6 r6 => ?_
        have R7 := back R6
        obtain ⟨fp, ow, nd, hf, q7⟩ := R7.top
        obtain ⟨D', vacc, dsx, ea, ed, rfl, hD2, ra⟩ := ow_lstd.mp ow
        cases ea; cases ed
        have hlen2 : vacc.length = acc.length := by rw [ra.len, List.length_map]
        have sl1 : 100000 < sizeLine := by decide
        have hb := (hf D (List.mem_singleton.mpr rfl)).1
        have R8 := (q7 B6 (upd H6 D (.lst (vacc ++ [w]))) (fun a u na e => by rw [upd_ne (fun z => na (List.mem_singleton.mpr z))]; exact e) (Gr.refl _) (R7.bh.mut hb) fun a u e e0 => by rw [e] at e0; cases e0).2.1 (.ref D) (.lst .dat) (.lst ((acc ++ [y1]).map enc)) [D]
          (ow_lstd.mpr ⟨D, vacc ++ [w], _, rfl, rfl, rfl, upd_same, by rw [List.map_append]; exact ra.app (.cons r6 .nil)⟩) (by simp) fun a m => ⟨(hf a m).1, .inl m⟩
        refine ⟨vacc, hD2, by omega, _, by omega, rfl, c, B6, k4, acc ++ [y1], ys, R8, ((g2.trans g3).trans g5).trans g6, by rw [List.length_append]; simp; omega, e8, by rw [← happ, List.append_assoc]; rfl⟩
  · left
    have ei : i = xs.length := by omega
    subst ei
    rw [List.drop_length, compL_nil] at hrun
    obtain ⟨rfl, rfl⟩ := pur_some hrun
    rw [List.append_nil] at happ
    subst happ
    refine ⟨S.2.1 _ B2 H2 g2 R2.bh rfl, q (.ref D) B2 H2 (R2.unwipe R1 rfl g2 hv) (g1.trans g2)⟩
end
end ON

set_option Elab.async false
set_option linter.all false
set_option maxRecDepth 100000
set_option maxHeartbeats 2000000
namespace ON
open PySem L2
section
variable {K : PySem.W.Frag} {m : Type → Type} [Mn m] {α β γ δ τ τ' l l' ρ : Type} {sd : List SD} {ta tb te : TE} [Rt ρ] {W : Wr} {post : τ → List SD} {postL : l → List SD} {ts tu tb' : TS} {tt : TT}

/-- what is handed back is the asker's own, of shape s -/
structure Fw (s : Sh) (ρ : Type) where
  r : ρ
instance (priority := high) rtFw {s : Sh} {ρ : Type} [Enc ρ] : Rt (Fw s ρ) where
  ok K W F B Q r k := ∀ v σ' B' H' sd', Rel K (F.push v s (enc r.r)) σ' B' H' sd' k → Gr B B' → Q v H'
  gr g h := fun v σ' B' H' sd' R g' => h v σ' B' H' sd' R (g.trans g')
/-! ### statements -/
theorem es_next {t : τ} (h : Le sd (post t)) : EvS K W (ρ := ρ) tNext sd post postL (Mn.pur (.nx t) : m (Fl τ l ρ)) := fun F σ B H k R f k' e D q => by
  obtain ⟨rfl, rfl⟩ := pur_some e
  exact q σ B H (R.le h) (Gr.refl B)
theorem es_break {t : l} (h : Le sd (postL t)) : EvS K W (ρ := ρ) tBreak sd post postL (Mn.pur (.bk t) : m (Fl τ l ρ)) := fun F σ B H k R f k' e D q => by
  obtain ⟨rfl, rfl⟩ := pur_some e
  exact q σ B H (R.le h) (Gr.refl B)
theorem es_cont {t : l} (h : Le sd (postL t)) : EvS K W (ρ := ρ) tCont sd post postL (Mn.pur (.ct t) : m (Fl τ l ρ)) := fun F σ B H k R f k' e D q => by
  obtain ⟨rfl, rfl⟩ := pur_some e
  exact q σ B H (R.le h) (Gr.refl B)
theorem es_ret {ρ : Type} [Enc ρ] {x : m ρ} (h : EvM K te sd x) : EvS K W (tRet te) sd post postL (Mn.bnd x fun r => (Mn.pur (.rt r) : m (Fl τ l ρ))) := fun F σ B H k R f k' e D q => by
  obtain ⟨r, k1, e1, e2⟩ := bnd_some e
  obtain ⟨rfl, rfl⟩ := pur_some e2
  exact h F σ B H k R r _ e1 _ fun v B' H' R' g rr => q v σ B' H' sd R' g rr
/-- name = e, then the rest -/
theorem es_set [Enc α] {i : Nat} {x : m α} {f : α → m (Fl τ l ρ)} (h : EvM K te sd x) (hf : ∀ a, EvS K W tu (sd.set i (.dat (enc a))) post postL (f a)) : EvS K W (tSeq (tAsg te (gName i)) tu) sd post postL (Mn.bnd x f) := fun F σ B H k R r k' e D q => by
  obtain ⟨a, k1, e1, e2⟩ := bnd_some e
  exact h F σ B H k R a k1 e1 _ fun v B' H' R' g rv => hf a F _ B' H' k1 (R'.setDat rv) r k' e2 D (q.gr g)
theorem es_setF [Enc α] {s : Sh} {i : Nat} {x : m α} {f : α → m (Fl τ l ρ)} (h : EvF K s te sd x) (hf : ∀ a, EvS K W tu (sd.set i (.own s (enc a))) post postL (f a)) : EvS K W (tSeq (tAsg te (gName i)) tu) sd post postL (Mn.bnd x f) := fun F σ B H k R r k' e D q => by
  obtain ⟨a, k1, e1, e2⟩ := bnd_some e
  exact h F σ B H k R a k1 e1 _ fun v B' H' R' g => hf a F _ B' H' k1 R'.toSlot r k' e2 D (q.gr g)
/-- the last statement of a block: name = e -/
theorem es_set1 [Enc α] {i : Nat} {x : m α} {f : α → τ} (h : EvM K te sd x) (hf : ∀ a, Le (sd.set i (.dat (enc a))) (post (f a))) : EvS K W (tAsg te (gName i)) sd post postL (Mn.bnd x fun a => (Mn.pur (.nx (f a)) : m (Fl τ l ρ))) := fun F σ B H k R r k' e D q => by
  obtain ⟨a, k1, e1, e2⟩ := bnd_some e
  obtain ⟨rfl, rfl⟩ := pur_some e2
  exact h F σ B H k R a _ e1 _ fun v B' H' R' g rv => q _ B' H' ((R'.setDat rv).le (hf a)) g
/-- a target of any kind -/
theorem es_tgt [Enc α] {g : TG} {x : m α} {sd1 : α → List SD} {is : List Nat} {f : α → m (Fl τ l ρ)} (h : EvM K te sd x) (hg : ∀ a, EvG K g sd a (sd1 a) is) (hf : ∀ a, EvS K W tu (sd1 a) post postL (f a)) : EvS K W (tSeq (tAsg te g) tu) sd post postL (Mn.bnd x f) := fun F σ B H k R r k' e D q => by
  obtain ⟨a, k1, e1, e2⟩ := bnd_some e
  exact h F σ B H k R a k1 e1 _ fun v B' H' R' g' rv => hg a F σ B' H' k1 v R' rv _ fun σ' R2 _ => hf a F _ B' H' k1 R2 r k' e2 D (q.gr g')
/-- an expression alone -/
theorem es_drop [Enc α] {x : m α} {f : α → m (Fl τ l ρ)} (h : EvM K te sd x) (hf : ∀ a, EvS K W tu sd post postL (f a)) : EvS K W (tSeq (tDrop te) tu) sd post postL (Mn.bnd x f) := fun F σ B H k R r k' e D q => by
  obtain ⟨a, k1, e1, e2⟩ := bnd_some e
  exact h F σ B H k R a k1 e1 _ fun v B' H' R' g' rv => hf a F _ B' H' k1 R' r k' e2 D (q.gr g')
/-- an operator at a name -/
theorem es_aug [Enc α] [Enc β] [Enc γ] {i : Nat} {r : R2} {a : α} {y : m β} {z : β → m γ} {f : γ → m (Fl τ l ρ)} (hi : sd[i]? = some (.dat (enc a))) (h : EvM K te sd y) (hr : ∀ b, OpM K r a b (z b)) (hf : ∀ c, EvS K W tu (sd.set i (.dat (enc c))) post postL (f c)) :
    EvS K W (tSeq (tAug i te r) tu) sd post postL (Mn.bnd (Mn.bnd y z) f) := fun F σ B H k R rr k' e D q => by
  obtain ⟨c, k1, e1, e2⟩ := bnd_some e
  obtain ⟨b, k2, e3, e4⟩ := bnd_some e1
  obtain ⟨v, ho, ra⟩ := R.dat hi
  refine ⟨v, ho, ?_⟩
  refine h F σ B H k R b k2 e3 _ fun w B1 H1 R1 g1 r1 => ?_
  exact hr b F σ B1 H1 sd k2 R1 v w (ra.gr g1) r1 c k1 e4 _ fun u B2 H2 R2 g2 r2 => hf c F _ B2 H2 k1 (R2.setDat r2) rr k' e2 D (q.gr (g1.trans g2))
theorem es_aug1 [Enc α] [Enc β] [Enc γ] {i : Nat} {r : R2} {a : α} {y : m β} {z : β → m γ} {f : γ → τ} (hi : sd[i]? = some (.dat (enc a))) (h : EvM K te sd y) (hr : ∀ b, OpM K r a b (z b)) (hf : ∀ c, Le (sd.set i (.dat (enc c))) (post (f c))) :
    EvS K W (tAug i te r) sd post postL (Mn.bnd (Mn.bnd y z) fun c => (Mn.pur (.nx (f c)) : m (Fl τ l ρ))) := fun F σ B H k R rr k' e D q => by
  obtain ⟨c, k1, e1, e2⟩ := bnd_some e
  obtain ⟨rfl, rfl⟩ := pur_some e2
  obtain ⟨b, k2, e3, e4⟩ := bnd_some e1
  obtain ⟨v, ho, ra⟩ := R.dat hi
  refine ⟨v, ho, ?_⟩
  refine h F σ B H k R b k2 e3 _ fun w B1 H1 R1 g1 r1 => ?_
  exact hr b F σ B1 H1 sd k2 R1 v w (ra.gr g1) r1 c _ e4 _ fun u B2 H2 R2 g2 r2 => q _ B2 H2 ((R2.setDat r2).le (hf c)) (g1.trans g2)
/-- if, at the end of a block -/
theorem es_if {x : m Bool} {y z : m (Fl τ l ρ)} (h : EvB K tt sd x) (h1 : EvS K W ts sd post postL y) (h2 : EvS K W tu sd post postL z) : EvS K W (tIfS tt ts tu) sd post postL (Mn.bnd x fun b => cnd b y z) := fun F σ B H k R f k' e D q => by
  obtain ⟨b, k1, e1, e2⟩ := bnd_some e
  refine h F σ B H k R b k1 e1 _ fun B1 H1 R1 g1 => ?_
  cases b with
  | true => rw [if_pos rfl]; exact h1 F σ B1 H1 k1 R1 f k' e2 D (q.gr g1)
  | false => rw [if_neg Bool.false_ne_true]; exact h2 F σ B1 H1 k1 R1 f k' e2 D (q.gr g1)
/-- any statement, then the rest -/
theorem es_seq {mid : τ' → List SD} {x : m (Fl τ' l ρ)} {f : τ' → m (Fl τ l ρ)} (h : EvS K W ts sd mid postL x) (hf : ∀ t, EvS K W tu (mid t) post postL (f t)) : EvS K W (tSeq ts tu) sd post postL (andThen x f) := fun F σ B H k R r k' e D q => by
  unfold andThen at e
  obtain ⟨a, k1, e1, e2⟩ := bnd_some e
  refine h F σ B H k R a k1 e1 _ ?_
  cases a with
  | nx t => exact fun σ' B' H' R' g => hf t F σ' B' H' k1 R' r k' e2 D (q.gr g)
  | bk t => obtain ⟨rfl, rfl⟩ := pur_some e2; exact q
  | ct t => obtain ⟨rfl, rfl⟩ := pur_some e2; exact q
  | rt t => obtain ⟨rfl, rfl⟩ := pur_some e2; exact q
/-- an owned list grows -/
theorem es_app [Enc α] {i : Nat} {xs : List α} {y : m α} {f : List α → m (Fl τ l ρ)} (hi : sd[i]? = some (.own (.lst .dat) (enc xs))) (h : EvM K te sd y) (hf : ∀ a, EvS K W tu (sd.set i (.own (.lst .dat) (enc (xs ++ [a])))) post postL (f (xs ++ [a]))) :
    EvS K W (tSeq (tDrop (tBM K "list" rAppend (tVar i) (tCons te tNil))) tu) sd post postL (Mn.bnd y fun a => gd (xs.length < 100000) (f (xs ++ [a]))) := fun F σ B H k R r k' e D q => by
  obtain ⟨a, k1, e1, e2⟩ := bnd_some e
  obtain ⟨hl, e3⟩ := gd_some e2
  obtain ⟨o, f0, ho, ⟨v0, rfl, w0⟩, _⟩ := R.slot hi
  obtain ⟨p, vs, ds, rfl, ed, rfl, hh, rs⟩ := ow_lstd.mp w0
  refine ⟨_, ho, .inl ⟨rfl, vs, SqL.of hh⟩, ?_⟩
  refine h F σ B H k R a k1 e1 _ fun v B1 H1 R1 g1 r1 => ?_
  obtain ⟨o1, f1, ho1, ⟨v1, rfl, w1⟩, nd1, hf1, q1⟩ := R1.slot hi
  obtain ⟨p1, vs1, ds1, rfl, ed1, rfl, hh1, rs1⟩ := ow_lstd.mp w1
  cases ed1
  rw [ho] at ho1; cases ho1
  have l1 : vs1.length = xs.length := by rw [rs1.len, List.length_map]
  refine ⟨p, vs1, v, rfl, rfl, hh1, Nat.lt_of_lt_of_le (by omega : vs1.length < 100000) (by decide), ?_⟩
  have hb := (hf1 p (List.mem_singleton.mpr rfl)).1
  have z := q1 (some (.ref p)) (.own (.lst .dat) (enc (xs ++ [a]))) [p] B1 (upd H1 p (.lst (vs1 ++ [v]))) ⟨_, rfl, ow_lstd.mpr ⟨p, _, _, rfl, rfl, rfl, upd_same, by rw [List.map_append]; exact rs1.app (.cons r1 .nil)⟩⟩ (by simp) (fun b m => by rw [List.mem_singleton.mp m]; exact ⟨hb, .inl (List.mem_singleton.mpr rfl)⟩)
    (fun a u na e => by rw [upd_ne (fun z => na (List.mem_singleton.mpr z))]; exact e) (Gr.refl _) (R1.bh.mut hb) fun a u e e0 => by rw [e] at e0; cases e0
  rw [σ_set_self ho] at z
  exact hf a F σ B1 _ k1 z r k' e3 D (q.gr g1)
/-- an owned list is data from here on -/
theorem es_frz {i : Nat} {s : Sh} {d : D} {x : m (Fl τ l ρ)} (hi : sd[i]? = some (.own s d)) (h : EvS K W ts (sd.set i (.dat d)) post postL x) (hn : s.nd = true := by rfl) : EvS K W ts sd post postL x := fun F σ B H k R f k' e D q => by
  obtain ⟨B', R', g⟩ := R.frz hi hn
  exact h F σ B' H k R' f k' e D (q.gr g)
theorem es_le {sd' : List SD} {x : m (Fl τ l ρ)} (hl : Le sd sd') (h : EvS K W ts sd' post postL x) : EvS K W ts sd post postL x := fun F σ B H k R => h F σ B H k (R.le hl)

/-! ### loops -/
theorem es_for [Enc α] {wi : TI} {g : TG} {is : List Nat} {inv : τ → List SD} {t0 : τ} {sd1 : τ → α → List SD} {x : m (List α)} {body : τ → α → m (Fl τ τ ρ)} (hi : EvI K wi sd x) (h0 : Le sd (inv t0)) (hg : ∀ t a, EvG K g (inv t) a (sd1 t a) is)
    (hb : ∀ t a, EvS K W tb' (sd1 t a) inv inv (body t a)) : EvS K W (tFor wi g tb') sd inv postL (Mn.bnd x fun xs => (forL body xs t0 : m (Fl τ l ρ))) := fun F σ B H k R r k' e D q => by
  obtain ⟨xs, k1, e1, e2⟩ := bnd_some e
  refine hi F σ B H k R xs k1 e1 _ fun J B1 H1 R1 g1 S => ?_
  refine ⟨fun i n σ' H' => n = xs.length - i ∧ i ≤ xs.length ∧ ∃ B' k2 t, Rel K F σ' B' H' (inv t) k2 ∧ Gr B1 B' ∧ Mn.run (forL body (xs.drop i) t : m (Fl τ l ρ)) k2 = some (r, k'),
    ⟨xs.length, by simp, Nat.zero_le _, B1, k1, t0, R1.le h0, Gr.refl B1, by rw [List.drop_zero]; exact e2⟩, ?_⟩
  rintro i n σ2 H2 ⟨rfl, hi2, B2, k2, t, R2, g2, hrun⟩
  by_cases c : i < xs.length
  · right
    have hx : xs[i]? = some xs[i] := List.getElem?_eq_getElem c
    rw [List.drop_eq_getElem_cons c, forL_cons] at hrun
    obtain ⟨f, k3, e4, e5⟩ := bnd_some hrun
    refine ⟨S.1 i B2 H2 g2 R2.bh c, fun σ' H' => ∃ n', n' < xs.length - i ∧ (n' = xs.length - (i + 1) ∧ i + 1 ≤ xs.length ∧ ∃ B' k2 t, Rel K F σ' B' H' (inv t) k2 ∧ Gr B1 B' ∧ Mn.run (forL body (xs.drop (i + 1)) t : m (Fl τ l ρ)) k2 = some (r, k')), fun _ _ h => h, fun v H3 y => ?_⟩
    obtain ⟨B3, rel3, g3, gh3, _, nb3, rv⟩ := S.2.2 i B2 H2 v H3 xs[i] g2 R2.bh y hx
    refine hg t xs[i] F σ2 B3 H3 k2 v (rel3 F σ2 (inv t) k2 R2) rv _ fun σ3 R3 _ => ?_
    refine hb t xs[i] F σ3 B3 H3 k2 R3 f k3 e4 _ ?_
    cases f with
    | nx t' => exact fun σ' B' H' R' g' => ⟨_, by omega, rfl, c, B', k3, t', R', (g2.trans g3).trans g', e5⟩
    | ct t' => exact fun σ' B' H' R' g' => ⟨_, by omega, rfl, c, B', k3, t', R', (g2.trans g3).trans g', e5⟩
    | bk t' =>
      obtain ⟨rfl, rfl⟩ := pur_some e5
      exact fun σ' B' H' R' g' => q σ' B' H' R' (((g1.trans g2).trans g3).trans g')
    | rt z =>
      obtain ⟨rfl, rfl⟩ := pur_some e5
      exact Rt.gr ((g1.trans g2).trans g3) q
  · left
    have ei : i = xs.length := by omega
    subst ei
    rw [List.drop_length, forL_nil] at hrun
    obtain ⟨rfl, rfl⟩ := pur_some hrun
    exact ⟨S.2.1 _ B2 H2 g2 R2.bh rfl, q σ2 B2 H2 R2 (g1.trans g2)⟩
theorem es_while {inv : τ → List SD} {t0 : τ} {c : τ → m Bool} {body : τ → m (Fl τ τ ρ)} {n : Nat} (h0 : Le sd (inv t0)) (hc : ∀ t, EvB K tt (inv t) (c t)) (hb : ∀ t, EvS K W ts (inv t) inv inv (body t)) :
    EvS K W (tWhile tt ts) sd inv postL (whl c body n t0 : m (Fl τ l ρ)) := fun F σ B H k R r k' e D q => by
  refine ⟨fun n' σ' H' => ∃ B' k2 t, Rel K F σ' B' H' (inv t) k2 ∧ Gr B B' ∧ Mn.run (whl c body n' t : m (Fl τ l ρ)) k2 = some (r, k'), ⟨n, B, k, t0, R.le h0, Gr.refl B, e⟩, ?_⟩
  rintro n' σ2 H2 ⟨B2, k2, t, R2, g2, hrun⟩
  cases n' with
  | zero => rw [whl_zero] at hrun; exact (fl_some hrun).elim
  | succ n' =>
    rw [whl_succ] at hrun
    obtain ⟨b, k3, e1, e2⟩ := bnd_some hrun
    refine hc t F σ2 B2 H2 k2 R2 b k3 e1 _ fun B3 H3 R3 g3 => ?_
    cases b with
    | false =>
      rw [if_neg Bool.false_ne_true]
      obtain ⟨rfl, rfl⟩ := pur_some e2
      exact q σ2 B3 H3 R3 (g2.trans g3)
    | true =>
      rw [if_pos rfl]
      obtain ⟨f, k4, e3, e4⟩ := bnd_some e2
      refine ⟨fun σ' H' => ∃ m', m' < n' + 1 ∧ ∃ B' k2 t, Rel K F σ' B' H' (inv t) k2 ∧ Gr B B' ∧ Mn.run (whl c body m' t : m (Fl τ l ρ)) k2 = some (r, k'), fun _ _ h => h, ?_⟩
      refine hb t F σ2 B3 H3 k3 R3 f k4 e3 _ ?_
      cases f with
      | nx t' => exact fun σ' B' H' R' g' => ⟨n', by omega, B', k4, t', R', (g2.trans g3).trans g', e4⟩
      | ct t' => exact fun σ' B' H' R' g' => ⟨n', by omega, B', k4, t', R', (g2.trans g3).trans g', e4⟩
      | bk t' =>
        obtain ⟨rfl, rfl⟩ := pur_some e4
        exact fun σ' B' H' R' g' => q σ' B' H' R' ((g2.trans g3).trans g')
      | rt z =>
        obtain ⟨rfl, rfl⟩ := pur_some e4
        exact Rt.gr (g2.trans g3) q

/-! ### a def's promise from its body -/
def fin {ρ : Type} (x : Option (Fl Empty Empty ρ)) : Option ρ := x.bind fun f => match f with
  | .rt r => some r
  | .nx t => t.elim
  | .bk t => t.elim
  | .ct t => t.elim
def finS {ρ : Type} (x : Sm (Fl Empty Empty ρ)) : Sm ρ := fun k => (x k).bind fun p => match p.1 with
  | .rt r => some (r, p.2)
  | .nx t => t.elim
  | .bk t => t.elim
  | .ct t => t.elim
theorem fin_some {x : Option (Fl Empty Empty ρ)} {r : ρ} (h : fin x = some r) : x = some (.rt r) := by
  cases x with
  | none => cases h
  | some f => cases f with
    | rt z => cases h; rfl
    | nx t => exact t.elim
    | bk t => exact t.elim
    | ct t => exact t.elim
theorem finS_some {x : Sm (Fl Empty Empty ρ)} {r : ρ} {k k' : Int} (h : finS x k = some (r, k')) : x k = some (.rt r, k') := by
  unfold finS at h
  cases e : x k with
  | none => rw [e] at h; cases h
  | some p =>
    rw [e] at h
    obtain ⟨f, k2⟩ := p
    cases f with
    | rt z => cases h; rfl
    | nx t => exact t.elim
    | bk t => exact t.elim
    | ct t => exact t.elim
def noEnd (t : Empty) : List SD := t.elim
theorem start_get {N : List Str} {vs : List V} {i : Nat} : (L2.start N vs)[i]? = if i < vs.length then (vs[i]?).map some else if i < vs.length + (N.length - vs.length) then some none else none := by
  unfold L2.start
  by_cases c : i < vs.length
  · rw [if_pos c, List.getElem?_append_left (by rw [List.length_map]; exact c), List.getElem?_map]
  · rw [if_neg c, List.getElem?_append_right (by rw [List.length_map]; omega), List.length_map, List.getElem?_replicate]
    by_cases c2 : i < vs.length + (N.length - vs.length)
    · rw [if_pos c2, if_pos (by omega)]
    · rw [if_neg c2, if_neg (by omega)]
def sd0 (n : Nat) (ds : List D) : List SD := ds.map SD.dat ++ List.replicate (n - ds.length) .un
theorem Rel.init {B H : Hp} {N : List Str} {vs : List V} {ds : List D} (g : Gr B H) (r : Rps K B vs ds) : Rel K ⟨H, B, none, []⟩ (L2.start N vs) B H (sd0 N.length ds) 0 := by
  have z := r.len
  refine ⟨?_, g, Gr.refl B, fun a o e e0 => ?_, fun a o e _ => e, fun s e => (nomatch e), fun _ => [], fun x c e => ?_, fun _ _ => rfl, fun _ => .nil, fun _ _ _ m => (nomatch m), fun _ _ m => (nomatch m), fun _ _ m => (nomatch m), fun _ _ m => (nomatch m)⟩
  · unfold sd0 L2.start
    simp only [List.length_append, List.length_map, List.length_replicate]; omega
  · have e1 : B a = none := e0
    rw [e] at e1; cases e1
  · cases x with
    | inr j => simp [cell] at e
    | inl i =>
      simp only [cell] at e
      cases h1 : (sd0 N.length ds)[i]? with
      | none => rw [h1] at e; cases e
      | some d =>
        cases h2 : (L2.start N vs)[i]? with
        | none => rw [h1, h2] at e; cases e
        | some o =>
          rw [h1, h2] at e; cases e
          unfold sd0 at h1
          rw [start_get] at h2
          by_cases c : i < ds.length
          · rw [List.getElem?_append_left (by rw [List.length_map]; exact c), List.getElem?_map] at h1
            rw [if_pos (by omega)] at h2
            obtain ⟨d', hd, rfl⟩ := Option.map_eq_some_iff.mp h1
            obtain ⟨v, hv, rv⟩ := r.get hd
            rw [hv] at h2; cases h2
            exact ⟨rfl, v, rfl, rv⟩
          · rw [List.getElem?_append_right (by rw [List.length_map]; omega), List.length_map, List.getElem?_replicate] at h1
            by_cases c2 : i - ds.length < N.length - ds.length
            · rw [if_pos c2] at h1; cases h1; rfl
            · rw [if_neg c2] at h1; cases h1
theorem Rel.fr0 {F : Fr} {σ : L2.St} {B H : Hp} {k : Int} (R : Rel K F σ B H sd k) (h : F.sa = none) : Gr F.H0 H := fun a o e => R.fr a o e fun s es => by rw [h] at es; cases es
/-- the end of a pure def's proof -/
theorem fin_pure {N : List Str} {n : Nat} {pre : List D → D → Prop} {vs : List V} {H : Hp} {Q : VK} {E : XK} (h : spP K n .dat pre vs H Q E)
    (hb : ∀ ds r, pre ds r → ∃ (ρ : Type) (_ : Enc ρ) (x : Option (Fl Empty Empty ρ)) (z : ρ) (W : Wr), EvS K W ts (sd0 N.length ds) noEnd noEnd x ∧ x = some (.rt z) ∧ enc z = r) : ts { nx := fun _ H' => Q .non H', rt := Q } (L2.start N vs) H := by
  obtain ⟨B, ds, r, hp, hn, g, rs, q⟩ := h
  obtain ⟨ρ, i, x, z, W, hx, ex, rfl⟩ := hb ds r hp
  refine hx _ _ B H 0 (Rel.init g rs) (.rt z) 0 (by rw [ex]; rfl) _ fun v σ' B' H' sd' R' g' rv => ?_
  exact q v B' H' [] R'.b0 R'.bh (R'.fr0 rfl) (fun a o e e0 => R'.bn a o e e0) ⟨rfl, rv⟩ .nil fun _ m => nomatch m
theorem fin_pureF {N : List Str} {n : Nat} {s : Sh} {pre : List D → D → Prop} {vs : List V} {H : Hp} {Q : VK} {E : XK} (h : spP K n s pre vs H Q E)
    (hb : ∀ ds r, pre ds r → ∃ (ρ : Type) (_ : Enc ρ) (x : Option (Fl Empty Empty (Fw s ρ))) (z : ρ) (W : Wr), EvS K W ts (sd0 N.length ds) noEnd noEnd x ∧ x = some (.rt ⟨z⟩) ∧ enc z = r) : ts { nx := fun _ H' => Q .non H', rt := Q } (L2.start N vs) H := by
  obtain ⟨B, ds, r, hp, hn, g, rs, q⟩ := h
  obtain ⟨ρ, i, x, z, W, hx, ex, rfl⟩ := hb ds r hp
  refine hx _ _ B H 0 (Rel.init g rs) (.rt ⟨z⟩) 0 (by rw [ex]; rfl) _ fun v σ' B' H' sd' R' g' => ?_
  obtain ⟨f, w, nd, hf, _⟩ := R'.top
  refine q v B' H' f R'.b0 R'.bh (R'.fr0 rfl) (fun a o e e0 => R'.bn a o e e0) w nd fun a m => ⟨(hf a m).1, (hf a m).2.1⟩
/-- what a slot owns is taken out of it -/
theorem Rel.take {F : Fr} {σ : L2.St} {B H : Hp} {k : Int} {i : Nat} {s : Sh} {d : D} {v : V} {f0 : List Addr} (R : Rel K F σ B H sd k) (hi : sd[i]? = some (.own s d)) (ho : σ[i]? = some (some v)) (w : Ow K B H s v d f0) : Rel K (F.push v s d) σ B H (sd.set i .un) k := by
  obtain ⟨g, p⟩ := R.pool
  have li : i < sd.length := (List.getElem?_eq_some_iff.mp hi).1
  have hc : cell F σ sd (.inl i) = some (some v, .own s d) := by simp only [cell]; rw [hi, ho]
  obtain ⟨v', e', w'⟩ := p.ok _ _ hc
  cases e'
  refine ⟨by rw [List.length_set]; exact R.len, R.bh, R.b0, R.bn, R.fr, R.st, _, p.move (F' := F.push v s d) (fun x => decide (x = .inr F.ex.length) || decide (x = .inl i)) (fun x => if x = .inl i then [] else g (.inl i)) (Gr.refl B) rfl rfl (fun x hx => ?_) (fun x a hx m => ⟨rfl, p.b x a m⟩) (fun x cc hx e => ?_) (fun x hx e => ?_) (fun x _ => ?_) (fun x y a hx hy mx my => ?_) fun x a hx m => ?_⟩
  · have h1 : x ≠ .inr F.ex.length := fun z => by subst z; simp at hx
    have h2 : x ≠ .inl i := fun z => by subst z; simp at hx
    rw [cell_push_ne h1]
    cases x with
    | inr j => rfl
    | inl j =>
      have ne : i ≠ j := fun z => h2 (by rw [z])
      simp only [cell]
      rw [List.getElem?_set_ne ne]
  · by_cases h2 : x = .inl i
    · subst h2
      simp only [cell] at e
      rw [List.getElem?_set_self li, ho] at e; cases e
      rw [if_pos rfl]; rfl
    · have h1 : x = .inr F.ex.length := by
        simp only [Bool.or_eq_true, decide_eq_true_eq] at hx
        exact hx.resolve_right h2
      subst h1
      rw [if_neg h2]
      rw [show cell (F.push v s d) σ (sd.set i .un) (.inr F.ex.length) = cell (F.push v s d) σ sd (.inr F.ex.length) from rfl, cell_push] at e; cases e
      exact ⟨v, rfl, w'⟩
  · by_cases h2 : x = .inl i
    · rw [if_pos h2]
    · have h1 : x = .inr F.ex.length := by
        simp only [Bool.or_eq_true, decide_eq_true_eq] at hx
        exact hx.resolve_right h2
      subst h1
      rw [show cell (F.push v s d) σ (sd.set i .un) (.inr F.ex.length) = cell (F.push v s d) σ sd (.inr F.ex.length) from rfl, cell_push] at e; cases e
  · split
    · exact .nil
    · exact p.nd _
  · have hh : ∀ z : Nat ⊕ Nat, (decide (z = .inr F.ex.length) || decide (z = .inl i)) = true → a ∈ (if z = .inl i then [] else g (.inl i)) → z = .inr F.ex.length := fun z hz mz => by
      by_cases h2 : z = .inl i
      · rw [if_pos h2] at mz; cases mz
      · simp only [Bool.or_eq_true, decide_eq_true_eq] at hz
        exact hz.resolve_right h2
    exact (hh x hx mx).trans (hh y hy my).symm
  · by_cases h2 : x = .inl i
    · rw [if_pos h2] at m; cases m
    · rw [if_neg h2] at m
      exact ⟨p.b _ a m, .inl ⟨.inl i, by simp, m⟩⟩
theorem es_retF {ρ : Type} [Enc ρ] {s : Sh} {x : m ρ} (h : EvF K s te sd x) : EvS K W (tRet te) sd post postL (Mn.bnd x fun r => (Mn.pur (.rt ⟨r⟩) : m (Fl τ l (Fw s ρ)))) := fun F σ B H k R f k' e D q => by
  obtain ⟨r, k1, e1, e2⟩ := bnd_some e
  obtain ⟨rfl, rfl⟩ := pur_some e2
  exact h F σ B H k R r _ e1 _ fun v B' H' R' g => q v σ B' H' sd R' g
/-- return name, which is owned -/
theorem es_retV {ρ : Type} [Enc ρ] {s : Sh} {i : Nat} {r : ρ} (hi : sd[i]? = some (.own s (enc r))) : EvS K W (tRet (tVar i)) sd post postL (Mn.pur (.rt ⟨r⟩) : m (Fl τ l (Fw s ρ))) := fun F σ B H k R f k' e D q => by
  obtain ⟨rfl, rfl⟩ := pur_some e
  obtain ⟨o, f0, ho, ⟨v, rfl, w⟩, nd, hf, q1⟩ := R.slot hi
  refine ⟨v, ho, ?_⟩
  refine q v σ B H (sd.set i .un) (R.take hi ho w) (Gr.refl B)
end
end ON

set_option Elab.async false
set_option linter.all false
set_option maxRecDepth 100000
set_option maxHeartbeats 2000000
namespace ON
open PySem L2
section
variable {K : PySem.W.Frag} {m : Type → Type} [Mn m] {α β γ δ : Type} {sd : List SD} {ta tb te : TE}

/-! ### built-ins by their reading -/
theorem em_cb1 [Enc α] [Enc β] {r : List V → Hp → VK → Prop} {x : m α} {f : α → m β} (h : EvM K te sd x)
    (hr : ∀ (F : Fr) (σ : L2.St) (B H : Hp) (k : Int) a v, Rel K F σ B H sd k → Rp K B v (enc a) → ∀ b k', Mn.run (f a) k = some (b, k') → ∀ Q : VK, (∀ w B' H', Rel K F σ B' H' sd k' → Gr B B' → Rp K B' w (enc b) → Q w H') → r [v] H Q) :
    EvM K (tCB r (tCons te tNil)) sd (Mn.bnd x f) := fun F σ B H k R b k' e Q q => by
  obtain ⟨a, k1, e1, e2⟩ := bnd_some e
  exact h F σ B H k R a k1 e1 _ fun v B1 H1 R1 g1 r1 => hr F σ B1 H1 k1 a v R1 r1 b k' e2 Q fun w B' H' R' g r => q w B' H' R' (g1.trans g) r
def rLen (K : PySem.W.Frag) : List V → Hp → VK → Prop := fun xs H Q => (∃ p ys, xs = [.ref p] ∧ (SqL K H p ys ∨ SqT K H p ys) ∧ Q (.int ys.length) H) ∨ ∃ z, xs = [.str z] ∧ z.length ≤ sizeLine ∧ Q (.int z.length) H
theorem cr_lenU {X : Cx} : CallR X (.builtin "len") (rLen X.K) := fun pins s σ H xs us Q I r h => by
  rcases h with h | h
  · exact call_len_seq pins s σ H xs us Q I r h
  · exact call_len_str pins s σ H xs us Q I r h
theorem em_lenL [Enc α] {x : m (List α)} (h : EvM K te sd x) : EvM K (tCB (rLen K) (tCons te tNil)) sd (Mn.bnd x fun xs => Mn.pur (xs.length : Int)) := em_cb1 h fun F σ B H k a v R r b k' e Q q => by
  obtain ⟨rfl, rfl⟩ := pur_some e
  obtain ⟨p, vs, rfl, hp, hs⟩ := Rp.lst_inv r
  refine .inl ⟨p, vs, rfl, .inl (SqL.of (R.bh _ _ hp)), ?_⟩
  rw [hs.len, List.length_map]
  exact q _ B H R (Gr.refl B) (.int _)
theorem em_lenT [Enc α] {x : m (Tl α)} (h : EvM K te sd x) : EvM K (tCB (rLen K) (tCons te tNil)) sd (Mn.bnd x fun xs => Mn.pur (xs.l.length : Int)) := em_cb1 h fun F σ B H k a v R r b k' e Q q => by
  obtain ⟨rfl, rfl⟩ := pur_some e
  obtain ⟨p, vs, rfl, hp, hs⟩ := Rp.tup_inv r
  refine .inl ⟨p, vs, rfl, .inr (R.bh.sqT hp), ?_⟩
  rw [hs.len, List.length_map]
  exact q _ B H R (Gr.refl B) (.int _)
theorem em_lenS {x : m Str} (h : EvM K te sd x) : EvM K (tCB (rLen K) (tCons te tNil)) sd (Mn.bnd x fun s => gd (s.length ≤ sizeLine) (Mn.pur (s.length : Int))) := em_cb1 h fun F σ B H k a v R r b k' e Q q => by
  obtain ⟨hg, e⟩ := gd_some e
  obtain ⟨rfl, rfl⟩ := pur_some e
  rw [Rp.str_inv r]
  exact .inr ⟨a, rfl, hg, q _ B H R (Gr.refl B) (.int _)⟩
/-- len of a pair -/
theorem em_len2 [Enc α] [Enc β] {x : m (α × β)} (h : EvM K te sd x) : EvM K (tCB (rLen K) (tCons te tNil)) sd (Mn.bnd x fun _ => Mn.pur (2 : Int)) := em_cb1 h fun F σ B H k a v R r b k' e Q q => by
  obtain ⟨rfl, rfl⟩ := pur_some e
  obtain ⟨p, vs, rfl, hp, hs⟩ := Rp.tup_inv r
  refine .inl ⟨p, vs, rfl, .inr (R.bh.sqT hp), ?_⟩
  rw [hs.len]
  exact q _ B H R (Gr.refl B) (.int _)
def rTupOf (K : PySem.W.Frag) : List V → Hp → VK → Prop := fun xs H Q => ∃ p ys, xs = [.ref p] ∧ ((SqL K H p ys ∧ ∀ l, H l = none → Q (.ref l) (upd H l (.tup ys))) ∨ (SqT K H p ys ∧ Q (.ref p) H))
theorem cr_tup {X : Cx} : CallR X (.type "tuple") (rTupOf X.K) := call_tuple_of
theorem em_tupL [Enc α] {x : m (List α)} (h : EvM K te sd x) : EvM K (tCB (rTupOf K) (tCons te tNil)) sd (Mn.bnd x fun xs => Mn.pur (⟨xs⟩ : Tl α)) := em_cb1 h fun F σ B H k a v R r b k' e Q q => by
  obtain ⟨rfl, rfl⟩ := pur_some e
  obtain ⟨p, vs, rfl, hp, hs⟩ := Rp.lst_inv r
  refine ⟨p, vs, rfl, .inl ⟨SqL.of (R.bh _ _ hp), fun l hl => ?_⟩⟩
  obtain ⟨R2, g2⟩ := R.data (o := .tup vs) hl
  exact q _ _ _ R2 g2 (.tup (.inl (.inl upd_same)) (hs.gr g2))
def rSumI (K : PySem.W.Frag) : List V → Hp → VK → Prop := rSum K
theorem cr_sumU {X : Cx} (hc : X.calm = true) : CallR X (.builtin "sum") (rSumI X.K) := cr_sum hc
theorem em_sum {x : m (List Int)} (h : EvM K te sd x) : EvM K (tCB (rSumI K) (tCons te tNil)) sd (Mn.bnd x fun xs => Mn.pur xs.sum) := em_cb1 h fun F σ B H k a v R r b k' e Q q => by
  obtain ⟨rfl, rfl⟩ := pur_some e
  obtain ⟨p, vs, rfl, hp, hs⟩ := Rp.lst_inv r
  have z := Rps.ints (ns := a) hs
  subst z
  exact ⟨p, a, rfl, SqL.of (R.bh _ _ hp), q _ B H R (Gr.refl B) (.int _)⟩
theorem em_all {x : m (List Bool)} (h : EvM K te sd x) : EvM K (tCB (rAll K) (tCons te tNil)) sd (Mn.bnd x fun xs => Mn.pur (xs.all id)) := em_cb1 h fun F σ B H k a v R r b k' e Q q => by
  obtain ⟨rfl, rfl⟩ := pur_some e
  obtain ⟨p, vs, rfl, hp, hs⟩ := Rp.lst_inv r
  have z := Rps.bls (ns := a) hs
  subst z
  exact ⟨p, a, rfl, SqL.of (R.bh _ _ hp), q _ B H R (Gr.refl B) (.bl _)⟩
theorem em_any {x : m (List Bool)} (h : EvM K te sd x) : EvM K (tCB (rAny K) (tCons te tNil)) sd (Mn.bnd x fun xs => Mn.pur (xs.any id)) := em_cb1 h fun F σ B H k a v R r b k' e Q q => by
  obtain ⟨rfl, rfl⟩ := pur_some e
  obtain ⟨p, vs, rfl, hp, hs⟩ := Rp.lst_inv r
  have z := Rps.bls (ns := a) hs
  subst z
  exact ⟨p, a, rfl, SqL.of (R.bh _ _ hp), q _ B H R (Gr.refl B) (.bl _)⟩
def rMaxI : List V → Hp → VK → Prop := fun xs H Q => ∃ i j, xs = [.int i, .int j] ∧ Q (.int (if j > i then j else i)) H
def rMinI : List V → Hp → VK → Prop := fun xs H Q => ∃ i j, xs = [.int i, .int j] ∧ Q (.int (if j < i then j else i)) H
theorem cr_maxU {X : Cx} (hc : X.calm = true) : CallR X (.builtin "max") rMaxI := call_max2 hc
theorem cr_minU {X : Cx} (hc : X.calm = true) : CallR X (.builtin "min") rMinI := call_min2 hc
theorem em_max {x y : m Int} {tr : TA} (h : EvA K tr sd (Mn.bnd x fun a => Mn.bnd y fun b => Mn.pur (a, b)) (fun p => [enc p.1, enc p.2])) : EvM K (tCB rMaxI tr) sd (Mn.bnd (Mn.bnd x fun a => Mn.bnd y fun b => Mn.pur (a, b)) fun p => Mn.pur (max p.1 p.2)) := fun F σ B H k R b k' e Q q => by
  obtain ⟨p, k1, e1, e2⟩ := bnd_some e
  obtain ⟨rfl, rfl⟩ := pur_some e2
  refine h F σ B H k R p _ e1 _ fun vs B1 H1 R1 g1 r1 => ?_
  cases r1 with | cons h1 hs => cases hs with | cons h2 hs =>
    cases hs
    refine ⟨p.1, p.2, by rw [Rp.int_inv h1, Rp.int_inv h2], ?_⟩
    have z : (if p.2 > p.1 then p.2 else p.1) = max p.1 p.2 := by rw [Int.max_def]; split <;> split <;> omega
    rw [z]
    exact q _ B1 H1 R1 g1 (.int _)
theorem em_min {x y : m Int} {tr : TA} (h : EvA K tr sd (Mn.bnd x fun a => Mn.bnd y fun b => Mn.pur (a, b)) (fun p => [enc p.1, enc p.2])) : EvM K (tCB rMinI tr) sd (Mn.bnd (Mn.bnd x fun a => Mn.bnd y fun b => Mn.pur (a, b)) fun p => Mn.pur (min p.1 p.2)) := fun F σ B H k R b k' e Q q => by
  obtain ⟨p, k1, e1, e2⟩ := bnd_some e
  obtain ⟨rfl, rfl⟩ := pur_some e2
  refine h F σ B H k R p _ e1 _ fun vs B1 H1 R1 g1 r1 => ?_
  cases r1 with | cons h1 hs => cases hs with | cons h2 hs =>
    cases hs
    refine ⟨p.1, p.2, by rw [Rp.int_inv h1, Rp.int_inv h2], ?_⟩
    have z : (if p.2 < p.1 then p.2 else p.1) = min p.1 p.2 := by rw [Int.min_def]; split <;> split <;> omega
    rw [z]
    exact q _ B1 H1 R1 g1 (.int _)
def strI (i : Int) : Str := toString i
def rStrI : List V → Hp → VK → Prop := fun xs H Q => ∃ i, xs = [.int i] ∧ i.natAbs.log2 < 1920 ∧ Q (.str (toString i)) H
theorem cr_strU {X : Cx} : CallR X (.type "str") rStrI := call_str_int
theorem em_str1 {x : m Int} (h : EvM K te sd x) : EvM K (tCB rStrI (tCons te tNil)) sd (Mn.bnd x fun i => gd (i.natAbs.log2 < 1920) (Mn.pur (strI i))) := em_cb1 h fun F σ B H k a v R r b k' e Q q => by
  obtain ⟨hg, e⟩ := gd_some e
  obtain ⟨rfl, rfl⟩ := pur_some e
  rw [Rp.int_inv r]
  exact ⟨a, rfl, hg, q _ B H R (Gr.refl B) (.str _)⟩
/-! ### isinstance of a built-in class -/
def tyN : D → String
  | .non => "NoneType"
  | .bl _ => "bool"
  | .int _ => "int"
  | .str _ => "str"
  | .lst _ => "list"
  | .tup _ => "tuple"
  | .dic _ _ => "dict"
  | .scr _ => "list"
  | .err _ _ _ => ""
theorem Rp.ty {B : Hp} {v : V} {d : D} (r : Rp K B v d) (hn : tyN d ≠ "") : TyX K B v (.type (tyN d)) := by
  cases r with
  | non => exact .base .non
  | bl b => exact .base (.bl b)
  | int i => exact .base (.int i)
  | str x => exact .base (.str x)
  | lst h hs => exact .base (.lst h)
  | tup h hs =>
    rcases h with (h | ⟨o, h⟩) | ⟨o, its, n, h1, h2, _⟩
    · exact .base (.tup h)
    · exact .fTuple h
    · exact .kTuple h1 h2
  | dic hl h hs => exact .fDict h
  | err _ _ => exact absurd rfl hn
  | erf _ _ _ _ => exact absurd rfl hn
  | scr ns h =>
    rcases h with (h | ⟨o, h⟩) | ⟨o, its, n, h1, h2, _⟩
    · exact .base (.lst h)
    · exact .base (.frz h)
    · exact .kList h1 h2
theorem em_isi [Enc α] {x : m α} {T : String} {f : α → Bool} (h : EvM K te sd x) (hk : ∀ a, kitB (tyN (enc a)) T = some (f a)) (hn : ∀ a : α, tyN (enc a) ≠ "" := by intro a; first | (intro h; simp [tyN, ON.enc, Enc.enc] at h; done) | (cases a <;> (intro h; simp [tyN, ON.enc, Enc.enc] at h; done))) : EvM K (tCB (rIsi K) (tCons te (tCons (tC (.ty T)) tNil))) sd (Mn.bnd x fun a => Mn.pur (f a)) := fun F σ B H k R b k' e Q q => by
  obtain ⟨a, k1, e1, e2⟩ := bnd_some e
  obtain ⟨rfl, rfl⟩ := pur_some e2
  exact h F σ B H k R a _ e1 _ fun v B1 H1 R1 g1 r1 => ⟨v, .ty T, _, _, _, rfl, .ty T, (r1.gr R1.bh).ty (hn a), kit_ty (hk a), q _ B1 H1 R1 g1 (.bl _)⟩

/-! ### slices, lists put together -/
def EvO (K : PySem.W.Frag) (to : TO) (sd : List SD) (x : m (Option Int)) : Prop := ∀ (F : Fr) (σ : L2.St) (B H : Hp) (k : Int), Rel K F σ B H sd k → ∀ (a : Option Int) (k' : Int), Mn.run x k = some (a, k') →
  ∀ Q : Option Int → Hp → Prop, (∀ B' H', Rel K F σ B' H' sd k' → Gr B B' → Q a H') → to σ H Q
theorem eo_none : EvO K tNoPart sd (Mn.pur none : m (Option Int)) := fun F σ B H k R a k' e Q q => by
  obtain ⟨rfl, rfl⟩ := pur_some e
  exact q B H R (Gr.refl B)
theorem eo_some {x : m Int} (h : EvM K te sd x) : EvO K (tPart te) sd (Mn.bnd x fun i => Mn.pur (some i)) := fun F σ B H k R a k' e Q q => by
  obtain ⟨i, k1, e1, e2⟩ := bnd_some e
  obtain ⟨rfl, rfl⟩ := pur_some e2
  exact h F σ B H k R i _ e1 _ fun v B1 H1 R1 g1 r1 => ⟨i, Rp.int_inv r1, q B1 H1 R1 g1⟩
def cutL (xs : List α) (lo hi : Option Int) : List α := (xs.drop (HT.sIx xs.length 0 lo)).take (HT.sIx xs.length xs.length hi - HT.sIx xs.length 0 lo)
theorem Rps.cut {B : Hp} {vs : List V} {ds : List D} (r : Rps K B vs ds) (lo hi : Option Int) : Rps K B (cutV vs lo hi) (cutL ds lo hi) := by
  unfold cutV cutL
  rw [r.len]
  exact (r.drop _).take _
theorem cutL_map (f : α → β) (xs : List α) (lo hi : Option Int) : (cutL xs lo hi).map f = cutL (xs.map f) lo hi := by
  unfold cutL
  rw [List.length_map, List.map_take, List.map_drop]
variable {tl th : TO}
theorem ef_slice [Enc α] {x : m (List α)} {y z : m (Option Int)} (h : EvM K te sd x) (hl : EvO K tl sd y) (hh : EvO K th sd z) : EvF K (.lst .dat) (tSl (rSlL K) te tl th) sd (Mn.bnd x fun xs => Mn.bnd y fun lo => Mn.bnd z fun hi => Mn.pur (cutL xs lo hi)) := fun F σ B H k R b k' e Q q => by
  obtain ⟨xs, k1, e1, e2⟩ := bnd_some e
  obtain ⟨lo, k2, e3, e4⟩ := bnd_some e2
  obtain ⟨hi, k3, e5, e6⟩ := bnd_some e4
  obtain ⟨rfl, rfl⟩ := pur_some e6
  refine h F σ B H k R xs k1 e1 _ fun v B1 H1 R1 g1 r1 => ?_
  refine hl F σ B1 H1 k1 R1 lo k2 e3 _ fun B2 H2 R2 g2 => ?_
  refine hh F σ B2 H2 k2 R2 hi _ e5 _ fun B3 H3 R3 g3 => ?_
  obtain ⟨p, vs, rfl, hp, hs⟩ := Rp.lst_inv (r1.gr (g2.trans g3))
  refine ⟨p, vs, rfl, SqL.of (R3.bh _ _ hp), fun l hl => ?_⟩
  exact q _ B3 _ (R3.newL hl (by show Rps K B3 _ ((cutL _ _ _).map enc); rw [cutL_map]; exact hs.cut lo hi)) ((g1.trans g2).trans g3)
theorem ef_sliceSc {x : m Sc} {y z : m (Option Int)} (h : EvM K te sd x) (hl : EvO K tl sd y) (hh : EvO K th sd z) : EvF K (.lst .dat) (tSl (rSlL K) te tl th) sd (Mn.bnd x fun xs => Mn.bnd y fun lo => Mn.bnd z fun hi => Mn.pur (cutL xs.ns lo hi)) := fun F σ B H k R b k' e Q q => by
  obtain ⟨xs, k1, e1, e2⟩ := bnd_some e
  obtain ⟨lo, k2, e3, e4⟩ := bnd_some e2
  obtain ⟨hi, k3, e5, e6⟩ := bnd_some e4
  obtain ⟨rfl, rfl⟩ := pur_some e6
  refine h F σ B H k R xs k1 e1 _ fun v B1 H1 R1 g1 r1 => ?_
  refine hl F σ B1 H1 k1 R1 lo k2 e3 _ fun B2 H2 R2 g2 => ?_
  refine hh F σ B2 H2 k2 R2 hi _ e5 _ fun B3 H3 R3 g3 => ?_
  obtain ⟨p, rfl, hp⟩ := Rp.scr_inv (ns := xs.ns) (r1.gr (g2.trans g3))
  refine ⟨p, _, rfl, R3.bh.sqL hp, fun l hl => ?_⟩
  exact q _ B3 _ (R3.newL hl (by show Rps K B3 _ ((cutL _ _ _).map enc); rw [cutL_map]; exact (Rps.ofInts xs.ns).cut lo hi)) ((g1.trans g2).trans g3)
theorem em_lenSc {x : m Sc} (h : EvM K te sd x) : EvM K (tCB (rLen K) (tCons te tNil)) sd (Mn.bnd x fun xs => Mn.pur (xs.ns.length : Int)) := em_cb1 h fun F σ B H k a v R r b k' e Q q => by
  obtain ⟨rfl, rfl⟩ := pur_some e
  obtain ⟨p, rfl, hp⟩ := Rp.scr_inv (ns := a.ns) r
  refine .inl ⟨p, _, rfl, .inl (R.bh.sqL hp), ?_⟩
  rw [List.length_map]
  exact q _ B H R (Gr.refl B) (.int _)
def cutT (x : Str) (lo hi : Option Int) : Str := cutS x lo hi
theorem em_sliceS {x : m Str} {y z : m (Option Int)} (h : EvM K te sd x) (hl : EvO K tl sd y) (hh : EvO K th sd z) : EvM K (tSl rSlS te tl th) sd (Mn.bnd x fun xs => Mn.bnd y fun lo => Mn.bnd z fun hi => gd (xs.length ≤ sizeLine) (Mn.pur (cutT xs lo hi))) := fun F σ B H k R b k' e Q q => by
  obtain ⟨xs, k1, e1, e2⟩ := bnd_some e
  obtain ⟨lo, k2, e3, e4⟩ := bnd_some e2
  obtain ⟨hi, k3, e5, e6⟩ := bnd_some e4
  obtain ⟨hg, e7⟩ := gd_some e6
  obtain ⟨rfl, rfl⟩ := pur_some e7
  refine h F σ B H k R xs k1 e1 _ fun v B1 H1 R1 g1 r1 => ?_
  refine hl F σ B1 H1 k1 R1 lo k2 e3 _ fun B2 H2 R2 g2 => ?_
  refine hh F σ B2 H2 k2 R2 hi _ e5 _ fun B3 H3 R3 g3 => ?_
  exact ⟨xs, Rp.str_inv r1, hg, q _ B3 H3 R3 ((g1.trans g2).trans g3) (.str _)⟩
theorem ef_cat [Enc α] {x y : m (List α)} (h : EvM K ta sd x) (h2 : EvM K tb sd y) : EvF K (.lst .dat) (tOp rCat ta tb) sd (Mn.bnd x fun xs => Mn.bnd y fun ys => gd (xs.length + ys.length ≤ sizeLine) (Mn.pur (xs ++ ys))) := fun F σ B H k R b k' e Q q => by
  obtain ⟨xs, k1, e1, e2⟩ := bnd_some e
  obtain ⟨ys, k2, e3, e4⟩ := bnd_some e2
  obtain ⟨hg, e5⟩ := gd_some e4
  obtain ⟨rfl, rfl⟩ := pur_some e5
  refine h F σ B H k R xs k1 e1 _ fun v B1 H1 R1 g1 r1 => ?_
  refine h2 F σ B1 H1 k1 R1 ys _ e3 _ fun w B2 H2 R2 g2 r2 => ?_
  obtain ⟨p, vs, rfl, hp, hs⟩ := Rp.lst_inv (r1.gr g2)
  obtain ⟨p2, vs2, rfl, hp2, hs2⟩ := Rp.lst_inv r2
  refine ⟨p, p2, vs, vs2, rfl, rfl, R2.bh _ _ hp, R2.bh _ _ hp2, ?_, fun l hl => ?_⟩
  · rw [hs.len, hs2.len, List.length_map, List.length_map]; exact hg
  · exact q _ B2 _ (R2.newL hl (by rw [List.map_append]; exact hs.app hs2)) (g1.trans g2)
theorem ef_rev [Enc α] {x : m (List α)} (h : EvM K te sd x) : EvF K (.lst .dat) (tRevL K te) sd (Mn.bnd x fun xs => Mn.pur xs.reverse) := fun F σ B H k R b k' e Q q => by
  obtain ⟨xs, k1, e1, e2⟩ := bnd_some e
  obtain ⟨rfl, rfl⟩ := pur_some e2
  refine h F σ B H k R xs _ e1 _ fun v B1 H1 R1 g1 r1 => ?_
  obtain ⟨p, vs, rfl, hp, hs⟩ := Rp.lst_inv r1
  refine ⟨p, vs, rfl, SqL.of (R1.bh _ _ hp), fun l hl => ?_⟩
  exact q _ B1 _ (R1.newL hl (by rw [List.map_reverse]; exact hs.rev)) g1

/-! ### texts -/
theorem em_fs2 {t1 t3 : TE} {x z : m Str} {c : Str} (h1 : EvM K t1 sd x) (h2 : EvM K t3 sd z) : EvM K (fun σ H Q => tJs [tFmt t1, tC (.str c), tFmt t3] Str.empty σ H fun out H1 => Q (.str out) H1) sd
    (Mn.bnd x fun a => Mn.bnd z fun b => gd (a.length ≤ sizeLine ∧ b.length ≤ sizeLine ∧ (Str.empty ++ a).length ≤ sizeLine ∧ (Str.empty ++ a ++ c).length ≤ sizeLine ∧ (Str.empty ++ a ++ c ++ b).length ≤ sizeLine) (Mn.pur (Str.empty ++ a ++ c ++ b))) := fun F σ B H k R b k' e Q q => by
  obtain ⟨a, k1, e1, e2⟩ := bnd_some e
  obtain ⟨b', k2, e3, e4⟩ := bnd_some e2
  obtain ⟨⟨g1, g2, g3, g4, g5⟩, e5⟩ := gd_some e4
  obtain ⟨rfl, rfl⟩ := pur_some e5
  refine h1 F σ B H k R a k1 e1 _ fun v B1 H1 R1 gr1 r1 => ?_
  refine .inl ⟨a, Rp.str_inv r1, g1, a, rfl, g3, c, rfl, g4, ?_⟩
  refine h2 F σ B1 H1 k1 R1 b' _ e3 _ fun w B2 H2 R2 gr2 r2 => ?_
  exact .inl ⟨b', Rp.str_inv r2, g2, b', rfl, g5, q _ B2 H2 R2 (gr1.trans gr2) (.str _)⟩
def rZf : V → List V → Hp → VK → Prop := fun x xs H Q => ∃ (a : Str) (i : Int), x = .str a ∧ xs = [.int i] ∧ PadOk i = true ∧ Q (.str (Txt.zfill a i)) H
theorem mt_zfU {X : Cx} : MtR X "str.zfill" rZf := mt_zfill
theorem em_zfill {x : m Str} {i : Int} (h : EvM K te sd x) (hi : PadOk i = true) : EvM K (tBM K "str" rZf te (tCons (tC (.int i)) tNil)) sd (Mn.bnd x fun a => Mn.pur (Txt.zfill a i)) := fun F σ B H k R b k' e Q q => by
  obtain ⟨a, k1, e1, e2⟩ := bnd_some e
  obtain ⟨rfl, rfl⟩ := pur_some e2
  refine h F σ B H k R a _ e1 _ fun v B1 H1 R1 gr1 r1 => ?_
  rw [Rp.str_inv r1]
  exact ⟨rfl, a, i, rfl, rfl, hi, q _ B1 H1 R1 gr1 (.str _)⟩
def rJoin (K : PySem.W.Frag) : V → List V → Hp → VK → Prop := fun x xs H Q => ∃ a p, ∃ ys : List Str, x = .str a ∧ xs = [.ref p] ∧ (SqL K H p (ys.map V.str) ∨ SqT K H p (ys.map V.str)) ∧ (ys.map (·.length)).sum + ys.length * a.length ≤ 16777216 ∧ Q (.str (Txt.join a ys)) H
theorem mt_joinU {X : Cx} : MtR X "str.join" (rJoin X.K) := mt_join
theorem em_join {x : m (List Str)} {c : Str} (h : EvM K te sd x) : EvM K (tBM K "str" (rJoin K) (tC (.str c)) (tCons te tNil)) sd (Mn.bnd x fun ys => gd ((ys.map (·.length)).sum + ys.length * c.length ≤ 16777216) (Mn.pur (Txt.join c ys))) := fun F σ B H k R b k' e Q q => by
  obtain ⟨ys, k1, e1, e2⟩ := bnd_some e
  obtain ⟨hg, e3⟩ := gd_some e2
  obtain ⟨rfl, rfl⟩ := pur_some e3
  refine ⟨rfl, ?_⟩
  refine h F σ B H k R ys _ e1 _ fun v B1 H1 R1 gr1 r1 => ?_
  obtain ⟨p, vs, rfl, hp, hs⟩ := Rp.lst_inv r1
  have z := Rps.strs (ns := ys) hs
  subst z
  exact ⟨c, p, ys, rfl, rfl, .inl (SqL.of (R1.bh _ _ hp)), hg, q _ B1 H1 R1 gr1 (.str _)⟩
end
end ON
namespace ON
open PySem PySem.Spec PyProof.Rows L2
section
variable {K : PySem.W.Frag} {m : Type → Type} [Mn m] {α β γ δ τ l ρ : Type} {sd : List SD} {ta tb te : TE} [Rt ρ] {W : Wr} {post : τ → List SD} {postL : l → List SD} {ts tu : TS}
/-- return e; what follows is never reached -/
theorem es_retS {ρ : Type} [Enc ρ] {x : m ρ} (h : EvM K te sd x) : EvS K W (tSeq (tRet te) tu) sd post postL (Mn.bnd x fun r => (Mn.pur (.rt r) : m (Fl τ l ρ))) := fun F σ B H k R f k' e D q => by
  obtain ⟨r, k1, e1, e2⟩ := bnd_some e
  obtain ⟨rfl, rfl⟩ := pur_some e2
  exact h F σ B H k R r _ e1 _ fun v B' H' R' g rr => q v σ B' H' sd R' g rr
theorem es_breakS {t : l} (h : Le sd (postL t)) : EvS K W (ρ := ρ) (tSeq tBreak tu) sd post postL (Mn.pur (.bk t) : m (Fl τ l ρ)) := fun F σ B H k R f k' e D q => by
  obtain ⟨rfl, rfl⟩ := pur_some e
  exact q σ B H (R.le h) (Gr.refl B)
theorem es_contS {t : l} (h : Le sd (postL t)) : EvS K W (ρ := ρ) (tSeq tCont tu) sd post postL (Mn.pur (.ct t) : m (Fl τ l ρ)) := fun F σ B H k R f k' e D q => by
  obtain ⟨rfl, rfl⟩ := pur_some e
  exact q σ B H (R.le h) (Gr.refl B)
/-- a, b = x, y -/
theorem es_par [Enc α] [Enc β] {i j : Nat} {tr : TA} {x : m (α × β)} {f : α × β → m (Fl τ l ρ)} (h : EvA K tr sd x (fun p => [enc p.1, enc p.2])) (hf : ∀ p, EvS K W tu ((sd.set i (.dat (enc p.1))).set j (.dat (enc p.2))) post postL (f p)) :
    EvS K W (tSeq (tPar i j tr) tu) sd post postL (Mn.bnd x f) := fun F σ B H k R r k' e D q => by
  obtain ⟨p, k1, e1, e2⟩ := bnd_some e
  refine h F σ B H k R p k1 e1 _ fun vs B1 H1 R1 g1 r1 => ?_
  cases r1 with | cons h1 hs => cases hs with | cons h2 hs =>
    cases hs
    exact ⟨_, _, rfl, hf p F _ B1 H1 k1 ((R1.setDat h1).setDat h2) r k' e2 D (q.gr g1)⟩
/-- a tuple display as a tuple of any length -/
theorem em_tupTl [Enc α] {tr : TA} {y : m (List α)} (h : EvA K tr sd y (fun xs => xs.map enc)) : EvM K (tTup tr) sd (Mn.bnd y fun xs => gd (xs.length ≤ 1000) (Mn.pur (⟨xs⟩ : Tl α))) := fun F σ B H k R c k' e Q q => by
  obtain ⟨xs, k1, e1, e2⟩ := bnd_some e
  obtain ⟨hl, e3⟩ := gd_some e2
  obtain ⟨rfl, rfl⟩ := pur_some e3
  refine h F σ B H k R xs _ e1 _ fun vs B1 H1 R1 g1 r1 => ⟨?_, fun p hp => ?_⟩
  · rw [r1.len, List.length_map]; exact Nat.le_trans hl (by decide)
  · obtain ⟨R2, g2⟩ := R1.data (o := .tup vs) hp
    exact q (.ref p) _ _ R2 (g1.trans g2) (.tup (.inl (.inl upd_same)) (r1.gr g2))
def PowOk (i j : Int) : Prop := 0 ≤ j ∧ j ≤ 1000000 ∧ i.natAbs < 2 ^ 64
instance (i j : Int) : Decidable (PowOk i j) := by unfold PowOk; exact inferInstance
theorem om_pow {a b : Int} : OpM K (rI CPow fun i j => .int (i ^ j.toNat)) a b (gd (PowOk a b) (Mn.pur (a ^ b.toNat)) : m Int) := om_I id
/-- in-place products -/
theorem iop_mulU {X : Cx} : PIp X .Mult rMul := fun pins s σ H x y v u Q I rx ry h => by
  obtain ⟨i, j, rfl, rfl, hc, q⟩ := h
  obtain ⟨t, rfl⟩ := rx
  obtain ⟨t', rfl⟩ := ry
  have ok := Or.elim hc (fun z => CMul.ok z) (fun z => CMulW.ok z)
  exact imul_int ⟨.int (i * j), H, I.tok _, ⟨_, rfl⟩, q⟩ ok
theorem room64 {k : Nat} {A : Around} (hr : Room k A) : A.units + 64 < cLine := by have := hr.un; omega
def FU : Nat := 1000000000
theorem Rp.tupK {B : Hp} {a : Addr} {od : Option Addr} {its : Array Value} {n : Nat} {sl : Array (Option Value)} {vs : List V} {ds : List D} (h : K.lookup a = some ⟨.type "tuple", od, .seq its n, sl⟩) (hl : its.size ≤ 1000) (hv : Vals vs its.toList) (hs : Rps K B vs ds) : Rp K B (.ref a) (.tup ds) :=
  .tup (.inr ⟨_, its, n, h, rfl, rfl, Nat.le_trans hl (by decide), hv⟩) hs
end
end ON
namespace ON
open PySem PySem.Spec PyProof.Rows L2
section
variable {K : PySem.W.Frag} {m : Type → Type} [Mn m] {α β γ δ τ l ρ : Type} {sd : List SD} {ta tb te : TE}
theorem eb_yes : EvB K tYes sd (Mn.pur true : m Bool) := fun F σ B H k R b k' e Q q => by
  obtain ⟨rfl, rfl⟩ := pur_some e
  exact q B H R (Gr.refl B)
def Rg3 (i j c : Int) : Prop := c ≠ 0 ∧ c.natAbs < 1073741824 ∧ Builtin.Range.small i j c = true ∧ 0 ≤ Builtin.Range.rangeSize i j c
instance (i j c : Int) : Decidable (Rg3 i j c) := by unfold Rg3; exact inferInstance
def rg3 (i j c : Int) : Nat := (Builtin.Range.rangeSize i j c).toNat
theorem ei_rng3 {tr : TA} {x : m (Int × Int × Int)} {g : Int × Int × Int → List D} (h : EvA K tr sd x g) (hg : ∀ p, g p = [enc p.1, enc p.2.1, enc p.2.2] := by intro _; rfl) : EvI K (iRng3 tr) sd (Mn.bnd x fun n => gd (Rg3 n.1 n.2.1 n.2.2) (Mn.pur (upTo n.1 (rg3 n.1 n.2.1 n.2.2) n.2.2))) := fun F σ B H k R xs k' e Q q => by
  obtain ⟨n, k1, e1, e2⟩ := bnd_some e
  obtain ⟨⟨h1, h2, h3, h4⟩, e3⟩ := gd_some e2
  obtain ⟨rfl, rfl⟩ := pur_some e3
  refine h F σ B H k R n _ e1 _ fun vs B1 H1 R1 g1 r1 => ?_
  rw [hg] at r1
  cases r1 with | cons a1 hs => cases hs with | cons a2 hs => cases hs with | cons a3 hs =>
    cases hs
    exact ⟨n.1, n.2.1, n.2.2, rg3 n.1 n.2.1 n.2.2, by rw [Rp.int_inv a1, Rp.int_inv a2, Rp.int_inv a3], ⟨h1, h2, h3, (Int.toNat_of_nonneg h4).symm⟩, q _ B1 H1 R1 g1 src_rngC⟩
end
end ON
namespace ON
open PySem PySem.Spec PyProof.Rows L2
section
variable {X : Cx} {K : PySem.W.Frag}
theorem PE.toK {e : Expr} {t t' : TE} (h : PE X e t) (ht : t = t') : PE X e t' := ht ▸ h
end
end ON

set_option Elab.async false
set_option linter.all false
set_option maxRecDepth 100000
set_option maxHeartbeats 2000000
/-! the state that a law draws from -/
namespace ON
open PySem PySem.Spec PyProof.Rows L2
theorem st_at {cv : V} {k : Int} {nv : Option V} : valV (stKvs cv k nv) (.inr "at") = some (.int k) := by cases nv <;> rfl
theorem st_cells {cv : V} {k : Int} {nv : Option V} : valV (stKvs cv k nv) (.inr "cells") = some cv := by cases nv <;> rfl
theorem st_put {cv : V} {k k' : Int} {nv : Option V} : putK (stKvs cv k nv) (.inr "at") (.int k') = stKvs cv k' nv := by cases nv <;> rfl
theorem st_len {cv : V} {k : Int} {nv : Option V} : (stKvs cv k nv).length < sizeLine := by
  cases nv with
  | none => exact (by decide : 2 < sizeLine)
  | some n => exact (by decide : 3 < sizeLine)
theorem st_names {cv : V} {k : Int} {n : V} : valV (stKvs cv k (some n)) (.inr "names") = some n := rfl
theorem st_putN {cv : V} {k : Int} {n : V} : putK (stKvs cv k none) (.inr "names") n = stKvs cv k (some n) := rfl
/-- what is drawn -/
def nxB (c : List Int) (k1 : Int) : Int := 31 * k1 * k1 + 7919 * k1 + (match atI c (k1 % c.length) with | some z => z % 2147483647 * (1 + k1 / c.length) | none => 0)
def nxV (c : List Int) (k1 mm : Int) : Int := nxB c k1 * 48271 % 2147483647 / 7 % mm
def nx (c : List Int) (mm : Int) : Sm Int := fun k => if 0 ≤ k ∧ k < 1000000000000 ∧ 0 < mm ∧ c.length ≤ 1000 then some (nxV c (k + 1) mm, k + 1) else none
theorem nx_some {c : List Int} {mm k r k' : Int} (h : nx c mm k = some (r, k')) : (0 ≤ k ∧ k < 1000000000000 ∧ 0 < mm ∧ c.length ≤ 1000) ∧ r = nxV c (k + 1) mm ∧ k' = k + 1 := by
  unfold nx at h
  by_cases z : 0 ≤ k ∧ k < 1000000000000 ∧ 0 < mm ∧ c.length ≤ 1000
  · rw [if_pos z] at h; cases h; exact ⟨z, rfl, rfl⟩
  · rw [if_neg z] at h; cases h
abbrev pr_next (q : SK) (ds : List (Option D)) (k : Int) (r : D) (k' : Int) : Prop := ∃ (c : List Int) (ns : Option (List Str)) (p0 x : Int), q = .run c ns ∧ ds = [none, some (enc p0)] ∧ nx c p0 k = some (x, k') ∧ r = enc x
def rNxA : R2 := rI0 fun i j => .int (i + j)
def rNxM : R2 := rI (fun _ j => 0 < j) fun i j => .int (i % j)
def rNxD : R2 := rI CDivW fun i j => .int (i / j)
/-- the reading of the drawing def's body -/
def tNx (K : PySem.W.Frag) : TS := tSeq (sDPut (tVar 0) (tC (.str "at")) (tOp rNxA (tDGet (tVar 0) (tC (.str "at"))) (tC (.int 1))))
  (tSeq (tAsg (tDGet (tVar 0) (tC (.str "at"))) (gName 2)) (tSeq (tAsg (tDGet (tVar 0) (tC (.str "cells"))) (gName 3))
  (tSeq (tAsg (tOp rNxA (tOp rMul (tOp rMul (tC (.int 31)) (tVar 2)) (tVar 2)) (tOp rMul (tC (.int 7919)) (tVar 2))) (gName 4))
  (tSeq (tIfS (tTest (tOp (rNeD K) (tVar 3) (tLst tNil)))
    (tSeq (tAsg (tOp rNxA (tVar 4) (tOp rMul (tOp rNxM (tOp (rIxL K) (tVar 3) (tOp rNxM (tVar 2) (tCB (rLen K) (tCons (tVar 3) tNil)))) (tC (.int 2147483647)))
      (tOp rNxA (tC (.int 1)) (tOp rNxD (tVar 2) (tCB (rLen K) (tCons (tVar 3) tNil)))))) (gName 4)) tNext) tNext)
  (tSeq (tRet (tOp rNxM (tOp rNxD (tOp rNxM (tOp rMul (tVar 4) (tC (.int 48271))) (tC (.int 2147483647))) (tC (.int 7))) (tVar 1))) tNext)))))
theorem ints_eqv_nil (c : List Int) : PyData.eqv (.list (c.map .int)) (.list []) = decide (c = []) := by
  cases c with
  | nil => rfl
  | cons x r => simp [PyData.eqv, PyData.eqvAll]
theorem dp_ints (K : PySem.W.Frag) (H : Hp) : ∀ c : List Int, DpAll K H (c.map V.int) (c.map .int)
  | [] => .nil
  | x :: r => .cons (.int x) (dp_ints K H r)
theorem ints_shaped (c : List Int) : SeqAt.shaped (.list (c.map .int)) = true := by
  have h1 : ∀ c : List Int, PyData.canLayAll0 (c.map .int) = true := fun c => by
    induction c with
    | nil => rfl
    | cons x r ih => simp [PyData.canLayAll0, PyData.canLay0, ih]
  have h2 : ∀ c : List Int, PyData.depthAll (c.map .int) ≤ 1 := fun c => by
    induction c with
    | nil => simp [PyData.depthAll]
    | cons x r ih => simp only [List.map_cons, PyData.depthAll, PyData.depth]; omega
  show (PyData.canLay0 (.list (c.map .int)) && decide (PyData.depth (.list (c.map .int)) ≤ 64)) = true
  rw [Bool.and_eq_true]
  refine ⟨by simp only [PyData.canLay0]; exact h1 c, decide_eq_true ?_⟩
  have := h2 c
  simp only [PyData.depth]; omega
theorem mul_ok1 {i j : Int} (h : -(2 ^ 64) < i ∧ i < 2 ^ 64) : ON.MulOk i j := .inl (.inl h)
theorem mul_ok2 {i j : Int} (h : -(2 ^ 64) < j ∧ j < 2 ^ 64) : ON.MulOk i j := .inl (.inr h)
theorem log2_small {i : Int} (h : i.natAbs < 2 ^ 64) : i.natAbs.log2 < 9000 := Nat.lt_of_lt_of_le (PySem.Flt.log2_lt_of (by decide) h) (by decide)
theorem run_next {K : PySem.W.Frag} {vs : List V} {H : Hp} {Q : VK} {E : XK} (h : spS K 2 .dat pr_next vs H Q E) : tNx K { nx := fun _ H' => Q .non H', rt := Q } (L2.start ["_law_state", "_law_many", "_law_k", "_law_cells", "_law_base"] vs) H := by
  obtain ⟨B, a, ⟨_, ca, nv⟩, ds, k, r, k', ⟨c, ns, mm, x, rfl, rfl, hx, rfl⟩, hl, g, hS, rs, q⟩ := h
  match vs, hl, rs with
  | [v0, v1], _, rs =>
  obtain ⟨rfl, r1, _⟩ := rs
  obtain ⟨⟨h0, h1, h2, h3⟩, rfl, rfl⟩ := nx_some hx
  cases r1
  obtain ⟨hb, hh, hq, hn⟩ := hS
  have gg := DGet.k (k := .inr "at") hh
  rw [st_at] at gg
  -- state['at'] = state['at'] + 1
  refine ⟨_, rfl, a, _, rfl, gg, k, 1, rfl, rfl, _, rfl, a, _, rfl, DPut.k (k := .inr "at") hh st_len, ?_⟩
  rw [st_put]
  have hh2 : upd H a (.dK (stKvs (.ref ca) (k + 1) nv)) a = some (.dK (stKvs (.ref ca) (k + 1) nv)) := upd_same
  have g2 := DGet.k (k := .inr "at") hh2
  rw [st_at] at g2
  have g3 := DGet.k (k := .inr "cells") hh2
  rw [st_cells] at g3
  have gB : Gr B (upd H a (.dK (stKvs (.ref ca) (k + 1) nv))) := g.mut hb
  have hqH := gB.sqL hq
  refine ⟨_, rfl, a, _, rfl, g2, ?_⟩
  refine ⟨_, rfl, a, _, rfl, g3, ?_⟩
  -- base
  refine ⟨_, rfl, 31, k + 1, rfl, rfl, mul_ok1 (by decide), _, rfl, 31 * (k + 1), k + 1, rfl, rfl, mul_ok2 (by omega), _, rfl, 7919, k + 1, rfl, rfl, mul_ok1 (by decide), _, _, rfl, rfl, ?_⟩
  -- cells != []
  refine ⟨_, rfl, Nat.zero_le _, fun p np => ?_⟩
  have gP : Gr (upd H a (.dK (stKvs (.ref ca) (k + 1) nv))) (upd (upd H a (.dK (stKvs (.ref ca) (k + 1) nv))) p (.lst [])) := Gr.new np
  have hnp : a ≠ p := ne_of_none hh2 np
  refine ⟨.list (c.map .int), .list [], .lst (gP.sqL hqH) (dp_ints K _ c), .lst (SqL.of upd_same) .nil, ints_shaped c, ints_shaped [], _, rfl, ?_⟩
  rw [ints_eqv_nil]
  -- the end, from any base
  have fin : ∀ b : Int, b = nxB c (k + 1) → ∀ (w1 w2 w3 : Option V) (H3 : Hp), H3 = upd (upd H a (.dK (stKvs (.ref ca) (k + 1) nv))) p (.lst []) →
      tSeq (tRet (tOp rNxM (tOp rNxD (tOp rNxM (tOp rMul (tVar 4) (tC (.int 48271))) (tC (.int 2147483647))) (tC (.int 7))) (tVar 1))) tNext { nx := fun _ H' => Q .non H', rt := Q } [some (.ref a), some (.int mm), w2, w3, some (.int b)] H3 := fun b hbE w1 w2 w3 H3 e3 => by
    refine ⟨_, rfl, b, 48271, rfl, rfl, mul_ok2 (by decide), _, _, rfl, rfl, (by decide : (0 : Int) < 2147483647), _, 7, rfl, rfl, ⟨by decide, by decide⟩, _, rfl, _, mm, rfl, rfl, h2, ?_⟩
    subst e3
    refine q _ B _ [] (Gr.refl B) (gB.trans gP) (fun b o ne e => ?_) ?_ (fun b o e e0 => by rw [e] at e0; cases e0) ⟨rfl, ?_⟩ .nil (fun _ m => nomatch m)
    · rw [upd_ne (fun z => by rw [z] at e; rw [upd_ne (fun z2 => hnp z2.symm)] at np; rw [np] at e; cases e), upd_ne ne]; exact e
    · exact ⟨hb, by rw [upd_ne hnp, upd_same], hq, hn⟩
    · rw [hbE]; exact .int _
  by_cases hc : c = []
  · rw [decide_eq_true hc]
    refine iteF ?_
    refine fin _ ?_ none _ _ _ rfl
    subst hc
    unfold nxB
    have z : atI ([] : List Int) ((k + 1) % (([] : List Int).length : Int)) = none := by
      unfold atI
      cases ixN ([] : List Int).length ((k + 1) % (([] : List Int).length : Int)) with
      | none => rfl
      | some j => rfl
    rw [z]
    show 31 * (k + 1) * (k + 1) + 7919 * (k + 1) = 31 * (k + 1) * (k + 1) + 7919 * (k + 1) + 0
    rw [Int.add_zero]
  · rw [decide_eq_false hc]
    refine iteT ?_
    have lc : 0 < c.length := List.length_pos_iff.mpr hc
    have hL : (c.map V.int).length = c.length := List.length_map ..
    have hj : ∃ z, atI c ((k + 1) % (c.length : Int)) = some z := by
      have p0 : 0 ≤ (k + 1) % (c.length : Int) := Int.emod_nonneg _ (by omega)
      have p1 : (k + 1) % (c.length : Int) < c.length := Int.emod_lt_of_pos _ (by omega)
      have e := atI_nat (xs := c) (j := ((k + 1) % (c.length : Int)).toNat) (v := c[((k + 1) % (c.length : Int)).toNat]'(by omega)) (List.getElem?_eq_getElem (by omega))
      rw [Int.toNat_of_nonneg p0] at e
      exact ⟨_, e⟩
    obtain ⟨z, hz⟩ := hj
    have sq := gP.sqL hqH
    refine ⟨_, rfl, _, rfl, _, rfl, _, rfl, .inl ⟨ca, _, rfl, .inl sq, k + 1, c.length, rfl, ?_, ?_, ca, _, _, .int z, rfl, rfl, sq, ?_, z, 2147483647, rfl, rfl, (by show (0 : Int) < 2147483647; decide), _, rfl, _, rfl, .inl ⟨ca, _, rfl, .inl sq, k + 1, c.length, rfl, ?_, ?_, 1, _, rfl, rfl, _, _, rfl, rfl, ?_, _, _, rfl, rfl, ?_⟩⟩⟩
    · rw [hL]
    · show (0 : Int) < (c.length : Int); omega
    · rw [atI_map, hz]; rfl
    · rw [hL]
    · refine ⟨by show (0 : Int) < (c.length : Int); omega, log2_small ?_⟩
      rw [Int.natAbs_natCast]
      exact Nat.lt_of_le_of_lt h3 (by decide)
    · refine mul_ok1 ?_
      have q1 := Int.emod_nonneg z (show (2147483647 : Int) ≠ 0 by decide)
      have q2 := Int.emod_lt_of_pos z (show (0 : Int) < 2147483647 by decide)
      omega
    · refine fin _ ?_ none _ _ _ rfl
      unfold nxB
      rw [hz]
/-- the state of digits -/
abbrev dg (mm : Int) : Sm Int := fun k => if 0 < mm ∧ mm < 2 ^ 60 then some (k % mm, k / mm) else none
theorem dg_some {mm k r k' : Int} (h : dg mm k = some (r, k')) : (0 < mm ∧ mm < 2 ^ 60) ∧ r = k % mm ∧ k' = k / mm := by
  unfold dg at h
  by_cases z : 0 < mm ∧ mm < 2 ^ 60
  · rw [if_pos z] at h; cases h; exact ⟨z, rfl, rfl⟩
  · rw [if_neg z] at h; cases h
abbrev pr_digit (q : SK) (ds : List (Option D)) (k : Int) (r : D) (k' : Int) : Prop := ∃ (p0 x : Int), q = .left ∧ ds = [none, some (enc p0)] ∧ dg p0 k = some (x, k') ∧ r = enc x
def tDg : TS := tSeq (tAsg (tOp rNxM (tDGet (tVar 0) (tC (.str "left"))) (tVar 1)) (gName 2)) (tSeq (sDPut (tVar 0) (tC (.str "left")) (tOp rNxD (tDGet (tVar 0) (tC (.str "left"))) (tVar 1))) (tSeq (tRet (tVar 2)) tNext))
theorem run_digit {K : PySem.W.Frag} {vs : List V} {H : Hp} {Q : VK} {E : XK} (h : spS K 2 .dat pr_digit vs H Q E) : tDg { nx := fun _ H' => Q .non H', rt := Q } (L2.start ["_law_state", "_law_many", "_law_found"] vs) H := by
  obtain ⟨B, a, ⟨_, ca, nv⟩, ds, k, r, k', ⟨mm, x, rfl, rfl, hx, rfl⟩, hl, g, hS, rs, q⟩ := h
  match vs, hl, rs with
  | [v0, v1], _, rs =>
  obtain ⟨rfl, r1, _⟩ := rs
  obtain ⟨⟨h1, h2⟩, rfl, rfl⟩ := dg_some hx
  cases r1
  obtain ⟨hb, hh⟩ := hS
  have hh : H a = some (.dK [(.inr "left", .int k)]) := hh
  have gg := DGet.k (k := .inr "left") hh
  refine ⟨_, rfl, a, _, rfl, gg, _, rfl, k, mm, rfl, rfl, h1, ?_⟩
  refine ⟨_, rfl, a, _, rfl, gg, _, rfl, k, mm, rfl, rfl, ⟨h1, log2_small (by omega)⟩, _, rfl, a, _, rfl, DPut.k (k := .inr "left") hh (by exact (by decide : 1 < sizeLine)), ?_⟩
  refine ⟨_, rfl, ?_⟩
  have e : putK [((.inr "left" : Key), V.int k)] (.inr "left") (V.int (k / mm)) = [(.inr "left", .int (k / mm))] := rfl
  refine q _ B _ [] (Gr.refl B) (g.mut hb) (fun b o ne e => by rw [upd_ne ne]; exact e) ⟨hb, ?_⟩ (fun b o e e0 => by rw [e] at e0; cases e0) ⟨rfl, .int _⟩ .nil (fun _ m => nomatch m)
  show upd H a _ a = _
  rw [upd_same, e]
end ON

set_option Elab.async false
set_option linter.all false
set_option maxRecDepth 100000
set_option maxHeartbeats 2000000
/-! N9: defs that draw, defs that begin a state. -/
namespace ON
open PySem PySem.Spec PyProof.Rows L2
section
variable {K : PySem.W.Frag} {α β τ l ρ : Type} {sd : List SD} {ta tb te : TE} {W : Wr} {ts tu : TS}
def sdS (n : Nat) (q : SK) (ds : List (Option D)) : List SD := ds.map (fun o => match o with | some d => SD.dat d | none => SD.sr q) ++ List.replicate (n - ds.length) .un
theorem Arps.get {B : Hp} {a : Addr} : ∀ {vs : List V} {ds : List (Option D)}, Arps K B a vs ds → ∀ {i : Nat} {o : Option D}, ds[i]? = some o → ∃ v, vs[i]? = some v ∧ match o with | some d => Rp K B v d | none => v = .ref a
  | [], [], _, i, o, e => by simp at e
  | v :: vs, some d :: ds, ⟨h, hs⟩, i, o, e => by
    cases i with
    | zero => cases e; exact ⟨v, rfl, h⟩
    | succ i => exact Arps.get hs (i := i) e
  | v :: vs, none :: ds, ⟨h, hs⟩, i, o, e => by
    cases i with
    | zero => cases e; exact ⟨v, rfl, h⟩
    | succ i => exact Arps.get hs (i := i) e
  | [], _ :: _, h, _, _, _ => by cases h
  | _ :: _, [], h, _, _, _ => by cases h
theorem Rel.initS {B H : Hp} {N : List Str} {a : Addr} {q : Sa} {k : Int} {vs : List V} {ds : List (Option D)} (g : Gr B H) (hS : StAt K B H a q k) (r : Arps K B a vs ds) :
    Rel K ⟨H, B, some (a, q), []⟩ (L2.start N vs) B H (sdS N.length q.q ds) k := by
  have z := r.len
  refine ⟨?_, g, Gr.refl B, fun b o e e0 => ?_, fun b o e _ => e, fun s e => ?_, fun _ => [], fun x c e => ?_, fun _ _ => rfl, fun _ => .nil, fun _ _ _ m => (nomatch m), fun _ _ m => (nomatch m), fun _ _ m => (nomatch m), fun _ _ m => (nomatch m)⟩
  · unfold sdS L2.start
    simp only [List.length_append, List.length_map, List.length_replicate]; omega
  · have e1 : B b = none := e0
    rw [e] at e1; cases e1
  · cases e; exact hS
  · cases x with
    | inr j => simp [cell] at e
    | inl i =>
      simp only [cell] at e
      cases h1 : (sdS N.length q.q ds)[i]? with
      | none => rw [h1] at e; cases e
      | some d =>
        cases h2 : (L2.start N vs)[i]? with
        | none => rw [h1, h2] at e; cases e
        | some o =>
          rw [h1, h2] at e; cases e
          unfold sdS at h1
          rw [start_get] at h2
          by_cases c : i < ds.length
          · rw [List.getElem?_append_left (by rw [List.length_map]; exact c), List.getElem?_map] at h1
            rw [if_pos (by omega)] at h2
            obtain ⟨d', hd, rfl⟩ := Option.map_eq_some_iff.mp h1
            obtain ⟨v, hv, rv⟩ := r.get hd
            rw [hv] at h2; cases h2
            cases d' with
            | some d => exact ⟨rfl, v, rfl, rv⟩
            | none => exact ⟨rfl, a, _, by rw [show v = _ from rv], rfl, rfl⟩
          · rw [List.getElem?_append_right (by rw [List.length_map]; omega), List.length_map, List.getElem?_replicate] at h1
            by_cases c2 : i - ds.length < N.length - ds.length
            · rw [if_pos c2] at h1; cases h1; rfl
            · rw [if_neg c2] at h1; cases h1
/-- the end of a drawing def's proof -/
theorem fin_draw {N : List Str} {n : Nat} {pre : SK → List (Option D) → Int → D → Int → Prop} {vs : List V} {H : Hp} {Q : VK} {E : XK} (h : spS K n .dat pre vs H Q E)
    (hb : ∀ q ds k r k', pre q ds k r k' → ∃ (ρ : Type) (_ : Enc ρ) (x : Sm (Fl Empty Empty ρ)) (z : ρ) (W : Wr), EvS K W ts (sdS N.length q ds) noEnd noEnd x ∧ x k = some (.rt z, k') ∧ enc z = r) : ts { nx := fun _ H' => Q .non H', rt := Q } (L2.start N vs) H := by
  obtain ⟨B, a, q0, ds, k, r, k', hp, hn, g, hS, rs, q⟩ := h
  obtain ⟨ρ, i, x, z, W, hx, ex, rfl⟩ := hb _ ds k r k' hp
  refine hx _ _ B H k (Rel.initS g hS rs) (.rt z) k' ex _ fun v σ' B' H' sd' R' g' rv => ?_
  exact q v B' H' [] R'.b0 R'.bh (fun b o ne e => R'.fr b o e fun s es z => by cases es; exact ne z.symm) (R'.st _ rfl) (fun b o e e0 => R'.bn b o e e0) ⟨rfl, rv⟩ .nil fun _ m => nomatch m
theorem fin_drawF {N : List Str} {n : Nat} {s : Sh} {pre : SK → List (Option D) → Int → D → Int → Prop} {vs : List V} {H : Hp} {Q : VK} {E : XK} (h : spS K n s pre vs H Q E)
    (hb : ∀ q ds k r k', pre q ds k r k' → ∃ (ρ : Type) (_ : Enc ρ) (x : Sm (Fl Empty Empty (Fw s ρ))) (z : ρ) (W : Wr), EvS K W ts (sdS N.length q ds) noEnd noEnd x ∧ x k = some (.rt ⟨z⟩, k') ∧ enc z = r) : ts { nx := fun _ H' => Q .non H', rt := Q } (L2.start N vs) H := by
  obtain ⟨B, a, q0, ds, k, r, k', hp, hn, g, hS, rs, q⟩ := h
  obtain ⟨ρ, i, x, z, W, hx, ex, rfl⟩ := hb _ ds k r k' hp
  refine hx _ _ B H k (Rel.initS g hS rs) (.rt ⟨z⟩) k' ex _ fun v σ' B' H' sd' R' g' => ?_
  obtain ⟨f, w, nd, hf, _⟩ := R'.top
  exact q v B' H' f R'.b0 R'.bh (fun b o ne e => R'.fr b o e fun s es z => by cases es; exact ne z.symm) (R'.st _ rfl) (fun b o e e0 => R'.bn b o e e0) w nd fun a m => ⟨(hf a m).1, (hf a m).2.1⟩
/-- a state begins -/
theorem Rel.begin_ {F : Fr} {σ : L2.St} {B H B' H' : Hp} {k k0 : Int} {p : Addr} {q : Sa} {i : Nat} (R : Rel K F σ B H sd k) (hs : F.sa = none) (hp : H p = none) (g1 : Gr B B') (g2 : Gr B' H') (g3 : Gr H H') (hn : ∀ a o, B' a = some o → B a = none → H a = none) (hS : StAt K B' H' p q k0) (hi : i < sd.length) :
    Rel K { F with sa := some (p, q) } (σ.set i (some (.ref p))) B' H' (sd.set i (.sr q.q)) k0 := by
  have R1 := (R.called g1 g2 g3 hn).setUn (i := i) (o' := some (.ref p))
  obtain ⟨g0, p0⟩ := (R.setUn (i := i) (o' := some (.ref p))).pool
  obtain ⟨g, pl⟩ := R1.pool
  have lo : i < σ.length := by rw [← R.len]; exact hi
  have h0 := R.h0free hp
  refine ⟨by rw [List.length_set, List.length_set]; exact R.len, R1.bh, R1.b0, R1.bn, fun b o e _ => R1.fr b o e (fun s es => by rw [hs] at es; cases es), fun s e => by cases e; exact hS, ?_⟩
  -- the pool of before, with the new state's slot
  have key : ∃ g, Pool K F (σ.set i (some (.ref p))) B' H' (sd.set i .un) g ∧ ∀ x a, a ∈ g x → a ≠ p := by
    refine ⟨_, p0.move (F' := F) (B' := B') (H' := H') (fun _ => false) g0 g1 rfl rfl (fun _ _ => rfl) (fun x b _ m => ?_) (fun _ _ e => nomatch e) (fun _ e => nomatch e) (fun _ e => nomatch e) (fun _ _ _ e => nomatch e) (fun _ _ e => nomatch e), fun x a m z => ?_⟩
    · have hs2 := p0.inH x b m
      refine ⟨?_, ?_⟩
      · cases e : H b with
        | none => exact absurd e hs2
        | some o => exact g3 b o e
      · cases h : B' b with
        | none => rfl
        | some u => exact absurd (hn b u h (p0.b x b m)) hs2
    · have m2 : a ∈ g0 x := m
      exact p0.inH x a m2 (z ▸ hp)
  obtain ⟨g, pl, np⟩ := key
  refine ⟨g, fun x c e => ?_, fun x e => ?_, pl.nd, pl.dj, pl.b, pl.h0, fun x a m s e => by cases e; exact fun z => np x a m z.symm⟩
  · by_cases hx : x = .inl i
    · subst hx
      rw [show cell { F with sa := some (p, q) } (σ.set i (some (.ref p))) (sd.set i (.sr q.q)) (.inl i) = cell F (σ.set i (some (.ref p))) (sd.set i (.sr q.q)) (.inl i) from rfl, cell_set hi lo] at e
      cases e
      have z := pl.ok (.inl i) _ (cell_set hi lo)
      exact ⟨z, p, q, rfl, rfl, rfl⟩
    · have e2 : cell F (σ.set i (some (.ref p))) (sd.set i .un) x = some c := by
        rw [cell_set_ne hx]
        rw [show cell { F with sa := some (p, q) } (σ.set i (some (.ref p))) (sd.set i (.sr q.q)) x = cell F (σ.set i (some (.ref p))) (sd.set i (.sr q.q)) x from by cases x <;> rfl, cell_set_ne hx] at e
        exact e
      have z := pl.ok x c e2
      obtain ⟨o, d⟩ := c
      cases d with
      | un => exact z
      | dat d => exact z
      | own s d => exact z
      | sr q2 => obtain ⟨_, a, _, _, hz, _⟩ := z; rw [hs] at hz; cases hz
  · refine pl.no x ?_
    by_cases hx : x = .inl i
    · subst hx
      rw [show cell { F with sa := some (p, q) } (σ.set i (some (.ref p))) (sd.set i (.sr q.q)) (.inl i) = cell F (σ.set i (some (.ref p))) (sd.set i (.sr q.q)) (.inl i) from rfl, cell_set hi lo] at e
      cases e
    · rw [show cell { F with sa := some (p, q) } (σ.set i (some (.ref p))) (sd.set i (.sr q.q)) x = cell F (σ.set i (some (.ref p))) (sd.set i (.sr q.q)) x from by cases x <;> rfl, cell_set_ne hx] at e
      rw [cell_set_ne hx]; exact e
variable [Enc ρ]
/-- a body that begins a state of its own: no state ahead -/
def EvS0 (K : PySem.W.Frag) (ts : TS) (sd : List SD) (x : Sm (Fl Empty Empty ρ)) : Prop := ∀ (F : Fr) (σ : L2.St) (B H : Hp) (k : Int), F.sa = none → Rel K F σ B H sd k → ∀ (r : ρ) (k' : Int), x k = some (.rt r, k') →
  ∀ D : Ends, (∀ v B' H', Gr B B' → Gr B' H' → (∀ a o, B' a = some o → F.B0 a = none → F.H0 a = none) → (∀ a o, F.H0 a = some o → H' a = some o) → Rp K B' v (enc r) → D.rt v H') → ts D σ H
theorem es0_of {x : Sm (Fl Empty Empty ρ)} (h : EvS K W0 ts sd noEnd noEnd x) : EvS0 K ts sd x := fun F σ B H k hs R r k' e D q =>
  h F σ B H k R (.rt r) k' e D fun v σ' B' H' sd' R' g rv => q v B' H' g R'.bh (fun a o e e0 => R'.bn a o e e0) (fun a o e => R'.fr a o e fun s es => by rw [hs] at es; cases es) rv
theorem es0_set [Enc α] {i : Nat} {x : Sm α} {f : α → Sm (Fl Empty Empty ρ)} (h : EvM K te sd x) (hf : ∀ a, EvS0 K tu (sd.set i (.dat (enc a))) (f a)) : EvS0 K (tSeq (tAsg te (gName i)) tu) sd (Mn.bnd x f) := fun F σ B H k hs R r k' e D q => by
  obtain ⟨a, k1, e1, e2⟩ := bnd_some (m := Sm) e
  exact h F σ B H k R a k1 e1 _ fun v B' H' R' g rv => hf a F _ B' H' k1 hs (R'.setDat rv) r k' e2 D fun v' B2 H2 g2 => q v' B2 H2 (g.trans g2)
theorem es0_tgt [Enc α] {g : TG} {x : Sm α} {sd1 : α → List SD} {is : List Nat} {f : α → Sm (Fl Empty Empty ρ)} (h : EvM K te sd x) (hg : ∀ a, EvG K g sd a (sd1 a) is) (hf : ∀ a, EvS0 K tu (sd1 a) (f a)) : EvS0 K (tSeq (tAsg te g) tu) sd (Mn.bnd x f) := fun F σ B H k hs R r k' e D q => by
  obtain ⟨a, k1, e1, e2⟩ := bnd_some (m := Sm) e
  exact h F σ B H k R a k1 e1 _ fun v B' H' R' g' rv => hg a F σ B' H' k1 v R' rv _ fun σ' R2 _ => hf a F _ B' H' k1 hs R2 r k' e2 D fun v' B2 H2 g2 => q v' B2 H2 (g'.trans g2)
theorem es0_seq {mid : τ → List SD} {x : Sm (Fl τ Empty ρ)} {f : τ → Sm (Fl Empty Empty ρ)} (h : EvS K W0 ts sd mid noEnd x) (hf : ∀ t, EvS0 K tu (mid t) (f t)) : EvS0 K (tSeq ts tu) sd (andThen x f) := fun F σ B H k hs R r k' e D q => by
  unfold andThen at e
  obtain ⟨a, k1, e1, e2⟩ := bnd_some (m := Sm) e
  refine h F σ B H k R a k1 e1 _ ?_
  cases a with
  | nx t => exact fun σ' B' H' R' g => hf t F σ' B' H' k1 hs R' r k' e2 D fun v' B2 H2 g2 => q v' B2 H2 (g.trans g2)
  | bk t => exact t.elim
  | ct t => exact t.elim
  | rt t =>
    obtain ⟨e3, rfl⟩ := pur_some (m := Sm) e2
    cases e3
    exact fun v σ' B' H' sd' R' g rv => q v B' H' g R'.bh (fun a o e e0 => R'.bn a o e e0) (fun a o e => R'.fr a o e fun s es => by rw [hs] at es; cases es) rv
/-- a new state's promise: of the cells (a list that is read), a state with so many draws made, with names -/
def spB (K : PySem.W.Frag) (ok : List Int → List Str → Int → Prop) : Sp := fun vs H Q _ => ∃ (B : Hp) (a : Addr) (c : List Int), vs = [.ref a] ∧ c.length ≤ 1000 ∧ Gr B H ∧ SqL K B a (c.map V.int) ∧
  ∀ p B' H' ns k cp nv, Gr B B' → Gr B' H' → Gr H H' → (∀ b o, B' b = some o → B b = none → H b = none) → H p = none → StAt K B' H' p ⟨.run c (some ns), cp, nv⟩ k → ok c ns k → Q (.ref p) H'
/-- what a new state brings -/
def beg (ok : List Int → List Str → Int → Prop) (bg : List Int → Option (List Str × Int)) : Prop := ∀ c ns k, ok c ns k → bg c = some (ns, k)
class Cells (α : Type) [Enc α] where
  cells : α → List Int
  at_ : ∀ {K : PySem.W.Frag} {B : Hp} {v : V} {a : α}, Rp K B v (enc a) → ∃ p, v = .ref p ∧ SqL K B p ((cells a).map V.int)
instance : Cells Sc := ⟨Sc.ns, fun r => Rp.scr_inv r⟩
instance : Cells (List Int) := ⟨id, fun {K B v a} r => by
  obtain ⟨p, xs, rfl, hp, hs⟩ := Rp.lst_inv r
  have z := Rps.ints (ns := a) hs
  subst z
  exact ⟨p, rfl, SqL.of hp⟩⟩
/-- the rest of a body, over a new state; what it draws first is told by bg -/
def begun (bg : List Int → Option (List Str × Int)) (c : List Int) (f : List Str → Sm (Fl Empty Empty ρ)) : Sm (Fl Empty Empty ρ) := fun _ => if c.length ≤ 1000 then (bg c).bind fun p => f p.1 p.2 else none
theorem es_begun [Enc α] [Cells α] {i : Nat} {E : XK} {ok : List Int → List Str → Int → Prop} {bg : List Int → Option (List Str × Int)} {a : α} {f : List Str → Sm (Fl Empty Empty ρ)} {j : Nat} (hj : sd[j]? = some (.dat (enc a))) (hi : i < sd.length) (hok : beg ok bg)
    (hf : ∀ ns, EvS K W0 tu (sd.set i (.sr (.run (Cells.cells a) (some ns)))) noEnd noEnd (f ns)) : EvS0 K (tSeq (tAsg (tCall (spB K ok) [] E (tCons (tVar j) tNil)) (gName i)) tu) sd (begun bg (Cells.cells a) f) := fun F σ B H k hs R r k' e D q => by
  obtain ⟨v, ho, ra⟩ := R.dat hj
  obtain ⟨p, rfl, hp⟩ := Cells.at_ ra
  unfold begun at e
  by_cases hl : (Cells.cells a).length ≤ 1000
  · rw [if_pos hl] at e
    refine ⟨_, ho, B, p, Cells.cells a, rfl, hl, R.bh, hp, fun st B' H' ns k0 cp nv g1 g2 g3 hn hfree hS ho2 => ?_⟩
    have eb := hok _ _ _ ho2
    rw [eb] at e
    have R2 := R.begin_ hs hfree g1 g2 g3 hn hS hi
    have fr := R.h0free hfree
    refine hf ns _ _ B' H' k0 R2 (.rt r) k' e D fun v' σ' B2 H2 sd' R' g' rv => ?_
    exact q v' B2 H2 (g1.trans g') R'.bh (fun b o e e0 => R'.bn b o e e0) (fun b o e => R'.fr b o e fun s es z => by
      cases es
      have e2 : F.H0 b = some o := e
      rw [← show st = b from z, fr.1] at e2; cases e2) rv
  · rw [if_neg hl] at e; cases e
/-- a state of digits: name = {'left': e} -/
def begL (x : Sm Int) (f : Sm (Fl Empty Empty ρ)) : Sm (Fl Empty Empty ρ) := fun k => (x k).bind fun p => f p.1
theorem es_begL {i : Nat} {x : Sm Int} {f : Sm (Fl Empty Empty ρ)} (h : EvM K te sd x) (hi : i < sd.length) (hf : EvS K W0 tu (sd.set i (.sr .left)) noEnd noEnd f) :
    EvS0 K (tSeq (tAsg (tDisp [(tC (.str "left"), te)]) (gName i)) tu) sd (begL x f) := fun F σ B H k hs R r k' e D q => by
  unfold begL at e
  obtain ⟨pp, e1, e2⟩ := Option.bind_eq_some_iff.mp e
  obtain ⟨k0, k1⟩ := pp
  intro p hp
  have R0 := R.newD (ks := []) (vs := []) (ds := []) hp rfl .nil
  refine h (F.push (.ref p) (.dic .dat) (.dic [] [])) σ B _ k R0 k0 k1 e1 _ fun v B1 H1 R1 g1 r1 => ?_
  rw [Rp.int_inv r1]
  obtain ⟨fp, w, nd, hfp, q1⟩ := R1.top
  obtain ⟨a, ks, vs, ds, ea, ed, rfl, hl, hH, hv⟩ := ow_dicd.mp w
  cases ea
  cases ed
  have ev : vs = [] := List.length_eq_zero_iff.mp hl.symm
  subst ev
  have hb := (hfp p (List.mem_singleton.mpr rfl)).1
  refine ⟨hH, [(.inr "left", .int k0)], rfl, (by decide : 1 ≤ 15), ?_⟩
  have m1 : mergeK [] [((.inr "left" : Key), V.int k0)] = [(.inr "left", .int k0)] := rfl
  rw [m1]
  -- a heap from which the new dict is taken away
  let H2 : Hp := fun b => if b = p then none else H1 b
  have e2p : H2 p = none := by show (if p = p then none else H1 p) = none; rw [if_pos rfl]
  have e2n : ∀ b, b ≠ p → H2 b = H1 b := fun b ne => by show (if b = p then none else H1 b) = _; rw [if_neg ne]
  have gB2 : Gr B1 H2 := fun b o eo => by
    have ne : b ≠ p := fun z => by rw [z, hb] at eo; cases eo
    rw [e2n b ne]; exact R1.bh b o eo
  have RA := (q1 B1 H2 (fun a u na e => by rw [e2n a (fun z => na (List.mem_singleton.mpr z))]; exact e) (Gr.refl _) gB2 fun a u e e0 => by rw [e] at e0; cases e0).1
  have gH2 : Gr H2 (upd H1 p (.dK [(.inr "left", .int k0)])) := fun b o eo => by
    have ne : b ≠ p := fun z => by rw [z, e2p] at eo; cases eo
    rw [upd_ne ne, ← e2n b ne]; exact eo
  have R2 := RA.begin_ (k0 := k0) (q := ⟨.left, p, none⟩) hs e2p (Gr.refl _) (R1.bh.mut hb) gH2 (fun a u e e0 => by rw [e] at e0; cases e0) ⟨hb, upd_same⟩ hi
  have fr := R.h0free hp
  refine hf _ _ B1 _ k0 R2 (.rt r) k' e2 D fun v' σ' B2 H3 sd' R' g' rv => ?_
  exact q v' B2 H3 (g1.trans g') R'.bh (fun b o e e0 => R'.bn b o e e0) (fun b o e => R'.fr b o e fun s es z => by
    cases es
    have e3 : F.H0 b = some o := e
    rw [← show p = b from z, fr.1] at e3; cases e3) rv
theorem fin_pure0 {N : List Str} {n : Nat} {pre : List D → D → Prop} {vs : List V} {H : Hp} {Q : VK} {E : XK} (h : spP K n .dat pre vs H Q E)
    (hb : ∀ ds r, pre ds r → ∃ (ρ : Type) (_ : Enc ρ) (x : Sm (Fl Empty Empty ρ)) (z : ρ) (k' : Int), EvS0 K ts (sd0 N.length ds) x ∧ x 0 = some (.rt z, k') ∧ enc z = r) : ts { nx := fun _ H' => Q .non H', rt := Q } (L2.start N vs) H := by
  obtain ⟨B, ds, r, hp, hn, g, rs, q⟩ := h
  obtain ⟨ρ, i, x, z, k', hx, ex, rfl⟩ := hb ds r hp
  refine hx ⟨H, B, none, []⟩ _ B H 0 rfl (Rel.init g rs) z k' ex _ fun v B' H' g1 g2 hn hk rv => ?_
  exact q v B' H' [] g1 g2 hk (fun a o e e0 => hn a o e e0) ⟨rfl, rv⟩ .nil fun _ m => nomatch m
def fin0 {ρ : Type} (x : Sm (Fl Empty Empty ρ)) : Option ρ := (finS x 0).map (·.1)
theorem fin0_some {ρ : Type} [Enc ρ] {x : Sm (Fl Empty Empty ρ)} {r : ρ} (h : fin0 x = some r) : ∃ k', x 0 = some (.rt r, k') := by
  unfold fin0 at h
  obtain ⟨p, hp, rfl⟩ := Option.map_eq_some_iff.mp h
  exact ⟨p.2, finS_some hp⟩
/-- state['names'] -/
theorem em_names {i : Nat} {c : List Int} {ns : List Str} (hi : sd[i]? = some (.sr (.run c (some ns)))) : EvM K (tDGet (tVar i) (tC (.str "names"))) sd (Mn.pur ns : Sm (List Str)) := fun F σ B H k R b k' e Q q => by
  obtain ⟨rfl, rfl⟩ := pur_some (m := Sm) e
  obtain ⟨o, _, ho, ⟨_, a, ⟨_, ca, nv⟩, rfl, hs, rfl⟩, _⟩ := R.slot hi
  obtain ⟨hb, hh, hq, hn⟩ := R.st _ hs
  cases nv with
  | none => exact hn.elim
  | some n =>
    have gg := DGet.k (k := .inr "names") hh
    rw [st_names] at gg
    exact ⟨_, ho, a, n, rfl, gg, q n B H R (Gr.refl B) hn⟩
end
end ON

set_option Elab.async false
set_option linter.all false
set_option maxRecDepth 100000
set_option maxHeartbeats 2000000
namespace ON
open PySem PySem.Spec PyProof.Rows L2
def sdA (n : Nat) (c : List Int) : List SD := .un :: .sr (.run c none) :: List.replicate n .un
def bgM (x2 : List Int → Sm Str) (x3 : List Int → Str → Sm Int) (x4 : List Int → Str → Int → Sm (List Str)) (c : List Int) : Sm (List Str) := Mn.bnd (x2 c) fun r => Mn.bnd (x3 c r) fun a => x4 c r a
def tBg (te2 te3 te4 : TE) (i2 i3 : Nat) : TS := tSeq (tAsg (tDisp [(tC (.str "cells"), tVar 0), (tC (.str "at"), tC (.int 0))]) (gName 1)) (tSeq (tAsg te2 (gName i2)) (tSeq (tAsg te3 (gName i3)) (tSeq (sDPut (tVar 1) (tC (.str "names")) te4) (tSeq (tRet (tVar 1)) tNext))))
theorem run_begun {K : PySem.W.Frag} {te2 te3 te4 : TE} {i2 i3 n : Nat} {x2 : List Int → Sm Str} {x3 : List Int → Str → Sm Int} {x4 : List Int → Str → Int → Sm (List Str)} {N : List Str} (hN : N.length = n + 2) (hi2 : i2 ≠ 1) (hi3 : i3 ≠ 1)
    (h2 : ∀ c, EvM K te2 (sdA n c) (x2 c)) (h3 : ∀ c r, EvM K te3 ((sdA n c).set i2 (.dat (enc r))) (x3 c r)) (h4 : ∀ c r a, EvF K (.lst .dat) te4 (((sdA n c).set i2 (.dat (enc r))).set i3 (.dat (enc a))) (x4 c r a))
    (tot : ∀ c : List Int, c.length ≤ 1000 → ∃ ns k, bgM x2 x3 x4 c 0 = some (ns, k)) {vs : List V} {H : Hp} {Q : VK} {E : XK} (h : spB K (fun c ns k => bgM x2 x3 x4 c 0 = some (ns, k)) vs H Q E) :
    tBg te2 te3 te4 i2 i3 { nx := fun _ H' => Q .non H', rt := Q } (L2.start N vs) H := by
  obtain ⟨B, a, c, rfl, hl, g, hq, q⟩ := h
  obtain ⟨ns, k, hb⟩ := tot c hl
  have hb0 := hb
  unfold bgM at hb
  obtain ⟨r, k2, e2, e⟩ := bnd_some (m := Sm) hb
  obtain ⟨z, k3, e3, e4⟩ := bnd_some (m := Sm) e
  have hst : L2.start N [.ref a] = some (.ref a) :: none :: List.replicate n none := by
    unfold L2.start
    show some (V.ref a) :: List.replicate (N.length - 1) none = _
    rw [hN]; rfl
  rw [hst]
  intro p hp
  refine ⟨_, rfl, upd_same, [(.inr "cells", .ref a), (.inr "at", .int 0)], rfl, (by decide : 2 ≤ 15), ?_⟩
  rw [upd_upd]
  have ek : mergeK [] [((.inr "cells" : Key), V.ref a), (.inr "at", .int 0)] = stKvs (.ref a) 0 none := rfl
  rw [ek]
  show tSeq _ _ _ (some (V.ref a) :: some (V.ref p) :: List.replicate n none) _
  have nb : B p = none := g.back hp
  have gB : Gr B (upd H p (.dK (stKvs (.ref a) 0 none))) := g.mut nb
  have R00 : Rel K ⟨H, B, none, []⟩ (some (V.ref a) :: none :: List.replicate n none) B H (SD.un :: SD.un :: List.replicate n SD.un) 0 := by
    refine ⟨by simp, g, Gr.refl B, fun b o e e0 => ?_, fun b o e _ => e, fun s e => (nomatch e), fun _ => [], fun x cc e => ?_, fun _ _ => rfl, fun _ => .nil, fun _ _ _ m => (nomatch m), fun _ _ m => (nomatch m), fun _ _ m => (nomatch m), fun _ _ m => (nomatch m)⟩
    · have e1 : B b = none := e0
      rw [e] at e1; cases e1
    · have un : ∀ (i : Nat) (d : SD), (SD.un :: SD.un :: List.replicate n SD.un)[i]? = some d → d = .un := fun i d e => by
        match i, e with
        | 0, e => cases e; rfl
        | 1, e => cases e; rfl
        | i + 2, e =>
          have e : (List.replicate n SD.un)[i]? = some d := e
          rw [List.getElem?_replicate] at e
          by_cases c2 : i < n
          · rw [if_pos c2] at e; cases e; rfl
          · rw [if_neg c2] at e; cases e
      cases x with
      | inr j => simp [cell] at e
      | inl i =>
        simp only [cell] at e
        cases h1 : (SD.un :: SD.un :: List.replicate n SD.un)[i]? with
        | none => rw [h1] at e; cases e
        | some d =>
          have := un i d h1
          subst this
          rw [h1] at e
          cases h2 : (some (V.ref a) :: none :: List.replicate n none)[i]? with
          | none => rw [h2] at e; cases e
          | some o => rw [h2] at e; cases e; rfl
  have R0 := R00.begin_ (i := 1) (q := ⟨.run c none, a, none⟩) (k0 := 0) (H' := upd H p (.dK (stKvs (.ref a) 0 none))) rfl hp (Gr.refl B) gB (Gr.new hp) (fun b o e e0 => by rw [e] at e0; cases e0) ⟨nb, upd_same, hq, trivial⟩ (by simp)
  have R0 : Rel K ⟨H, B, some (p, ⟨.run c none, a, none⟩), []⟩ (some (V.ref a) :: some (V.ref p) :: List.replicate n none) B (upd H p (.dK (stKvs (.ref a) 0 none))) (sdA n c) 0 := R0
  refine h2 c _ _ B _ 0 R0 r k2 e2 _ fun v2 B2 H2 R2 g2 r2 => ?_
  refine h3 c r _ _ B2 H2 k2 (R2.setDat r2) z k3 e3 _ fun v3 B3 H3 R3 g3 r3 => ?_
  have R3' := R3.setDat (i := i3) r3
  refine h4 c r z _ _ B3 H3 k3 R3' ns k e4 _ fun w B4 H4 R4 g4 => ?_
  obtain ⟨B5, R5, g5, rw5⟩ := R4.frzX rfl
  have s1 : ∀ (σ : L2.St) (x y : Option V), σ[1]? = some (some (.ref p)) → ((σ.set i2 x).set i3 y)[1]? = some (some (.ref p)) := fun σ x y hs => by
    rw [List.getElem?_set_ne hi3, List.getElem?_set_ne hi2]; exact hs
  have s0 := s1 (some (V.ref a) :: some (V.ref p) :: List.replicate n none) (some v2) (some v3) rfl
  obtain ⟨b5, hh, hq4, hn4⟩ := R5.st _ rfl
  refine ⟨_, s0, p, _, rfl, DPut.k (k := .inr "names") hh (by exact (by decide : 2 < sizeLine)), ?_⟩
  rw [st_putN]
  refine ⟨_, s0, ?_⟩
  refine q p B5 _ ns k a (some w) (((g2.trans g3).trans g4).trans g5) (R5.bh.mut b5) (fun b o e => ?_) (fun b o e e0 => R5.bn b o e e0) hp ⟨b5, upd_same, hq4, ?_⟩ hb0
  · rw [upd_ne (ne_of_none e hp)]
    exact R5.fr b o e fun s es z => by
      cases es
      rw [← show p = b from z, hp] at e; cases e
  · exact rw5
end ON

set_option Elab.async false
set_option linter.all false
set_option maxRecDepth 100000
set_option maxHeartbeats 1000000
/-! the mathematics of mirrors: how they are read -/
namespace ON
open PySem PySem.Spec PyProof.Rows L2
section
variable {α β τ l ρ : Type}
theorem pbO (a : α) (f : α → Option β) : Mn.bnd (Mn.pur a) f = f a := by rw [bnd_opt, pur_opt]; rfl
theorem sbO (a : α) (f : α → Option β) : Mn.bnd (some a) f = f a := by rw [bnd_opt]; rfl
theorem pbS (a : α) (f : α → Sm β) : Mn.bnd (Mn.pur a) f = f a := by funext k; rw [bnd_sm, pur_sm]; rfl
theorem gd_y {m : Type → Type} [Mn m] {p : Prop} [Decidable p] (h : p) (x : m α) : gd p x = x := by unfold gd; rw [if_pos h]
theorem liftO (o : Option α) : (lift o : Option α) = o := by
  cases o with
  | none => unfold lift; exact fl_opt
  | some a => unfold lift; exact pur_opt a
theorem cnd_t {ω : Type} (x y : ω) : cnd true x y = x := rfl
theorem cnd_f {ω : Type} (x y : ω) : cnd false x y = y := rfl
theorem andThen_nx {τ' : Type} (t : τ) (f : τ → Option (Fl τ' l ρ)) : andThen (some (.nx t)) f = f t := by unfold andThen; rw [bnd_opt]; rfl
theorem andThen_rt {τ' : Type} (r : ρ) (f : τ → Option (Fl τ' l ρ)) : andThen (some (.rt r)) f = some (.rt r) := by unfold andThen; rw [bnd_opt]; exact pur_opt _
theorem andThen_bk {τ' : Type} (r : l) (f : τ → Option (Fl τ' l ρ)) : andThen (some (.bk r)) f = some (.bk r) := by unfold andThen; rw [bnd_opt]; exact pur_opt _
theorem andThen_ct {τ' : Type} (r : l) (f : τ → Option (Fl τ' l ρ)) : andThen (some (.ct r)) f = some (.ct r) := by unfold andThen; rw [bnd_opt]; exact pur_opt _
theorem fin_rt [Enc ρ] (r : ρ) : fin (some (.rt r)) = some r := rfl
/-- a while's turn, a while's end -/
theorem whl_go {c : τ → Option Bool} {b : τ → Option (Fl τ τ ρ)} {n : Nat} {t t' : τ} (h : c t = some true) (hb : b t = some (.nx t')) : (whl c b (n + 1) t : Option (Fl τ l ρ)) = whl c b n t' := by
  rw [whl_succ, h, sbO]; show Mn.bnd (b t) _ = _; rw [hb, sbO]
theorem whl_end {c : τ → Option Bool} {b : τ → Option (Fl τ τ ρ)} {n : Nat} {t : τ} (h : c t = some false) : (whl c b (n + 1) t : Option (Fl τ l ρ)) = some (.nx t) := by
  rw [whl_succ, h, sbO]; exact pur_opt _
/-- a while by its measure: an invariant, a turn, an end -/
theorem whl_inv {c : τ → Option Bool} {b : τ → Option (Fl τ τ ρ)} (I : τ → Prop) (mu : τ → Nat) (fin : τ → τ) (hgo : ∀ t, I t → c t = some true → ∃ t', b t = some (.nx t') ∧ I t' ∧ mu t' < mu t ∧ fin t' = fin t) (hc : ∀ t, I t → c t = some true ∨ (c t = some false ∧ fin t = t)) :
    ∀ (n : Nat) (t : τ), I t → mu t < n → (whl c b n t : Option (Fl τ l ρ)) = some (.nx (fin t)) := by
  intro n
  induction n with
  | zero => intro t _ h; omega
  | succ n ih =>
    intro t it hm
    rcases hc t it with h | ⟨h, e⟩
    · obtain ⟨t', hb, it', hl, hf⟩ := hgo t it h
      rw [whl_go h hb, ih t' it' (by omega), hf]
    · rw [whl_end h, e]
/-- the same, the end told by the invariant -/
theorem whl_ex {c : τ → Option Bool} {b : τ → Option (Fl τ τ ρ)} (I : τ → Prop) (mu : τ → Nat) (hgo : ∀ t, I t → c t = some true → ∃ t', b t = some (.nx t') ∧ I t' ∧ mu t' < mu t) (hc : ∀ t, I t → c t = some true ∨ c t = some false) :
    ∀ (n : Nat) (t : τ), I t → mu t < n → ∃ t', (whl c b n t : Option (Fl τ l ρ)) = some (.nx t') ∧ I t' ∧ c t' = some false := by
  intro n
  induction n with
  | zero => intro t _ h; omega
  | succ n ih =>
    intro t it hm
    rcases hc t it with h | h
    · obtain ⟨t', hb, it', hl⟩ := hgo t it h
      rw [whl_go h hb]
      exact ih t' it' (by omega)
    · exact ⟨t, whl_end h, it, h⟩
theorem andThen_whl {τ' : Type} {c : τ → Option Bool} {b : τ → Option (Fl τ τ ρ)} {f : τ → Option (Fl τ' l ρ)} {r : Option (Fl τ' l ρ)} (I : τ → Prop) (mu : τ → Nat) {n : Nat} {t : τ} (it : I t) (ht : mu t < n)
    (hgo : ∀ t, I t → c t = some true → ∃ t', b t = some (.nx t') ∧ I t' ∧ mu t' < mu t) (hc : ∀ t, I t → c t = some true ∨ c t = some false) (hf : ∀ t, I t → c t = some false → f t = r) : andThen (whl c b n t) f = r := by
  obtain ⟨t', e, i2, h2⟩ := whl_ex (l := l) I mu hgo hc n t it ht
  rw [e, andThen_nx]
  exact hf t' i2 h2
/-- for and comprehension over Option -/
theorem forL_all {b : τ → α → Option (Fl τ τ ρ)} {f : τ → α → τ} : ∀ (xs : List α) (t : τ) (I : τ → Prop), I t → (∀ t x, I t → x ∈ xs → b t x = some (.nx (f t x)) ∧ I (f t x)) → (forL b xs t : Option (Fl τ l ρ)) = some (.nx (xs.foldl f t)) := by
  intro xs
  induction xs with
  | nil => intro t I _ _; rw [forL_nil]; exact pur_opt _
  | cons x xs ih =>
    intro t I it h
    obtain ⟨e, i2⟩ := h t x it (.head _)
    rw [forL_cons, e, sbO]
    exact ih (f t x) I i2 fun t y it hy => h t y it (.tail _ hy)
theorem compL_map {p : α → Option Bool} {g : α → Option β} {f : α → β} : ∀ xs : List α, (∀ x ∈ xs, p x = some true ∧ g x = some (f x)) → compL p g xs = some (xs.map f) := by
  intro xs
  induction xs with
  | nil => intro _; rw [compL_nil]; exact pur_opt _
  | cons x xs ih =>
    intro h
    obtain ⟨h1, h2⟩ := h x (.head _)
    rw [compL_cons, h1, sbO]
    show Mn.bnd (g x) _ = _
    rw [h2, sbO, ih fun y hy => h y (.tail _ hy), sbO]; exact pur_opt _
/-! ### == of values -/
section
open PyData
/-- values whose == is told by Lean's own -/
class EqD (α : Type) [Enc α] where
  dec : DecidableEq α
  ok : α → Bool
  dp : Nat
  pl : ∀ a : α, (enc a).pl = true
  lay : ∀ a : α, ok a = true → canLay0 (enc a).py = true
  dep : ∀ a : α, depth (enc a).py ≤ dp
  eq : ∀ a b : α, PyData.eqv (enc a).py (enc b).py = @decide (a = b) (dec a b)
instance EqD.decInst {α : Type} [Enc α] [EqD α] : DecidableEq α := EqD.dec
theorem EqD.shp {α : Type} [Enc α] [EqD α] (a : α) (h : EqD.ok a = true) (hd : EqD.dp α ≤ 64 := by decide) : Shp (enc a) = true := by
  unfold Shp SeqAt.shaped
  rw [Bool.and_eq_true, Bool.and_eq_true]
  exact ⟨⟨EqD.lay a h, decide_eq_true (Nat.le_trans (EqD.dep a) hd)⟩, EqD.pl a⟩
theorem EqD.deqv {α : Type} [Enc α] [EqD α] (a b : α) : ON.deqv (enc a) (enc b) = @decide (a = b) (EqD.dec a b) := EqD.eq a b
instance : EqD Int where
  dec := inferInstance
  ok _ := true
  dp := 0
  pl _ := rfl
  lay _ _ := rfl
  dep _ := Nat.le_refl 0
  eq a b := by
    show (a == b) = decide (a = b)
    by_cases h : a = b
    · subst h; simp
    · simp [h]
instance : EqD Bool where
  dec := inferInstance
  ok _ := true
  dp := 0
  pl _ := rfl
  lay _ _ := rfl
  dep _ := Nat.le_refl 0
  eq a b := by cases a <;> cases b <;> rfl
instance : EqD Str where
  dec := inferInstance
  ok x := strOk x
  dp := 0
  pl _ := rfl
  lay a h := by show canLay0 (.str a) = true; rw [canLay0]; exact h
  dep _ := Nat.le_refl 0
  eq a b := by
    show (a == b) = decide (a = b)
    by_cases h : a = b
    · subst h; simp
    · rw [decide_eq_false h]; simpa using h
theorem pys_map {α : Type} [Enc α] (xs : List α) : D.pys (xs.map enc) = xs.map fun a => (enc a).py := by
  induction xs with
  | nil => rfl
  | cons x xs ih => rw [List.map_cons, D.pys, ih]; rfl
theorem pls_map {α : Type} [Enc α] [EqD α] (xs : List α) : D.pls (xs.map enc) = true := by
  induction xs with
  | nil => rfl
  | cons x xs ih => rw [List.map_cons, D.pls, EqD.pl, ih]; rfl
theorem lay_map {α : Type} [Enc α] [EqD α] (xs : List α) (h : xs.all EqD.ok = true) : canLayAll0 (D.pys (xs.map enc)) = true := by
  induction xs with
  | nil => rfl
  | cons x xs ih =>
    rw [List.all_cons, Bool.and_eq_true] at h
    rw [List.map_cons, D.pys, canLayAll0, EqD.lay x h.1, ih h.2]; rfl
theorem dep_map {α : Type} [Enc α] [EqD α] (xs : List α) : depthAll (D.pys (xs.map enc)) ≤ EqD.dp α := by
  induction xs with
  | nil => exact Nat.zero_le _
  | cons x xs ih =>
    rw [List.map_cons, D.pys, depthAll]
    exact Nat.max_le.mpr ⟨EqD.dep x, ih⟩
theorem eq_map {α : Type} [Enc α] [EqD α] : ∀ xs ys : List α, PyData.eqvAll (D.pys (xs.map enc)) (D.pys (ys.map enc)) = decide (xs = ys)
  | [], [] => rfl
  | [], _ :: _ => rfl
  | _ :: _, [] => rfl
  | x :: xs, y :: ys => by
    rw [List.map_cons, List.map_cons, D.pys, D.pys, eqvAll, eq_map xs ys, EqD.eq x y]
    by_cases h : x = y
    · subst h
      by_cases g : xs = ys
      · subst g; simp
      · simp [g]
    · simp [h]
instance {α : Type} [Enc α] [EqD α] : EqD (List α) where
  dec := inferInstance
  ok xs := xs.all EqD.ok
  dp := EqD.dp α + 1
  pl xs := pls_map xs
  lay xs h := by
    show canLay0 (.list (D.pys (xs.map enc))) = true
    rw [canLay0]; exact lay_map xs h
  dep xs := by
    show depth (.list (D.pys (xs.map enc))) ≤ _
    rw [depth]; exact Nat.add_le_add_right (dep_map xs) 1
  eq xs ys := by
    show PyData.eqv (.list (D.pys (xs.map enc))) (.list (D.pys (ys.map enc))) = _
    rw [PyData.eqv, eq_map]
instance {α : Type} [Enc α] [EqD α] : EqD (Tl α) where
  dec := inferInstance
  ok xs := xs.l.all EqD.ok
  dp := EqD.dp α + 1
  pl xs := pls_map xs.l
  lay xs h := by
    show canLay0 (.tuple (D.pys (xs.l.map enc))) = true
    rw [canLay0]; exact lay_map xs.l h
  dep xs := by
    show depth (.tuple (D.pys (xs.l.map enc))) ≤ _
    rw [depth]; exact Nat.add_le_add_right (dep_map xs.l) 1
  eq xs ys := by
    show PyData.eqv (.tuple (D.pys (xs.l.map enc))) (.tuple (D.pys (ys.l.map enc))) = _
    rw [PyData.eqv, eq_map]
    obtain ⟨x⟩ := xs
    obtain ⟨y⟩ := ys
    by_cases h : x = y
    · subst h; simp
    · rw [decide_eq_false h, decide_eq_false (fun z => h (Tl.mk.inj z))]
instance {α β : Type} [Enc α] [Enc β] [EqD α] [EqD β] : EqD (α × β) where
  dec := inferInstance
  ok p := EqD.ok p.1 && EqD.ok p.2
  dp := max (EqD.dp α) (EqD.dp β) + 1
  pl p := by show D.pl (.tup [enc p.1, enc p.2]) = true; simp [D.pl, D.pls, EqD.pl]
  lay p h := by
    rw [Bool.and_eq_true] at h
    show canLay0 (.tuple (D.pys [enc p.1, enc p.2])) = true
    simp [D.pys, canLay0, canLayAll0, EqD.lay p.1 h.1, EqD.lay p.2 h.2]
  dep p := by
    show depth (.tuple (D.pys [enc p.1, enc p.2])) ≤ _
    have h1 := EqD.dep p.1
    have h2 := EqD.dep p.2
    simp only [D.pys, depth, depthAll]; omega
  eq p q := by
    show PyData.eqv (.tuple (D.pys [enc p.1, enc p.2])) (.tuple (D.pys [enc q.1, enc q.2])) = _
    simp only [D.pys, PyData.eqv, eqvAll, EqD.eq, Bool.and_true]
    obtain ⟨a, b⟩ := p
    obtain ⟨c, d⟩ := q
    by_cases h : a = c
    · by_cases g : b = d
      · subst h; subst g; simp
      · simp [h, g]
    · simp [h]
instance {α β γ : Type} [Enc α] [Enc β] [Enc γ] [EqD α] [EqD β] [EqD γ] : EqD (T3 α β γ) where
  dec := inferInstance
  ok p := EqD.ok p.a && EqD.ok p.b && EqD.ok p.c
  dp := max (max (EqD.dp α) (EqD.dp β)) (EqD.dp γ) + 1
  pl p := by show D.pl (.tup [enc p.a, enc p.b, enc p.c]) = true; simp [D.pl, D.pls, EqD.pl]
  lay p h := by
    rw [Bool.and_eq_true, Bool.and_eq_true] at h
    show canLay0 (.tuple (D.pys [enc p.a, enc p.b, enc p.c])) = true
    simp [D.pys, canLay0, canLayAll0, EqD.lay p.a h.1.1, EqD.lay p.b h.1.2, EqD.lay p.c h.2]
  dep p := by
    show depth (.tuple (D.pys [enc p.a, enc p.b, enc p.c])) ≤ _
    have h1 := EqD.dep p.a
    have h2 := EqD.dep p.b
    have h3 := EqD.dep p.c
    simp only [D.pys, depth, depthAll]; omega
  eq p q := by
    show PyData.eqv (.tuple (D.pys [enc p.a, enc p.b, enc p.c])) (.tuple (D.pys [enc q.a, enc q.b, enc q.c])) = _
    simp only [D.pys, PyData.eqv, eqvAll, EqD.eq, Bool.and_true]
    obtain ⟨a, b, c⟩ := p
    obtain ⟨d, e, f⟩ := q
    simp only [T3.mk.injEq, Bool.decide_and]
instance {α β γ δ : Type} [Enc α] [Enc β] [Enc γ] [Enc δ] [EqD α] [EqD β] [EqD γ] [EqD δ] : EqD (T4 α β γ δ) where
  dec := inferInstance
  ok p := EqD.ok p.a && EqD.ok p.b && EqD.ok p.c && EqD.ok p.d
  dp := max (max (max (EqD.dp α) (EqD.dp β)) (EqD.dp γ)) (EqD.dp δ) + 1
  pl p := by show D.pl (.tup [enc p.a, enc p.b, enc p.c, enc p.d]) = true; simp [D.pl, D.pls, EqD.pl]
  lay p h := by
    rw [Bool.and_eq_true, Bool.and_eq_true, Bool.and_eq_true] at h
    show canLay0 (.tuple (D.pys [enc p.a, enc p.b, enc p.c, enc p.d])) = true
    simp [D.pys, canLay0, canLayAll0, EqD.lay p.a h.1.1.1, EqD.lay p.b h.1.1.2, EqD.lay p.c h.1.2, EqD.lay p.d h.2]
  dep p := by
    show depth (.tuple (D.pys [enc p.a, enc p.b, enc p.c, enc p.d])) ≤ _
    have h1 := EqD.dep p.a
    have h2 := EqD.dep p.b
    have h3 := EqD.dep p.c
    have h4 := EqD.dep p.d
    simp only [D.pys, depth, depthAll]; omega
  eq p q := by
    show PyData.eqv (.tuple (D.pys [enc p.a, enc p.b, enc p.c, enc p.d])) (.tuple (D.pys [enc q.a, enc q.b, enc q.c, enc q.d])) = _
    simp only [D.pys, PyData.eqv, eqvAll, EqD.eq, Bool.and_true]
    obtain ⟨a, b, c, u⟩ := p
    obtain ⟨d, e, f, v⟩ := q
    simp only [T4.mk.injEq, Bool.decide_and]
end
end
end ON

set_option Elab.async false
set_option linter.all false
set_option maxRecDepth 100000
set_option maxHeartbeats 1000000
/-! what a drawing function comes to, whatever is drawn -/
namespace ON
open PySem PySem.Spec PyProof.Rows L2
def W {α : Type} (x : Sm α) (k : Int) (P : α → Int → Prop) : Prop := ∃ a k', x k = some (a, k') ∧ P a k'
section
variable {α β τ τ' l ρ : Type} {k : Int}
theorem W.mono {x : Sm α} {P Q : α → Int → Prop} (h : W x k P) (hq : ∀ a k', P a k' → Q a k') : W x k Q := by
  obtain ⟨a, k', e, p⟩ := h
  exact ⟨a, k', e, hq a k' p⟩
theorem W.pur {a : α} {P : α → Int → Prop} (h : P a k) : W (Mn.pur a : Sm α) k P := ⟨a, k, pur_sm a k, h⟩
theorem W.bnd {x : Sm α} {f : α → Sm β} {P : β → Int → Prop} (h : W x k fun a k' => W (f a) k' P) : W (Mn.bnd x f) k P := by
  obtain ⟨a, k1, e, b, k2, e2, p⟩ := h
  exact ⟨b, k2, by rw [bnd_sm, e]; exact e2, p⟩
theorem W.gd {p : Prop} [Decidable p] {x : Sm α} {P : α → Int → Prop} (hp : p) (h : W x k P) : W (ON.gd p x) k P := by rw [gd_y hp]; exact h
theorem W.lift {o : Option α} {a : α} {P : α → Int → Prop} (e : o = some a) (h : P a k) : W (ON.lift o : Sm α) k P := by
  subst e
  refine ⟨a, k, ?_, h⟩
  unfold ON.lift; exact pur_sm a k
theorem W.nx {c : List Int} {mm : Int} {P : Int → Int → Prop} (hc : c.length ≤ 1000) (hk : 0 ≤ k ∧ k < 1000000000000) (hm : 0 < mm) (h : ∀ r, 0 ≤ r → r < mm → P r (k + 1)) : W (ON.nx c mm) k P := by
  refine ⟨nxV c (k + 1) mm, k + 1, ?_, h _ (Int.emod_nonneg _ (by omega)) (Int.emod_lt_of_pos _ hm)⟩
  unfold ON.nx
  rw [if_pos ⟨hk.1, hk.2, hm, hc⟩]
theorem W.andThen {x : Sm (Fl τ l ρ)} {f : τ → Sm (Fl τ' l ρ)} {P : Fl τ' l ρ → Int → Prop} (h : W x k fun r k' => match r with
    | .nx t => W (f t) k' P
    | .bk t => P (.bk t) k'
    | .ct t => P (.ct t) k'
    | .rt t => P (.rt t) k') : W (ON.andThen x f) k P := by
  unfold ON.andThen
  refine W.bnd (h.mono fun r k' hr => ?_)
  cases r with
  | nx t => exact hr
  | bk t => exact W.pur hr
  | ct t => exact W.pur hr
  | rt t => exact W.pur hr
/-- a loop that goes through -/
theorem W.forL {body : τ → α → Sm (Fl τ τ ρ)} {P : Fl τ l ρ → Int → Prop} (I : Nat → τ → Int → Prop) : ∀ (xs : List α) (i : Nat) (t : τ) (k : Int), I i t k → (∀ j t k x, i ≤ j → j < i + xs.length → I j t k → x ∈ xs → W (body t x) k fun r k' => ∃ t', r = .nx t' ∧ I (j + 1) t' k') → (∀ t k, I (i + xs.length) t k → P (.nx t) k) → W (ON.forL body xs t) k P := by
  intro xs
  induction xs with
  | nil => intro i t k it _ h; rw [forL_nil]; exact W.pur (h t k it)
  | cons x xs ih =>
    intro i t k it hb h
    rw [forL_cons]
    refine W.bnd ((hb i t k x (Nat.le_refl _) (by rw [List.length_cons]; omega) it (.head _)).mono fun r k' hr => ?_)
    obtain ⟨t', rfl, it'⟩ := hr
    exact ih (i + 1) t' k' it' (fun j t k y h0 h1 h2 hy => hb j t k y (by omega) (by rw [List.length_cons]; omega) h2 (.tail _ hy)) fun t k h2 => h t k (by rw [List.length_cons, show i + (xs.length + 1) = i + 1 + xs.length by omega]; exact h2)
theorem W.compL {f : α → Sm β} {Q : β → Prop} {P : List β → Int → Prop} (b : Int) : ∀ (xs : List α) (k : Int), (∀ k x, 0 ≤ k → k < b + xs.length → x ∈ xs → W (f x) k fun y k' => Q y ∧ k ≤ k' ∧ k' ≤ k + 1) → 0 ≤ k → k ≤ b → (∀ ys k', ys.length = xs.length → (∀ y ∈ ys, Q y) → k ≤ k' → k' ≤ k + xs.length → P ys k') → W (ON.compL (fun _ => Mn.pur true) f xs) k P := by
  intro xs
  induction xs generalizing b P with
  | nil => intro k _ _ _ h; rw [compL_nil]; exact W.pur (h [] k rfl (fun y hy => nomatch hy) (Int.le_refl _) (by simp))
  | cons x xs ih =>
    intro k hf h0 hb h
    rw [compL_cons]
    refine W.bnd (W.pur ?_)
    refine W.bnd ((hf k x h0 (by rw [List.length_cons]; omega) (.head _)).mono fun y k1 hy => ?_)
    obtain ⟨q, l1, l2⟩ := hy
    refine W.bnd (ih (b := b + 1) (P := fun ys k' => W (Mn.pur (y :: ys)) k' P) k1 (fun k2 z h2 h3 hz => hf k2 z h2 (by rw [List.length_cons]; omega) (.tail _ hz)) (by omega) (by omega) fun ys k' hl hq l3 l4 => ?_)
    refine W.pur (h (y :: ys) k' (by rw [List.length_cons, List.length_cons, hl]) (fun z hz => ?_) (by omega) (by rw [List.length_cons]; omega))
    rcases List.mem_cons.mp hz with rfl | hz
    · exact q
    · exact hq z hz
theorem W.finS [Enc ρ] {x : Sm (Fl Empty Empty ρ)} {P : ρ → Int → Prop} (h : W x k fun f k' => ∃ r, f = .rt r ∧ P r k') : W (ON.finS x) k P := by
  obtain ⟨f, k', e, r, rfl, p⟩ := h
  refine ⟨r, k', ?_, p⟩
  unfold ON.finS
  rw [e]; rfl
theorem W.run {x : Sm α} {P : α → Int → Prop} (h : W x k P) : ∃ a k', x k = some (a, k') ∧ P a k' := h
end
end ON

set_option Elab.async false
set_option linter.all false
set_option maxRecDepth 100000
set_option maxHeartbeats 1000000
namespace ON
open PySem PySem.Spec PyProof.Rows L2
abbrev m__law_next (c : List Int) (_ : Option (List Str)) (mm : Int) : Sm Int := nx c mm
def bg2 (c : List Int) : Sm Str := (Mn.bnd (Mn.bnd (Mn.bnd (Mn.bnd (Mn.pur (8 : Int)) fun p_141 => m__law_next c none p_141) fun n_142 => gd (-(2 ^ 62) ≤ n_142 ∧ n_142 < 2 ^ 62) (Mn.pur (upTo 0 (Int.toNat n_142) 1))) fun w_148 => gd (List.length w_148 ≤ 100000) (compL (fun (a_143 : Int) => (Mn.pur true)) (fun (a_143 : Int) => (Mn.bnd (Mn.pur ("qzjv" : Str)) fun x_145 => Mn.bnd (Mn.bnd (Mn.pur (4 : Int)) fun p_144 => m__law_next c none p_144) fun y_146 => gd (x_145.length ≤ sizeLine) (Mn.bnd (lift (atI (Array.toList (Str.cps x_145)) y_146)) fun c_147 => Mn.pur (sgn c_147)))) w_148)) fun j_150 => gd ((List.map Str.length j_150).sum + List.length j_150 * Str.length ("" : Str) ≤ 16777216) (Mn.pur (Txt.join ("" : Str) j_150)))
def bg3 (c : List Int) (r : Str) : Sm Int := (Mn.bnd (Mn.bnd (Mn.bnd (Mn.pur r) fun u_151 => gd (u_151.length ≤ sizeLine) (Mn.pur ((Str.length u_151 : Nat) : Int))) fun x_152 => Mn.bnd (Mn.pur (1 : Int)) fun y_153 => Mn.pur (x_152 + y_153)) fun p_154 => m__law_next c none p_154)
def bg4 (c : List Int) (r : Str) (a : Int) : Sm (List Str) := (Mn.bnd (Mn.bnd (Mn.pur ("mcxgtaqerbvkdunhspjfwlio" : Str)) fun w_155 => Mn.pur (List.map sgn (Array.toList (Str.cps w_155)))) fun w_169 => gd (List.length w_169 ≤ 100000) (compL (fun (a_156 : Str) => (Mn.pur true)) (fun (a_156 : Str) => (Mn.bnd (Mn.bnd (Mn.bnd (Mn.pur r) fun x_158 => Mn.bnd (Mn.pur (none : Option Int)) fun l_159 => Mn.bnd (Mn.bnd (Mn.pur a) fun i_157 => Mn.pur (some i_157)) fun h_160 => gd (x_158.length ≤ sizeLine) (Mn.pur (cutT x_158 l_159 h_160))) fun x_161 => Mn.bnd (Mn.pur a_156) fun y_162 => gd (x_161.length + y_162.length ≤ sizeLine) (Mn.pur (x_161 ++ y_162))) fun x_167 => Mn.bnd (Mn.bnd (Mn.pur r) fun x_164 => Mn.bnd (Mn.bnd (Mn.pur a) fun i_163 => Mn.pur (some i_163)) fun l_165 => Mn.bnd (Mn.pur (none : Option Int)) fun h_166 => gd (x_164.length ≤ sizeLine) (Mn.pur (cutT x_164 l_165 h_166))) fun y_168 => gd (x_167.length + y_168.length ≤ sizeLine) (Mn.pur (x_167 ++ y_168)))) w_169))
abbrev okB (c : List Int) (ns : List Str) (k : Int) : Prop := bgM bg2 bg3 bg4 c 0 = some (ns, k)
def bgF (c : List Int) : Option (List Str × Int) := bgM bg2 bg3 bg4 c 0
theorem bg_ok : beg okB bgF := fun _ _ _ h => h
theorem joinL_nil_len : ∀ ps : List (List Nat), (TL.joinL [] ps).length = (ps.map List.length).sum
  | [] => rfl
  | [p] => by simp [TL.joinL]
  | p :: q :: r => by
    rw [TL.joinL, List.length_append, List.nil_append, joinL_nil_len (q :: r)]; rfl
theorem join_len (ys : List Str) : (Txt.join ("" : Str) ys).length = (ys.map Str.length).sum := by
  show (Txt.join ("" : Str) ys).cps.size = _
  rw [← Array.length_toList]
  have e : (Txt.join ("" : Str) ys).cps.toList = TL.joinL [] (ys.map fun y => y.cps.toList) := by rw [TL.join_eq]; exact TL.tl_join ("" : Str) ys
  rw [e, joinL_nil_len, List.map_map]
  congr 1
theorem sum_ones : ∀ ys : List Str, (∀ y ∈ ys, y.length = 1) → (ys.map Str.length).sum = ys.length
  | [], _ => rfl
  | y :: ys, h => by
    rw [List.map_cons, List.sum_cons, h y (.head _), sum_ones ys fun z hz => h z (.tail _ hz), List.length_cons]; omega
theorem bg_W (c : List Int) (hc : c.length ≤ 1000) : W (bgM bg2 bg3 bg4 c) 0 fun ns k => 0 ≤ k ∧ k ≤ 100 ∧ ns.length = 24 := by
  have sz : 100000 < sizeLine := by decide
  unfold bgM
  refine W.bnd ?_
  unfold bg2
  refine W.bnd (W.bnd (W.bnd (W.bnd (W.pur (W.nx hc (by decide) (by decide) fun n n0 n1 => ?_)))))
  refine W.gd (by omega) (W.pur ?_)
  have hl := upTo_len 0 1 n.toNat
  refine W.gd (by rw [hl]; omega) (W.compL (Q := fun y : Str => y.length = 1) 1 _ _ (fun k x k0 k1 _ => ?_) (by decide) (by decide) fun ys k' h1 h2 h3 h4 => ?_)
  · refine W.bnd (W.pur (W.bnd (W.bnd (W.pur (W.nx hc (by rw [hl] at k1; omega) (by decide) fun r r0 r1 => ?_)))))
    refine W.gd (by decide) (W.bnd ?_)
    have hr : ∃ z, atI (Array.toList (Str.cps ("qzjv" : Str))) r = some z := by
      have : r = 0 ∨ r = 1 ∨ r = 2 ∨ r = 3 := by omega
      rcases this with rfl | rfl | rfl | rfl <;> exact ⟨_, rfl⟩
    obtain ⟨z, hz⟩ := hr
    exact W.lift hz (W.pur ⟨rfl, by omega, by omega⟩)
  rw [hl] at h1 h4
  have hs := sum_ones ys h2
  have e0 : Str.length ("" : Str) = 0 := rfl
  refine W.gd (by rw [e0]; omega) (W.pur (W.bnd ?_))
  have hj := join_len ys
  unfold bg3
  refine W.bnd (W.bnd (W.bnd (W.pur (W.gd (by omega) (W.pur (W.bnd (W.pur (W.pur (W.nx hc (by omega) (by omega) fun a a0 a1 => ?_)))))))))
  unfold bg4
  refine W.bnd (W.bnd (W.pur (W.pur (W.gd (by decide) (W.compL (Q := fun _ => True) 20 _ _ (fun k x k0 k1 hx => ?_) (by omega) (by omega) fun ns k2 g1 g2 g3 g4 => ?_)))))
  · have hx1 : x.length = 1 := by
      obtain ⟨z, _, rfl⟩ := List.mem_map.mp hx
      rfl
    have cl : ∀ lo hi, (cutT (Txt.join ("" : Str) ys) lo hi).length ≤ (Txt.join ("" : Str) ys).length := fun lo hi => by
      unfold cutT cutS Str.length
      rw [List.size_toArray, List.length_take, List.length_drop, Array.length_toList]
      omega
    have c1 := cl none (some a)
    have c2 := cl (some a) none
    have q1 : (Txt.join ("" : Str) ys).length ≤ sizeLine := by omega
    have q2 : (cutT (Txt.join ("" : Str) ys) none (some a)).length + x.length ≤ sizeLine := by omega
    have q3 : (cutT (Txt.join ("" : Str) ys) none (some a) ++ x).length + (cutT (Txt.join ("" : Str) ys) (some a) none).length ≤ sizeLine := by rw [Str.length_append]; omega
    simp only [pbS, gd_y q1, gd_y q2, gd_y q3]
    exact W.pur ⟨trivial, by omega, by omega⟩
  · have e24 : (List.map sgn (Array.toList (Str.cps ("mcxgtaqerbvkdunhspjfwlio" : Str)))).length = 24 := rfl
    rw [e24] at g1 g4
    exact ⟨by omega, by omega, g1⟩
theorem bg_tot : ∀ c : List Int, c.length ≤ 1000 → ∃ ns k, bgM bg2 bg3 bg4 c 0 = some (ns, k) := fun c hc => by
  obtain ⟨ns, k, e, _⟩ := bg_W c hc
  exact ⟨ns, k, e⟩
theorem W.begun {ρ : Type} [Enc ρ] {c : List Int} {f : List Str → Sm (Fl Empty Empty ρ)} {k : Int} {P : Fl Empty Empty ρ → Int → Prop} (hc : c.length ≤ 1000) (h : ∀ ns k, 0 ≤ k → k ≤ 100 → ns.length = 24 → W (f ns) k P) : W (ON.begun bgF c f) k P := by
  obtain ⟨ns, k0, e, h1, h2, h3⟩ := bg_W c hc
  obtain ⟨a, k', e2, p⟩ := h ns k0 h1 h2 h3
  refine ⟨a, k', ?_, p⟩
  unfold ON.begun bgF
  rw [if_pos hc, e]
  exact e2
theorem fin0_of {ρ : Type} [Enc ρ] {x : Sm (Fl Empty Empty ρ)} {r : ρ} (h : W x 0 fun f _ => f = .rt r) : fin0 x = some r := by
  obtain ⟨f, k', e, rfl⟩ := h
  unfold fin0 finS
  rw [e]; rfl
end ON

set_option Elab.async false
set_option linter.all false
set_option maxRecDepth 100000
set_option maxHeartbeats 2000000
/-! OX1: an error that is caught and kept behind its try. -/
namespace ON
open PySem L2

theorem XO_ok {P : Program} {w : World} {H : Hp} {h : Heap} {a : Addr} {cls : Value} {d : Option Addr} {oe : Obj} {vs : Array Value} (e : h.get? a = some oe) (z : Zc cls d oe) (f : oe.data = .fields vs) : ObjOk P w H h a (XO cls d a) := by
  show (∃ oe vs, h.get? a = some oe ∧ Zc cls d oe ∧ oe.data = .fields vs) ∧ (∃ o, h.get? a = some o) ∧ _
  refine ⟨⟨oe, vs, e, z, f⟩, ⟨oe, e⟩, fun h1 h2 q k => ?_⟩
  obtain ⟨o, v, e1, z1, f1⟩ := q
  exact ⟨o, v, k o e1, z1, f1⟩
theorem XO_inv {P : Program} {w : World} {H : Hp} {h : Heap} {a : Addr} {cls : Value} {d : Option Addr} (q : ObjOk P w H h a (XO cls d a)) : ∃ oe vs, h.get? a = some oe ∧ Zc cls d oe ∧ oe.data = .fields vs := by
  have z : (∃ oe vs, h.get? a = some oe ∧ Zc cls d oe ∧ oe.data = .fields vs) ∧ (∃ o, h.get? a = some o) ∧ _ := q
  exact z.1
section
variable {X : Cx} {pins : List (Addr × Obj)} {σ : L2.St} {H : Hp} {s : Shared} {a : Addr} {oe : Obj} {vs : Array Value} {cls : Value} {d : Option Addr}
/-- what is nobody's is told as a kept error -/
theorem keepX (I : L2.Inv X pins σ H s) (e : s.heap.get? a = some oe) (z : Zc cls d oe) (f : oe.data = .fields vs) (hn : H a = none) (hl : a ≠ X.env.locals)
    (h0 : X.s_0.heap.get? a = none) (hp : ∀ p ∈ X.pn ++ pins, p.1 ≠ a) : L2.Inv X pins σ (upd H a (XO cls d a)) s where
  ok := I.ok
  os := I.os
  bare := I.bare
  base := {
    keep := I.base.keep
    slot := I.base.slot
    free := fun b o hb q x => by
      rw [upd_ne (fun w => by rw [w, h0] at hb; cases hb)]
      exact I.base.free b o hb q x
    there := I.base.there
    tups := fun b xs q => by
      have y := I.base.tups b xs q
      rw [upd_ne (ne_of_none y hn)]; exact y
    frzs := fun b o u q => by
      have y := I.base.frzs b o u q
      rw [upd_ne (ne_of_none y hn)]; exact y
    tbls := fun b ps q => by
      obtain ⟨more, y⟩ := I.base.tbls b ps q
      refine ⟨more, ?_⟩
      rw [upd_ne (ne_of_none y hn)]; exact y }
  loc := I.loc
  cell := I.cell
  free := by rw [upd_ne (Ne.symm hl)]; exact I.free
  freeC := fun x c q => by
    have ne : c ≠ a := fun w => by
      obtain ⟨v, hc⟩ := I.cell x c q
      obtain ⟨o, ho, hd⟩ := hc
      rw [w, e] at ho; cases ho
      rw [f] at hd; cases hd
    rw [upd_ne ne]; exact I.freeC x c q
  pin := fun p hm => by
    obtain ⟨q1, q2, q3⟩ := I.pin p hm
    refine ⟨q1, ?_, q3⟩
    rw [upd_ne (hp p hm)]; exact q2
  hok := fun b o hb => by
    by_cases c : b = a
    · subst c
      rw [upd_same] at hb; cases hb
      exact XO_ok e z f
    · rw [upd_ne c] at hb
      refine (I.hok b o hb).stay (fun _ _ _ q => q) (fun x q => ?_) fun x xs q => ?_
      · rw [upd_ne (ne_of_none q hn)]; exact q
      · rw [upd_ne (ne_of_none q hn)]; exact q
  len := I.len
/-- try .. except c as n: suite, where the error is kept behind it; all that is raised is caught -/
def wKeep (K : PySem.W.Frag) (c : Value) (i : Nat) (ts : Addr → Value → Option Addr → TS) (D : Ends) : WX := fun cls d σ H =>
  PySem.W.exmOne K cls c = some true ∧ ∀ a, H a = none → ts a cls d { nx := fun σ' H' => H' a = none → D.nx (σ'.set i none) (upd H' a (XO cls d a)), rt := D.rt, bk := fun _ _ => False, ct := fun _ _ => False } (σ.set i (some (.ref a))) H
/-- frames hold no fields -/
theorem frame_no {h B : Heap} {l : List Env} {b : Addr} {o : Obj} {vs : Array Value} (ff : h.FunFrames B l) (e : h.get? b = some o) (f : o.data = .fields vs) : b ∉ frs l := fun hm => by
  obtain ⟨_, o', e', nf⟩ := Heap.FunFrames.mem ff hm
  rw [e] at e'; cases e'
  exact nf vs f
theorem ps_try_keep {x n : Str} {c : Value} {i : Nat} {body suite : List Stmt} {b₀ : Stmt} {np pos pos' : Pos} {tb : WX → TS} {ts : Addr → Value → Option Addr → TS}
    (hs : X.stack = X.env :: X.outer) (hf : X.env.frame = some X.env.locals) (hex : X.ex = []) (hN : X.N.Nodup) (hi : X.N[i]? = some n) (hln : X.env.kindOf n = some .local) (hc : Names X x c)
    (hb : ∀ (W : WX) (pn : List (Addr × Obj)) (xe : Value → Shared → Prop), Takes (X.tr pn xe) W → PassesOwn (model X.prog X.w) X.A X.env xe → PSs (X.tr pn xe) body (tb W))
    (hsu : ∀ (a : Addr) (oe : Obj) (cls : Value) (d : Option Addr) (pn : List (Addr × Obj)), Zc cls d oe → (∃ vs, oe.data = .fields vs) → PSs (X.suite a ((a, oe) :: pn)) (b₀ :: suite) (ts a cls d)) :
    PS X (.Try body [.ExceptHandler (some (.Name x np)) (some n) (b₀ :: suite) pos'] [] [] pos) (fun D σ H => tb (wKeep X.K c i ts D) D σ H) := by
  refine ⟨fun pins s σ H D I h => ?_⟩
  have ok := I.ok
  have hfr : X.A.frames = some (X.env :: X.outer) := by rw [ok.frames, hs]
  have hloc : L2.Loc X.env.scope n := .inl hln
  refine wpAny_Try_except (wpAny_mono ((hb (wKeep X.K c i ts D) (X.pn ++ pins) _ (fun u s' xx => ?tk) ?po).run [] s σ H D (I.toTry _) h) ?nx fun _ _ q => q)
  case po => exact PassesOwn.looking
  case nx =>
    intro f s1 q
    cases f with
    | next =>
      obtain ⟨σ', H', J, w⟩ := q
      exact wpAny_execs_nil ⟨σ', H', J.ofTry ok, w⟩
    | brk =>
      obtain ⟨σ', H', J, w⟩ := q
      exact ⟨σ', H', J.ofTry ok, w⟩
    | cont =>
      obtain ⟨σ', H', J, w⟩ := q
      exact ⟨σ', H', J.ofTry ok, w⟩
    | ret u =>
      obtain ⟨v, σ', H', J, w⟩ := q
      exact ⟨v, σ', H', J.ofTry ok, w⟩
  case tk =>
    obtain ⟨a, B, sI, pins', σ', H', cls, d, rfl, J', nb, up, sky, na, os, ag, ce, hyes⟩ := xx
    have J : L2.Inv X pins σ' H' sI := J'.ofTry ok
    rw [show (X.tr (X.pn ++ pins) _).stack = X.env :: X.outer from hs] at sky
    refine Sky.land Zc.steady hfr hf sky fun h3 fl3 up3 => ?_
    have J3 : L2.Inv X pins σ' H' ⟨h3, s'.gens, s'.drawn, s'.toks, s'.os⟩ := J.landed nb fl3.1 (Heap.UpToSlots.trans up up3) os ag
    obtain ⟨oe3, vs3, he3, hz3, hd3⟩ := HandSPX.FlyingZ.there fl3
    have nF3 := frame_no fl3.2.2.1 he3 hd3
    have inL : X.env.locals ∈ frs (X.env :: X.outer) := List.mem_filterMap.mpr ⟨X.env, List.mem_cons_self, hf⟩
    have nL : a ≠ X.env.locals := fun z => nF3 (z ▸ inL)
    have nF : a ∉ X.fs := fun hm => by
      obtain ⟨e, he, q⟩ := List.mem_filterMap.mp hm
      exact nF3 (List.mem_filterMap.mpr ⟨e, List.mem_cons_of_mem _ he, q⟩)
    have S3 := J3.suite he3 hd3 na nL nF
    refine wpAny_handleBy_cons (codeAny_handlers_test ?_) (by simp [byPass])
    have LT : PySem.W.Looks (model X.prog X.w) h3 (typeOf (.ref a)) cls := fun A Q E s k q => wpAny_typeOf_ref (k a oe3 he3) (by rw [hz3.1]; exact q)
    have LM := PySem.W.exm_one J3.kIn LT ce
    have test : ∀ {Q E}, Q c ⟨h3, s'.gens, s'.drawn, s'.toks, s'.os⟩ → wpAny (model X.prog X.w) (X.A.mark (some (.ref a))) (eval (.Name x np) X.env) Q E ⟨h3, s'.gens, s'.drawn, s'.toks, s'.os⟩ := fun q => by
      obtain ⟨hg, hdbg, hm | ⟨hm, hv, hnn⟩⟩ := hc
      · exact ld_glob S3 hg hm q hdbg
      · exact ld_blt S3 hg hm hv q hnn hdbg
    refine test (LM.here ?_)
    refine codeAny_handlers_suite_as (HandSPX.lands_againZ fl3 fun h4 fl4 up4 => ?_)
    have J4 : L2.Inv X pins σ' H' ⟨h4, s'.gens, s'.drawn, s'.toks, s'.os⟩ := J.landed nb fl4.1 (Heap.UpToSlots.trans (Heap.UpToSlots.trans up up3) up4) os ag
    obtain ⟨oe4, vs4, he4, hz4, hd4⟩ := HandSPX.FlyingZ.there fl4
    have S4 := J4.suite he4 hd4 na nL nF
    refine store_ok (X := X.suite a ((a, oe4) :: (X.pn ++ pins))) (v := .ref a) S4 hN hi hloc rfl (fun s5 S5 => ?_) (.inr hln)
    refine wpAny_mono ((hsu a oe4 cls d (X.pn ++ pins) hz4 ⟨vs4, hd4⟩).run [] s5 _ H' _ S5 (hyes a na)) (fun f s6 q => ?_) fun _ _ z => z.elim
    have old : ∀ b o, sI.heap.get? b = some o → b ∉ frs (X.env :: X.outer) → b ≠ a := fun b o e hb z => by
      have y := nb b o e (by rw [show (X.tr (X.pn ++ pins) _).stack = X.env :: X.outer from hs]; exact hb)
      rw [z, fl4.2.1] at y; cases y
    cases f with
    | next =>
      obtain ⟨σ6, H6, J6, w⟩ := q
      obtain ⟨p1, p2, _⟩ := J6.pin (a, oe4) (List.mem_append_left _ List.mem_cons_self)
      have J7 : L2.Inv X pins σ6 H6 s6 := J6.unsuite ok
      refine gone_ok (keepX J7 p1 hz4 hd4 p2 nL ?_ ?_) hN hi hln fun s8 J8 => ⟨_, _, J8, w p2⟩
      · cases e : X.s_0.heap.get? a with
        | none => rfl
        | some o =>
          obtain ⟨o', y⟩ := J.base.there a o e (by rw [hex]; exact List.not_mem_nil)
          exact absurd rfl (old a o' y nF3)
      · intro p hm z
        obtain ⟨q1, _⟩ := J.pin p hm
        exact old p.1 p.2 q1 (z ▸ nF3) z
    | brk => obtain ⟨_, _, _, w⟩ := q; exact w.elim
    | cont => obtain ⟨_, _, _, w⟩ := q; exact w.elim
    | ret u =>
      obtain ⟨v, σ6, H6, J6, w⟩ := q
      exact gone_ok (J6.unsuite ok) hN hi hln fun s8 J8 => ⟨v, _, _, J8, w⟩
end
end ON

set_option Elab.async false
set_option linter.all false
set_option maxRecDepth 100000
set_option maxHeartbeats 2000000
namespace ON
open PySem L2
/-- e.n, e a kept error with a dict of its own -/
def tXk (K : PySem.W.Frag) (n : Str) (te : TE) : TE := fun σ H Q => te σ H fun x H1 =>
  ∃ (a C dd : Addr) (fs : List (Str × V)) (v : V), x = .ref a ∧ H1 a = some (XO (.ref C) (some dd) a) ∧ H1 dd = some (.xd fs) ∧ fs.lookup n = some v ∧ XfC K C ∧ PySem.W.findIn K (.ref C) n = some none ∧ Q v H1
theorem pe_xk {X : Cx} {e : Expr} {te : TE} {n : Str} {pos : Pos} (he : PE X e te) (hb : attributeBase e n X.env (eval e X.env) = eval e X.env := by rfl) : PE X (.Attribute e n pos) (tXk X.K n te) := by
  refine ⟨fun pins s σ H Q I h => ?_⟩
  refine attr_of hb (thn (he.run pins s σ H _ I h) fun u s1 hh => ?_)
  obtain ⟨x, H1, J, rx, a, C, dd, fs, v, rfl, ha, hd, hl, T, hno, q⟩ := hh
  obtain rfl : u = Value.ref a := rx
  obtain ⟨oe, vs, e1, z, f⟩ := XO_inv (J.hok a _ ha)
  have hx : ObjOk X.prog X.w H1 s1.heap dd (.xd fs) := J.hok dd _ hd
  obtain ⟨mA, hns, hr⟩ := hx
  obtain ⟨od, ho, look⟩ := lookIn_ns hns
  obtain ⟨w, hw, rw_⟩ := RelO.some_of (v := v) (o := mA n) (by rw [← hl]; exact hr n)
  have IA : PySem.W.InstAt s1.heap a oe C (some od) := ⟨e1, z.1, by unfold PySem.W.notCls; rw [f] <;> rfl, by rw [z.2]; exact ho⟩
  exact HandSPX.exc_get J.kIn IA T.ga T.gg T.exC (PySem.W.findObj_own T.hdC hno rfl (by rw [look, hw])) (handed_of rw_) ⟨v, H1, J.tok _, rw_, q⟩
/-- what isinstance asks of an error's class -/
structure EC (K : PySem.W.Frag) (C : Addr) : Prop where
  some : (PySem.W.clsIn K C).isSome = true
  ga : PySem.W.findIn K (.ref C) "__getattribute__" = Option.some (Option.some (.builtin "BaseException.__getattribute__"))
  gg : PySem.W.findIn K (.ref C) "__getattr__" = Option.some none
  sb : PySem.W.subIn K (.ref C) (.type "BaseException") = Option.some true
  cl : PySem.W.findIn K (.ref C) "__class__" = Option.some (Option.some (.builtin "object.__class__"))
  sp : PySem.W.specialIn K (.builtin "object.__class__") "__get__" = Option.some (Option.some (.builtin "getset_descriptor.__get__"))
  tk : PySem.W.takesIn K (.builtin "object.__class__") = Option.some true
  mr : PySem.W.mroIn K C (.type "object") = Option.some true
/-- isinstance(e, c), e a kept error -/
def rIsK (K : PySem.W.Frag) : List V → Hp → VK → Prop := fun xs H Q => ∃ (a C : Addr) (d : Option Addr) (c : V) (cv : Value) (b : Bool), xs = [.ref a, c] ∧ H a = some (XO (.ref C) d a) ∧ (∀ dd, d = some dd → ∃ fs, H dd = some (.xd fs)) ∧ EC K C ∧ (∀ u, RelV c u → u = cv) ∧ PySem.W.kitOne K (.ref C) cv = some b ∧ Q (.bl b) H
theorem call_isK {X : Cx} : CallR X (.builtin "isinstance") (rIsK X.K) := by
  intro pins s σ H xs us Q I hv h
  obtain ⟨a, C, d, c, cv, b, rfl, ha, hd, T, hc, hk, q⟩ := h
  cases hv with
  | cons r1 r2 =>
    cases r2 with
    | cons r2 r3 =>
      cases r3
      obtain rfl : _ = Value.ref a := r1
      obtain rfl := hc _ r2
      obtain ⟨oe, vs, e1, z, f⟩ := XO_inv (I.hok a _ ha)
      have ex : ∃ od, PySem.W.InstAt s.heap a oe C od := by
        cases d with
        | none => exact ⟨none, e1, z.1, by unfold PySem.W.notCls; rw [f] <;> rfl, by rw [z.2]; trivial⟩
        | some dd =>
          obtain ⟨fs, hdd⟩ := hd dd rfl
          have hx : ObjOk X.prog X.w H s.heap dd (.xd fs) := I.hok dd _ hdd
          obtain ⟨mA, hns, hr⟩ := hx
          obtain ⟨od, ho, look⟩ := lookIn_ns hns
          exact ⟨some od, e1, z.1, by unfold PySem.W.notCls; rw [f] <;> rfl, by rw [z.2]; exact ho⟩
      obtain ⟨od, IA⟩ := ex
      exact PySem.W.kia_one (PySem.W.kitx_exc T.some T.ga T.gg T.sb T.cl T.sp T.tk T.mr) I.kIn IA hk (by simp) fun tk => ⟨.bl b, H, I.kept fun _ _ z => z, rfl, q⟩
end ON

set_option Elab.async false
set_option linter.all false
set_option maxRecDepth 100000
set_option maxHeartbeats 2000000
/-! OX3: defs that may raise, raise, try .. except .. as e: kept = e -/
namespace ON
open PySem L2
def xenc {γ : Type} [Enc γ] : Xr γ → D ⊕ Er
  | .ok a => .inl (enc a)
  | .er e => .inr e
/-- the promise of a def that may raise -/
def spX (K : PySem.W.Frag) (n : Nat) (s : Sh) (pre : List D → D ⊕ Er → Prop) : Sp := fun vs H Q E => ∃ (B : Hp) (ds : List D) (r : D ⊕ Er), pre ds r ∧ vs.length = n ∧ Gr B H ∧ Rps K B vs ds ∧
  (∀ d, r = .inl d → ∀ v B' H' f, Gr B B' → Gr B' H' → Gr H H' → (∀ a o, B' a = some o → B a = none → H a = none) → Ow K B' H' s v d f → f.Nodup → (∀ a ∈ f, B' a = none ∧ H a = none) → Q v H') ∧
  (∀ e, r = .inr e → ∀ cls dd B' H', Gr B B' → Gr B' H' → Gr H H' → (∀ a o, B' a = some o → B a = none → H a = none) → ErOk K B' cls dd e → E cls dd H')
/-- an expression that may raise; what it gives is the asker's own, of shape s -/
def EvX (K : PySem.W.Frag) (W : Wr) {m : Type → Type} [Mn m] {α : Type} [Enc α] (s : Sh) (te : TE) (sd : List SD) (x : m (Xr α)) : Prop := ∀ (F : Fr) (σ : L2.St) (B H : Hp) (k : Int), Rel K F σ B H sd k → ∀ (r : Xr α) (k' : Int), Mn.run x k = some (r, k') →
  ∀ Q : VK, (∀ a, r = .ok a → ∀ v B' H', Rel K (F.push v s (enc a)) σ B' H' sd k' → Gr B B' → Q v H') →
    (∀ e, r = .er e → ∀ cls d B' H', Rel K F σ B' H' sd k' → Gr B B' → ErOk K B' cls d e → W.w cls d σ H') → te σ H Q
def EvK (K : PySem.W.Frag) {m : Type → Type} [Mn m] (t : L2.St → Hp → XK → Prop) (sd : List SD) (x : m Er) : Prop := ∀ (F : Fr) (σ : L2.St) (B H : Hp) (k : Int), Rel K F σ B H sd k → ∀ (e : Er) (k' : Int), Mn.run x k = some (e, k') →
  ∀ Q : XK, (∀ cls d B' H', Rel K F σ B' H' sd k' → Gr B B' → ErOk K B' cls d e → Q cls d H') → t σ H Q
/-- an answer that is the asker's own, or an error -/
instance (priority := high + 10) rtXF {s : Sh} {ρ : Type} [Enc ρ] : Rt (Xr (Fw s ρ)) where
  ok K W F B Q r k := match r with
    | .ok r => ∀ v σ' B' H' sd', Rel K (F.push v s (enc r.r)) σ' B' H' sd' k → Gr B B' → Q v H'
    | .er e => ∀ cls d σ' B' H', Rel K F σ' B' H' W.sd k → Gr B B' → ErOk K B' cls d e → W.w cls d σ' H'
  gr {K W F B C Q r k} g h := by
    cases r with
    | ok r => exact fun v σ' B' H' sd' R g' => h v σ' B' H' sd' R (g.trans g')
    | er e => exact fun cls d σ' B' H' R g' => h cls d σ' B' H' R (g.trans g')
section
variable {K : PySem.W.Frag} {m : Type → Type} [Mn m] {α β γ τ τ' τ'' l ρ : Type} {sd : List SD} {ta te : TE} {W : Wr} {post : τ → List SD} {postL : l → List SD} {ts tu : TS}
@[irreducible] def xbnd (x : m (Xr α)) (f : α → m (Fl τ l (Xr ρ))) : m (Fl τ l (Xr ρ)) := Mn.bnd x fun r => match r with
  | .ok a => f a
  | .er e => Mn.pur (.rt (.er e))
theorem ex_call {tr : TA} [Enc γ] {n : Nat} {s : Sh} {pre : List D → D ⊕ Er → Prop} {y : m β} {g : β → List D} {f : β → Option (Xr γ)} (h : EvA K tr sd y g) (hn : ∀ b, (g b).length = n) (hp : ∀ b r, f b = some r → pre (g b) (xenc r)) :
    EvX K W s (tCallS (spX K n s pre) (WE W.w) tr) sd (Mn.bnd y fun b => lift (f b)) := fun F σ B H k R c k' e Q q qx => by
  obtain ⟨b, k1, e1, e⟩ := bnd_some e
  obtain ⟨hf, rfl⟩ := lift_some e
  refine h F σ B H k R b _ e1 _ fun vs B1 H1 R1 g1 r1 => ?_
  refine ⟨B1, g b, xenc c, hp b c hf, by rw [r1.len, hn], R1.bh, r1, fun d hd v B' H' f2 g2 g3 g4 hn w nd hf2 => ?_, fun er he cls dd B' H' g2 g3 g4 hn r => ?_⟩
  · cases c with
    | ok a => cases hd; exact q a rfl v B' H' (R1.push w nd hf2 g2 g3 g4 hn) (g1.trans g2)
    | er e => cases hd
  · cases c with
    | ok a => cases he
    | er e5 => cases he; exact qx _ rfl cls dd B' H' (R1.called g2 g3 g4 hn) (g1.trans g2) r
theorem es_setX [Enc α] [Enc ρ] {i : Nat} {x : m (Xr α)} {f : α → m (Fl τ l (Xr ρ))} (h : EvX K W .dat te sd x) (hl : Le sd W.sd) (hf : ∀ a, EvS K W tu (sd.set i (.dat (enc a))) post postL (f a)) : EvS K W (tSeq (tAsg te (gName i)) tu) sd post postL (xbnd x f) := fun F σ B H k R r k' e D q => by
  unfold xbnd at e
  obtain ⟨a, k1, e1, e2⟩ := bnd_some e
  cases a with
  | ok a => exact h F σ B H k R _ k1 e1 _ (fun b hb v B' H' R' g => by cases hb; obtain ⟨B2, R2, g2, rv⟩ := R'.frzX rfl; exact hf a F _ B2 H' k1 (R2.setDat rv) r k' e2 D (q.gr (g.trans g2))) fun e he => by cases he
  | er e3 =>
    obtain ⟨rfl, rfl⟩ := pur_some e2
    exact h F σ B H k R _ _ e1 _ (fun b hb => by cases hb) fun e4 he cls d B' H' R' g ro => by cases he; exact q cls d σ B' H' (R'.le hl) g ro
theorem es_set1X [Enc α] [Enc ρ] {i : Nat} {x : m (Xr α)} {f : α → τ} (h : EvX K W .dat te sd x) (hl : Le sd W.sd) (hf : ∀ a, Le (sd.set i (.dat (enc a))) (post (f a))) : EvS K W (tAsg te (gName i)) sd post postL (xbnd x fun a => (Mn.pur (.nx (f a)) : m (Fl τ l (Xr ρ)))) := fun F σ B H k R r k' e D q => by
  unfold xbnd at e
  obtain ⟨a, k1, e1, e2⟩ := bnd_some e
  cases a with
  | ok a =>
    obtain ⟨rfl, rfl⟩ := pur_some e2
    exact h F σ B H k R _ _ e1 _ (fun b hb v B' H' R' g => by cases hb; obtain ⟨B2, R2, g2, rv⟩ := R'.frzX rfl; exact q _ B2 H' ((R2.setDat rv).le (hf a)) (g.trans g2)) fun e he => by cases he
  | er e3 =>
    obtain ⟨rfl, rfl⟩ := pur_some e2
    exact h F σ B H k R _ _ e1 _ (fun b hb => by cases hb) fun e4 he cls d B' H' R' g ro => by cases he; exact q cls d σ B' H' (R'.le hl) g ro
theorem es_dropX [Enc α] [Enc ρ] {x : m (Xr α)} {f : α → m (Fl τ l (Xr ρ))} (h : EvX K W .dat te sd x) (hl : Le sd W.sd) (hf : ∀ a, EvS K W tu sd post postL (f a)) : EvS K W (tSeq (tDrop te) tu) sd post postL (xbnd x f) := fun F σ B H k R r k' e D q => by
  unfold xbnd at e
  obtain ⟨a, k1, e1, e2⟩ := bnd_some e
  cases a with
  | ok a => exact h F σ B H k R _ k1 e1 _ (fun b hb v B' H' R' g => by cases hb; exact hf a F _ B' H' k1 R'.pop r k' e2 D (q.gr g)) fun e he => by cases he
  | er e3 =>
    obtain ⟨rfl, rfl⟩ := pur_some e2
    exact h F σ B H k R _ _ e1 _ (fun b hb => by cases hb) fun e4 he cls d B' H' R' g ro => by cases he; exact q cls d σ B' H' (R'.le hl) g ro
/-- return e, e may raise -/
theorem es_retX [Enc ρ] {x : m (Xr ρ)} (h : EvX K W .dat te sd x) (hl : Le sd W.sd) : EvS K W (tRet te) sd post postL (Mn.bnd x fun r => (Mn.pur (.rt r) : m (Fl τ l (Xr ρ)))) := fun F σ B H k R f k' e D q => by
  obtain ⟨r, k1, e1, e2⟩ := bnd_some e
  obtain ⟨rfl, rfl⟩ := pur_some e2
  cases r with
  | ok a => exact h F σ B H k R _ _ e1 _ (fun b hb v B' H' R' g => by cases hb; obtain ⟨B2, R2, g2, rv⟩ := R'.frzX rfl; exact q v σ B2 H' sd R2 (g.trans g2) rv) fun e he => by cases he
  | er e3 => exact h F σ B H k R _ _ e1 _ (fun b hb => by cases hb) fun e4 he cls d B' H' R' g ro => by cases he; exact q cls d σ B' H' (R'.le hl) g ro
/-- return e in a def that may raise -/
theorem es_retO [Enc ρ] {x : m ρ} (h : EvM K te sd x) : EvS K W (tRet te) sd post postL (Mn.bnd x fun r => (Mn.pur (.rt (.ok r)) : m (Fl τ l (Xr ρ)))) := fun F σ B H k R f k' e D q => by
  obtain ⟨r, k1, e1, e2⟩ := bnd_some e
  obtain ⟨rfl, rfl⟩ := pur_some e2
  exact h F σ B H k R r _ e1 _ fun v B' H' R' g rr => q v σ B' H' sd R' g rr
theorem es_retOS [Enc ρ] {x : m ρ} (h : EvM K te sd x) : EvS K W (tSeq (tRet te) tu) sd post postL (Mn.bnd x fun r => (Mn.pur (.rt (.ok r)) : m (Fl τ l (Xr ρ)))) := fun F σ B H k R f k' e D q => by
  obtain ⟨r, k1, e1, e2⟩ := bnd_some e
  obtain ⟨rfl, rfl⟩ := pur_some e2
  exact h F σ B H k R r _ e1 _ fun v B' H' R' g rr => q v σ B' H' sd R' g rr
theorem es_setXF [Enc α] [Enc ρ] {s : Sh} {i : Nat} {x : m (Xr α)} {f : α → m (Fl τ l (Xr ρ))} (h : EvX K W s te sd x) (hl : Le sd W.sd) (hf : ∀ a, EvS K W tu (sd.set i (.own s (enc a))) post postL (f a)) : EvS K W (tSeq (tAsg te (gName i)) tu) sd post postL (xbnd x f) := fun F σ B H k R r k' e D q => by
  unfold xbnd at e
  obtain ⟨a, k1, e1, e2⟩ := bnd_some e
  cases a with
  | ok a => exact h F σ B H k R _ k1 e1 _ (fun b hb v B' H' R' g => by cases hb; exact hf a F _ B' H' k1 R'.toSlot r k' e2 D (q.gr g)) fun e he => by cases he
  | er e3 =>
    obtain ⟨rfl, rfl⟩ := pur_some e2
    exact h F σ B H k R _ _ e1 _ (fun b hb => by cases hb) fun e4 he cls d B' H' R' g ro => by cases he; exact q cls d σ B' H' (R'.le hl) g ro
/-- raise -/
def tRaise (t : L2.St → Hp → XK → Prop) (w : WX) : TS := fun _ σ H => t σ H fun cls d H' => w cls d σ H'
theorem es_raise [Enc ρ] {t : L2.St → Hp → XK → Prop} {x : m Er} (h : EvK K t sd x) (hl : Le sd W.sd) : EvS K W (tRaise t W.w) sd post postL (Mn.bnd x fun e => (Mn.pur (.rt (.er e)) : m (Fl τ l (Xr ρ)))) := fun F σ B H k R f k' e D q => by
  obtain ⟨r, k1, e1, e2⟩ := bnd_some e
  obtain ⟨rfl, rfl⟩ := pur_some e2
  exact h F σ B H k R r _ e1 _ fun cls d B' H' R' g ro => q cls d σ B' H' (R'.le hl) g ro
/-- an error made: C(v), its field n -/
def tMk (C : Addr) (n : Str) (ok : V → Prop) (ta : TA) : L2.St → Hp → XK → Prop := fun σ H Q => ta σ H fun vs H1 => ∃ v, vs = [v] ∧ ok v ∧ ∀ d, H1 d = none → Q (.ref C) (some d) (upd H1 d (.xd [(n, v)]))
theorem ek_mk [Enc α] {C : Addr} {c n : Str} {ok : V → Prop} {okd : α → Prop} [DecidablePred okd] {tr : TA} {x : m α} (hc : PySem.W.nsIn K mainGlobals c = some (some (.ref C))) (h : EvA K tr sd x (fun a => [enc a])) (ho : ∀ a B v, okd a → Rp K B v (enc a) → ok v) :
    EvK K (tMk C n ok tr) sd (Mn.bnd x fun a => gd (okd a) (Mn.pur (⟨c, some (n, enc a)⟩ : Er))) := fun F σ B H k R e k' he Q q => by
  obtain ⟨a, k1, e1, e2⟩ := bnd_some he
  obtain ⟨hg, e3⟩ := gd_some e2
  obtain ⟨rfl, rfl⟩ := pur_some e3
  refine h F σ B H k R a _ e1 _ fun vs B1 H1 R1 g1 r1 => ?_
  cases r1 with | cons r1 hs =>
    cases hs
    refine ⟨_, rfl, ho a _ _ hg r1, fun d hd => ?_⟩
    obtain ⟨R2, g2⟩ := R1.data (o := .xd [(n, _)]) hd
    exact q _ _ _ _ R2 (g1.trans g2) ⟨C, hc, rfl, d, _, rfl, upd_same, r1.gr g2⟩
/-- try: body; except .. as (slot i): (slot j) = (slot i) -/
@[irreducible] def tryK (names : List Str) (mg : τ' ⊕ Er → τ) (x : m (Fl τ' l (Xr ρ))) : m (Fl τ l ρ) := Mn.bnd x fun r => match r with
  | .nx t => Mn.pur (.nx (mg (.inl t)))
  | .bk t => Mn.pur (.bk t)
  | .ct t => Mn.pur (.ct t)
  | .rt (.ok r) => Mn.pur (.rt r)
  | .rt (.er e) => gd (e.c ∈ names) (Mn.pur (.nx (mg (.inr e))))
def tTryK (K : PySem.W.Frag) (c : Value) (i j : Nat) (tb : WX → TS) : TS := fun D σ H => tb (wKeep K c i (fun _ _ _ => tAsg (tVar i) (gName j)) D) D σ H
theorem es_try [Enc ρ] {c : Value} {i j : Nat} {names : List Str} {mg : τ' ⊕ Er → τ} {tb : WX → TS} {xb : m (Fl τ' l (Xr ρ))} {sdE : List SD} {mid : τ' → List SD} (hij : i ≠ j) (hi : i < sdE.length)
    (hb : ∀ w : WX, EvS K ⟨w, sdE⟩ (tb w) sd mid postL xb) (hn : ∀ n ∈ names, ∀ C, PySem.W.nsIn K mainGlobals n = some (some (.ref C)) → PySem.W.exmOne K (.ref C) c = some true)
    (h1 : ∀ t, Le (mid t) (post (mg (.inl t)))) (h2 : ∀ e : Er, Le ((sdE.set j (.dat (enc e))).set i .un) (post (mg (.inr e)))) :
    EvS K W (tTryK K c i j tb) sd post postL (tryK names mg xb : m (Fl τ l ρ)) := fun F σ B H k R f k' e D q => by
  unfold tryK at e
  obtain ⟨r, k1, e1, e2⟩ := bnd_some e
  refine hb _ F σ B H k R r k1 e1 D ?_
  cases r with
  | nx t => obtain ⟨rfl, rfl⟩ := pur_some e2; exact fun σ' B' H' R' g => q σ' B' H' (R'.le (h1 t)) g
  | bk t => obtain ⟨rfl, rfl⟩ := pur_some e2; exact q
  | ct t => obtain ⟨rfl, rfl⟩ := pur_some e2; exact q
  | rt z =>
    cases z with
    | ok z => obtain ⟨rfl, rfl⟩ := pur_some e2; exact q
    | er z =>
      obtain ⟨hm, e3⟩ := gd_some e2
      obtain ⟨rfl, rfl⟩ := pur_some e3
      intro cls d σ' B' H' R' g ro
      have R0 : Rel K F σ' B' H' sdE _ := R'
      obtain ⟨C, hC, hcls, _⟩ := id ro
      refine ⟨by rw [hcls]; exact hn _ hm C hC, fun a ha => ?_⟩
      have li : i < σ'.length := by rw [← R0.len]; exact hi
      refine ⟨.ref a, List.getElem?_set_self li, fun _ => ?_⟩
      obtain ⟨R1, g1⟩ := R0.data (o := XO cls d a) ha
      have rk := (ro.gr g1).kept upd_same
      have R2 := ((R1.setDat (i := i) rk).setDat (i := j) rk).setUn (i := i) (o' := none)
      refine q _ _ _ (R2.le ?_) (g.trans g1)
      rw [List.set_comm _ _ hij, List.set_set]
      exact h2 z
/-- the end of a def that may raise -/
theorem fin_X {N : List Str} {n : Nat} {pre : List D → D ⊕ Er → Prop} {vs : List V} {H : Hp} {Q : VK} {E : XK} {ts : TS} (h : spX K n .dat pre vs H Q E)
    (hb : ∀ ds r, pre ds r → ∃ (ρ : Type) (_ : Enc ρ) (x : Option (Fl Empty Empty (Xr ρ))) (z : Xr ρ), EvS K ⟨fun cls d _ H => E cls d H, List.replicate N.length .un⟩ ts (sd0 N.length ds) noEnd noEnd x ∧ x = some (.rt z) ∧ xenc z = r) : ts { nx := fun _ H' => Q .non H', rt := Q } (L2.start N vs) H := by
  obtain ⟨B, ds, r, hp, hn, g, rs, q, qx⟩ := h
  obtain ⟨ρ, i, x, z, hx, ex, rfl⟩ := hb ds r hp
  refine hx _ _ B H 0 (Rel.init g rs) (.rt z) 0 (by rw [ex]; rfl) _ ?_
  cases z with
  | ok z => exact fun v σ' B' H' sd' R' g' rv => q _ rfl v B' H' [] R'.b0 R'.bh (R'.fr0 rfl) (fun a o e e0 => R'.bn a o e e0) ⟨rfl, rv⟩ .nil fun _ m => nomatch m
  | er z => exact fun cls d σ' B' H' R' g' ro => qx _ rfl cls d B' H' R'.b0 R'.bh (R'.fr0 rfl) (fun a o e e0 => R'.bn a o e e0) ro
/-- .. that gives out what is the asker's own -/
theorem fin_XF {N : List Str} {n : Nat} {s : Sh} {pre : List D → D ⊕ Er → Prop} {vs : List V} {H : Hp} {Q : VK} {E : XK} {ts : TS} (h : spX K n s pre vs H Q E)
    (hb : ∀ ds r, pre ds r → ∃ (ρ : Type) (_ : Enc ρ) (x : Option (Fl Empty Empty (Xr (Fw s ρ)))) (z : Xr ρ), EvS K ⟨fun cls d _ H => E cls d H, List.replicate N.length .un⟩ ts (sd0 N.length ds) noEnd noEnd x ∧ x = some (.rt (match z with | .ok z => .ok ⟨z⟩ | .er e => .er e)) ∧ xenc z = r) : ts { nx := fun _ H' => Q .non H', rt := Q } (L2.start N vs) H := by
  obtain ⟨B, ds, r, hp, hn, g, rs, q, qx⟩ := h
  obtain ⟨ρ, i, x, z, hx, ex, rfl⟩ := hb ds r hp
  refine hx _ _ B H 0 (Rel.init g rs) _ 0 (by rw [ex]; rfl) _ ?_
  cases z with
  | ok z =>
    exact fun v σ' B' H' sd' R' g' => by
      obtain ⟨f, w, nd, hf, _⟩ := R'.top
      exact q _ rfl v B' H' f R'.b0 R'.bh (R'.fr0 rfl) (fun a o e e0 => R'.bn a o e e0) w nd fun a m => ⟨(hf a m).1, (hf a m).2.1⟩
  | er z => exact fun cls d σ' B' H' R' g' ro => qx _ rfl cls d B' H' R'.b0 R'.bh (R'.fr0 rfl) (fun a o e e0 => R'.bn a o e e0) ro
end
end ON

set_option Elab.async false
set_option linter.all false
set_option maxRecDepth 100000
set_option maxHeartbeats 2000000
/-! OX4: an own error whose __init__ says super().__init__(f'..{spot}'), then self.spot = spot -/
namespace ON
open PySem PySem.W PySem.Calls PyProof.Rows PySem.HandSPX
def siA (p1 p2 : Pos) : Arguments := { posonlyargs := [], args := [{ arg := "self", annotation := none, pos := p1 }, { arg := "spot", annotation := none, pos := p2 }], vararg := none, kwonlyargs := [], kw_defaults := [], kwarg := none, defaults := [] }
def siB (pre : Str) (q : Nat → Pos) : List Stmt := [
  .Expr (.Call (.Attribute (.Call (.Name "super" (q 0)) [] [] (q 1)) "__init__" (q 2)) [.JoinedStr [.Constant (.str pre) 0 (q 3), .FormattedValue (.Name "spot" (q 4)) (-1) none (q 5)] (q 6)] [] (q 7)) (q 8),
  .Assign [.Attribute (.Name "self" (q 9)) "spot" (q 10)] (.Name "spot" (q 11)) (q 12)]
def siS : Scope := { kind := .function, names := [(PySem.Str.ofString "self", .local), (PySem.Str.ofString "spot", .local), (PySem.Str.ofString "__class__", .free), (PySem.Str.ofString "super", .globalImplicit)], isGenerator := false, isCoroutine := false, more := [] }
/-- a heap without x -/
def era (h : Heap) (x : Addr) : Heap := { h with objs := h.objs.setIfInBounds x ⟨.none, none, .freed, #[]⟩ }
theorem era_ne {h : Heap} {x b : Addr} (n : b ≠ x) : (era h x).get? b = h.get? b := by
  unfold Heap.get? era
  rw [Array.getElem?_setIfInBounds_ne (Ne.symm n)]
theorem era_eq {h : Heap} {x : Addr} : (era h x).get? x = none := by
  unfold Heap.get? era
  by_cases c : x < h.objs.size
  · rw [Array.getElem?_setIfInBounds_self_of_lt c]
  · rw [Array.getElem?_eq_none (by rw [Array.size_setIfInBounds]; exact Nat.le_of_not_lt c)]
theorem era_sz {h : Heap} {x : Addr} : (era h x).objs.size = h.objs.size := by unfold era; exact Array.size_setIfInBounds
/-- whether a call's receiver is looked up plainly -/
def plOf (o : PySem.Expr) (env : Env) : Sem Bool := do
      let __do_lift ← importBound o env
      pure (__do_lift.getD true)
theorem mc_eq {o a : PySem.Expr} {name : Str} {apos pos : Pos} {env : Env} (h : (apos.endLine == pos.line) = true) (ha : starEach [a] env = [(false, eval a env)]) :
    eval ((o.Attribute name apos).Call [a] [] pos) env = (do
            let ov ← attributeBase o name env (eval o env)
            standAt apos.atName
            let __x ← holding [ov] (getMethod ov name (plOf o env))
            (match __x with
              | (f, first) => callWith pos f first (backTo pos (starEach [a] env)) [])) := by
  rw [arm_eval_Call]
  have hp : methodCallPos true o env apos pos = pure pos := by
    unfold methodCallPos
    rw [h]; rfl
  have hf : methodCallForm ([a].length + ([] : List Keyword).length) (backTo pos (starEach [a] env)) (backToKw pos (keywordEach [] env)) = true := by
    rw [ha]; rfl
  unfold methodCall
  rw [hf]
  simp only [hp]
  rfl
/-- what can stand in the braces -/
def Fmt (P : Program) (w : World) (h : Heap) (v : Value) : Prop := ∀ (A : Around) (E : Value → Shared → Prop) (s : Shared) (Q : Value → Shared → Prop), (∀ b o, h.get? b = some o → s.heap.get? b = some o) → (∀ y t tk, y.length ≤ 100000 → Q (.str y t) { s with toks := tk }) → wpAny (model P w) A (formatField v Str.empty) Q E s
structure SupTxt (P : Program) (K : Frag) (mg : Str → Option Value) (C fI cc cda : Addr) (qual pre : Str) : Prop where
  cls : ∃ nm q N bs bm sn sub ab col dd k0 k1 k2 k3 k5, K.lookup C = some (excClassObj nm q C N bs bm true sn sub ab col dd k0 k1 k2 k3 k5 "ValueError.__new__") ∧ refsVE bm = true ∧ alongIn K "__init__" bm = some (some (.builtin "ValueError.__init__"))
  iniC : excInitIn K C [.type "ValueError", .type "Exception", .type "BaseException", .type "object"] "ValueError.__new__" = true
  sa : findIn K (.ref C) "__setattr__" = some (some (.builtin "object.__setattr__"))
  noN : findIn K (.ref C) "spot" = some none
  iC : findIn K (.ref C) "__init__" = some (some (.ref fI))
  tC : typeIn K (.ref fI) = some (.type "function")
  own : subIn K (.ref C) (.ref C) = some true
  ve : subIn K (.ref C) (.type "ValueError") = some true
  st : nsIn K cStatics "thirdparty.any" = some none
  gS : mg "super" = none
  gP : (P.main.scope.names.lookup (PySem.Str.ofString "super")).isSome = false
  pl : pre.length ≤ 1000
  cel : ∃ cl cld csl, K.lookup cc = some ⟨cl, cld, .cell (some (.ref C)), csl⟩
  fn : ∃ (oc : Value) (od : Option Addr) (doc pm : Value) (an : Option Addr) (ct : Value) (osl : Array (Option Value)) (p1 p2 : Pos) (q : Nat → Pos), ((q 2).endLine == (q 7).line) = true ∧
    K.lookup fI = some ⟨oc, od, .func (ksFn "__init__" qual (siA p1 p2) (siB pre q) siS .none .none doc pm an (.ref cda) ct cc), osl⟩ ∧ codeIn K (.ref cda) qual = true
  cda : ∃ ccl cdd ccs vs file tf, K.lookup cda = some ⟨ccl, cdd, .fields vs, ccs⟩ ∧ vs[2]? = some (.str file tf) ∧ (P.main.file == file) = true
section
variable {P : Program} {w : World} {A : Around} {E : Value → Shared → Prop} {R : Result → Shared → Prop} {s : Shared} {K : Frag} {mg mb : Str → Option Value} {C fI cc cda : Addr} {qual pre : Str}
theorem wpAt_of {α : Type} {M : Model} {c : Code} {t : Sem α} {Q : α → Shared → Prop} (h : wpAny M A t Q E s) : PySem.wpAt M A c t Q E s := fun Γ p _ hi => h Γ p hi
theorem sup_init (T : SupTxt P K mg C fI cc cda qual pre) {x t0 : Addr} {v : Value} (X : K.In s.heap) (hlim : s.heap.NoLimit) (hG : s.heap.Ns mainGlobals mg) (hB : s.heap.Ns builtinsNs mb) (hS : mb "super" = some (.type "super"))
    (hx : s.heap.get? x = some (excO C t0)) (hnx : K.lookup x = none) (hroom : A.depth < recursionLimit) (hv : Fmt P w (era s.heap x) v)
    (hq : ∀ h' tk dx t1, (∀ b o, b ≠ x → s.heap.get? b = some o → h'.get? b = some o) → h'.get? x = some { cls := .ref C, dict := some dx, data := .fields #[.ref t1, .none, .none, .none, .bool false, .none] } → s.heap.objs.size ≤ dx → dx ≠ x → (h'.Ns1 dx fun y => if y = "spot" then some v else none) → R (.ok (.ret .none)) { s with heap := h', toks := tk }) :
    codeAny (model P w) A (.call (.ref fI) ⟨[.ref x, v], []⟩) R s := by
  obtain ⟨oc, od, doc, pm, an, ct, osl, p1, p2, q, hpos, ho, hcd⟩ := T.fn
  obtain ⟨nm, qn, N, bs, bm, sn, sub, ab, col, dd, k0, k1, k2, k3, k5, hC, hbm, hal⟩ := T.cls
  obtain ⟨cl, cld, csl, hcell⟩ := T.cel
  obtain ⟨ccl, cdd, ccs, vs, file, tf, hcda, hvs, hfile⟩ := T.cda
  refine ks_codeAny_call_defAt (binds := [("self", .ref x), ("spot", v)]) hroom (X _ _ ho) rfl hlim ?code rfl (BindsTo.of_eq (by first | rfl | with_unfolding_all rfl)) ?nc ?nl (fun h₁ hn k => ?_) rfl rfl rfl
  case code => exact codeRec_of X hcd
  case nc => exact (by decide : ∀ y ∈ siS.names, y.2 ≠ .cell)
  case nl =>
    intro y hy
    rcases List.mem_cons.mp hy with rfl | hy
    · rfl
    · rcases List.mem_cons.mp hy with rfl | hy
      · rfl
      · cases hy
  have X₁ : K.In h₁ := X.keeps k
  have ne : ∀ {a : Addr} {o : Obj}, K.lookup a = some o → a ≠ x := fun e z => by rw [z, hnx] at e; cases e
  let env : Env := ksEnv "__init__" siS s.heap.objs.size fI (.ref cda) cc
  refine ks_wpAt_execs_cons ?_
  refine ks_wpAt_Expr_any ?_
  refine ks_wpAt_MethodCall ?_ (mc_eq hpos rfl)
  refine ks_wpAt_super_base rfl rfl rfl rfl (X₁ _ _ ho) rfl rfl rfl (X₁ _ _ hcda) rfl hvs hfile T.gP ?_
  refine ks_loadName_global rfl rfl (loadGlobal_builtin (hG.keeps k) T.gS (hB.keeps k) hS ⟨rfl, ?_⟩)
  refine wpAny_loadName_free rfl rfl rfl ⟨_, X₁ _ _ hcell, rfl⟩ ?_
  refine wpAny_loadName_local rfl rfl hn rfl ?_
  refine ks_wpAny_isType_cls (X₁ _ _ hC) rfl ⟨rfl, ?_⟩
  refine ks_wpAny_call_super (X₁ _ _ hC) rfl (k _ _ hx) rfl (fun c z => by cases z) (looks_subIn X₁ T.own) fun h₂ hso k₂ => ?_
  have hL : x < s.heap.objs.size := Heap.lt_size hx
  have z₁ : s.heap.objs.size < h₁.objs.size := hn.lt
  have K₀ : K.In (era s.heap x) := fun a o e => by rw [era_ne (ne e)]; exact X _ _ e
  have old : ∀ {h' : Heap}, (∀ b o, h₁.get? b = some o → h'.get? b = some o) → ∀ b o, (era s.heap x).get? b = some o → h'.get? b = some o := fun kk b o e => by
    by_cases c : b = x
    · subst c; rw [era_eq] at e; cases e
    · rw [era_ne c] at e; exact kk _ _ (k _ _ e)
  have F₂ : PyProof.Rows.Fr (era s.heap x) s.heap.objs.size h₂ _ := ⟨hn.keeps k₂, old k₂, Nat.le_of_eq era_sz⟩
  have gone : ∀ b, s.heap.objs.size ≤ b → (era s.heap x).get? b = none := fun b hb => by
    cases e : (era s.heap x).get? b with
    | none => rfl
    | some o => exact absurd (Heap.lt_size e) (by rw [era_sz]; exact Nat.not_lt_of_le hb)
  have N₂ : News (era s.heap x) s.heap.objs.size h₂ [(h₁.objs.size, ks_superObj C x C), (x, excO C t0)] := fun p hp => by
    rcases List.mem_cons.mp hp with rfl | hp
    · exact ⟨hso, Nat.ne_of_gt z₁, gone _ (Nat.le_of_lt z₁)⟩
    · rcases List.mem_cons.mp hp with rfl | hp
      · exact ⟨k₂ _ _ (k _ _ hx), Nat.ne_of_lt hL, era_eq⟩
      · cases hp
  have hcl : clsIn K C = some { name := nm, bases := bs, mro := .ref C :: bm, ns := N, qualname := qn, hasDict := true, slotNames := sn, subclasses := sub, abstract := ab, collection := col, hasDel := false } := by unfold clsIn; rw [hC] <;> rfl
  refine kxs_method kxs_ValueError F₂ K₀ N₂ List.mem_cons_self (ox := excO C t0) (odx := none) ⟨k₂ _ _ (k _ _ hx), rfl, rfl, trivial⟩ T.st ?si T.ve rfl fun u h₃ F₃ N₃ lt₃ => ?_
  case si =>
    unfold ks_superIn
    rw [hcl]
    show alongIn K _ (List.drop 1 (List.dropWhile (fun x => x != Value.ref C) (Value.ref C :: bm))) = _
    rw [show List.drop 1 (List.dropWhile (fun x => x != Value.ref C) (Value.ref C :: bm)) = bm from by simp [List.dropWhile]]; exact hal
  refine kxs_callWith1 N₃ List.mem_cons_self (spliced_more ?_)
  have fits : ∀ y : Str, y.length ≤ 100000 → (Str.empty ++ pre ++ y).length ≤ sizeLine := fun y hy => by
    rw [Str.empty_append, Str.length_append]
    exact Nat.le_trans (Nat.add_le_add T.pl hy) (by decide)
  refine wpAny_JoinedStr ?_
  refine wpAny_Constant_str ?_
  refine ⟨_, _, rfl, ?len, ?_⟩
  case len => exact Nat.le_trans (Nat.le_of_eq (by rw [Str.empty_append])) (Nat.le_trans T.pl (by decide))
  refine wpAny_FormattedValue_plain (wpAny_Name (wpAny_loadName_local rfl rfl F₃.ns rfl ?_) rfl)
  refine hv _ _ _ _ F₃.keep fun y ty tk hy => ⟨_, _, rfl, ?len2, ?len3, ?_⟩
  case len2 => exact fits y hy
  case len3 => exact fits y hy
  refine spliced_none ⟨N₃ _ List.mem_cons_self |>.1, ?_⟩
  refine kxs_call (t := t0) (dv := none) (c2 := .none) F₃ K₀ N₃ F.excBase_ValueError T.iniC List.mem_cons_self (.tail ?n1 (.tail ?n2 (.head ?n3))) (by exact (by decide : 1 ≤ sizeLine)) fun t' h₄ F₄ N₄ lt₄ => ?_
  case n3 => exact fun p hp => nomatch hp
  case n1 => exact Nat.ne_of_gt (lt₃ (x, excO C t0) (List.mem_cons_of_mem _ List.mem_cons_self))
  case n2 => exact fun z => absurd hL (by rw [← z]; exact Nat.not_lt_of_le (Nat.le_of_lt z₁))
  have X₄ : K.In h₄ := K₀.keeps F₄.keep
  have hx₄ : h₄.get? x = some (excO C t') := (N₄ (x, excO C t') (by simp)).1
  refine wpAt_of ?_
  refine wpAny_execs_cons (plainObj_wpAny_Assign_Attribute ?_)
  refine wpAny_Name (wpAny_loadName_local rfl rfl F₄.ns rfl ?_) rfl
  refine wpAny_Name (wpAny_loadName_local rfl rfl F₄.ns rfl ?_) rfl
  refine set_plain X₄ (ox := excO C t') (od := none) ⟨hx₄, rfl, rfl, trivial⟩ T.sa ?_
  refine exc_osa X₄ hx₄ hcl (show refsVE (.ref C :: bm) = true from hbm) rfl T.noN (fun h₅ tk₅ dx k₅ dn dne hx₅ hn₅ => ?_)
  refine wpAny_execs_nil (hq h₅ _ dx t' (fun b o hb e => k₅ b o hb (F₄.keep b o (by rw [era_ne hb]; exact e))) hx₅ (Nat.le_trans (Nat.le_of_lt F₄.ns.lt) dn) dne hn₅)
theorem sup_made (T : SupTxt P K mg C fI cc cda qual pre) {v : Value} (X : K.In s.heap) (hlim : s.heap.NoLimit) (hG : s.heap.Ns mainGlobals mg) (hB : s.heap.Ns builtinsNs mb) (hS : mb "super" = some (.type "super"))
    (hroom : A.depth + 1 < recursionLimit) (hv : Fmt P w s.heap v)
    (hq : ∀ h' tk e dx t1, (∀ b o, s.heap.get? b = some o → h'.get? b = some o) → s.heap.objs.size ≤ e → h'.get? e = some { cls := .ref C, dict := some dx, data := .fields #[.ref t1, .none, .none, .none, .bool false, .none] } → s.heap.objs.size ≤ dx → dx ≠ e → (h'.Ns1 dx fun y => if y = "spot" then some v else none) → R (.ok (.ret (.ref e))) { s with heap := h', toks := tk }) :
    codeAny (model P w) A (.call (.ref C) ⟨[v], []⟩) R s := by
  obtain ⟨nm, qn, N, bs, bm, sn, sub, ab, col, dd, k0, k1, k2, k3, k5, hC, hbm, hal⟩ := T.cls
  obtain ⟨hp, g, dr, tk, os⟩ := s
  have k : ∀ b o, hp.get? b = some o → ((hp.push (kdv_tup [v])).push (excO C hp.objs.size)).get? b = some o := fun b o e => Heap.get?_push_of_some _ (Heap.get?_push_of_some _ e)
  have hget : ((hp.push (kdv_tup [v])).push (excO C hp.objs.size)).get? (hp.objs.size + 1) = some (excO C hp.objs.size) := by heap_get
  have hnx : K.lookup (hp.objs.size + 1) = none := by
    cases e : K.lookup (hp.objs.size + 1) with
    | none => rfl
    | some o => exact absurd (Nat.lt_of_succ_lt (Heap.lt_size (X _ _ e))) (Nat.lt_irrefl _)
  refine call_own F.excBase_ValueError (fun X => refsVE_contains X bm hbm) (X _ _ hC) (looks_findIn X T.iC) (fun self => bind_fn X self T.tC) (by exact (by decide : 1 ≤ sizeLine)) ?_
  have hv' : Fmt P w (era ((hp.push (kdv_tup [v])).push (excO C hp.objs.size)) (hp.objs.size + 1)) v := fun A E s Q kk qq => hv A E s Q (fun b o e => kk b o (by rw [era_ne (Nat.ne_of_lt (Nat.lt_succ_of_lt (Heap.lt_size e)))]; exact k b o e)) qq
  refine sup_init (s := ⟨(hp.push (kdv_tup [v])).push (excO C hp.objs.size), g, dr, tk, os⟩) T (X.keeps k) (hlim.keeps k) (hG.keeps k) (hB.keeps k) hS hget hnx hroom hv' fun h' tk' dx t1 k' hx dn dne hns => ?_
  have e2 : hp.objs.size + 1 + 1 ≤ dx := by rw [Heap.size_push, Heap.size_push] at dn; exact dn
  exact ⟨rfl, hq h' tk' (hp.objs.size + 1) dx t1 (fun b o e => k' b o (Nat.ne_of_lt (Nat.lt_succ_of_lt (Heap.lt_size e))) (k b o e)) (Nat.le_succ _) hx (Nat.le_trans (Nat.le_trans (Nat.le_succ _) (Nat.le_succ _)) e2) dne hns⟩
end
open L2
section
variable {X : L2.Cx} {C fI cc cda : Addr} {qual pre x : Str}
theorem pmk_sup {okv : V → Prop} {a : PySem.Expr} {ta : TA} {p pos : Pos} {k : Nat} (T : SupTxt X.prog X.K X.mg C fI cc cda qual pre) (hr : Room (k + 1) X.A) (gC : X.mg x = some (.ref C)) (kC : keepIn X.K (.ref C) = true) (rC : Raises X (.ref C))
    (hf : ∀ (H : Hp) (h : Heap) v u, HOk X.prog X.w H h → okv v → RelV v u → Fmt X.prog X.w h u) (ha : PA X [a] ta) (hg : Gl X x := by rfl) (hd : (x == ("__debug__" : Str)) = false := by decide)
    (he : starEach (a :: []) X.env = (false, eval a X.env) :: starEach [] X.env := by rfl) (hpl : (backTo pos (starEach [] X.env)).any (·.1) = false := by rfl) :
    PMk X (.Call (.Name x p) [a] [] pos) (tMk C "spot" okv ta) := by
  intro pins s σ H Q I h
  refine wpAny_Call_Name_kw (ld_glob I hg gC ?_ hd)
  refine PySem.W.callWith_K (h₀ := X.base) I.ok.mod.kin kC (thn (ha.run pos pins s σ H _ I h) fun us s1 hh => ?_) he hpl
  obtain ⟨vs, H1, I1, r1, v, ev, hok, q1⟩ := hh
  subst ev
  refine ⟨I1.kIn, ?_⟩
  cases r1 with
  | cons rv rn =>
    rename_i v' us'
    cases rn
    show wpAny _ _ (call (.ref C) [v']) _ _ _
    have hlim := I1.nolimit
    obtain ⟨mb, hB, hbl⟩ := I1.ok.mod.blt
    have base : ∀ b o, X.base.get? b = some o → s1.heap.get? b = some o := fun b o e => (I1.bs b o e).1
    have hG := I1.ok.mod.glob.keeps base
    have hB' := hB.keeps base
    have hS : mb "super" = some (.type "super") := by rw [hbl _ (by decide)]; rfl
    have hF := hf H1 s1.heap v v' I1.hok hok rv
    obtain ⟨hp, g, dr, tk, os⟩ := s1
    refine wpAny_call (sup_made T I1.kIn hlim hG hB' hS (by have := hr.dp; omega) hF fun h' tk' e d t1 keep newe hoe newd dne hns => ?_)
    show MkP X pins σ Q (.ref e) ⟨h', g, dr, tk', os⟩
    have ge : (era h' e).get? e = none := era_eq
    have old : ∀ b o, hp.get? b = some o → (era h' e).get? b = some o := fun b o q => (era_ne (Nat.ne_of_lt (Nat.lt_of_lt_of_le (Heap.lt_size q) newe))).trans (keep b o q)
    have ob : ObjOk X.prog X.w (upd H1 d (.xd [(("spot" : Str), v)])) (era h' e) d (.xd [(("spot" : Str), v)]) :=
      ⟨_, hns.at (fun o q => (era_ne dne).trans q), fun f => by
        by_cases hw : f = "spot"
        · subst hw
          rw [if_pos rfl, show List.lookup ("spot" : Str) [(("spot" : Str), v)] = some v from by simp [List.lookup]]
          exact rv
        · have qw : (f == ("spot" : Str)) = false := by simpa using hw
          have q2 : List.lookup f [(("spot" : Str), v)] = none := by simp [List.lookup, qw]
          rw [if_neg hw, q2]
          trivial⟩
    have J : L2.Inv X pins σ (upd H1 d (.xd [(("spot" : Str), v)])) ⟨era h' e, g, dr, tk', os⟩ := I1.laid (t' := tk') old newd ob
    refine ⟨e, _, _, ⟨era h' e, g, dr, tk', os⟩, _, .ref C, some d, rfl, J, fun b o q => ?_, ge, hoe, ⟨rfl, rfl⟩, rfl, rfl, ?_, rfl, I1.bare, rC, q1 d (I1.hok.fresh newd)⟩
    · by_cases hb : b = e
      · have q' : (era h' e).get? b = some o := q
        rw [hb, ge] at q'; cases q'
      · exact (era_ne hb).symm.trans q
    · rw [upd_ne (Ne.symm dne)]
      exact I1.hok.fresh newe
end
end ON

set_option Elab.async false
set_option linter.all false
set_option maxRecDepth 100000
set_option maxHeartbeats 2000000
/-! OX5: kept errors in expressions -/
namespace ON
open PySem L2
section
variable {K : PySem.W.Frag} {m : Type → Type} [Mn m] {α β γ τ l ρ : Type} {sd : List SD} {ta te : TE}
theorem Rp.er_inv {B : Hp} {v : V} {e : Er} (h : Rp K B v (enc e)) : ∃ (a C : Addr) (d : Option Addr), v = .ref a ∧ PySem.W.nsIn K mainGlobals e.c = some (some (.ref C)) ∧ B a = some (XO (.ref C) d a) ∧ match e.f with
    | none => d = none
    | some p => ∃ (dd : Addr) (w : V), d = some dd ∧ B dd = some (.xd [(p.1, w)]) ∧ Rp K B w p.2 := by
  obtain ⟨c, f⟩ := e
  cases f with
  | none =>
    have h : Rp K B v (.err c [] []) := h
    cases h with | err hc ha => exact ⟨_, _, none, rfl, hc, ha, rfl⟩
  | some p =>
    obtain ⟨n, pd⟩ := p
    have h : Rp K B v (.err c [n] [pd]) := h
    cases h with | erf hc ha h2 hv => exact ⟨_, _, some _, rfl, hc, ha, _, _, rfl, h2, hv⟩
/-- e.n -/
def fldOf (n : Str) (e : Er) : Option D := match e.f with
  | some p => if p.1 = n then some p.2 else none
  | none => none
theorem em_fld [Enc α] {n : Str} {x : m Er} {dec : Er → Option α} (h : EvM K te sd x) (hd : ∀ e a, dec e = some a → e.f = some (n, enc a) ∧ ∀ C, PySem.W.nsIn K mainGlobals e.c = some (some (.ref C)) → XfC K C ∧ PySem.W.findIn K (.ref C) n = some none) :
    EvM K (tXk K n te) sd (Mn.bnd x fun e => lift (dec e)) := fun F σ B H k R b k' e Q q => by
  obtain ⟨a, k1, e1, e2⟩ := bnd_some e
  obtain ⟨e3, rfl⟩ := lift_some e2
  obtain ⟨hf, hC⟩ := hd a b e3
  refine h F σ B H k R a _ e1 _ fun v B1 H1 R1 g1 r1 => ?_
  obtain ⟨p, C, d, rfl, hc, ho, hm⟩ := r1.er_inv
  rw [hf] at hm
  obtain ⟨dd, w, rfl, h2, hw⟩ := hm
  obtain ⟨T, hno⟩ := hC C hc
  exact ⟨p, C, dd, _, w, rfl, R1.bh _ _ ho, R1.bh _ _ h2, by simp [List.lookup], T, hno, q w B1 H1 R1 g1 hw⟩
/-- isinstance(e, D), D a class of the program's or a built-in one -/
theorem em_isE {x : m Er} {c : V} {cv : Value} {f : Er → Option Bool} (h : EvM K te sd x) (hcv : ∀ u, RelV c u → u = cv) (hf : ∀ e b, f e = some b → ∀ C, PySem.W.nsIn K mainGlobals e.c = some (some (.ref C)) → EC K C ∧ PySem.W.kitOne K (.ref C) cv = some b) :
    EvM K (tCB (rIsK K) (tCons te (tCons (tC c) tNil))) sd (Mn.bnd x fun e => lift (f e)) := fun F σ B H k R b k' e Q q => by
  obtain ⟨a, k1, e1, e2⟩ := bnd_some e
  obtain ⟨e3, rfl⟩ := lift_some e2
  refine h F σ B H k R a _ e1 _ fun v B1 H1 R1 g1 r1 => ?_
  obtain ⟨p, C, d, rfl, hc, ho, hm⟩ := r1.er_inv
  obtain ⟨T, hk⟩ := hf a b e3 C hc
  refine ⟨p, C, d, c, cv, b, rfl, R1.bh _ _ ho, fun dd hdd => ?_, T, hcv, hk, q _ B1 H1 R1 g1 (.bl _)⟩
  cases hfe : a.f with
  | none => rw [hfe] at hm; obtain rfl : d = none := hm; cases hdd
  | some p2 =>
    rw [hfe] at hm
    obtain ⟨dd', w, rfl, h2, _⟩ := hm
    cases hdd
    exact ⟨_, R1.bh _ _ h2⟩
end
end ON

set_option Elab.async false
set_option linter.all false
set_option maxRecDepth 100000
set_option maxHeartbeats 2000000
/-! OX6: in, not in, chains of two comparisons, is None -/
namespace ON
open PySem L2
section
variable {K : PySem.W.Frag} {m : Type → Type} [Mn m] {α β γ τ l ρ : Type} {sd : List SD} {ta tb tc te : TE}
/-- a text in a text -/
def inStr (a b : Str) : Bool := !(Builtin.Str.occurrences b a 0 b.length 1).isEmpty
def rInStr : R2 := fun x y H Q => ∃ i j, x = .str i ∧ y = .str j ∧ Q (.bl (!(Builtin.Str.occurrences j i 0 j.length 1).isEmpty)) H
def rNinStr : R2 := fun x y H Q => ∃ i j, x = .str i ∧ y = .str j ∧ Q (.bl (!(!(Builtin.Str.occurrences j i 0 j.length 1).isEmpty))) H
theorem or_inStr {X : Cx} : OpR X (compareOp .In) rInStr := op_in_str
theorem or_ninStr {X : Cx} : OpR X (compareOp .NotIn) rNinStr := op_notin_str
theorem om_inS {a b : Str} : OpM K rInStr a b (Mn.pur (inStr a b) : m Bool) := fun F σ B H sd k R va vb ra rb c k' e Q q => by
  obtain ⟨rfl, rfl⟩ := pur_some e
  exact ⟨a, b, ra.str_inv, rb.str_inv, q _ B H R (Gr.refl B) (.bl _)⟩
theorem om_ninS {a b : Str} : OpM K rNinStr a b (Mn.pur (!inStr a b) : m Bool) := fun F σ B H sd k R va vb ra rb c k' e Q q => by
  obtain ⟨rfl, rfl⟩ := pur_some e
  exact ⟨a, b, ra.str_inv, rb.str_inv, q _ B H R (Gr.refl B) (.bl _)⟩
/-- a text in a tuple or a list of texts -/
theorem flat_strs (b : List Str) : (b.map V.str).all flatV = true := by
  rw [List.all_map]; exact List.all_eq_true.mpr fun x _ => rfl
theorem inV_strs (a : Str) (b : List Str) : inV (.str a) (b.map V.str) = decide (a ∈ b) := by
  unfold inV
  induction b with
  | nil => rfl
  | cons x b ih =>
    rw [List.map_cons, List.any_cons, ih]
    by_cases c : a = x
    · subst c
      have z : eqV (.str a) (.str a) = true := by show (a == a) = true; simp
      rw [z]; simp
    · have z : eqV (.str x) (.str a) = false := by show (x == a) = false; simpa using fun w => c w.symm
      rw [z]; simp [c]
theorem om_inT {a : Str} {b : Tl Str} : OpM K (rIn K false) a b (Mn.pur (decide (a ∈ b.l)) : m Bool) := fun F σ B H sd k R va vb ra rb c k' e Q q => by
  obtain ⟨rfl, rfl⟩ := pur_some e
  obtain ⟨p, xs, rfl, hs, rs⟩ := rb.tup_inv
  have ex : xs = b.l.map V.str := Rps.strs (show Rps K B xs (b.l.map D.str) from rs)
  subst ex
  refine ⟨p, _, rfl, .inr (R.bh.sqT hs), by rw [ra.str_inv]; rfl, flat_strs _, ?_⟩
  rw [ra.str_inv, if_neg Bool.false_ne_true, inV_strs]
  exact q _ B H R (Gr.refl B) (.bl _)
theorem om_ninT {a : Str} {b : Tl Str} : OpM K (rIn K true) a b (Mn.pur (!decide (a ∈ b.l)) : m Bool) := fun F σ B H sd k R va vb ra rb c k' e Q q => by
  obtain ⟨rfl, rfl⟩ := pur_some e
  obtain ⟨p, xs, rfl, hs, rs⟩ := rb.tup_inv
  have ex : xs = b.l.map V.str := Rps.strs (show Rps K B xs (b.l.map D.str) from rs)
  subst ex
  refine ⟨p, _, rfl, .inr (R.bh.sqT hs), by rw [ra.str_inv]; rfl, flat_strs _, ?_⟩
  rw [ra.str_inv, if_pos rfl, inV_strs]
  exact q _ B H R (Gr.refl B) (.bl _)
theorem om_inL {a : Str} {b : List Str} : OpM K (rIn K false) a b (Mn.pur (decide (a ∈ b)) : m Bool) := fun F σ B H sd k R va vb ra rb c k' e Q q => by
  obtain ⟨rfl, rfl⟩ := pur_some e
  obtain ⟨p, xs, rfl, hs, rs⟩ := rb.lst_inv
  have ex : xs = b.map V.str := Rps.strs rs
  subst ex
  refine ⟨p, _, rfl, .inl (.of (R.bh _ _ hs)), by rw [ra.str_inv]; rfl, flat_strs _, ?_⟩
  rw [ra.str_inv, if_neg Bool.false_ne_true, inV_strs]
  exact q _ B H R (Gr.refl B) (.bl _)
theorem om_ninL {a : Str} {b : List Str} : OpM K (rIn K true) a b (Mn.pur (!decide (a ∈ b)) : m Bool) := fun F σ B H sd k R va vb ra rb c k' e Q q => by
  obtain ⟨rfl, rfl⟩ := pur_some e
  obtain ⟨p, xs, rfl, hs, rs⟩ := rb.lst_inv
  have ex : xs = b.map V.str := Rps.strs rs
  subst ex
  refine ⟨p, _, rfl, .inl (.of (R.bh _ _ hs)), by rw [ra.str_inv]; rfl, flat_strs _, ?_⟩
  rw [ra.str_inv, if_pos rfl, inV_strs]
  exact q _ B H R (Gr.refl B) (.bl _)
/-- a op b op' c -/
theorem em_chain [Enc α] [Enc β] [Enc γ] {r r' : R2} {x : m α} {y : m β} {z : m γ} {f : α → β → m Bool} {g : β → γ → m Bool} (ha : EvM K ta sd x) (hb : EvM K tb sd y) (hc : EvM K tc sd z) (hf : ∀ a b, OpM K r a b (f a b)) (hg : ∀ b c, OpM K r' b c (g b c)) :
    EvM K (tChain r r' ta tb tc) sd (Mn.bnd x fun a => Mn.bnd y fun b => Mn.bnd (f a b) fun p => cnd p (Mn.bnd z fun c => g b c) (Mn.pur false)) := fun F σ B H k R w k' e Q q => by
  obtain ⟨a, k1, e1, e⟩ := bnd_some e
  obtain ⟨b, k2, e2, e⟩ := bnd_some e
  obtain ⟨p, k3, e3, e⟩ := bnd_some e
  refine ha F σ B H k R a k1 e1 _ fun va B1 H1 R1 g1 r1 => ?_
  refine hb F σ B1 H1 k1 R1 b k2 e2 _ fun vb B2 H2 R2 g2 r2 => ?_
  refine hf a b F σ B2 H2 sd k2 R2 va vb (r1.gr g2) r2 p k3 e3 _ fun vp B3 H3 R3 g3 r3 => ?_
  refine ⟨p, r3.bl_inv, ?_⟩
  cases p with
  | true =>
    obtain ⟨c, k4, e4, e5⟩ := bnd_some e
    rw [if_pos rfl]
    refine hc F σ B3 H3 k3 R3 c k4 e4 _ fun vc B4 H4 R4 g4 r4 => ?_
    exact hg b c F σ B4 H4 sd k4 R4 vb vc ((r2.gr g3).gr g4) r4 w k' e5 _ fun v B5 H5 R5 g5 r5 => q v B5 H5 R5 ((((g1.trans g2).trans g3).trans g4).trans g5) r5
  | false =>
    obtain ⟨rfl, rfl⟩ := pur_some e
    rw [if_neg Bool.false_ne_true]
    exact q _ B3 H3 R3 ((g1.trans g2).trans g3) (.bl false)
/-- x is None -/
def rIsN : R2 := fun x y H Q => y = .non ∧ Q (.bl (decide (x = .non))) H
def rNotN : R2 := fun x y H Q => y = .non ∧ Q (.bl (!decide (x = .non))) H
theorem or_isN {X : Cx} : OpR X (compareOp .Is) rIsN := op_isN
theorem or_notN {X : Cx} : OpR X (compareOp .IsNot) rNotN := op_notN
theorem Rp.ne_non {B : Hp} {v : V} {d : D} (h : Rp K B v d) (hd : d ≠ .non) : v ≠ .non := fun z => by
  cases h with
  | non => exact hd rfl
  | _ => cases z
theorem Rp.isN [Enc α] (hn : ∀ a : α, enc a ≠ .non) {B : Hp} {v : V} {o : Option α} (h : Rp K B v (enc o)) : decide (v = .non) = o.isNone := by
  cases o with
  | none => rw [Rp.non_inv h]; rfl
  | some a => exact decide_eq_false (Rp.ne_non h (hn a))
theorem em_isN [Enc α] {x : m (Option α)} (h : EvM K te sd x) (hn : ∀ a : α, enc a ≠ .non := by intro a w; cases w) : EvM K (tOp rIsN te (tC .non)) sd (Mn.bnd x fun o => Mn.pur o.isNone) := fun F σ B H k R b k' e Q q => by
  obtain ⟨a, k1, e1, e2⟩ := bnd_some e
  obtain ⟨rfl, rfl⟩ := pur_some e2
  refine h F σ B H k R a _ e1 _ fun v B1 H1 R1 g1 r1 => ⟨rfl, ?_⟩
  rw [r1.isN hn]
  exact q _ B1 H1 R1 g1 (.bl _)
theorem em_notN [Enc α] {x : m (Option α)} (h : EvM K te sd x) (hn : ∀ a : α, enc a ≠ .non := by intro a w; cases w) : EvM K (tOp rNotN te (tC .non)) sd (Mn.bnd x fun o => Mn.pur o.isSome) := fun F σ B H k R b k' e Q q => by
  obtain ⟨a, k1, e1, e2⟩ := bnd_some e
  obtain ⟨rfl, rfl⟩ := pur_some e2
  refine h F σ B H k R a _ e1 _ fun v B1 H1 R1 g1 r1 => ⟨rfl, ?_⟩
  rw [r1.isN hn, show (!a.isNone) = a.isSome from by cases a <;> rfl]
  exact q _ B1 H1 R1 g1 (.bl _)
end
end ON

set_option Elab.async false
set_option linter.all false
set_option maxRecDepth 100000
set_option maxHeartbeats 2000000
/-! OX7: list * int, int(bool), int(text) -/
namespace ON
open PySem L2
section
variable {K : PySem.W.Frag} {m : Type → Type} [Mn m] {α β γ τ l ρ : Type} {sd : List SD} {ta tb tc te : TE}
def repL (xs : List α) (k : Int) : List α := (List.replicate k.toNat xs).flatten
theorem Rps.rep {B : Hp} {vs : List V} {ds : List D} (h : Rps K B vs ds) : ∀ n : Nat, Rps K B (List.replicate n vs).flatten (List.replicate n ds).flatten
  | 0 => .nil
  | n + 1 => by
    rw [List.replicate_succ, List.replicate_succ, List.flatten_cons, List.flatten_cons]
    exact h.app (Rps.rep h n)
theorem map_rep [Enc α] (xs : List α) : ∀ n : Nat, ((List.replicate n xs).flatten).map enc = (List.replicate n (xs.map enc)).flatten
  | 0 => rfl
  | n + 1 => by
    rw [List.replicate_succ, List.replicate_succ, List.flatten_cons, List.flatten_cons, List.map_append, map_rep xs n]
/-- [..] * k, a list of its own -/
theorem ef_rep [Enc α] {x : m (List α)} {y : m Int} (ha : EvM K ta sd x) (hb : EvM K tb sd y) : EvF K (.lst .dat) (tOp rRep ta tb) sd (Mn.bnd x fun a => Mn.bnd y fun k => gd (-(2 ^ 63) ≤ k ∧ k < 2 ^ 63 ∧ a.length * k.toNat ≤ 100000) (Mn.pur (repL a k))) := fun F σ B H k R w k' e Q q => by
  obtain ⟨a, k1, e1, e⟩ := bnd_some e
  obtain ⟨n, k2, e2, e⟩ := bnd_some e
  obtain ⟨⟨h1, h2, h3⟩, e⟩ := gd_some e
  obtain ⟨rfl, rfl⟩ := pur_some e
  refine ha F σ B H k R a k1 e1 _ fun va B1 H1 R1 g1 r1 => ?_
  refine hb F σ B1 H1 k1 R1 n _ e2 _ fun vb B2 H2 R2 g2 r2 => ?_
  obtain ⟨p, xs, rfl, hp, rs⟩ := (r1.gr g2).lst_inv
  rw [Rp.int_inv r2]
  refine ⟨p, n, xs, rfl, rfl, R2.bh _ _ hp, h1, h2, ?_, fun o ho => ?_⟩
  · rw [rs.len, List.length_map]; exact Nat.le_trans h3 (by decide)
  · refine q _ B2 _ (R2.newL ho ?_) (g1.trans g2)
    unfold repL
    rw [map_rep]
    exact rs.rep _
def rInt1 : List V → Hp → VK → Prop := fun xs H Q => (∃ i, xs = [.int i] ∧ Q (.int i) H) ∨ ∃ k, xs = [.bl k] ∧ Q (.int (if k then 1 else 0)) H
theorem cr_int1 {X : Cx} : CallR X (.type "int") rInt1 := call_int1
/-- int(b) -/
theorem em_intB {x : m Bool} (h : EvM K te sd x) : EvM K (tCB rInt1 (tCons te tNil)) sd (Mn.bnd x fun b => Mn.pur (if b then (1 : Int) else 0)) := em_cb1 h fun F σ B H k a v R r b k' e Q q => by
  obtain ⟨rfl, rfl⟩ := pur_some e
  rw [Rp.bl_inv r]
  exact .inr ⟨a, rfl, q _ B H R (Gr.refl B) (.int _)⟩
end
/-! ### text * int -/
section
def repS (a : Str) (n : Int) : Str := ⟨(List.replicate n.toNat a.cps).foldl (fun x y => x ++ y) #[]⟩
def rRepS : R2 := fun x y H Q => ∃ (a : Str) (n : Int), x = .str a ∧ y = .int n ∧ n < 2 ^ 62 ∧ -(2 ^ 62) < n ∧ a.length * n.toNat ≤ 1000000 ∧ Q (.str (repS a n)) H
theorem repS_none {a : Str} {n : Int} (h : n < 1) : repS a n = Str.empty := by
  unfold repS
  rw [show n.toNat = 0 by omega]; rfl
theorem repS_one {a : Str} : repS a 1 = a := by
  show Str.mk (#[] ++ a.cps) = a
  simp
theorem repS_nil {a : Str} (h : a.length = 0) (n : Int) : repS a n = a := by
  have e : a.cps = #[] := Array.eq_empty_of_size_eq_zero h
  unfold repS
  rw [e]
  have z : ∀ k, (List.replicate k (#[] : Array Nat)).foldl (fun x y => x ++ y) #[] = #[] := fun k => by
    induction k with
    | zero => rfl
    | succ k ih => rw [List.replicate_succ, List.foldl_cons]; simpa using ih
  rw [z, ← e]
theorem repS_len (a : Str) (n : Int) : (repS a n).length = n.toNat * a.length := by
  have z : ∀ (k : Nat) (acc : Array Nat), ((List.replicate k a.cps).foldl (fun x y => x ++ y) acc).size = acc.size + k * a.cps.size := fun k => by
    induction k with
    | zero => intro acc; simp
    | succ k ih =>
      intro acc
      rw [List.replicate_succ, List.foldl_cons, ih, Array.size_append, Nat.add_mul]; omega
  have y := z n.toNat #[]
  rw [Array.size_empty, Nat.zero_add] at y
  exact y
theorem op_repS {X : Cx} : OpR X (binaryOp .Mult) rRepS := fun pins s σ H x y v u Q I rx ry h => by
  obtain ⟨a, n, rfl, rfl, h1, h2, h3, q⟩ := h
  obtain ⟨t, rfl⟩ := rx
  obtain ⟨t', rfl⟩ := ry
  have big : 1000000 ≤ sizeLine := by decide
  have e : ¬ n < 1 → (n.toNat : Int) = n := fun c => Int.toNat_of_nonneg (by omega)
  refine P.mul_str (by rw [Bool.or_eq_false_iff]; exact ⟨decide_eq_false (by omega), decide_eq_false (by omega)⟩) (fun c _ hh => ?_) (fun c _ => decide_eq_false (by omega)) ?_
  · have hn : 0 < n := by omega
    have h4 : (a.length : Int) * n ≤ 1000000 := by
      have y := Int.ofNat_le.mpr h3
      rw [Int.natCast_mul, e c] at y
      exact y
    have h5 : (2 ^ 63 - 1 : Int) < (a.length : Int) * n := Int.lt_mul_of_ediv_lt hn hh
    omega
  · by_cases c : n < 1
    · rw [if_pos c]
      rw [repS_none c] at q
      exact ⟨Nat.zero_le _, .str Str.empty, H, I.tok _, ⟨_, rfl⟩, q⟩
    · rw [if_neg c]
      by_cases c2 : (n == 1 || a.length == 0) = true
      · rw [if_pos c2]
        have e2 : repS a n = a := by
          rcases (Bool.or_eq_true _ _).mp c2 with w | w
          · rw [show n = 1 by simpa using w]; exact repS_one
          · exact repS_nil (by simpa using w) n
        rw [e2] at q
        exact ⟨.str a, H, I, ⟨_, rfl⟩, q⟩
      · rw [if_neg c2]
        exact ⟨by have := repS_len a n; unfold repS at this; rw [this, Nat.mul_comm]; exact Nat.le_trans h3 big, .str (repS a n), H, I.tok _, ⟨_, rfl⟩, q⟩
variable {K : PySem.W.Frag} {m : Type → Type} [Mn m]
theorem om_repS {a : Str} {n : Int} : OpM K rRepS a n (gd (n < 2 ^ 62 ∧ -(2 ^ 62) < n ∧ a.length * n.toNat ≤ 1000000) (Mn.pur (repS a n)) : m Str) := fun F σ B H sd k R va vb ra rb c k' e Q q => by
  obtain ⟨⟨h1, h2, h3⟩, e⟩ := gd_some e
  obtain ⟨rfl, rfl⟩ := pur_some e
  exact ⟨a, n, ra.str_inv, rb.int_inv, h1, h2, h3, q _ B H R (Gr.refl B) (.str _)⟩
end
end ON

set_option Elab.async false
set_option linter.all false
set_option maxRecDepth 100000
set_option maxHeartbeats 2000000
/-! N14: what is owned is read, and changed. -/
namespace ON
open PySem PySem.Spec PyProof.Rows L2

/-- values that need no heap -/
class Scal (α : Type) [Enc α] where
  rp : ∀ {K : PySem.W.Frag} {B C : Hp} {v : V} {a : α}, Rp K B v (enc a) → Rp K C v (enc a)
instance : Scal Int := ⟨fun h => by rw [Rp.int_inv h]; exact .int _⟩
instance : Scal Bool := ⟨fun h => by rw [Rp.bl_inv h]; exact .bl _⟩
instance : Scal Str := ⟨fun h => by rw [Rp.str_inv h]; exact .str _⟩
instance : Scal Unit := ⟨fun h => by rw [Rp.non_inv h]; exact .non⟩
instance {α : Type} [Enc α] [Scal α] : Scal (Option α) := ⟨fun {K B C v a} h => by
  cases a with
  | none => have h : Rp K B v .non := h; rw [Rp.non_inv h]; exact .non
  | some a => exact Scal.rp (α := α) h⟩
/-- slots told for reading: what is owned is data, or not told -/
inductive Bor : List SD → List SD → Prop
  | nil : Bor [] []
  | same {d : SD} {a b : List SD} (hd : d.ow = false) (h : Bor a b) : Bor (d :: a) (d :: b)
  | un {d : SD} {a b : List SD} (h : Bor a b) : Bor (d :: a) (.un :: b)
  | fz {s : Sh} {d : D} {a b : List SD} (hn : s.nd = true) (h : Bor a b) : Bor (.own s d :: a) (.dat d :: b)
/-- .. not told at all -/
inductive BorU : List SD → List SD → Prop
  | nil : BorU [] []
  | same {d : SD} {a b : List SD} (hd : d.ow = false) (h : BorU a b) : BorU (d :: a) (d :: b)
  | un {d : SD} {a b : List SD} (h : BorU a b) : BorU (d :: a) (.un :: b)
theorem Bor.len {a b : List SD} (h : Bor a b) : b.length = a.length := by
  induction h with
  | nil => rfl
  | same _ h ih => rw [List.length_cons, List.length_cons, ih]
  | un h ih => rw [List.length_cons, List.length_cons, ih]
  | fz _ h ih => rw [List.length_cons, List.length_cons, ih]
theorem Bor.get {a b : List SD} (h : Bor a b) : ∀ {i : Nat} {d : SD}, b[i]? = some d → (d = .un ∧ ∃ e, a[i]? = some e) ∨ (a[i]? = some d ∧ d.ow = false) ∨ ∃ s e, a[i]? = some (.own s e) ∧ d = .dat e ∧ s.nd = true := by
  induction h with
  | nil => intro i d e; simp at e
  | same hd h ih =>
    intro i d e
    cases i with
    | zero => cases e; exact .inr (.inl ⟨rfl, hd⟩)
    | succ i => exact ih (i := i) e
  | un h ih =>
    intro i d e
    cases i with
    | zero => cases Option.some.inj e; exact .inl ⟨rfl, _, rfl⟩
    | succ i => exact ih (i := i) e
  | fz hn h ih =>
    intro i d e
    cases i with
    | zero => cases Option.some.inj e; exact .inr (.inr ⟨_, _, rfl, rfl, hn⟩)
    | succ i => exact ih (i := i) e
theorem BorU.bor {a b : List SD} (h : BorU a b) : Bor a b := by
  induction h with
  | nil => exact .nil
  | same hd h ih => exact .same hd ih
  | un h ih => exact .un ih
theorem BorU.get {a b : List SD} (h : BorU a b) : ∀ {i : Nat} {d : SD}, b[i]? = some d → (d = .un ∧ ∃ e, a[i]? = some e) ∨ (a[i]? = some d ∧ d.ow = false) := by
  induction h with
  | nil => intro i d e; simp at e
  | same hd h ih =>
    intro i d e
    cases i with
    | zero => cases e; exact .inr ⟨rfl, hd⟩
    | succ i => exact ih (i := i) e
  | un h ih =>
    intro i d e
    cases i with
    | zero => cases Option.some.inj e; exact .inl ⟨rfl, _, rfl⟩
    | succ i => exact ih (i := i) e
section
variable {K : PySem.W.Frag} {F : Fr} {σ : L2.St} {B H : Hp} {sd sd' : List SD} {k k' : Int}
/-- the data that all owned things make up -/
def allB (B H : Hp) (P : Addr → Prop) [DecidablePred P] : Hp := fun a => if P a then H a else B a
open Classical in
theorem Rel.bor (R : Rel K F σ B H sd k) (b : Bor sd sd') : ∃ B', Gr B B' ∧ Gr B' H ∧ Rel K ⟨H, B', F.sa, []⟩ σ B' H sd' k ∧ ((∀ (i : Nat) (s : Sh) (d : D), sd[i]? = some (SD.own s d) → sd'[i]? = some SD.un) → B' = B) := by
  obtain ⟨g, p⟩ := R.pool
  let P : Addr → Prop := fun a => ∃ (i : Nat) (s : Sh) (d : D), sd[i]? = some (SD.own s d) ∧ sd'[i]? ≠ some SD.un ∧ a ∈ g (.inl i)
  have hP : ∀ a, P a → B a = none := fun a ⟨i, _, _, _, _, m⟩ => p.b _ a m
  have gB : Gr B (allB B H P) := fun a o e => by
    unfold allB
    rw [if_neg (fun z => by rw [hP a z] at e; cases e)]; exact e
  have gH : Gr (allB B H P) H := fun a o e => by
    unfold allB at e
    by_cases c : P a
    · rw [if_pos c] at e; exact e
    · rw [if_neg c] at e; exact R.bh a o e
  refine ⟨allB B H P, gB, gH, ⟨by rw [b.len]; exact R.len, gH, Gr.refl _, fun a o e e0 => ?_, fun a o e _ => e, fun s es => ?_, fun _ => [], fun x c e => ?_, fun _ _ => rfl, fun _ => .nil, fun _ _ _ m => (nomatch m), fun _ _ m => (nomatch m), fun _ _ m => (nomatch m), fun _ _ m => (nomatch m)⟩, fun hu => ?_⟩
  · have e1 : allB B H P a = none := e0
    rw [e] at e1; cases e1
  · have hS := R.st s es
    refine hS.gr gB ?_
    unfold allB
    rw [if_neg (fun ⟨i, _, _, _, _, m⟩ => p.sa _ _ m s es rfl)]; exact hS.1
  · cases x with
    | inr j => simp [cell] at e
    | inl i =>
      simp only [cell] at e
      cases h1 : sd'[i]? with
      | none => rw [h1] at e; cases e
      | some d =>
        cases h2 : σ[i]? with
        | none => rw [h1, h2] at e; cases e
        | some o =>
          rw [h1, h2] at e; cases e
          rcases b.get h1 with ⟨rfl, _⟩ | ⟨ha, hd⟩ | ⟨s, e2, ha, rfl, hn⟩
          · rfl
          · have hc : cell F σ sd (.inl i) = some (o, d) := by simp only [cell]; rw [ha, h2]
            have z := p.ok _ _ hc
            cases d with
            | un => rfl
            | dat d => obtain ⟨_, v, ho, r⟩ := z; exact ⟨rfl, v, ho, r.gr gB⟩
            | own s d => cases hd
            | sr q => obtain ⟨_, a, w, ho, hs, hw⟩ := z; exact ⟨rfl, a, w, ho, hs, hw⟩
          · have hc : cell F σ sd (.inl i) = some (o, .own s e2) := by simp only [cell]; rw [ha, h2]
            obtain ⟨v, ho, w⟩ := p.ok _ _ hc
            refine ⟨rfl, v, ho, (w.rp (f0 := g (.inl i)) (fun a m => p.b _ a m) hn fun _ m => m).gr fun a u e => ?_⟩
            unfold frzB at e
            unfold allB
            by_cases c : a ∈ g (.inl i)
            · rw [if_pos c] at e
              rw [if_pos ⟨i, s, e2, ha, by rw [h1]; exact fun z => (nomatch z), c⟩]; exact e
            · rw [if_neg c] at e
              rw [if_neg (fun z => by rw [hP a z] at e; cases e)]; exact e
  · funext a
    unfold allB
    rw [if_neg (fun ⟨i, s, d, h1, h2, _⟩ => h2 (hu i s d h1))]
/-- back from the reading -/
theorem Rel.unbor {B2 H2 B' : Hp} (R : Rel K F σ B H sd k) (R2 : Rel K ⟨H, B', F.sa, []⟩ σ B2 H2 sd' k') : Rel K F σ B H2 sd k' ∧ ∀ a o, H a = some o → (∀ s, F.sa = some s → s.1 ≠ a) → H2 a = some o := by
  have keep : ∀ a o, H a = some o → (∀ s, F.sa = some s → s.1 ≠ a) → H2 a = some o := fun a o e hs => R2.fr a o e hs
  refine ⟨⟨R.len, fun a o e => keep a o (R.bh a o e) fun s es z => ?_, R.b0, R.bn, fun a o e hs => keep a o (R.fr a o e hs) hs, fun s es => (R.st s es).back (R2.st s es), ?_⟩, keep⟩
  · have hb := (R.st s es).1
    rw [z, e] at hb; cases hb
  · obtain ⟨g, p⟩ := R.pool
    refine ⟨_, p.move (F' := F) (σ' := σ) (sd' := sd) (B' := B) (H' := H2) (fun _ => false) g (Gr.refl B) rfl rfl (fun _ _ => rfl) (fun x a _ m => ⟨?_, p.b x a m⟩) (fun _ _ e => nomatch e) (fun _ e => nomatch e) (fun _ e => nomatch e) (fun _ _ _ e => nomatch e) (fun _ _ e => nomatch e)⟩
    cases e : H a with
    | none => exact absurd e (p.inH x a m)
    | some o => exact keep a o e (p.sa x a m)
variable {m : Type → Type} [Mn m] {α β γ τ τ' l ρ : Type} {ta te tk ti : TE} {tt : TT}
/-- an expression that changes nothing that stands -/
def EvH (K : PySem.W.Frag) [Enc α] (te : TE) (sd : List SD) (x : m α) : Prop := ∀ (F : Fr) (σ : L2.St) (B H : Hp) (k : Int), Rel K F σ B H sd k → ∀ (a : α) (k' : Int), Mn.run x k = some (a, k') →
  ∀ Q : VK, (∀ v B' H', Rel K F σ B' H' sd k' → Gr B B' → Rp K B' v (enc a) → (∀ b o, H b = some o → (∀ s, F.sa = some s → s.1 ≠ b) → H' b = some o) → Q v H') → te σ H Q
theorem EvH.toM [Enc α] {x : m α} (h : EvH K te sd x) : EvM K te sd x := fun F σ B H k R a k' e Q q => h F σ B H k R a k' e Q fun v B' H' R' g r _ => q v B' H' R' g r
theorem eh_S [Enc α] [Scal α] {x : m α} (h : EvM K te sd' x) (b : Bor sd sd') : EvH K te sd x := fun F σ B H k R a k' e Q q => by
  obtain ⟨B', g1, g2, R1, _⟩ := R.bor b
  refine h _ σ B' H k R1 a k' e Q fun v B2 H2 R2 g r => ?_
  obtain ⟨R3, kp⟩ := R.unbor R2
  exact q v B H2 R3 (Gr.refl B) (Scal.rp r) kp
theorem em_borrow [Enc α] [Scal α] {x : m α} (h : EvM K te sd' x) (b : Bor sd sd') : EvM K te sd x := (eh_S h b).toM
theorem eb_borrow {x : m Bool} (h : EvB K tt sd' x) (b : Bor sd sd') : EvB K tt sd x := fun F σ B H k R a k' e Q q => by
  obtain ⟨B', g1, g2, R1, _⟩ := R.bor b
  refine h _ σ B' H k R1 a k' e Q fun B2 H2 R2 g => ?_
  exact q B H2 (R.unbor R2).1 (Gr.refl B)
theorem BorU.un_ {a b : List SD} (h : BorU a b) : ∀ (i : Nat) (s : Sh) (d : D), a[i]? = some (SD.own s d) → b[i]? = some SD.un := by
  induction h with
  | nil => intro i s d e; simp at e
  | same hd h ih =>
    intro i s d e
    cases i with
    | zero => cases e; cases hd
    | succ i => exact ih i s d e
  | un h ih =>
    intro i s d e
    cases i with
    | zero => rfl
    | succ i => exact ih i s d e
theorem Rel.unborU {B2 H2 : Hp} (R : Rel K F σ B H sd k) (R2 : Rel K ⟨H, B, F.sa, []⟩ σ B2 H2 sd' k') : Rel K F σ B2 H2 sd k' ∧ Gr B B2 ∧ ∀ a o, H a = some o → (∀ s, F.sa = some s → s.1 ≠ a) → H2 a = some o := by
  have keep : ∀ a o, H a = some o → (∀ s, F.sa = some s → s.1 ≠ a) → H2 a = some o := fun a o e hs => R2.fr a o e hs
  refine ⟨⟨R.len, R2.bh, fun a o e => R2.b0 a o (R.b0 a o e), fun a o e e0 => ?_, fun a o e hs => keep a o (R.fr a o e hs) hs, fun s es => R2.st s es, ?_⟩, R2.b0, keep⟩
  · cases h : B a with
    | some u => exact R.bn a u h e0
    | none => exact (R.h0free (R2.bn a o e h)).1
  · obtain ⟨g, p⟩ := R.pool
    refine ⟨_, p.move (F' := F) (σ' := σ) (sd' := sd) (B' := B2) (H' := H2) (fun _ => false) g R2.b0 rfl rfl (fun _ _ => rfl) (fun x a _ m => ⟨?_, ?_⟩) (fun _ _ e => nomatch e) (fun _ e => nomatch e) (fun _ e => nomatch e) (fun _ _ _ e => nomatch e) (fun _ _ e => nomatch e)⟩
    · cases e : H a with
      | none => exact absurd e (p.inH x a m)
      | some o => exact keep a o e (p.sa x a m)
    · cases h : B2 a with
      | none => rfl
      | some u => exact absurd (R2.bn a u h (p.b x a m)) (p.inH x a m)
theorem eh_U [Enc α] {x : m α} (h : EvM K te sd' x) (b : BorU sd sd') : EvH K te sd x := fun F σ B H k R a k' e Q q => by
  obtain ⟨B', g1, g2, R1, hB⟩ := R.bor b.bor
  obtain rfl := hB b.un_
  refine h _ σ B' H k R1 a k' e Q fun v B2 H2 R2 g r => ?_
  obtain ⟨R3, g3, kp⟩ := R.unborU R2
  exact q v B2 H2 R3 g3 r kp
end
section
variable {K : PySem.W.Frag} {m : Type → Type} [Mn m] {α β γ τ τ' l ρ : Type} {sd sd' : List SD} {ta tb te tk ti : TE} [Rt ρ] {W : Wr} {post : τ → List SD} {postL : l → List SD} {ts tu : TS}
theorem atI_ixN {xs : List α} {i : Int} {x : α} (h : atI xs i = some x) : ∃ j, ixN xs.length i = some j ∧ xs[j]? = some x := by
  unfold atI at h
  cases e : ixN xs.length i with
  | none => rw [e] at h; cases h
  | some j => rw [e] at h; exact ⟨j, rfl, h⟩
theorem ixN_at {xs : List α} {i : Int} {x : α} {j : Nat} (h : ixN xs.length i = some j) (hx : xs[j]? = some x) : atI xs i = some x := by
  unfold atI; rw [h]; exact hx
/-- name[i] = e, name an owned list -/
@[irreducible] def setI (xs : List α) (i : Int) (a : α) : Option (List α) := (ixN xs.length i).map fun j => xs.set j a
theorem setI_eq (xs : List α) (i : Int) (a : α) : setI xs i a = (ixN xs.length i).map fun j => xs.set j a := by unfold setI; rfl
theorem es_putL [Enc α] {i : Nat} {xs : List α} {y : m α} {z : m Int} {f : List α → m (Fl τ l ρ)} (hi : sd[i]? = some (.own (.lst .dat) (enc xs))) (h : EvM K te sd y) (hz : EvM K ti sd z) (hf : ∀ ys, EvS K W tu (sd.set i (.own (.lst .dat) (enc ys))) post postL (f ys)) :
    EvS K W (tSeq (tAsg te (gSub (tVar i) ti rSetL)) tu) sd post postL (Mn.bnd y fun a => Mn.bnd z fun j => Mn.bnd (lift (setI xs j a)) f) := fun F σ B H k R r k' e dd q => by
  obtain ⟨a, k1, e1, e2⟩ := bnd_some e
  obtain ⟨j, k2, e3, e4⟩ := bnd_some e2
  obtain ⟨ys, k3, e5, e6⟩ := bnd_some e4
  obtain ⟨hs, rfl⟩ := lift_some e5
  rw [setI_eq] at hs
  obtain ⟨n, hn, rfl⟩ := Option.map_eq_some_iff.mp hs
  refine h F σ B H k R a k1 e1 _ fun v B1 H1 R1 g1 r1 => ?_
  obtain ⟨o0, _, ho0, ⟨v0, rfl, w0⟩, _⟩ := R1.slot hi
  refine ⟨v0, ho0, ?_⟩
  refine hz F σ B1 H1 k1 R1 j _ e3 _ fun iv B2 H2 R2 g2 r2 => ?_
  obtain ⟨o1, f1, ho1, ⟨v1, rfl, w1⟩, nd1, hf1, q1⟩ := R2.slot hi
  rw [ho0] at ho1; cases ho1
  obtain ⟨p, vs, ds, rfl, ed, rfl, hh, rs⟩ := ow_lstd.mp w1
  cases ed
  have hl : vs.length = xs.length := by rw [rs.len, List.length_map]
  refine ⟨p, vs, j, n, rfl, Rp.int_inv r2, hh, by rw [hl]; exact hn, ?_⟩
  have hb := (hf1 p (List.mem_singleton.mpr rfl)).1
  have z := q1 (some (.ref p)) (.own (.lst .dat) (enc (xs.set n a))) [p] B2 (upd H2 p (.lst (vs.set n v))) ⟨_, rfl, ow_lstd.mpr ⟨p, _, _, rfl, rfl, rfl, upd_same, by rw [List.map_set]; exact rs.set n (r1.gr g2)⟩⟩ (by simp) (fun b m => by rw [List.mem_singleton.mp m]; exact ⟨hb, .inl (List.mem_singleton.mpr rfl)⟩)
    (fun a u na e => by rw [upd_ne (fun z => na (List.mem_singleton.mpr z))]; exact e) (Gr.refl _) (R2.bh.mut hb) fun a u e e0 => by rw [e] at e0; cases e0
  rw [σ_set_self ho0] at z
  exact hf _ F σ B2 _ _ z r k' e6 dd (q.gr (g1.trans g2))
/-- name[i], name an owned list -/
theorem em_ixO [Enc α] {i : Nat} {xs : List α} {z : m Int} (hi : sd[i]? = some (.own (.lst .dat) (enc xs))) (hz : EvM K ti sd z) : EvM K (tOp (rIxL K) (tVar i) ti) sd (Mn.bnd z fun j => lift (atI xs j)) := fun F σ B H k R b k' e Q q => by
  obtain ⟨j, k1, e1, e2⟩ := bnd_some e
  obtain ⟨hc, rfl⟩ := lift_some e2
  obtain ⟨o0, _, ho0, ⟨v0, rfl, w0⟩, _⟩ := R.slot hi
  refine ⟨v0, ho0, ?_⟩
  refine hz F σ B H k R j _ e1 _ fun iv B2 H2 R2 g2 r2 => ?_
  obtain ⟨o1, f1, ho1, ⟨v1, rfl, w1⟩, nd1, hf1, q1⟩ := R2.slot hi
  rw [ho0] at ho1; cases ho1
  obtain ⟨p, vs, ds, rfl, ed, rfl, hh, rs⟩ := ow_lstd.mp w1
  cases ed
  have h2 : atI (xs.map enc) j = some (enc b) := by rw [atI_map, hc] <;> rfl
  obtain ⟨v, hv, rv⟩ := atI_rps rs h2
  exact ⟨p, vs, j, v, rfl, Rp.int_inv r2, SqL.of hh, hv, q v B2 H2 R2 g2 rv⟩
end
section
/-- things owned one behind the other: one of them -/
theorem ows_at {R : V → D → List Addr → Prop} : ∀ {vs : List V} {ds : List D} {f : List Addr} {n : Nat} {d : D}, Ows R vs ds f → ds[n]? = some d → ∃ v f1 g f2, vs[n]? = some v ∧ f = f1 ++ g ++ f2 ∧ R v d g ∧
    ∀ (S : V → D → List Addr → Prop) (v' : V) (d' : D) (g' : List Addr), S v' d' g' → (∀ v d h, (∀ a ∈ h, a ∈ f1 ∨ a ∈ f2) → R v d h → S v d h) → Ows S (vs.set n v') (ds.set n d') (f1 ++ g' ++ f2)
  | [], [], _, _, _, _, e => by simp at e
  | v :: vs, d0 :: ds, f, 0, d, ⟨f1, f2, e, h1, h2⟩, ed => by
    cases ed
    refine ⟨v, [], f1, f2, rfl, by simpa using e, h1, fun S v' d' g' hS hi => ?_⟩
    exact ⟨g', f2, by simp, hS, h2.imp fun v d h hh r => hi v d h (fun a m => .inr (hh a m)) r⟩
  | v :: vs, d0 :: ds, f, n + 1, d, ⟨f1, f2, e, h1, h2⟩, ed => by
    obtain ⟨w, a1, g, a2, hw, e2, hr, hq⟩ := ows_at h2 (n := n) ed
    refine ⟨w, f1 ++ a1, g, a2, hw, by rw [e, e2]; simp [List.append_assoc], hr, fun S v' d' g' hS hi => ?_⟩
    refine ⟨f1, a1 ++ g' ++ a2, by simp [List.append_assoc], hi v d0 f1 (fun a m => .inl (List.mem_append_left _ m)) h1, ?_⟩
    exact hq S v' d' g' hS fun v d h hh r => hi v d h (fun a m => (hh a m).elim (fun z => .inl (List.mem_append_right _ z)) .inr) r
  | [], _ :: _, _, _, _, h, _ => h.elim
  | _ :: _, [], _, _, _, h, _ => h.elim
variable {K : PySem.W.Frag} {m : Type → Type} [Mn m] {α β γ τ τ' l ρ : Type} {sd sd' : List SD} {ta tb te tk ti : TE} [Rt ρ] {W : Wr} {post : τ → List SD} {postL : l → List SD} {ts tu : TS}
/-- name[i].append(e), name an owned list of owned lists -/
@[irreducible] def appI (xss : List (List α)) (i : Int) (a : α) : Option (List (List α)) := (ixN xss.length i).bind fun j => (xss[j]?).bind fun xs => if xs.length < 100000 then some (xss.set j (xs ++ [a])) else none
theorem appI_eq (xss : List (List α)) (i : Int) (a : α) : appI xss i a = (ixN xss.length i).bind fun j => (xss[j]?).bind fun xs => if xs.length < 100000 then some (xss.set j (xs ++ [a])) else none := by unfold appI; rfl
theorem es_appAt [Enc α] {i : Nat} {xss : List (List α)} {z : m Int} {y : m α} {f : List (List α) → m (Fl τ l ρ)} (hi : sd[i]? = some (.own (.lst (.lst .dat)) (enc xss))) (hz : EvH K ti sd z) (h : EvH K te sd y) (hf : ∀ ys, EvS K W tu (sd.set i (.own (.lst (.lst .dat)) (enc ys))) post postL (f ys)) :
    EvS K W (tSeq (tDrop (tBM K "list" rAppend (tOp (rIxL K) (tVar i) ti) (tCons te tNil))) tu) sd post postL (Mn.bnd z fun j => Mn.bnd y fun a => Mn.bnd (lift (appI xss j a)) f) := fun F σ B H k R r k' e dd q => by
  obtain ⟨j, k1, e1, e2⟩ := bnd_some e
  obtain ⟨a, k2, e3, e4⟩ := bnd_some e2
  obtain ⟨ys, k3, e5, e6⟩ := bnd_some e4
  obtain ⟨hs, rfl⟩ := lift_some e5
  rw [appI_eq] at hs
  obtain ⟨n, hn, hs⟩ := Option.bind_eq_some_iff.mp hs
  obtain ⟨xs, hx, hs⟩ := Option.bind_eq_some_iff.mp hs
  by_cases hlen : xs.length < 100000
  case neg => rw [if_neg hlen] at hs; cases hs
  rw [if_pos hlen] at hs; cases hs
  obtain ⟨o0, _, ho0, ⟨v0, rfl, w0⟩, _⟩ := R.slot hi
  refine ⟨v0, ho0, ?_⟩
  refine hz F σ B H k R j _ e1 _ fun iv B1 H1 R1 g1 r1 kp1 => ?_
  -- the list, its item
  obtain ⟨o1, f1, ho1, ⟨v1, rfl, w1⟩, nd1, hf1, q1⟩ := R1.slot hi
  rw [ho0] at ho1; cases ho1
  obtain ⟨p, vs, ds, gg, rfl, ed, rfl, hh, ow⟩ := w1
  cases ed
  have hd : (xss.map enc)[n]? = some (enc xs) := by rw [List.getElem?_map, hx] <;> rfl
  obtain ⟨w, a1, gw, a2, hw, eg, rw_, hq⟩ := ows_at ow hd
  obtain ⟨p2, us, es, rfl, ed2, rfl, hp2, rs2⟩ := ow_lstd.mp rw_
  cases ed2
  have hl : vs.length = xss.length := by rw [ow.len, List.length_map]
  refine ⟨p, vs, j, .ref p2, rfl, Rp.int_inv r1, SqL.of hh, ixN_at (by rw [hl]; exact hn) hw, .inl ⟨rfl, us, SqL.of hp2⟩, ?_⟩
  refine h F σ B1 H1 k1 R1 a _ e3 _ fun v B2 H2 R2 g2 r2 kp2 => ?_
  have nsa : ∀ b ∈ p :: gg, ∀ s, F.sa = some s → s.1 ≠ b := fun b m => (hf1 b m).2.2
  have mp2 : p2 ∈ p :: gg := by rw [eg]; simp
  have hp22 : H2 p2 = some (.lst us) := kp2 _ _ hp2 (nsa _ mp2)
  have hl2 : us.length = xs.length := by rw [rs2.len, List.length_map]
  refine ⟨p2, us, v, rfl, rfl, hp22, Nat.lt_of_lt_of_le (by omega : us.length < 100000) (by decide), ?_⟩
  -- the slot in the heap behind the argument
  obtain ⟨o3, f3, ho3, ⟨v3, rfl, w3⟩, nd3, hf3, q3⟩ := R2.slot hi
  rw [ho0] at ho3; cases ho3
  obtain ⟨p', vs', ds', g3, ep, ed3, rfl, hh3, ow3⟩ := w3
  cases ep; cases ed3
  have hh2 := kp2 _ _ hh (nsa _ (by simp))
  rw [hh3] at hh2
  have evs : vs' = vs := by
    have z := Option.some.inj hh2
    exact HO.lst.inj z
  subst evs
  obtain ⟨w', b1, gw', b2, hw', eg', rw', hq'⟩ := ows_at ow3 hd
  rw [hw] at hw'; cases hw'
  obtain ⟨p2', us', es', ep2, ed4, rfl, hp2', rs2'⟩ := ow_lstd.mp rw'
  cases ep2; cases ed4
  rw [hp22] at hp2'
  have eus : us = us' := HO.lst.inj (Option.some.inj hp2')
  subst eus
  have hb : B2 p2 = none := (hf3 p2 (by rw [eg']; simp)).1
  have nodup : (p :: (b1 ++ [p2] ++ b2)).Nodup := by rw [← eg']; exact nd3
  have npp : p ≠ p2 := fun z => by
    rw [z] at nodup
    exact (List.nodup_cons.mp nodup).1 (by simp)
  have nb12 : ∀ b, b ∈ b1 ∨ b ∈ b2 → b ≠ p2 := fun b m z => by
    subst z
    have n2 := (List.nodup_cons.mp nodup).2
    rw [List.append_assoc, List.nodup_append] at n2
    obtain ⟨_, n3, n4⟩ := n2
    rcases m with m | m
    · exact n4 b m b (by simp) rfl
    · exact (List.nodup_cons.mp n3).1 m
  have z := q3 (some (.ref p)) (.own (.lst (.lst .dat)) (enc (xss.set n (xs ++ [a])))) (p :: (b1 ++ [p2] ++ b2)) B2 (upd H2 p2 (.lst (us ++ [v])))
    ⟨_, rfl, p, vs', (xss.map enc).set n (enc (xs ++ [a])), b1 ++ [p2] ++ b2, rfl, by show D.lst ((xss.set n (xs ++ [a])).map enc) = _; rw [List.map_set], rfl, by rw [upd_ne npp]; exact hh3, by
      have y := hq' (Ow K B2 (upd H2 p2 (.lst (us ++ [v]))) (.lst .dat)) (.ref p2) (enc (xs ++ [a])) [p2] (ow_lstd.mpr ⟨p2, us ++ [v], _, rfl, rfl, rfl, upd_same, by rw [List.map_append]; exact rs2'.app (.cons r2 .nil)⟩) fun v d h hh r => r.frame (Gr.refl _) fun b m => upd_ne (nb12 b (hh b m))
      rw [show vs'.set n (.ref p2) = vs' from by
        obtain ⟨h1, h2⟩ := List.getElem?_eq_some_iff.mp hw
        rw [← h2]; exact List.set_getElem_self h1] at y
      exact y⟩ nodup (fun b m => by
        have m2 : b ∈ p :: g3 := by rw [eg']; exact m
        exact ⟨(hf3 b m2).1, .inl m2⟩)
    (fun a u na e => by rw [upd_ne (fun z => na (by rw [z, eg']; simp))]; exact e) (Gr.refl _) (R2.bh.mut hb) fun a u e e0 => by rw [e] at e0; cases e0
  rw [σ_set_self ho0] at z
  exact hf _ F σ B2 _ _ z r k' e6 dd (q.gr (g1.trans g2))
/-- name.append([]), name an owned list of owned lists -/
theorem es_appNil [Enc α] {i : Nat} {xss : List (List α)} {f : List (List α) → m (Fl τ l ρ)} (hi : sd[i]? = some (.own (.lst (.lst .dat)) (enc xss))) (hf : ∀ ys, EvS K W tu (sd.set i (.own (.lst (.lst .dat)) (enc ys))) post postL (f ys)) :
    EvS K W (tSeq (tDrop (tBM K "list" rAppend (tVar i) (tCons (tLst tNil) tNil))) tu) sd post postL (gd (xss.length < 100000) (f (xss ++ [[]]))) := fun F σ B H k R r k' e dd q => by
  obtain ⟨hlen, e1⟩ := gd_some e
  obtain ⟨o0, f0, ho0, ⟨v0, rfl, w0⟩, nd0, hf0, q0⟩ := R.slot hi
  obtain ⟨p, vs, ds, gg, rfl, ed, rfl, hh, ow⟩ := w0
  cases ed
  refine ⟨_, ho0, .inl ⟨rfl, vs, SqL.of hh⟩, ?_⟩
  refine ⟨Nat.zero_le _, fun n np => ?_⟩
  have ne : p ≠ n := ne_of_none hh np
  have hl : vs.length = xss.length := by rw [ow.len, List.length_map]
  refine ⟨p, vs, .ref n, rfl, rfl, by rw [upd_ne ne]; exact hh, Nat.lt_of_lt_of_le (by omega : vs.length < 100000) (by decide), ?_⟩
  have hb := (hf0 p (by simp)).1
  have nn : n ∉ p :: gg := fun m => by
    rcases List.mem_cons.mp m with z | m
    · exact ne z.symm
    · exact absurd np ((show Ow K B H (.lst (.lst .dat)) (.ref p) (.lst (xss.map enc)) (p :: gg) from ⟨p, vs, _, gg, rfl, rfl, rfl, hh, ow⟩).some n (List.mem_cons_of_mem _ m))
  have hap : ∀ {vs : List V} {ds : List D} {f : List Addr} {R : V → D → List Addr → Prop} {v : V} {d : D} {g : List Addr}, Ows R vs ds f → R v d g → Ows R (vs ++ [v]) (ds ++ [d]) (f ++ g) := fun {vs ds f R v d g} h hr => by
    induction vs generalizing ds f with
    | nil => cases ds with
      | nil => obtain rfl : f = [] := h; exact ⟨g, [], by simp, hr, rfl⟩
      | cons _ _ => exact h.elim
    | cons x vs ih => cases ds with
      | nil => exact h.elim
      | cons y ds =>
        obtain ⟨f1, f2, e, h1, h2⟩ := h
        exact ⟨f1, f2 ++ g, by rw [e, List.append_assoc], h1, ih h2⟩
  have z := q0 (some (.ref p)) (.own (.lst (.lst .dat)) (enc (xss ++ [[]]))) (p :: (gg ++ [n])) B (upd (upd H n (.lst [])) p (.lst (vs ++ [.ref n])))
    ⟨_, rfl, p, vs ++ [.ref n], (xss ++ [[]]).map enc, gg ++ [n], rfl, rfl, rfl, upd_same, by
      rw [List.map_append]
      refine hap (ow.imp fun v d h hh2 r => r.frame (Gr.refl _) fun b m => ?_) (ow_lstd.mpr ⟨n, [], [], rfl, rfl, rfl, by rw [upd_ne ne.symm, upd_same], .nil⟩)
      have b1 : b ≠ p := fun z => (List.nodup_cons.mp nd0).1 (z ▸ hh2 b m)
      have b2 : b ≠ n := fun z => nn (List.mem_cons_of_mem _ (z ▸ hh2 b m))
      rw [upd_ne b1, upd_ne b2]⟩ (by
        rw [List.nodup_cons, List.nodup_append]
        refine ⟨fun m => ?_, (List.nodup_cons.mp nd0).2, by simp, fun a ma b mb z => ?_⟩
        · rcases List.mem_append.mp m with m | m
          · exact (List.nodup_cons.mp nd0).1 m
          · exact ne (List.mem_singleton.mp m)
        · rw [List.mem_singleton.mp mb] at z
          exact nn (List.mem_cons_of_mem _ (z ▸ ma)))
    (fun b m => by
      rcases List.mem_cons.mp m with rfl | m
      · exact ⟨hb, .inl List.mem_cons_self⟩
      · rcases List.mem_append.mp m with m | m
        · exact ⟨(hf0 b (List.mem_cons_of_mem _ m)).1, .inl (List.mem_cons_of_mem _ m)⟩
        · rw [List.mem_singleton.mp m]; exact ⟨R.bh.back np, .inr np⟩)
    (fun a u na e => by rw [upd_ne (fun z => na (by rw [z]; exact List.mem_cons_self)), upd_ne (ne_of_none e np)]; exact e) (Gr.refl _) ((R.bh.trans (Gr.new np)).mut hb) fun a u e e0 => by rw [e] at e0; cases e0
  rw [σ_set_self ho0] at z
  exact hf _ F σ B _ _ z r k' e1 dd q
/-- [[..], ..]: lists of the frame's own in one -/
theorem ef_lst1 [Enc α] {tr : TA} {x : m (List α)} (h : EvF K (.lst .dat) (tLst tr) sd x) : EvF K (.lst (.lst .dat)) (tLst (tCons (tLst tr) tNil)) sd (Mn.bnd x fun xs => Mn.pur [xs]) := fun F σ B H k R b k' e Q q => by
  obtain ⟨xs, k1, e1, e2⟩ := bnd_some e
  obtain ⟨rfl, rfl⟩ := pur_some e2
  show tLst tr σ H fun v H1 => [v].length ≤ sizeLine ∧ ∀ p, H1 p = none → Q (.ref p) (upd H1 p (.lst [v]))
  refine h F σ B H k R xs _ e1 _ fun v B1 H1 R1 g1 => ⟨(by decide : 1 ≤ sizeLine), fun p hp => ?_⟩
  obtain ⟨f, w, nd, hf, q1⟩ := R1.top
  obtain ⟨a, us, ds, rfl, ed, rfl, hh, rs⟩ := ow_lstd.mp w
  cases ed
  have ne : a ≠ p := ne_of_none hh hp
  have z := (q1 B1 (upd H1 p (.lst [.ref a])) (fun b u na e => by rw [upd_ne (ne_of_none e hp)]; exact e) (Gr.refl _) (R1.bh.trans (Gr.new hp)) fun b u e e0 => by rw [e] at e0; cases e0).2.1 (.ref p) (.lst (.lst .dat)) (enc [xs]) [p, a]
    ⟨p, [.ref a], [enc xs], [a], rfl, rfl, rfl, upd_same, [a], [], rfl, ow_lstd.mpr ⟨a, us, _, rfl, rfl, rfl, by rw [upd_ne ne]; exact hh, rs⟩, rfl⟩ (by simp [ne.symm]) fun b m => by
      rcases List.mem_cons.mp m with rfl | m
      · exact ⟨R1.bh.back hp, .inr hp⟩
      · exact ⟨(hf b m).1, .inl m⟩
  exact q (.ref p) B1 _ z g1
/-- an owned thing told otherwise: the same data -/
theorem es_as {i : Nat} {s s' : Sh} {d : D} {x : m (Fl τ l ρ)} (hi : sd[i]? = some (.own s d)) (hs : ∀ B H v f, Ow K B H s v d f → Ow K B H s' v d f) (h : EvS K W ts (sd.set i (.own s' d)) post postL x) : EvS K W ts sd post postL x := fun F σ B H k R f k' e dd q => by
  obtain ⟨o, f0, ho, ⟨v, rfl, w⟩, nd, hf, q1⟩ := R.slot hi
  have z := q1 (some v) (.own s' d) f0 B H ⟨v, rfl, hs B H v f0 w⟩ nd (fun a m => ⟨(hf a m).1, .inl m⟩) (fun a u _ e => e) (Gr.refl B) R.bh fun a u e e0 => by rw [e] at e0; cases e0
  rw [σ_set_self ho] at z
  exact h F σ B H k z f k' e dd q
/-- what is known to be a list: told as one -/
theorem es_unopt [Enc α] [Enc β] {i : Nat} {s : Sh} {b : β} {pr : β → Option α} {f : α → m (Fl τ l ρ)} (hi : sd[i]? = some (.own (.opt s) (enc b))) (hp : ∀ a, pr b = some a → enc b = enc a ∧ (enc a).sc = false) (h : ∀ a, EvS K W ts (sd.set i (.own s (enc a))) post postL (f a)) :
    EvS K W ts sd post postL (Mn.bnd (lift (pr b)) f) := fun F σ B H k R r k' e dd q => by
  obtain ⟨a, k1, e1, e2⟩ := bnd_some e
  obtain ⟨hpa, rfl⟩ := lift_some e1
  obtain ⟨he, hsc⟩ := hp a hpa
  refine es_as (s' := s) (ts := ts) (K := K) (W := W) (post := post) (postL := postL) hi (fun B H v f w => ?_) (by rw [he]; exact h a) F σ B H _ R r k' e2 dd q
  rcases w with ⟨_, h1, _⟩ | w
  · rw [he] at h1; rw [h1] at hsc; cases hsc
  · exact w
end
end ON

set_option Elab.async false
set_option linter.all false
set_option maxRecDepth 100000
set_option maxHeartbeats 2000000
/-! N15: values by other types, anything told, few more statements. -/
namespace ON
open PySem PySem.Spec PyProof.Rows L2
/-- anything told that is no error -/
structure An where
  d : D
  h : tyN d ≠ ""
instance : Enc An := ⟨An.d⟩
theorem An.ty (a : An) : tyN (enc a) ≠ "" := a.h
/-- types whose values are never errors -/
class Tyd (α : Type) [Enc α] where
  ty : ∀ a : α, tyN (enc a) ≠ ""
instance : Tyd An := ⟨An.h⟩
instance : Tyd Unit := ⟨fun _ => by show "NoneType" ≠ ""; decide⟩
instance : Tyd Bool := ⟨fun _ => by show "bool" ≠ ""; decide⟩
instance : Tyd Int := ⟨fun _ => by show "int" ≠ ""; decide⟩
instance : Tyd Str := ⟨fun _ => by show "str" ≠ ""; decide⟩
instance : Tyd Sc := ⟨fun _ => by show "list" ≠ ""; decide⟩
instance {α : Type} [Enc α] : Tyd (List α) := ⟨fun _ => by show "list" ≠ ""; decide⟩
instance {α : Type} [Enc α] : Tyd (Tl α) := ⟨fun _ => by show "tuple" ≠ ""; decide⟩
instance {α : Type} [Enc α] : Tyd (T1 α) := ⟨fun _ => by show "tuple" ≠ ""; decide⟩
instance {α β : Type} [Enc α] [Enc β] : Tyd (α × β) := ⟨fun _ => by show "tuple" ≠ ""; decide⟩
instance {α β γ : Type} [Enc α] [Enc β] [Enc γ] : Tyd (T3 α β γ) := ⟨fun _ => by show "tuple" ≠ ""; decide⟩
instance {α β γ δ : Type} [Enc α] [Enc β] [Enc γ] [Enc δ] : Tyd (T4 α β γ δ) := ⟨fun _ => by show "tuple" ≠ ""; decide⟩
instance {α β γ δ ε : Type} [Enc α] [Enc β] [Enc γ] [Enc δ] [Enc ε] : Tyd (T5 α β γ δ ε) := ⟨fun _ => by show "tuple" ≠ ""; decide⟩
instance {α β γ δ ε ζ : Type} [Enc α] [Enc β] [Enc γ] [Enc δ] [Enc ε] [Enc ζ] : Tyd (T6 α β γ δ ε ζ) := ⟨fun _ => by show "tuple" ≠ ""; decide⟩
instance {κ α : Type} [IsKey κ] [Enc α] : Tyd (Dc κ α) := ⟨fun _ => by show "dict" ≠ ""; decide⟩
instance {α : Type} [Enc α] [Tyd α] : Tyd (Option α) := ⟨fun a => by cases a with | none => show "NoneType" ≠ ""; decide | some a => exact Tyd.ty a⟩
instance {α β : Type} [Enc α] [Enc β] [Tyd α] [Tyd β] : Tyd (α ⊕ β) := ⟨fun a => by cases a with | inl a => exact Tyd.ty a | inr a => exact Tyd.ty a⟩
def An.of {α : Type} [Enc α] [Tyd α] (a : α) : An := ⟨enc a, Tyd.ty a⟩
/-- whether isinstance(.., T) -/
def kit (T : String) (d : D) : Bool := (kitB (tyN d) T).getD false
def kitFor (T : String) : Bool := ["NoneType", "bool", "int", "str", "list", "tuple", "dict"].all fun t => (kitB t T).isSome
theorem kit_ok {T : String} (h : kitFor T = true) (d : D) (hd : tyN d ≠ "") : kitB (tyN d) T = some (kit T d) := by
  unfold kit
  unfold kitFor at h
  have key : ∀ t ∈ ["NoneType", "bool", "int", "str", "list", "tuple", "dict"], kitB t T = some ((kitB t T).getD false) := fun t ht => by
    have z := List.all_eq_true.mp h t ht
    cases e : kitB t T with
    | none => rw [e] at z; cases z
    | some b => rfl
  cases d with
  | non => exact key "NoneType" (by simp)
  | bl b => exact key "bool" (by simp)
  | int i => exact key "int" (by simp)
  | str s => exact key "str" (by simp)
  | lst ds => exact key "list" (by simp)
  | tup ds => exact key "tuple" (by simp)
  | dic ks ds => exact key "dict" (by simp)
  | scr ns => exact key "list" (by simp)
  | err c ns ds => exact absurd rfl hd
/-- what a value is by another type -/
class Dec (α β : Type) where
  dec : α → Option β
instance {α : Type} : Dec (Option α) α := ⟨id⟩
instance : Dec An Str := ⟨fun a => match a.d with | .str s => some s | _ => none⟩
instance : Dec An Int := ⟨fun a => match a.d with | .int s => some s | _ => none⟩
section
variable {K : PySem.W.Frag} {m : Type → Type} [Mn m] {α β γ τ τ' l ρ : Type} {sd sd' : List SD} {ta tb te tk ti : TE} {W : Wr} {post : τ → List SD} {postL : l → List SD} {ts tu : TS}
theorem em_dec [Enc α] [Enc β] {x : m α} (f : α → Option β) (hf : ∀ a b, f a = some b → enc a = enc b) (h : EvM K te sd x) : EvM K te sd (Mn.bnd x fun a => lift (f a)) := fun F σ B H k R b k' e Q q => by
  obtain ⟨a, k1, e1, e2⟩ := bnd_some e
  obtain ⟨e3, rfl⟩ := lift_some e2
  exact h F σ B H k R a _ e1 Q fun v B' H' R' g r => q v B' H' R' g (by rw [← hf a b e3]; exact r)
theorem ef_as [Enc α] [Enc β] {s : Sh} {x : m α} (f : α → β) (hf : ∀ a, enc a = enc (f a)) (h : EvF K s te sd x) : EvF K s te sd (Mn.bnd x fun a => Mn.pur (f a)) := fun F σ B H k R b k' e Q q => by
  obtain ⟨a, k1, e1, e2⟩ := bnd_some e
  obtain ⟨rfl, rfl⟩ := pur_some e2
  exact h F σ B H k R a k' e1 Q fun v B' H' R' g => q v B' H' (by rw [← hf]; exact R') g
theorem dec_opt [Enc α] : ∀ (a : Option α) b, id a = some b → enc a = enc b := fun a b e => by subst e; rfl
theorem dec_anS : ∀ (a : An) b, (Dec.dec a : Option Str) = some b → enc a = enc b := fun a b e => by
  obtain ⟨d, h⟩ := a
  cases d <;> first | (cases e; done) | (cases e; rfl)
theorem dec_anI : ∀ (a : An) b, (Dec.dec a : Option Int) = some b → enc a = enc b := fun a b e => by
  obtain ⟨d, h⟩ := a
  cases d <;> first | (cases e; done) | (cases e; rfl)
/-- isinstance(x, T), T a built-in class -/
theorem em_isT [Enc α] [Tyd α] {x : m α} {T : String} (h : EvM K te sd x) (hk : kitFor T = true) : EvM K (tCB (rIsi K) (tCons te (tCons (tC (.ty T)) tNil))) sd (Mn.bnd x fun a => Mn.pur (kit T (enc a))) :=
  em_isi h (fun a => kit_ok hk (enc a) (Tyd.ty a)) (fun a => Tyd.ty a)
/-- return, what follows is never reached -/
theorem es_retFS {ρ : Type} [Enc ρ] {s : Sh} {x : m ρ} (h : EvF K s te sd x) : EvS K W (tSeq (tRet te) tu) sd post postL (Mn.bnd x fun r => (Mn.pur (.rt ⟨r⟩) : m (Fl τ l (Fw s ρ)))) := fun F σ B H k R f k' e D q => by
  obtain ⟨r, k1, e1, e2⟩ := bnd_some e
  obtain ⟨rfl, rfl⟩ := pur_some e2
  exact h F σ B H k R r _ e1 _ fun v B' H' R' g => q v σ B' H' sd R' g
theorem es_retVS {ρ : Type} [Enc ρ] {s : Sh} {i : Nat} {r : ρ} (hi : sd[i]? = some (.own s (enc r))) : EvS K W (tSeq (tRet (tVar i)) tu) sd post postL (Mn.pur (.rt ⟨r⟩) : m (Fl τ l (Fw s ρ))) := fun F σ B H k R f k' e D q => by
  obtain ⟨rfl, rfl⟩ := pur_some e
  obtain ⟨o, f0, ho, ⟨v, rfl, w⟩, nd, hf, q1⟩ := R.slot hi
  refine ⟨v, ho, ?_⟩
  exact q v σ B H (sd.set i .un) (R.take hi ho w) (Gr.refl B)
/-- the same in a def that may raise -/
theorem es_retVO {ρ : Type} [Enc ρ] {s : Sh} {i : Nat} {r : ρ} (hi : sd[i]? = some (.own s (enc r))) : EvS K W (tSeq (tRet (tVar i)) tu) sd post postL (Mn.pur (.rt (.ok ⟨r⟩)) : m (Fl τ l (Xr (Fw s ρ)))) := fun F σ B H k R f k' e D q => by
  obtain ⟨rfl, rfl⟩ := pur_some e
  obtain ⟨o, f0, ho, ⟨v, rfl, w⟩, nd, hf, q1⟩ := R.slot hi
  refine ⟨v, ho, ?_⟩
  exact q v σ B H (sd.set i .un) (R.take hi ho w) (Gr.refl B)
theorem es_retFO {ρ : Type} [Enc ρ] {s : Sh} {x : m ρ} (h : EvF K s te sd x) : EvS K W (tSeq (tRet te) tu) sd post postL (Mn.bnd x fun r => (Mn.pur (.rt (.ok ⟨r⟩)) : m (Fl τ l (Xr (Fw s ρ))))) := fun F σ B H k R f k' e D q => by
  obtain ⟨r, k1, e1, e2⟩ := bnd_some e
  obtain ⟨rfl, rfl⟩ := pur_some e2
  exact h F σ B H k R r _ e1 _ fun v B' H' R' g => q v σ B' H' sd R' g
/-- data handed back as what may be owned -/
theorem ef_sc [Enc α] {s : Sh} {x : m α} (h : EvM K te sd x) (hs : ∀ a : α, (enc a).sc = true) : EvF K (.opt s) te sd x := fun F σ B H k R a k' e Q q =>
  h F σ B H k R a k' e Q fun v B' H' R' g r => q v B' H' (R'.push (f := []) (.inl ⟨rfl, hs a, r⟩) .nil (fun _ m => nomatch m) (Gr.refl _) R'.bh (Gr.refl _) fun a o e e0 => by rw [e] at e0; cases e0) g
theorem es_raiseS [Enc ρ] {t : L2.St → Hp → XK → Prop} {x : m Er} (h : EvK K t sd x) (hl : Le sd W.sd) : EvS K W (tSeq (tRaise t W.w) tu) sd post postL (Mn.bnd x fun e => (Mn.pur (.rt (.er e)) : m (Fl τ l (Xr ρ)))) := fun F σ B H k R f k' e D q => by
  obtain ⟨r, k1, e1, e2⟩ := bnd_some e
  obtain ⟨rfl, rfl⟩ := pur_some e2
  exact h F σ B H k R r _ e1 _ fun cls d B' H' R' g ro => q cls d σ B' H' (R'.le hl) g ro
theorem es_raiseF [Enc ρ] {s : Sh} {t : L2.St → Hp → XK → Prop} {x : m Er} (h : EvK K t sd x) (hl : Le sd W.sd) : EvS K W (tSeq (tRaise t W.w) tu) sd post postL (Mn.bnd x fun e => (Mn.pur (.rt (.er e)) : m (Fl τ l (Xr (Fw s ρ))))) := fun F σ B H k R f k' e D q => by
  obtain ⟨r, k1, e1, e2⟩ := bnd_some e
  obtain ⟨rfl, rfl⟩ := pur_some e2
  exact h F σ B H k R r _ e1 _ fun cls d B' H' R' g ro => q cls d σ B' H' (R'.le hl) g ro
end
end ON

set_option Elab.async false
set_option linter.all false
set_option maxRecDepth 100000
set_option maxHeartbeats 2000000
/-! N16: parts of tuples, targets, what the printer wants besides; error classes. -/
namespace ON
open PySem PySem.Spec PyProof.Rows L2
section
variable {K : PySem.W.Frag} {m : Type → Type} [Mn m] {α β γ δ ε ζ τ τ' l ρ : Type} {sd sd' : List SD} {ta tb te tk ti : TE} {W : Wr} {post : τ → List SD} {postL : l → List SD} {ts tu : TS}
/-- x[i] of a tuple of a type of its own, i written -/
theorem em_fldT [Enc α] [Enc β] {x : m α} {i : Int} (pr : α → β) (h : EvM K ta sd x) (hp : ∀ a, ∃ ds, enc a = .tup ds ∧ atI ds i = some (enc (pr a))) : EvM K (tOp (rIxT K) ta (tC (.int i))) sd (Mn.bnd x fun a => Mn.pur (pr a)) := fun F σ B H k R b k' e Q q => by
  obtain ⟨a, k1, e1, e2⟩ := bnd_some e
  obtain ⟨rfl, rfl⟩ := pur_some e2
  refine h F σ B H k R a _ e1 _ fun v B1 H1 R1 g1 r1 => ?_
  obtain ⟨ds, hd, hx⟩ := hp a
  rw [hd] at r1
  obtain ⟨p, xs, rfl, hq, hs⟩ := Rp.tup_inv r1
  obtain ⟨w, hw, rw_⟩ := atI_rps hs hx
  exact ⟨p, xs, i, w, rfl, rfl, R1.bh.sqT hq, hw, q w B1 H1 R1 g1 rw_⟩
theorem em_fldN [Enc α] [Enc β] {x : m α} {i : Int} (pr : α → β) (h : EvM K ta sd x) (hp : ∀ a, ∃ ds, enc a = .tup ds ∧ atI ds (-i) = some (enc (pr a))) : EvM K (tOp (rIxT K) ta (tUn (rU fun i => .int (-i)) (tC (.int i)))) sd (Mn.bnd x fun a => Mn.pur (pr a)) := fun F σ B H k R b k' e Q q => by
  obtain ⟨a, k1, e1, e2⟩ := bnd_some e
  obtain ⟨rfl, rfl⟩ := pur_some e2
  refine h F σ B H k R a _ e1 _ fun v B1 H1 R1 g1 r1 => ?_
  obtain ⟨ds, hd, hx⟩ := hp a
  rw [hd] at r1
  obtain ⟨p, xs, rfl, hq, hs⟩ := Rp.tup_inv r1
  obtain ⟨w, hw, rw_⟩ := atI_rps hs hx
  exact ⟨i, rfl, p, xs, -i, w, rfl, rfl, R1.bh.sqT hq, hw, q w B1 H1 R1 g1 rw_⟩
/-- a tuple display as a value of a type of its own -/
theorem em_tupN [Enc β] {tr : TA} {y : m α} {g : α → List D} (f : α → β) (h : EvA K tr sd y g) (hg : ∀ b, enc (f b) = .tup (g b)) {n : Nat} (hl : ∀ b, (g b).length = n := by intro _; rfl) (hn : n ≤ 1000 := by decide) : EvM K (tTup tr) sd (Mn.bnd y fun b => Mn.pur (f b)) := fun F σ B H k R c k' e Q q => by
  obtain ⟨b, k1, e1, e2⟩ := bnd_some e
  obtain ⟨rfl, rfl⟩ := pur_some e2
  exact h F σ B H k R b _ e1 _ fun vs B1 H1 R1 g1 r1 => ⟨by rw [r1.len, hl]; exact Nat.le_trans hn (by decide), fun p hp => by
    obtain ⟨R2, g2⟩ := R1.data (o := .tup vs) hp
    exact q (.ref p) _ _ R2 (g1.trans g2) (by rw [hg]; exact .tup (.inl (.inl upd_same)) (r1.gr g2))⟩
theorem om_ixSc {a : Sc} {i : Int} : OpM K (rIxL K) a i (lift (atI a.ns i) : m Int) := fun F σ B H sd k R va vb ra rb c k' e Q q => by
  obtain ⟨hc, rfl⟩ := lift_some e
  obtain ⟨p, rfl, hp⟩ := Rp.scr_inv (ns := a.ns) ra
  exact ⟨p, _, i, .int c, rfl, Rp.int_inv rb, R.bh.sqL hp, by rw [atI_map, hc] <;> rfl, q _ B H R (Gr.refl B) (.int _)⟩
theorem eg_t3 [Enc α] [Enc β] [Enc γ] {i j n : Nat} {p : T3 α β γ} : EvG K (gTup K 3 (gCons (gName i) (gCons (gName j) (gCons (gName n) gNil)))) sd p (((sd.set i (.dat (enc p.a))).set j (.dat (enc p.b))).set n (.dat (enc p.c))) [i, j, n] := fun F σ B H k v R r Q q => by
  obtain ⟨a, xs, rfl, hp, hs⟩ := Rp.tup_inv r
  cases hs with | cons h1 hs => cases hs with | cons h2 hs => cases hs with | cons h3 hs =>
    cases hs
    refine ⟨a, _, rfl, R.bh.sqT hp, rfl, _, _, rfl, _, _, rfl, _, _, rfl, rfl, ?_⟩
    refine q _ (((R.setDat h1).setDat h2).setDat h3) fun vs h => ?_
    rw [wipe_set (h n (by simp)), wipe_set (h j (by simp)), wipe_set (h i (by simp))]
theorem eg_t4 [Enc α] [Enc β] [Enc γ] [Enc δ] {i j n o : Nat} {p : T4 α β γ δ} : EvG K (gTup K 4 (gCons (gName i) (gCons (gName j) (gCons (gName n) (gCons (gName o) gNil))))) sd p ((((sd.set i (.dat (enc p.a))).set j (.dat (enc p.b))).set n (.dat (enc p.c))).set o (.dat (enc p.d))) [i, j, n, o] := fun F σ B H k v R r Q q => by
  obtain ⟨a, xs, rfl, hp, hs⟩ := Rp.tup_inv r
  cases hs with | cons h1 hs => cases hs with | cons h2 hs => cases hs with | cons h3 hs => cases hs with | cons h4 hs =>
    cases hs
    refine ⟨a, _, rfl, R.bh.sqT hp, rfl, _, _, rfl, _, _, rfl, _, _, rfl, _, _, rfl, rfl, ?_⟩
    refine q _ ((((R.setDat h1).setDat h2).setDat h3).setDat h4) fun vs h => ?_
    rw [wipe_set (h o (by simp)), wipe_set (h n (by simp)), wipe_set (h j (by simp)), wipe_set (h i (by simp))]
/-- an owned list grows; the rest told of any list -/
theorem es_appG [Rt ρ] [Enc α] {i : Nat} {xs : List α} {y : m α} {f : List α → m (Fl τ l ρ)} (hi : sd[i]? = some (.own (.lst .dat) (enc xs))) (h : EvM K te sd y) (hf : ∀ zs, EvS K W tu (sd.set i (.own (.lst .dat) (enc zs))) post postL (f zs)) :
    EvS K W (tSeq (tDrop (tBM K "list" rAppend (tVar i) (tCons te tNil))) tu) sd post postL (Mn.bnd y fun a => gd (xs.length < 100000) (f (xs ++ [a]))) := es_app hi h fun a => hf _
theorem finF_some [Enc ρ] {s : Sh} {x : Option (Fl Empty Empty (Fw s ρ))} {r : ρ} (h : (fin x).map Fw.r = some r) : x = some (.rt ⟨r⟩) := by
  obtain ⟨z, hz, rfl⟩ := Option.map_eq_some_iff.mp h
  exact fin_some hz
def Xr.unF {s : Sh} : Xr (Fw s ρ) → Xr ρ
  | .ok z => .ok z.r
  | .er e => .er e
theorem finXF_some [Enc ρ] {s : Sh} {x : Option (Fl Empty Empty (Xr (Fw s ρ)))} {r : Xr ρ} (h : (fin x).map Xr.unF = some r) : x = some (.rt (match (generalizing := false) r with | .ok z => .ok ⟨z⟩ | .er e => .er e)) := by
  obtain ⟨z, hz, e⟩ := Option.map_eq_some_iff.mp h
  rw [fin_some hz]
  subst e
  cases z <;> rfl
end
/-! ### error classes -/
/-- what is wished of an own class whose __init__ says super().__init__(f'..') and keeps its field -/
structure ErrC (P : Program) (K : PySem.W.Frag) (mg : Str → Option Value) (n fl : Str) (C : Addr) : Prop where
  mg : mg n = some (.ref C)
  ns : PySem.W.nsIn K mainGlobals n = some (some (.ref C))
  keep : PySem.W.keepIn K (.ref C) = true
  sb : PySem.W.subIn K (.ref C) (.type "BaseException") = some true
  ty : PySem.W.typeIn K (.ref C) = some (.type "type")
  xf : XfC K C
  nof : PySem.W.findIn K (.ref C) fl = some none
  ec : EC K C
theorem ErrC.raises {P : Program} {K : PySem.W.Frag} {mg : Str → Option Value} {n fl : Str} {C : Addr} (h : ErrC P K mg n fl C) {X : Cx} (e : X.K = K) : Raises X (.ref C) := by
  subst e; exact raises_own h.sb h.ty
/-- ints can stand in the braces -/
def isI (v : V) : Prop := ∃ i : Int, v = .int i ∧ i.natAbs.log2 < 1920
end ON

set_option Elab.async false
set_option linter.all false
set_option maxRecDepth 100000
set_option maxHeartbeats 2000000
namespace ON
open PySem PySem.Spec PyProof.Rows L2
def okI (i : Int) : Prop := i.natAbs.log2 < 1920
instance : DecidablePred okI := fun i => by unfold okI; exact inferInstance
theorem ho_isI {K : PySem.W.Frag} : ∀ (a : Int) (B : Hp) (v : V), okI a → Rp K B v (enc a) → isI v := fun a B v h r => ⟨a, Rp.int_inv r, h⟩
theorem fmt_isI {P : Program} {w : World} : ∀ (H : Hp) (h : Heap) (v : V) (u : Value), HOk P w H h → isI v → RelV v u → Fmt P w h u := fun H h v u _ hi r => by
  obtain ⟨i, rfl, hl⟩ := hi
  obtain ⟨t, rfl⟩ := r
  intro A E s Q _ q
  refine PySem.wpAny_formatField_int hl ?_
  refine q (Str.ofString (toString i)) _ _ ?_
  have e := int_text_length_le (k := 1920) (by decide) hl
  rw [PySem.ofString_length]; omega
end ON
namespace ON
def prL {α β : Type} : Option α ⊕ β → Option α
  | .inl o => o
  | .inr _ => none
theorem prL_ok {α β : Type} [Enc α] [Enc β] (hα : ∀ a : α, (enc a).sc = false) (b : Option α ⊕ β) (a : α) (h : prL b = some a) : enc b = enc a ∧ (enc a).sc = false := by
  cases b with
  | inl o => cases o with
    | none => cases h
    | some x => cases h; exact ⟨rfl, hα _⟩
  | inr _ => cases h
end ON

set_option Elab.async false
set_option linter.all false
set_option maxRecDepth 100000
set_option maxHeartbeats 400000
namespace ON
open PySem PySem.Spec PyProof.Rows L2
/-- try: body; except c as (slot i): (slot j) = (slot i) -/
theorem ps_tryM {X : Cx} {x n : Str} {c : Value} {i j : Nat} {body suite : List Stmt} {b₀ : Stmt} {np pos pos' : Pos} {tb : WX → TS}
    (hs : X.stack = X.env :: X.outer) (hf : X.env.frame = some X.env.locals) (hex : X.ex = []) (hN : X.N.Nodup) (hi : X.N[i]? = some n) (hln : X.env.kindOf n = some .local) (hc : Names X x c)
    (hb : ∀ (W : WX) (pn : List (Addr × Obj)) (xe : Value → Shared → Prop), Takes (X.tr pn xe) W → PassesOwn (model X.prog X.w) X.A X.env xe → PSs (X.tr pn xe) body (tb W))
    (hsu : ∀ (a : Addr) (oe : Obj) (cls : Value) (d : Option Addr) (pn : List (Addr × Obj)), Zc cls d oe → (∃ vs, oe.data = .fields vs) → PSs (X.suite a ((a, oe) :: pn)) (b₀ :: suite) (tAsg (tVar i) (gName j))) :
    PS X (.Try body [.ExceptHandler (some (.Name x np)) (some n) (b₀ :: suite) pos'] [] [] pos) (tTryK X.K c i j tb) :=
  ps_try_keep (ts := fun _ _ _ => tAsg (tVar i) (gName j)) hs hf hex hN hi hln hc hb hsu
section
variable {K : PySem.W.Frag} {m : Type → Type} [Mn m] {α β γ τ τ' τ'' l ρ : Type} {sd : List SD} {ta te : TE} {W : Wr} {post : τ → List SD} {postL : l → List SD} {ts tu : TS}
theorem es_setXG [Enc α] [Enc ρ] {s0 : Sh} {i : Nat} {x : m (Xr α)} {f : α → m (Fl τ l (Xr (Fw s0 ρ)))} (h : EvX K W .dat te sd x) (hl : Le sd W.sd) (hf : ∀ a, EvS K W tu (sd.set i (.dat (enc a))) post postL (f a)) : EvS K W (tSeq (tAsg te (gName i)) tu) sd post postL (xbnd x f) := fun F σ B H k R r k' e D q => by
  unfold xbnd at e
  obtain ⟨a, k1, e1, e2⟩ := bnd_some e
  cases a with
  | ok a => exact h F σ B H k R _ k1 e1 _ (fun b hb v B' H' R' g => by cases hb; obtain ⟨B2, R2, g2, rv⟩ := R'.frzX rfl; exact hf a F _ B2 H' k1 (R2.setDat rv) r k' e2 D (q.gr (g.trans g2))) fun e he => by cases he
  | er e3 =>
    obtain ⟨rfl, rfl⟩ := pur_some e2
    exact h F σ B H k R _ _ e1 _ (fun b hb => by cases hb) fun e4 he cls d B' H' R' g ro => by cases he; exact q cls d σ B' H' (R'.le hl) g ro
theorem es_dropXG [Enc α] [Enc ρ] {s0 : Sh} {x : m (Xr α)} {f : α → m (Fl τ l (Xr (Fw s0 ρ)))} (h : EvX K W .dat te sd x) (hl : Le sd W.sd) (hf : ∀ a, EvS K W tu sd post postL (f a)) : EvS K W (tSeq (tDrop te) tu) sd post postL (xbnd x f) := fun F σ B H k R r k' e D q => by
  unfold xbnd at e
  obtain ⟨a, k1, e1, e2⟩ := bnd_some e
  cases a with
  | ok a => exact h F σ B H k R _ k1 e1 _ (fun b hb v B' H' R' g => by cases hb; exact hf a F _ B' H' k1 R'.pop r k' e2 D (q.gr g)) fun e he => by cases he
  | er e3 =>
    obtain ⟨rfl, rfl⟩ := pur_some e2
    exact h F σ B H k R _ _ e1 _ (fun b hb => by cases hb) fun e4 he cls d B' H' R' g ro => by cases he; exact q cls d σ B' H' (R'.le hl) g ro
theorem es_setXFG [Enc α] [Enc ρ] {s0 : Sh} {s : Sh} {i : Nat} {x : m (Xr α)} {f : α → m (Fl τ l (Xr (Fw s0 ρ)))} (h : EvX K W s te sd x) (hl : Le sd W.sd) (hf : ∀ a, EvS K W tu (sd.set i (.own s (enc a))) post postL (f a)) : EvS K W (tSeq (tAsg te (gName i)) tu) sd post postL (xbnd x f) := fun F σ B H k R r k' e D q => by
  unfold xbnd at e
  obtain ⟨a, k1, e1, e2⟩ := bnd_some e
  cases a with
  | ok a => exact h F σ B H k R _ k1 e1 _ (fun b hb v B' H' R' g => by cases hb; exact hf a F _ B' H' k1 R'.toSlot r k' e2 D (q.gr g)) fun e he => by cases he
  | er e3 =>
    obtain ⟨rfl, rfl⟩ := pur_some e2
    exact h F σ B H k R _ _ e1 _ (fun b hb => by cases hb) fun e4 he cls d B' H' R' g ro => by cases he; exact q cls d σ B' H' (R'.le hl) g ro
theorem es_tryF [Enc ρ] {s0 : Sh} {c : Value} {i j : Nat} {names : List Str} {mg : τ' ⊕ Er → τ} {tb : WX → TS} {xb : m (Fl τ' l (Xr (Fw s0 ρ)))} {sdE : List SD} {mid : τ' → List SD} (hij : i ≠ j) (hi : i < sdE.length)
    (hb : ∀ w : WX, EvS K ⟨w, sdE⟩ (tb w) sd mid postL xb) (hn : ∀ n ∈ names, ∀ C, PySem.W.nsIn K mainGlobals n = some (some (.ref C)) → PySem.W.exmOne K (.ref C) c = some true)
    (h1 : ∀ t, Le (mid t) (post (mg (.inl t)))) (h2 : ∀ e : Er, Le ((sdE.set j (.dat (enc e))).set i .un) (post (mg (.inr e)))) :
    EvS K W (tTryK K c i j tb) sd post postL (tryK names mg xb : m (Fl τ l (Fw s0 ρ))) := fun F σ B H k R f k' e D q => by
  unfold tryK at e
  obtain ⟨r, k1, e1, e2⟩ := bnd_some e
  refine hb _ F σ B H k R r k1 e1 D ?_
  cases r with
  | nx t => obtain ⟨rfl, rfl⟩ := pur_some e2; exact fun σ' B' H' R' g => q σ' B' H' (R'.le (h1 t)) g
  | bk t => obtain ⟨rfl, rfl⟩ := pur_some e2; exact q
  | ct t => obtain ⟨rfl, rfl⟩ := pur_some e2; exact q
  | rt z =>
    cases z with
    | ok z => obtain ⟨rfl, rfl⟩ := pur_some e2; exact q
    | er z =>
      obtain ⟨hm, e3⟩ := gd_some e2
      obtain ⟨rfl, rfl⟩ := pur_some e3
      intro cls d σ' B' H' R' g ro
      have R0 : Rel K F σ' B' H' sdE _ := R'
      obtain ⟨C, hC, hcls, _⟩ := id ro
      refine ⟨by rw [hcls]; exact hn _ hm C hC, fun a ha => ?_⟩
      have li : i < σ'.length := by rw [← R0.len]; exact hi
      refine ⟨.ref a, List.getElem?_set_self li, fun _ => ?_⟩
      obtain ⟨R1, g1⟩ := R0.data (o := XO cls d a) ha
      have rk := (ro.gr g1).kept upd_same
      have R2 := ((R1.setDat (i := i) rk).setDat (i := j) rk).setUn (i := i) (o' := none)
      refine q _ _ _ (R2.le ?_) (g.trans g1)
      rw [List.set_comm _ _ hij, List.set_set]
      exact h2 z
end
end ON

set_option Elab.async false
set_option linter.all false
set_option maxRecDepth 100000
set_option maxHeartbeats 400000
/-! N19: a dict locked for good is data. -/
namespace ON
open PySem PySem.Spec PyProof.Rows L2
def tLkE (t : TE) : TE := fun σ H Q => t σ H fun v H1 => ∃ d u, v = .ref d ∧ H1 d = some u ∧ Mut (some u) ∧ ∀ od, Q v (upd H1 d (.frz od u))
theorem pe_lk {X : Cx} {e : Expr} {t : TE} (h : PE X e t) : PE X e (tLkE t) := by
  refine ⟨fun pins s σ H Q I hw => ?_⟩
  refine thn (h.run pins s σ _ _ I hw) fun v s1 ⟨x, H1, I2, r, e2⟩ => ?_
  obtain ⟨d, u, rfl, hd, mu, q⟩ := e2
  obtain ⟨od, I3⟩ := I2.lock hd mu
  exact ⟨_, _, I3, r, q od⟩
section
variable {K : PySem.W.Frag} {m : Type → Type} [Mn m] {α β γ τ τ' l ρ κ : Type} {sd sd' : List SD} {ta tb te tk ti : TE} {W : Wr} {post : τ → List SD} {postL : l → List SD} {ts tu : TS}
theorem ef_dnil [IsKey κ] [Enc α] : EvF K (.dic .dat) tDNewK sd (Mn.pur ⟨[]⟩ : m (Dc κ α)) := fun F σ B H k R c k' e Q q => by
  obtain ⟨rfl, rfl⟩ := pur_some e
  exact fun p hp => q _ B _ (R.newD (ks := []) (vs := []) (ds := []) hp rfl .nil) (Gr.refl B)
theorem Rel.lock {F : Fr} {σ : L2.St} {B H : Hp} {k : Int} {v : V} {d : D} (R : Rel K (F.push v (.dic .dat) d) σ B H sd k) : ∃ a u, v = .ref a ∧ H a = some u ∧ Mut (some u) ∧ ∀ od, ∃ B', Rel K F σ B' (upd H a (.frz od u)) sd k ∧ Gr B B' ∧ Rp K B' v d := by
  obtain ⟨f, w, nd, hf, q⟩ := R.top
  obtain ⟨a, ks, vs, ds, rfl, rfl, rfl, hl, ha, r⟩ := ow_dicd.mp w
  refine ⟨a, _, rfl, ha, trivial, fun od => ?_⟩
  have hb : B a = none := (hf a (List.mem_singleton.mpr rfl)).1
  have g : Gr B (upd B a (.frz od (.dK (ks.zip vs)))) := Gr.new hb
  refine ⟨upd B a (.frz od (.dK (ks.zip vs))), (q _ (upd H a (.frz od (.dK (ks.zip vs)))) (fun b u nb e => by rw [upd_ne (fun z => nb (List.mem_singleton.mpr z))]; exact e) g (fun b u e => ?_) fun b u e e0 => ?_).1, g, ?_⟩
  · by_cases c : b = a
    · subst c; rw [upd_same] at e ⊢; exact e
    · rw [upd_ne c] at e ⊢; exact R.bh b u e
  · by_cases c : b = a
    · exact .inl (List.mem_singleton.mpr c)
    · rw [upd_ne c, e0] at e; cases e
  · exact .dic hl upd_same (r.gr g)
theorem em_lk [IsKey κ] [Enc α] {x : m (Dc κ α)} (h : EvF K (.dic .dat) te sd x) : EvM K (tLkE te) sd x := fun F σ B H k R a k' e Q q => by
  refine h F σ B H k R a k' e _ fun v B' H' R' g => ?_
  obtain ⟨d, u, rfl, hd, mu, z⟩ := R'.lock
  refine ⟨d, u, rfl, hd, mu, fun od => ?_⟩
  obtain ⟨B2, R2, g2, r2⟩ := z od
  exact q _ B2 _ R2 (g.trans g2) r2
end
end ON

set_option Elab.async false
set_option linter.all false
set_option maxRecDepth 100000
set_option maxHeartbeats 1000000
/-! N20: what the names of a state look like -/
namespace ON
open PySem PySem.Spec PyProof.Rows L2
/-- small letters alone -/
def Low (y : Str) : Prop := y.cps.toList.all (fun c => decide (97 ≤ c ∧ c ≤ 122)) = true
instance (y : Str) : Decidable (Low y) := by unfold Low; exact inferInstance
theorem Low.app {a b : Str} (h : Low a) (g : Low b) : Low (a ++ b) := by
  unfold Low at *
  have e : (a ++ b).cps.toList = a.cps.toList ++ b.cps.toList := by
    show (a.cps ++ b.cps).toList = _
    simp
  rw [e, List.all_append, h, g]; rfl
theorem joinL_all (f : Nat → Bool) : ∀ ps : List (List Nat), (∀ p ∈ ps, p.all f = true) → (TL.joinL [] ps).all f = true
  | [], _ => rfl
  | [p], h => by simpa [TL.joinL] using h p (.head _)
  | p :: q :: r, h => by
    rw [TL.joinL, List.all_append, List.all_append, h p (.head _), joinL_all f (q :: r) fun z hz => h z (.tail _ hz)]; rfl
theorem join_l (ys : List Str) : (Txt.join ("" : Str) ys).cps.toList = TL.joinL [] (ys.map fun y => y.cps.toList) := by rw [TL.join_eq]; exact TL.tl_join ("" : Str) ys
theorem Low.join {ys : List Str} (h : ∀ y ∈ ys, Low y) : Low (Txt.join ("" : Str) ys) := by
  unfold Low
  rw [join_l]
  refine joinL_all _ _ fun p hp => ?_
  obtain ⟨y, hy, rfl⟩ := List.mem_map.mp hp
  exact h y hy
theorem cut_all {f : Nat → Bool} {x : Str} {lo hi : Option Int} (h : x.cps.toList.all f = true) : (cutT x lo hi).cps.toList.all f = true := by
  unfold cutT cutS
  rw [List.all_eq_true] at h ⊢
  exact fun c hc => h c (List.mem_of_mem_drop (List.mem_of_mem_take hc))
theorem Low.cut {x : Str} {lo hi : Option Int} (h : Low x) : Low (cutT x lo hi) := cut_all h
theorem Low.ok {x : Str} (h : Low x) : PyData.strOk x = true := by
  unfold Low at h
  show x.cps.all _ = true
  rw [← Array.all_toList]
  rw [List.all_eq_true] at h ⊢
  intro c hc
  have := of_decide_eq_true (h c hc)
  exact decide_eq_true (by omega)
theorem cut_len (x : Str) (lo hi : Option Int) : (cutT x lo hi).length = min (HT.sIx x.length x.length hi - HT.sIx x.length 0 lo) (x.length - HT.sIx x.length 0 lo) := by
  show (List.toArray _).size = _
  rw [List.size_toArray, List.length_take, List.length_drop, Array.length_toList]; rfl
theorem cut_two (x : Str) (a : Int) (h : 0 ≤ a) : (cutT x none (some a)).length + (cutT x (some a) none).length ≤ x.length := by
  obtain ⟨j, rfl⟩ : ∃ j : Nat, a = (j : Int) := ⟨a.toNat, by omega⟩
  rw [cut_len, cut_len, HT.sIx_nat, HT.sIx_nat, HT.sIx_none, HT.sIx_none]
  have := Nat.min_le_right j x.length
  omega
theorem bg_W2 (c : List Int) (hc : c.length ≤ 1000) : W (bgM bg2 bg3 bg4 c) 0 fun ns k => 0 ≤ k ∧ k ≤ 100 ∧ ns.length = 24 ∧ ∀ y ∈ ns, 1 ≤ y.length ∧ y.length ≤ 8 ∧ Low y := by
  have sz : 100000 < sizeLine := by decide
  unfold bgM
  refine W.bnd ?_
  unfold bg2
  refine W.bnd (W.bnd (W.bnd (W.bnd (W.pur (W.nx hc (by decide) (by decide) fun n n0 n1 => ?_)))))
  refine W.gd (by omega) (W.pur ?_)
  have hl := upTo_len 0 1 n.toNat
  refine W.gd (by rw [hl]; omega) (W.compL (Q := fun y : Str => y.length = 1 ∧ Low y) 1 _ _ (fun k x k0 k1 _ => ?_) (by decide) (by decide) fun ys k' h1 h2 h3 h4 => ?_)
  · refine W.bnd (W.pur (W.bnd (W.bnd (W.pur (W.nx hc (by rw [hl] at k1; omega) (by decide) fun r r0 r1 => ?_)))))
    refine W.gd (by decide) (W.bnd ?_)
    have hr : ∃ z, atI (Array.toList (Str.cps ("qzjv" : Str))) r = some z ∧ Low (sgn z) := by
      have : r = 0 ∨ r = 1 ∨ r = 2 ∨ r = 3 := by omega
      rcases this with rfl | rfl | rfl | rfl <;> exact ⟨_, rfl, by decide +kernel⟩
    obtain ⟨z, hz, hlow⟩ := hr
    exact W.lift hz (W.pur ⟨⟨rfl, hlow⟩, by omega, by omega⟩)
  rw [hl] at h1 h4
  have hs := sum_ones ys fun y hy => (h2 y hy).1
  have hlw : Low (Txt.join ("" : Str) ys) := Low.join fun y hy => (h2 y hy).2
  have e0 : Str.length ("" : Str) = 0 := rfl
  refine W.gd (by rw [e0]; omega) (W.pur (W.bnd ?_))
  have hj := join_len ys
  unfold bg3
  refine W.bnd (W.bnd (W.bnd (W.pur (W.gd (by omega) (W.pur (W.bnd (W.pur (W.pur (W.nx hc (by omega) (by omega) fun a a0 a1 => ?_)))))))))
  unfold bg4
  refine W.bnd (W.bnd (W.pur (W.pur (W.gd (by decide) (W.compL (Q := fun y : Str => 1 ≤ y.length ∧ y.length ≤ 8 ∧ Low y) 20 _ _ (fun k x k0 k1 hx => ?_) (by omega) (by omega) fun ns k2 g1 g2 g3 g4 => ?_)))))
  · have hx1 : x.length = 1 ∧ Low x := by
      have key : ∀ x ∈ List.map sgn (Array.toList (Str.cps ("mcxgtaqerbvkdunhspjfwlio" : Str))), x.length = 1 ∧ Low x := by decide +kernel
      exact key x hx
    obtain ⟨hx1, hxl⟩ := hx1
    have cl : ∀ lo hi, (cutT (Txt.join ("" : Str) ys) lo hi).length ≤ (Txt.join ("" : Str) ys).length := fun lo hi => by
      unfold cutT cutS Str.length
      rw [List.size_toArray, List.length_take, List.length_drop, Array.length_toList]
      omega
    have c1 := cl none (some a)
    have c2 := cl (some a) none
    have q1 : (Txt.join ("" : Str) ys).length ≤ sizeLine := by omega
    have q2 : (cutT (Txt.join ("" : Str) ys) none (some a)).length + x.length ≤ sizeLine := by omega
    have q3 : (cutT (Txt.join ("" : Str) ys) none (some a) ++ x).length + (cutT (Txt.join ("" : Str) ys) (some a) none).length ≤ sizeLine := by rw [Str.length_append]; omega
    simp only [pbS, gd_y q1, gd_y q2, gd_y q3]
    have c3 := cut_two (Txt.join ("" : Str) ys) a a0
    have hjl : (Txt.join ("" : Str) ys).length ≤ 7 := by omega
    exact W.pur ⟨⟨by rw [Str.length_append, Str.length_append]; omega, by rw [Str.length_append, Str.length_append]; omega, (hlw.cut.app hxl).app hlw.cut⟩, by omega, by omega⟩
  · have e24 : (List.map sgn (Array.toList (Str.cps ("mcxgtaqerbvkdunhspjfwlio" : Str)))).length = 24 := rfl
    rw [e24] at g1 g4
    exact ⟨by omega, by omega, g1, g2⟩
theorem W.begun2 {ρ : Type} [Enc ρ] {c : List Int} {f : List Str → Sm (Fl Empty Empty ρ)} {k : Int} {P : Fl Empty Empty ρ → Int → Prop} (hc : c.length ≤ 1000) (h : ∀ ns k, 0 ≤ k → k ≤ 100 → ns.length = 24 → (∀ y ∈ ns, 1 ≤ y.length ∧ y.length ≤ 8 ∧ Low y) → W (f ns) k P) : W (ON.begun bgF c f) k P := by
  obtain ⟨ns, k0, e, h1, h2, h3, h4⟩ := bg_W2 c hc
  obtain ⟨a, k', e2, p⟩ := h ns k0 h1 h2 h3 h4
  refine ⟨a, k', ?_, p⟩
  unfold ON.begun bgF
  rw [if_pos hc, e]
  exact e2
end ON

set_option Elab.async false
set_option linter.all false
set_option maxRecDepth 100000
set_option maxHeartbeats 400000
/-! N21: int(text), x.index(text), dicts of the top with text keys, tuples put together. -/
namespace ON
open PySem PySem.Spec PyProof.Rows L2
section
variable {K : PySem.W.Frag} {w : World} {m : Type → Type} [Mn m] {α β γ τ τ' l ρ κ : Type} {sd sd' : List SD} {ta tb te tk ti : TE} {W : Wr} {post : τ → List SD} {postL : l → List SD} {ts tu : TS}
/-! ### int(text) -/
def rIntT : List V → Hp → VK → Prop := fun xs H Q => ∃ a n, xs = [.str a] ∧ PySem.intText? a = some n ∧ a.length ≤ 640 ∧ Q (.int n) H
theorem cr_intT {X : Cx} : CallR X (.type "int") rIntT := call_int_str
def intT (a : Str) : Option Int := PySem.intText? a
theorem em_intT {x : m Str} (h : EvM K te sd x) : EvM K (tCB rIntT (tCons te tNil)) sd (Mn.bnd x fun a => gd (a.length ≤ 640) (lift (intT a) : m Int)) := em_cb1 h fun F σ B H k a v R r b k' e Q q => by
  obtain ⟨hg, e⟩ := gd_some e
  obtain ⟨hc, rfl⟩ := lift_some e
  rw [Rp.str_inv r]
  exact ⟨a, b, rfl, hc, hg, q _ B H R (Gr.refl B) (.int _)⟩
/-! ### a dict of the top, its keys texts -/
structure KTab (K : PySem.W.Frag) (w : World) (d : Addr) [Enc α] (c : Dc Str α) : Prop where
  kd : ∃ es n, KDict K w d es n
  no : ∀ z, c.l.lookup z = none → PySem.W.nsIn K d z = some none
  yes : ∀ z a, c.l.lookup z = some a → ∃ u v, PySem.W.nsIn K d z = some (some u) ∧ RelV v u ∧ ∀ B, Rp K B v (enc a)
def rInK (K : PySem.W.Frag) (d : Addr) : R2 := fun x y H Q => ∃ (z : Str) (r : Option Value), x = .str z ∧ y = .ref d ∧ PySem.W.nsIn K d z = some r ∧ Q (.bl r.isSome) H
def rNinK (K : PySem.W.Frag) (d : Addr) : R2 := fun x y H Q => ∃ (z : Str) (r : Option Value), x = .str z ∧ y = .ref d ∧ PySem.W.nsIn K d z = some r ∧ Q (.bl (!r.isSome)) H
theorem or_inK {X : Cx} [Enc α] {d : Addr} {c : Dc Str α} (T : KTab X.K X.w d c) : OpR X (compareOp .In) (rInK X.K d) := by
  obtain ⟨es, n, D⟩ := T.kd
  exact op_in_kd D
theorem or_ninK {X : Cx} [Enc α] {d : Addr} {c : Dc Str α} (T : KTab X.K X.w d c) : OpR X (compareOp .NotIn) (rNinK X.K d) := by
  obtain ⟨es, n, D⟩ := T.kd
  exact op_notIn_kd D
theorem KTab.r [Enc α] {d : Addr} {c : Dc Str α} (T : KTab K w d c) (z : Str) : ∃ r, PySem.W.nsIn K d z = some r ∧ r.isSome = (c.l.lookup z).isSome := by
  cases e : c.l.lookup z with
  | none => exact ⟨none, T.no z e, rfl⟩
  | some a => obtain ⟨u, v, h, _⟩ := T.yes z a e; exact ⟨some u, h, rfl⟩
theorem em_inK [Enc α] {d : Addr} {c : Dc Str α} {x : m Str} (T : KTab K w d c) (h : EvM K te sd x) : EvM K (tOp (rInK K d) te (tC (.ref d))) sd (Mn.bnd x fun z => Mn.pur (c.l.lookup z).isSome) := fun F σ B H k R b k' e Q q => by
  obtain ⟨z, k1, e1, e2⟩ := bnd_some e
  obtain ⟨rfl, rfl⟩ := pur_some e2
  refine h F σ B H k R z _ e1 _ fun v B' H' R' g r => ?_
  rw [Rp.str_inv r]
  obtain ⟨r, hr, hs⟩ := T.r z
  exact ⟨z, r, rfl, rfl, hr, by rw [hs]; exact q _ B' H' R' g (.bl _)⟩
theorem em_ninK [Enc α] {d : Addr} {c : Dc Str α} {x : m Str} (T : KTab K w d c) (h : EvM K te sd x) : EvM K (tOp (rNinK K d) te (tC (.ref d))) sd (Mn.bnd x fun z => Mn.pur (!(c.l.lookup z).isSome)) := fun F σ B H k R b k' e Q q => by
  obtain ⟨z, k1, e1, e2⟩ := bnd_some e
  obtain ⟨rfl, rfl⟩ := pur_some e2
  refine h F σ B H k R z _ e1 _ fun v B' H' R' g r => ?_
  rw [Rp.str_inv r]
  obtain ⟨r, hr, hs⟩ := T.r z
  exact ⟨z, r, rfl, rfl, hr, by rw [hs]; exact q _ B' H' R' g (.bl _)⟩
theorem em_getK [Enc α] {d : Addr} {c : Dc Str α} {x : m Str} (T : KTab K w d c) (h : EvM K te sd x) : EvM K (tOp (rIxD K w) (tC (.ref d)) te) sd (Mn.bnd x fun z => lift (c.l.lookup z) : m α) := fun F σ B H k R b k' e Q q => by
  obtain ⟨z, k1, e1, e2⟩ := bnd_some e
  obtain ⟨hc, rfl⟩ := lift_some e2
  refine h F σ B H k R z _ e1 _ fun v B' H' R' g r => ?_
  rw [Rp.str_inv r]
  obtain ⟨u, v0, h1, h2, h3⟩ := T.yes z b hc
  obtain ⟨es, n, D⟩ := T.kd
  exact ⟨d, z, v0, rfl, rfl, ⟨es, n, u, D.at_, D.lit, h1, h2⟩, q _ B' H' R' g (h3 B')⟩
/-! ### x.index(text) -/
def idxS : List Str → Str → Option Nat
  | [], _ => none
  | x :: xs, z => if x = z then some 0 else (idxS xs z).map (· + 1)
theorem idxS_ok : ∀ (xs : List Str) (z : Str) (j : Nat), idxS xs z = some j → (xs.map V.str)[j]? = some (.str z) ∧ ∀ (m : Nat) (z' : V), m < j → (xs.map V.str)[m]? = some z' → eqV z' (.str z) = false
  | [], _, _, h => by cases h
  | x :: xs, z, j, h => by
    rw [idxS] at h
    by_cases c : x = z
    · rw [if_pos c] at h; cases h; subst c
      exact ⟨rfl, fun m z' hm => by omega⟩
    · rw [if_neg c] at h
      cases e : idxS xs z with
      | none => rw [e] at h; cases h
      | some i =>
        rw [e] at h; cases h
        obtain ⟨h1, h2⟩ := idxS_ok xs z i e
        refine ⟨h1, fun m z' hm hz => ?_⟩
        cases m with
        | zero =>
          cases hz
          show (x == z) = false
          simpa using c
        | succ m => exact h2 m z' (Nat.lt_of_succ_lt_succ hm) hz
theorem em_indexL {x : m (List Str)} {y : m Str} (h : EvM K ta sd x) (h2 : EvM K tb sd y) : EvM K (tBM K "list" (rIndex K) ta (tCons tb tNil)) sd (Mn.bnd x fun xs => Mn.bnd y fun z => Mn.bnd (lift (idxS xs z)) fun j => Mn.pur ((j : Nat) : Int)) := fun F σ B H k R b k' e Q q => by
  obtain ⟨xs, k1, e1, e2⟩ := bnd_some e
  obtain ⟨z, k2, e3, e4⟩ := bnd_some e2
  obtain ⟨j, k3, e5, e6⟩ := bnd_some e4
  obtain ⟨hj, rfl⟩ := lift_some e5
  obtain ⟨rfl, rfl⟩ := pur_some e6
  refine h F σ B H k R xs _ e1 _ fun v B1 H1 R1 g1 r1 => ?_
  obtain ⟨p, vs, rfl, hp, hs⟩ := Rp.lst_inv r1
  have ez := Rps.strs (ns := xs) hs
  subst ez
  refine ⟨.inl ⟨rfl, _, .of (R1.bh _ _ hp)⟩, ?_⟩
  refine h2 F σ B1 H1 k1 R1 z _ e3 _ fun v B2 H2 R2 g2 r2 => ?_
  obtain ⟨i1, i2⟩ := idxS_ok xs z j hj
  rw [Rp.str_inv r2]
  exact ⟨p, _, .str z, j, .str z, rfl, rfl, .of (R2.bh _ _ (g2 _ _ hp)), rfl, flat_strs _, i1, by show (z == z) = true; simp, i2, q _ B2 H2 R2 (g1.trans g2) (.int _)⟩
/-! ### tuples put together -/
theorem Rps.appd {K : PySem.W.Frag} {B : Hp} : ∀ {vs ws : List V} {ds es : List D}, Rps K B vs ds → Rps K B ws es → Rps K B (vs ++ ws) (ds ++ es)
  | [], _, _, _, .nil, g => g
  | _ :: _, _, _, _, .cons h hs, g => .cons h (Rps.appd hs g)
theorem em_catT [Enc α] [Enc β] [Enc γ] {x : m α} {y : m β} {ga : α → List D} {gb : β → List D} (f : α → β → γ) (ha : ∀ a, enc a = .tup (ga a)) (hb : ∀ b, enc b = .tup (gb b)) (hc : ∀ a b, enc (f a b) = .tup (ga a ++ gb b)) (hl : ∀ a b, (ga a).length + (gb b).length ≤ 1000) (na : ∀ a, ga a ≠ []) (nb : ∀ b, gb b ≠ [])
    (h1 : EvM K ta sd x) (h2 : EvM K tb sd y) : EvM K (tOp (rCatA K) ta tb) sd (Mn.bnd x fun a => Mn.bnd y fun b => Mn.pur (f a b)) :=
  em_op h1 h2 fun a b F σ B H sd k R va vb ra rb c k' e Q q => by
    obtain ⟨rfl, rfl⟩ := pur_some e
    rw [ha] at ra
    rw [hb] at rb
    obtain ⟨p, vs, rfl, hp, hs⟩ := Rp.tup_inv ra
    obtain ⟨p2, vs2, rfl, hp2, hs2⟩ := Rp.tup_inv rb
    have l1 := hs.len
    have l2 := hs2.len
    have hn : ∀ {vs : List V} {ds : List D}, Rps K B vs ds → ds ≠ [] → vs ≠ [] := fun h hd z => by subst z; cases h; exact hd rfl
    refine ⟨p, p2, vs, vs2, rfl, rfl, R.bh.sqT hp, R.bh.sqT hp2, by rw [l1, l2]; exact Nat.le_trans (hl a b) (by decide), fun z => absurd z (hn hs (na a)), fun _ z => absurd z (hn hs2 (nb b)), fun _ _ q0 hq => ?_⟩
    obtain ⟨R2, g2⟩ := R.data (o := .tup (vs ++ vs2)) hq
    exact q (.ref q0) _ _ R2 g2 (by rw [hc]; exact .tup (.inl (.inl upd_same)) (Rps.appd (hs.gr g2) (hs2.gr g2)))
end
end ON

set_option Elab.async false
set_option linter.all false
set_option maxRecDepth 100000
set_option maxHeartbeats 400000
/-! N22: a list of three unpacked. -/
namespace ON
open PySem PySem.Spec PyProof.Rows L2
structure L3 (α : Type) where
  a : α
  b : α
  c : α
instance {α : Type} [Enc α] : Enc (L3 α) := ⟨fun x => .lst [enc x.a, enc x.b, enc x.c]⟩
def l3 {α : Type} : List α → Option (L3 α)
  | [a, b, c] => some ⟨a, b, c⟩
  | _ => none
theorem l3_ok {α : Type} [Enc α] : ∀ (xs : List α) (y : L3 α), l3 xs = some y → enc xs = enc y
  | [], _, h => by cases h
  | [_], _, h => by cases h
  | [_, _], _, h => by cases h
  | [a, b, c], y, h => by cases h; rfl
  | _ :: _ :: _ :: _ :: _, _, h => by cases h
section
variable {K : PySem.W.Frag} {α : Type} {sd : List SD}
theorem eg_l3 [Enc α] {i j n : Nat} {p : L3 α} : EvG K (gUnl K 3 (gCons (gName i) (gCons (gName j) (gCons (gName n) gNil)))) sd p (((sd.set i (.dat (enc p.a))).set j (.dat (enc p.b))).set n (.dat (enc p.c))) [i, j, n] := fun F σ B H k v R r Q q => by
  obtain ⟨a, xs, rfl, hp, hs⟩ := Rp.lst_inv r
  cases hs with | cons h1 hs => cases hs with | cons h2 hs => cases hs with | cons h3 hs =>
    cases hs
    refine ⟨a, _, rfl, .of (R.bh _ _ hp), rfl, _, _, rfl, _, _, rfl, _, _, rfl, rfl, ?_⟩
    refine q _ (((R.setDat h1).setDat h2).setDat h3) fun vs h => ?_
    rw [wipe_set (h n (by simp)), wipe_set (h j (by simp)), wipe_set (h i (by simp))]
end
end ON

set_option Elab.async false
set_option linter.all false
set_option maxRecDepth 100000
set_option maxHeartbeats 400000
/-! N23: truth of lists, a number in a list or tuple of numbers, a raising def that ends without a return. -/
namespace ON
open PySem PySem.Spec PyProof.Rows L2
section
variable {K : PySem.W.Frag} {m : Type → Type} [Mn m] {α β γ τ τ' l ρ : Type} {sd sd' : List SD} {ta tb te : TE} {W : Wr} {post : τ → List SD} {postL : l → List SD} {ts tu : TS}
/-! ### truth -/
def tTru (K : PySem.W.Frag) (ta : TE) : TT := fun σ H Q => ta σ H fun x H' => ∃ k, TruV K x H' k ∧ Q k H'
theorem pt_tru {X : Cx} {a : Expr} {ta : TE} (ha : PE X a ta) (he : ∀ whole, isTrue a X.env whole = (do let v ← whole; standAt a.pos; holding [v] (truthy v)) := by intro _; rfl) : PT X a (tTru X.K ta) := pt_truth ha he
theorem pe_notTru {X : Cx} {a : Expr} {ta : TE} {pos : Pos} (ha : PE X a ta) : PE X (.UnaryOp .Not a pos) (tNotT X.K ta) := pe_notT ha
theorem pt_truK {X : Cx} {K : PySem.W.Frag} {a : Expr} {ta : TE} (hK : X.K = K) (ha : PE X a ta) (he : ∀ whole, isTrue a X.env whole = (do let v ← whole; standAt a.pos; holding [v] (truthy v)) := by intro _; rfl) : PT X a (tTru K ta) := by subst hK; exact pt_truth ha he
theorem pe_notTruK {X : Cx} {K : PySem.W.Frag} {a : Expr} {ta : TE} {pos : Pos} (hK : X.K = K) (ha : PE X a ta) : PE X (.UnaryOp .Not a pos) (tNotT K ta) := by subst hK; exact pe_notT ha
theorem truL [Enc α] {F : Fr} {σ : L2.St} {B H : Hp} {k : Int} {xs : List α} {v : V} (R : Rel K F σ B H sd k) (r : Rp K B v (enc xs)) : TruV K v H (!xs.isEmpty) := by
  obtain ⟨p, vs, rfl, hp, hs⟩ := Rp.lst_inv r
  refine .inl ⟨vs, .of (R.bh _ _ hp), ?_⟩
  have := hs.len
  cases xs with
  | nil => cases vs with
    | nil => rfl
    | cons _ _ => simp at this
  | cons _ _ => cases vs with
    | nil => simp at this
    | cons _ _ => rfl
theorem eb_truL [Enc α] {x : m (List α)} (h : EvM K te sd x) : EvB K (tTru K te) sd (Mn.bnd x fun xs => Mn.pur (!xs.isEmpty)) := fun F σ B H k R b k' e Q q => by
  obtain ⟨xs, k1, e1, e2⟩ := bnd_some e
  obtain ⟨rfl, rfl⟩ := pur_some e2
  exact h F σ B H k R xs _ e1 _ fun v B' H' R' g r => ⟨_, truL R' r, q B' H' R' g⟩
theorem em_notL [Enc α] {x : m (List α)} (h : EvM K te sd x) : EvM K (tNotT K te) sd (Mn.bnd x fun xs => Mn.pur (!(!xs.isEmpty))) := fun F σ B H k R b k' e Q q => by
  obtain ⟨xs, k1, e1, e2⟩ := bnd_some e
  obtain ⟨rfl, rfl⟩ := pur_some e2
  exact h F σ B H k R xs _ e1 _ fun v B' H' R' g r => ⟨_, truL R' r, q _ B' H' R' g (.bl _)⟩
/-! ### a number in .. -/
theorem flat_ints (b : List Int) : (b.map V.int).all flatV = true := by
  rw [List.all_map]; exact List.all_eq_true.mpr fun x _ => rfl
theorem inV_ints (a : Int) (b : List Int) : inV (.int a) (b.map V.int) = decide (a ∈ b) := by
  unfold inV
  induction b with
  | nil => rfl
  | cons x b ih =>
    rw [List.map_cons, List.any_cons, ih]
    by_cases c : a = x
    · subst c
      have z : eqV (.int a) (.int a) = true := by show (a == a) = true; simp
      rw [z]; simp
    · have z : eqV (.int x) (.int a) = false := by show (x == a) = false; simpa using fun w => c w.symm
      rw [z]; simp [c]
theorem Rps.intsM {B : Hp} : ∀ {xs : List V} {ns : List Int}, Rps K B xs (ns.map .int) → xs = ns.map V.int
  | _, [], h => by cases h; rfl
  | _, n :: ns, h => by
    cases h with | cons h hs => rw [h.int_inv, Rps.intsM hs]; rfl
theorem om_inTI {a : Int} {b : Tl Int} : OpM K (rIn K false) a b (Mn.pur (decide (a ∈ b.l)) : m Bool) := fun F σ B H sd k R va vb ra rb c k' e Q q => by
  obtain ⟨rfl, rfl⟩ := pur_some e
  obtain ⟨p, xs, rfl, hs, rs⟩ := rb.tup_inv
  have ex : xs = b.l.map V.int := Rps.intsM (show Rps K B xs (b.l.map D.int) from rs)
  subst ex
  refine ⟨p, _, rfl, .inr (R.bh.sqT hs), by rw [ra.int_inv]; rfl, flat_ints _, ?_⟩
  rw [ra.int_inv, if_neg Bool.false_ne_true, inV_ints]
  exact q _ B H R (Gr.refl B) (.bl _)
theorem om_ninTI {a : Int} {b : Tl Int} : OpM K (rIn K true) a b (Mn.pur (!decide (a ∈ b.l)) : m Bool) := fun F σ B H sd k R va vb ra rb c k' e Q q => by
  obtain ⟨rfl, rfl⟩ := pur_some e
  obtain ⟨p, xs, rfl, hs, rs⟩ := rb.tup_inv
  have ex : xs = b.l.map V.int := Rps.intsM (show Rps K B xs (b.l.map D.int) from rs)
  subst ex
  refine ⟨p, _, rfl, .inr (R.bh.sqT hs), by rw [ra.int_inv]; rfl, flat_ints _, ?_⟩
  rw [ra.int_inv, if_pos rfl, inV_ints]
  exact q _ B H R (Gr.refl B) (.bl _)
theorem om_inLI {a : Int} {b : List Int} : OpM K (rIn K false) a b (Mn.pur (decide (a ∈ b)) : m Bool) := fun F σ B H sd k R va vb ra rb c k' e Q q => by
  obtain ⟨rfl, rfl⟩ := pur_some e
  obtain ⟨p, xs, rfl, hs, rs⟩ := rb.lst_inv
  have ex : xs = b.map V.int := Rps.intsM rs
  subst ex
  refine ⟨p, _, rfl, .inl (.of (R.bh _ _ hs)), by rw [ra.int_inv]; rfl, flat_ints _, ?_⟩
  rw [ra.int_inv, if_neg Bool.false_ne_true, inV_ints]
  exact q _ B H R (Gr.refl B) (.bl _)
theorem om_ninLI {a : Int} {b : List Int} : OpM K (rIn K true) a b (Mn.pur (!decide (a ∈ b)) : m Bool) := fun F σ B H sd k R va vb ra rb c k' e Q q => by
  obtain ⟨rfl, rfl⟩ := pur_some e
  obtain ⟨p, xs, rfl, hs, rs⟩ := rb.lst_inv
  have ex : xs = b.map V.int := Rps.intsM rs
  subst ex
  refine ⟨p, _, rfl, .inl (.of (R.bh _ _ hs)), by rw [ra.int_inv]; rfl, flat_ints _, ?_⟩
  rw [ra.int_inv, if_pos rfl, inV_ints]
  exact q _ B H R (Gr.refl B) (.bl _)
/-! ### enumerate -/
theorem ei_enum [Enc α] {tr : TA} {x : m (List α)} (h : EvA K tr sd x (fun a => [enc a])) : EvI K (iEnum K tr) sd (Mn.bnd x fun xs => Mn.pur ((upTo 0 xs.length 1).zip xs)) := fun F σ B H k R xs k' e Q q => by
  obtain ⟨n, k1, e1, e2⟩ := bnd_some e
  obtain ⟨rfl, rfl⟩ := pur_some e2
  refine h F σ B H k R n _ e1 _ fun vs B1 H1 R1 g1 r1 => ?_
  cases r1 with | cons h hs =>
    cases hs
    obtain ⟨p, vs, rfl, hp, hs⟩ := Rp.lst_inv h
    exact ⟨p, vs, rfl, SqL.of (R1.bh _ _ hp), q _ B1 H1 R1 g1 (src_enum (SqL.of hp) hs)⟩
end
/-! ### a raising def that ends without a return -/
def finN (x : Option (Fl Unit Empty (Xr Unit))) : Option (Xr Unit) := match x with
  | some (.nx _) => some (.ok ())
  | some (.rt z) => some z
  | _ => none
theorem finN_some {x : Option (Fl Unit Empty (Xr Unit))} {z : Xr Unit} (h : finN x = some z) : (x = some (.nx ()) ∧ z = .ok ()) ∨ x = some (.rt z) := by
  unfold finN at h
  split at h
  · cases h; exact .inl ⟨rfl, rfl⟩
  · cases h; exact .inr rfl
  · cases h
theorem fin_XN {K : PySem.W.Frag} {N : List Str} {n : Nat} {pre : List D → D ⊕ Er → Prop} {vs : List V} {H : Hp} {Q : VK} {E : XK} {ts : TS} (h : spX K n .dat pre vs H Q E)
    (hb : ∀ ds r, pre ds r → ∃ (x : Option (Fl Unit Empty (Xr Unit))) (z : Xr Unit), EvS K ⟨fun cls d _ H => E cls d H, List.replicate N.length .un⟩ ts (sd0 N.length ds) (fun _ => List.replicate N.length .un) noEnd x ∧ finN x = some z ∧ xenc z = r) : ts { nx := fun _ H' => Q .non H', rt := Q } (L2.start N vs) H := by
  obtain ⟨B, ds, r, hp, hn, g, rs, q, qx⟩ := h
  obtain ⟨x, z, hx, ex, rfl⟩ := hb ds r hp
  rcases finN_some ex with ⟨rfl, rfl⟩ | rfl
  · refine hx _ _ B H 0 (Rel.init g rs) (.nx ()) 0 rfl _ ?_
    exact fun σ' B' H' R' g' => q _ rfl .non B' H' [] R'.b0 R'.bh (R'.fr0 rfl) (fun a o e e0 => R'.bn a o e e0) ⟨rfl, .non⟩ .nil fun _ m => nomatch m
  · refine hx _ _ B H 0 (Rel.init g rs) (.rt z) 0 rfl _ ?_
    cases z with
    | ok z => exact fun v σ' B' H' sd' R' g' rv => q _ rfl v B' H' [] R'.b0 R'.bh (R'.fr0 rfl) (fun a o e e0 => R'.bn a o e e0) ⟨rfl, rv⟩ .nil fun _ m => nomatch m
    | er z => exact fun cls d σ' B' H' R' g' ro => qx _ rfl cls d B' H' R'.b0 R'.bh (R'.fr0 rfl) (fun a o e e0 => R'.bn a o e e0) ro
end ON

set_option Elab.async false
set_option linter.all false
set_option maxRecDepth 100000
set_option maxHeartbeats 2000000
/-! N24: NX4 once more, by other fields, and where more can stand in the braces (a tuple of numbers): printed by gen24.py. -/
namespace ON
open PySem PySem.Spec PyProof.Rows L2
/-- an error made: C(v), its field n; what v is stands in the heap -/
def tMkH (C : Addr) (n : Str) (ok : Hp → V → Prop) (ta : TA) : L2.St → Hp → XK → Prop := fun σ H Q => ta σ H fun vs H1 => ∃ v, vs = [v] ∧ ok H1 v ∧ ∀ d, H1 d = none → Q (.ref C) (some d) (upd H1 d (.xd [(n, v)]))
theorem ek_mkH {K : PySem.W.Frag} {m : Type → Type} [Mn m] {α : Type} {sd : List SD} [Enc α] {C : Addr} {c n : Str} {ok : Hp → V → Prop} {okd : α → Prop} [DecidablePred okd] {tr : TA} {x : m α} (hc : PySem.W.nsIn K mainGlobals c = some (some (.ref C))) (h : EvA K tr sd x (fun a => [enc a])) (ho : ∀ a B H v, okd a → Gr B H → Rp K B v (enc a) → ok H v) :
    EvK K (tMkH C n ok tr) sd (Mn.bnd x fun a => gd (okd a) (Mn.pur (⟨c, some (n, enc a)⟩ : Er))) := fun F σ B H k R e k' he Q q => by
  obtain ⟨a, k1, e1, e2⟩ := bnd_some he
  obtain ⟨hg, e3⟩ := gd_some e2
  obtain ⟨rfl, rfl⟩ := pur_some e3
  refine h F σ B H k R a _ e1 _ fun vs B1 H1 R1 g1 r1 => ?_
  cases r1 with | cons r1 hs =>
    cases hs
    refine ⟨_, rfl, ho a _ _ _ hg R1.bh r1, fun d hd => ?_⟩
    obtain ⟨R2, g2⟩ := R1.data (o := .xd [(n, _)]) hd
    exact q _ _ _ _ R2 (g1.trans g2) ⟨C, hc, rfl, d, _, rfl, upd_same, r1.gr g2⟩
end ON
namespace ON.F_spot
open ON
open PySem PySem.W PySem.Calls PyProof.Rows PySem.HandSPX
def siA (p1 p2 : Pos) : Arguments := { posonlyargs := [], args := [{ arg := "self", annotation := none, pos := p1 }, { arg := "spot", annotation := none, pos := p2 }], vararg := none, kwonlyargs := [], kw_defaults := [], kwarg := none, defaults := [] }
def siB (pre : Str) (q : Nat → Pos) : List Stmt := [
  .Expr (.Call (.Attribute (.Call (.Name "super" (q 0)) [] [] (q 1)) "__init__" (q 2)) [.JoinedStr [.Constant (.str pre) 0 (q 3), .FormattedValue (.Name "spot" (q 4)) (-1) none (q 5)] (q 6)] [] (q 7)) (q 8),
  .Assign [.Attribute (.Name "self" (q 9)) "spot" (q 10)] (.Name "spot" (q 11)) (q 12)]
def siS : Scope := { kind := .function, names := [(PySem.Str.ofString "self", .local), (PySem.Str.ofString "spot", .local), (PySem.Str.ofString "__class__", .free), (PySem.Str.ofString "super", .globalImplicit)], isGenerator := false, isCoroutine := false, more := [] }
/-- a heap without x -/
def era (h : Heap) (x : Addr) : Heap := { h with objs := h.objs.setIfInBounds x ⟨.none, none, .freed, #[]⟩ }
theorem era_ne {h : Heap} {x b : Addr} (n : b ≠ x) : (era h x).get? b = h.get? b := by
  unfold Heap.get? era
  rw [Array.getElem?_setIfInBounds_ne (Ne.symm n)]
theorem era_eq {h : Heap} {x : Addr} : (era h x).get? x = none := by
  unfold Heap.get? era
  by_cases c : x < h.objs.size
  · rw [Array.getElem?_setIfInBounds_self_of_lt c]
  · rw [Array.getElem?_eq_none (by rw [Array.size_setIfInBounds]; exact Nat.le_of_not_lt c)]
theorem era_sz {h : Heap} {x : Addr} : (era h x).objs.size = h.objs.size := by unfold era; exact Array.size_setIfInBounds
/-- whether a call's receiver is looked up plainly -/
def plOf (o : PySem.Expr) (env : Env) : Sem Bool := do
      let __do_lift ← importBound o env
      pure (__do_lift.getD true)
theorem mc_eq {o a : PySem.Expr} {name : Str} {apos pos : Pos} {env : Env} (h : (apos.endLine == pos.line) = true) (ha : starEach [a] env = [(false, eval a env)]) :
    eval ((o.Attribute name apos).Call [a] [] pos) env = (do
            let ov ← attributeBase o name env (eval o env)
            standAt apos.atName
            let __x ← holding [ov] (getMethod ov name (plOf o env))
            (match __x with
              | (f, first) => callWith pos f first (backTo pos (starEach [a] env)) [])) := by
  rw [arm_eval_Call]
  have hp : methodCallPos true o env apos pos = pure pos := by
    unfold methodCallPos
    rw [h]; rfl
  have hf : methodCallForm ([a].length + ([] : List Keyword).length) (backTo pos (starEach [a] env)) (backToKw pos (keywordEach [] env)) = true := by
    rw [ha]; rfl
  unfold methodCall
  rw [hf]
  simp only [hp]
  rfl
/-- what can stand in the braces -/
def Fmt (P : Program) (w : World) (h : Heap) (v : Value) : Prop := ∀ (A : Around) (E : Value → Shared → Prop) (s : Shared) (Q : Value → Shared → Prop), A.units + 2 < cLine → (∀ b o, h.get? b = some o → s.heap.get? b = some o) → (∀ y t tk, y.length ≤ 100000 → Q (.str y t) { s with toks := tk }) → wpAny (model P w) A (formatField v Str.empty) Q E s
structure SupTxt (P : Program) (K : Frag) (mg : Str → Option Value) (C fI cc cda : Addr) (qual pre : Str) : Prop where
  cls : ∃ nm q N bs bm sn sub ab col dd k0 k1 k2 k3 k5, K.lookup C = some (excClassObj nm q C N bs bm true sn sub ab col dd k0 k1 k2 k3 k5 "ValueError.__new__") ∧ refsVE bm = true ∧ alongIn K "__init__" bm = some (some (.builtin "ValueError.__init__"))
  iniC : excInitIn K C [.type "ValueError", .type "Exception", .type "BaseException", .type "object"] "ValueError.__new__" = true
  sa : findIn K (.ref C) "__setattr__" = some (some (.builtin "object.__setattr__"))
  noN : findIn K (.ref C) "spot" = some none
  iC : findIn K (.ref C) "__init__" = some (some (.ref fI))
  tC : typeIn K (.ref fI) = some (.type "function")
  own : subIn K (.ref C) (.ref C) = some true
  ve : subIn K (.ref C) (.type "ValueError") = some true
  st : nsIn K cStatics "thirdparty.any" = some none
  gS : mg "super" = none
  gP : (P.main.scope.names.lookup (PySem.Str.ofString "super")).isSome = false
  pl : pre.length ≤ 1000
  cel : ∃ cl cld csl, K.lookup cc = some ⟨cl, cld, .cell (some (.ref C)), csl⟩
  fn : ∃ (oc : Value) (od : Option Addr) (doc pm : Value) (an : Option Addr) (ct : Value) (osl : Array (Option Value)) (p1 p2 : Pos) (q : Nat → Pos), ((q 2).endLine == (q 7).line) = true ∧
    K.lookup fI = some ⟨oc, od, .func (ksFn "__init__" qual (siA p1 p2) (siB pre q) siS .none .none doc pm an (.ref cda) ct cc), osl⟩ ∧ codeIn K (.ref cda) qual = true
  cda : ∃ ccl cdd ccs vs file tf, K.lookup cda = some ⟨ccl, cdd, .fields vs, ccs⟩ ∧ vs[2]? = some (.str file tf) ∧ (P.main.file == file) = true
section
variable {P : Program} {w : World} {A : Around} {E : Value → Shared → Prop} {R : Result → Shared → Prop} {s : Shared} {K : Frag} {mg mb : Str → Option Value} {C fI cc cda : Addr} {qual pre : Str}
theorem wpAt_of {α : Type} {M : Model} {c : Code} {t : Sem α} {Q : α → Shared → Prop} (h : wpAny M A t Q E s) : PySem.wpAt M A c t Q E s := fun Γ p _ hi => h Γ p hi
theorem sup_init (T : SupTxt P K mg C fI cc cda qual pre) {x t0 : Addr} {v : Value} (X : K.In s.heap) (hlim : s.heap.NoLimit) (hG : s.heap.Ns mainGlobals mg) (hB : s.heap.Ns builtinsNs mb) (hS : mb "super" = some (.type "super"))
    (hx : s.heap.get? x = some (excO C t0)) (hnx : K.lookup x = none) (hroom : A.depth < recursionLimit) (hun : A.units + 50 < cLine) (hv : Fmt P w (era s.heap x) v)
    (hq : ∀ h' tk dx t1, (∀ b o, b ≠ x → s.heap.get? b = some o → h'.get? b = some o) → h'.get? x = some { cls := .ref C, dict := some dx, data := .fields #[.ref t1, .none, .none, .none, .bool false, .none] } → s.heap.objs.size ≤ dx → dx ≠ x → (h'.Ns1 dx fun y => if y = "spot" then some v else none) → R (.ok (.ret .none)) { s with heap := h', toks := tk }) :
    codeAny (model P w) A (.call (.ref fI) ⟨[.ref x, v], []⟩) R s := by
  obtain ⟨oc, od, doc, pm, an, ct, osl, p1, p2, q, hpos, ho, hcd⟩ := T.fn
  obtain ⟨nm, qn, N, bs, bm, sn, sub, ab, col, dd, k0, k1, k2, k3, k5, hC, hbm, hal⟩ := T.cls
  obtain ⟨cl, cld, csl, hcell⟩ := T.cel
  obtain ⟨ccl, cdd, ccs, vs, file, tf, hcda, hvs, hfile⟩ := T.cda
  refine ks_codeAny_call_defAt (binds := [("self", .ref x), ("spot", v)]) hroom (X _ _ ho) rfl hlim ?code rfl (BindsTo.of_eq (by first | rfl | with_unfolding_all rfl)) ?nc ?nl (fun h₁ hn k => ?_) rfl rfl rfl
  case code => exact codeRec_of X hcd
  case nc => exact (by decide : ∀ y ∈ siS.names, y.2 ≠ .cell)
  case nl =>
    intro y hy
    rcases List.mem_cons.mp hy with rfl | hy
    · rfl
    · rcases List.mem_cons.mp hy with rfl | hy
      · rfl
      · cases hy
  have X₁ : K.In h₁ := X.keeps k
  have ne : ∀ {a : Addr} {o : Obj}, K.lookup a = some o → a ≠ x := fun e z => by rw [z, hnx] at e; cases e
  let env : Env := ksEnv "__init__" siS s.heap.objs.size fI (.ref cda) cc
  refine ks_wpAt_execs_cons ?_
  refine ks_wpAt_Expr_any ?_
  refine ks_wpAt_MethodCall ?_ (mc_eq hpos rfl)
  refine ks_wpAt_super_base rfl rfl rfl rfl (X₁ _ _ ho) rfl rfl rfl (X₁ _ _ hcda) rfl hvs hfile T.gP ?_
  refine ks_loadName_global rfl rfl (loadGlobal_builtin (hG.keeps k) T.gS (hB.keeps k) hS ⟨rfl, ?_⟩)
  refine wpAny_loadName_free rfl rfl rfl ⟨_, X₁ _ _ hcell, rfl⟩ ?_
  refine wpAny_loadName_local rfl rfl hn rfl ?_
  refine ks_wpAny_isType_cls (X₁ _ _ hC) rfl ⟨rfl, ?_⟩
  refine ks_wpAny_call_super (X₁ _ _ hC) rfl (k _ _ hx) rfl (fun c z => by cases z) (looks_subIn X₁ T.own) fun h₂ hso k₂ => ?_
  have hL : x < s.heap.objs.size := Heap.lt_size hx
  have z₁ : s.heap.objs.size < h₁.objs.size := hn.lt
  have K₀ : K.In (era s.heap x) := fun a o e => by rw [era_ne (ne e)]; exact X _ _ e
  have old : ∀ {h' : Heap}, (∀ b o, h₁.get? b = some o → h'.get? b = some o) → ∀ b o, (era s.heap x).get? b = some o → h'.get? b = some o := fun kk b o e => by
    by_cases c : b = x
    · subst c; rw [era_eq] at e; cases e
    · rw [era_ne c] at e; exact kk _ _ (k _ _ e)
  have F₂ : PyProof.Rows.Fr (era s.heap x) s.heap.objs.size h₂ _ := ⟨hn.keeps k₂, old k₂, Nat.le_of_eq era_sz⟩
  have gone : ∀ b, s.heap.objs.size ≤ b → (era s.heap x).get? b = none := fun b hb => by
    cases e : (era s.heap x).get? b with
    | none => rfl
    | some o => exact absurd (Heap.lt_size e) (by rw [era_sz]; exact Nat.not_lt_of_le hb)
  have N₂ : News (era s.heap x) s.heap.objs.size h₂ [(h₁.objs.size, ks_superObj C x C), (x, excO C t0)] := fun p hp => by
    rcases List.mem_cons.mp hp with rfl | hp
    · exact ⟨hso, Nat.ne_of_gt z₁, gone _ (Nat.le_of_lt z₁)⟩
    · rcases List.mem_cons.mp hp with rfl | hp
      · exact ⟨k₂ _ _ (k _ _ hx), Nat.ne_of_lt hL, era_eq⟩
      · cases hp
  have hcl : clsIn K C = some { name := nm, bases := bs, mro := .ref C :: bm, ns := N, qualname := qn, hasDict := true, slotNames := sn, subclasses := sub, abstract := ab, collection := col, hasDel := false } := by unfold clsIn; rw [hC] <;> rfl
  refine kxs_method kxs_ValueError F₂ K₀ N₂ List.mem_cons_self (ox := excO C t0) (odx := none) ⟨k₂ _ _ (k _ _ hx), rfl, rfl, trivial⟩ T.st ?si T.ve rfl fun u h₃ F₃ N₃ lt₃ => ?_
  case si =>
    unfold ks_superIn
    rw [hcl]
    show alongIn K _ (List.drop 1 (List.dropWhile (fun x => x != Value.ref C) (Value.ref C :: bm))) = _
    rw [show List.drop 1 (List.dropWhile (fun x => x != Value.ref C) (Value.ref C :: bm)) = bm from by simp [List.dropWhile]]; exact hal
  refine kxs_callWith1 N₃ List.mem_cons_self (spliced_more ?_)
  have fits : ∀ y : Str, y.length ≤ 100000 → (Str.empty ++ pre ++ y).length ≤ sizeLine := fun y hy => by
    rw [Str.empty_append, Str.length_append]
    exact Nat.le_trans (Nat.add_le_add T.pl hy) (by decide)
  refine wpAny_JoinedStr ?_
  refine wpAny_Constant_str ?_
  refine ⟨_, _, rfl, ?len, ?_⟩
  case len => exact Nat.le_trans (Nat.le_of_eq (by rw [Str.empty_append])) (Nat.le_trans T.pl (by decide))
  refine wpAny_FormattedValue_plain (wpAny_Name (wpAny_loadName_local rfl rfl F₃.ns rfl ?_) rfl)
  refine hv _ _ _ _ ?un F₃.keep fun y ty tk hy => ⟨_, _, rfl, ?len2, ?len3, ?_⟩
  case un => first | (show A.units + 3 + 2 < cLine; omega) | (simp only [PySem.Around.deeper_units]; omega)
  case len2 => exact fits y hy
  case len3 => exact fits y hy
  refine spliced_none ⟨N₃ _ List.mem_cons_self |>.1, ?_⟩
  refine kxs_call (t := t0) (dv := none) (c2 := .none) F₃ K₀ N₃ F.excBase_ValueError T.iniC List.mem_cons_self (.tail ?n1 (.tail ?n2 (.head ?n3))) (by exact (by decide : 1 ≤ sizeLine)) fun t' h₄ F₄ N₄ lt₄ => ?_
  case n3 => exact fun p hp => nomatch hp
  case n1 => exact Nat.ne_of_gt (lt₃ (x, excO C t0) (List.mem_cons_of_mem _ List.mem_cons_self))
  case n2 => exact fun z => absurd hL (by rw [← z]; exact Nat.not_lt_of_le (Nat.le_of_lt z₁))
  have X₄ : K.In h₄ := K₀.keeps F₄.keep
  have hx₄ : h₄.get? x = some (excO C t') := (N₄ (x, excO C t') (by simp)).1
  refine wpAt_of ?_
  refine wpAny_execs_cons (plainObj_wpAny_Assign_Attribute ?_)
  refine wpAny_Name (wpAny_loadName_local rfl rfl F₄.ns rfl ?_) rfl
  refine wpAny_Name (wpAny_loadName_local rfl rfl F₄.ns rfl ?_) rfl
  refine set_plain X₄ (ox := excO C t') (od := none) ⟨hx₄, rfl, rfl, trivial⟩ T.sa ?_
  refine exc_osa X₄ hx₄ hcl (show refsVE (.ref C :: bm) = true from hbm) rfl T.noN (fun h₅ tk₅ dx k₅ dn dne hx₅ hn₅ => ?_)
  refine wpAny_execs_nil (hq h₅ _ dx t' (fun b o hb e => k₅ b o hb (F₄.keep b o (by rw [era_ne hb]; exact e))) hx₅ (Nat.le_trans (Nat.le_of_lt F₄.ns.lt) dn) dne hn₅)
theorem sup_made (T : SupTxt P K mg C fI cc cda qual pre) {v : Value} (X : K.In s.heap) (hlim : s.heap.NoLimit) (hG : s.heap.Ns mainGlobals mg) (hB : s.heap.Ns builtinsNs mb) (hS : mb "super" = some (.type "super"))
    (hroom : A.depth + 1 < recursionLimit) (hun : A.units + 100 < cLine) (hv : Fmt P w s.heap v)
    (hq : ∀ h' tk e dx t1, (∀ b o, s.heap.get? b = some o → h'.get? b = some o) → s.heap.objs.size ≤ e → h'.get? e = some { cls := .ref C, dict := some dx, data := .fields #[.ref t1, .none, .none, .none, .bool false, .none] } → s.heap.objs.size ≤ dx → dx ≠ e → (h'.Ns1 dx fun y => if y = "spot" then some v else none) → R (.ok (.ret (.ref e))) { s with heap := h', toks := tk }) :
    codeAny (model P w) A (.call (.ref C) ⟨[v], []⟩) R s := by
  obtain ⟨nm, qn, N, bs, bm, sn, sub, ab, col, dd, k0, k1, k2, k3, k5, hC, hbm, hal⟩ := T.cls
  obtain ⟨hp, g, dr, tk, os⟩ := s
  have k : ∀ b o, hp.get? b = some o → ((hp.push (kdv_tup [v])).push (excO C hp.objs.size)).get? b = some o := fun b o e => Heap.get?_push_of_some _ (Heap.get?_push_of_some _ e)
  have hget : ((hp.push (kdv_tup [v])).push (excO C hp.objs.size)).get? (hp.objs.size + 1) = some (excO C hp.objs.size) := by heap_get
  have hnx : K.lookup (hp.objs.size + 1) = none := by
    cases e : K.lookup (hp.objs.size + 1) with
    | none => rfl
    | some o => exact absurd (Nat.lt_of_succ_lt (Heap.lt_size (X _ _ e))) (Nat.lt_irrefl _)
  refine call_own F.excBase_ValueError (fun X => refsVE_contains X bm hbm) (X _ _ hC) (looks_findIn X T.iC) (fun self => bind_fn X self T.tC) (by exact (by decide : 1 ≤ sizeLine)) ?_
  have hv' : Fmt P w (era ((hp.push (kdv_tup [v])).push (excO C hp.objs.size)) (hp.objs.size + 1)) v := fun A E s Q uu kk qq => hv A E s Q uu (fun b o e => kk b o (by rw [era_ne (Nat.ne_of_lt (Nat.lt_succ_of_lt (Heap.lt_size e)))]; exact k b o e)) qq
  refine sup_init (s := ⟨(hp.push (kdv_tup [v])).push (excO C hp.objs.size), g, dr, tk, os⟩) T (X.keeps k) (hlim.keeps k) (hG.keeps k) (hB.keeps k) hS hget hnx hroom (by first | omega | (rw [L2.make_units]; omega)) hv' fun h' tk' dx t1 k' hx dn dne hns => ?_
  have e2 : hp.objs.size + 1 + 1 ≤ dx := by rw [Heap.size_push, Heap.size_push] at dn; exact dn
  exact ⟨rfl, hq h' tk' (hp.objs.size + 1) dx t1 (fun b o e => k' b o (Nat.ne_of_lt (Nat.lt_succ_of_lt (Heap.lt_size e))) (k b o e)) (Nat.le_succ _) hx (Nat.le_trans (Nat.le_trans (Nat.le_succ _) (Nat.le_succ _)) e2) dne hns⟩
end
open L2
section
variable {X : L2.Cx} {C fI cc cda : Addr} {qual pre x : Str}
theorem pmk_sup {okv : Hp → V → Prop} {a : PySem.Expr} {ta : TA} {p pos : Pos} {k : Nat} (T : SupTxt X.prog X.K X.mg C fI cc cda qual pre) (hr : Room (k + 1) X.A) (gC : X.mg x = some (.ref C)) (kC : keepIn X.K (.ref C) = true) (rC : Raises X (.ref C))
    (hf : ∀ (pins : List (Addr × Obj)) (σ : L2.St) (H : Hp) (s : Shared) v u, L2.Inv X pins σ H s → okv H v → RelV v u → Fmt X.prog X.w s.heap u) (ha : PA X [a] ta) (hg : Gl X x := by rfl) (hd : (x == ("__debug__" : Str)) = false := by decide)
    (he : starEach (a :: []) X.env = (false, eval a X.env) :: starEach [] X.env := by rfl) (hpl : (backTo pos (starEach [] X.env)).any (·.1) = false := by rfl) :
    PMk X (.Call (.Name x p) [a] [] pos) (ON.tMkH C "spot" okv ta) := by
  intro pins s σ H Q I h
  refine wpAny_Call_Name_kw (ld_glob I hg gC ?_ hd)
  refine PySem.W.callWith_K (h₀ := X.base) I.ok.mod.kin kC (thn (ha.run pos pins s σ H _ I h) fun us s1 hh => ?_) he hpl
  obtain ⟨vs, H1, I1, r1, v, ev, hok, q1⟩ := hh
  subst ev
  refine ⟨I1.kIn, ?_⟩
  cases r1 with
  | cons rv rn =>
    rename_i v' us'
    cases rn
    show wpAny _ _ (call (.ref C) [v']) _ _ _
    have hlim := I1.nolimit
    obtain ⟨mb, hB, hbl⟩ := I1.ok.mod.blt
    have base : ∀ b o, X.base.get? b = some o → s1.heap.get? b = some o := fun b o e => (I1.bs b o e).1
    have hG := I1.ok.mod.glob.keeps base
    have hB' := hB.keeps base
    have hS : mb "super" = some (.type "super") := by rw [hbl _ (by decide)]; rfl
    have hF := hf _ _ H1 s1 v v' I1 hok rv
    obtain ⟨hp, g, dr, tk, os⟩ := s1
    refine wpAny_call (sup_made T I1.kIn hlim hG hB' hS (by have := hr.dp; omega) (by have := hr.un; omega) hF fun h' tk' e d t1 keep newe hoe newd dne hns => ?_)
    show MkP X pins σ Q (.ref e) ⟨h', g, dr, tk', os⟩
    have ge : (era h' e).get? e = none := era_eq
    have old : ∀ b o, hp.get? b = some o → (era h' e).get? b = some o := fun b o q => (era_ne (Nat.ne_of_lt (Nat.lt_of_lt_of_le (Heap.lt_size q) newe))).trans (keep b o q)
    have ob : ObjOk X.prog X.w (upd H1 d (.xd [(("spot" : Str), v)])) (era h' e) d (.xd [(("spot" : Str), v)]) :=
      ⟨_, hns.at (fun o q => (era_ne dne).trans q), fun f => by
        by_cases hw : f = "spot"
        · subst hw
          rw [if_pos rfl, show List.lookup ("spot" : Str) [(("spot" : Str), v)] = some v from by simp [List.lookup]]
          exact rv
        · have qw : (f == ("spot" : Str)) = false := by simpa using hw
          have q2 : List.lookup f [(("spot" : Str), v)] = none := by simp [List.lookup, qw]
          rw [if_neg hw, q2]
          trivial⟩
    have J : L2.Inv X pins σ (upd H1 d (.xd [(("spot" : Str), v)])) ⟨era h' e, g, dr, tk', os⟩ := I1.laid (t' := tk') old newd ob
    refine ⟨e, _, _, ⟨era h' e, g, dr, tk', os⟩, _, .ref C, some d, rfl, J, fun b o q => ?_, ge, hoe, ⟨rfl, rfl⟩, rfl, rfl, ?_, rfl, I1.bare, rC, q1 d (I1.hok.fresh newd)⟩
    · by_cases hb : b = e
      · have q' : (era h' e).get? b = some o := q
        rw [hb, ge] at q'; cases q'
      · exact (era_ne hb).symm.trans q
    · rw [upd_ne (Ne.symm dne)]
      exact I1.hok.fresh newe
end
end ON.F_spot
namespace ON.F_row
open ON
open PySem PySem.W PySem.Calls PyProof.Rows PySem.HandSPX
def siA (p1 p2 : Pos) : Arguments := { posonlyargs := [], args := [{ arg := "self", annotation := none, pos := p1 }, { arg := "row", annotation := none, pos := p2 }], vararg := none, kwonlyargs := [], kw_defaults := [], kwarg := none, defaults := [] }
def siB (pre : Str) (q : Nat → Pos) : List Stmt := [
  .Expr (.Call (.Attribute (.Call (.Name "super" (q 0)) [] [] (q 1)) "__init__" (q 2)) [.JoinedStr [.Constant (.str pre) 0 (q 3), .FormattedValue (.Name "row" (q 4)) (-1) none (q 5)] (q 6)] [] (q 7)) (q 8),
  .Assign [.Attribute (.Name "self" (q 9)) "row" (q 10)] (.Name "row" (q 11)) (q 12)]
def siS : Scope := { kind := .function, names := [(PySem.Str.ofString "self", .local), (PySem.Str.ofString "row", .local), (PySem.Str.ofString "__class__", .free), (PySem.Str.ofString "super", .globalImplicit)], isGenerator := false, isCoroutine := false, more := [] }
/-- a heap without x -/
def era (h : Heap) (x : Addr) : Heap := { h with objs := h.objs.setIfInBounds x ⟨.none, none, .freed, #[]⟩ }
theorem era_ne {h : Heap} {x b : Addr} (n : b ≠ x) : (era h x).get? b = h.get? b := by
  unfold Heap.get? era
  rw [Array.getElem?_setIfInBounds_ne (Ne.symm n)]
theorem era_eq {h : Heap} {x : Addr} : (era h x).get? x = none := by
  unfold Heap.get? era
  by_cases c : x < h.objs.size
  · rw [Array.getElem?_setIfInBounds_self_of_lt c]
  · rw [Array.getElem?_eq_none (by rw [Array.size_setIfInBounds]; exact Nat.le_of_not_lt c)]
theorem era_sz {h : Heap} {x : Addr} : (era h x).objs.size = h.objs.size := by unfold era; exact Array.size_setIfInBounds
/-- whether a call's receiver is looked up plainly -/
def plOf (o : PySem.Expr) (env : Env) : Sem Bool := do
      let __do_lift ← importBound o env
      pure (__do_lift.getD true)
theorem mc_eq {o a : PySem.Expr} {name : Str} {apos pos : Pos} {env : Env} (h : (apos.endLine == pos.line) = true) (ha : starEach [a] env = [(false, eval a env)]) :
    eval ((o.Attribute name apos).Call [a] [] pos) env = (do
            let ov ← attributeBase o name env (eval o env)
            standAt apos.atName
            let __x ← holding [ov] (getMethod ov name (plOf o env))
            (match __x with
              | (f, first) => callWith pos f first (backTo pos (starEach [a] env)) [])) := by
  rw [arm_eval_Call]
  have hp : methodCallPos true o env apos pos = pure pos := by
    unfold methodCallPos
    rw [h]; rfl
  have hf : methodCallForm ([a].length + ([] : List Keyword).length) (backTo pos (starEach [a] env)) (backToKw pos (keywordEach [] env)) = true := by
    rw [ha]; rfl
  unfold methodCall
  rw [hf]
  simp only [hp]
  rfl
/-- what can stand in the braces -/
def Fmt (P : Program) (w : World) (h : Heap) (v : Value) : Prop := ∀ (A : Around) (E : Value → Shared → Prop) (s : Shared) (Q : Value → Shared → Prop), A.units + 2 < cLine → (∀ b o, h.get? b = some o → s.heap.get? b = some o) → (∀ y t tk, y.length ≤ 100000 → Q (.str y t) { s with toks := tk }) → wpAny (model P w) A (formatField v Str.empty) Q E s
structure SupTxt (P : Program) (K : Frag) (mg : Str → Option Value) (C fI cc cda : Addr) (qual pre : Str) : Prop where
  cls : ∃ nm q N bs bm sn sub ab col dd k0 k1 k2 k3 k5, K.lookup C = some (excClassObj nm q C N bs bm true sn sub ab col dd k0 k1 k2 k3 k5 "ValueError.__new__") ∧ refsVE bm = true ∧ alongIn K "__init__" bm = some (some (.builtin "ValueError.__init__"))
  iniC : excInitIn K C [.type "ValueError", .type "Exception", .type "BaseException", .type "object"] "ValueError.__new__" = true
  sa : findIn K (.ref C) "__setattr__" = some (some (.builtin "object.__setattr__"))
  noN : findIn K (.ref C) "row" = some none
  iC : findIn K (.ref C) "__init__" = some (some (.ref fI))
  tC : typeIn K (.ref fI) = some (.type "function")
  own : subIn K (.ref C) (.ref C) = some true
  ve : subIn K (.ref C) (.type "ValueError") = some true
  st : nsIn K cStatics "thirdparty.any" = some none
  gS : mg "super" = none
  gP : (P.main.scope.names.lookup (PySem.Str.ofString "super")).isSome = false
  pl : pre.length ≤ 1000
  cel : ∃ cl cld csl, K.lookup cc = some ⟨cl, cld, .cell (some (.ref C)), csl⟩
  fn : ∃ (oc : Value) (od : Option Addr) (doc pm : Value) (an : Option Addr) (ct : Value) (osl : Array (Option Value)) (p1 p2 : Pos) (q : Nat → Pos), ((q 2).endLine == (q 7).line) = true ∧
    K.lookup fI = some ⟨oc, od, .func (ksFn "__init__" qual (siA p1 p2) (siB pre q) siS .none .none doc pm an (.ref cda) ct cc), osl⟩ ∧ codeIn K (.ref cda) qual = true
  cda : ∃ ccl cdd ccs vs file tf, K.lookup cda = some ⟨ccl, cdd, .fields vs, ccs⟩ ∧ vs[2]? = some (.str file tf) ∧ (P.main.file == file) = true
section
variable {P : Program} {w : World} {A : Around} {E : Value → Shared → Prop} {R : Result → Shared → Prop} {s : Shared} {K : Frag} {mg mb : Str → Option Value} {C fI cc cda : Addr} {qual pre : Str}
theorem wpAt_of {α : Type} {M : Model} {c : Code} {t : Sem α} {Q : α → Shared → Prop} (h : wpAny M A t Q E s) : PySem.wpAt M A c t Q E s := fun Γ p _ hi => h Γ p hi
theorem sup_init (T : SupTxt P K mg C fI cc cda qual pre) {x t0 : Addr} {v : Value} (X : K.In s.heap) (hlim : s.heap.NoLimit) (hG : s.heap.Ns mainGlobals mg) (hB : s.heap.Ns builtinsNs mb) (hS : mb "super" = some (.type "super"))
    (hx : s.heap.get? x = some (excO C t0)) (hnx : K.lookup x = none) (hroom : A.depth < recursionLimit) (hun : A.units + 50 < cLine) (hv : Fmt P w (era s.heap x) v)
    (hq : ∀ h' tk dx t1, (∀ b o, b ≠ x → s.heap.get? b = some o → h'.get? b = some o) → h'.get? x = some { cls := .ref C, dict := some dx, data := .fields #[.ref t1, .none, .none, .none, .bool false, .none] } → s.heap.objs.size ≤ dx → dx ≠ x → (h'.Ns1 dx fun y => if y = "row" then some v else none) → R (.ok (.ret .none)) { s with heap := h', toks := tk }) :
    codeAny (model P w) A (.call (.ref fI) ⟨[.ref x, v], []⟩) R s := by
  obtain ⟨oc, od, doc, pm, an, ct, osl, p1, p2, q, hpos, ho, hcd⟩ := T.fn
  obtain ⟨nm, qn, N, bs, bm, sn, sub, ab, col, dd, k0, k1, k2, k3, k5, hC, hbm, hal⟩ := T.cls
  obtain ⟨cl, cld, csl, hcell⟩ := T.cel
  obtain ⟨ccl, cdd, ccs, vs, file, tf, hcda, hvs, hfile⟩ := T.cda
  refine ks_codeAny_call_defAt (binds := [("self", .ref x), ("row", v)]) hroom (X _ _ ho) rfl hlim ?code rfl (BindsTo.of_eq (by first | rfl | with_unfolding_all rfl)) ?nc ?nl (fun h₁ hn k => ?_) rfl rfl rfl
  case code => exact codeRec_of X hcd
  case nc => exact (by decide : ∀ y ∈ siS.names, y.2 ≠ .cell)
  case nl =>
    intro y hy
    rcases List.mem_cons.mp hy with rfl | hy
    · rfl
    · rcases List.mem_cons.mp hy with rfl | hy
      · rfl
      · cases hy
  have X₁ : K.In h₁ := X.keeps k
  have ne : ∀ {a : Addr} {o : Obj}, K.lookup a = some o → a ≠ x := fun e z => by rw [z, hnx] at e; cases e
  let env : Env := ksEnv "__init__" siS s.heap.objs.size fI (.ref cda) cc
  refine ks_wpAt_execs_cons ?_
  refine ks_wpAt_Expr_any ?_
  refine ks_wpAt_MethodCall ?_ (mc_eq hpos rfl)
  refine ks_wpAt_super_base rfl rfl rfl rfl (X₁ _ _ ho) rfl rfl rfl (X₁ _ _ hcda) rfl hvs hfile T.gP ?_
  refine ks_loadName_global rfl rfl (loadGlobal_builtin (hG.keeps k) T.gS (hB.keeps k) hS ⟨rfl, ?_⟩)
  refine wpAny_loadName_free rfl rfl rfl ⟨_, X₁ _ _ hcell, rfl⟩ ?_
  refine wpAny_loadName_local rfl rfl hn rfl ?_
  refine ks_wpAny_isType_cls (X₁ _ _ hC) rfl ⟨rfl, ?_⟩
  refine ks_wpAny_call_super (X₁ _ _ hC) rfl (k _ _ hx) rfl (fun c z => by cases z) (looks_subIn X₁ T.own) fun h₂ hso k₂ => ?_
  have hL : x < s.heap.objs.size := Heap.lt_size hx
  have z₁ : s.heap.objs.size < h₁.objs.size := hn.lt
  have K₀ : K.In (era s.heap x) := fun a o e => by rw [era_ne (ne e)]; exact X _ _ e
  have old : ∀ {h' : Heap}, (∀ b o, h₁.get? b = some o → h'.get? b = some o) → ∀ b o, (era s.heap x).get? b = some o → h'.get? b = some o := fun kk b o e => by
    by_cases c : b = x
    · subst c; rw [era_eq] at e; cases e
    · rw [era_ne c] at e; exact kk _ _ (k _ _ e)
  have F₂ : PyProof.Rows.Fr (era s.heap x) s.heap.objs.size h₂ _ := ⟨hn.keeps k₂, old k₂, Nat.le_of_eq era_sz⟩
  have gone : ∀ b, s.heap.objs.size ≤ b → (era s.heap x).get? b = none := fun b hb => by
    cases e : (era s.heap x).get? b with
    | none => rfl
    | some o => exact absurd (Heap.lt_size e) (by rw [era_sz]; exact Nat.not_lt_of_le hb)
  have N₂ : News (era s.heap x) s.heap.objs.size h₂ [(h₁.objs.size, ks_superObj C x C), (x, excO C t0)] := fun p hp => by
    rcases List.mem_cons.mp hp with rfl | hp
    · exact ⟨hso, Nat.ne_of_gt z₁, gone _ (Nat.le_of_lt z₁)⟩
    · rcases List.mem_cons.mp hp with rfl | hp
      · exact ⟨k₂ _ _ (k _ _ hx), Nat.ne_of_lt hL, era_eq⟩
      · cases hp
  have hcl : clsIn K C = some { name := nm, bases := bs, mro := .ref C :: bm, ns := N, qualname := qn, hasDict := true, slotNames := sn, subclasses := sub, abstract := ab, collection := col, hasDel := false } := by unfold clsIn; rw [hC] <;> rfl
  refine kxs_method kxs_ValueError F₂ K₀ N₂ List.mem_cons_self (ox := excO C t0) (odx := none) ⟨k₂ _ _ (k _ _ hx), rfl, rfl, trivial⟩ T.st ?si T.ve rfl fun u h₃ F₃ N₃ lt₃ => ?_
  case si =>
    unfold ks_superIn
    rw [hcl]
    show alongIn K _ (List.drop 1 (List.dropWhile (fun x => x != Value.ref C) (Value.ref C :: bm))) = _
    rw [show List.drop 1 (List.dropWhile (fun x => x != Value.ref C) (Value.ref C :: bm)) = bm from by simp [List.dropWhile]]; exact hal
  refine kxs_callWith1 N₃ List.mem_cons_self (spliced_more ?_)
  have fits : ∀ y : Str, y.length ≤ 100000 → (Str.empty ++ pre ++ y).length ≤ sizeLine := fun y hy => by
    rw [Str.empty_append, Str.length_append]
    exact Nat.le_trans (Nat.add_le_add T.pl hy) (by decide)
  refine wpAny_JoinedStr ?_
  refine wpAny_Constant_str ?_
  refine ⟨_, _, rfl, ?len, ?_⟩
  case len => exact Nat.le_trans (Nat.le_of_eq (by rw [Str.empty_append])) (Nat.le_trans T.pl (by decide))
  refine wpAny_FormattedValue_plain (wpAny_Name (wpAny_loadName_local rfl rfl F₃.ns rfl ?_) rfl)
  refine hv _ _ _ _ ?un F₃.keep fun y ty tk hy => ⟨_, _, rfl, ?len2, ?len3, ?_⟩
  case un => first | (show A.units + 3 + 2 < cLine; omega) | (simp only [PySem.Around.deeper_units]; omega)
  case len2 => exact fits y hy
  case len3 => exact fits y hy
  refine spliced_none ⟨N₃ _ List.mem_cons_self |>.1, ?_⟩
  refine kxs_call (t := t0) (dv := none) (c2 := .none) F₃ K₀ N₃ F.excBase_ValueError T.iniC List.mem_cons_self (.tail ?n1 (.tail ?n2 (.head ?n3))) (by exact (by decide : 1 ≤ sizeLine)) fun t' h₄ F₄ N₄ lt₄ => ?_
  case n3 => exact fun p hp => nomatch hp
  case n1 => exact Nat.ne_of_gt (lt₃ (x, excO C t0) (List.mem_cons_of_mem _ List.mem_cons_self))
  case n2 => exact fun z => absurd hL (by rw [← z]; exact Nat.not_lt_of_le (Nat.le_of_lt z₁))
  have X₄ : K.In h₄ := K₀.keeps F₄.keep
  have hx₄ : h₄.get? x = some (excO C t') := (N₄ (x, excO C t') (by simp)).1
  refine wpAt_of ?_
  refine wpAny_execs_cons (plainObj_wpAny_Assign_Attribute ?_)
  refine wpAny_Name (wpAny_loadName_local rfl rfl F₄.ns rfl ?_) rfl
  refine wpAny_Name (wpAny_loadName_local rfl rfl F₄.ns rfl ?_) rfl
  refine set_plain X₄ (ox := excO C t') (od := none) ⟨hx₄, rfl, rfl, trivial⟩ T.sa ?_
  refine exc_osa X₄ hx₄ hcl (show refsVE (.ref C :: bm) = true from hbm) rfl T.noN (fun h₅ tk₅ dx k₅ dn dne hx₅ hn₅ => ?_)
  refine wpAny_execs_nil (hq h₅ _ dx t' (fun b o hb e => k₅ b o hb (F₄.keep b o (by rw [era_ne hb]; exact e))) hx₅ (Nat.le_trans (Nat.le_of_lt F₄.ns.lt) dn) dne hn₅)
theorem sup_made (T : SupTxt P K mg C fI cc cda qual pre) {v : Value} (X : K.In s.heap) (hlim : s.heap.NoLimit) (hG : s.heap.Ns mainGlobals mg) (hB : s.heap.Ns builtinsNs mb) (hS : mb "super" = some (.type "super"))
    (hroom : A.depth + 1 < recursionLimit) (hun : A.units + 100 < cLine) (hv : Fmt P w s.heap v)
    (hq : ∀ h' tk e dx t1, (∀ b o, s.heap.get? b = some o → h'.get? b = some o) → s.heap.objs.size ≤ e → h'.get? e = some { cls := .ref C, dict := some dx, data := .fields #[.ref t1, .none, .none, .none, .bool false, .none] } → s.heap.objs.size ≤ dx → dx ≠ e → (h'.Ns1 dx fun y => if y = "row" then some v else none) → R (.ok (.ret (.ref e))) { s with heap := h', toks := tk }) :
    codeAny (model P w) A (.call (.ref C) ⟨[v], []⟩) R s := by
  obtain ⟨nm, qn, N, bs, bm, sn, sub, ab, col, dd, k0, k1, k2, k3, k5, hC, hbm, hal⟩ := T.cls
  obtain ⟨hp, g, dr, tk, os⟩ := s
  have k : ∀ b o, hp.get? b = some o → ((hp.push (kdv_tup [v])).push (excO C hp.objs.size)).get? b = some o := fun b o e => Heap.get?_push_of_some _ (Heap.get?_push_of_some _ e)
  have hget : ((hp.push (kdv_tup [v])).push (excO C hp.objs.size)).get? (hp.objs.size + 1) = some (excO C hp.objs.size) := by heap_get
  have hnx : K.lookup (hp.objs.size + 1) = none := by
    cases e : K.lookup (hp.objs.size + 1) with
    | none => rfl
    | some o => exact absurd (Nat.lt_of_succ_lt (Heap.lt_size (X _ _ e))) (Nat.lt_irrefl _)
  refine call_own F.excBase_ValueError (fun X => refsVE_contains X bm hbm) (X _ _ hC) (looks_findIn X T.iC) (fun self => bind_fn X self T.tC) (by exact (by decide : 1 ≤ sizeLine)) ?_
  have hv' : Fmt P w (era ((hp.push (kdv_tup [v])).push (excO C hp.objs.size)) (hp.objs.size + 1)) v := fun A E s Q uu kk qq => hv A E s Q uu (fun b o e => kk b o (by rw [era_ne (Nat.ne_of_lt (Nat.lt_succ_of_lt (Heap.lt_size e)))]; exact k b o e)) qq
  refine sup_init (s := ⟨(hp.push (kdv_tup [v])).push (excO C hp.objs.size), g, dr, tk, os⟩) T (X.keeps k) (hlim.keeps k) (hG.keeps k) (hB.keeps k) hS hget hnx hroom (by first | omega | (rw [L2.make_units]; omega)) hv' fun h' tk' dx t1 k' hx dn dne hns => ?_
  have e2 : hp.objs.size + 1 + 1 ≤ dx := by rw [Heap.size_push, Heap.size_push] at dn; exact dn
  exact ⟨rfl, hq h' tk' (hp.objs.size + 1) dx t1 (fun b o e => k' b o (Nat.ne_of_lt (Nat.lt_succ_of_lt (Heap.lt_size e))) (k b o e)) (Nat.le_succ _) hx (Nat.le_trans (Nat.le_trans (Nat.le_succ _) (Nat.le_succ _)) e2) dne hns⟩
end
open L2
section
variable {X : L2.Cx} {C fI cc cda : Addr} {qual pre x : Str}
theorem pmk_sup {okv : Hp → V → Prop} {a : PySem.Expr} {ta : TA} {p pos : Pos} {k : Nat} (T : SupTxt X.prog X.K X.mg C fI cc cda qual pre) (hr : Room (k + 1) X.A) (gC : X.mg x = some (.ref C)) (kC : keepIn X.K (.ref C) = true) (rC : Raises X (.ref C))
    (hf : ∀ (pins : List (Addr × Obj)) (σ : L2.St) (H : Hp) (s : Shared) v u, L2.Inv X pins σ H s → okv H v → RelV v u → Fmt X.prog X.w s.heap u) (ha : PA X [a] ta) (hg : Gl X x := by rfl) (hd : (x == ("__debug__" : Str)) = false := by decide)
    (he : starEach (a :: []) X.env = (false, eval a X.env) :: starEach [] X.env := by rfl) (hpl : (backTo pos (starEach [] X.env)).any (·.1) = false := by rfl) :
    PMk X (.Call (.Name x p) [a] [] pos) (ON.tMkH C "row" okv ta) := by
  intro pins s σ H Q I h
  refine wpAny_Call_Name_kw (ld_glob I hg gC ?_ hd)
  refine PySem.W.callWith_K (h₀ := X.base) I.ok.mod.kin kC (thn (ha.run pos pins s σ H _ I h) fun us s1 hh => ?_) he hpl
  obtain ⟨vs, H1, I1, r1, v, ev, hok, q1⟩ := hh
  subst ev
  refine ⟨I1.kIn, ?_⟩
  cases r1 with
  | cons rv rn =>
    rename_i v' us'
    cases rn
    show wpAny _ _ (call (.ref C) [v']) _ _ _
    have hlim := I1.nolimit
    obtain ⟨mb, hB, hbl⟩ := I1.ok.mod.blt
    have base : ∀ b o, X.base.get? b = some o → s1.heap.get? b = some o := fun b o e => (I1.bs b o e).1
    have hG := I1.ok.mod.glob.keeps base
    have hB' := hB.keeps base
    have hS : mb "super" = some (.type "super") := by rw [hbl _ (by decide)]; rfl
    have hF := hf _ _ H1 s1 v v' I1 hok rv
    obtain ⟨hp, g, dr, tk, os⟩ := s1
    refine wpAny_call (sup_made T I1.kIn hlim hG hB' hS (by have := hr.dp; omega) (by have := hr.un; omega) hF fun h' tk' e d t1 keep newe hoe newd dne hns => ?_)
    show MkP X pins σ Q (.ref e) ⟨h', g, dr, tk', os⟩
    have ge : (era h' e).get? e = none := era_eq
    have old : ∀ b o, hp.get? b = some o → (era h' e).get? b = some o := fun b o q => (era_ne (Nat.ne_of_lt (Nat.lt_of_lt_of_le (Heap.lt_size q) newe))).trans (keep b o q)
    have ob : ObjOk X.prog X.w (upd H1 d (.xd [(("row" : Str), v)])) (era h' e) d (.xd [(("row" : Str), v)]) :=
      ⟨_, hns.at (fun o q => (era_ne dne).trans q), fun f => by
        by_cases hw : f = "row"
        · subst hw
          rw [if_pos rfl, show List.lookup ("row" : Str) [(("row" : Str), v)] = some v from by simp [List.lookup]]
          exact rv
        · have qw : (f == ("row" : Str)) = false := by simpa using hw
          have q2 : List.lookup f [(("row" : Str), v)] = none := by simp [List.lookup, qw]
          rw [if_neg hw, q2]
          trivial⟩
    have J : L2.Inv X pins σ (upd H1 d (.xd [(("row" : Str), v)])) ⟨era h' e, g, dr, tk', os⟩ := I1.laid (t' := tk') old newd ob
    refine ⟨e, _, _, ⟨era h' e, g, dr, tk', os⟩, _, .ref C, some d, rfl, J, fun b o q => ?_, ge, hoe, ⟨rfl, rfl⟩, rfl, rfl, ?_, rfl, I1.bare, rC, q1 d (I1.hok.fresh newd)⟩
    · by_cases hb : b = e
      · have q' : (era h' e).get? b = some o := q
        rw [hb, ge] at q'; cases q'
      · exact (era_ne hb).symm.trans q
    · rw [upd_ne (Ne.symm dne)]
      exact I1.hok.fresh newe
end
end ON.F_row
namespace ON.F_round
open ON
open PySem PySem.W PySem.Calls PyProof.Rows PySem.HandSPX
def siA (p1 p2 : Pos) : Arguments := { posonlyargs := [], args := [{ arg := "self", annotation := none, pos := p1 }, { arg := "round_of", annotation := none, pos := p2 }], vararg := none, kwonlyargs := [], kw_defaults := [], kwarg := none, defaults := [] }
def siB (pre : Str) (q : Nat → Pos) : List Stmt := [
  .Expr (.Call (.Attribute (.Call (.Name "super" (q 0)) [] [] (q 1)) "__init__" (q 2)) [.JoinedStr [.Constant (.str pre) 0 (q 3), .FormattedValue (.Name "round_of" (q 4)) (-1) none (q 5)] (q 6)] [] (q 7)) (q 8),
  .Assign [.Attribute (.Name "self" (q 9)) "round_of" (q 10)] (.Name "round_of" (q 11)) (q 12)]
def siS : Scope := { kind := .function, names := [(PySem.Str.ofString "self", .local), (PySem.Str.ofString "round_of", .local), (PySem.Str.ofString "__class__", .free), (PySem.Str.ofString "super", .globalImplicit)], isGenerator := false, isCoroutine := false, more := [] }
/-- a heap without x -/
def era (h : Heap) (x : Addr) : Heap := { h with objs := h.objs.setIfInBounds x ⟨.none, none, .freed, #[]⟩ }
theorem era_ne {h : Heap} {x b : Addr} (n : b ≠ x) : (era h x).get? b = h.get? b := by
  unfold Heap.get? era
  rw [Array.getElem?_setIfInBounds_ne (Ne.symm n)]
theorem era_eq {h : Heap} {x : Addr} : (era h x).get? x = none := by
  unfold Heap.get? era
  by_cases c : x < h.objs.size
  · rw [Array.getElem?_setIfInBounds_self_of_lt c]
  · rw [Array.getElem?_eq_none (by rw [Array.size_setIfInBounds]; exact Nat.le_of_not_lt c)]
theorem era_sz {h : Heap} {x : Addr} : (era h x).objs.size = h.objs.size := by unfold era; exact Array.size_setIfInBounds
/-- whether a call's receiver is looked up plainly -/
def plOf (o : PySem.Expr) (env : Env) : Sem Bool := do
      let __do_lift ← importBound o env
      pure (__do_lift.getD true)
theorem mc_eq {o a : PySem.Expr} {name : Str} {apos pos : Pos} {env : Env} (h : (apos.endLine == pos.line) = true) (ha : starEach [a] env = [(false, eval a env)]) :
    eval ((o.Attribute name apos).Call [a] [] pos) env = (do
            let ov ← attributeBase o name env (eval o env)
            standAt apos.atName
            let __x ← holding [ov] (getMethod ov name (plOf o env))
            (match __x with
              | (f, first) => callWith pos f first (backTo pos (starEach [a] env)) [])) := by
  rw [arm_eval_Call]
  have hp : methodCallPos true o env apos pos = pure pos := by
    unfold methodCallPos
    rw [h]; rfl
  have hf : methodCallForm ([a].length + ([] : List Keyword).length) (backTo pos (starEach [a] env)) (backToKw pos (keywordEach [] env)) = true := by
    rw [ha]; rfl
  unfold methodCall
  rw [hf]
  simp only [hp]
  rfl
/-- what can stand in the braces -/
def Fmt (P : Program) (w : World) (h : Heap) (v : Value) : Prop := ∀ (A : Around) (E : Value → Shared → Prop) (s : Shared) (Q : Value → Shared → Prop), A.units + 2 < cLine → (∀ b o, h.get? b = some o → s.heap.get? b = some o) → (∀ y t tk, y.length ≤ 100000 → Q (.str y t) { s with toks := tk }) → wpAny (model P w) A (formatField v Str.empty) Q E s
structure SupTxt (P : Program) (K : Frag) (mg : Str → Option Value) (C fI cc cda : Addr) (qual pre : Str) : Prop where
  cls : ∃ nm q N bs bm sn sub ab col dd k0 k1 k2 k3 k5, K.lookup C = some (excClassObj nm q C N bs bm true sn sub ab col dd k0 k1 k2 k3 k5 "ValueError.__new__") ∧ refsVE bm = true ∧ alongIn K "__init__" bm = some (some (.builtin "ValueError.__init__"))
  iniC : excInitIn K C [.type "ValueError", .type "Exception", .type "BaseException", .type "object"] "ValueError.__new__" = true
  sa : findIn K (.ref C) "__setattr__" = some (some (.builtin "object.__setattr__"))
  noN : findIn K (.ref C) "round_of" = some none
  iC : findIn K (.ref C) "__init__" = some (some (.ref fI))
  tC : typeIn K (.ref fI) = some (.type "function")
  own : subIn K (.ref C) (.ref C) = some true
  ve : subIn K (.ref C) (.type "ValueError") = some true
  st : nsIn K cStatics "thirdparty.any" = some none
  gS : mg "super" = none
  gP : (P.main.scope.names.lookup (PySem.Str.ofString "super")).isSome = false
  pl : pre.length ≤ 1000
  cel : ∃ cl cld csl, K.lookup cc = some ⟨cl, cld, .cell (some (.ref C)), csl⟩
  fn : ∃ (oc : Value) (od : Option Addr) (doc pm : Value) (an : Option Addr) (ct : Value) (osl : Array (Option Value)) (p1 p2 : Pos) (q : Nat → Pos), ((q 2).endLine == (q 7).line) = true ∧
    K.lookup fI = some ⟨oc, od, .func (ksFn "__init__" qual (siA p1 p2) (siB pre q) siS .none .none doc pm an (.ref cda) ct cc), osl⟩ ∧ codeIn K (.ref cda) qual = true
  cda : ∃ ccl cdd ccs vs file tf, K.lookup cda = some ⟨ccl, cdd, .fields vs, ccs⟩ ∧ vs[2]? = some (.str file tf) ∧ (P.main.file == file) = true
section
variable {P : Program} {w : World} {A : Around} {E : Value → Shared → Prop} {R : Result → Shared → Prop} {s : Shared} {K : Frag} {mg mb : Str → Option Value} {C fI cc cda : Addr} {qual pre : Str}
theorem wpAt_of {α : Type} {M : Model} {c : Code} {t : Sem α} {Q : α → Shared → Prop} (h : wpAny M A t Q E s) : PySem.wpAt M A c t Q E s := fun Γ p _ hi => h Γ p hi
theorem sup_init (T : SupTxt P K mg C fI cc cda qual pre) {x t0 : Addr} {v : Value} (X : K.In s.heap) (hlim : s.heap.NoLimit) (hG : s.heap.Ns mainGlobals mg) (hB : s.heap.Ns builtinsNs mb) (hS : mb "super" = some (.type "super"))
    (hx : s.heap.get? x = some (excO C t0)) (hnx : K.lookup x = none) (hroom : A.depth < recursionLimit) (hun : A.units + 50 < cLine) (hv : Fmt P w (era s.heap x) v)
    (hq : ∀ h' tk dx t1, (∀ b o, b ≠ x → s.heap.get? b = some o → h'.get? b = some o) → h'.get? x = some { cls := .ref C, dict := some dx, data := .fields #[.ref t1, .none, .none, .none, .bool false, .none] } → s.heap.objs.size ≤ dx → dx ≠ x → (h'.Ns1 dx fun y => if y = "round_of" then some v else none) → R (.ok (.ret .none)) { s with heap := h', toks := tk }) :
    codeAny (model P w) A (.call (.ref fI) ⟨[.ref x, v], []⟩) R s := by
  obtain ⟨oc, od, doc, pm, an, ct, osl, p1, p2, q, hpos, ho, hcd⟩ := T.fn
  obtain ⟨nm, qn, N, bs, bm, sn, sub, ab, col, dd, k0, k1, k2, k3, k5, hC, hbm, hal⟩ := T.cls
  obtain ⟨cl, cld, csl, hcell⟩ := T.cel
  obtain ⟨ccl, cdd, ccs, vs, file, tf, hcda, hvs, hfile⟩ := T.cda
  refine ks_codeAny_call_defAt (binds := [("self", .ref x), ("round_of", v)]) hroom (X _ _ ho) rfl hlim ?code rfl (BindsTo.of_eq (by first | rfl | with_unfolding_all rfl)) ?nc ?nl (fun h₁ hn k => ?_) rfl rfl rfl
  case code => exact codeRec_of X hcd
  case nc => exact (by decide : ∀ y ∈ siS.names, y.2 ≠ .cell)
  case nl =>
    intro y hy
    rcases List.mem_cons.mp hy with rfl | hy
    · rfl
    · rcases List.mem_cons.mp hy with rfl | hy
      · rfl
      · cases hy
  have X₁ : K.In h₁ := X.keeps k
  have ne : ∀ {a : Addr} {o : Obj}, K.lookup a = some o → a ≠ x := fun e z => by rw [z, hnx] at e; cases e
  let env : Env := ksEnv "__init__" siS s.heap.objs.size fI (.ref cda) cc
  refine ks_wpAt_execs_cons ?_
  refine ks_wpAt_Expr_any ?_
  refine ks_wpAt_MethodCall ?_ (mc_eq hpos rfl)
  refine ks_wpAt_super_base rfl rfl rfl rfl (X₁ _ _ ho) rfl rfl rfl (X₁ _ _ hcda) rfl hvs hfile T.gP ?_
  refine ks_loadName_global rfl rfl (loadGlobal_builtin (hG.keeps k) T.gS (hB.keeps k) hS ⟨rfl, ?_⟩)
  refine wpAny_loadName_free rfl rfl rfl ⟨_, X₁ _ _ hcell, rfl⟩ ?_
  refine wpAny_loadName_local rfl rfl hn rfl ?_
  refine ks_wpAny_isType_cls (X₁ _ _ hC) rfl ⟨rfl, ?_⟩
  refine ks_wpAny_call_super (X₁ _ _ hC) rfl (k _ _ hx) rfl (fun c z => by cases z) (looks_subIn X₁ T.own) fun h₂ hso k₂ => ?_
  have hL : x < s.heap.objs.size := Heap.lt_size hx
  have z₁ : s.heap.objs.size < h₁.objs.size := hn.lt
  have K₀ : K.In (era s.heap x) := fun a o e => by rw [era_ne (ne e)]; exact X _ _ e
  have old : ∀ {h' : Heap}, (∀ b o, h₁.get? b = some o → h'.get? b = some o) → ∀ b o, (era s.heap x).get? b = some o → h'.get? b = some o := fun kk b o e => by
    by_cases c : b = x
    · subst c; rw [era_eq] at e; cases e
    · rw [era_ne c] at e; exact kk _ _ (k _ _ e)
  have F₂ : PyProof.Rows.Fr (era s.heap x) s.heap.objs.size h₂ _ := ⟨hn.keeps k₂, old k₂, Nat.le_of_eq era_sz⟩
  have gone : ∀ b, s.heap.objs.size ≤ b → (era s.heap x).get? b = none := fun b hb => by
    cases e : (era s.heap x).get? b with
    | none => rfl
    | some o => exact absurd (Heap.lt_size e) (by rw [era_sz]; exact Nat.not_lt_of_le hb)
  have N₂ : News (era s.heap x) s.heap.objs.size h₂ [(h₁.objs.size, ks_superObj C x C), (x, excO C t0)] := fun p hp => by
    rcases List.mem_cons.mp hp with rfl | hp
    · exact ⟨hso, Nat.ne_of_gt z₁, gone _ (Nat.le_of_lt z₁)⟩
    · rcases List.mem_cons.mp hp with rfl | hp
      · exact ⟨k₂ _ _ (k _ _ hx), Nat.ne_of_lt hL, era_eq⟩
      · cases hp
  have hcl : clsIn K C = some { name := nm, bases := bs, mro := .ref C :: bm, ns := N, qualname := qn, hasDict := true, slotNames := sn, subclasses := sub, abstract := ab, collection := col, hasDel := false } := by unfold clsIn; rw [hC] <;> rfl
  refine kxs_method kxs_ValueError F₂ K₀ N₂ List.mem_cons_self (ox := excO C t0) (odx := none) ⟨k₂ _ _ (k _ _ hx), rfl, rfl, trivial⟩ T.st ?si T.ve rfl fun u h₃ F₃ N₃ lt₃ => ?_
  case si =>
    unfold ks_superIn
    rw [hcl]
    show alongIn K _ (List.drop 1 (List.dropWhile (fun x => x != Value.ref C) (Value.ref C :: bm))) = _
    rw [show List.drop 1 (List.dropWhile (fun x => x != Value.ref C) (Value.ref C :: bm)) = bm from by simp [List.dropWhile]]; exact hal
  refine kxs_callWith1 N₃ List.mem_cons_self (spliced_more ?_)
  have fits : ∀ y : Str, y.length ≤ 100000 → (Str.empty ++ pre ++ y).length ≤ sizeLine := fun y hy => by
    rw [Str.empty_append, Str.length_append]
    exact Nat.le_trans (Nat.add_le_add T.pl hy) (by decide)
  refine wpAny_JoinedStr ?_
  refine wpAny_Constant_str ?_
  refine ⟨_, _, rfl, ?len, ?_⟩
  case len => exact Nat.le_trans (Nat.le_of_eq (by rw [Str.empty_append])) (Nat.le_trans T.pl (by decide))
  refine wpAny_FormattedValue_plain (wpAny_Name (wpAny_loadName_local rfl rfl F₃.ns rfl ?_) rfl)
  refine hv _ _ _ _ ?un F₃.keep fun y ty tk hy => ⟨_, _, rfl, ?len2, ?len3, ?_⟩
  case un => first | (show A.units + 3 + 2 < cLine; omega) | (simp only [PySem.Around.deeper_units]; omega)
  case len2 => exact fits y hy
  case len3 => exact fits y hy
  refine spliced_none ⟨N₃ _ List.mem_cons_self |>.1, ?_⟩
  refine kxs_call (t := t0) (dv := none) (c2 := .none) F₃ K₀ N₃ F.excBase_ValueError T.iniC List.mem_cons_self (.tail ?n1 (.tail ?n2 (.head ?n3))) (by exact (by decide : 1 ≤ sizeLine)) fun t' h₄ F₄ N₄ lt₄ => ?_
  case n3 => exact fun p hp => nomatch hp
  case n1 => exact Nat.ne_of_gt (lt₃ (x, excO C t0) (List.mem_cons_of_mem _ List.mem_cons_self))
  case n2 => exact fun z => absurd hL (by rw [← z]; exact Nat.not_lt_of_le (Nat.le_of_lt z₁))
  have X₄ : K.In h₄ := K₀.keeps F₄.keep
  have hx₄ : h₄.get? x = some (excO C t') := (N₄ (x, excO C t') (by simp)).1
  refine wpAt_of ?_
  refine wpAny_execs_cons (plainObj_wpAny_Assign_Attribute ?_)
  refine wpAny_Name (wpAny_loadName_local rfl rfl F₄.ns rfl ?_) rfl
  refine wpAny_Name (wpAny_loadName_local rfl rfl F₄.ns rfl ?_) rfl
  refine set_plain X₄ (ox := excO C t') (od := none) ⟨hx₄, rfl, rfl, trivial⟩ T.sa ?_
  refine exc_osa X₄ hx₄ hcl (show refsVE (.ref C :: bm) = true from hbm) rfl T.noN (fun h₅ tk₅ dx k₅ dn dne hx₅ hn₅ => ?_)
  refine wpAny_execs_nil (hq h₅ _ dx t' (fun b o hb e => k₅ b o hb (F₄.keep b o (by rw [era_ne hb]; exact e))) hx₅ (Nat.le_trans (Nat.le_of_lt F₄.ns.lt) dn) dne hn₅)
theorem sup_made (T : SupTxt P K mg C fI cc cda qual pre) {v : Value} (X : K.In s.heap) (hlim : s.heap.NoLimit) (hG : s.heap.Ns mainGlobals mg) (hB : s.heap.Ns builtinsNs mb) (hS : mb "super" = some (.type "super"))
    (hroom : A.depth + 1 < recursionLimit) (hun : A.units + 100 < cLine) (hv : Fmt P w s.heap v)
    (hq : ∀ h' tk e dx t1, (∀ b o, s.heap.get? b = some o → h'.get? b = some o) → s.heap.objs.size ≤ e → h'.get? e = some { cls := .ref C, dict := some dx, data := .fields #[.ref t1, .none, .none, .none, .bool false, .none] } → s.heap.objs.size ≤ dx → dx ≠ e → (h'.Ns1 dx fun y => if y = "round_of" then some v else none) → R (.ok (.ret (.ref e))) { s with heap := h', toks := tk }) :
    codeAny (model P w) A (.call (.ref C) ⟨[v], []⟩) R s := by
  obtain ⟨nm, qn, N, bs, bm, sn, sub, ab, col, dd, k0, k1, k2, k3, k5, hC, hbm, hal⟩ := T.cls
  obtain ⟨hp, g, dr, tk, os⟩ := s
  have k : ∀ b o, hp.get? b = some o → ((hp.push (kdv_tup [v])).push (excO C hp.objs.size)).get? b = some o := fun b o e => Heap.get?_push_of_some _ (Heap.get?_push_of_some _ e)
  have hget : ((hp.push (kdv_tup [v])).push (excO C hp.objs.size)).get? (hp.objs.size + 1) = some (excO C hp.objs.size) := by heap_get
  have hnx : K.lookup (hp.objs.size + 1) = none := by
    cases e : K.lookup (hp.objs.size + 1) with
    | none => rfl
    | some o => exact absurd (Nat.lt_of_succ_lt (Heap.lt_size (X _ _ e))) (Nat.lt_irrefl _)
  refine call_own F.excBase_ValueError (fun X => refsVE_contains X bm hbm) (X _ _ hC) (looks_findIn X T.iC) (fun self => bind_fn X self T.tC) (by exact (by decide : 1 ≤ sizeLine)) ?_
  have hv' : Fmt P w (era ((hp.push (kdv_tup [v])).push (excO C hp.objs.size)) (hp.objs.size + 1)) v := fun A E s Q uu kk qq => hv A E s Q uu (fun b o e => kk b o (by rw [era_ne (Nat.ne_of_lt (Nat.lt_succ_of_lt (Heap.lt_size e)))]; exact k b o e)) qq
  refine sup_init (s := ⟨(hp.push (kdv_tup [v])).push (excO C hp.objs.size), g, dr, tk, os⟩) T (X.keeps k) (hlim.keeps k) (hG.keeps k) (hB.keeps k) hS hget hnx hroom (by first | omega | (rw [L2.make_units]; omega)) hv' fun h' tk' dx t1 k' hx dn dne hns => ?_
  have e2 : hp.objs.size + 1 + 1 ≤ dx := by rw [Heap.size_push, Heap.size_push] at dn; exact dn
  exact ⟨rfl, hq h' tk' (hp.objs.size + 1) dx t1 (fun b o e => k' b o (Nat.ne_of_lt (Nat.lt_succ_of_lt (Heap.lt_size e))) (k b o e)) (Nat.le_succ _) hx (Nat.le_trans (Nat.le_trans (Nat.le_succ _) (Nat.le_succ _)) e2) dne hns⟩
end
open L2
section
variable {X : L2.Cx} {C fI cc cda : Addr} {qual pre x : Str}
theorem pmk_sup {okv : Hp → V → Prop} {a : PySem.Expr} {ta : TA} {p pos : Pos} {k : Nat} (T : SupTxt X.prog X.K X.mg C fI cc cda qual pre) (hr : Room (k + 1) X.A) (gC : X.mg x = some (.ref C)) (kC : keepIn X.K (.ref C) = true) (rC : Raises X (.ref C))
    (hf : ∀ (pins : List (Addr × Obj)) (σ : L2.St) (H : Hp) (s : Shared) v u, L2.Inv X pins σ H s → okv H v → RelV v u → Fmt X.prog X.w s.heap u) (ha : PA X [a] ta) (hg : Gl X x := by rfl) (hd : (x == ("__debug__" : Str)) = false := by decide)
    (he : starEach (a :: []) X.env = (false, eval a X.env) :: starEach [] X.env := by rfl) (hpl : (backTo pos (starEach [] X.env)).any (·.1) = false := by rfl) :
    PMk X (.Call (.Name x p) [a] [] pos) (ON.tMkH C "round_of" okv ta) := by
  intro pins s σ H Q I h
  refine wpAny_Call_Name_kw (ld_glob I hg gC ?_ hd)
  refine PySem.W.callWith_K (h₀ := X.base) I.ok.mod.kin kC (thn (ha.run pos pins s σ H _ I h) fun us s1 hh => ?_) he hpl
  obtain ⟨vs, H1, I1, r1, v, ev, hok, q1⟩ := hh
  subst ev
  refine ⟨I1.kIn, ?_⟩
  cases r1 with
  | cons rv rn =>
    rename_i v' us'
    cases rn
    show wpAny _ _ (call (.ref C) [v']) _ _ _
    have hlim := I1.nolimit
    obtain ⟨mb, hB, hbl⟩ := I1.ok.mod.blt
    have base : ∀ b o, X.base.get? b = some o → s1.heap.get? b = some o := fun b o e => (I1.bs b o e).1
    have hG := I1.ok.mod.glob.keeps base
    have hB' := hB.keeps base
    have hS : mb "super" = some (.type "super") := by rw [hbl _ (by decide)]; rfl
    have hF := hf _ _ H1 s1 v v' I1 hok rv
    obtain ⟨hp, g, dr, tk, os⟩ := s1
    refine wpAny_call (sup_made T I1.kIn hlim hG hB' hS (by have := hr.dp; omega) (by have := hr.un; omega) hF fun h' tk' e d t1 keep newe hoe newd dne hns => ?_)
    show MkP X pins σ Q (.ref e) ⟨h', g, dr, tk', os⟩
    have ge : (era h' e).get? e = none := era_eq
    have old : ∀ b o, hp.get? b = some o → (era h' e).get? b = some o := fun b o q => (era_ne (Nat.ne_of_lt (Nat.lt_of_lt_of_le (Heap.lt_size q) newe))).trans (keep b o q)
    have ob : ObjOk X.prog X.w (upd H1 d (.xd [(("round_of" : Str), v)])) (era h' e) d (.xd [(("round_of" : Str), v)]) :=
      ⟨_, hns.at (fun o q => (era_ne dne).trans q), fun f => by
        by_cases hw : f = "round_of"
        · subst hw
          rw [if_pos rfl, show List.lookup ("round_of" : Str) [(("round_of" : Str), v)] = some v from by simp [List.lookup]]
          exact rv
        · have qw : (f == ("round_of" : Str)) = false := by simpa using hw
          have q2 : List.lookup f [(("round_of" : Str), v)] = none := by simp [List.lookup, qw]
          rw [if_neg hw, q2]
          trivial⟩
    have J : L2.Inv X pins σ (upd H1 d (.xd [(("round_of" : Str), v)])) ⟨era h' e, g, dr, tk', os⟩ := I1.laid (t' := tk') old newd ob
    refine ⟨e, _, _, ⟨era h' e, g, dr, tk', os⟩, _, .ref C, some d, rfl, J, fun b o q => ?_, ge, hoe, ⟨rfl, rfl⟩, rfl, rfl, ?_, rfl, I1.bare, rC, q1 d (I1.hok.fresh newd)⟩
    · by_cases hb : b = e
      · have q' : (era h' e).get? b = some o := q
        rw [hb, ge] at q'; cases q'
      · exact (era_ne hb).symm.trans q
    · rw [upd_ne (Ne.symm dne)]
      exact I1.hok.fresh newe
end
end ON.F_round
namespace ON
open PySem PySem.Spec PyProof.Rows L2
/-! ### two numbers in the braces -/
def okII (p : Int × Int) : Prop := p.1.natAbs < 10 ^ 40 ∧ p.2.natAbs < 10 ^ 40
instance : DecidablePred okII := fun p => by unfold okII; exact inferInstance
def isII (K : PySem.W.Frag) (H : Hp) (v : V) : Prop := ∃ a i j, v = .ref a ∧ SqT K H a [.int i, .int j] ∧ okII (i, j)
theorem ho_isII {K : PySem.W.Frag} : ∀ (a : Int × Int) (B H : Hp) (v : V), okII a → Gr B H → Rp K B v (enc a) → isII K H v := fun a B H v h g r => by
  obtain ⟨p, vs, rfl, hp, hs⟩ := Rp.tup_inv r
  cases hs with | cons h1 hs => cases hs with | cons h2 hs =>
    cases hs
    rw [Rp.int_inv h1, Rp.int_inv h2] at hp
    exact ⟨p, a.1, a.2, rfl, g.sqT hp, h⟩
theorem len40 {i : Int} (h : i.natAbs < 10 ^ 40) : (Str.ofString (toString i)).length ≤ 41 := by
  rw [PySem.ofString_length]; exact int_text_length_le10 (by decide) h
theorem log40 {i : Int} (h : i.natAbs < 10 ^ 40) : i.natAbs.log2 < 1920 := PySem.Flt.log2_lt_of (by decide) (Nat.lt_trans h (by decide))
theorem fmt_isII {X : Cx} : ∀ (pins : List (Addr × Obj)) (σ : L2.St) (H : Hp) (s : Shared) (v : V) (u : Value), Inv X pins σ H s → isII X.K H v → RelV v u → F_spot.Fmt X.prog X.w s.heap u := fun pins σ H s v u I hi r => by
  obtain ⟨a, i, j, rfl, ht, hl⟩ := hi
  cases r
  intro A E s2 Q hu hk q
  obtain ⟨its, rv, ⟨o, ho, hc, n, hd⟩, _⟩ := I.tuple ht
  cases rv with | cons r1 rv => cases rv with | cons r2 rv =>
    cases rv
    obtain ⟨t1, rfl⟩ := r1
    obtain ⟨t2, rfl⟩ := r2
    have l1 : (Str.ofString (toString i)).length ≤ 41 := len40 hl.1
    have l2 : (Str.ofString (toString j)).length ≤ 41 := len40 hl.2
    have hT := fmt_text [Str.ofString (toString i), Str.ofString (toString j)]
    rw [piled_cons, piled_cons, piled_nil] at hT
    refine fmt_tuple hu (hk _ _ ho) hc hd (.cons (ReprIs.int t1 (log40 hl.1)) (.cons (ReprIs.int t2 (log40 hl.2)) .nil)) (Nat.le_trans hT (Nat.le_trans (show _ ≤ 1000 by omega) (by decide))) fun m u tk hm => q m u tk ?_
    have hm2 := Nat.le_trans hm (Nat.add_le_add_right hT 5)
    omega
end ON

set_option Elab.async false
set_option linter.all false
set_option maxRecDepth 100000
set_option maxHeartbeats 400000
/-! N25: append, what follows bound. -/
namespace ON
open PySem PySem.Spec PyProof.Rows L2
section
variable {K : PySem.W.Frag} {m : Type → Type} [Mn m] {α β γ τ τ' l ρ : Type} {sd sd' : List SD} {ta tb te : TE} [Rt ρ] {W : Wr} {post : τ → List SD} {postL : l → List SD} {ts tu : TS}
theorem es_pb {z : α} {f : α → m (Fl τ l ρ)} (h : EvS K W ts sd post postL (f z)) : EvS K W ts sd post postL (Mn.bnd (Mn.pur z) f) := fun F σ B H k R r k' e D q => by
  obtain ⟨a, k1, e1, e2⟩ := bnd_some e
  obtain ⟨rfl, rfl⟩ := pur_some e1
  exact h F σ B H _ R r k' e2 D q
theorem es_appP [Enc α] {i : Nat} {xs : List α} {y : m α} {f : List α → m (Fl τ l ρ)} (hi : sd[i]? = some (.own (.lst .dat) (enc xs))) (h : EvM K te sd y) (hf : ∀ zs, EvS K W tu (sd.set i (.own (.lst .dat) (enc zs))) post postL (f zs)) :
    EvS K W (tSeq (tDrop (tBM K "list" rAppend (tVar i) (tCons te tNil))) tu) sd post postL (Mn.bnd y fun a => gd (xs.length < 100000) (Mn.bnd (Mn.pur (xs ++ [a])) f)) := es_appG (f := fun zs => Mn.bnd (Mn.pur zs) f) hi h fun zs => es_pb (hf zs)
theorem es_appNilP [Enc α] {i : Nat} {xss : List (List α)} {f : List (List α) → m (Fl τ l ρ)} (hi : sd[i]? = some (.own (.lst (.lst .dat)) (enc xss))) (hf : ∀ ys, EvS K W tu (sd.set i (.own (.lst (.lst .dat)) (enc ys))) post postL (f ys)) :
    EvS K W (tSeq (tDrop (tBM K "list" rAppend (tVar i) (tCons (tLst tNil) tNil))) tu) sd post postL (gd (xss.length < 100000) (Mn.bnd (Mn.pur (xss ++ [[]])) f)) :=
  es_appNil (f := fun ys => Mn.bnd (Mn.pur ys) f) hi fun ys => es_pb (hf ys)
end
end ON

set_option Elab.async false
set_option linter.all false
set_option maxRecDepth 100000
set_option maxHeartbeats 400000
/-! N26: a tuple of anything. -/
namespace ON
open PySem PySem.Spec PyProof.Rows L2
def anL : List D → Option (List An)
  | [] => some []
  | d :: ds => if h : tyN d ≠ "" then (anL ds).map (fun r => ⟨d, h⟩ :: r) else none
theorem anL_ok : ∀ (ds : List D) (as : List An), anL ds = some as → as.map enc = ds
  | [], _, h => by cases h; rfl
  | d :: ds, as, h => by
    rw [anL] at h
    by_cases c : tyN d ≠ ""
    · rw [dif_pos c] at h
      cases e : anL ds with
      | none => rw [e] at h; cases h
      | some r =>
        rw [e] at h; cases h
        rw [List.map_cons, anL_ok ds r e]; rfl
    · rw [dif_neg c] at h; cases h
instance : Dec An (Tl An) := ⟨fun a => match a.d with | .tup ds => (anL ds).map Tl.mk | _ => none⟩
theorem dec_anT : ∀ (a : An) b, (Dec.dec a : Option (Tl An)) = some b → enc a = enc b := fun a b e => by
  obtain ⟨d, h⟩ := a
  cases d with
  | tup ds =>
    cases e2 : anL ds with
    | none =>
      have : (Dec.dec (⟨.tup ds, h⟩ : An) : Option (Tl An)) = (anL ds).map Tl.mk := rfl
      rw [this, e2] at e; cases e
    | some r =>
      have : (Dec.dec (⟨.tup ds, h⟩ : An) : Option (Tl An)) = (anL ds).map Tl.mk := rfl
      rw [this, e2] at e; cases e
      show D.tup ds = D.tup (r.map enc)
      rw [anL_ok ds r e2]
  | _ => cases e
end ON

set_option Elab.async false
set_option linter.all false
set_option maxRecDepth 100000
set_option maxHeartbeats 400000
/-! N27: a raising def called where it doesn't raise. -/
namespace ON
open PySem PySem.Spec PyProof.Rows L2
def okO {α : Type} : Option (Xr α) → Option α
  | some (.ok a) => some a
  | _ => none
theorem okO_some {α : Type} {x : Option (Xr α)} {a : α} (h : okO x = some a) : x = some (.ok a) := by
  cases x with
  | none => cases h
  | some r => cases r with
    | ok b => cases h; rfl
    | er e => cases h
theorem noX {P : Program} {w : World} {K : PySem.W.Frag} {mg : Str → Option Value} {base : Heap} {k n : Nat} {f : Addr} {fd : FuncData} {ps : List Str} {s : Sh} {pre : List D → D ⊕ Er → Prop} (F : FnOk P w K mg base (L2.CX P w) k f fd ps (spX K n s pre)) :
    FnOk P w K mg base CX0 k f fd ps (spP K n s fun ds r => pre ds (.inl r)) := by
  have conv : ∀ vs H Q E, spP K n s (fun ds r => pre ds (.inl r)) vs H Q E → spX K n s pre vs H Q E0 := fun vs H Q E h => by
    obtain ⟨B, ds, r, hp, hn, g, rs, q⟩ := h
    exact ⟨B, ds, .inl r, hp, hn, g, rs, fun d e => by cases e; exact q, fun e z => by cases z⟩
  refine ⟨fun vs H Q E h => F.len _ _ _ _ (conv vs H Q E h), fun A outer s0 H args us vs Q E hr e0 hb r hs => ?_⟩
  refine codeAny_mono (F.run A outer s0 H args us vs Q E0 hr e0 hb r (conv vs H Q E hs)) fun r s' h => ?_
  cases r with
  | ok fl => cases fl <;> exact h
  | error e =>
    obtain ⟨_, _, _, _, _, _, _, _, _, _, _, _, z⟩ := h
    exact z.elim
end ON

set_option Elab.async false
set_option linter.all false
set_option maxRecDepth 100000
set_option maxHeartbeats 2000000
/-! N28: zip of a list and a tuple (printed by gen28.py out of NZ and N5) -/
namespace ON
open PySem PySem.Spec PyProof.Rows L2
def ItW (K : PySem.W.Frag) (a b : Addr) : It :=
  ⟨fun i H => ∃ (xs ys : List V) (x y : V), SqL K H a xs ∧ SqT K H b ys ∧ xs[i]? = some x ∧ ys[i]? = some y,
   fun i H v H' => ∃ T x y, v = .ref T ∧ H T = none ∧ H' = upd H T (.tup [x, y]) ∧ (∀ xs, SqL K H a xs → xs[i]? = some x) ∧ (∀ ys, SqT K H b ys → ys[i]? = some y),
   fun i H => ∃ xs ys : List V, SqL K H a xs ∧ SqT K H b ys ∧ (xs.length = i ∨ ys.length = i) ∧ i ≤ xs.length ∧ i ≤ ys.length⟩
def StW (a b z TI TO i1 i2 : Addr) (i : Nat) (h : Heap) : Prop := IsZip h z TI TO .none ∧ IsPair h TI (.ref i1) (.ref i2) ∧ (∃ x y, IsPair h TO x y) ∧ h.IsListIter i1 a i ∧ h.IsTupleIter i2 b i
theorem turnW {P : Program} {w : World} {K : PySem.W.Frag} {es : List Expr} {kk : Nat} {tp : Pos} {a b z TI TO i1 i2 : Addr} (D : ZipApart z TI TO i1 i2 a b) :
    Turn P w K (.Tuple es kk tp) (ItW K a b) [z, TI, TO, i1, i2] z (StW a b z TI TO i1 i2) where
  mem := by simp
  obj := fun i h st c hc => by
    obtain ⟨hz, hI, ⟨x, y, hO⟩, ⟨o1, q1, _, d1⟩, ⟨o2, q2, _, d2⟩⟩ := st
    rcases five hc with rfl | rfl | rfl | rfl | rfl
    · exact ⟨_, hz, fun v q => nomatch q⟩
    · exact ⟨_, hI, fun v q => nomatch q⟩
    · exact ⟨_, hO, fun v q => nomatch q⟩
    · exact ⟨o1, q1, fun v q => by rw [d1] at q; cases q⟩
    · exact ⟨o2, q2, fun v q => by rw [d2] at q; cases q⟩
  keep := fun i h h' st k => by
    obtain ⟨hz, hI, ⟨x, y, hO⟩, n1, n2⟩ := st
    exact ⟨k z (by simp) _ hz, k TI (by simp) _ hI, ⟨x, y, k TO (by simp) _ hO⟩, n1.at fun o q => k i1 (by simp) o q, n2.at fun o q => k i2 (by simp) o q⟩
  item := by
    intro X hP hw hK hc i pins s σ H E I hf st hg
    subst hP hw hK
    obtain ⟨hz, hI, ⟨x0, y0, hO⟩, n1, n2⟩ := st
    obtain ⟨xs, ys, x, y, hqx, hqy, hx, hy⟩ := hg
    obtain ⟨ws, rv, p1, _⟩ := I.list hqx
    obtain ⟨ws2, rv2, p2, _⟩ := I.tuple hqy
    obtain ⟨u, hu, ru⟩ := rv.get hx
    obtain ⟨u2, hu2, ru2⟩ := rv2.get hy
    have zl : z < s.heap.objs.size := Heap.lt_size hz
    have hh : X.A.in1.handled = none := I.ok.hd hc
    refine wpAny_pyNext_zipD2_item (n1 := ws.toArray.size) (n2 := ws2.toArray.size) (sep_of D) (Draws.list hh i1 a D.l1i1 ws.toArray) (Draws.tuple hh i2 b D.l2i2 ws2.toArray) hz hI hO ⟨n1, p1.isList⟩ ⟨n2, p2⟩ ?_ ?_ ?_
    · have := (List.getElem?_eq_some_iff.mp hu).1; simpa using this
    · have := (List.getElem?_eq_some_iff.mp hu2).1; simpa using this
    intro v1 v2 h' tk e1 e2 z' O' st1 st2 hT hsz hk
    have ev1 : v1 = u := by
      have q : ws[i]? = some v1 := by simpa using e1
      rw [hu] at q; exact (Option.some.inj q).symm
    have ev2 : v2 = u2 := by
      have q : ws2[i]? = some v2 := by simpa using e2
      rw [hu2] at q; exact (Option.some.inj q).symm
    subst ev1 ev2
    refine ⟨_, rfl, wpAny_letOwnedTupleGo_zip (s := { s with heap := h', toks := tk }) z' fun h2 z2 sb => ?_⟩
    have T2 : h2.get? s.heap.objs.size = some { cls := .type "tuple", data := .seq #[v1, v2] } := (sb.2 _ (Nat.ne_of_gt zl)).trans hT
    have new : ObjOk X.prog X.w (upd H s.heap.objs.size (.tup [x, y])) h2 s.heap.objs.size (.tup [x, y]) := ⟨by show 2 ≤ sizeLine; decide, [v1, v2], .cons ru (.cons ru2 .nil), ⟨_, T2, rfl, _, rfl⟩⟩
    have lt : ∀ c ∈ [z, TI, TO, i1, i2], c < s.heap.objs.size := fun c hc => by
      rcases five hc with rfl | rfl | rfl | rfl | rfl
      · exact zl
      · exact Heap.lt_size hI
      · exact Heap.lt_size hO
      · obtain ⟨_, q, _⟩ := n1; exact Heap.lt_size q
      · obtain ⟨_, q, _⟩ := n2; exact Heap.lt_size q
    have I1 : Inv X pins σ (upd H s.heap.objs.size (.tup [x, y])) { s with heap := h2, toks := tk } := I.turnedNew (t' := tk) (ch := [z, TI, TO, i1, i2]) (fun c o hn q =>
      (sb.2 c (fun r => hn (by simp [r]))).trans (hk c o (fun r => hn (by simp [r])) (fun r => hn (by simp [r])) (fun r => hn (by simp [r])) (fun r => hn (by simp [r])) q)) hf (Nat.le_refl _) new
    refine ⟨.ref s.heap.objs.size, _, I1, rfl, ⟨_, x, y, rfl, I.hok.fresh (Nat.le_refl _), rfl, fun l hl => by rw [I.list_inj hl hqx]; exact hx, fun l hl => by rw [I.tuple_inj hl hqy]; exact hy⟩, ⟨z2, ?_, ⟨v1, v2, ?_⟩, ?_, ?_⟩, fun c hcm => ?_⟩
    · exact (sb.2 _ D.TIz).trans (hk _ _ D.TIz D.TITO D.TIi1 D.TIi2 hI)
    · exact (sb.2 _ D.TOz).trans O'
    · exact st1.1.at fun o q => (sb.2 _ D.i1z).trans q
    · exact st2.1.at fun o q => (sb.2 _ D.i2z).trans q
    · rw [upd_ne (Nat.ne_of_lt (lt c hcm))]
      exact (hf c hcm).1
  done := by
    intro X hP hw hK hc i pins s σ H E I hf st hg
    subst hP hw hK
    obtain ⟨hz, hI, ⟨x0, y0, hO⟩, n1, n2⟩ := st
    obtain ⟨xs, ys, hqx, hqy, he, l1, l2⟩ := hg
    obtain ⟨ws, rv, p1, _⟩ := I.list hqx
    obtain ⟨ws2, rv2, p2, _⟩ := I.tuple hqy
    have hh : X.A.in1.handled = none := I.ok.hd hc
    have s1 : ws.toArray.size = xs.length := by rw [List.size_toArray]; exact rv.length.symm
    have s2 : ws2.toArray.size = ys.length := by rw [List.size_toArray]; exact rv2.length.symm
    refine wpAny_pyNext_zipD2_end (n1 := ws.toArray.size) (n2 := ws2.toArray.size) (sep_of D) (Draws.list hh i1 a D.l1i1 ws.toArray) (Draws.tuple hh i2 b D.l2i2 ws2.toArray) hz hI hO ⟨n1, p1.isList⟩ ⟨n2, p2⟩ (by omega) (by omega) (by omega) fun h' tk hk => ?_
    exact ⟨rfl, I.turnedL (t' := tk) (ch := [z, TI, TO, i1, i2]) (fun c o hn q => hk c o (fun r => hn (by simp [r])) (fun r => hn (by simp [r])) (fun r => hn (by simp [r])) (fun r => hn (by simp [r])) q) hf⟩
  self := fun A i s Q E st h => wpAny_pyIter_zip st.1 h
def iZipW (K : PySem.W.Frag) (ta : TA) : TI := fun σ H R => ta σ H fun vs H1 => ∃ a b xs ys, vs = [.ref a, .ref b] ∧ SqL K H1 a xs ∧ SqT K H1 b ys ∧ R (ItW K a b) H1
theorem pi_zipW {X : Cx} {e e2 : Expr} {ta : TA} {p pos tpos : Pos} {elts : List Expr} {kk : Nat} (hg : Gl X "zip") (hm : X.mg "zip" = none) (ha : PA X [e, e2] ta)
    (hs : starEach [e, e2] X.env = (false, eval e X.env) :: starEach [e2] X.env := by rfl) (hpl : (backTo pos (starEach [e2] X.env)).any (·.1) = false := by rfl) :
    PI X (.Tuple elts kk tpos) (.Call (.Name "zip" p) [e, e2] [] pos) (iZipW X.K ta) := by
  refine ⟨fun pins s σ H R I h => ?_⟩
  refine Call_ (ld_blt I hg hm PyProof.Rows.boot_zip (PyProof.Rows.callWith_type1 (thn (ha.run pos pins s σ H _ I h) fun us s1 q0 => ?_) hs hpl))
  obtain ⟨vs, H1, I1, r1, a, b, xs, ys, rfl, hqx, hqy, q⟩ := q0
  cases r1 with
  | cons r rr =>
    cases rr with
    | cons r' rr =>
      cases rr
      cases r
      cases r'
      obtain ⟨ws, rv, p1, _⟩ := I1.list hqx
      obtain ⟨ws2, rv2, p2, _⟩ := I1.tuple hqy
      obtain ⟨o1, ho1, _⟩ := id p2
      have lt1 : a < s1.heap.objs.size := p1.lt
      have lt2 : b < s1.heap.objs.size := Heap.lt_size ho1
      refine zip_begins2 (begins_list a ws.toArray) (begins_tuple b ws2.toArray) p1.isList p2 fun h' hz hI hO g1 g2 hsz hk => wpAny_pyIter_zip hz ?_
      have fresh : ∀ c, c ∈ [s1.heap.objs.size + 4, s1.heap.objs.size + 2, s1.heap.objs.size + 3, s1.heap.objs.size, s1.heap.objs.size + 1] → FpOk X pins H1 c := fun c hcm => by
        have le : s1.heap.objs.size ≤ c := by
          rcases five hcm with rfl | rfl | rfl | rfl | rfl
          · exact Nat.le_add_right _ _
          · exact Nat.le_add_right _ _
          · exact Nat.le_add_right _ _
          · exact Nat.le_refl _
          · exact Nat.le_add_right _ _
        exact I1.fpOk le (I1.hok.fresh le)
      have I2 : Inv X pins σ H1 { s1 with heap := h' } := I1.kept (t' := s1.toks) hk
      exact ⟨_, _, _, _, H1, rfl, I2, turnW (PySem.W.ktu_apart s1.heap.objs.size a b lt1 lt2), ⟨hz, hI, ⟨_, _, hO⟩, ⟨_, g1, rfl, rfl⟩, ⟨_, g2, rfl, rfl⟩⟩, fresh, q⟩
section
variable {K : PySem.W.Frag} {m : Type → Type} [Mn m] {α β : Type} {sd : List SD}
theorem src_zipW [Enc α] [Enc β] {p q : Addr} {vs ws : List V} {xs : List α} {ys : List β} {B : Hp} (h : SqL K B p vs) (r : Rps K B vs (xs.map enc)) (h2 : SqT K B q ws) (r2 : Rps K B ws (ys.map enc)) : Src K (ItW K p q) B (xs.zip ys) := by
  have hl : vs.length = xs.length := by rw [r.len, List.length_map]
  have hl2 : ws.length = ys.length := by rw [r2.len, List.length_map]
  have hz : (xs.zip ys).length = min xs.length ys.length := List.length_zip
  refine ⟨fun i C H g g2 hi => ?_, fun i C H g g2 hi => ?_, fun i C H x H' a g g2 y hi => ?_⟩
  · exact ⟨vs, ws, vs[i]'(by omega), ws[i]'(by omega), (g.trans g2).sqL h, (g.trans g2).sqT h2, List.getElem?_eq_getElem (by omega), List.getElem?_eq_getElem (by omega)⟩
  · exact ⟨vs, ws, (g.trans g2).sqL h, (g.trans g2).sqT h2, by omega, by omega, by omega⟩
  · obtain ⟨T, y1, y2, rfl, nT, rfl, f1, f2⟩ := y
    have hx := f1 vs ((g.trans g2).sqL h)
    have hy := f2 ws ((g.trans g2).sqT h2)
    obtain ⟨a, b⟩ := a
    obtain ⟨ha, hb⟩ := List.getElem?_zip_eq_some.mp hi
    obtain ⟨v, hv, rv⟩ := r.get (i := i) (d := enc a) (by rw [List.getElem?_map, ha] <;> rfl)
    obtain ⟨w, hw, rw'⟩ := r2.get (i := i) (d := enc b) (by rw [List.getElem?_map, hb] <;> rfl)
    rw [hx] at hv; cases hv
    rw [hy] at hw; cases hw
    have gT : Gr C (upd C T (.tup [y1, y2])) := Gr.new (g2.back nT)
    refine ⟨upd C T (.tup [y1, y2]), fun F σ sd k R => (R.data nT).1, gT, Gr.new nT, fun p e => ?_, fun p o e eb => ?_, ?_⟩
    · by_cases c : p = T
      · subst c; exact nT
      · rw [upd_ne c] at e; exact e
    · rw [upd_ne (ne_of_none e nT)]; exact eb
    · exact .tup (.inl (.inl upd_same)) (.cons ((rv.gr g).gr gT) (.cons ((rw'.gr g).gr gT) .nil))
theorem ei_zipW [Enc α] [Enc β] {tr : TA} {x : m (List α × Tl β)} (h : EvA K tr sd x (fun a => [enc a.1, enc a.2])) : EvI K (iZipW K tr) sd (Mn.bnd x fun p => Mn.pur (p.1.zip p.2.l)) := fun F σ B H k R xs k' e Q q => by
  obtain ⟨n, k1, e1, e2⟩ := bnd_some e
  obtain ⟨rfl, rfl⟩ := pur_some e2
  refine h F σ B H k R n _ e1 _ fun vs B1 H1 R1 g1 r1 => ?_
  cases r1 with | cons h hs => cases hs with | cons h2 hs =>
    cases hs
    obtain ⟨p, vs, rfl, hp, hs⟩ := Rp.lst_inv h
    obtain ⟨p2, vs2, rfl, hp2, hs2⟩ := Rp.tup_inv h2
    exact ⟨p, p2, vs, vs2, rfl, SqL.of (R1.bh _ _ hp), R1.bh.sqT hp2, q _ B1 H1 R1 g1 (src_zipW (SqL.of hp) hs hp2 hs2)⟩

end
end ON

set_option Elab.async false
set_option linter.all false
set_option maxRecDepth 100000
set_option maxHeartbeats 400000
/-! N29: list(x), x a list or a tuple. -/
namespace ON
open PySem PySem.Spec PyProof.Rows L2
section
variable {K : PySem.W.Frag} {m : Type → Type} [Mn m] {α β : Type} {sd : List SD} {te : TE}
def rListOf (K : PySem.W.Frag) : List V → Hp → VK → Prop := fun xs H Q => ∃ p ys, xs = [.ref p] ∧ (SqL K H p ys ∨ SqT K H p ys) ∧ ∀ l, H l = none → Q (.ref l) (upd H l (.lst ys))
theorem cr_listOf {X : Cx} : CallR X (.type "list") (rListOf X.K) := call_list_of
theorem ef_listL [Enc α] {x : m (List α)} (h : EvM K te sd x) : EvF K (.lst .dat) (tCB (rListOf K) (tCons te tNil)) sd x := fun F σ B H k R a k' e Q q =>
  h F σ B H k R a k' e _ fun v B1 H1 R1 g1 r1 => by
    obtain ⟨p, vs, rfl, hp, hs⟩ := Rp.lst_inv r1
    exact ⟨p, vs, rfl, .inl (SqL.of (R1.bh _ _ hp)), fun l hl => q _ B1 _ (R1.newL hl hs) g1⟩
theorem ef_listT [Enc α] {x : m (Tl α)} (h : EvM K te sd x) : EvF K (.lst .dat) (tCB (rListOf K) (tCons te tNil)) sd (Mn.bnd x fun t => Mn.pur t.l) := fun F σ B H k R a k' e Q q => by
  obtain ⟨t, k1, e1, e2⟩ := bnd_some e
  obtain ⟨rfl, rfl⟩ := pur_some e2
  exact h F σ B H k R t _ e1 _ fun v B1 H1 R1 g1 r1 => by
    obtain ⟨p, vs, rfl, hp, hs⟩ := Rp.tup_inv r1
    exact ⟨p, vs, rfl, .inr (R1.bh.sqT hp), fun l hl => q _ B1 _ (R1.newL hl hs) g1⟩
end
end ON

set_option Elab.async false
set_option linter.all false
set_option maxRecDepth 100000
set_option maxHeartbeats 400000
/-! N30: a dict of the top, out of the facts of its text. -/
namespace ON
open PySem PySem.Spec PyProof.Rows L2
theorem dic_keys {P : Params} : ∀ {l : List DictEntry} {ks : List Str}, l.map He.keyOf = He.keysIn P ks → ∀ e ∈ l, ∃ x t, e.key = .str x t ∧ x ∈ ks
  | [], _, _, _, h => nomatch h
  | e :: r, [], h, _, _ => by cases h
  | e :: r, k :: ks, h, e', he => by
    have h1 : He.keyOf e :: r.map He.keyOf = some (k, PyData.keyHash P k) :: He.keysIn P ks := h
    injection h1 with h2 h3
    rcases List.mem_cons.mp he with rfl | he
    · unfold He.keyOf at h2
      split at h2
      · rename_i x t q
        obtain ⟨h5, h6⟩ := Prod.mk.inj (Option.some.inj h2)
        exact ⟨x, t, q, by rw [h5]; exact .head _⟩
      · cases h2
    · obtain ⟨x, t, q, m⟩ := dic_keys h3 e' he
      exact ⟨x, t, q, .tail _ m⟩
theorem nsNo {K : PySem.W.Frag} {w : World} {a : Addr} {ks : List Str} (h : He.dicW K a = some (He.keysIn w.params ks)) (z : Str) (hz : z ∉ ks) : PySem.W.nsIn K a z = some none := by
  obtain ⟨es, n, D⟩ := He.dicW_ok h
  have hk : es.toList.map He.keyOf = He.keysIn w.params ks := by
    unfold He.dicW at h
    rw [D.at_] at h
    simp only [decide_true, Bool.true_and] at h
    split at h
    · exact Option.some.inj h
    · cases h
  have keys := dic_keys hk
  unfold PySem.W.nsIn
  rw [D.at_]
  dsimp only
  have e1 : es.toList.find? (fun e => e.key.isStr z) = none := List.find?_eq_none.mpr fun e he => by
    obtain ⟨x, t, q, m⟩ := keys e he
    rw [q]
    intro c
    have : x = z := by
      have c2 : (x == z) = true := c
      simpa using c2
    exact hz (this ▸ m)
  have e2 : es.toList.any (·.refKey) = false := List.any_eq_false.mpr fun e he => by
    obtain ⟨x, t, q, m⟩ := keys e he
    unfold DictEntry.refKey
    rw [q]; simp
  rw [e1, e2]; rfl
theorem look_mem {α : Type} : ∀ {l : List (Str × α)} {z : Str} {a : α}, l.lookup z = some a → (z, a) ∈ l
  | [], _, _, h => by cases h
  | (k, b) :: r, z, a, h => by
    rw [List.lookup_cons] at h
    by_cases c : z = k
    · subst c
      simp at h
      subst h; exact .head _
    · have : (z == k) = false := by simpa using c
      rw [this] at h
      exact .tail _ (look_mem h)
theorem look_no {α : Type} : ∀ {l : List (Str × α)} {z : Str}, l.lookup z = none → z ∉ l.map Prod.fst
  | [], _, _ => by simp
  | (k, b) :: r, z, h => by
    rw [List.lookup_cons] at h
    by_cases c : z = k
    · subst c; simp at h
    · have : (z == k) = false := by simpa using c
      rw [this] at h
      have ih := look_no h
      rw [List.map_cons, List.mem_cons]
      rintro (q | q)
      · exact c q
      · exact ih q
theorem ktab {K : PySem.W.Frag} {w : World} {d : Addr} {α : Type} [Enc α] {c : Dc Str α} (h : He.dicW K d = some (He.keysIn w.params (c.l.map Prod.fst))) (hy : ∀ p ∈ c.l, ∃ u v, PySem.W.nsIn K d p.1 = some (some u) ∧ RelV v u ∧ ∀ B, Rp K B v (enc p.2)) : KTab K w d c where
  kd := He.dicW_ok h
  no z e := nsNo h z (look_no e)
  yes z a e := hy (z, a) (look_mem e)
end ON

set_option Elab.async false
set_option linter.all false
set_option maxRecDepth 100000
set_option maxHeartbeats 1000000
/-! N31: the names of a state, all but one sign of each out of four. -/
namespace ON
open PySem PySem.Spec PyProof.Rows L2
def qz (c : Nat) : Bool := decide (c = 113 ∨ c = 122 ∨ c = 106 ∨ c = 118)
/-- of the four signs alone -/
def Qz (y : Str) : Prop := y.cps.toList.all qz = true
instance (y : Str) : Decidable (Qz y) := by unfold Qz; exact inferInstance
/-- all but one of the four signs -/
def Few (y : Str) : Prop := y.cps.toList.countP (fun c => !qz c) ≤ 1
instance (y : Str) : Decidable (Few y) := by unfold Few; exact inferInstance
theorem Qz.none {y : Str} (h : Qz y) : y.cps.toList.countP (fun c => !qz c) = 0 := by
  rw [List.countP_eq_zero]
  intro c hc
  have := List.all_eq_true.mp h c hc
  rw [this]; simp
theorem Few.mk {a x b : Str} (ha : Qz a) (hx : x.length = 1) (hb : Qz b) : Few (a ++ x ++ b) := by
  unfold Few
  have e : (a ++ x ++ b).cps.toList = a.cps.toList ++ x.cps.toList ++ b.cps.toList := by
    show (a.cps ++ x.cps ++ b.cps).toList = _
    simp
  rw [e, List.countP_append, List.countP_append, ha.none, hb.none]
  have := List.countP_le_length (p := fun c => !qz c) (l := x.cps.toList)
  have l1 : x.cps.toList.length = 1 := hx
  omega
theorem Qz.join {ys : List Str} (h : ∀ y ∈ ys, Qz y) : Qz (Txt.join ("" : Str) ys) := by
  unfold Qz
  rw [join_l]
  refine joinL_all _ _ fun p hp => ?_
  obtain ⟨y, hy, rfl⟩ := List.mem_map.mp hp
  exact h y hy
theorem Qz.cut {x : Str} {lo hi : Option Int} (h : Qz x) : Qz (cutT x lo hi) := cut_all h
theorem bg_W3 (c : List Int) (hc : c.length ≤ 1000) : W (bgM bg2 bg3 bg4 c) 0 fun ns k => 0 ≤ k ∧ k ≤ 100 ∧ ns.length = 24 ∧ ∀ y ∈ ns, 1 ≤ y.length ∧ y.length ≤ 8 ∧ Low y ∧ Few y := by
  have sz : 100000 < sizeLine := by decide
  unfold bgM
  refine W.bnd ?_
  unfold bg2
  refine W.bnd (W.bnd (W.bnd (W.bnd (W.pur (W.nx hc (by decide) (by decide) fun n n0 n1 => ?_)))))
  refine W.gd (by omega) (W.pur ?_)
  have hl := upTo_len 0 1 n.toNat
  refine W.gd (by rw [hl]; omega) (W.compL (Q := fun y : Str => y.length = 1 ∧ Low y ∧ Qz y) 1 _ _ (fun k x k0 k1 _ => ?_) (by decide) (by decide) fun ys k' h1 h2 h3 h4 => ?_)
  · refine W.bnd (W.pur (W.bnd (W.bnd (W.pur (W.nx hc (by rw [hl] at k1; omega) (by decide) fun r r0 r1 => ?_)))))
    refine W.gd (by decide) (W.bnd ?_)
    have hr : ∃ z, atI (Array.toList (Str.cps ("qzjv" : Str))) r = some z ∧ Low (sgn z) ∧ Qz (sgn z) := by
      have : r = 0 ∨ r = 1 ∨ r = 2 ∨ r = 3 := by omega
      rcases this with rfl | rfl | rfl | rfl <;> exact ⟨_, rfl, by decide +kernel, by decide +kernel⟩
    obtain ⟨z, hz, hlow⟩ := hr
    exact W.lift hz (W.pur ⟨⟨rfl, hlow⟩, by omega, by omega⟩)
  rw [hl] at h1 h4
  have hs := sum_ones ys fun y hy => (h2 y hy).1
  have hlw : Low (Txt.join ("" : Str) ys) := Low.join fun y hy => (h2 y hy).2.1
  have hqz : Qz (Txt.join ("" : Str) ys) := Qz.join fun y hy => (h2 y hy).2.2
  have e0 : Str.length ("" : Str) = 0 := rfl
  refine W.gd (by rw [e0]; omega) (W.pur (W.bnd ?_))
  have hj := join_len ys
  unfold bg3
  refine W.bnd (W.bnd (W.bnd (W.pur (W.gd (by omega) (W.pur (W.bnd (W.pur (W.pur (W.nx hc (by omega) (by omega) fun a a0 a1 => ?_)))))))))
  unfold bg4
  refine W.bnd (W.bnd (W.pur (W.pur (W.gd (by decide) (W.compL (Q := fun y : Str => 1 ≤ y.length ∧ y.length ≤ 8 ∧ Low y ∧ Few y) 20 _ _ (fun k x k0 k1 hx => ?_) (by omega) (by omega) fun ns k2 g1 g2 g3 g4 => ?_)))))
  · have hx1 : x.length = 1 ∧ Low x := by
      have key : ∀ x ∈ List.map sgn (Array.toList (Str.cps ("mcxgtaqerbvkdunhspjfwlio" : Str))), x.length = 1 ∧ Low x := by decide +kernel
      exact key x hx
    obtain ⟨hx1, hxl⟩ := hx1
    have cl : ∀ lo hi, (cutT (Txt.join ("" : Str) ys) lo hi).length ≤ (Txt.join ("" : Str) ys).length := fun lo hi => by
      unfold cutT cutS Str.length
      rw [List.size_toArray, List.length_take, List.length_drop, Array.length_toList]
      omega
    have c1 := cl none (some a)
    have c2 := cl (some a) none
    have q1 : (Txt.join ("" : Str) ys).length ≤ sizeLine := by omega
    have q2 : (cutT (Txt.join ("" : Str) ys) none (some a)).length + x.length ≤ sizeLine := by omega
    have q3 : (cutT (Txt.join ("" : Str) ys) none (some a) ++ x).length + (cutT (Txt.join ("" : Str) ys) (some a) none).length ≤ sizeLine := by rw [Str.length_append]; omega
    simp only [pbS, gd_y q1, gd_y q2, gd_y q3]
    have c3 := cut_two (Txt.join ("" : Str) ys) a a0
    have hjl : (Txt.join ("" : Str) ys).length ≤ 7 := by omega
    exact W.pur ⟨⟨by rw [Str.length_append, Str.length_append]; omega, by rw [Str.length_append, Str.length_append]; omega, (hlw.cut.app hxl).app hlw.cut, Few.mk hqz.cut hx1 hqz.cut⟩, by omega, by omega⟩
  · have e24 : (List.map sgn (Array.toList (Str.cps ("mcxgtaqerbvkdunhspjfwlio" : Str)))).length = 24 := rfl
    rw [e24] at g1 g4
    exact ⟨by omega, by omega, g1, g2⟩
theorem W.begun3 {ρ : Type} [Enc ρ] {c : List Int} {f : List Str → Sm (Fl Empty Empty ρ)} {k : Int} {P : Fl Empty Empty ρ → Int → Prop} (hc : c.length ≤ 1000) (h : ∀ ns k, 0 ≤ k → k ≤ 100 → ns.length = 24 → (∀ y ∈ ns, 1 ≤ y.length ∧ y.length ≤ 8 ∧ Low y ∧ Few y) → W (f ns) k P) : W (ON.begun bgF c f) k P := by
  obtain ⟨ns, k0, e, h1, h2, h3, h4⟩ := bg_W3 c hc
  obtain ⟨a, k', e2, p⟩ := h ns k0 h1 h2 h3 h4
  refine ⟨a, k', ?_, p⟩
  unfold ON.begun bgF
  rw [if_pos hc, e]
  exact e2
end ON

set_option Elab.async false
set_option linter.all false
set_option maxRecDepth 100000
set_option maxHeartbeats 1000000
/-! N32: small things for the mathematics of drawing functions. -/
namespace ON
open PySem PySem.Spec PyProof.Rows L2
section
variable {α β τ l ρ : Type}
theorem atNn (xs : List α) (n : Nat) (h : n < xs.length) : atI xs (n : Int) = xs[n]? := by
  unfold atI ixN
  rw [if_pos (by omega), if_pos (by omega)]; rfl
theorem at_mem (xs : List α) (r : Int) (h0 : 0 ≤ r) (h1 : r < xs.length) : ∃ x, atI xs r = some x ∧ x ∈ xs := by
  obtain ⟨n, rfl⟩ : ∃ n : Nat, r = (n : Int) := ⟨r.toNat, by omega⟩
  rw [atNn xs n (by omega)]
  exact ⟨xs[n]'(by omega), List.getElem?_eq_getElem _, List.getElem_mem _⟩
theorem lsome (a : α) : (lift (some a) : Sm α) = Mn.pur a := by unfold ON.lift; rfl
theorem sum_le (n : Nat) : ∀ ys : List Str, (∀ y ∈ ys, y.length ≤ n) → (ys.map Str.length).sum ≤ n * ys.length
  | [], _ => Nat.zero_le _
  | y :: ys, h => by
    rw [List.map_cons, List.sum_cons, List.length_cons, Nat.mul_succ]
    have := sum_le n ys fun z hz => h z (.tail _ hz)
    have := h y (.head _)
    omega
theorem strOk_l {x : Str} (h : PyData.strOk x = true) : x.cps.toList.all (· < 0x110000) = true := by
  rw [Array.all_toList]; exact h
theorem cutL_mem {xs : List α} {lo hi : Option Int} {y : α} (h : y ∈ cutL xs lo hi) : y ∈ xs := by
  unfold cutL at h
  exact List.mem_of_mem_drop (List.mem_of_mem_take h)
theorem cutL_len (xs : List α) (lo hi : Option Int) : (cutL xs lo hi).length ≤ xs.length := by
  unfold cutL
  rw [List.length_take, List.length_drop]; omega
theorem rg_ok12 : ∀ n : Nat, n < 64 → Rg3 0 (n : Int) 12 := by decide +kernel
variable {k : Int}
/-- a loop that goes through, the elements by their places -/
theorem W.forLi {body : τ → α → Sm (Fl τ τ ρ)} {P : Fl τ l ρ → Int → Prop} (I : Nat → τ → Int → Prop) (xs : List α) (t : τ) (h0 : I 0 t k) (hb : ∀ j t k x, xs[j]? = some x → I j t k → W (body t x) k fun r k' => ∃ t', r = .nx t' ∧ I (j + 1) t' k') (he : ∀ t k, I xs.length t k → P (.nx t) k) : W (ON.forL body xs t) k P := by
  have key : ∀ (ys : List α) (i : Nat) (t : τ) (k : Int), I i t k → (∀ j t k x, ys[j]? = some x → I (i + j) t k → W (body t x) k fun r k' => ∃ t', r = .nx t' ∧ I (i + j + 1) t' k') → (∀ t k, I (i + ys.length) t k → P (.nx t) k) → W (ON.forL body ys t) k P := by
    intro ys
    induction ys with
    | nil => intro i t k it _ h; rw [forL_nil]; exact W.pur (h t k it)
    | cons x ys ih =>
      intro i t k it hb h
      rw [forL_cons]
      refine W.bnd ((hb 0 t k x rfl it).mono fun r k' hr => ?_)
      obtain ⟨t', rfl, it'⟩ := hr
      refine ih (i + 1) t' k' it' (fun j t k y hy h2 => ?_) fun t k h2 => h t k (by rw [List.length_cons, show i + (ys.length + 1) = i + 1 + ys.length by omega]; exact h2)
      have z := hb (j + 1) t k y hy (by rw [show i + (j + 1) = i + 1 + j by omega]; exact h2)
      rw [show i + (j + 1) + 1 = i + 1 + j + 1 by omega] at z
      exact z
  refine key xs 0 t k h0 (fun j t k x hx it => ?_) fun t k it => ?_
  · rw [Nat.zero_add] at it ⊢; exact hb j t k x hx it
  · rw [Nat.zero_add] at it; exact he t k it
/-- an element of range and its place -/
theorem upTo_zip {xs : List α} {x : Int × α} {j : Nat} (h : (List.zip (upTo 0 xs.length 1) xs)[j]? = some x) : x.1 = (j : Int) ∧ xs[j]? = some x.2 := by
  rw [List.getElem?_zip_eq_some] at h
  obtain ⟨h1, h2⟩ := h
  obtain ⟨h3, h4⟩ := upTo_get h1
  exact ⟨by rw [h4]; omega, h2⟩
end
end ON

set_option Elab.async false
set_option linter.all false
set_option maxRecDepth 100000
set_option maxHeartbeats 400000
/-! N33: f-strings of any parts, abs. -/
namespace ON
open PySem PySem.Spec PyProof.Rows L2
section
variable {K : PySem.W.Frag} {m : Type → Type} [Mn m] {α β : Type} {sd : List SD} {te : TE}
/-- texts one behind the other -/
def jsT : List (m Str) → Str → m Str
  | [], acc => Mn.pur acc
  | x :: xs, acc => Mn.bnd x fun y => gd ((acc ++ y).length ≤ sizeLine) (jsT xs (acc ++ y))
inductive EvJs (K : PySem.W.Frag) (sd : List SD) : List TE → List (m Str) → Prop
  | nil : EvJs K sd [] []
  | cons {t : TE} {ts : List TE} {x : m Str} {xs : List (m Str)} (h : EvM K t sd x) (r : EvJs K sd ts xs) : EvJs K sd (t :: ts) (x :: xs)
theorem em_fmtS {x : m Str} (h : EvM K te sd x) : EvM K (tFmt te) sd (Mn.bnd x fun y => gd (y.length ≤ sizeLine) (Mn.pur y)) := fun F σ B H k R b k' e Q q => by
  obtain ⟨a, k1, e1, e2⟩ := bnd_some e
  obtain ⟨hg, e3⟩ := gd_some e2
  obtain ⟨rfl, rfl⟩ := pur_some e3
  exact h F σ B H k R _ _ e1 _ fun v B1 H1 R1 g1 r1 => .inl ⟨_, Rp.str_inv r1, hg, q _ B1 H1 R1 g1 (.str _)⟩
theorem em_fmtI {x : m Int} (h : EvM K te sd x) : EvM K (tFmt te) sd (Mn.bnd x fun i => gd (Nat.log2 (Int.natAbs i) < 1920) (Mn.pur (strI i))) := fun F σ B H k R b k' e Q q => by
  obtain ⟨a, k1, e1, e2⟩ := bnd_some e
  obtain ⟨hg, e3⟩ := gd_some e2
  obtain ⟨rfl, rfl⟩ := pur_some e3
  exact h F σ B H k R _ _ e1 _ fun v B1 H1 R1 g1 r1 => .inr ⟨_, Rp.int_inv r1, hg, q _ B1 H1 R1 g1 (.str _)⟩
theorem em_jsA {ts : List TE} {xs : List (m Str)} (h : EvJs K sd ts xs) : ∀ (acc : Str) (F : Fr) (σ : L2.St) (B H : Hp) (k : Int), Rel K F σ B H sd k → ∀ (a : Str) (k' : Int), Mn.run (jsT xs acc) k = some (a, k') →
    ∀ Q : Str → Hp → Prop, (∀ B' H', Rel K F σ B' H' sd k' → Gr B B' → Q a H') → tJs ts acc σ H Q := by
  induction h with
  | nil =>
    intro acc F σ B H k R a k' e Q q
    rw [jsT] at e
    obtain ⟨rfl, rfl⟩ := pur_some e
    exact q B H R (Gr.refl B)
  | cons h r ih =>
    intro acc F σ B H k R a k' e Q q
    rw [jsT] at e
    obtain ⟨y, k1, e1, e2⟩ := bnd_some e
    obtain ⟨hg, e3⟩ := gd_some e2
    refine h F σ B H k R y k1 e1 _ fun v B1 H1 R1 g1 r1 => ?_
    exact ⟨y, Rp.str_inv r1, hg, ih _ F σ B1 H1 k1 R1 a k' e3 Q fun B' H' R' g' => q B' H' R' (g1.trans g')⟩
theorem em_js {ts : List TE} {xs : List (m Str)} (h : EvJs K sd ts xs) : EvM K (fun σ H Q => tJs ts Str.empty σ H fun out H1 => Q (.str out) H1) sd (jsT xs Str.empty) := fun F σ B H k R a k' e Q q =>
  em_jsA h Str.empty F σ B H k R a k' e _ fun B' H' R' g' => q _ B' H' R' g' (.str _)
/-! ### a tuple's texts put together -/
theorem em_joinP {x : m (Str × Str)} {c : Str} (h : EvM K te sd x) : EvM K (tBM K "str" (rJoin K) (tC (.str c)) (tCons te tNil)) sd (Mn.bnd x fun p => gd ((List.map Str.length [p.1, p.2]).sum + List.length [p.1, p.2] * c.length ≤ 16777216) (Mn.pur (Txt.join c [p.1, p.2]))) := fun F σ B H k R b k' e Q q => by
  obtain ⟨ys, k1, e1, e2⟩ := bnd_some e
  obtain ⟨hg, e3⟩ := gd_some e2
  obtain ⟨rfl, rfl⟩ := pur_some e3
  refine ⟨rfl, h F σ B H k R ys _ e1 _ fun v B1 H1 R1 gr1 r1 => ?_⟩
  obtain ⟨p, vs, rfl, hp, hs⟩ := Rp.tup_inv r1
  have z := Rps.strs (ns := [ys.1, ys.2]) hs
  subst z
  exact ⟨c, p, [ys.1, ys.2], rfl, rfl, .inr (R1.bh.sqT hp), hg, q _ B1 H1 R1 gr1 (.str _)⟩
/-! ### six unpacked -/
theorem eg_t6 {α β γ δ ε ζ : Type} [Enc α] [Enc β] [Enc γ] [Enc δ] [Enc ε] [Enc ζ] {i j n o u v : Nat} {p : T6 α β γ δ ε ζ} : EvG K (gTup K 6 (gCons (gName i) (gCons (gName j) (gCons (gName n) (gCons (gName o) (gCons (gName u) (gCons (gName v) gNil))))))) sd p ((((((sd.set i (.dat (enc p.a))).set j (.dat (enc p.b))).set n (.dat (enc p.c))).set o (.dat (enc p.d))).set u (.dat (enc p.e))).set v (.dat (enc p.f))) [i, j, n, o, u, v] := fun F σ B H k w R r Q q => by
  obtain ⟨a, xs, rfl, hp, hs⟩ := Rp.tup_inv r
  cases hs with | cons h1 hs => cases hs with | cons h2 hs => cases hs with | cons h3 hs => cases hs with | cons h4 hs => cases hs with | cons h5 hs => cases hs with | cons h6 hs =>
    cases hs
    refine ⟨a, _, rfl, R.bh.sqT hp, rfl, _, _, rfl, _, _, rfl, _, _, rfl, _, _, rfl, _, _, rfl, _, _, rfl, rfl, ?_⟩
    refine q _ ((((((R.setDat h1).setDat h2).setDat h3).setDat h4).setDat h5).setDat h6) fun vs h => ?_
    rw [wipe_set (h v (by simp)), wipe_set (h u (by simp)), wipe_set (h o (by simp)), wipe_set (h n (by simp)), wipe_set (h j (by simp)), wipe_set (h i (by simp))]
/-! ### abs -/
def absI (i : Int) : Int := if i < 0 then -i else i
def rAbs : List V → Hp → VK → Prop := fun xs H Q => ∃ i, xs = [.int i] ∧ Q (.int (absI i)) H
theorem cr_abs {X : Cx} : CallR X (.builtin "abs") rAbs := call_abs
theorem em_abs {x : m Int} (h : EvM K te sd x) : EvM K (tCB rAbs (tCons te tNil)) sd (Mn.bnd x fun i => Mn.pur (absI i)) := em_cb1 h fun F σ B H k a v R r b k' e Q q => by
  obtain ⟨rfl, rfl⟩ := pur_some e
  exact ⟨a, by rw [Rp.int_inv r], q _ B H R (Gr.refl B) (.int _)⟩
end
end ON
namespace ON
open PySem PySem.Spec PyProof.Rows L2
/-! ### == of pairs that may be missing, of six -/
section
open PyData
instance {α β : Type} [Enc α] [Enc β] [EqD α] [EqD β] : EqD (Option (α × β)) where
  dec := inferInstance
  ok o := match o with | Option.some p => EqD.ok p | Option.none => true
  dp := EqD.dp (α × β)
  pl o := by cases o with | none => rfl | some p => exact EqD.pl p
  lay o h := by cases o with | none => rfl | some p => exact EqD.lay p h
  dep o := by cases o with | none => exact Nat.zero_le _ | some p => exact EqD.dep p
  eq o u := by
    cases o with
    | none => cases u with
      | none => rfl
      | some q => rfl
    | some p => cases u with
      | none => rfl
      | some q =>
        show PyData.eqv (enc p).py (enc q).py = _
        rw [EqD.eq p q]
        by_cases h : p = q
        · subst h; simp
        · simp [h]
instance {α β γ δ ε ζ : Type} [Enc α] [Enc β] [Enc γ] [Enc δ] [Enc ε] [Enc ζ] [EqD α] [EqD β] [EqD γ] [EqD δ] [EqD ε] [EqD ζ] : EqD (T6 α β γ δ ε ζ) where
  dec := inferInstance
  ok p := EqD.ok p.a && EqD.ok p.b && EqD.ok p.c && EqD.ok p.d && EqD.ok p.e && EqD.ok p.f
  dp := max (max (max (max (max (EqD.dp α) (EqD.dp β)) (EqD.dp γ)) (EqD.dp δ)) (EqD.dp ε)) (EqD.dp ζ) + 1
  pl p := by show D.pl (.tup [enc p.a, enc p.b, enc p.c, enc p.d, enc p.e, enc p.f]) = true; simp [D.pl, D.pls, EqD.pl]
  lay p h := by
    rw [Bool.and_eq_true, Bool.and_eq_true, Bool.and_eq_true, Bool.and_eq_true, Bool.and_eq_true] at h
    show canLay0 (.tuple (D.pys [enc p.a, enc p.b, enc p.c, enc p.d, enc p.e, enc p.f])) = true
    simp [D.pys, canLay0, canLayAll0, EqD.lay p.a h.1.1.1.1.1, EqD.lay p.b h.1.1.1.1.2, EqD.lay p.c h.1.1.1.2, EqD.lay p.d h.1.1.2, EqD.lay p.e h.1.2, EqD.lay p.f h.2]
  dep p := by
    show depth (.tuple (D.pys [enc p.a, enc p.b, enc p.c, enc p.d, enc p.e, enc p.f])) ≤ _
    have h1 := EqD.dep p.a
    have h2 := EqD.dep p.b
    have h3 := EqD.dep p.c
    have h4 := EqD.dep p.d
    have h5 := EqD.dep p.e
    have h6 := EqD.dep p.f
    simp only [D.pys, depth, depthAll]; omega
  eq p q := by
    show PyData.eqv (.tuple (D.pys [enc p.a, enc p.b, enc p.c, enc p.d, enc p.e, enc p.f])) (.tuple (D.pys [enc q.a, enc q.b, enc q.c, enc q.d, enc q.e, enc q.f])) = _
    simp only [D.pys, PyData.eqv, eqvAll, EqD.eq, Bool.and_true]
    obtain ⟨a, b, c, u, v, w⟩ := p
    obtain ⟨d, e, f, x, y, z⟩ := q
    simp only [T6.mk.injEq, Bool.decide_and]
end
/-! ### f-strings of texts -/
theorem jsT_all : ∀ (ys : List Str) (acc : Str), acc.length + (ys.map Str.length).sum ≤ sizeLine → jsT (ys.map some) acc = some (ys.foldl (fun a b => a ++ b) acc)
  | [], acc, _ => by rw [List.map_nil, jsT, pur_opt]; rfl
  | y :: ys, acc, h => by
    rw [List.map_cons, List.sum_cons] at h
    rw [List.map_cons, jsT, sbO, gd_y (by rw [Str.length_append]; omega), jsT_all ys _ (by rw [Str.length_append]; omega)]
    rfl
theorem foldS_l : ∀ (ys : List Str) (acc : Str), (ys.foldl (fun a b => a ++ b) acc).cps.toList = acc.cps.toList ++ (ys.map fun y => y.cps.toList).flatten
  | [], acc => by simp
  | y :: ys, acc => by
    rw [List.foldl_cons, foldS_l ys, List.map_cons, List.flatten_cons]
    have : (acc ++ y).cps.toList = acc.cps.toList ++ y.cps.toList := by
      show (acc.cps ++ y.cps).toList = _
      simp
    rw [this, List.append_assoc]
end ON

set_option Elab.async false
set_option linter.all false
set_option maxRecDepth 100000
set_option maxHeartbeats 2000000
/-! N34: enumerate of a tuple -/
namespace ON
open PySem PySem.Spec PyProof.Rows L2
open Sem (wp)
abbrev tIt (t : Addr) : Obj := { cls := .type "tuple_iterator", data := .fields #[.ref t, .int 0 0] }
abbrev enO (i : Addr) : Obj := { cls := .type "enumerate", data := .fields #[.none, .bool false, .ref i, rawInt 0, .none, .none] }
theorem meets_enT (t : Addr) (us : Array Value) : Meets (Builtin.«enumerate.__new__» ⟨[.type "enumerate", .ref t], []⟩) (fun _ R s => Heap.IsTuple s.heap t us ∧ R (.ok (.ret (.ref (s.heap.push (tIt t)).objs.size))) { s with heap := (s.heap.push (tIt t)).push (enO s.heap.objs.size) }) := .of_wp fun prog w A R s h => by
  obtain ⟨hp, g, d, k, o⟩ := s
  obtain ⟨ht, h⟩ := h
  have sb := sub_enumerate
  have q1 : ∀ {A2 : Around} {E Q : Value → Shared → Prop}, Q (.ref hp.objs.size) ⟨hp.push (tIt t), g, d, k, o⟩ → wpAny (model prog w) A2 (pyIter (.ref t)) Q E ⟨hp, g, d, k, o⟩ := fun q => (begins_tuple t us).iter prog w _ _ ⟨hp, g, d, k, o⟩ _ ht q
  wp_walk using q1
  refine wpAny_stack_any fun _ => wpAny_pure ?_
  split
  · rename_i e _ _ _ _ _
    cases (e == Value.type "enumerate") <;> (wp_walk using q1; exact ⟨_, rfl, h⟩)
  · wp_walk using q1
    exact ⟨_, rfl, h⟩
theorem call_enT {prog : Program} {w : World} {A : Around} {E : Value → Shared → Prop} {s : Shared} {t : Addr} {us : Array Value} {Q : Value → Shared → Prop} (ht : s.heap.IsTuple t us)
    (h : ∀ h2, IsEnum h2 (s.heap.objs.size + 1) s.heap.objs.size 0 .none → h2.IsTupleIter s.heap.objs.size t 0 → (∀ b o, s.heap.get? b = some o → h2.get? b = some o) → Q (.ref (s.heap.objs.size + 1)) { s with heap := h2 }) : wpAny (model prog w) A (call (.type "enumerate") [.ref t]) Q E s := by
  refine callType_new F.called_enumerate (by decide) (F.typeCall_enumerate_1 _) (F.newCall_enumerate_1 _) (fun o => F.args_object_init_2 o _) F.entry_enumerate_new (meets_enT t us) ⟨ht, ?_⟩
  have z : (s.heap.push (tIt t)).objs.size = s.heap.objs.size + 1 := Heap.size_push ..
  show _ ∧ _
  rw [z]
  have he : IsEnum ((s.heap.push (tIt t)).push (enO s.heap.objs.size)) (s.heap.objs.size + 1) s.heap.objs.size 0 .none := by
    have y := Heap.get?_push_size (s.heap.push (tIt t)) (o := enO s.heap.objs.size) rfl
    rwa [z] at y
  exact ⟨⟨_, he, rfl⟩, h _ he ⟨_, Heap.get?_push_of_some _ (Heap.get?_push_size _ rfl), rfl, rfl⟩ fun b o x => Heap.get?_push_of_some _ (Heap.get?_push_of_some _ x)⟩
def ItE (K : PySem.W.Frag) (a : Addr) : It :=
  ⟨fun i H => ∃ (xs : List V) (x : V), SqT K H a xs ∧ xs[i]? = some x,
   fun i H v H2 => ∃ T x, v = .ref T ∧ H T = none ∧ H2 = upd H T (.tup [.int (i : Nat), x]) ∧ ∀ xs, SqT K H a xs → xs[i]? = some x,
   fun i H => ∃ xs : List V, SqT K H a xs ∧ xs.length = i⟩
def StE (a e it : Addr) (i : Nat) (h : Heap) : Prop := (∃ old, IsEnum h e it ((i : Nat) : Int) old) ∧ h.IsTupleIter it a i ∧ e ≠ it ∧ a ≠ it ∧ e ≠ a
theorem turnE {P : Program} {w : World} {K : PySem.W.Frag} {es : List Expr} {kk : Nat} {tp : Pos} (a e it : Addr) : Turn P w K (.Tuple es kk tp) (ItE K a) [e, it] e (StE a e it) where
  mem := by simp
  obj := fun i h st b hb => by
    obtain ⟨⟨old, he⟩, ⟨o, ho, hc, hd⟩, _⟩ := st
    have c : b = e ∨ b = it := by simpa using hb
    rcases c with rfl | rfl
    · exact ⟨_, he, fun v q => nomatch q⟩
    · exact ⟨o, ho, fun v q => by rw [hd] at q; cases q⟩
  keep := fun i h h2 st k => by
    obtain ⟨⟨old, he⟩, hi, n⟩ := st
    exact ⟨⟨old, k e (by simp) _ he⟩, hi.at fun o q => k it (by simp) o q, n⟩
  item := by
    intro X hP hw hK hc i pins s σ H E I hf st hg
    subst hP hw hK
    obtain ⟨⟨old, he⟩, hi, n1, n2, n3⟩ := st
    obtain ⟨xs, x, hq, hx⟩ := hg
    obtain ⟨ws, rv, p, _⟩ := I.tuple hq
    obtain ⟨u, hu, ru⟩ := rv.get hx
    have le : e < s.heap.objs.size := Heap.lt_size he
    have li : it < s.heap.objs.size := by obtain ⟨_, q, _⟩ := hi; exact Heap.lt_size q
    have hh : X.A.in1.handled = none := I.ok.hd hc
    refine wpAny_pyNext_enum_itemD (n := ws.toArray.size) (Draws.tuple hh it a n2 ws.toArray) he ⟨hi, p⟩ ?_ n1 (by simp [n1, n3]) fun v h' tk ev ho st1 hT hsz hk => ?_
    · have := (List.getElem?_eq_some_iff.mp hu).1; simpa using this
    have ev1 : v = u := by
      have q : ws[i]? = some v := by simpa using ev
      rw [hu] at q; exact (Option.some.inj q).symm
    subst ev1
    refine ⟨_, rfl, wpAny_letOwnedTupleGo_enum (s := { s with heap := h', toks := tk + 1 }) ho fun h2 e2 sb => ?_⟩
    have T2 : h2.get? s.heap.objs.size = some { cls := .type "tuple", data := .seq #[.int i tk, v] } := (sb.2 _ (Nat.ne_of_gt le)).trans hT
    have new : ObjOk X.prog X.w (upd H s.heap.objs.size (.tup [.int (i : Nat), x])) h2 s.heap.objs.size (.tup [.int (i : Nat), x]) := ⟨by show 2 ≤ sizeLine; decide, [.int i tk, v], .cons ⟨_, rfl⟩ (.cons ru .nil), ⟨_, T2, rfl, _, rfl⟩⟩
    have lt : ∀ c ∈ [e, it], c < s.heap.objs.size := fun c hc => by
      have y : c = e ∨ c = it := by simpa using hc
      rcases y with rfl | rfl
      · exact le
      · exact li
    have I1 : Inv X pins σ (upd H s.heap.objs.size (.tup [.int (i : Nat), x])) { s with heap := h2, toks := tk + 1 } := I.turnedNew (t' := tk + 1) (ch := [e, it]) (fun c o hn q =>
      (sb.2 c (fun r => hn (by simp [r]))).trans (hk c o (fun r => hn (by simp [r])) (fun r => hn (by simp [r])) q)) hf (Nat.le_refl _) new
    refine ⟨.ref s.heap.objs.size, _, I1, rfl, ⟨_, x, rfl, I.hok.fresh (Nat.le_refl _), rfl, fun l hl => by rw [I.tuple_inj hl hq]; exact hx⟩, ⟨⟨v, ?_⟩, st1.1.at fun o q => (sb.2 it (Ne.symm n1)).trans q, n1, n2, n3⟩, fun c hcm => ?_⟩
    · rw [Int.natCast_succ]; exact e2
    · rw [upd_ne (Nat.ne_of_lt (lt c hcm))]
      exact (hf c hcm).1
  done := by
    intro X hP hw hK hc i pins s σ H E I hf st hg
    subst hP hw hK
    obtain ⟨⟨old, he⟩, hi, n1, n2, n3⟩ := st
    obtain ⟨xs, hq, hl⟩ := hg
    obtain ⟨ws, rv, p, _⟩ := I.tuple hq
    have hh : X.A.in1.handled = none := I.ok.hd hc
    have sz : ws.toArray.size = i := by rw [List.size_toArray, ← hl]; exact rv.length.symm
    refine wpAny_pyNext_enum_endD (n := ws.toArray.size) (Draws.tuple hh it a n2 ws.toArray) he ⟨by rw [sz]; exact hi, p⟩ fun h' eb => ?_
    obtain ⟨f0, f1, f2, f3, f4, f5⟩ := hf it (by simp)
    exact ⟨rfl, I.turned (t' := s.toks) (fun b o hb q => eb b o hb q) f0 f1 f3 f4 f5⟩
  self := fun A i s Q E st h => by
    obtain ⟨⟨_, he⟩, _⟩ := st
    exact wpAny_pyIter_enum he h
def iEnT (K : PySem.W.Frag) (ta : TA) : TI := fun σ H R => ta σ H fun vs H1 => ∃ a xs, vs = [.ref a] ∧ SqT K H1 a xs ∧ R (ItE K a) H1
theorem pi_enT {X : Cx} {e : Expr} {ta : TA} {p pos tp : Pos} {es : List Expr} {kk : Nat} (hg : Gl X "enumerate") (hm : X.mg "enumerate" = none) (ha : PA X [e] ta)
    (hs : starEach [e] X.env = [(false, eval e X.env)] := by rfl) : PI X (.Tuple es kk tp) (.Call (.Name "enumerate" p) [e] [] pos) (iEnT X.K ta) := by
  refine ⟨fun pins s σ H R I h => ?_⟩
  refine Call_ (ld_blt I hg hm boot_enumerate (PyProof.Rows.callWith_type1 (thn (ha.run pos pins s σ H _ I h) fun us s1 q0 => ?_) hs rfl))
  obtain ⟨vs, H1, I1, r1, a, xs, rfl, hq, q⟩ := q0
  cases r1 with
  | cons r rr =>
    cases rr
    cases r
    obtain ⟨ws, rv, p1, _⟩ := I1.tuple hq
    obtain ⟨o1, ho1, _⟩ := id p1
    have la : a < s1.heap.objs.size := Heap.lt_size ho1
    refine call_enT p1 fun h2 he hi hk => wpAny_pyIter_enum he ?_
    have I2 : Inv X pins σ H1 { s1 with heap := h2 } := I1.kept (t' := s1.toks) hk
    refine ⟨s1.heap.objs.size + 1, [s1.heap.objs.size + 1, s1.heap.objs.size], _, _, H1, rfl, I2, turnE a (s1.heap.objs.size + 1) s1.heap.objs.size, ⟨⟨.none, he⟩, hi, Nat.succ_ne_self _, Nat.ne_of_lt la, Nat.ne_of_gt (Nat.lt_succ_of_lt la)⟩, fun b hb => ?_, q⟩
    have y : b = s1.heap.objs.size + 1 ∨ b = s1.heap.objs.size := by simpa using hb
    have le : s1.heap.objs.size ≤ b := by rcases y with rfl | rfl <;> omega
    exact I1.fpOk le (I1.hok.fresh le)
section
variable {K : PySem.W.Frag} {m : Type → Type} [Mn m] {α β : Type} {sd : List SD}
theorem src_enT [Enc α] {p : Addr} {vs : List V} {xs : List α} {B : Hp} (h : SqT K B p vs) (r : Rps K B vs (xs.map enc)) : Src K (ItE K p) B ((upTo 0 xs.length 1).zip xs) := by
  have hl : vs.length = xs.length := by rw [r.len, List.length_map]
  have hz : ((upTo 0 xs.length 1).zip xs).length = xs.length := by rw [List.length_zip, upTo_len, Nat.min_self]
  refine ⟨fun i C H g g2 hi => ?_, fun i C H g g2 hi => ⟨vs, (g.trans g2).sqT h, by omega⟩, fun i C H x H' a g g2 y hi => ?_⟩
  · exact ⟨vs, vs[i]'(by omega), (g.trans g2).sqT h, List.getElem?_eq_getElem (by omega)⟩
  · obtain ⟨T, y1, rfl, nT, rfl, f1⟩ := y
    have hx := f1 vs ((g.trans g2).sqT h)
    obtain ⟨a, b⟩ := a
    obtain ⟨ha, hb⟩ := List.getElem?_zip_eq_some.mp hi
    obtain ⟨_, rfl⟩ := upTo_get ha
    obtain ⟨w, hw, rw'⟩ := r.get (i := i) (d := enc b) (by rw [List.getElem?_map, hb] <;> rfl)
    rw [hx] at hw; cases hw
    have gT : Gr C (upd C T (.tup [.int (i : Nat), y1])) := Gr.new (g2.back nT)
    refine ⟨upd C T (.tup [.int (i : Nat), y1]), fun F σ sd k R => (R.data nT).1, gT, Gr.new nT, fun p e => ?_, fun p o e eb => ?_, ?_⟩
    · by_cases c : p = T
      · subst c; exact nT
      · rw [upd_ne c] at e; exact e
    · rw [upd_ne (ne_of_none e nT)]; exact eb
    · refine .tup (.inl (.inl upd_same)) (.cons ?_ (.cons ((rw'.gr g).gr gT) .nil))
      have e : (0 : Int) + (i : Nat) * 1 = (i : Nat) := by omega
      show Rp K _ _ (.int _)
      rw [e]; exact .int _
theorem ei_enT [Enc α] {tr : TA} {x : m (Tl α)} (h : EvA K tr sd x (fun a => [enc a])) : EvI K (iEnT K tr) sd (Mn.bnd x fun xs => Mn.pur ((upTo 0 (Tl.l xs).length 1).zip (Tl.l xs))) := fun F σ B H k R xs k' e Q q => by
  obtain ⟨n, k1, e1, e2⟩ := bnd_some e
  obtain ⟨rfl, rfl⟩ := pur_some e2
  refine h F σ B H k R n _ e1 _ fun vs B1 H1 R1 g1 r1 => ?_
  cases r1 with | cons h hs =>
    cases hs
    obtain ⟨p, vs, rfl, hp, hs⟩ := Rp.tup_inv h
    exact ⟨p, vs, rfl, R1.bh.sqT hp, q _ B1 H1 R1 g1 (src_enT (R1.bh.sqT hp |> fun _ => hp) hs)⟩
end
end ON

set_option Elab.async false
set_option linter.all false
set_option maxRecDepth 100000
set_option maxHeartbeats 1000000
/-! N35: dicts by texts: read, put, made by a comprehension. -/
namespace ON
open PySem PySem.Spec PyProof.Rows L2
section
variable {K : PySem.W.Frag} {m : Type → Type} [Mn m] {α β γ τ τ' l ρ : Type} {sd : List SD} {ta tb te tk ti td ty tv : TE} {W : Wr} {post : τ → List SD} {postL : l → List SD} {ts tu : TS}
def dkl (c : List (Str × α)) : List Key := c.map fun p => .inr p.1
def dvl [Enc α] (c : List (Str × α)) : List D := c.map fun p => enc p.2
theorem enc_dc [Enc α] (c : Dc Str α) : enc c = .dic (dkl c.l) (dvl c.l) := rfl
/-- put: in its place, or at the end -/
def putD (c : List (Str × α)) (z : Str) (a : α) : List (Str × α) := if (c.any fun p => decide (p.1 = z)) = true then c.map (fun p => if p.1 = z then (p.1, a) else p) else c ++ [(z, a)]
def dcP (c : Dc Str α) (z : Str) (a : α) : Dc Str α := ⟨putD c.l z a⟩
def dcOf (ps : List (Str × α)) : Dc Str α := ⟨ps.foldl (fun c p => putD c p.1 p.2) []⟩
theorem putD_len (c : List (Str × α)) (z : Str) (a : α) : (putD c z a).length ≤ c.length + 1 := by
  unfold putD
  split
  · rw [List.length_map]; omega
  · rw [List.length_append]; simp
theorem keyS {a b : Str} : ((Sum.inr a : Key) = .inr b) ↔ a = b := ⟨Sum.inr.inj, fun h => by rw [h]⟩
theorem dc_look [Enc α] {B : Hp} {z : Str} : ∀ {c : List (Str × α)} {vs : List V}, Rps K B vs (dvl c) → (∀ a, c.lookup z = some a → ∃ v, valV ((dkl c).zip vs) (.inr z) = some v ∧ Rp K B v (enc a)) ∧ (c.lookup z = none → valV ((dkl c).zip vs) (.inr z) = none)
  | [], vs, h => by
    cases h
    exact ⟨fun a e => (nomatch e), fun _ => rfl⟩
  | (k, x) :: c, vs, h => by
    cases h with
    | @cons v vs _ _ hv hs =>
    have ih := dc_look (z := z) (c := c) hs
    show (∀ a, List.lookup z ((k, x) :: c) = some a → ∃ v', valV ((Sum.inr k, v) :: (dkl c).zip vs) (Sum.inr z) = some v' ∧ _) ∧ (List.lookup z ((k, x) :: c) = none → valV ((Sum.inr k, v) :: (dkl c).zip vs) (Sum.inr z) = none)
    by_cases e : k = z
    · subst e
      rw [List.lookup_cons, beq_self_eq_true, valV_pos rfl]
      exact ⟨fun a e => by cases e; exact ⟨v, rfl, hv⟩, fun e => (nomatch e)⟩
    · have b : (z == k) = false := by simpa using fun y => e y.symm
      rw [List.lookup_cons, b, valV_neg (fun y => e (keyS.mp y))]
      exact ih
theorem dc_any [Enc α] {B : Hp} {z : Str} : ∀ {c : List (Str × α)} {vs : List V}, Rps K B vs (dvl c) → (((dkl c).zip vs).any fun p => decide (p.1 = .inr z)) = c.any fun p => decide (p.1 = z)
  | [], vs, h => by cases h; rfl
  | (k, x) :: c, vs, h => by
    cases h with
    | @cons v vs _ _ hv hs =>
    show (decide ((Sum.inr k : Key) = .inr z) || (((dkl c).zip vs).any _)) = (decide (k = z) || c.any _)
    rw [dc_any hs, decide_eq_decide.mpr (keyS (a := k) (b := z))]
theorem dc_map [Enc α] {B : Hp} {z : Str} {a : α} {w : V} (hw : Rp K B w (enc a)) : ∀ {c : List (Str × α)} {vs : List V}, Rps K B vs (dvl c) → ∃ ws, (((dkl c).zip vs).map fun p => if p.1 = .inr z then (p.1, w) else p) = (dkl (c.map fun p => if p.1 = z then (p.1, a) else p)).zip ws ∧ Rps K B ws (dvl (c.map fun p => if p.1 = z then (p.1, a) else p))
  | [], vs, h => ⟨[], by cases h; rfl, .nil⟩
  | (k, x) :: c, vs, h => by
    cases h with
    | @cons v vs _ _ hv hs =>
    obtain ⟨ws, e, r⟩ := dc_map (z := z) hw hs
    by_cases y : k = z
    · refine ⟨w :: ws, ?_, ?_⟩
      · show (if (Sum.inr k : Key) = .inr z then _ else _) :: ((dkl c).zip vs).map _ = _
        rw [e, if_pos (keyS.mpr y), List.map_cons]
        show _ = (dkl ((if k = z then (k, a) else (k, x)) :: _)).zip (w :: ws)
        rw [if_pos y]; rfl
      · rw [List.map_cons]
        show Rps K B (w :: ws) (dvl ((if k = z then (k, a) else (k, x)) :: _))
        rw [if_pos y]; exact .cons hw r
    · refine ⟨v :: ws, ?_, ?_⟩
      · show (if (Sum.inr k : Key) = .inr z then _ else _) :: ((dkl c).zip vs).map _ = _
        rw [e, if_neg (fun q => y (keyS.mp q)), List.map_cons]
        show _ = (dkl ((if k = z then (k, a) else (k, x)) :: _)).zip (v :: ws)
        rw [if_neg y]; rfl
      · rw [List.map_cons]
        show Rps K B (v :: ws) (dvl ((if k = z then (k, a) else (k, x)) :: _))
        rw [if_neg y]; exact .cons hv r
theorem Rps.len2 {B : Hp} {vs : List V} [Enc α] {c : List (Str × α)} (h : Rps K B vs (dvl c)) : (dkl c).length = vs.length := by
  rw [h.len]; unfold dkl dvl; rw [List.length_map, List.length_map]
theorem dc_put [Enc α] {B : Hp} {z : Str} {a : α} {w : V} (hw : Rp K B w (enc a)) {c : List (Str × α)} {vs : List V} (h : Rps K B vs (dvl c)) : ∃ ws, putK ((dkl c).zip vs) (.inr z) w = (dkl (putD c z a)).zip ws ∧ Rps K B ws (dvl (putD c z a)) := by
  unfold putK putD
  rw [dc_any h]
  split
  · exact dc_map hw h
  · refine ⟨vs ++ [w], ?_, ?_⟩
    · have e : dkl (c ++ [(z, a)]) = dkl c ++ [.inr z] := by unfold dkl; rw [List.map_append]; rfl
      rw [e, List.zip_append h.len2]; rfl
    · unfold dvl
      rw [List.map_append]; exact h.app (.cons hw .nil)
theorem dc_rd [Enc α] {B : Hp} {v : V} {c : Dc Str α} (r : Rp K B v (enc c)) : ∃ a o vs, v = .ref a ∧ B a = some (.frz o (.dK ((dkl c.l).zip vs))) ∧ Rps K B vs (dvl c.l) := by
  rw [enc_dc] at r
  cases r with
  | dic hl h hs => exact ⟨_, _, _, rfl, h, hs⟩
/-! ### reading -/
theorem em_dgetV [Enc α] {x : m (Dc Str α)} {y : m Str} (h1 : EvM K td sd x) (h2 : EvM K ty sd y) : EvM K (tDGet td ty) sd (Mn.bnd x fun c => Mn.bnd y fun z => (lift (c.l.lookup z) : m α)) := fun F σ B H k R b k' e Q q => by
  obtain ⟨c, k1, e1, e2⟩ := bnd_some e
  obtain ⟨z, k2, e3, e4⟩ := bnd_some e2
  obtain ⟨hz, rfl⟩ := lift_some e4
  refine h1 F σ B H k R c k1 e1 _ fun v B1 H1 R1 g1 r1 => ?_
  refine h2 F σ B1 H1 k1 R1 z _ e3 _ fun w B2 H2 R2 g2 r2 => ?_
  rw [Rp.str_inv r2]
  obtain ⟨a, o, vs, rfl, hb, hs⟩ := dc_rd (r1.gr g2)
  obtain ⟨u, hu, ru⟩ := (dc_look hs).1 b hz
  exact ⟨a, u, rfl, .inl ⟨_, .inr z, .inr ⟨o, R2.bh _ _ hb⟩, rfl, hu.symm⟩, q u B2 H2 R2 (g1.trans g2) ru⟩
theorem em_dgetO [Enc α] {i : Nat} {c : Dc Str α} {y : m Str} (hi : sd[i]? = some (.own (.dic .dat) (enc c))) (h2 : EvM K ty sd y) : EvM K (tDGet (tVar i) ty) sd (Mn.bnd y fun z => (lift (c.l.lookup z) : m α)) := fun F σ B H k R b k' e Q q => by
  obtain ⟨z, k2, e3, e4⟩ := bnd_some e
  obtain ⟨hz, rfl⟩ := lift_some e4
  obtain ⟨o, f0, ho, ⟨v0, rfl, w0⟩, _⟩ := R.slot hi
  refine ⟨_, ho, ?_⟩
  refine h2 F σ B H k R z _ e3 _ fun w B2 H2 R2 g2 r2 => ?_
  rw [Rp.str_inv r2]
  obtain ⟨o1, f1, ho1, ⟨v1, rfl, w1⟩, _⟩ := R2.slot hi
  rw [ho] at ho1; cases ho1
  obtain ⟨a, ks, vs, ds, rfl, ed, rfl, hl, hh, rs⟩ := ow_dicd.mp w1
  rw [enc_dc] at ed; cases ed
  obtain ⟨u, hu, ru⟩ := (dc_look rs).1 b hz
  exact ⟨a, u, rfl, .inl ⟨_, .inr z, .inl hh, rfl, hu.symm⟩, q u B2 H2 R2 g2 ru⟩
def rInV (neg : Bool) : R2 := fun x y H Q => ∃ a o, y = .ref a ∧ DGet H a x o ∧ Q (.bl (if neg then !o.isSome else o.isSome)) H
theorem or_inV {X : Cx} (hu : X.A.units + 1 < cLine) : OpR X (compareOp .In) (rInV false) := by
  intro pins s σ H x y v u Q I rx ry h
  obtain ⟨a, o, rfl, g, q⟩ := h
  cases ry
  exact d_in hu I g rx fun s' I' => ⟨.bl o.isSome, H, I', rfl, q⟩
theorem or_ninV {X : Cx} (hu : X.A.units + 1 < cLine) : OpR X (compareOp .NotIn) (rInV true) := by
  intro pins s σ H x y v u Q I rx ry h
  obtain ⟨a, o, rfl, g, q⟩ := h
  cases ry
  exact d_notIn hu I g rx fun s' I' => ⟨.bl (!o.isSome), H, I', rfl, q⟩
theorem dc_in [Enc α] {B H : Hp} {c : Dc Str α} {z : Str} {a : Addr} {vs : List V} (hd : Rd H a (.dK ((dkl c.l).zip vs))) (hs : Rps K B vs (dvl c.l)) : ∃ o, DGet H a (.str z) o ∧ o.isSome = (c.l.lookup z).isSome := by
  refine ⟨valV ((dkl c.l).zip vs) (.inr z), .inl ⟨_, .inr z, hd, rfl, rfl⟩, ?_⟩
  obtain ⟨l1, l2⟩ := dc_look (z := z) hs
  cases e : c.l.lookup z with
  | none => rw [l2 e]; rfl
  | some a => obtain ⟨u, hu, _⟩ := l1 a e; rw [hu]; rfl
theorem em_inV [Enc α] {neg : Bool} {x : m Str} {y : m (Dc Str α)} (h1 : EvM K te sd x) (h2 : EvM K td sd y) : EvM K (tOp (rInV neg) te td) sd (Mn.bnd x fun z => Mn.bnd y fun c => Mn.pur (if neg then !(c.l.lookup z).isSome else (c.l.lookup z).isSome)) :=
  em_op h1 h2 fun z c F σ B H sd k R va vb ra rb b k' e Q q => by
    obtain ⟨rfl, rfl⟩ := pur_some e
    rw [Rp.str_inv ra]
    obtain ⟨a, o, vs, rfl, hb, hs⟩ := dc_rd rb
    obtain ⟨r, hr, es⟩ := dc_in (z := z) (c := c) (.inr ⟨o, R.bh _ _ hb⟩) hs
    exact ⟨a, r, rfl, hr, by rw [es]; exact q _ B H R (Gr.refl B) (.bl _)⟩
theorem em_inO [Enc α] {neg : Bool} {i : Nat} {c : Dc Str α} {x : m Str} (hi : sd[i]? = some (.own (.dic .dat) (enc c))) (h1 : EvM K te sd x) : EvM K (tOp (rInV neg) te (tVar i)) sd (Mn.bnd x fun z => Mn.pur (if neg then !(c.l.lookup z).isSome else (c.l.lookup z).isSome)) := fun F σ B H k R b k' e Q q => by
  obtain ⟨z, k2, e3, e4⟩ := bnd_some e
  obtain ⟨rfl, rfl⟩ := pur_some e4
  refine h1 F σ B H k R z _ e3 _ fun w B2 H2 R2 g2 r2 => ?_
  rw [Rp.str_inv r2]
  obtain ⟨o1, f1, ho1, ⟨v1, rfl, w1⟩, _⟩ := R2.slot hi
  refine ⟨_, ho1, ?_⟩
  obtain ⟨a, ks, vs, ds, rfl, ed, rfl, hl, hh, rs⟩ := ow_dicd.mp w1
  rw [enc_dc] at ed; cases ed
  obtain ⟨r, hr, es⟩ := dc_in (z := z) (c := c) (.inl hh) rs
  exact ⟨a, r, rfl, hr, by rw [es]; exact q _ B2 H2 R2 g2 (.bl _)⟩
/-! ### put -/
theorem es_dput [Enc α] {i : Nat} {c : Dc Str α} {y : m Str} {x : m α} {f : Dc Str α → m (Fl τ l ρ)} [Rt ρ] (hi : sd[i]? = some (.own (.dic .dat) (enc c))) (hv : EvM K tv sd x) (hy : EvM K ty sd y) (hf : ∀ d : Dc Str α, EvS K W tu (sd.set i (.own (.dic .dat) (enc d))) post postL (f d)) :
    EvS K W (tSeq (sDPut (tVar i) ty tv) tu) sd post postL (Mn.bnd x fun a => Mn.bnd y fun z => gd (c.l.length < 100000) (f (dcP c z a))) := fun F σ B H k R r k' e D q => by
  obtain ⟨a, k1, e1, e2⟩ := bnd_some e
  obtain ⟨z, k2, e3, e4⟩ := bnd_some e2
  obtain ⟨hl, e5⟩ := gd_some e4
  refine hv F σ B H k R a k1 e1 _ fun v B1 H1 R1 g1 r1 => ?_
  obtain ⟨o, f0, ho, ⟨v0, rfl, w0⟩, _⟩ := R1.slot hi
  refine ⟨_, ho, ?_⟩
  refine hy F σ B1 H1 k1 R1 z k2 e3 _ fun w B2 H2 R2 g2 r2 => ?_
  rw [Rp.str_inv r2]
  obtain ⟨o1, f1, ho1, ⟨v1, rfl, w1⟩, nd1, hf1, q1⟩ := R2.slot hi
  rw [ho] at ho1; cases ho1
  obtain ⟨p, ks, vs, ds, rfl, ed, rfl, hlen, hh, rs⟩ := ow_dicd.mp w1
  rw [enc_dc] at ed; cases ed
  obtain ⟨ws, ew, rw2⟩ := dc_put (z := z) (r1.gr g2) rs
  have l1 : ((dkl c.l).zip vs).length = c.l.length := by rw [List.length_zip, ← rs.len2, Nat.min_self]; unfold dkl; rw [List.length_map]
  refine ⟨p, _, rfl, DPut.k (k := .inr z) hh (by rw [l1]; exact Nat.lt_of_lt_of_le hl (by decide)), ?_⟩
  rw [ew]
  have hb := (hf1 p (List.mem_singleton.mpr rfl)).1
  have s := q1 (some (.ref p)) (.own (.dic .dat) (enc (dcP c z a))) [p] B2 (upd H2 p (.dK ((dkl (putD c.l z a)).zip ws))) ⟨_, rfl, ow_dicd.mpr ⟨p, _, _, _, rfl, rfl, rfl, rw2.len2, upd_same, rw2⟩⟩ (by simp) (fun b m => by rw [List.mem_singleton.mp m]; exact ⟨hb, .inl (List.mem_singleton.mpr rfl)⟩)
    (fun a u na e => by rw [upd_ne (fun z => na (List.mem_singleton.mpr z))]; exact e) (Gr.refl _) (R2.bh.mut hb) fun a u e e0 => by rw [e] at e0; cases e0
  rw [σ_set_self ho] at s
  exact hf _ F σ B2 _ k2 s r k' e5 D (q.gr (g1.trans g2))
/-! ### a dict comprehension -/
theorem dcOf_snoc (ps : List (Str × α)) (p : Str × α) : dcOf (ps ++ [p]) = dcP (dcOf ps) p.1 p.2 := by
  unfold dcOf dcP
  rw [List.foldl_append]; rfl
theorem dcOf_len (ps : List (Str × α)) : (dcOf ps).l.length ≤ ps.length := by
  unfold dcOf
  have key : ∀ (ps c : List (Str × α)), (ps.foldl (fun c p => putD c p.1 p.2) c).length ≤ c.length + ps.length := by
    intro ps
    induction ps with
    | nil => intro c; exact Nat.le_refl _
    | cons p ps ih =>
      intro c
      rw [List.foldl_cons, List.length_cons]
      have h1 := ih (putD c p.1 p.2)
      have h2 := putD_len c p.1 p.2
      omega
  have := key ps []
  simpa using this
theorem ef_dc [Enc α] [Enc β] {wi : TI} {g : TG} {tt : TT} {vs is : List Nat} {x : m (List α)} {p : α → m Bool} {kf : α → m Str} {f : α → m β} {sd1 : α → List SD} (hi : EvI K wi sd x) (hg : ∀ a, EvG K g (wipeS sd vs) a (sd1 a) is) (his : ∀ i ∈ is, i ∈ vs)
    (ht : ∀ a, EvB K tt (sd1 a) (p a)) (hk : ∀ a, EvM K tk (sd1 a) (kf a)) (he : ∀ a, EvM K tv (sd1 a) (f a)) (hle : ∀ a, Le (sd1 a) (wipeS sd vs)) (hv : noOwn sd vs) :
    EvF K (.dic .dat) (tDc wi g tt tk tv vs) sd (Mn.bnd (Mn.bnd x fun xs => gd (xs.length ≤ 100000) (compL p (fun a => Mn.bnd (kf a) fun z => Mn.bnd (f a) fun v => Mn.pur (z, v)) xs)) fun ps => Mn.pur (dcOf ps)) := fun F σ B H k R out k' e Q q => by
  obtain ⟨ps, k0, e, e0⟩ := bnd_some e
  obtain ⟨rfl, rfl⟩ := pur_some e0
  obtain ⟨xs, k1, e1, e2⟩ := bnd_some e
  obtain ⟨hlen, e3⟩ := gd_some e2
  refine hi F σ B H k R xs k1 e1 _ fun J B1 H1 R1 g1 S => ?_
  intro D hD
  have RD : Rel K (F.push (.ref D) (.dic .dat) (enc (dcOf ([] : List (Str × β))))) σ B1 (upd H1 D (.dK [])) sd k1 := R1.newD (ks := []) (vs := []) (ds := []) hD rfl .nil
  refine ⟨fun i n H' => n = xs.length - i ∧ i ≤ xs.length ∧ ∃ B' k2 acc rest, Rel K (F.push (.ref D) (.dic .dat) (enc (dcOf acc))) (wipe σ vs) B' H' (wipeS sd vs) k2 ∧ Gr B1 B' ∧ acc.length ≤ i ∧
    Mn.run (compL p (fun a => Mn.bnd (kf a) fun z => Mn.bnd (f a) fun v => Mn.pur (z, v)) (xs.drop i)) k2 = some (rest, k') ∧ acc ++ rest = ps, ⟨xs.length, by simp, Nat.zero_le _, B1, k1, [], ps, RD.wiped vs, Gr.refl B1, Nat.le_refl _, by rw [List.drop_zero]; exact e3, rfl⟩, ?_⟩
  rintro i n H2 ⟨rfl, hi2, B2, k2, acc, rest, R2, g2, hl, hrun, happ⟩
  by_cases c : i < xs.length
  · right
    have hx : xs[i]? = some xs[i] := List.getElem?_eq_getElem c
    have hdrop : xs.drop i = xs[i] :: xs.drop (i + 1) := List.drop_eq_getElem_cons c
    refine ⟨S.1 i B2 H2 g2 R2.bh c, fun H' => ∃ n', n' < xs.length - i ∧ (n' = xs.length - (i + 1) ∧ i + 1 ≤ xs.length ∧ ∃ B' k2 acc rest, Rel K (F.push (.ref D) (.dic .dat) (enc (dcOf acc))) (wipe σ vs) B' H' (wipeS sd vs) k2 ∧ Gr B1 B' ∧ acc.length ≤ i + 1 ∧
      Mn.run (compL p (fun a => Mn.bnd (kf a) fun z => Mn.bnd (f a) fun v => Mn.pur (z, v)) (xs.drop (i + 1))) k2 = some (rest, k') ∧ acc ++ rest = ps), fun H' h => h, fun v H3 y => ?_⟩
    obtain ⟨B3, rel3, g3, gh3, _, nb3, rv⟩ := S.2.2 i B2 H2 v H3 xs[i] g2 R2.bh y hx
    have R3 := rel3 (F.push (.ref D) (.dic .dat) (enc (dcOf acc))) (wipe σ vs) (wipeS sd vs) k2 R2
    refine hg xs[i] _ (wipe σ vs) B3 H3 k2 v R3 rv _ fun σ2 R4 hw => ⟨?_, ?_⟩
    · rw [hw vs his, wipe_wipe]
    · rw [hdrop, compL_cons] at hrun
      obtain ⟨b, k3, e4, e5⟩ := bnd_some hrun
      refine ht xs[i] _ σ2 B3 H3 k2 R4 b k3 e4 _ fun B5 H5 R5 g5 => ?_
      have back : ∀ {F' B6 H6 k6}, Rel K F' σ2 B6 H6 (sd1 xs[i]) k6 → Rel K F' (wipe σ vs) B6 H6 (wipeS sd vs) k6 := fun {F' B6 H6 k6} R6 => by
        have z := (R6.le (hle xs[i])).wiped vs
        have w1 : wipe σ2 vs = wipe σ vs := by rw [hw vs his, wipe_wipe]
        rw [w1, wipeS_wipeS] at z
        exact z
      cases b with
      | false =>
        rw [if_neg Bool.false_ne_true]
        exact ⟨_, by omega, rfl, c, B5, k3, acc, rest, back R5, (g2.trans g3).trans g5, by omega, e5, happ⟩
      | true =>
        rw [if_pos rfl]
        obtain ⟨y1, k4, e6, e7⟩ := bnd_some e5
        obtain ⟨ys, k5, e8, e9⟩ := bnd_some e7
        obtain ⟨rfl, rfl⟩ := pur_some e9
        obtain ⟨z1, k6, f1, f2⟩ := bnd_some e6
        obtain ⟨v1, k7, f3, f4⟩ := bnd_some f2
        obtain ⟨rfl, rfl⟩ := pur_some f4
        refine hk xs[i] _ σ2 B5 H5 k3 R5 z1 k6 f1 _ fun wk B6 H6 R6 g6 r6 => ?_
        refine he xs[i] _ σ2 B6 H6 k6 R6 v1 _ f3 _ fun w B7 H7 R7' g7 r7 => ?_
        have R7 := back R7'
        obtain ⟨fp, ow, nd, hf, q7⟩ := R7.top
        obtain ⟨D2, ks, vacc, dsx, ea, ed, rfl, hlen2, hD2, ra⟩ := ow_dicd.mp ow
        cases ea
        rw [enc_dc] at ed; cases ed
        obtain ⟨ws, ew, rw2⟩ := dc_put (z := z1) r7 ra
        have l0 := dcOf_len acc
        have l1 : ((dkl (dcOf acc).l).zip vacc).length = (dcOf acc).l.length := by rw [List.length_zip, ← ra.len2, Nat.min_self]; unfold dkl; rw [List.length_map]
        have sl1 : 100000 < sizeLine := by decide
        have hb := (hf D (List.mem_singleton.mpr rfl)).1
        have R8 := (q7 B7 (upd H7 D (.dK ((dkl (putD (dcOf acc).l z1 v1)).zip ws))) (fun a u na e => by rw [upd_ne (fun z => na (List.mem_singleton.mpr z))]; exact e) (Gr.refl _) (R7.bh.mut hb) fun a u e e0 => by rw [e] at e0; cases e0).2.1 (.ref D) (.dic .dat) (enc (dcOf (acc ++ [(z1, v1)]))) [D]
          (ow_dicd.mpr ⟨D, _, ws, _, rfl, by rw [dcOf_snoc]; exact enc_dc _, rfl, rw2.len2, upd_same, rw2⟩) (by simp) fun a m => ⟨(hf a m).1, .inl m⟩
        rw [Rp.str_inv r6]
        refine ⟨_, .inr z1, rfl, hD2, by omega, _, by omega, rfl, c, B7, _, acc ++ [(z1, v1)], ys, by rw [ew]; exact R8, (((g2.trans g3).trans g5).trans g6).trans g7, by rw [List.length_append]; simp; omega, e8, by rw [← happ, List.append_assoc]; rfl⟩
  · left
    have ei : i = xs.length := by omega
    subst ei
    rw [List.drop_length, compL_nil] at hrun
    obtain ⟨rfl, rfl⟩ := pur_some hrun
    rw [List.append_nil] at happ
    subst happ
    refine ⟨S.2.1 _ B2 H2 g2 R2.bh rfl, q (.ref D) B2 H2 (R2.unwipe R1 rfl g2 hv) (g1.trans g2)⟩
end
end ON

set_option Elab.async false
set_option linter.all false
set_option maxRecDepth 100000
set_option maxHeartbeats 1000000
/-! N36: tuples cut and put together, dict of pairs. -/
namespace ON
open PySem PySem.Spec PyProof.Rows L2
section
variable {K : PySem.W.Frag} {m : Type → Type} [Mn m] {α β γ τ τ' l ρ : Type} {sd : List SD} {ta tb te tk ti td ty tv : TE} {W : Wr} {post : τ → List SD} {postL : l → List SD} {ts tu : TS} {tl th : TO}
theorem whole_cut {α : Type} {xs : List α} {lo hi : Option Int} (h1 : HT.sIx xs.length 0 lo = 0) (h2 : HT.sIx xs.length xs.length hi = xs.length) : cutL xs lo hi = xs := by
  unfold cutL
  rw [h1, h2, List.drop_zero, Nat.sub_zero, List.take_length]
/-- a cut of a tuple, told of its items -/
theorem slA_run {F : Fr} {σ : L2.St} {B H : Hp} {k : Int} {v : V} {ds : List D} {lo hi : Option Int} {Q : VK} (R : Rel K F σ B H sd k) (r : Rp K B v (.tup ds)) (q : ∀ v B' H', Rel K F σ B' H' sd k → Gr B B' → Rp K B' v (.tup (cutL ds lo hi)) → Q v H') : rSlA K v lo hi H Q := by
  obtain ⟨p, vs, rfl, hp, hs⟩ := Rp.tup_inv r
  have hl := hs.len
  refine ⟨p, vs, rfl, R.bh.sqT hp, fun hw => ?_, fun hw p0 h0 => ?_⟩
  · refine q _ B H R (Gr.refl B) ?_
    rw [hl] at hw
    rw [whole_cut hw.1 hw.2]; exact r
  · obtain ⟨R2, g2⟩ := R.data (o := .tup (cutV vs lo hi)) h0
    exact q (.ref p0) _ _ R2 g2 (.tup (.inl (.inl upd_same)) ((hs.cut lo hi).gr g2))
theorem em_sliceT [Enc α] {x : m (Tl α)} {y z : m (Option Int)} (h : EvM K te sd x) (hl : EvO K tl sd y) (hh : EvO K th sd z) : EvM K (tSl (rSlA K) te tl th) sd (Mn.bnd x fun xs => Mn.bnd y fun lo => Mn.bnd z fun hi => Mn.pur (⟨cutL (Tl.l xs) lo hi⟩ : Tl α)) := fun F σ B H k R b k' e Q q => by
  obtain ⟨xs, k1, e1, e2⟩ := bnd_some e
  obtain ⟨lo, k2, e3, e4⟩ := bnd_some e2
  obtain ⟨hi, k3, e5, e6⟩ := bnd_some e4
  obtain ⟨rfl, rfl⟩ := pur_some e6
  refine h F σ B H k R xs k1 e1 _ fun v B1 H1 R1 g1 r1 => ?_
  refine hl F σ B1 H1 k1 R1 lo k2 e3 _ fun B2 H2 R2 g2 => ?_
  refine hh F σ B2 H2 k2 R2 hi _ e5 _ fun B3 H3 R3 g3 => ?_
  have r3 : Rp K B3 v (.tup (xs.l.map enc)) := r1.gr (g2.trans g3)
  refine slA_run R3 r3 fun u B4 H4 R4 g4 r4 => q u B4 H4 R4 (((g1.trans g2).trans g3).trans g4) ?_
  rw [← cutL_map] at r4; exact r4
theorem eo_int {i : Int} (h : EvM K te sd (Mn.pur i : m Int)) : EvO K (tPart te) sd (Mn.pur (some i) : m (Option Int)) := fun F σ B H k R a k' e Q q => by
  obtain ⟨rfl, rfl⟩ := pur_some e
  exact h F σ B H _ R i _ (Mn.run_pur i _) _ fun v B1 H1 R1 g1 r1 => ⟨i, Rp.int_inv r1, q B1 H1 R1 g1⟩
/-- a cut of a tuple of so many items -/
theorem em_sliceF [Enc α] [Enc β] {x : m α} {lo hi : Option Int} (ga : α → List D) (f : α → β) (ha : ∀ a, enc a = .tup (ga a)) (hb : ∀ a, enc (f a) = .tup (cutL (ga a) lo hi)) (h : EvM K te sd x) (hl : EvO K tl sd (Mn.pur lo : m (Option Int))) (hh : EvO K th sd (Mn.pur hi : m (Option Int))) : EvM K (tSl (rSlA K) te tl th) sd (Mn.bnd x fun a => Mn.pur (f a)) := fun F σ B H k R b k' e Q q => by
  obtain ⟨a, k1, e1, e2⟩ := bnd_some e
  obtain ⟨rfl, rfl⟩ := pur_some e2
  refine h F σ B H k R a _ e1 _ fun v B1 H1 R1 g1 r1 => ?_
  refine hl F σ B1 H1 _ R1 lo _ (Mn.run_pur lo _) _ fun B2 H2 R2 g2 => ?_
  refine hh F σ B2 H2 _ R2 hi _ (Mn.run_pur hi _) _ fun B3 H3 R3 g3 => ?_
  have r3 := r1.gr (g2.trans g3)
  rw [ha] at r3
  refine slA_run R3 r3 fun u B4 H4 R4 g4 r4 => q u B4 H4 R4 (((g1.trans g2).trans g3).trans g4) ?_
  rw [hb]; exact r4
/-- tuples of any length put together -/
theorem em_catTl [Enc α] {x y : m (Tl α)} (h1 : EvM K ta sd x) (h2 : EvM K tb sd y) : EvM K (tOp (rCatA K) ta tb) sd (Mn.bnd x fun a => Mn.bnd y fun b => gd (a.l.length + b.l.length ≤ 100000) (Mn.pur (⟨a.l ++ b.l⟩ : Tl α))) :=
  em_op h1 h2 fun a b F σ B H sd k R va vb ra rb c k' e Q q => by
    obtain ⟨hg, e2⟩ := gd_some e
    obtain ⟨rfl, rfl⟩ := pur_some e2
    have ra' : Rp K B va (.tup (a.l.map enc)) := ra
    have rb' : Rp K B vb (.tup (b.l.map enc)) := rb
    obtain ⟨p, vs, rfl, hp, hs⟩ := Rp.tup_inv ra'
    obtain ⟨p2, vs2, rfl, hp2, hs2⟩ := Rp.tup_inv rb'
    have l1 : vs.length = a.l.length := by rw [hs.len, List.length_map]
    have l2 : vs2.length = b.l.length := by rw [hs2.len, List.length_map]
    have sl : 100000 ≤ sizeLine := by decide
    refine ⟨p, p2, vs, vs2, rfl, rfl, R.bh.sqT hp, R.bh.sqT hp2, by omega, fun z => ?_, fun _ z => ?_, fun _ _ q0 hq => ?_⟩
    · subst z
      have e : a.l = [] := List.length_eq_zero_iff.mp l1.symm
      refine q _ B H R (Gr.refl B) ?_
      show Rp K B _ (.tup ((a.l ++ b.l).map enc))
      rw [e, List.nil_append]; exact rb'
    · subst z
      have e : b.l = [] := List.length_eq_zero_iff.mp l2.symm
      refine q _ B H R (Gr.refl B) ?_
      show Rp K B _ (.tup ((a.l ++ b.l).map enc))
      rw [e, List.append_nil]; exact ra'
    · obtain ⟨R2, g2⟩ := R.data (o := .tup (vs ++ vs2)) hq
      refine q (.ref q0) _ _ R2 g2 ?_
      show Rp K _ _ (.tup ((a.l ++ b.l).map enc))
      rw [List.map_append]
      exact .tup (.inl (.inl upd_same)) (Rps.appd (hs.gr g2) (hs2.gr g2))
/-! ### the forms that are printed -/
theorem em_inVV [Enc α] {x : m Str} {y : m (Dc Str α)} (h1 : EvM K te sd x) (h2 : EvM K td sd y) : EvM K (tOp (rInV false) te td) sd (Mn.bnd x fun z => Mn.bnd y fun c => Mn.pur (c.l.lookup z).isSome) := em_inV (neg := false) h1 h2
theorem em_ninVV [Enc α] {x : m Str} {y : m (Dc Str α)} (h1 : EvM K te sd x) (h2 : EvM K td sd y) : EvM K (tOp (rInV true) te td) sd (Mn.bnd x fun z => Mn.bnd y fun c => Mn.pur (!(c.l.lookup z).isSome)) := em_inV (neg := true) h1 h2
theorem em_inOO [Enc α] {i : Nat} {c : Dc Str α} {x : m Str} (hi : sd[i]? = some (.own (.dic .dat) (enc c))) (h1 : EvM K te sd x) : EvM K (tOp (rInV false) te (tVar i)) sd (Mn.bnd x fun z => Mn.pur (c.l.lookup z).isSome) := em_inO (neg := false) hi h1
theorem em_ninOO [Enc α] {i : Nat} {c : Dc Str α} {x : m Str} (hi : sd[i]? = some (.own (.dic .dat) (enc c))) (h1 : EvM K te sd x) : EvM K (tOp (rInV true) te (tVar i)) sd (Mn.bnd x fun z => Mn.pur (!(c.l.lookup z).isSome)) := em_inO (neg := true) hi h1
theorem es_dputP [Enc α] {i : Nat} {c : Dc Str α} {y : m Str} {x : m α} {f : Dc Str α → m (Fl τ l ρ)} [Rt ρ] (hi : sd[i]? = some (.own (.dic .dat) (enc c))) (hv : EvM K tv sd x) (hy : EvM K ty sd y) (hf : ∀ d : Dc Str α, EvS K W tu (sd.set i (.own (.dic .dat) (enc d))) post postL (f d)) :
    EvS K W (tSeq (sDPut (tVar i) ty tv) tu) sd post postL (Mn.bnd x fun a => Mn.bnd y fun z => gd (c.l.length < 100000) (Mn.bnd (Mn.pur (dcP c z a)) fun d => f d)) := fun F σ B H k R r k' e D q => by
  refine es_dput hi hv hy hf F σ B H k R r k' ?_ D q
  obtain ⟨a, k1, e1, e2⟩ := bnd_some e
  obtain ⟨z, k2, e3, e4⟩ := bnd_some e2
  obtain ⟨hl, e5⟩ := gd_some e4
  obtain ⟨d, k3, e6, e7⟩ := bnd_some e5
  obtain ⟨rfl, rfl⟩ := pur_some e6
  rw [Mn.run_bnd, e1]
  show Mn.run (Mn.bnd y _) k1 = _
  rw [Mn.run_bnd, e3]
  show Mn.run (gd _ _) _ = _
  unfold gd
  rw [if_pos hl]; exact e7
/-! ### a dict of pairs -/
def rDictP (K : PySem.W.Frag) : List V → Hp → VK → Prop := fun xs H Q => ∃ (a : Addr) (ps : List Addr) (kvs : List (Key × V)), xs = [.ref a] ∧ SqL K H a (ps.map V.ref) ∧ Paired (fun p kv => SqT K H p [kV kv.1, kv.2]) ps kvs ∧ ∀ p, H p = none → Q (.ref p) (upd H p (.dK (mergeK [] kvs)))
theorem cr_dictP {X : Cx} (hc : X.calm = true) : CallR X (.type "dict") (rDictP X.K) := call_dictP hc
theorem prs_of [Enc α] {B H : Hp} (hB : Gr B H) : ∀ {xs : List (Str × α)} {vs : List V}, Rps K B vs (xs.map enc) → ∃ ps us, vs = ps.map V.ref ∧ Paired (fun p kv => SqT K H p [kV kv.1, kv.2]) ps ((dkl xs).zip us) ∧ Rps K B us (dvl xs)
  | [], vs, h => by cases h; exact ⟨[], [], rfl, .nil, .nil⟩
  | (z, a) :: xs, vs, h => by
    rw [List.map_cons] at h
    cases h with
    | @cons v vs _ _ hv hs =>
    obtain ⟨ps, us, rfl, hp, hu⟩ := prs_of hB hs
    have hv' : Rp K B v (.tup [.str z, enc a]) := hv
    obtain ⟨p, ws, rfl, hq, hw⟩ := Rp.tup_inv hv'
    cases hw with | cons h1 hw => cases hw with | cons h2 hw =>
      cases hw
      rw [Rp.str_inv h1] at hq
      exact ⟨p :: ps, _ :: us, rfl, .cons (hB.sqT hq) hp, .cons h2 hu⟩
theorem merge_of [Enc α] {B : Hp} : ∀ (xs : List (Str × α)) (us : List V) (c : List (Str × α)) (vs : List V), Rps K B us (dvl xs) → Rps K B vs (dvl c) → ∃ ws, mergeK ((dkl c).zip vs) ((dkl xs).zip us) = (dkl (xs.foldl (fun c p => putD c p.1 p.2) c)).zip ws ∧ Rps K B ws (dvl (xs.foldl (fun c p => putD c p.1 p.2) c))
  | [], us, c, vs, h, hc => by
    cases h
    exact ⟨vs, rfl, hc⟩
  | (z, a) :: xs, us, c, vs, h, hc => by
    cases h with
    | @cons u us _ _ hu hs =>
    obtain ⟨ws, e, r⟩ := dc_put (z := z) hu hc
    obtain ⟨w2, e2, r2⟩ := merge_of xs us (putD c z a) ws hs r
    refine ⟨w2, ?_, r2⟩
    rw [List.foldl_cons, ← e2, ← e]; rfl
theorem ef_dictP [Enc α] {x : m (List (Str × α))} (h : EvM K te sd x) : EvF K (.dic .dat) (tCB (rDictP K) (tCons te tNil)) sd (Mn.bnd x fun ps => Mn.pur (dcOf ps)) := fun F σ B H k R c k' e Q q => by
  obtain ⟨xs, k1, e1, e2⟩ := bnd_some e
  obtain ⟨rfl, rfl⟩ := pur_some e2
  refine h F σ B H k R xs _ e1 _ fun v B1 H1 R1 g1 r1 => ?_
  obtain ⟨p, vs, rfl, hp, hs⟩ := Rp.lst_inv r1
  obtain ⟨ps, us, rfl, hpr, hu⟩ := prs_of R1.bh hs
  obtain ⟨ws, ew, rw2⟩ := merge_of xs us [] [] hu .nil
  refine ⟨p, ps, _, rfl, SqL.of (R1.bh _ _ hp), hpr, fun d hd => ?_⟩
  have e0 : mergeK [] ((dkl xs).zip us) = (dkl (dcOf xs).l).zip ws := ew
  rw [e0]
  exact q _ B1 _ (R1.newD (ks := dkl (dcOf xs).l) (vs := ws) (ds := dvl (dcOf xs).l) hd rw2.len2 rw2) g1
end
end ON

set_option Elab.async false
set_option linter.all false
set_option maxRecDepth 100000
set_option maxHeartbeats 1000000
/-! N37: a name bound to a dict comprehension; a list of two unpacked. -/
namespace ON
open PySem PySem.Spec PyProof.Rows L2
section
variable {X : Cx}
theorem ps_setDc {i : Nat} {y : Str} {py : Pos} {kx vx tg it : Expr} {ifs : List Expr} {sc : Scope} {own : List (Str × Nat)} {pos sp : Pos} {wi : TI} {g : TG} {tt : TT} {tk tv : TE} (hc : X.calm = true) (hN : X.N.Nodup) (hy : X.N[i]? = some y) (hl : X.env.scope.names.lookup y = some .local)
    (hw : swapsWith (.DictComp kx vx [⟨tg, it, ifs, 0⟩] sc pos) (some (.Name y py)) sp.line X.env = pure true) (hi : PI X tg it wi) (ok : BlkOk X.N X.env.scope sc own)
    (hg : ∀ s H C cl fp, PG (X.blk s H sc (compEnvC sc cl C X.env) fp) tg g) (ht : ∀ s H C cl fp, PTs (X.blk s H sc (compEnvC sc cl C X.env) fp) ifs tt)
    (hk : ∀ s H C cl fp, PE (X.blk s H sc (compEnvC sc cl C X.env) fp) kx tk) (hv : ∀ s H C cl fp, PE (X.blk s H sc (compEnvC sc cl C X.env) fp) vx tv) (hs : ∀ x, foldedSetIterable it X.env x = pure x := by intro _; rfl) :
    PS X (.Assign [.Name y py] (.DictComp kx vx [⟨tg, it, ifs, 0⟩] sc pos) sp) (tAsg (tDc wi g tt tk tv (own.map (·.2))) (gName i)) := by
  refine ⟨fun pins s σ H D I h => ?_⟩
  rw [exec_Assign_Name_used _ _ _ _ hw]
  refine wpAny_bind (wpAny_standAt (wpAny_bind ?_))
  show wpAny _ X.A (do let _ ← comprehension (.DictComp kx vx [⟨tg, it, ifs, 0⟩] sc pos) sc X.env (firstIterPos [⟨tg, it, ifs, 0⟩] pos) newDict false (eval it X.env) (some (assign (.Name y py) X.env))) _ _ s
  have h2 : tDc wi g tt tk tv (own.map (·.2)) σ H (fun x H1 => gName i x σ H1 D.nx) := h
  refine wpAny_bind (thn (dc_core (Qf := fun _ z => SP X pins D .next z) hc hN I hi ok hg ht hk hv hs h2 fun L C z n H2 I2 q hn f => ?_) fun _ z hq => wpAny_pure (wpAny_pure hq))
  show wpAny _ _ (assign (.Name y py) X.env (.ref L)) _ _ _
  refine wpAny_assign_Name (store_ok2 (v := V.ref L) I2 hN hy (.inl hl) rfl (fun s2 I3 ⟨a, sb, ha⟩ => ?_) (.inr hl))
  obtain ⟨f0, f1, f2, f3, f4, f5⟩ := f
  have ne : C ≠ a := by
    rcases ha with z | z
    · rw [z]; exact f1
    · exact fun e => f4 y a z e.symm
  exact ⟨n, hn.sameBut sb ne, fun h3 s3 => ⟨_, H2, I3.turned (t' := s2.toks) (fun b o hb e => (s3.2 b hb).trans e) f0 f1 f3 f4 f5, q⟩⟩
theorem swD_true {kx vx : Expr} {gs : List Comprehension} {sc : Scope} {pos py : Pos} {y : Str} {l : Nat} {env : Env} (hk : env.scope.kind = .function) (hy : env.scope.names.lookup y = some .local) (hl : (py.line == pos.line) = true)
    (ha : (sc.names.any fun (n, k) => n == y && (k == .local || k == .cell)) = false) : swapsWith (.DictComp kx vx gs sc pos) (some (.Name y py)) l env = pure true := by
  have k1 : env.kindOf y = some .local := hy
  have k2 : env.blockKind = .function := by unfold Env.blockKind; rw [hk]; rfl
  unfold swapsWith
  simp only [k2, k1, ha, Expr.pos, hl]
  rfl
/-- a dict made by a comprehension, locked, under a name -/
def tLkA (t : TE) (g : TG) : TS := tAsg (tLkE t) g
end
/-! ### a list of two unpacked -/
structure L2L (α : Type) where
  a : α
  b : α
instance {α : Type} [Enc α] : Enc (L2L α) := ⟨fun x => .lst [enc x.a, enc x.b]⟩
def l2 {α : Type} : List α → Option (L2L α)
  | [a, b] => some ⟨a, b⟩
  | _ => none
theorem l2_ok {α : Type} [Enc α] : ∀ (xs : List α) (y : L2L α), l2 xs = some y → enc xs = enc y
  | [], _, h => by cases h
  | [_], _, h => by cases h
  | [a, b], y, h => by cases h; rfl
  | _ :: _ :: _ :: _, _, h => by cases h
section
variable {K : PySem.W.Frag} {α : Type} {sd : List SD}
theorem eg_l2 [Enc α] {i j : Nat} {p : L2L α} : EvG K (gUnl K 2 (gCons (gName i) (gCons (gName j) gNil))) sd p ((sd.set i (.dat (enc p.a))).set j (.dat (enc p.b))) [i, j] := fun F σ B H k v R r Q q => by
  obtain ⟨a, xs, rfl, hp, hs⟩ := Rp.lst_inv r
  cases hs with | cons h1 hs => cases hs with | cons h2 hs =>
    cases hs
    refine ⟨a, _, rfl, .of (R.bh _ _ hp), rfl, _, _, rfl, _, _, rfl, rfl, ?_⟩
    refine q _ ((R.setDat h1).setDat h2) fun vs h => ?_
    rw [wipe_set (h j (by simp)), wipe_set (h i (by simp))]
end
end ON
namespace ON
open PySem PySem.Spec PyProof.Rows L2
/-! ### a dict in a slot is data from here on -/
section
variable {X : Cx} {K : PySem.W.Frag} {m : Type → Type} [Mn m] {τ l ρ : Type} {sd : List SD} {W : Wr} {post : τ → List SD} {postL : l → List SD} {ts tu : TS}
def tLkS (i : Nat) (t : TS) : TS := fun D σ H => ∃ d u, σ[i]? = some (some (.ref d)) ∧ H d = some u ∧ Mut (some u) ∧ ∀ od, t D σ (upd H d (.frz od u))
theorem pss_lk {st : List Stmt} {t : TS} {i : Nat} (h : PSs X st t) : PSs X st (tLkS i t) := by
  refine ⟨fun pins s σ H D I q => ?_⟩
  obtain ⟨d, u, _, hd, mu, z⟩ := q
  obtain ⟨od, I2⟩ := I.lock hd mu
  exact h.run pins s σ _ D I2 (z od)
theorem es_lkS [Rt ρ] {i : Nat} {d : D} {x : m (Fl τ l ρ)} (hi : sd[i]? = some (.own (.dic .dat) d)) (h : EvS K W ts (sd.set i (.dat d)) post postL x) : EvS K W (tLkS i ts) sd post postL x := fun F σ B H k R f k' e D q => by
  obtain ⟨o, f0, ho, ⟨v0, rfl, w0⟩, nd, hf, q1⟩ := R.slot hi
  obtain ⟨p, ks, vs, ds, rfl, ed, rfl, hl, hh, rs⟩ := ow_dicd.mp w0
  refine ⟨p, _, ho, hh, trivial, fun od => ?_⟩
  have hb : B p = none := (hf p (List.mem_singleton.mpr rfl)).1
  have g : Gr B (upd B p (.frz od (.dK (ks.zip vs)))) := Gr.new hb
  have gH : Gr (upd B p (.frz od (.dK (ks.zip vs)))) (upd H p (.frz od (.dK (ks.zip vs)))) := fun b u e => by
    by_cases c : b = p
    · subst c; rw [upd_same] at e ⊢; exact e
    · rw [upd_ne c] at e ⊢; exact R.bh b u e
  have s := q1 (some (.ref p)) (.dat d) [] (upd B p (.frz od (.dK (ks.zip vs)))) (upd H p (.frz od (.dK (ks.zip vs)))) ⟨rfl, _, rfl, by rw [ed]; exact .dic hl upd_same (rs.gr g)⟩ (by simp) (fun b m => (nomatch m))
    (fun b u nb e => by rw [upd_ne (fun z => nb (List.mem_singleton.mpr z))]; exact e) g gH (fun b u e e0 => by
      by_cases c : b = p
      · exact .inl (List.mem_singleton.mpr c)
      · rw [upd_ne c, e0] at e; cases e)
  rw [σ_set_self ho] at s
  exact h F σ _ _ k s f k' e D (q.gr g)
end
/-! ### a text and a number in the braces -/
def okSI (p : Str × Int) : Prop := (reprText p.1).length ≤ 60 ∧ p.2.natAbs < 10 ^ 20
instance : DecidablePred okSI := fun p => by unfold okSI; exact inferInstance
def isSI (K : PySem.W.Frag) (H : Hp) (v : V) : Prop := ∃ a t j, v = .ref a ∧ SqT K H a [.str t, .int j] ∧ okSI (t, j)
theorem ho_isSI {K : PySem.W.Frag} : ∀ (a : Str × Int) (B H : Hp) (v : V), okSI a → Gr B H → Rp K B v (enc a) → isSI K H v := fun a B H v h g r => by
  obtain ⟨p, vs, rfl, hp, hs⟩ := Rp.tup_inv r
  cases hs with | cons h1 hs => cases hs with | cons h2 hs =>
    cases hs
    rw [Rp.str_inv h1, Rp.int_inv h2] at hp
    exact ⟨p, a.1, a.2, rfl, g.sqT hp, h⟩
theorem fmt_isSI {X : Cx} : ∀ (pins : List (Addr × Obj)) (σ : L2.St) (H : Hp) (s : Shared) (v : V) (u : Value), Inv X pins σ H s → isSI X.K H v → RelV v u → F_row.Fmt X.prog X.w s.heap u := fun pins σ H s v u I hi r => by
  obtain ⟨a, t, j, rfl, ht, hl⟩ := hi
  cases r
  intro A E s2 Q hu hk q
  obtain ⟨its, rv, ⟨o, ho, hc, n, hd⟩, _⟩ := I.tuple ht
  cases rv with | cons r1 rv => cases rv with | cons r2 rv =>
    cases rv
    obtain ⟨t1, rfl⟩ := r1
    obtain ⟨t2, rfl⟩ := r2
    have l1 : (reprText t).length ≤ 60 := hl.1
    have hj : j.natAbs < 10 ^ 40 := Nat.lt_trans hl.2 (by decide)
    have l2 : (Str.ofString (toString j)).length ≤ 41 := len40 hj
    have hT := fmt_text [reprText t, Str.ofString (toString j)]
    rw [piled_cons, piled_cons, piled_nil] at hT
    refine fmt_tuple hu (hk _ _ ho) hc hd (.cons (ReprIs.str _ t1 (Nat.le_trans l1 (by decide))) (.cons (ReprIs.int t2 (log40 hj)) .nil)) (Nat.le_trans hT (Nat.le_trans (show _ ≤ 1000 by omega) (by decide))) fun m u tk hm => q m u tk ?_
    have hm2 := Nat.le_trans hm (Nat.add_le_add_right hT 5)
    omega
end ON

set_option Elab.async false
set_option linter.all false
set_option maxRecDepth 100000
set_option maxHeartbeats 2000000
/-! N38: a state begun with names in two lots -/
namespace ON
open PySem PySem.Spec PyProof.Rows L2
def bgM5 (x2 : List Int → Sm Str) (x3 : List Int → Str → Sm Int) (x4 : List Int → Str → Int → Sm (List Str)) (x5 : List Int → Str → Int → List Str → Sm (List Str)) (c : List Int) : Sm (List Str) := Mn.bnd (x2 c) fun r => Mn.bnd (x3 c r) fun a => Mn.bnd (x4 c r a) fun l => x5 c r a l
def tBg5 (te2 te3 te4 te5 : TE) (i2 i3 i4 : Nat) : TS := tSeq (tAsg (tDisp [(tC (.str "cells"), tVar 0), (tC (.str "at"), tC (.int 0))]) (gName 1)) (tSeq (tAsg te2 (gName i2)) (tSeq (tAsg te3 (gName i3)) (tSeq (tAsg te4 (gName i4)) (tSeq (sDPut (tVar 1) (tC (.str "names")) te5) (tSeq (tRet (tVar 1)) tNext)))))
theorem run_begun5 {K : PySem.W.Frag} {te2 te3 te4 te5 : TE} {i2 i3 i4 n : Nat} {x2 : List Int → Sm Str} {x3 : List Int → Str → Sm Int} {x4 : List Int → Str → Int → Sm (List Str)} {x5 : List Int → Str → Int → List Str → Sm (List Str)} {N : List Str} (hN : N.length = n + 2) (hi2 : i2 ≠ 1) (hi3 : i3 ≠ 1) (hi4 : i4 ≠ 1)
    (h2 : ∀ c, EvM K te2 (sdA n c) (x2 c)) (h3 : ∀ c r, EvM K te3 ((sdA n c).set i2 (.dat (enc r))) (x3 c r)) (h4 : ∀ c r a, EvF K (.lst .dat) te4 (((sdA n c).set i2 (.dat (enc r))).set i3 (.dat (enc a))) (x4 c r a))
    (h5 : ∀ c r a l, EvF K (.lst .dat) te5 ((((sdA n c).set i2 (.dat (enc r))).set i3 (.dat (enc a))).set i4 (.dat (enc l))) (x5 c r a l))
    (tot : ∀ c : List Int, c.length ≤ 1000 → ∃ ns k, bgM5 x2 x3 x4 x5 c 0 = some (ns, k)) {vs : List V} {H : Hp} {Q : VK} {E : XK} (h : spB K (fun c ns k => bgM5 x2 x3 x4 x5 c 0 = some (ns, k)) vs H Q E) :
    tBg5 te2 te3 te4 te5 i2 i3 i4 { nx := fun _ H' => Q .non H', rt := Q } (L2.start N vs) H := by
  obtain ⟨B, a, c, rfl, hl, g, hq, q⟩ := h
  obtain ⟨ns, k, hb⟩ := tot c hl
  have hb0 := hb
  unfold bgM5 at hb
  obtain ⟨r, k2, e2, e⟩ := bnd_some (m := Sm) hb
  obtain ⟨z, k3, e3, e4⟩ := bnd_some (m := Sm) e
  obtain ⟨l4, k4, e5, e6⟩ := bnd_some (m := Sm) e4
  have hst : L2.start N [.ref a] = some (.ref a) :: none :: List.replicate n none := by
    unfold L2.start
    show some (V.ref a) :: List.replicate (N.length - 1) none = _
    rw [hN]; rfl
  rw [hst]
  intro p hp
  refine ⟨_, rfl, upd_same, [(.inr "cells", .ref a), (.inr "at", .int 0)], rfl, (by decide : 2 ≤ 15), ?_⟩
  rw [upd_upd]
  have ek : mergeK [] [((.inr "cells" : Key), V.ref a), (.inr "at", .int 0)] = stKvs (.ref a) 0 none := rfl
  rw [ek]
  show tSeq _ _ _ (some (V.ref a) :: some (V.ref p) :: List.replicate n none) _
  have nb : B p = none := g.back hp
  have gB : Gr B (upd H p (.dK (stKvs (.ref a) 0 none))) := g.mut nb
  have R00 : Rel K ⟨H, B, none, []⟩ (some (V.ref a) :: none :: List.replicate n none) B H (SD.un :: SD.un :: List.replicate n SD.un) 0 := by
    refine ⟨by simp, g, Gr.refl B, fun b o e e0 => ?_, fun b o e _ => e, fun s e => (nomatch e), fun _ => [], fun x cc e => ?_, fun _ _ => rfl, fun _ => .nil, fun _ _ _ m => (nomatch m), fun _ _ m => (nomatch m), fun _ _ m => (nomatch m), fun _ _ m => (nomatch m)⟩
    · have e1 : B b = none := e0
      rw [e] at e1; cases e1
    · have un : ∀ (i : Nat) (d : SD), (SD.un :: SD.un :: List.replicate n SD.un)[i]? = some d → d = .un := fun i d e => by
        match i, e with
        | 0, e => cases e; rfl
        | 1, e => cases e; rfl
        | i + 2, e =>
          have e : (List.replicate n SD.un)[i]? = some d := e
          rw [List.getElem?_replicate] at e
          by_cases c2 : i < n
          · rw [if_pos c2] at e; cases e; rfl
          · rw [if_neg c2] at e; cases e
      cases x with
      | inr j => simp [cell] at e
      | inl i =>
        simp only [cell] at e
        cases h1 : (SD.un :: SD.un :: List.replicate n SD.un)[i]? with
        | none => rw [h1] at e; cases e
        | some d =>
          have := un i d h1
          subst this
          rw [h1] at e
          cases h2 : (some (V.ref a) :: none :: List.replicate n none)[i]? with
          | none => rw [h2] at e; cases e
          | some o => rw [h2] at e; cases e; rfl
  have R0 := R00.begin_ (i := 1) (q := ⟨.run c none, a, none⟩) (k0 := 0) (H' := upd H p (.dK (stKvs (.ref a) 0 none))) rfl hp (Gr.refl B) gB (Gr.new hp) (fun b o e e0 => by rw [e] at e0; cases e0) ⟨nb, upd_same, hq, trivial⟩ (by simp)
  have R0 : Rel K ⟨H, B, some (p, ⟨.run c none, a, none⟩), []⟩ (some (V.ref a) :: some (V.ref p) :: List.replicate n none) B (upd H p (.dK (stKvs (.ref a) 0 none))) (sdA n c) 0 := R0
  refine h2 c _ _ B _ 0 R0 r k2 e2 _ fun v2 B2 H2 R2 g2 r2 => ?_
  refine h3 c r _ _ B2 H2 k2 (R2.setDat r2) z k3 e3 _ fun v3 B3 H3 R3 g3 r3 => ?_
  have R3' := R3.setDat (i := i3) r3
  refine h4 c r z _ _ B3 H3 k3 R3' l4 k4 e5 _ fun v4 B4 H4 R4 g4 => ?_
  obtain ⟨B5, R5, g5, r5⟩ := R4.frzX rfl
  have R5' := R5.setDat (i := i4) r5
  refine h5 c r z l4 _ _ B5 H4 k4 R5' ns k e6 _ fun w B6 H6 R6 g6 => ?_
  obtain ⟨B7, R7, g7, rw7⟩ := R6.frzX rfl
  have s1 : ∀ (σ : L2.St) (x y u : Option V), σ[1]? = some (some (.ref p)) → (((σ.set i2 x).set i3 y).set i4 u)[1]? = some (some (.ref p)) := fun σ x y u hs => by
    rw [List.getElem?_set_ne hi4, List.getElem?_set_ne hi3, List.getElem?_set_ne hi2]; exact hs
  have s0 := s1 (some (V.ref a) :: some (V.ref p) :: List.replicate n none) (some v2) (some v3) (some v4) rfl
  obtain ⟨b5, hh, hq4, hn4⟩ := R7.st _ rfl
  refine ⟨_, s0, p, _, rfl, DPut.k (k := .inr "names") hh (by exact (by decide : 2 < sizeLine)), ?_⟩
  rw [st_putN]
  refine ⟨_, s0, ?_⟩
  refine q p B7 _ ns k a (some w) (((((g2.trans g3).trans g4).trans g5).trans g6).trans g7) (R7.bh.mut b5) (fun b o e => ?_) (fun b o e e0 => R7.bn b o e e0) hp ⟨b5, upd_same, hq4, ?_⟩ hb0
  · rw [upd_ne (ne_of_none e hp)]
    exact R7.fr b o e fun s es z => by
      cases es
      rw [← show p = b from z, hp] at e; cases e
  · exact rw7
end ON

set_option Elab.async false
set_option linter.all false
set_option maxRecDepth 100000
set_option maxHeartbeats 1000000
/-! N39: names in two lots: forty-eight, unlike each other -/
namespace ON
open PySem PySem.Spec PyProof.Rows L2
def bh2 (c : List Int) : Sm Str := (Mn.bnd (Mn.bnd (Mn.bnd (Mn.bnd (Mn.pur (7 : Int)) fun p_156 => m__law_next c none p_156) fun n_157 => gd (-(2 ^ 62) ≤ n_157 ∧ n_157 < 2 ^ 62) (Mn.pur (upTo 0 (Int.toNat n_157) 1))) fun w_163 => gd (List.length w_163 ≤ 100000) (compL (fun (a_158 : Int) => (Mn.pur true)) (fun (a_158 : Int) => (Mn.bnd (Mn.pur ("qzjv" : Str)) fun x_160 => Mn.bnd (Mn.bnd (Mn.pur (4 : Int)) fun p_159 => m__law_next c none p_159) fun y_161 => gd (x_160.length ≤ sizeLine) (Mn.bnd (lift (atI (Array.toList (Str.cps x_160)) y_161)) fun c_162 => Mn.pur (sgn c_162)))) w_163)) fun j_164 => gd ((List.map Str.length j_164).sum + List.length j_164 * Str.length ("" : Str) ≤ 16777216) (Mn.pur (Txt.join ("" : Str) j_164)))
def bh5 (c : List Int) (r : Str) (a : Int) (l : List Str) : Sm (List Str) := (Mn.bnd (Mn.pur l) fun x_189 => Mn.bnd (Mn.bnd (Mn.pur l) fun w_188 => gd (List.length w_188 ≤ 100000) (compL (fun (a_185 : Str) => (Mn.pur true)) (fun (a_185 : Str) => (Mn.bnd (Mn.pur a_185) fun x_186 => Mn.bnd (Mn.pur ("y" : Str)) fun y_187 => gd (x_186.length + y_187.length ≤ sizeLine) (Mn.pur (x_186 ++ y_187)))) w_188)) fun y_190 => gd (List.length x_189 + List.length y_190 ≤ sizeLine) (Mn.pur (x_189 ++ y_190)))
abbrev ok5 (c : List Int) (ns : List Str) (k : Int) : Prop := bgM5 bh2 bg3 bg4 bh5 c 0 = some (ns, k)
def bhF (c : List Int) : Option (List Str × Int) := bgM5 bh2 bg3 bg4 bh5 c 0
theorem bh_ok : beg ok5 bhF := fun _ _ _ h => h
theorem compL_mapS {α β : Type} {p : α → Sm Bool} {g : α → Sm β} {f : α → β} : ∀ xs : List α, (∀ x ∈ xs, p x = Mn.pur true ∧ g x = Mn.pur (f x)) → compL p g xs = Mn.pur (xs.map f)
  | [], _ => by rw [compL_nil]; rfl
  | x :: xs, h => by
    obtain ⟨h1, h2⟩ := h x (.head _)
    rw [compL_cons, h1, pbS]
    show Mn.bnd (g x) _ = _
    rw [h2, pbS, compL_mapS xs fun y hy => h y (.tail _ hy), pbS]; rfl
def signs : List Str := List.map sgn (Array.toList (Str.cps ("mcxgtaqerbvkdunhspjfwlio" : Str)))
/-- the names of a lot: about a sign -/
def lot (a b : Str) : List Str := signs.map fun s => a ++ s ++ b
def lots (a b : Str) : List Str := lot a b ++ (lot a b).map fun s => s ++ ("y" : Str)
theorem lot_len (a b : Str) : (lot a b).length = 24 := by unfold lot signs; rw [List.length_map, List.length_map]; rfl
theorem bh_W (c : List Int) (hc : c.length ≤ 1000) : W (bgM5 bh2 bg3 bg4 bh5 c) 0 fun ns k => 0 ≤ k ∧ k ≤ 100 ∧ ∃ a b : Str, a.length + b.length ≤ 6 ∧ Qz a ∧ Qz b ∧ ns = lots a b := by
  have sz : 100000 < sizeLine := by decide
  unfold bgM5
  refine W.bnd ?_
  unfold bh2
  refine W.bnd (W.bnd (W.bnd (W.bnd (W.pur (W.nx hc (by decide) (by decide) fun n n0 n1 => ?_)))))
  refine W.gd (by omega) (W.pur ?_)
  have hl := upTo_len 0 1 n.toNat
  refine W.gd (by rw [hl]; omega) (W.compL (Q := fun y : Str => y.length = 1 ∧ Qz y) 1 _ _ (fun k x k0 k1 _ => ?_) (by decide) (by decide) fun ys k' h1 h2 h3 h4 => ?_)
  · refine W.bnd (W.pur (W.bnd (W.bnd (W.pur (W.nx hc (by rw [hl] at k1; omega) (by decide) fun r r0 r1 => ?_)))))
    refine W.gd (by decide) (W.bnd ?_)
    have hr : ∃ z, atI (Array.toList (Str.cps ("qzjv" : Str))) r = some z ∧ Qz (sgn z) := by
      have : r = 0 ∨ r = 1 ∨ r = 2 ∨ r = 3 := by omega
      rcases this with rfl | rfl | rfl | rfl <;> exact ⟨_, rfl, by decide +kernel⟩
    obtain ⟨z, hz, hlow⟩ := hr
    exact W.lift hz (W.pur ⟨⟨rfl, hlow⟩, by omega, by omega⟩)
  rw [hl] at h1 h4
  have hs := sum_ones ys fun y hy => (h2 y hy).1
  have hqz : Qz (Txt.join ("" : Str) ys) := Qz.join fun y hy => (h2 y hy).2
  have e0 : Str.length ("" : Str) = 0 := rfl
  refine W.gd (by rw [e0]; omega) (W.pur (W.bnd ?_))
  have hj := join_len ys
  have hjl : (Txt.join ("" : Str) ys).length ≤ 6 := by omega
  unfold bg3
  refine W.bnd (W.bnd (W.bnd (W.pur (W.gd (by omega) (W.pur (W.bnd (W.pur (W.pur (W.nx hc (by omega) (by omega) fun a a0 a1 => ?_)))))))))
  have c3 := cut_two (Txt.join ("" : Str) ys) a a0
  have q1 : (Txt.join ("" : Str) ys).length ≤ sizeLine := by omega
  have h24 : signs.length ≤ 100000 := by decide
  have hx1 : ∀ x ∈ signs, x.length = 1 := by decide +kernel
  have e4 : bg4 c (Txt.join ("" : Str) ys) a = Mn.pur (lot (cutT (Txt.join ("" : Str) ys) none (some a)) (cutT (Txt.join ("" : Str) ys) (some a) none)) := by
    unfold bg4
    simp only [pbS]
    rw [gd_y (p := (List.map sgn (Array.toList (Str.cps ("mcxgtaqerbvkdunhspjfwlio" : Str)))).length ≤ 100000) h24]
    exact compL_mapS _ fun x hx => ⟨rfl, by
      have := hx1 x hx
      simp only [gd_y q1, pbS]
      rw [gd_y (by omega), pbS]
      rw [gd_y (by rw [Str.length_append]; omega)]⟩
  have qa : Qz (cutT (Txt.join ("" : Str) ys) none (some a)) := hqz.cut
  have qb : Qz (cutT (Txt.join ("" : Str) ys) (some a) none) := hqz.cut
  rw [e4]
  generalize cutT (Txt.join ("" : Str) ys) none (some a) = A at c3 qa
  generalize cutT (Txt.join ("" : Str) ys) (some a) none = Bb at c3 qb
  refine W.bnd (W.pur ?_)
  have ll := lot_len A Bb
  have hy1 : ∀ x ∈ lot A Bb, x.length ≤ 7 := fun x hx => by
    obtain ⟨s, hs, rfl⟩ := List.mem_map.mp hx
    have := hx1 s hs
    rw [Str.length_append, Str.length_append]; omega
  have e5 : bh5 c (Txt.join ("" : Str) ys) a (lot A Bb) = Mn.pur (lots A Bb) := by
    unfold bh5
    simp only [pbS]
    rw [gd_y (by rw [ll]; decide), compL_mapS (f := fun s => s ++ ("y" : Str)) (lot A Bb) (fun x hx => ⟨rfl, by
      have := hy1 x hx
      have e1 : ("y" : Str).length = 1 := rfl
      rw [gd_y (by rw [e1]; omega)]⟩), pbS, gd_y (by rw [List.length_map, ll]; decide)]
    rfl
  rw [e5]
  exact W.pur ⟨by omega, by omega, A, Bb, by omega, qa, qb, rfl⟩
theorem bh_tot : ∀ c : List Int, c.length ≤ 1000 → ∃ ns k, bgM5 bh2 bg3 bg4 bh5 c 0 = some (ns, k) := fun c hc => by
  obtain ⟨ns, k, e, _⟩ := bh_W c hc
  exact ⟨ns, k, e⟩
theorem W.begun5 {ρ : Type} [Enc ρ] {c : List Int} {f : List Str → Sm (Fl Empty Empty ρ)} {k : Int} {P : Fl Empty Empty ρ → Int → Prop} (hc : c.length ≤ 1000) (h : ∀ a b k, 0 ≤ k → k ≤ 100 → a.length + b.length ≤ 6 → Qz a → Qz b → W (f (lots a b)) k P) : W (ON.begun bhF c f) k P := by
  obtain ⟨ns, k0, e, h1, h2, a, b, h3, h4, h5, rfl⟩ := bh_W c hc
  obtain ⟨z, k', e2, p⟩ := h a b k0 h1 h2 h3 h4 h5
  refine ⟨z, k', ?_, p⟩
  unfold ON.begun bhF
  rw [if_pos hc, e]
  exact e2
end ON

set_option Elab.async false
set_option linter.all false
set_option maxRecDepth 100000
set_option maxHeartbeats 1000000
/-! N40: defs that are called where nothing is being shown (repr can be told), their calls, repr -/
namespace ON
open PySem PySem.Spec PyProof.Rows L2
variable {P : Program} {w : World} {K : W.Frag} {mg : Str → Option Value} {base : Heap} {CX : CXT} {j k : Nat} {f : Addr} {fd : FuncData} {ps : List Str} {sp : Sp}
structure FnG (P : Program) (w : World) (K : W.Frag) (mg : Str → Option Value) (base : Heap) (CX : CXT) (k : Nat) (f : Addr) (fd : FuncData) (ps : List Str) (sp : Sp) : Prop where
  len : ∀ (vs : List V) (H : Hp) (Q : VK) (E : XK), sp vs H Q E → vs.length = ps.length
  run : ∀ (A : Around) (outer : List Env) (s : Shared) (H : Hp) (args : Args) (us : List Value) (vs : List V) (Q : VK) (E : XK), A.guards = some [] → Room k A → Env0 P w K mg base A outer s H → BindsTo s fd args (ps.zip us) → Vals vs us → sp vs H Q E → codeAny (model P w) A (Code.call (.ref f) args) (CR CX outer P w H s Q E) s
theorem FnG.of (h : FnOk P w K mg base CX k f fd ps sp) : FnG P w K mg base CX k f fd ps sp := ⟨h.len, fun A outer s H args us vs Q E _ => h.run A outer s H args us vs Q E⟩
theorem okG {x qual : Str} {st : Stmt} {N : List Str} (F : Fun K x qual st f fd) (sc : FnScope N ps (defScope st)) (len : ∀ (vs : List V) (H : Hp) (Q : VK) (E : XK), sp vs H Q E → vs.length = ps.length)
    (h : ∀ (cdv : Value) (A : Around) (outer : List Env) (s : Shared) (H : Hp) (vs : List V) (Q : VK) (E : XK), (A.deeper (envOfC qual (defScope st) s.heap.objs.size f cdv)).guards = some [] → Room k (A.deeper (envOfC qual (defScope st) s.heap.objs.size f cdv)) → sp vs H Q E →
      ∃ t, PSs (cxOf CX0 P w K mg base N qual (defScope st) f cdv A outer s H E).nox (defBody st) t ∧ t { nx := fun _ H' => Q V.non H', rt := Q } (L2.start N vs) H) : FnG P w K mg base CX0 (k + 1) f fd ps sp := by
  obtain ⟨oc, od, kV, doc, pm, an, cdv, ct, osl, rfl, hl, hc⟩ := F.ex
  refine ⟨len, fun A outer s H args us vs Q E hg hr h0 hb hv hs => ?_⟩
  have hlen := len vs H Q E hs
  refine Att.call_fn (W.Frag.In.keeps h0.mod.kin fun b o e => (h0.bs b o e).1) (Heap.NoLimit.keeps h0.mod.nolimit fun b o e => (h0.bs b o e).1) hl hc hr.depth hb ?_ (fun s1 c1 => ?_) sc.co sc.gen sc.kind
  · rw [List.all_eq_true]
    rintro ⟨x, u⟩ hm
    have hx := (List.of_mem_zip hm).1
    rcases sc.par x hx with h1 | h1
    · simp only [h1]; rfl
    · simp only [h1]; rfl
  · have I := inv_start (CX := CX0) (E := E) sc hr.hd h0 hlen hv c1
    obtain ⟨t, hp, ht⟩ := h cdv A outer s H vs Q E hg (hr.deeper _) hs
    refine wpAny_mono (hp.nox.run [] s1 _ H _ I ht) (fun fl s2 q => ?_) (fun e s2 q => ?_)
    · have fin : ∀ (v : V) (u : Value) (σ' : L2.St) (H' : Hp), L2.Inv (cxOf CX0 P w K mg base N qual (defScope st) f cdv A outer s H E) [] σ' H' s2 → L2.RelV v u → Q v H' → CR CX0 outer P w H s Q E (.ok (.ret u)) s2 := fun v u σ' H' I2 r2 q2 => by
        show CE outer P w H s Q u s2
        refine ⟨v, H', I2.os, I2.bare, I2.base, I2.hok, r2, q2⟩
      cases fl with
      | next => obtain ⟨σ', H', I2, q2⟩ := q; exact fin .non _ σ' H' I2 rfl q2
      | brk => obtain ⟨σ', H', I2, q2⟩ := q; cases q2
      | cont => obtain ⟨σ', H', I2, q2⟩ := q; cases q2
      | ret u => obtain ⟨v, σ', H', I2, r2, q2⟩ := q; exact fin v u σ' H' I2 r2 q2
    · exact q
/-! ### calls -/
section
variable {X : Cx} {E : XK} {dvs : List V} {ds : List Value}
theorem run_fnG {pins : List (Addr × Obj)} {σ : L2.St} {H : Hp} {s : Shared} {Q : VK} {us : List Value} {vs : List V} (hf : FnG X.prog X.w X.K X.mg X.base CX k f fd ps sp) (hg : X.A.guards = some []) (hr : Room k X.A) (hb : L2.Binds X.K fd ps ds) (hd : Vals dvs ds) (hp : Passes CX X E) (I : L2.Inv X pins σ H s) (hv : Vals vs us) (hs : sp (vs ++ dvs) H Q E) :
    wpAny (model X.prog X.w) X.A (call (.ref f) us) (EP X pins σ Q) X.xe s := by
  have hl := hf.len _ _ _ _ hs
  have l1 := hv.length
  have l2 := hd.length
  refine wpAny_call (codeAny_mono (hf.run X.A X.stack s H ⟨us, []⟩ (us ++ ds) (vs ++ dvs) Q E hg hr I.env0 (hb s us I.kIn (by rw [List.length_append] at hl ⊢; omega)) (hv.append hd) hs) fun r s' h => ?_)
  cases r with
  | error e => exact hp _ _ _ _ _ _ I h
  | ok fl =>
    cases fl with
    | ret u => exact I.after h
    | next => cases h
    | brk => cases h
    | cont => cases h
theorem pe_callG {x : Str} {p pos : Pos} {e : Expr} {es : List Expr} {t : TA} (hf : FnG X.prog X.w X.K X.mg X.base CX k f fd ps sp) (hg : X.A.guards = some []) (hr : Room k X.A) (hx : Gl X x) (hm : X.mg x = some (.ref f)) (hk : W.keepIn X.K (.ref f) = true) (hb : L2.Binds X.K fd ps ds) (hd : Vals dvs ds) (hp : Passes CX X E) (ha : PA X (e :: es) t)
    (h1 : (x == Str.ofString "__debug__") = false := by decide) (h2 : starEach (e :: es) X.env = (false, eval e X.env) :: starEach es X.env := by rfl) (h3 : ((backTo pos (starEach es X.env)).any fun x => x.1) = false := by rfl) : PE X ((Expr.Name x p).Call (e :: es) [] pos) (tCall sp dvs E t) := by
  refine ⟨fun pins s σ H Q I h => ?_⟩
  refine wpAny_Call_Name_kw (ld_glob I hx hm ?_ h1)
  refine W.callWith_K I.kIn hk (thn (ha.run pos pins s σ H _ I h) fun us s1 h4 => ?_) h2 h3
  obtain ⟨vs, H1, I1, hv, q⟩ := h4
  exact ⟨I1.kIn, run_fnG hf hg hr hb hd hp I1 hv q⟩
end
/-! ### the law's own call -/
theorem law_callG {mb : Str → Option Value} {fa a : Addr} {x : Str} {s₁ : Shared} {vs : List Value} {ns : List Int} (hK : K.In s₁.heap) (hG : s₁.heap.Ns mainGlobals mg) (hB : s₁.heap.Ns builtinsNs mb) (hb : ∀ x : Str, x ≠ Str.ofString "__name__" → mb x = bootBuiltins x) (hL : s₁.heap.NoLimit) (hg : s₁.gens = #[])
    (ha : s₁.heap.get? a = some { cls := .type "list", data := .seq vs.toArray }) (hi : IntsAre vs ns) (hn : ns.length ≤ sizeLine) (hr : Room k callerA) (hF : ∀ base : Heap, K.In base → base.Ns mainGlobals mg → FnG P w K mg base CX k fa fd [x] sp) (hbi : ∀ (s : Shared) (u : Value), BindsTo s fd ⟨[u], []⟩ [(x, u)])
    (hs : ∀ H : Hp, Only H → SqL K H a (ns.map V.int) → sp [.ref a] H (fun v _ => v = .bl true) fun _ _ _ => False) (hx : ∀ (H : Hp) (e : Value) (s' : Shared), CX [] H s₁ (fun _ _ _ => False) e s' → False) :
    codeAny (model P w) callerA (Code.call (.ref fa) ⟨[.ref a], []⟩) (fun r s' => r = .ok (.ret (.bool true)) ∧ OldK s₁.heap s'.heap ∧ s'.os = s₁.os ∧ AllBare s'.gens) s₁ := by
  have hv := vals_ints hi
  have main : ∀ H : Hp, Only H → SqL K H a (ns.map V.int) → HOk P w H s₁.heap → (∀ b o, H b = some o → List.lookup b K = none) → (∀ b o, H b = some o → b = a) → codeAny (model P w) callerA (Code.call (.ref fa) ⟨[.ref a], []⟩) (fun r s' => r = .ok (.ret (.bool true)) ∧ OldK s₁.heap s'.heap ∧ s'.os = s₁.os ∧ AllBare s'.gens) s₁ := by
    intro H ho hsq hok hk0 honly
    have dict : ∀ (b : Addr) (m : Str → Option Value), s₁.heap.Ns b m → H b = none := fun b m hm => by
      obtain ⟨o, es, ep, e, d, _⟩ := hm
      cases eH : H b with
      | none => rfl
      | some u =>
        have := honly b u eH
        subst this
        rw [ha] at e
        cases e
        cases d
    have ns' : ∀ (b : Addr) (m : Str → Option Value), s₁.heap.Ns b m → (hidT s₁.heap H).Ns b m := fun b m hm => by
      have h0 := dict b m hm
      obtain ⟨o, es, ep, e, r⟩ := hm
      exact ⟨o, es, ep, hidT_get e h0, r⟩
    have kin : K.In (hidT s₁.heap H) := fun b o e => by
      refine hidT_get (hK b o e) ?_
      cases eH : H b with
      | none => rfl
      | some u => rw [hk0 b u eH] at e; cases e
    have hF' := hF (hidT s₁.heap H) kin (ns' _ _ hG)
    have lim : (hidT s₁.heap H).NoLimit := by
      obtain ⟨mc, h1, h2⟩ := hL
      exact ⟨mc, ns' _ _ h1, h2⟩
    have env : Env0 P w K mg (hidT s₁.heap H) callerA [] s₁ H := ⟨rfl, ⟨kin, ns' _ _ hG, ⟨mb, ns' _ _ hB, hb⟩, lim⟩, fun b o e => of_hidT e, by rw [hidT_size]; exact Nat.le_refl _, by simp only [Heap.FunFrames], (fun b h => nomatch h), hok, AllBare.of_eq hg⟩
    refine codeAny_mono (hF'.run callerA [] s₁ H ⟨[.ref a], []⟩ [.ref a] [.ref a] _ _ rfl hr env (hbi s₁ (.ref a)) (.cons rfl .nil) (hs H ho hsq)) fun r s' h => ?_
    cases r with
    | error e => exact (hx H e s' h).elim
    | ok fl =>
      cases fl with
      | next => cases h
      | brk => cases h
      | cont => cases h
      | ret u =>
        obtain ⟨v, H', h1, h2, un, hok', rv, rfl⟩ := h
        refine ⟨by rw [show u = .bool true from rv], OldK.of_keep fun b o e => ?_, h1, h2⟩
        rcases ho b with h0 | ⟨ob, xs, h0⟩
        · exact un.keep b o e h0 (fun m => by cases m) (fun m => by cases m)
        · have h3 := hok' b _ (un.frzs b ob _ h0)
          have h4 := hok b _ h0
          simp only [L2.ObjOk] at h3 h4
          rw [h4.1] at e
          cases e
          exact h3.1
  cases hka : List.lookup a K with
  | some o =>
    have e := hK a o hka
    rw [ha] at e
    cases e
    refine main (fun _ => none) (fun b => .inl rfl) (.inr ⟨_, vs.toArray, _, hka, rfl, rfl, rfl, by rw [List.size_toArray, ← hv.length, List.length_map]; exact hn, by rw [List.toList_toArray]; exact hv⟩) (fun b o e => by cases e) (fun b o e => by cases e) (fun b o e => by cases e)
  | none =>
    refine main (fun b => if b = a then some (HO.frz { cls := .type "list", data := .seq vs.toArray } (.lst (ns.map V.int))) else none) (fun b => ?_) (.inl (.inr ⟨_, if_pos rfl⟩)) (fun b o e => ?_) (fun b o e => ?_) (fun b o e => ?_)
    · by_cases c : b = a
      · exact .inr ⟨_, _, if_pos c⟩
      · exact .inl (if_neg c)
    · by_cases c : b = a
      · subst c
        rw [show (fun b_1 => if b_1 = b then some (HO.frz { cls := .type "list", data := .seq vs.toArray } (.lst (ns.map V.int))) else none : Hp) b = some (HO.frz { cls := .type "list", data := .seq vs.toArray } (.lst (ns.map V.int))) from if_pos rfl] at e
        cases e
        simp only [L2.ObjOk]
        exact ⟨ha, by rw [List.length_map]; exact hn, vs, _, hv, ha⟩
      · exact absurd (show (none : Option HO) = some o from (if_neg c).symm.trans e) (by simp)
    · by_cases c : b = a
      · subst c; exact hka
      · exact absurd (show (none : Option HO) = some o from (if_neg c).symm.trans e) (by simp)
    · by_cases c : b = a
      · exact c
      · exact absurd (show (none : Option HO) = some o from (if_neg c).symm.trans e) (by simp)
theorem walk_ofG {l : W.OpenLaw} {n k : Nat} {q : Program} {loose : List Str} {XP : (Str → Option Value) → Heap → Prop} {YP : World → Heap → Prop} {d : DefRec} {K : Params → W.Frag} {CX : World → CXT} {sp : World → Sp} {x : Str} (h1 : l.most = some n) (h2 : n ≤ sizeLine) (h3 : d.params.defaults = []) (hr : Room k callerA) (hk : ∀ (w : World) (h : Heap), YP w h → (K w.params).In h)
    (hF : ∀ (w : World) (mg : Str → Option Value) (fa : Addr) (h : Heap), (K w.params).In h → h.Ns mainGlobals mg → mg d.name = some (.ref fa) → ∃ fd, (∀ (s : Shared) (u : Value), BindsTo s fd ⟨[u], []⟩ [(x, u)]) ∧ ∀ base : Heap, (K w.params).In base → base.Ns mainGlobals mg → FnG l.prog w (K w.params) mg base (CX w) k fa fd [x] (sp w))
    (hs : ∀ (w : World) (H : Hp) (a : Addr) (ns : List Int), ns.length ≤ n → Only H → SqL (K w.params) H a (ns.map V.int) → sp w [.ref a] H (fun v _ => v = .bl true) fun _ _ _ => False) (hx : ∀ (w : World) (H : Hp) (s : Shared) (e : Value) (s' : Shared), CX w [] H s (fun _ _ _ => False) e s' → False) :
    W.WalkO q loose XP YP l.row.toRowW d [] fun f vs => call f vs :=
  Att.attach_call h1 h3 fun w s₀ s₁ mg mb fa o pm cd doc a vs ns G Y e1 e2 e3 e4 e5 e6 e7 e8 => by
    obtain ⟨fd, hb, hF'⟩ := hF w mg fa s₁.heap (hk w _ Y) G.T.g e4
    exact law_callG (hk w _ Y) G.T.g G.T.b G.T.builtins G.T.nolimit e8 e5 e6 (Nat.le_trans e7 h2) hr hF' hb (fun H ho hq => hs w H a ns e7 ho hq) fun H e s' => hx w H s₁ e s'
/-! ### repr of what is told -/
def shw (d : D) : Bool := Shp d && d.py.showable && !d.py.hasDict && decide (d.py.shown.length ≤ sizeLine) && (match d with | .tup _ => true | .lst _ => true | _ => false)
def rReprD (K : W.Frag) : List V → Hp → VK → Prop := fun xs H Q => ∃ a d, xs = [.ref a] ∧ Dp K H (.ref a) d ∧ d.showable = true ∧ d.hasDict = false ∧ d.depth ≤ 64 ∧ d.shown.length ≤ sizeLine ∧ Q (.str d.shown) H
theorem cr_repr {X : Cx} (hg : X.A.guards = some []) (hu : X.A.units + 68 < cLine) : CallR X (.builtin "repr") (rReprD X.K) := by
  intro pins s σ H xs us Q I hv h
  obtain ⟨a, d, rfl, hd, h1, h2, h3, h4, q⟩ := h
  obtain ⟨u, rfl, ru⟩ := vals1 hv
  obtain ⟨as, rd⟩ := Dp.reads I d _ u hd ru
  have eu : u = .ref a := ru
  subst eu
  exact repr_of_reads' rd h1 (fun z => by rw [h2] at z; cases z) hg (by omega) (fun _ _ e => e) (fun h' t tk e => ⟨.str d.shown, H, I.kept e, ⟨t, rfl⟩, q⟩) h4
variable {m : Type → Type} [Mn m] {α : Type} {te : TE} {sd : List SD}
theorem em_repr [Enc α] {x : m α} (h : EvM K te sd x) : EvM K (tCB (rReprD K) (tCons te tNil)) sd (Mn.bnd x fun a => gd (shw (enc a) = true) (Mn.pur (enc a).py.shown)) := em_cb1 h fun F σ B H k a v R r b k' e Q q => by
  obtain ⟨hc, e⟩ := gd_some e
  obtain ⟨rfl, rfl⟩ := pur_some e
  unfold shw at hc
  simp only [Bool.and_eq_true, Bool.not_eq_true', decide_eq_true_eq] at hc
  obtain ⟨⟨⟨⟨c1, c2⟩, c3⟩, c4⟩, c5⟩ := hc
  have c6 := Bool.and_eq_true_iff.mp c1
  have hd := (r.gr R.bh).dp c6.2
  have dep : (enc a).py.depth ≤ 64 := of_decide_eq_true (Bool.and_eq_true_iff.mp c6.1).2
  have hv : ∃ p, v = .ref p := by
    revert c5 r
    cases enc a <;> intro r c5 <;> first | (cases c5; done) | skip
    · obtain ⟨p, _, rfl, _⟩ := Rp.lst_inv r; exact ⟨p, rfl⟩
    · obtain ⟨p, _, rfl, _⟩ := Rp.tup_inv r; exact ⟨p, rfl⟩
  obtain ⟨p, rfl⟩ := hv
  exact ⟨p, _, rfl, hd, c2, c3, dep, c4, q _ B H R (Gr.refl B) (.str _)⟩
end ON

set_option Elab.async false
set_option linter.all false
set_option maxRecDepth 100000
set_option maxHeartbeats 1000000
/-! N41: sorted texts; dicts of lists: setdefault and append, the list of the values -/
namespace ON
open PySem PySem.Spec PyProof.Rows L2
/-! ### texts in order -/
def leS (a b : Str) : Bool := !ltCps b.cps.toList a.cps.toList
theorem ltCps_anti : ∀ a b : List Nat, ltCps a b = false → ltCps b a = false → a = b
  | [], [], _, _ => rfl
  | [], _ :: _, h, _ => by simp [ltCps] at h
  | _ :: _, [], _, h => by simp [ltCps] at h
  | x :: a, y :: b, h1, h2 => by
    simp only [ltCps, Bool.or_eq_false_iff, decide_eq_false_iff_not, Bool.and_eq_false_iff, beq_eq_false_iff_ne] at h1 h2
    have e : x = y := by omega
    subst e
    rw [ltCps_anti a b (h1.2.resolve_left (fun z => z rfl)) (h2.2.resolve_left (fun z => z rfl))]
theorem ltCps_trans : ∀ a b c : List Nat, ltCps b a = false → ltCps c b = false → ltCps c a = false
  | [], b, c, h1, h2 => by
    cases c with
    | nil => rfl
    | cons z c => simp [ltCps]
  | x :: a, [], c, h1, h2 => by simp [ltCps] at h1
  | x :: a, y :: b, [], h1, h2 => by simp [ltCps] at h2
  | x :: a, y :: b, z :: c, h1, h2 => by
    simp only [ltCps, Bool.or_eq_false_iff, decide_eq_false_iff_not, Bool.and_eq_false_iff, beq_eq_false_iff_ne] at h1 h2 ⊢
    refine ⟨by omega, ?_⟩
    by_cases e : z = x
    · right
      have e1 : y = x := by omega
      have e2 : z = y := by omega
      exact ltCps_trans a b c (h1.2.resolve_left fun q => q e1) (h2.2.resolve_left fun q => q e2)
    · exact .inl e
theorem ltCps_tot : ∀ a b : List Nat, ltCps a b = true → ltCps b a = false
  | [], [], h => by simp [ltCps] at h
  | [], _ :: _, _ => rfl
  | _ :: _, [], h => by simp [ltCps] at h
  | x :: a, y :: b, h => by
    simp only [ltCps, Bool.or_eq_true, decide_eq_true_eq, Bool.and_eq_true, beq_iff_eq, Bool.or_eq_false_iff, decide_eq_false_iff_not, Bool.and_eq_false_iff, beq_eq_false_iff_ne] at h ⊢
    rcases h with h | ⟨rfl, h⟩
    · exact ⟨by omega, .inl (by omega)⟩
    · exact ⟨by omega, .inr (ltCps_tot a b h)⟩
theorem leS_trans {a b c : Str} (h1 : leS a b = true) (h2 : leS b c = true) : leS a c = true := by
  unfold leS at *
  rw [Bool.not_eq_true'] at *
  exact ltCps_trans _ _ _ h1 h2
theorem leS_tot (a b : Str) : (leS a b || leS b a) = true := by
  unfold leS
  cases h : ltCps b.cps.toList a.cps.toList with
  | false => rfl
  | true => rw [ltCps_tot _ _ h]; rfl
theorem leS_anti {a b : Str} (h1 : leS a b = true) (h2 : leS b a = true) : a = b := by
  unfold leS at *
  rw [Bool.not_eq_true'] at *
  have := ltCps_anti _ _ h2 h1
  cases a; cases b
  simp only [Str.mk.injEq]
  exact Array.toList_inj.mp this
def sortS (xs : List Str) : List Str := xs.mergeSort leS
theorem sortS_perm (xs : List Str) : (sortS xs).Perm xs := List.mergeSort_perm xs leS
theorem sortS_pw (xs : List Str) : (sortS xs).Pairwise fun a b => leS a b = true := List.pairwise_mergeSort (le := leS) (fun a b c => leS_trans) leS_tot xs
theorem rising_pw : ∀ (x : Str) (xs : List Str), risingS x xs = true → (x :: xs).Pairwise fun a b => leS a b = true
  | x, [], _ => List.pairwise_singleton _ _
  | x, y :: ys, h => by
    simp only [risingS, Bool.and_eq_true, Bool.not_eq_true'] at h
    have ih := rising_pw y ys h.2
    have h1 : leS x y = true := by unfold leS; rw [h.1]; rfl
    rw [List.pairwise_cons]
    refine ⟨fun z hz => ?_, ih⟩
    rcases List.mem_cons.mp hz with rfl | hz
    · exact h1
    · exact leS_trans h1 ((List.pairwise_cons.mp ih).1 z hz)
theorem sorted_is {xs ys : List Str} (hp : ys.Perm xs) (hs : sortedS ys = true) : ys = sortS xs := by
  refine List.Perm.eq_of_pairwise (le := fun a b => leS a b = true) (fun a b _ _ => leS_anti) ?_ (sortS_pw xs) (hp.trans (sortS_perm xs).symm)
  cases ys with
  | nil => exact List.Pairwise.nil
  | cons y ys => exact rising_pw y ys hs
section
variable {X : Cx} {K : PySem.W.Frag} {m : Type → Type} [Mn m] {α β τ l ρ : Type} {sd : List SD} {te tk : TE} {W : Wr} {post : τ → List SD} {postL : l → List SD} {tu : TS}
theorem rps_str {B : Hp} : ∀ {xs : List Str} {vs : List V}, Rps K B vs (xs.map enc) → vs = xs.map V.str
  | [], vs, h => by cases h; rfl
  | x :: xs, vs, h => by
    cases h with
    | cons h hs => rw [Rp.str_inv h, rps_str hs]; rfl
theorem str_rps {B : Hp} : ∀ xs : List Str, Rps K B (xs.map V.str) (xs.map enc)
  | [] => .nil
  | x :: xs => .cons (.str x) (str_rps xs)
theorem ef_sortS {x : m (List Str)} (h : EvM K te sd x) : EvF K (.lst .dat) (tCB (rSortedS K) (tCons te tNil)) sd (Mn.bnd x fun xs => gd (xs.length < 64) (Mn.pur (sortS xs))) := fun F σ B H k R c k' e Q q => by
  obtain ⟨xs, k1, e1, e⟩ := bnd_some e
  obtain ⟨hl, e⟩ := gd_some e
  obtain ⟨rfl, rfl⟩ := pur_some e
  refine h F σ B H k R xs k' e1 _ fun v B1 H1 R1 g1 r1 => ?_
  obtain ⟨p, vs, rfl, hp, hs⟩ := Rp.lst_inv r1
  rw [rps_str hs] at hp
  refine ⟨p, xs, rfl, SqL.of (R1.bh _ _ hp), hl, fun ys p2 h1 h2 h3 => ?_⟩
  rw [sorted_is h1 h2]
  exact q (.ref p2) B1 _ (R1.newL h3 (str_rps _)) g1
/-! ### dicts of lists -/
theorem ef_dnilL [Enc α] {m : Type → Type} [Mn m] {sd : List SD} : EvF K (.dic (.lst .dat)) tDNewK sd (Mn.pur (⟨[]⟩ : Dc Str (List α)) : m (Dc Str (List α))) := fun F σ B H k R c k' e Q q => by
  obtain ⟨rfl, rfl⟩ := pur_some e
  intro p hp
  exact q (.ref p) B _ (R.push (f := [p]) ⟨p, [], [], [], [], rfl, rfl, rfl, rfl, upd_same, rfl⟩ (by simp) (fun a m => by rw [List.mem_singleton.mp m]; exact ⟨R.bh.back hp, hp⟩) (Gr.refl B) (R.bh.trans (Gr.new hp)) (Gr.new hp) fun a u e e0 => by rw [e] at e0; cases e0) (Gr.refl B)
/-- put behind what stands under a text, or anew -/
def apD : List (Str × List α) → Str → α → List (Str × List α)
  | [], z, a => [(z, [a])]
  | (k, xs) :: c, z, a => if k = z then (k, xs ++ [a]) :: c else (k, xs) :: apD c z a
def apDc (c : Dc Str (List α)) (z : Str) (a : α) : Dc Str (List α) := ⟨apD c.l z a⟩
theorem apD_split [Enc α] (z : Str) (a : α) : ∀ (c : List (Str × List α)) (vs : List V), vs.length = c.length →
    (∃ n xs v, c[n]? = some (z, xs) ∧ vs[n]? = some v ∧ valV ((dkl c).zip vs) (.inr z) = some v ∧ apD c z a = c.set n (z, xs ++ [a])) ∨ (valV ((dkl c).zip vs) (.inr z) = none ∧ apD c z a = c ++ [(z, [a])])
  | [], [], _ => .inr ⟨rfl, rfl⟩
  | (k, xs) :: c, v :: vs, hl => by
    have hl' : vs.length = c.length := by simpa using hl
    by_cases e : k = z
    · subst e
      left
      refine ⟨0, xs, v, rfl, rfl, ?_, ?_⟩
      · show valV ((Sum.inr k, v) :: _) (Sum.inr k) = _
        rw [valV_pos rfl]
      · show (if k = k then _ else _) = _
        rw [if_pos rfl]; rfl
    · have e1 : valV ((dkl ((k, xs) :: c)).zip (v :: vs)) (.inr z) = valV ((dkl c).zip vs) (.inr z) := by
        show valV ((Sum.inr k, v) :: _) (Sum.inr z) = _
        rw [valV_neg (fun y => e (keyS.mp y))]; rfl
      have e2 : apD ((k, xs) :: c) z a = (k, xs) :: apD c z a := by
        show (if k = z then _ else _) = _
        rw [if_neg e]
      rw [e1, e2]
      rcases apD_split z a c vs hl' with ⟨n, ys, w, h1, h2, h3, h4⟩ | ⟨h1, h3⟩
      · left
        exact ⟨n + 1, ys, w, h1, h2, h3, by rw [h4]; rfl⟩
      · right
        exact ⟨h1, by rw [h3]; rfl⟩
  | [], _ :: _, h => by simp at h
  | _ :: _, [], h => by simp at h
theorem valV_none {kvs : List (Key × V)} {k : Key} (h : valV kvs k = none) (w : V) : putK kvs k w = kvs ++ [(k, w)] := by
  unfold valV at h
  rw [Option.map_eq_none_iff, List.find?_eq_none] at h
  unfold putK
  rw [if_neg]
  rw [List.any_eq_true]
  rintro ⟨x, hx, e⟩
  exact h x hx e
theorem putK_dkl {c : List (Str × List α)} {vs : List V} {z : Str} (hl : vs.length = c.length) (h : valV ((dkl c).zip vs) (.inr z) = none) (w : V) : putK ((dkl c).zip vs) (.inr z) w = (dkl (c ++ [(z, ([] : List α))])).zip (vs ++ [w]) := by
  rw [valV_none h]
  unfold dkl
  rw [List.map_append, List.zip_append (by rw [List.length_map, hl])]; rfl
theorem Ows.snoc {R : V → D → List Addr → Prop} {v : V} {d : D} {g : List Addr} (hr : R v d g) : ∀ {vs : List V} {ds : List D} {f : List Addr}, Ows R vs ds f → Ows R (vs ++ [v]) (ds ++ [d]) (f ++ g)
  | [], [], f, h => by
    have h : f = [] := h
    subst h
    exact ⟨g, [], by simp, hr, rfl⟩
  | w :: vs, e :: ds, f, ⟨f1, f2, ef, h1, h2⟩ => ⟨f1, f2 ++ g, by rw [ef, List.append_assoc], h1, Ows.snoc hr h2⟩
  | [], _ :: _, _, h => h.elim
  | _ :: _, [], _, h => h.elim
/-- the slot's dict with what stands under a text, there or made -/
theorem sd_there [Enc α] {F : Fr} {σ : L2.St} {B H : Hp} {k : Int} {i : Nat} {c : Dc Str (List α)} {p : Addr} {z : Str} {a : α} (R : Rel K F σ B H sd k) (hi : sd[i]? = some (.own (.dic (.lst .dat)) (enc c))) (ho : σ[i]? = some (some (.ref p))) {q : Addr} (hq : H q = none) :
    ∃ kvs, H p = some (.dK kvs) ∧ kvs.length = c.l.length ∧ q ≠ p ∧
      ((∃ n xs v, c.l[n]? = some (z, xs) ∧ valV kvs (.inr z) = some v ∧ apD c.l z a = c.l.set n (z, xs ++ [a]) ∧ Rel K F σ B (upd H q (.lst [])) sd k ∧ ∃ vs, vs.length = c.l.length ∧ vs[n]? = some v ∧ kvs = (dkl c.l).zip vs) ∨
       (valV kvs (.inr z) = none ∧ apD c.l z a = c.l ++ [(z, [a])] ∧ ∃ vs, vs.length = c.l.length ∧ kvs = (dkl c.l).zip vs ∧ Rel K F σ B (upd (upd H q (.lst [])) p (.dK (putK kvs (.inr z) (.ref q)))) (sd.set i (.own (.dic (.lst .dat)) (enc (⟨c.l ++ [(z, ([] : List α))]⟩ : Dc Str (List α))))) k)) := by
  obtain ⟨o1, f1, ho1, ⟨v1, rfl, w1⟩, nd1, hf1, q1⟩ := R.slot hi
  rw [ho] at ho1; cases ho1
  obtain ⟨p', ks, vs, ds, gg, ep, ed, rfl, hl, hh, ow⟩ := w1
  cases ep
  rw [enc_dc] at ed; cases ed
  have hlen : vs.length = c.l.length := by rw [ow.len]; unfold dvl; rw [List.length_map]
  have hqp : q ≠ p := fun z => by subst z; rw [hh] at hq; cases hq
  have hBq := R.bh.back hq
  refine ⟨_, hh, by rw [List.length_zip, ← hl, Nat.min_self]; unfold dkl; rw [List.length_map], hqp, ?_⟩
  rcases apD_split z a c.l vs hlen with ⟨n, xs, v, h1, h2, h3, h4⟩ | ⟨h1, h2⟩
  · left
    refine ⟨n, xs, v, h1, h3, h4, R.called (Gr.refl B) (R.bh.trans (Gr.new hq)) (Gr.new hq) (fun a u e e0 => by rw [e] at e0; cases e0), vs, hlen, h2, rfl⟩
  · right
    refine ⟨h1, h2, vs, hlen, rfl, ?_⟩
    rw [putK_dkl hlen h1]
    have nq : ∀ b ∈ p :: gg, b ≠ q := fun b m e => by
      subst e
      have := Ow.some (s := .dic (.lst .dat)) (K := K) (B := B) (H := H) (v := .ref p) (d := enc c) (f := p :: gg) ⟨p, _, vs, _, gg, rfl, enc_dc c, rfl, hl, hh, ow⟩ b m
      exact this hq
    have hpp : ∀ b ∈ gg, b ≠ p := fun b m e => by subst e; exact (List.nodup_cons.mp nd1).1 m
    have s := q1 (some (.ref p)) (.own (.dic (.lst .dat)) (enc (⟨c.l ++ [(z, ([] : List α))]⟩ : Dc Str (List α)))) (p :: (gg ++ [q])) B (upd (upd H q (.lst [])) p (.dK ((dkl (c.l ++ [(z, ([] : List α))])).zip (vs ++ [.ref q]))))
      ⟨_, rfl, p, dkl (c.l ++ [(z, [])]), vs ++ [.ref q], dvl c.l ++ [enc ([] : List α)], gg ++ [q], rfl, by rw [enc_dc]; show D.dic _ (dvl (c.l ++ [(z, [])])) = _; unfold dvl; rw [List.map_append]; rfl, rfl, by unfold dkl; rw [List.length_map, List.length_append, List.length_append, hlen]; rfl, upd_same, by
        refine Ows.snoc (ow_lstd.mpr ⟨q, [], [], rfl, rfl, rfl, by rw [upd_ne hqp, upd_same], .nil⟩) (ow.imp fun v d g hg r => r.frame (Gr.refl _) fun b m => ?_)
        rw [upd_ne (hpp b (hg b m)), upd_ne (nq b (.tail _ (hg b m)))]⟩
      (by
        rw [List.nodup_cons, List.nodup_append]
        have := List.nodup_cons.mp nd1
        refine ⟨fun m => ?_, this.2, by simp, fun x hx y hy e => ?_⟩
        · rcases List.mem_append.mp m with m | m
          · exact this.1 m
          · rw [List.mem_singleton] at m; exact hqp m.symm
        · rw [List.mem_singleton] at hy
          subst hy; subst e
          exact nq x (.tail _ hx) rfl)
      (fun b m => by
        rcases List.mem_cons.mp m with rfl | m
        · exact ⟨(hf1 b (by simp)).1, .inl (by simp)⟩
        · rcases List.mem_append.mp m with m | m
          · exact ⟨(hf1 b (.tail _ m)).1, .inl (.tail _ m)⟩
          · rw [List.mem_singleton] at m
            subst m
            exact ⟨hBq, .inr hq⟩)
      (fun a u na e => by
        rw [upd_ne (fun z => na (by rw [z]; simp)), upd_ne (fun z => by rw [z, hq] at e; cases e)]; exact e) (Gr.refl _) (fun b u e => by
        have hb := R.bh b u e
        rw [upd_ne (fun z => by subst z; rw [(hf1 b (by simp)).1] at e; cases e), upd_ne (fun z => by subst z; rw [hq] at hb; cases hb)]; exact hb) (fun a u e e0 => by rw [e] at e0; cases e0)
    rw [σ_set_self ho] at s
    exact s
theorem sd_app [Enc α] {F : Fr} {σ : L2.St} {B H : Hp} {k : Int} {i n : Nat} {c : Dc Str (List α)} {p : Addr} {z : Str} {xs : List α} (R : Rel K F σ B H sd k) (hi : sd[i]? = some (.own (.dic (.lst .dat)) (enc c))) (ho : σ[i]? = some (some (.ref p))) (hn : c.l[n]? = some (z, xs)) :
    ∃ vs p2 us, H p = some (.dK ((dkl c.l).zip vs)) ∧ vs.length = c.l.length ∧ vs[n]? = some (.ref p2) ∧ H p2 = some (.lst us) ∧ us.length = xs.length ∧ (∀ s, F.sa = some s → s.1 ≠ p2) ∧ (∀ s, F.sa = some s → s.1 ≠ p) ∧
      ∀ (a : α) (v : V), Rp K B v (enc a) → Rel K F σ B (upd H p2 (.lst (us ++ [v]))) (sd.set i (.own (.dic (.lst .dat)) (enc (⟨c.l.set n (z, xs ++ [a])⟩ : Dc Str (List α))))) k := by
  obtain ⟨o1, f1, ho1, ⟨v1, rfl, w1⟩, nd1, hf1, q1⟩ := R.slot hi
  rw [ho] at ho1; cases ho1
  obtain ⟨p', ks, vs, ds, gg, ep, ed, rfl, hl, hh, ow⟩ := w1
  cases ep
  rw [enc_dc] at ed; cases ed
  have hlen : vs.length = c.l.length := by rw [ow.len]; unfold dvl; rw [List.length_map]
  have hd : (dvl c.l)[n]? = some (enc xs) := by unfold dvl; rw [List.getElem?_map, hn]; rfl
  obtain ⟨w, a1, gw, a2, hw, eg, rw_, hq⟩ := ows_at ow hd
  obtain ⟨p2, us, es, rfl, ed2, rfl, hp2, rs2⟩ := ow_lstd.mp rw_
  cases ed2
  have m2 : p2 ∈ p :: gg := by rw [eg]; simp
  refine ⟨vs, p2, us, hh, hlen, hw, hp2, by rw [rs2.len, List.length_map], (hf1 p2 m2).2.2, (hf1 p (by simp)).2.2, fun a v rv => ?_⟩
  have hb : B p2 = none := (hf1 p2 m2).1
  have nodup : (p :: (a1 ++ [p2] ++ a2)).Nodup := by rw [← eg]; exact nd1
  have npp : p ≠ p2 := fun z => by
    rw [z] at nodup
    exact (List.nodup_cons.mp nodup).1 (by simp)
  have nb12 : ∀ b, b ∈ a1 ∨ b ∈ a2 → b ≠ p2 := fun b m z => by
    subst z
    have n2 := (List.nodup_cons.mp nodup).2
    rw [List.append_assoc, List.nodup_append] at n2
    obtain ⟨_, n3, n4⟩ := n2
    rcases m with m | m
    · exact n4 b m b (by simp) rfl
    · exact (List.nodup_cons.mp n3).1 m
  have ek : dkl (c.l.set n (z, xs ++ [a])) = dkl c.l := by
    unfold dkl
    rw [List.map_set]
    obtain ⟨h1, h2⟩ := List.getElem?_eq_some_iff.mp hn
    have h3 : (c.l.map fun p => (Sum.inr p.1 : Key))[n]'(by rw [List.length_map]; exact h1) = Sum.inr z := by rw [List.getElem_map, h2]
    rw [← h3]; exact List.set_getElem_self _
  have zz := q1 (some (.ref p)) (.own (.dic (.lst .dat)) (enc (⟨c.l.set n (z, xs ++ [a])⟩ : Dc Str (List α)))) (p :: (a1 ++ [p2] ++ a2)) B (upd H p2 (.lst (us ++ [v])))
    ⟨_, rfl, p, dkl c.l, vs, (dvl c.l).set n (enc (xs ++ [a])), a1 ++ [p2] ++ a2, rfl, by rw [enc_dc]; show D.dic _ (dvl (c.l.set n (z, xs ++ [a]))) = _; rw [ek]; unfold dvl; rw [List.map_set], rfl, hl, by rw [upd_ne npp]; exact hh, by
      have y := hq (Ow K B (upd H p2 (.lst (us ++ [v]))) (.lst .dat)) (.ref p2) (enc (xs ++ [a])) [p2] (ow_lstd.mpr ⟨p2, us ++ [v], _, rfl, rfl, rfl, upd_same, by rw [List.map_append]; exact rs2.app (.cons rv .nil)⟩) fun v d h hh r => r.frame (Gr.refl _) fun b m => upd_ne (nb12 b (hh b m))
      rw [show vs.set n (.ref p2) = vs from by
        obtain ⟨h1, h2⟩ := List.getElem?_eq_some_iff.mp hw
        rw [← h2]; exact List.set_getElem_self h1] at y
      exact y⟩ nodup (fun b m => by
        have m3 : b ∈ p :: gg := by rw [eg]; exact m
        exact ⟨(hf1 b m3).1, .inl m3⟩)
    (fun a u na e => by rw [upd_ne (fun z => na (by rw [z, eg]; simp))]; exact e) (Gr.refl _) (R.bh.mut hb) fun a u e e0 => by rw [e] at e0; cases e0
  rw [σ_set_self ho] at zz
  exact zz
theorem zip_inj {κ : Type} : ∀ {ks : List κ} {vs ws : List V}, vs.length = ks.length → ws.length = ks.length → ks.zip vs = ks.zip ws → vs = ws
  | [], [], [], _, _, _ => rfl
  | k :: ks, v :: vs, w :: ws, h1, h2, e => by
    simp only [List.zip_cons_cons, List.cons.injEq, Prod.mk.injEq, true_and] at e
    rw [e.1, zip_inj (by simpa using h1) (by simpa using h2) e.2]
  | [], _ :: _, _, h, _, _ => by simp at h
  | [], [], _ :: _, _, h, _ => by simp at h
  | _ :: _, [], _, h, _, _ => by simp at h
  | _ :: _, _ :: _, [], _, h, _ => by simp at h
/-- name.setdefault(key, []).append(e), name an owned dict of lists -/
theorem es_sdApp [Enc α] [Rt ρ] {i : Nat} {c : Dc Str (List α)} {z : m Str} {y : m α} {f : Dc Str (List α) → m (Fl τ l ρ)} (hi : sd[i]? = some (.own (.dic (.lst .dat)) (enc c))) (hz : EvH K tk sd z) (h : ∀ c' : Dc Str (List α), EvH K te (sd.set i (.own (.dic (.lst .dat)) (enc c'))) y) (hf : ∀ c' : Dc Str (List α), EvS K W tu (sd.set i (.own (.dic (.lst .dat)) (enc c'))) post postL (f c')) :
    EvS K W (tSeq (tDrop (tBM K "list" rAppend (tDSetd (tVar i) tk (tLst tNil)) (tCons te tNil))) tu) sd post postL (Mn.bnd z fun k => Mn.bnd y fun a => gd (c.l.length < 100000 ∧ ∀ p ∈ c.l, p.2.length < 100000) (Mn.bnd (Mn.pur (apDc c k a)) f)) := fun F σ B H k R r k' e dd q => by
  obtain ⟨z0, k1, e1, e2⟩ := bnd_some e
  obtain ⟨a, k2, e3, e4⟩ := bnd_some e2
  obtain ⟨⟨hl1, hl2⟩, e5⟩ := gd_some e4
  obtain ⟨c2, k3, e6, e7⟩ := bnd_some e5
  obtain ⟨rfl, rfl⟩ := pur_some e6
  obtain ⟨o0, _, ho0, ⟨v0, rfl, w0⟩, _⟩ := R.slot hi
  obtain ⟨p, ks0, vs0, ds0, gg0, rfl, _, _, _, hh0, _⟩ := w0
  have sl : 100000 < sizeLine := by decide
  have li : i < sd.length := (List.getElem?_eq_some_iff.mp hi).1
  refine ⟨_, ho0, p, rfl, .inl ⟨_, .inl hh0⟩, ?_⟩
  refine hz F σ B H k R z0 _ e1 _ fun iv B1 H1 R1 g1 r1 kp1 => ?_
  rw [Rp.str_inv r1]
  refine ⟨Nat.zero_le _, fun q1 hq1 => ?_⟩
  obtain ⟨kvs, hk1, hk2, hqp, alt⟩ := sd_there (a := a) (z := z0) R1 hi ho0 hq1
  -- the list that is there, or was made; then the argument, and the append
  have rest : ∀ (c' : Dc Str (List α)) (n : Nat) (xs : List α) (H3 : Hp) (w : V), Rel K F σ B1 H3 (sd.set i (.own (.dic (.lst .dat)) (enc c'))) k1 → c'.l[n]? = some (z0, xs) → xs.length < 100000 → apD c.l z0 a = c'.l.set n (z0, xs ++ [a]) → (∀ vs, H3 p = some (.dK ((dkl c'.l).zip vs)) → vs.length = c'.l.length → vs[n]? = some w) →
      tyV K "list" w H3 ∧ tCons te tNil σ H3 fun xs H2 => rAppend w xs H2 fun _ H' => tu dd σ H' := by
    intro c' n xs H3 w R3 hn hx hap hw
    have hi' : (sd.set i (SD.own (.dic (.lst .dat)) (enc c')))[i]? = some (.own (.dic (.lst .dat)) (enc c')) := List.getElem?_set_self li
    obtain ⟨vs, p2, us, h1, h2, h3, h4, h5, h6, h7, _⟩ := sd_app R3 hi' ho0 hn
    have ew := hw vs h1 h2
    rw [h3] at ew; cases ew
    refine ⟨.inl ⟨rfl, us, SqL.of h4⟩, ?_⟩
    refine h c' F σ B1 H3 k1 R3 a _ e3 _ fun v B4 H4 R4 g4 r4 kp4 => ?_
    obtain ⟨vs', p2', us', h1', h2', h3', h4', h5', _, _, h8⟩ := sd_app R4 hi' ho0 hn
    have e8 := kp4 _ _ h1 h7
    rw [h1'] at e8
    have e9 := zip_inj (by rw [h2']; unfold dkl; rw [List.length_map]) (by rw [h2]; unfold dkl; rw [List.length_map]) (HO.dK.inj (Option.some.inj e8))
    subst e9
    rw [h3] at h3'; cases h3'
    refine ⟨p2, us', v, rfl, rfl, h4', by omega, ?_⟩
    have R5 := h8 a v r4
    rw [List.set_set] at R5
    have e10 : (⟨c'.l.set n (z0, xs ++ [a])⟩ : Dc Str (List α)) = apDc c z0 a := by unfold apDc; rw [hap]
    rw [e10] at R5
    exact hf _ F σ B4 _ _ R5 r k' e7 dd (q.gr (g1.trans g4))
  refine ⟨kvs, .inr z0, by rw [upd_ne hqp.symm]; exact hk1, rfl, by omega, fun v hv => ?_, fun hv => ?_⟩
  · rcases alt with ⟨n, xs, v', hn, hv', hap, R3, vs, hvl, hvs, ekv⟩ | ⟨hv', _⟩
    · rw [hv] at hv'; cases hv'
      have es : sd.set i (SD.own (.dic (.lst .dat)) (enc c)) = sd := by
        obtain ⟨h1, h2⟩ := List.getElem?_eq_some_iff.mp hi
        rw [← h2]; exact List.set_getElem_self h1
      refine rest c n xs _ v (by rw [es]; exact R3) hn (hl2 _ (List.mem_of_getElem? hn)) hap fun vs2 h1 h2 => ?_
      rw [upd_ne hqp.symm, hk1, ekv] at h1
      rw [← zip_inj (by rw [hvl]; unfold dkl; rw [List.length_map]) (by rw [h2]; unfold dkl; rw [List.length_map]) (HO.dK.inj (Option.some.inj h1))]
      exact hvs
    · rw [hv] at hv'; cases hv'
  · rcases alt with ⟨n, xs, v', hn, hv', _⟩ | ⟨_, hap, vs, hvl, ekv, R3⟩
    · rw [hv] at hv'; cases hv'
    · refine rest ⟨c.l ++ [(z0, [])]⟩ c.l.length [] _ (.ref q1) R3 (by rw [List.getElem?_append_right (Nat.le_refl _), Nat.sub_self]; rfl) (show (0 : Nat) < 100000 by decide) (by rw [hap]; simp) fun vs2 h1 h2 => ?_
      rw [upd_same, ekv, putK_dkl hvl (by rw [← ekv]; exact hv)] at h1
      rw [← zip_inj (by unfold dkl; rw [List.length_map, List.length_append, List.length_append, hvl]; rfl) (by rw [h2]; unfold dkl; rw [List.length_map]) (HO.dK.inj (Option.some.inj h1)), ← hvl, List.getElem?_append_right (Nat.le_refl _), Nat.sub_self]; rfl
/-! ### list(name.values()) -/
def rVw : V → List V → Hp → VK → Prop := fun x xs H Q => ∃ a kvs, x = .ref a ∧ xs = [] ∧ H a = some (.dK kvs) ∧ ∀ p, H p = none → Q (.ref p) (upd H p (viewO "dict_values" p a))
theorem mt_values : MtR X "dict.values" rVw := by
  intro pins s σ H x xs v us Q I rx hv h
  obtain ⟨a, kvs, rfl, rfl, hh, q⟩ := h
  cases hv
  have ev : v = .ref a := rx
  subst ev
  have ok := I.hok a _ hh
  simp only [L2.ObjOk] at ok
  obtain ⟨h1, h2, vs, h3, h4⟩ := ok
  obtain ⟨es, ep, h5, h6, h7⟩ := h4.raw
  have fr := I.fresh
  refine call_meetsIn F.slot_dict_values ?_ F.entry_dict_values (F.args_dict_values_1 _) (meets_dict_values_raw a h2) ⟨⟨es, ep, h5⟩, ?_⟩
  · exact h5.typeIs
  · refine ⟨.ref s.heap.objs.size, _, ?_, rfl, q _ fr⟩
    exact I.laid (a := s.heap.objs.size) (o := viewO "dict_values" s.heap.objs.size a) (fun b u e => Heap.get?_push_of_some _ e) (Nat.le_refl _) (viewO_ok (Heap.get?_push_size _ rfl))
def rLV : List V → Hp → VK → Prop := fun xs H Q => ∃ p a kvs, xs = [.ref p] ∧ H p = some (viewO "dict_values" p a) ∧ H a = some (.dK kvs) ∧ ∀ q, H q = none → Q (.ref q) (upd H q (.lst (kvs.map (·.2))))
theorem cr_listVals (hc : X.calm = true) : CallR X (.type "list") rLV := by
  intro pins s σ H xs us Q I hv h
  obtain ⟨p, a, kvs, rfl, hp, ha, q⟩ := h
  obtain ⟨u, rfl, ru⟩ := vals1 hv
  have eu : u = .ref p := ru
  subst eu
  have ok := I.hok a _ ha
  have okp := I.hok p _ hp
  unfold viewO at okp
  simp only [L2.ObjOk] at ok okp
  obtain ⟨h1, h2, vs, h3, h4⟩ := ok
  obtain ⟨es, ep, h5, h6, h7⟩ := h4.raw
  refine W.kdl_call (KdlSrc.rawValues (d := a) (r := p) (es := es) (ep := ep)) (I.ok.hd hc) ⟨⟨_, okp.1, rfl, rfl⟩, h5⟩ (by rw [h6, ← h3.length]; exact h1) fun h' tk acc c' e1 e2 e3 => ?_
  refine ⟨.ref s.heap.objs.size, _, I.laid e1 (Nat.le_refl _) ?_, rfl, q _ I.fresh⟩
  simp only [L2.ObjOk]
  refine ⟨by rw [List.length_map]; exact h1, acc.toList, c', ?_, e2⟩
  have hs : acc.size = vs.length := by rw [e3.1, h6]
  have key : ∀ (kvs : List (Key × V)) (vs : List (Key × Value)) (ws : List Value), KV kvs vs → ws.length = vs.length → (∀ i (h1 : i < vs.length) (h2 : i < ws.length), ws[i] = vs[i].2) → Vals (kvs.map (·.2)) ws := by
    intro kvs vs ws hk
    induction hk generalizing ws with
    | nil => intro hl _; cases ws with
      | nil => exact .nil
      | cons _ _ => simp at hl
    | cons hr _ ih =>
      intro hl hi
      cases ws with
      | nil => simp at hl
      | cons w ws =>
        refine .cons ?_ (ih ws (by simpa using hl) fun i h1 h2 => ?_)
        · have := hi 0 (by simp) (by simp)
          simp only [List.getElem_cons_zero] at this
          rw [this]; exact hr.2
        · have := hi (i + 1) (by simpa using h1) (by simpa using h2)
          simpa using this
  refine key kvs vs acc.toList h3 (by rw [Array.length_toList, hs]) fun i i1 i2 => ?_
  have i3 : i < acc.size := by rw [hs]; exact i1
  obtain ⟨hi, ev⟩ := e3.2 i acc[i] (Array.getElem?_eq_getElem i3)
  rw [Array.getElem_toList, ev]
  exact (h7 i hi vs[i].1 vs[i].2 (List.getElem?_eq_getElem i1)).2
/-- return list(name.values()), name an owned dict of lists -/
theorem es_retVals [Enc α] {i : Nat} {c : Dc Str (List α)} (hi : sd[i]? = some (.own (.dic (.lst .dat)) (enc c))) : EvS K W (tSeq (tRet (tCB rLV (tCons (tBM0 K "dict" rVw (tVar i)) tNil))) tu) sd post postL (Mn.pur (.rt ⟨c.l.map (·.2)⟩) : m (Fl τ l (Fw (.lst (.lst .dat)) (List (List α))))) := fun F σ B H k R f k' e D q => by
  obtain ⟨rfl, rfl⟩ := pur_some e
  obtain ⟨o, f0, ho, ⟨v, rfl, w⟩, nd, hf, q1⟩ := R.slot hi
  have RT := R.take hi ho w
  obtain ⟨f1, ow1, nd1, hf1, q7⟩ := RT.top
  obtain ⟨p, ks, vs, ds, gg, rfl, ed, rfl, hl, hh, ow⟩ := ow1
  rw [enc_dc] at ed; cases ed
  refine ⟨_, ho, .inr (.inr (.inl ⟨rfl, .inl ⟨_, hh⟩⟩)), p, _, rfl, rfl, hh, fun g hg => ?_⟩
  have hgp : p ≠ g := fun z => by subst z; rw [hh] at hg; cases hg
  refine ⟨g, p, _, rfl, upd_same, by rw [upd_ne hgp]; exact hh, fun q2 hq2 => ?_⟩
  have hq : H q2 = none := by
    by_cases c : q2 = g
    · subst c; exact hg
    · rw [upd_ne c] at hq2; exact hq2
  have hqg : q2 ≠ g := fun z => by subst z; rw [upd_same] at hq2; cases hq2
  have em : ((dkl c.l).zip vs).map (·.2) = vs := List.map_snd_zip (by omega)
  have eo : ∀ b, b ≠ g → b ≠ q2 → (upd (upd H g (viewO "dict_values" g p)) q2 (.lst vs)) b = H b := fun b h1 h2 => by rw [upd_ne h2, upd_ne h1]
  have own : ∀ b ∈ p :: gg, H b ≠ none := fun b m => Ow.some (s := .dic (.lst .dat)) (K := K) (B := B) (H := H) (v := .ref p) (d := enc c) (f := p :: gg) ⟨p, _, vs, _, gg, rfl, enc_dc c, rfl, hl, hh, ow⟩ b m
  rw [em]
  have keep : ∀ a u, H a = some u → (upd (upd H g (viewO "dict_values" g p)) q2 (.lst vs)) a = some u := fun a u e => by
    rw [eo a (fun z => by subst z; rw [hg] at e; cases e) (fun z => by subst z; rw [hq] at e; cases e)]; exact e
  have R2 := (q7 B (upd (upd H g (viewO "dict_values" g p)) q2 (.lst vs)) (fun a u _ e => keep a u e) (Gr.refl B) (fun a u e => keep a u (R.bh a u e)) (fun a u e e0 => by rw [e] at e0; cases e0)).2.1 (.ref q2) (.lst (.lst .dat)) (enc (c.l.map (·.2))) (q2 :: gg)
    ⟨q2, vs, dvl c.l, gg, rfl, by show ON.D.lst ((c.l.map (·.2)).map enc) = ON.D.lst (dvl c.l); unfold dvl; rw [List.map_map]; rfl, rfl, upd_same, ow.imp fun v d h hg2 r => r.frame (Gr.refl B) fun b m => eo b (fun z => own b (.tail _ (hg2 b m)) (by rw [z]; exact hg)) (fun z => own b (.tail _ (hg2 b m)) (by rw [z]; exact hq))⟩
    (List.nodup_cons.mpr ⟨fun m => own q2 (.tail _ m) hq, (List.nodup_cons.mp nd1).2⟩)
    (fun a m => by
      rcases List.mem_cons.mp m with rfl | m
      · exact ⟨R.bh.back hq, .inr hq⟩
      · exact ⟨(hf1 a (.tail _ m)).1, .inl (.tail _ m)⟩)
  exact q (.ref q2) σ B _ (sd.set i .un) R2 (Gr.refl B)
end
end ON

set_option Elab.async false
set_option linter.all false
set_option maxRecDepth 100000
set_option maxHeartbeats 1000000
/-! N42: every other one of a tuple -/
namespace ON
open PySem PySem.Spec PyProof.Rows L2
def ev2 {α : Type} : List α → List α
  | [] => []
  | [x] => [x]
  | x :: _ :: r => x :: ev2 r
theorem ev2_pick {α : Type} : ∀ (xs : List α), (List.range ((xs.length + 1) / 2)).filterMap (fun k => xs[2 * k]?) = ev2 xs
  | [] => by simp [ev2]
  | [x] => by simp [ev2, List.range_succ]
  | x :: y :: r => by
    have e : ((x :: y :: r).length + 1) / 2 = (r.length + 1) / 2 + 1 := by simp only [List.length_cons]; omega
    rw [e, List.range_succ_eq_map, List.filterMap_cons, List.filterMap_map]
    show x :: _ = x :: ev2 r
    rw [← ev2_pick r]
    congr 1
theorem ev2_map {α β : Type} (f : α → β) : ∀ xs : List α, ev2 (xs.map f) = (ev2 xs).map f
  | [] => rfl
  | [x] => rfl
  | x :: y :: r => by simp only [List.map_cons, ev2, ev2_map f r]
theorem ev2_sub {α : Type} : ∀ xs : List α, (ev2 xs).Sublist xs
  | [] => List.Sublist.refl _
  | [x] => List.Sublist.refl _
  | x :: y :: r => by
    simp only [ev2]
    exact .cons₂ x (.cons y (ev2_sub r))
variable {prog : Program} {w : World} {A : Around} {E : Value → Shared → Prop} {s : Shared}
theorem sliceApplied2 {sl : Addr} {u : Tok} {n : Nat} {Q : Int × Int × Nat → Shared → Prop} (h : s.heap.IsSliceOf sl .none .none (.int 2 u)) (q : Q (0, 2, (n + 1) / 2) s) : wpAny (model prog w) A (Builtin.Slice.sliceApplied (.ref sl) (pure (n : Int))) Q E s := by
  obtain ⟨o, h1, h2, h3⟩ := h
  unfold Builtin.Slice.sliceApplied Builtin.Slice.sliceFields
  refine wpAny_bind (wpAny_bind (wpAny_field h1 h3 rfl (wpAny_bind (wpAny_field h1 h3 rfl (wpAny_bind (wpAny_field h1 h3 rfl (wpAny_pure ?_)))))))
  refine wpAny_bind (HT.slicePart_ (.int 2 u) ?_)
  have st : ((some (2 : Int)).getD 1 == 0) = false := rfl
  simp only [st, if_neg Bool.false_ne_true]
  refine wpAny_bind (slicePart_none (wpAny_bind (slicePart_none (wpAny_bind (wpAny_pure (wpAny_pure ?_))))))
  have e1 : Builtin.Slice.sliceAdjust none none ((some (2 : Int)).getD 1) (n : Int) = (0, (n : Int)) := rfl
  have e2 : Builtin.Slice.slicePlaces 0 (n : Int) ((some (2 : Int)).getD 1) = (n + 1) / 2 := by
    unfold Builtin.Slice.slicePlaces
    rw [Option.getD_some, if_pos (by decide)]
    by_cases c : n = 0
    · subst c; rfl
    · rw [if_pos (by omega)]; omega
  show Q (0, (some (2 : Int)).getD 1, Builtin.Slice.slicePlaces 0 (n : Int) ((some (2 : Int)).getD 1)) s
  rw [e2]; exact q
theorem getItem_tup2 {t sl : Addr} {items : Array Value} {u : Tok} {Q : Value → Shared → Prop} (ht : IsTup s.heap t items) (hs : s.heap.IsSliceOf sl .none .none (.int 2 u)) (hn : items.size ≤ sizeLine)
    (q : Q (.ref s.heap.objs.size) { s with heap := s.heap.push { cls := .type "tuple", data := .seq (ev2 items.toList).toArray } }) : wpAny (model prog w) A (getItem (.ref t) (.ref sl)) Q E s := by
  unfold getItem
  refine wpAny_holding (wpAny_bind (wpAny_sequenceKey ht.typeIs (by decide) (wpAny_bind (wpAny_callSpecial?_slot ht.typeIs slot_tuple_getitem (wpAny_call_entry slot_tuple_getitem ht.typeIs entry_tuple_getitem ?_ (args_tuple_getitem _ _))))))
  unfold Builtin.«tuple.__getitem__»
  have tsl : s.TypeIs (.ref sl) "slice" := by obtain ⟨o, h1, h2, _⟩ := hs; exact ⟨o, h1, h2⟩
  refine wpAny_bind (wpAny_pure (wpAny_bind (tupleItemsOf_ ht (wpAny_bind (wpAny_typeOf tsl ?_)))))
  simp only [beq_self_eq_true, if_pos]
  refine wpAny_bind (sliceApplied2 hs ?_)
  have e : ((0 : Int) == 0 && (2 : Int) == 1 && (items.size + 1) / 2 == items.size) = false := rfl
  simp only [e, if_neg Bool.false_ne_true]
  unfold Builtin.Tuple.tupleExact
  have e2 : (List.range ((items.size + 1) / 2)).filterMap (fun k : Nat => items[((0 : Int) + (k : Int) * 2).toNat]?) = ev2 items.toList := by
    rw [← ev2_pick items.toList, Array.length_toList]
    congr 1
    funext k
    rw [show ((0 : Int) + (k : Int) * 2).toNat = 2 * k by omega, Array.getElem?_toList]
  rw [e2]
  refine wpAny_bind (wpAny_newObj_type (wpAny_pure ⟨_, rfl, wpAny_pure q⟩) ?_)
  show (ev2 items.toList).toArray.size ≤ sizeLine
  have := (ev2_sub items.toList).length_le
  have h2 : items.toList.length = items.size := Array.length_toList
  show (ev2 items.toList).length ≤ sizeLine
  omega
/-! ### the expression -/
def tEv2 (K : PySem.W.Frag) (te : TE) : TE := fun σ H Q => te σ H fun x H1 => ∃ a xs, x = .ref a ∧ SqT K H1 a xs ∧ ∀ p, H1 p = none → Q (.ref p) (upd H1 p (.tup (ev2 xs)))
theorem vals_ev2 : ∀ {xs : List V} {us : List Value}, Vals xs us → Vals (ev2 xs) (ev2 us)
  | [], _, h => by cases h; exact .nil
  | [x], _, h => by
    cases h with
    | cons h1 h2 => cases h2; exact .cons h1 .nil
  | x :: y :: r, _, h => by
    cases h with
    | cons h1 h2 =>
      cases h2 with
      | cons h3 h4 => exact .cons h1 (vals_ev2 h4)
theorem pe_ev2 {X : Cx} {e : Expr} {te : TE} {k : Nat} {p1 p2 pos : Pos} (he : PE X e te) : PE X (e.Subscript (Expr.Slice none none (some (Expr.Constant (Const.int 2) k p1)) p2) pos) (tEv2 X.K te) := by
  refine ⟨fun pins s σ H Q I h => ?_⟩
  refine Subscript_ (thn (he.run pins s σ H _ I h) fun u s1 h1 => ?_)
  obtain ⟨x, H1, I1, rx, a, xs, rfl, hs, q⟩ := h1
  have eu : u = .ref a := rx
  subst eu
  refine wpAny_Slice ?_
  rw [evalPart_none]
  refine wpAny_pure (wpAny_pure ?_)
  refine thn ((po_some (X := X) (e := Expr.Constant (Const.int 2) k p1) (pe_int (X := X))).run pins s1 σ H1 (fun o H' => o = some 2 ∧ H' = H1) I1 ⟨2, rfl, rfl, rfl⟩) fun uu s2 h2 => ?_
  obtain ⟨o, H', I2, hp, rfl, rfl⟩ := h2
  cases hp with
  | int i t =>
  obtain ⟨its, hv, it, hl⟩ := I2.tuple hs
  have kp : ∀ (b : Addr) (o : Obj), s2.heap.get? b = some o → (s2.heap.push { cls := .type "slice", data := .fields #[.none, .none, .int 2 t] }).get? b = some o := fun b o e => Heap.get?_push_of_some _ e
  have I3 := I2.kept (t' := s2.toks) kp
  obtain ⟨its, hv, it, hl⟩ := I3.tuple hs
  have l1 := hv.length
  refine tail_any it.typeIs slot_tuple_getitem.lookup (getItem_tup2 it (Heap.IsSliceOf.new _ _ _ _) (by rw [List.size_toArray]; omega) ?_) rfl
  rw [List.toList_toArray]
  refine ⟨.ref _, _, I3.laid (a := (s2.heap.push { cls := .type "slice", data := .fields #[.none, .none, .int 2 t] }).objs.size) (o := .tup (ev2 xs)) (fun b o e => Heap.get?_push_of_some _ e) (Nat.le_refl _) ?_, rfl, q _ I3.fresh⟩
  simp only [L2.ObjOk]
  have l2 := (ev2_sub xs).length_le
  exact ⟨by omega, ev2 its, vals_ev2 hv, _, Heap.get?_push_size _ rfl, rfl, _, rfl⟩
variable {K : PySem.W.Frag} {m : Type → Type} [Mn m] {α : Type} {te : TE} {sd : List SD}
theorem rps_ev2 {B : Hp} : ∀ {vs : List V} {ds : List D}, Rps K B vs ds → Rps K B (ev2 vs) (ev2 ds)
  | [], _, h => by cases h; exact .nil
  | [x], _, h => by
    cases h with
    | cons h1 h2 => cases h2; exact .cons h1 .nil
  | x :: y :: r, _, h => by
    cases h with
    | cons h1 h2 =>
      cases h2 with
      | cons h3 h4 => exact .cons h1 (rps_ev2 h4)
theorem em_ev2 [Enc α] {x : m (Tl α)} (h : EvM K te sd x) : EvM K (tEv2 K te) sd (Mn.bnd x fun t => Mn.pur (⟨ev2 t.l⟩ : Tl α)) := fun F σ B H k R c k' e Q q => by
  obtain ⟨t, k1, e1, e⟩ := bnd_some e
  obtain ⟨rfl, rfl⟩ := pur_some e
  refine h F σ B H k R t k' e1 _ fun v B1 H1 R1 g1 r1 => ?_
  have r2 : Rp K B1 v (.tup (t.l.map enc)) := r1
  obtain ⟨p, vs, rfl, hp, hs⟩ := Rp.tup_inv r2
  refine ⟨p, vs, rfl, R1.bh.sqT hp, fun q0 hq => ?_⟩
  obtain ⟨R2, g2⟩ := R1.data (o := .tup (ev2 vs)) hq
  refine q (.ref q0) _ _ R2 (g1.trans g2) ?_
  show Rp K _ _ (.tup ((ev2 t.l).map enc))
  rw [← ev2_map]
  exact .tup (.inl (.inl upd_same)) (rps_ev2 (hs.gr g2))
theorem eh_dgetO [Enc α] {i : Nat} {c : Dc Str α} {ty : TE} {y : m Str} (hi : sd[i]? = some (.own (.dic .dat) (enc c))) (h2 : EvH K ty sd y) : EvH K (tDGet (tVar i) ty) sd (Mn.bnd y fun z => (lift (c.l.lookup z) : m α)) := fun F σ B H k R b k' e Q q => by
  obtain ⟨z, k2, e3, e4⟩ := bnd_some e
  obtain ⟨hz, rfl⟩ := lift_some e4
  obtain ⟨o, f0, ho, ⟨v0, rfl, w0⟩, _⟩ := R.slot hi
  refine ⟨_, ho, ?_⟩
  refine h2 F σ B H k R z _ e3 _ fun w B2 H2 R2 g2 r2 kp => ?_
  rw [Rp.str_inv r2]
  obtain ⟨o1, f1, ho1, ⟨v1, rfl, w1⟩, _⟩ := R2.slot hi
  rw [ho] at ho1; cases ho1
  obtain ⟨a, ks, vs, ds, rfl, ed, rfl, hl, hh, rs⟩ := ow_dicd.mp w1
  rw [enc_dc] at ed; cases ed
  obtain ⟨u, hu, ru⟩ := (dc_look rs).1 b hz
  exact ⟨a, u, rfl, .inl ⟨_, .inr z, .inl hh, rfl, hu.symm⟩, q u B2 H2 R2 g2 ru kp⟩
theorem FnG.imp {P : Program} {w : World} {mg : Str → Option Value} {base : Heap} {CX : CXT} {k : Nat} {f : Addr} {fd : FuncData} {ps : List Str} {sp sp' : Sp} (h : FnG P w K mg base CX k f fd ps sp) (i : ∀ vs H Q E, sp' vs H Q E → sp vs H Q E) : FnG P w K mg base CX k f fd ps sp' :=
  ⟨fun vs H Q E q => h.len vs H Q E (i vs H Q E q), fun A outer s H args us vs Q E hg hr h0 hb hv hs => h.run A outer s H args us vs Q E hg hr h0 hb hv (i vs H Q E hs)⟩
end ON

set_option Elab.async false
set_option linter.all false
set_option maxRecDepth 100000
set_option maxHeartbeats 1000000
/-! N43: for x in name: x.append(constant), name an owned list of lists -/
namespace ON
open PySem PySem.Spec PyProof.Rows L2
variable {K : PySem.W.Frag} {m : Type → Type} [Mn m] {α τ l ρ : Type} {sd : List SD} {te : TE} {W : Wr} {post : τ → List SD} {postL : l → List SD} {tu : TS}
theorem ll_app [Enc α] {F : Fr} {σ : L2.St} {B H : Hp} {k : Int} {i n : Nat} {c : List (List α)} {p : Addr} {xs : List α} (R : Rel K F σ B H sd k) (hi : sd[i]? = some (.own (.lst (.lst .dat)) (enc c))) (ho : σ[i]? = some (some (.ref p))) (hn : c[n]? = some xs) :
    ∃ vs p2 us, H p = some (.lst vs) ∧ vs.length = c.length ∧ vs[n]? = some (.ref p2) ∧ H p2 = some (.lst us) ∧ us.length = xs.length ∧ p ≠ p2 ∧ (∀ s, F.sa = some s → s.1 ≠ p2) ∧ (∀ s, F.sa = some s → s.1 ≠ p) ∧
      ∀ (a : α) (v : V), Rp K B v (enc a) → Rel K F σ B (upd H p2 (.lst (us ++ [v]))) (sd.set i (.own (.lst (.lst .dat)) (enc (c.set n (xs ++ [a]))))) k := by
  obtain ⟨o1, f1, ho1, ⟨v1, rfl, w1⟩, nd1, hf1, q1⟩ := R.slot hi
  rw [ho] at ho1; cases ho1
  obtain ⟨p', vs, ds, gg, ep, ed, rfl, hh, ow⟩ := w1
  cases ep
  cases ed
  have hlen : vs.length = c.length := by rw [ow.len, List.length_map]
  have hd : (c.map enc)[n]? = some (enc xs) := by rw [List.getElem?_map, hn]; rfl
  obtain ⟨w, a1, gw, a2, hw, eg, rw_, hq⟩ := ows_at ow hd
  obtain ⟨p2, us, es, rfl, ed2, rfl, hp2, rs2⟩ := ow_lstd.mp rw_
  cases ed2
  have m2 : p2 ∈ p :: gg := by rw [eg]; simp
  have hb : B p2 = none := (hf1 p2 m2).1
  have nodup : (p :: (a1 ++ [p2] ++ a2)).Nodup := by rw [← eg]; exact nd1
  have npp : p ≠ p2 := fun z => by
    rw [z] at nodup
    exact (List.nodup_cons.mp nodup).1 (by simp)
  refine ⟨vs, p2, us, hh, hlen, hw, hp2, by rw [rs2.len, List.length_map], npp, (hf1 p2 m2).2.2, (hf1 p (by simp)).2.2, fun a v rv => ?_⟩
  have nb12 : ∀ b, b ∈ a1 ∨ b ∈ a2 → b ≠ p2 := fun b m z => by
    subst z
    have n2 := (List.nodup_cons.mp nodup).2
    rw [List.append_assoc, List.nodup_append] at n2
    obtain ⟨_, n3, n4⟩ := n2
    rcases m with m | m
    · exact n4 b m b (by simp) rfl
    · exact (List.nodup_cons.mp n3).1 m
  have zz := q1 (some (.ref p)) (.own (.lst (.lst .dat)) (enc (c.set n (xs ++ [a])))) (p :: (a1 ++ [p2] ++ a2)) B (upd H p2 (.lst (us ++ [v])))
    ⟨_, rfl, p, vs, (c.map enc).set n (enc (xs ++ [a])), a1 ++ [p2] ++ a2, rfl, by show D.lst ((c.set n (xs ++ [a])).map enc) = _; rw [List.map_set], rfl, by rw [upd_ne npp]; exact hh, by
      have y := hq (Ow K B (upd H p2 (.lst (us ++ [v]))) (.lst .dat)) (.ref p2) (enc (xs ++ [a])) [p2] (ow_lstd.mpr ⟨p2, us ++ [v], _, rfl, rfl, rfl, upd_same, by rw [List.map_append]; exact rs2.app (.cons rv .nil)⟩) fun v d h hh r => r.frame (Gr.refl _) fun b m => upd_ne (nb12 b (hh b m))
      rw [show vs.set n (.ref p2) = vs from by
        obtain ⟨h1, h2⟩ := List.getElem?_eq_some_iff.mp hw
        rw [← h2]; exact List.set_getElem_self h1] at y
      exact y⟩ nodup (fun b m => by
        have m3 : b ∈ p :: gg := by rw [eg]; exact m
        exact ⟨(hf1 b m3).1, .inl m3⟩)
    (fun a u na e => by rw [upd_ne (fun z => na (by rw [z, eg]; simp))]; exact e) (Gr.refl _) (R.bh.mut hb) fun a u e e0 => by rw [e] at e0; cases e0
  rw [σ_set_self ho] at zz
  exact zz
def apU (c : List (List α)) (a : α) (n : Nat) : List (List α) := (c.take n).map (fun xs => xs ++ [a]) ++ c.drop n
theorem apU_zero (c : List (List α)) (a : α) : apU c a 0 = c := by unfold apU; simp
theorem apU_all (c : List (List α)) (a : α) {n : Nat} (h : c.length ≤ n) : apU c a n = c.map fun xs => xs ++ [a] := by unfold apU; rw [List.take_of_length_le h, List.drop_of_length_le h, List.append_nil]
theorem apU_get {c : List (List α)} {a : α} {n : Nat} (h : n < c.length) : (apU c a n)[n]? = some c[n] := by
  unfold apU
  have l : ((c.take n).map fun xs => xs ++ [a]).length = n := by rw [List.length_map, List.length_take]; omega
  rw [List.getElem?_append_right (by omega), l, Nat.sub_self, List.getElem?_drop, Nat.add_zero, List.getElem?_eq_getElem h]
theorem apU_succ {c : List (List α)} {a : α} {n : Nat} (h : n < c.length) : (apU c a n).set n (c[n] ++ [a]) = apU c a (n + 1) := by
  unfold apU
  have l : ((c.take n).map fun xs => xs ++ [a]).length = n := by rw [List.length_map, List.length_take]; omega
  rw [List.set_append_right _ _ (by omega), l, Nat.sub_self, List.drop_eq_getElem_cons h, List.set_cons_zero, List.take_succ_eq_append_getElem h, List.map_append, List.append_assoc]; rfl
theorem es_forApp [Enc α] [Rt ρ] {i j : Nat} {c : List (List α)} {a : α} {f : List (List α) → m (Fl τ l ρ)} (hi : sd[i]? = some (.own (.lst (.lst .dat)) (enc c))) (hj : sd[j]? = some .un) (h : ∀ c' : List (List α), EvH K te (sd.set i (.own (.lst (.lst .dat)) (enc c'))) (Mn.pur a : m α)) (hf : ∀ c' : List (List α), EvS K W tu (sd.set i (.own (.lst (.lst .dat)) (enc c'))) post postL (f c')) :
    EvS K W (tSeq (tFor (iList K (tVar i)) (gName j) (tSeq (tDrop (tBM K "list" rAppend (tVar j) (tCons te tNil))) tNext)) tu) sd post postL (gd (∀ xs ∈ c, xs.length < 100000) (Mn.bnd (Mn.pur (c.map fun xs => xs ++ [a])) f)) := fun F σ B H k R r k' e D q => by
  obtain ⟨hl, e⟩ := gd_some e
  obtain ⟨c2, k3, e1, e2⟩ := bnd_some e
  obtain ⟨rfl, rfl⟩ := pur_some e1
  obtain ⟨o0, _, ho, ⟨v0, rfl, w0⟩, _⟩ := R.slot hi
  obtain ⟨p, vs0, ds0, gg0, rfl, ed0, _, hh0, ow0⟩ := w0
  cases ed0
  have sl : 100000 < sizeLine := by decide
  have hlen : vs0.length = c.length := by rw [ow0.len, List.length_map]
  have hne : i ≠ j := fun z => by subst z; rw [hi] at hj; cases hj
  have li : i < sd.length := (List.getElem?_eq_some_iff.mp hi).1
  have es : sd.set i (SD.own (.lst (.lst .dat)) (enc c)) = sd := by
    obtain ⟨h1, h2⟩ := List.getElem?_eq_some_iff.mp hi
    rw [← h2]; exact List.set_getElem_self h1
  refine ⟨.ref p, ho, p, rfl, ⟨vs0, SqL.of hh0⟩, ?_⟩
  refine ⟨fun n m σ' H' => m = c.length - n ∧ n ≤ c.length ∧ ∃ B', Rel K F σ' B' H' (sd.set i (.own (.lst (.lst .dat)) (enc (apU c a n)))) k3 ∧ Gr B B' ∧ H' p = some (.lst vs0) ∧ σ'[i]? = some (some (.ref p)), ⟨c.length, by simp, Nat.zero_le _, B, by rw [apU_zero, es]; exact R, Gr.refl B, hh0, ho⟩, ?_⟩
  rintro n m' σ2 H2 ⟨rfl, hn, B2, R2, g2, hp2, hs2⟩
  by_cases cc : n < c.length
  · right
    refine ⟨⟨vs0, vs0[n]'(by omega), SqL.of hp2, List.getElem?_eq_getElem _⟩, fun σ' H' => ∃ m', m' < c.length - n ∧ (m' = c.length - (n + 1) ∧ n + 1 ≤ c.length ∧ ∃ B', Rel K F σ' B' H' (sd.set i (.own (.lst (.lst .dat)) (enc (apU c a (n + 1))))) k3 ∧ Gr B B' ∧ H' p = some (.lst vs0) ∧ σ'[i]? = some (some (.ref p))), fun _ _ h => h, fun v H3 y => ?_⟩
    obtain ⟨rfl, hy⟩ := y
    have hv := hy vs0 (SqL.of hp2)
    have hj2 : (sd.set i (SD.own (.lst (.lst .dat)) (enc (apU c a n))))[j]? = some .un := by rw [List.getElem?_set_ne hne]; exact hj
    have hi2 : (sd.set i (SD.own (.lst (.lst .dat)) (enc (apU c a n))))[i]? = some (.own (.lst (.lst .dat)) (enc (apU c a n))) := List.getElem?_set_self li
    obtain ⟨oj, fj, hoj, hsj, _, _, qj⟩ := R2.slot hj2
    have hfj : fj = [] := hsj
    subst hfj
    have R3 := qj (some v) .un [] B2 H3 rfl List.nodup_nil (fun a m => by cases m) (fun a u _ e => e) (Gr.refl _) R2.bh (fun a u e e0 => by rw [e] at e0; cases e0)
    have ej : (sd.set i (SD.own (.lst (.lst .dat)) (enc (apU c a n)))).set j .un = sd.set i (SD.own (.lst (.lst .dat)) (enc (apU c a n))) := by
      obtain ⟨h1, h2⟩ := List.getElem?_eq_some_iff.mp hj2
      rw [← h2]; exact List.set_getElem_self h1
    rw [ej] at R3
    have lj : j < σ2.length := (List.getElem?_eq_some_iff.mp hoj).1
    have hs3 : (List.set σ2 j (some v))[i]? = some (some (.ref p)) := by rw [List.getElem?_set_ne hne.symm]; exact hs2
    obtain ⟨vs, p2, us, h1, h2, h3, h4, h5, h6, h7, h8, _⟩ := ll_app R3 hi2 hs3 (apU_get cc)
    rw [hp2] at h1; cases h1
    rw [hv] at h3; cases h3
    refine ⟨.ref p2, List.getElem?_set_self lj, .inl ⟨rfl, us, SqL.of h4⟩, ?_⟩
    refine h _ F _ B2 H3 k3 R3 a k3 (Mn.run_pur a k3) _ fun w B4 H4 R4 g4 r4 kp4 => ?_
    obtain ⟨vs', p2', us', h1', h2', h3', h4', h5', h6', _, _, h9⟩ := ll_app R4 hi2 hs3 (apU_get cc)
    have e8 := kp4 _ _ hp2 h8
    rw [h1'] at e8; cases e8
    rw [hv] at h3'; cases h3'
    have := hl _ (List.getElem_mem cc)
    refine ⟨p2, us', w, rfl, rfl, h4', by omega, ?_⟩
    have R5 := h9 a w r4
    rw [List.set_set, apU_succ cc] at R5
    exact ⟨_, by omega, rfl, cc, B4, R5, g2.trans g4, by rw [upd_ne h6']; exact h1', hs3⟩
  · left
    have en : n = c.length := by omega
    subst en
    rw [apU_all c a (Nat.le_refl _)] at R2
    exact ⟨⟨vs0, SqL.of hp2, by omega⟩, hf _ F σ2 B2 H2 k3 R2 r k' e2 D (q.gr g2)⟩
theorem hu_rp {k : Nat} {A : Around} (hr : Room k A) : A.units + 68 < cLine := by have := hr.un; omega
end ON

set_option Elab.async false
set_option linter.all false
set_option maxRecDepth 100000
set_option maxHeartbeats 1000000
namespace K11
open PySem PySem.Spec PyProof.Rows L2 ON
def mb_is_overlap (p0 : (T4 Str Str Int Int)) (p1 : (T4 Str Str Int Int)) : Option (Fl Empty Empty Bool) := (Mn.bnd (Mn.bnd (Mn.bnd (Mn.bnd (Mn.bnd (Mn.pur p0) fun x_2 => Mn.pur x_2.c) fun x_5 => Mn.bnd (Mn.bnd (Mn.pur p1) fun x_4 => Mn.pur x_4.c) fun y_6 => Mn.pur (x_5, y_6)) fun p_7 => Mn.pur (max p_7.1 p_7.2)) fun x_14 => Mn.bnd (Mn.bnd (Mn.bnd (Mn.bnd (Mn.pur p0) fun x_8 => Mn.pur x_8.d) fun x_11 => Mn.bnd (Mn.bnd (Mn.pur p1) fun x_10 => Mn.pur x_10.d) fun y_12 => Mn.pur (x_11, y_12)) fun p_13 => Mn.pur (min p_13.1 p_13.2)) fun y_15 => Mn.pur (decide (x_14 < y_15))) fun r_1 => Mn.pur (.rt r_1))
def m_is_overlap (p0 : (T4 Str Str Int Int)) (p1 : (T4 Str Str Int Int)) : Option Bool := fin (mb_is_overlap p0 p1)
def mb_hanging_together (p0 : (List Str)) (p1 : (List (Str × Str))) : Option (Fl Empty Empty (Fw (.lst (.lst .dat)) (List (List Str)))) := (Mn.bnd (Mn.bnd (Mn.pur p0) fun u_17 => gd (List.length u_17 < 64) (Mn.pur (sortS u_17))) fun rising_16 => (Mn.bnd (Mn.bnd (Mn.bnd (Mn.pur rising_16) fun w_21 => gd (List.length w_21 ≤ 100000) (compL (fun (a_20 : Str) => (Mn.pur true)) (fun (a_20 : Str) => Mn.bnd (Mn.pur a_20) fun z_22 => Mn.bnd (Mn.pur a_20) fun v_23 => Mn.pur (z_22, v_23)) w_21)) fun ps_24 => Mn.pur (dcOf ps_24)) fun marks_18 => (andThen (Mn.bnd (Mn.pur p1) fun w_54 => forL (fun (t_26 : (Dc Str Str)) (a_27 : (Str × Str)) => ((Mn.bnd (Mn.bnd (Mn.bnd (Mn.pur a_27.1) fun y_28 => lift (List.lookup y_28 t_26.l)) fun x_30 => Mn.bnd (Mn.bnd (Mn.pur a_27.2) fun y_29 => lift (List.lookup y_29 t_26.l)) fun y_31 => Mn.pur (x_30, y_31)) fun p_32 => (andThen (Mn.bnd (Mn.pur rising_16) fun w_44 => forL (fun (t_34 : (Dc Str Str)) (a_35 : Str) => ((andThen (Mn.bnd (Mn.bnd (Mn.bnd (Mn.pur a_35) fun y_36 => lift (List.lookup y_36 t_34.l)) fun x_37 => Mn.bnd (Mn.pur p_32.2) fun y_38 => Mn.pur (decide (x_37 = y_38))) fun b_39 => cnd b_39 (Mn.bnd (Mn.pur p_32.1) fun x_41 => Mn.bnd (Mn.pur a_35) fun y_42 => gd (List.length t_34.l < 100000) (Mn.bnd (Mn.pur (dcP t_34 y_42 x_41)) fun marks_43 => (Mn.pur (.nx marks_43)))) (Mn.pur (.nx t_34)) : Option (Fl ((Dc Str Str)) ((Dc Str Str)) (Fw (.lst (.lst .dat)) (List (List Str))))) fun t_40 => (Mn.pur (.nx t_40))) : Option (Fl ((Dc Str Str)) ((Dc Str Str)) (Fw (.lst (.lst .dat)) (List (List Str)))))) w_44 t_26 : Option (Fl ((Dc Str Str)) ((Dc Str Str)) (Fw (.lst (.lst .dat)) (List (List Str))))) fun t_34 => (Mn.pur (.nx t_34)))) : Option (Fl ((Dc Str Str)) ((Dc Str Str)) (Fw (.lst (.lst .dat)) (List (List Str)))))) w_54 marks_18 : Option (Fl ((Dc Str Str)) Empty (Fw (.lst (.lst .dat)) (List (List Str))))) fun t_26 => (Mn.bnd (Mn.pur (⟨[]⟩ : (Dc Str (List Str)))) fun parts_45 => (andThen (Mn.bnd (Mn.pur rising_16) fun w_53 => forL (fun (t_47 : (Dc Str (List Str))) (a_48 : Str) => ((Mn.bnd (Mn.bnd (Mn.pur a_48) fun y_49 => lift (List.lookup y_49 t_26.l)) fun y_51 => Mn.bnd (Mn.pur a_48) fun x_50 => gd (List.length t_47.l < 100000 ∧ ∀ p ∈ t_47.l, List.length p.2 < 100000) (Mn.bnd (Mn.pur (apDc t_47 y_51 x_50)) fun parts_52 => (Mn.pur (.nx parts_52)))) : Option (Fl ((Dc Str (List Str))) ((Dc Str (List Str))) (Fw (.lst (.lst .dat)) (List (List Str)))))) w_53 parts_45 : Option (Fl ((Dc Str (List Str))) Empty (Fw (.lst (.lst .dat)) (List (List Str))))) fun t_47 => (Mn.pur (.rt ⟨List.map (fun p => p.2) t_47.l⟩)))))))
def m_hanging_together (p0 : (List Str)) (p1 : (List (Str × Str))) : Option (List (List Str)) := (fin (mb_hanging_together p0 p1)).map Fw.r
def mb_parts_of (p0 : (T3 (Tl (T4 Str Str Int Int)) (Tl (T6 Str Str Str (Tl Int) Int Int)) (Option (Str × Str)))) : Option (Fl Empty Empty (Fw (.lst (.lst .dat)) (List (List Str)))) := (Mn.bnd (Mn.pur p0) fun p_55 => (Mn.bnd (Mn.bnd (Mn.bnd (Mn.bnd (Mn.bnd (Mn.pur p_55.a) fun w_58 => Mn.pur (Tl.l w_58)) fun w_61 => gd (List.length w_61 ≤ 100000) (compL (fun (a_59 : (T4 Str Str Int Int)) => (Mn.pur true)) (fun (a_59 : (T4 Str Str Int Int)) => (Mn.bnd (Mn.pur a_59) fun x_60 => Mn.pur x_60.a)) w_61)) fun x_69 => Mn.bnd (Mn.bnd (Mn.bnd (Mn.pur p_55.b) fun w_62 => Mn.pur (Tl.l w_62)) fun w_68 => gd (List.length w_68 ≤ 100000) (compL (fun (a_63 : (T6 Str Str Str (Tl Int) Int Int)) => (Mn.pur true)) (fun (a_63 : (T6 Str Str Str (Tl Int) Int Int)) => (Mn.bnd (Mn.bnd (Mn.pur a_63) fun x_64 => Mn.pur x_64.b) fun x_66 => Mn.bnd (Mn.bnd (Mn.pur a_63) fun x_65 => Mn.pur x_65.c) fun y_67 => Mn.pur (x_66, y_67))) w_68)) fun y_70 => Mn.pur (x_69, y_70)) fun p_57 => lift (m_hanging_together p_57.1 p_57.2)) fun r_56 => Mn.pur (.rt ⟨r_56⟩)))
def m_parts_of (p0 : (T3 (Tl (T4 Str Str Int Int)) (Tl (T6 Str Str Str (Tl Int) Int Int)) (Option (Str × Str)))) : Option (List (List Str)) := (fin (mb_parts_of p0)).map Fw.r
-- bg2 (Mn.bnd (Mn.bnd (Mn.bnd (Mn.bnd (Mn.pur (7 : Int)) fun p_71 => m__law_next c none p_71) fun n_72 => gd (-(2 ^ 62) ≤ n_72 ∧ n_72 < 2 ^ 62) (Mn.pur (upTo 0 (Int.toNat n_72) 1))) fun w_78 => gd (List.length w_78 ≤ 100000) (compL (fun (a_73 : Int) => (Mn.pur true)) (fun (a_73 : Int) => (Mn.bnd (Mn.pur ("qzjv" : Str)) fun x_75 => Mn.bnd (Mn.bnd (Mn.pur (4 : Int)) fun p_74 => m__law_next c none p_74) fun y_76 => gd (x_75.length ≤ sizeLine) (Mn.bnd (lift (atI (Array.toList (Str.cps x_75)) y_76)) fun c_77 => Mn.pur (sgn c_77)))) w_78)) fun j_79 => gd ((List.map Str.length j_79).sum + List.length j_79 * Str.length ("" : Str) ≤ 16777216) (Mn.pur (Txt.join ("" : Str) j_79)))
-- bg3 (Mn.bnd (Mn.bnd (Mn.bnd (Mn.pur r) fun u_81 => gd (u_81.length ≤ sizeLine) (Mn.pur ((Str.length u_81 : Nat) : Int))) fun x_82 => Mn.bnd (Mn.pur (1 : Int)) fun y_83 => Mn.pur (x_82 + y_83)) fun p_80 => m__law_next c none p_80)
-- bg4 (Mn.bnd (Mn.bnd (Mn.pur ("mcxgtaqerbvkdunhspjfwlio" : Str)) fun w_84 => Mn.pur (List.map sgn (Array.toList (Str.cps w_84)))) fun w_98 => gd (List.length w_98 ≤ 100000) (compL (fun (a_85 : Str) => (Mn.pur true)) (fun (a_85 : Str) => (Mn.bnd (Mn.bnd (Mn.bnd (Mn.pur r) fun x_87 => Mn.bnd (Mn.pur (none : Option Int)) fun l_88 => Mn.bnd (Mn.bnd (Mn.pur a) fun i_86 => Mn.pur (some i_86)) fun h_89 => gd (x_87.length ≤ sizeLine) (Mn.pur (cutT x_87 l_88 h_89))) fun x_90 => Mn.bnd (Mn.pur a_85) fun y_91 => gd (x_90.length + y_91.length ≤ sizeLine) (Mn.pur (x_90 ++ y_91))) fun x_96 => Mn.bnd (Mn.bnd (Mn.pur r) fun x_93 => Mn.bnd (Mn.bnd (Mn.pur a) fun i_92 => Mn.pur (some i_92)) fun l_94 => Mn.bnd (Mn.pur (none : Option Int)) fun h_95 => gd (x_93.length ≤ sizeLine) (Mn.pur (cutT x_93 l_94 h_95))) fun y_97 => gd (x_96.length + y_97.length ≤ sizeLine) (Mn.pur (x_96 ++ y_97)))) w_98))
-- bh5 (Mn.bnd (Mn.pur l) fun x_104 => Mn.bnd (Mn.bnd (Mn.pur l) fun w_103 => gd (List.length w_103 ≤ 100000) (compL (fun (a_100 : Str) => (Mn.pur true)) (fun (a_100 : Str) => (Mn.bnd (Mn.pur a_100) fun x_101 => Mn.bnd (Mn.pur ("y" : Str)) fun y_102 => gd (x_101.length + y_102.length ≤ sizeLine) (Mn.pur (x_101 ++ y_102)))) w_103)) fun y_105 => gd (List.length x_104 + List.length y_105 ≤ sizeLine) (Mn.pur (x_104 ++ y_105)))
def mb__law_overlap (p0 : (T4 Str Str Int Int)) (p1 : (T4 Str Str Int Int)) : Option (Fl Empty Empty Bool) := (Mn.bnd (Mn.bnd (Mn.bnd (Mn.bnd (Mn.bnd (Mn.bnd (Mn.pur p0) fun x_107 => Mn.pur x_107.c) fun x_113 => Mn.bnd (Mn.bnd (Mn.bnd (Mn.bnd (Mn.pur p0) fun x_108 => Mn.pur x_108.d) fun x_110 => Mn.bnd (Mn.pur (400 : Int)) fun y_111 => Mn.pur (x_110, y_111)) fun p_112 => Mn.pur (min p_112.1 p_112.2)) fun y_114 => Mn.pur (x_113, y_114)) fun n_115 => gd (-(2 ^ 62) ≤ n_115.1 ∧ n_115.1 < 2 ^ 62 ∧ -(2 ^ 62) ≤ n_115.2 ∧ n_115.2 < 2 ^ 62) (Mn.pur (upTo n_115.1 (Int.toNat (n_115.2 - n_115.1)) 1))) fun w_123 => gd (List.length w_123 ≤ 100000) (compL (fun (a_116 : Int) => (Mn.bnd (Mn.bnd (Mn.pur p1) fun x_117 => Mn.pur x_117.c) fun x_119 => Mn.bnd (Mn.pur a_116) fun y_120 => Mn.bnd (Mn.pur (decide (x_119 ≤ y_120))) fun w_122 => cnd w_122 (Mn.bnd (Mn.bnd (Mn.pur p1) fun x_118 => Mn.pur x_118.d) fun z_121 => Mn.pur (decide (y_120 < z_121))) (Mn.pur false))) (fun (a_116 : Int) => (Mn.pur a_116)) w_123)) fun x_125 => Mn.bnd (Mn.bnd (Mn.pur ([] : List Int)) fun l_124 => gd (List.length l_124 ≤ 1000) (Mn.pur l_124)) fun y_126 => gd (Shp (enc x_125) = true ∧ Shp (enc y_126) = true) (Mn.pur (!deqv (enc x_125) (enc y_126)))) fun r_106 => Mn.pur (.rt r_106))
def m__law_overlap (p0 : (T4 Str Str Int Int)) (p1 : (T4 Str Str Int Int)) : Option Bool := fin (mb__law_overlap p0 p1)
def mb__law_fitting (cl : List Int) (nm : Option (List Str)) (p0 : (List (T4 Str Str Int Int))) : Sm (Fl Empty Empty (T6 Str Str Str (Tl Int) Int Int)) := (Mn.bnd (Mn.bnd (Mn.bnd (Mn.pur p0) fun u_129 => Mn.pur ((List.length u_129 : Nat) : Int)) fun p_128 => m__law_next cl nm p_128) fun at_127 => (Mn.bnd (Mn.bnd (Mn.bnd (Mn.pur p0) fun x_130 => Mn.bnd (Mn.pur at_127) fun y_131 => lift (atI x_130 y_131)) fun x_145 => Mn.bnd (Mn.bnd (Mn.pur p0) fun x_143 => Mn.bnd (Mn.bnd (Mn.bnd (Mn.bnd (Mn.pur at_127) fun x_132 => Mn.bnd (Mn.pur (1 : Int)) fun y_133 => Mn.pur (x_132 + y_133)) fun x_138 => Mn.bnd (Mn.bnd (Mn.bnd (Mn.bnd (Mn.pur p0) fun u_135 => Mn.pur ((List.length u_135 : Nat) : Int)) fun x_136 => Mn.bnd (Mn.pur (1 : Int)) fun y_137 => Mn.pur (x_136 - y_137)) fun p_134 => m__law_next cl nm p_134) fun y_139 => Mn.pur (x_138 + y_139)) fun x_141 => Mn.bnd (Mn.bnd (Mn.pur p0) fun u_140 => Mn.pur ((List.length u_140 : Nat) : Int)) fun y_142 => gd (0 < y_142) (Mn.pur (x_141 % y_142))) fun y_144 => lift (atI x_143 y_144)) fun y_146 => Mn.pur (x_145, y_146)) fun p_147 => (Mn.bnd (Mn.pur ("pure" : Str)) fun word_148 => (andThen (Mn.bnd (Mn.bnd (Mn.bnd (Mn.bnd (Mn.pur p_147.1) fun x_150 => Mn.bnd (Mn.pur p_147.2) fun y_151 => Mn.pur (x_150, y_151)) fun p_149 => lift (m__law_overlap p_149.1 p_149.2)) fun b_152 => Mn.pur (!b_152)) fun b_153 => cnd b_153 (andThen (Mn.bnd (Mn.bnd (Mn.bnd (Mn.pur p_147.2) fun x_155 => Mn.pur x_155.c) fun x_157 => Mn.bnd (Mn.bnd (Mn.pur p_147.1) fun x_156 => Mn.pur x_156.d) fun y_158 => Mn.pur (decide (x_157 < y_158))) fun b_159 => cnd b_159 (Mn.bnd (Mn.bnd (Mn.pur p_147.2) fun x_161 => Mn.bnd (Mn.pur p_147.1) fun y_162 => Mn.pur (x_161, y_162)) fun p_163 => (Mn.pur (.nx (p_163.1, p_163.2)))) (Mn.pur (.nx (p_147.1, p_147.2))) : Sm (Fl ((T4 Str Str Int Int) × (T4 Str Str Int Int)) Empty (T6 Str Str Str (Tl Int) Int Int))) fun t_160 => (Mn.bnd (Mn.bnd (Mn.bnd (Mn.bnd (Mn.pur ("held" : Str)) fun x_167 => Mn.bnd (Mn.bnd (Mn.pur ("step" : Str)) fun x_165 => Mn.bnd (Mn.pur ([] : List Str)) fun y_166 => Mn.pur (x_165 :: y_166)) fun y_168 => Mn.pur (x_167 :: y_168)) fun l_169 => gd (List.length l_169 ≤ 1000) (Mn.pur l_169)) fun x_178 => Mn.bnd (Mn.bnd (Mn.bnd (Mn.bnd (Mn.bnd (Mn.pur t_160.1) fun x_170 => Mn.pur x_170.b) fun x_172 => Mn.bnd (Mn.bnd (Mn.pur t_160.2) fun x_171 => Mn.pur x_171.b) fun y_173 => Mn.pur (decide (x_172 = y_173))) fun u_174 => Mn.pur (if u_174 then (1 : Int) else 0)) fun x_176 => Mn.bnd (Mn.bnd (Mn.pur (2 : Int)) fun p_175 => m__law_next cl nm p_175) fun y_177 => gd (ON.MulOk x_176 y_177) (Mn.pur (x_176 * y_177))) fun y_179 => lift (atI x_178 y_179)) fun word_164 => (Mn.pur (.nx (word_164, t_160.1, t_160.2))))) (Mn.pur (.nx (word_148, p_147.1, p_147.2))) : Sm (Fl (Str × (T4 Str Str Int Int) × (T4 Str Str Int Int)) Empty (T6 Str Str Str (Tl Int) Int Int))) fun t_154 => (Mn.bnd (Mn.bnd (Mn.bnd (Mn.bnd (Mn.pur (4 : Int)) fun n_181 => gd (-(2 ^ 62) ≤ n_181 ∧ n_181 < 2 ^ 62) (Mn.pur (upTo 0 (Int.toNat n_181) 1))) fun w_186 => gd (List.length w_186 ≤ 100000) (compL (fun (a_182 : Int) => (Mn.pur true)) (fun (a_182 : Int) => (Mn.bnd (Mn.bnd (Mn.pur (3 : Int)) fun p_183 => m__law_next cl nm p_183) fun x_184 => Mn.bnd (Mn.pur (1 : Int)) fun y_185 => Mn.pur (x_184 - y_185))) w_186)) fun u_187 => Mn.pur (⟨u_187⟩ : (Tl Int))) fun ratio_180 => (andThen (Mn.bnd (Mn.bnd (Mn.pur t_154.1) fun x_188 => Mn.bnd (Mn.pur ("held" : Str)) fun y_189 => Mn.pur (decide (x_188 = y_189))) fun b_190 => cnd b_190 (Mn.bnd (Mn.bnd (Mn.bnd (Mn.pur (0 : Int)) fun x_199 => Mn.bnd (Mn.bnd (Mn.pur (0 : Int)) fun x_197 => Mn.bnd (Mn.bnd (Mn.pur (0 : Int)) fun x_195 => Mn.bnd (Mn.bnd (Mn.pur (0 : Int)) fun x_193 => Mn.bnd (Mn.pur ([] : List Int)) fun y_194 => Mn.pur (x_193 :: y_194)) fun y_196 => Mn.pur (x_195 :: y_196)) fun y_198 => Mn.pur (x_197 :: y_198)) fun y_200 => Mn.pur (x_199 :: y_200)) fun l_201 => gd (List.length l_201 ≤ 1000) (Mn.pur (⟨l_201⟩ : (Tl Int)))) fun ratio_192 => (Mn.pur (.nx ratio_192))) (Mn.pur (.nx ratio_180)) : Sm (Fl ((Tl Int)) Empty (T6 Str Str Str (Tl Int) Int Int))) fun t_191 => (Mn.bnd (Mn.bnd (Mn.bnd (Mn.pur t_154.1) fun x_217 => Mn.bnd (Mn.bnd (Mn.bnd (Mn.pur t_154.2.1) fun x_203 => Mn.pur x_203.a) fun x_215 => Mn.bnd (Mn.bnd (Mn.bnd (Mn.pur t_154.2.2) fun x_204 => Mn.pur x_204.a) fun x_213 => Mn.bnd (Mn.bnd (Mn.pur t_191) fun x_211 => Mn.bnd (Mn.bnd (Mn.bnd (Mn.pur (100 : Int)) fun p_205 => m__law_next cl nm p_205) fun x_209 => Mn.bnd (Mn.bnd (Mn.pur (1 : Int)) fun x_207 => Mn.bnd (Mn.bnd (Mn.pur (9 : Int)) fun p_206 => m__law_next cl nm p_206) fun y_208 => Mn.pur (x_207 + y_208)) fun y_210 => Mn.pur (x_209, y_210)) fun y_212 => Mn.pur (x_211, y_212)) fun y_214 => Mn.pur (x_213, y_214)) fun y_216 => Mn.pur (x_215, y_216)) fun y_218 => Mn.pur (x_217, y_218)) fun t_219 => Mn.pur (⟨t_219.1, t_219.2.1, t_219.2.2.1, t_219.2.2.2.1, t_219.2.2.2.2.1, t_219.2.2.2.2.2⟩ : (T6 Str Str Str (Tl Int) Int Int))) fun r_202 => Mn.pur (.rt r_202))))))))
def m__law_fitting (cl : List Int) (nm : Option (List Str)) (p0 : (List (T4 Str Str Int Int))) : Sm (T6 Str Str Str (Tl Int) Int Int) := finS (mb__law_fitting cl nm p0)
def mb__law_good (cl : List Int) (nm : List Str) : Sm (Fl Empty Empty (T3 (Tl (T4 Str Str Int Int)) (Tl (T6 Str Str Str (Tl Int) Int Int)) (Option (Str × Str)))) := (Mn.bnd (Mn.pur nm) fun names_220 => (Mn.bnd (Mn.bnd (Mn.bnd (Mn.bnd (Mn.pur (40 : Int)) fun x_224 => Mn.bnd (Mn.bnd (Mn.pur (0 : Int)) fun x_222 => Mn.bnd (Mn.pur ([] : List Int)) fun y_223 => Mn.pur (x_222 :: y_223)) fun y_225 => Mn.pur (x_224 :: y_225)) fun l_226 => gd (List.length l_226 ≤ 1000) (Mn.pur l_226)) fun x_228 => Mn.bnd (Mn.bnd (Mn.pur (2 : Int)) fun p_227 => m__law_next cl (some nm) p_227) fun y_229 => lift (atI x_228 y_229)) fun first_221 => (Mn.bnd (Mn.bnd (Mn.pur names_220) fun x_238 => Mn.bnd (Mn.bnd (Mn.pur first_221) fun i_231 => Mn.pur (some i_231)) fun l_239 => Mn.bnd (Mn.bnd (Mn.bnd (Mn.bnd (Mn.pur first_221) fun x_232 => Mn.bnd (Mn.pur (2 : Int)) fun y_233 => Mn.pur (x_232 + y_233)) fun x_235 => Mn.bnd (Mn.bnd (Mn.pur (3 : Int)) fun p_234 => m__law_next cl (some nm) p_234) fun y_236 => Mn.pur (x_235 + y_236)) fun i_237 => Mn.pur (some i_237)) fun h_240 => Mn.pur (cutL x_238 l_239 h_240)) fun voices_230 => (Mn.bnd (Mn.bnd (Mn.bnd (Mn.pur voices_230) fun w_247 => gd (List.length w_247 ≤ 100000) (compL (fun (a_243 : Str) => (Mn.pur true)) (fun (a_243 : Str) => (Mn.bnd (Mn.pur a_243) fun x_245 => Mn.bnd (Mn.bnd (Mn.pur (5 : Int)) fun p_244 => m__law_next cl (some nm) p_244) fun y_246 => Mn.pur (x_245, y_246))) w_247)) fun u_248 => Mn.pur (dcOf u_248)) fun clocks_241 => (Mn.bnd (Mn.bnd (Mn.pur ([] : List (T4 Str Str Int Int))) fun l_250 => gd (List.length l_250 ≤ 1000) (Mn.pur l_250)) fun notes_249 => (Mn.bnd (Mn.bnd (Mn.bnd (Mn.bnd (Mn.bnd (Mn.pur (1 : Int)) fun x_257 => Mn.bnd (Mn.bnd (Mn.pur (7 : Int)) fun x_255 => Mn.bnd (Mn.bnd (Mn.pur (13 : Int)) fun x_253 => Mn.bnd (Mn.bnd (Mn.pur (39 : Int)) fun x_251 => Mn.bnd (Mn.pur ([] : List Int)) fun y_252 => Mn.pur (x_251 :: y_252)) fun y_254 => Mn.pur (x_253 :: y_254)) fun y_256 => Mn.pur (x_255 :: y_256)) fun y_258 => Mn.pur (x_257 :: y_258)) fun l_259 => gd (List.length l_259 ≤ 1000) (Mn.pur l_259)) fun x_261 => Mn.bnd (Mn.bnd (Mn.pur (4 : Int)) fun p_260 => m__law_next cl (some nm) p_260) fun y_262 => lift (atI x_261 y_262)) fun x_264 => Mn.bnd (Mn.bnd (Mn.pur (40 : Int)) fun p_263 => m__law_next cl (some nm) p_263) fun y_265 => Mn.pur (x_264, y_265)) fun p_266 => (andThen (Mn.bnd (Mn.bnd (Mn.bnd (Mn.bnd (Mn.bnd (Mn.bnd (Mn.pur (1 : Int)) fun x_274 => Mn.bnd (Mn.bnd (Mn.pur (6 : Int)) fun p_273 => m__law_next cl (some nm) p_273) fun y_275 => Mn.pur (x_274 + y_275)) fun x_283 => Mn.bnd (Mn.bnd (Mn.bnd (Mn.pur (1 : Int)) fun x_277 => Mn.bnd (Mn.bnd (Mn.pur (14 : Int)) fun p_276 => m__law_next cl (some nm) p_276) fun y_278 => Mn.pur (x_277 + y_278)) fun x_281 => Mn.bnd (Mn.bnd (Mn.pur (40 : Int)) fun x_279 => Mn.bnd (Mn.pur ([] : List Int)) fun y_280 => Mn.pur (x_279 :: y_280)) fun y_282 => Mn.pur (x_281 :: y_282)) fun y_284 => Mn.pur (x_283 :: y_284)) fun l_285 => gd (List.length l_285 ≤ 1000) (Mn.pur l_285)) fun x_287 => Mn.bnd (Mn.bnd (Mn.pur (3 : Int)) fun p_286 => m__law_next cl (some nm) p_286) fun y_288 => lift (atI x_287 y_288)) fun n_289 => gd (-(2 ^ 62) ≤ n_289 ∧ n_289 < 2 ^ 62) (Mn.pur (upTo 0 (Int.toNat n_289) 1))) fun w_403 => forL (fun (t_290 : (Dc Str Int) × (List (T4 Str Str Int Int))) (a_291 : Int) => ((Mn.bnd (Mn.bnd (Mn.pur voices_230) fun x_295 => Mn.bnd (Mn.bnd (Mn.bnd (Mn.pur voices_230) fun u_294 => Mn.pur ((List.length u_294 : Nat) : Int)) fun p_293 => m__law_next cl (some nm) p_293) fun y_296 => lift (atI x_295 y_296)) fun voice_292 => (Mn.bnd (Mn.bnd (Mn.bnd (Mn.pur voice_292) fun y_298 => lift (List.lookup y_298 t_290.1.l)) fun x_300 => Mn.bnd (Mn.bnd (Mn.pur (3 : Int)) fun p_299 => m__law_next cl (some nm) p_299) fun y_301 => Mn.pur (x_300 + y_301)) fun begins_297 => (Mn.bnd (Mn.bnd (Mn.bnd (Mn.pur begins_297) fun x_302 => Mn.bnd (Mn.pur (1 : Int)) fun y_303 => Mn.pur (x_302 + y_303)) fun x_305 => Mn.bnd (Mn.bnd (Mn.pur (5 : Int)) fun p_304 => m__law_next cl (some nm) p_304) fun y_306 => Mn.pur (x_305 + y_306)) fun x_307 => Mn.bnd (Mn.pur voice_292) fun y_308 => gd (List.length t_290.1.l < 100000) (Mn.bnd (Mn.pur (dcP t_290.1 y_308 x_307)) fun clocks_309 => (Mn.bnd (Mn.bnd (Mn.bnd (Mn.bnd (Mn.pur names_220) fun x_317 => Mn.bnd (Mn.bnd (Mn.bnd (Mn.pur p_266.2) fun x_313 => Mn.bnd (Mn.bnd (Mn.pur p_266.1) fun x_311 => Mn.bnd (Mn.pur a_291) fun y_312 => gd (ON.MulOk x_311 y_312) (Mn.pur (x_311 * y_312))) fun y_314 => Mn.pur (x_313 + y_314)) fun x_315 => Mn.bnd (Mn.pur (40 : Int)) fun y_316 => gd (0 < y_316) (Mn.pur (x_315 % y_316))) fun y_318 => lift (atI x_317 y_318)) fun x_324 => Mn.bnd (Mn.bnd (Mn.pur voice_292) fun x_322 => Mn.bnd (Mn.bnd (Mn.pur begins_297) fun x_320 => Mn.bnd (Mn.bnd (Mn.pur voice_292) fun y_319 => lift (List.lookup y_319 clocks_309.l)) fun y_321 => Mn.pur (x_320, y_321)) fun y_323 => Mn.pur (x_322, y_323)) fun y_325 => Mn.pur (x_324, y_325)) fun t_326 => Mn.pur (⟨t_326.1, t_326.2.1, t_326.2.2.1, t_326.2.2.2⟩ : (T4 Str Str Int Int))) fun e_310 => gd (List.length t_290.2 < 100000) (Mn.bnd (Mn.pur (t_290.2 ++ [e_310])) fun zs_327 => (Mn.pur (.nx (clocks_309, zs_327))))))))) : Sm (Fl ((Dc Str Int) × (List (T4 Str Str Int Int))) ((Dc Str Int) × (List (T4 Str Str Int Int))) (T3 (Tl (T4 Str Str Int Int)) (Tl (T6 Str Str Str (Tl Int) Int Int)) (Option (Str × Str)))))) w_403 (clocks_241, notes_249) : Sm (Fl ((Dc Str Int) × (List (T4 Str Str Int Int))) Empty (T3 (Tl (T4 Str Str Int Int)) (Tl (T6 Str Str Str (Tl Int) Int Int)) (Option (Str × Str))))) fun t_290 => (Mn.bnd (Mn.bnd (Mn.bnd (Mn.pur t_290.2) fun u_330 => Mn.pur ((List.length u_330 : Nat) : Int)) fun p_329 => m__law_next cl (some nm) p_329) fun turn_328 => (Mn.bnd (Mn.bnd (Mn.bnd (Mn.pur t_290.2) fun x_333 => Mn.bnd (Mn.bnd (Mn.pur turn_328) fun i_332 => Mn.pur (some i_332)) fun l_334 => Mn.bnd (Mn.pur (none : Option Int)) fun h_335 => Mn.pur (cutL x_333 l_334 h_335)) fun x_340 => Mn.bnd (Mn.bnd (Mn.pur t_290.2) fun x_337 => Mn.bnd (Mn.pur (none : Option Int)) fun l_338 => Mn.bnd (Mn.bnd (Mn.pur turn_328) fun i_336 => Mn.pur (some i_336)) fun h_339 => Mn.pur (cutL x_337 l_338 h_339)) fun y_341 => gd (List.length x_340 + List.length y_341 ≤ sizeLine) (Mn.pur (x_340 ++ y_341))) fun notes_331 => (Mn.bnd (Mn.bnd (Mn.bnd (Mn.bnd (Mn.bnd (Mn.bnd (Mn.pur (6 : Int)) fun p_345 => m__law_next cl (some nm) p_345) fun x_351 => Mn.bnd (Mn.bnd (Mn.bnd (Mn.pur (20 : Int)) fun p_346 => m__law_next cl (some nm) p_346) fun x_349 => Mn.bnd (Mn.bnd (Mn.pur (80 : Int)) fun x_347 => Mn.bnd (Mn.pur ([] : List Int)) fun y_348 => Mn.pur (x_347 :: y_348)) fun y_350 => Mn.pur (x_349 :: y_350)) fun y_352 => Mn.pur (x_351 :: y_352)) fun l_353 => gd (List.length l_353 ≤ 1000) (Mn.pur l_353)) fun x_355 => Mn.bnd (Mn.bnd (Mn.pur (3 : Int)) fun p_354 => m__law_next cl (some nm) p_354) fun y_356 => lift (atI x_355 y_356)) fun x_361 => Mn.bnd (Mn.bnd (Mn.bnd (Mn.bnd (Mn.pur notes_331) fun u_357 => Mn.pur ((List.length u_357 : Nat) : Int)) fun x_358 => Mn.bnd (Mn.pur (1 : Int)) fun y_359 => Mn.pur (decide (y_359 < x_358))) fun u_360 => Mn.pur (if u_360 then (1 : Int) else 0)) fun y_362 => gd (ON.MulOk x_361 y_362) (Mn.pur (x_361 * y_362))) fun far_342 => (Mn.bnd (Mn.bnd (Mn.bnd (Mn.pur far_342) fun n_364 => gd (-(2 ^ 62) ≤ n_364 ∧ n_364 < 2 ^ 62) (Mn.pur (upTo 0 (Int.toNat n_364) 1))) fun w_367 => gd (List.length w_367 ≤ 100000) (compL (fun (a_365 : Int) => (Mn.pur true)) (fun (a_365 : Int) => (Mn.bnd (Mn.pur notes_331) fun p_366 => m__law_fitting cl (some nm) p_366)) w_367)) fun ties_363 => (Mn.bnd (Mn.bnd (Mn.pur ()) fun k_369 => Mn.pur (none : (Option (Str × Str)))) fun home_368 => (andThen (Mn.bnd (Mn.bnd (Mn.bnd (Mn.bnd (Mn.pur notes_331) fun u_370 => Mn.pur ((List.length u_370 : Nat) : Int)) fun x_371 => Mn.bnd (Mn.pur (1 : Int)) fun y_372 => Mn.pur (decide (y_372 < x_371))) fun b_376 => cnd b_376 (Mn.bnd (Mn.bnd (Mn.pur (2 : Int)) fun p_373 => m__law_next cl (some nm) p_373) fun x_374 => Mn.bnd (Mn.pur (1 : Int)) fun y_375 => Mn.pur (decide (x_374 = y_375))) (Mn.pur false)) fun b_377 => cnd b_377 (Mn.bnd (Mn.bnd (Mn.bnd (Mn.bnd (Mn.bnd (Mn.pur notes_331) fun x_380 => Mn.bnd (Mn.pur (0 : Int)) fun y_381 => lift (atI x_380 y_381)) fun x_382 => Mn.pur x_382.a) fun x_392 => Mn.bnd (Mn.bnd (Mn.bnd (Mn.pur notes_331) fun x_389 => Mn.bnd (Mn.bnd (Mn.pur (1 : Int)) fun x_387 => Mn.bnd (Mn.bnd (Mn.bnd (Mn.bnd (Mn.pur notes_331) fun u_384 => Mn.pur ((List.length u_384 : Nat) : Int)) fun x_385 => Mn.bnd (Mn.pur (1 : Int)) fun y_386 => Mn.pur (x_385 - y_386)) fun p_383 => m__law_next cl (some nm) p_383) fun y_388 => Mn.pur (x_387 + y_388)) fun y_390 => lift (atI x_389 y_390)) fun x_391 => Mn.pur x_391.a) fun y_393 => Mn.pur (x_392, y_393)) fun k_394 => Mn.pur (some k_394 : (Option (Str × Str)))) fun home_379 => (Mn.pur (.nx home_379))) (Mn.pur (.nx home_368)) : Sm (Fl ((Option (Str × Str))) Empty (T3 (Tl (T4 Str Str Int Int)) (Tl (T6 Str Str Str (Tl Int) Int Int)) (Option (Str × Str))))) fun t_378 => (Mn.bnd (Mn.bnd (Mn.bnd (Mn.bnd (Mn.pur notes_331) fun u_396 => Mn.pur (⟨u_396⟩ : (Tl (T4 Str Str Int Int)))) fun x_400 => Mn.bnd (Mn.bnd (Mn.bnd (Mn.pur ties_363) fun u_397 => Mn.pur (⟨u_397⟩ : (Tl (T6 Str Str Str (Tl Int) Int Int)))) fun x_398 => Mn.bnd (Mn.pur t_378) fun y_399 => Mn.pur (x_398, y_399)) fun y_401 => Mn.pur (x_400, y_401)) fun t_402 => Mn.pur (⟨t_402.1, t_402.2.1, t_402.2.2⟩ : (T3 (Tl (T4 Str Str Int Int)) (Tl (T6 Str Str Str (Tl Int) Int Int)) (Option (Str × Str))))) fun r_395 => Mn.pur (.rt r_395)))))))))))))))
def m__law_good (cl : List Int) (nn : Option (List Str)) : Sm (T3 (Tl (T4 Str Str Int Int)) (Tl (T6 Str Str Str (Tl Int) Int Int)) (Option (Str × Str))) := match nn with | some nm => finS (mb__law_good cl nm) | none => fun _ => none
def mb__law_come_to (p0 : (T3 (Tl (T4 Str Str Int Int)) (Tl (T6 Str Str Str (Tl Int) Int Int)) (Option (Str × Str)))) (p1 : Str) : Option (Fl Empty Empty (List Str)) := (Mn.bnd (Mn.bnd (Mn.bnd (Mn.pur p1) fun x_405 => Mn.bnd (Mn.pur ([] : List Str)) fun y_406 => Mn.pur (x_405 :: y_406)) fun l_407 => gd (List.length l_407 ≤ 1000) (Mn.pur l_407)) fun found_404 => (Mn.bnd (Mn.pur (0 : Int)) fun at_408 => (andThen (whl (fun (t_409 : (List Str) × Int) => ((Mn.bnd (Mn.pur t_409.2) fun x_411 => Mn.bnd (Mn.bnd (Mn.pur t_409.1) fun u_410 => Mn.pur ((List.length u_410 : Nat) : Int)) fun y_412 => Mn.pur (decide (x_411 < y_412))) : Option Bool)) (fun (t_409 : (List Str) × Int) => ((andThen (Mn.bnd (Mn.bnd (Mn.bnd (Mn.pur p0) fun x_413 => Mn.pur x_413.b) fun w_414 => Mn.pur (Tl.l w_414)) fun w_438 => forL (fun (t_415 : (List Str)) (a_416 : (T6 Str Str Str (Tl Int) Int Int)) => ((andThen (Mn.bnd (Mn.bnd (Mn.bnd (Mn.pur t_415) fun x_417 => Mn.bnd (Mn.pur t_409.2) fun y_418 => lift (atI x_417 y_418)) fun x_421 => Mn.bnd (Mn.bnd (Mn.bnd (Mn.pur a_416) fun x_419 => Mn.pur (⟨x_419.b, x_419.c⟩ : (Str × Str))) fun k_420 => Mn.pur (⟨[k_420.1, k_420.2]⟩ : (Tl Str))) fun y_422 => Mn.pur (decide (x_421 ∈ y_422.l))) fun b_423 => cnd b_423 (Mn.bnd (Mn.bnd (Mn.pur t_415) fun x_433 => Mn.bnd (Mn.bnd (Mn.bnd (Mn.bnd (Mn.bnd (Mn.pur a_416) fun x_426 => Mn.pur (⟨x_426.b, x_426.c⟩ : (Str × Str))) fun k_427 => Mn.pur (⟨[k_427.1, k_427.2]⟩ : (Tl Str))) fun w_428 => Mn.pur (Tl.l w_428)) fun w_432 => gd (List.length w_432 ≤ 100000) (compL (fun (a_429 : Str) => (Mn.bnd (Mn.pur a_429) fun x_430 => Mn.bnd (Mn.pur t_415) fun y_431 => Mn.pur (!decide (x_430 ∈ y_431)))) (fun (a_429 : Str) => (Mn.pur a_429)) w_432)) fun y_434 => gd (List.length x_433 + List.length y_434 ≤ sizeLine) (Mn.pur (x_433 ++ y_434))) fun found_425 => (Mn.pur (.nx found_425))) (Mn.pur (.nx t_415)) : Option (Fl ((List Str)) ((List Str)) (List Str))) fun t_424 => (Mn.pur (.nx t_424))) : Option (Fl ((List Str)) ((List Str)) (List Str)))) w_438 t_409.1 : Option (Fl ((List Str)) ((List Str) × Int) (List Str))) fun t_415 => (Mn.bnd (Mn.bnd (Mn.pur t_409.2) fun x_436 => Mn.bnd (Mn.pur (1 : Int)) fun y_437 => Mn.pur (x_436 + y_437)) fun at_435 => (Mn.pur (.nx (t_415, at_435))))) : Option (Fl ((List Str) × Int) ((List Str) × Int) (List Str)))) FU (found_404, at_408) : Option (Fl ((List Str) × Int) Empty (List Str))) fun t_409 => (Mn.bnd (Mn.bnd (Mn.pur t_409.1) fun u_440 => gd (List.length u_440 < 64) (Mn.pur (sortS u_440))) fun r_439 => Mn.pur (.rt r_439)))))
def m__law_come_to (p0 : (T3 (Tl (T4 Str Str Int Int)) (Tl (T6 Str Str Str (Tl Int) Int Int)) (Option (Str × Str)))) (p1 : Str) : Option (List Str) := fin (mb__law_come_to p0 p1)
def mb__law_beats_right (cl : List Int) (nm : List Str) : Sm (Fl Empty Empty Bool) := (Mn.bnd (Mn.pur nm) fun names_441 => (Mn.bnd (Mn.bnd (Mn.pur (9990 : Int)) fun p_443 => m__law_next cl (some nm) p_443) fun begins_442 => (Mn.bnd (Mn.bnd (Mn.bnd (Mn.pur (9999 : Int)) fun x_463 => Mn.bnd (Mn.bnd (Mn.bnd (Mn.pur begins_442) fun x_446 => Mn.bnd (Mn.pur (1 : Int)) fun y_447 => Mn.pur (x_446 + y_447)) fun x_461 => Mn.bnd (Mn.bnd (Mn.bnd (Mn.bnd (Mn.bnd (Mn.pur (3 : Int)) fun x_455 => Mn.bnd (Mn.bnd (Mn.bnd (Mn.pur (9999 : Int)) fun x_451 => Mn.bnd (Mn.pur begins_442) fun y_452 => Mn.pur (x_451 - y_452)) fun x_453 => Mn.bnd (Mn.pur ([] : List Int)) fun y_454 => Mn.pur (x_453 :: y_454)) fun y_456 => Mn.pur (x_455 :: y_456)) fun l_457 => gd (List.length l_457 ≤ 1000) (Mn.pur l_457)) fun x_459 => Mn.bnd (Mn.bnd (Mn.pur (2 : Int)) fun p_458 => m__law_next cl (some nm) p_458) fun y_460 => lift (atI x_459 y_460)) fun p_448 => m__law_next cl (some nm) p_448) fun y_462 => Mn.pur (x_461 + y_462)) fun y_464 => Mn.pur (x_463, y_464)) fun p_465 => Mn.pur (min p_465.1 p_465.2)) fun ends_444 => (Mn.bnd (Mn.bnd (Mn.bnd (Mn.bnd (Mn.bnd (Mn.pur (9990 : Int)) fun p_474 => m__law_next cl (some nm) p_474) fun x_487 => Mn.bnd (Mn.bnd (Mn.pur ends_444) fun x_485 => Mn.bnd (Mn.bnd (Mn.bnd (Mn.bnd (Mn.pur (0 : Int)) fun x_478 => Mn.bnd (Mn.bnd (Mn.pur ends_444) fun x_476 => Mn.bnd (Mn.pur (1 : Int)) fun y_477 => Mn.pur (x_476 - y_477)) fun y_479 => Mn.pur (x_478, y_479)) fun p_480 => Mn.pur (max p_480.1 p_480.2)) fun x_483 => Mn.bnd (Mn.bnd (Mn.pur begins_442) fun x_481 => Mn.bnd (Mn.pur ([] : List Int)) fun y_482 => Mn.pur (x_481 :: y_482)) fun y_484 => Mn.pur (x_483 :: y_484)) fun y_486 => Mn.pur (x_485 :: y_486)) fun y_488 => Mn.pur (x_487 :: y_488)) fun l_489 => gd (List.length l_489 ≤ 1000) (Mn.pur l_489)) fun x_491 => Mn.bnd (Mn.bnd (Mn.pur (4 : Int)) fun p_490 => m__law_next cl (some nm) p_490) fun y_492 => lift (atI x_491 y_492)) fun other_466 => (Mn.bnd (Mn.bnd (Mn.bnd (Mn.pur other_466) fun x_495 => Mn.bnd (Mn.pur (9998 : Int)) fun y_496 => Mn.pur (x_495, y_496)) fun p_497 => Mn.pur (min p_497.1 p_497.2)) fun other_493 => (Mn.bnd (Mn.bnd (Mn.bnd (Mn.pur (9999 : Int)) fun x_517 => Mn.bnd (Mn.bnd (Mn.bnd (Mn.pur other_493) fun x_500 => Mn.bnd (Mn.pur (1 : Int)) fun y_501 => Mn.pur (x_500 + y_501)) fun x_515 => Mn.bnd (Mn.bnd (Mn.bnd (Mn.bnd (Mn.bnd (Mn.pur (2 : Int)) fun x_509 => Mn.bnd (Mn.bnd (Mn.bnd (Mn.pur (9999 : Int)) fun x_505 => Mn.bnd (Mn.pur other_493) fun y_506 => Mn.pur (x_505 - y_506)) fun x_507 => Mn.bnd (Mn.pur ([] : List Int)) fun y_508 => Mn.pur (x_507 :: y_508)) fun y_510 => Mn.pur (x_509 :: y_510)) fun l_511 => gd (List.length l_511 ≤ 1000) (Mn.pur l_511)) fun x_513 => Mn.bnd (Mn.bnd (Mn.pur (2 : Int)) fun p_512 => m__law_next cl (some nm) p_512) fun y_514 => lift (atI x_513 y_514)) fun p_502 => m__law_next cl (some nm) p_502) fun y_516 => Mn.pur (x_515 + y_516)) fun y_518 => Mn.pur (x_517, y_518)) fun p_519 => Mn.pur (min p_519.1 p_519.2)) fun later_498 => (Mn.bnd (Mn.bnd (Mn.bnd (Mn.pur other_493) fun x_521 => Mn.bnd (Mn.pur ends_444) fun y_522 => Mn.pur (decide (x_521 < y_522))) fun b_525 => cnd b_525 (Mn.bnd (Mn.pur begins_442) fun x_523 => Mn.bnd (Mn.pur later_498) fun y_524 => Mn.pur (decide (x_523 < y_524))) (Mn.pur false)) fun due_520 => (Mn.bnd (Mn.bnd (Mn.bnd (Mn.bnd (Mn.pur names_441) fun x_527 => Mn.bnd (Mn.pur (0 : Int)) fun y_528 => lift (atI x_527 y_528)) fun x_535 => Mn.bnd (Mn.bnd (Mn.bnd (Mn.pur names_441) fun x_529 => Mn.bnd (Mn.pur (1 : Int)) fun y_530 => lift (atI x_529 y_530)) fun x_533 => Mn.bnd (Mn.bnd (Mn.pur begins_442) fun x_531 => Mn.bnd (Mn.pur ends_444) fun y_532 => Mn.pur (x_531, y_532)) fun y_534 => Mn.pur (x_533, y_534)) fun y_536 => Mn.pur (x_535, y_536)) fun t_537 => Mn.pur (⟨t_537.1, t_537.2.1, t_537.2.2.1, t_537.2.2.2⟩ : (T4 Str Str Int Int))) fun one_526 => (Mn.bnd (Mn.bnd (Mn.bnd (Mn.bnd (Mn.pur names_441) fun x_539 => Mn.bnd (Mn.pur (2 : Int)) fun y_540 => lift (atI x_539 y_540)) fun x_548 => Mn.bnd (Mn.bnd (Mn.bnd (Mn.pur names_441) fun x_542 => Mn.bnd (Mn.bnd (Mn.pur (3 : Int)) fun p_541 => m__law_next cl (some nm) p_541) fun y_543 => lift (atI x_542 y_543)) fun x_546 => Mn.bnd (Mn.bnd (Mn.pur other_493) fun x_544 => Mn.bnd (Mn.pur later_498) fun y_545 => Mn.pur (x_544, y_545)) fun y_547 => Mn.pur (x_546, y_547)) fun y_549 => Mn.pur (x_548, y_549)) fun t_550 => Mn.pur (⟨t_550.1, t_550.2.1, t_550.2.2.1, t_550.2.2.2⟩ : (T4 Str Str Int Int))) fun two_538 => (Mn.bnd (Mn.bnd (Mn.bnd (Mn.bnd (Mn.bnd (Mn.pur one_526) fun x_562 => Mn.bnd (Mn.pur two_538) fun y_563 => Mn.pur (x_562, y_563)) fun p_561 => lift (m_is_overlap p_561.1 p_561.2)) fun x_574 => Mn.bnd (Mn.bnd (Mn.bnd (Mn.bnd (Mn.pur two_538) fun x_565 => Mn.bnd (Mn.pur one_526) fun y_566 => Mn.pur (x_565, y_566)) fun p_564 => lift (m_is_overlap p_564.1 p_564.2)) fun x_572 => Mn.bnd (Mn.bnd (Mn.bnd (Mn.bnd (Mn.pur one_526) fun x_568 => Mn.bnd (Mn.pur one_526) fun y_569 => Mn.pur (x_568, y_569)) fun p_567 => lift (m_is_overlap p_567.1 p_567.2)) fun x_570 => Mn.bnd (Mn.pur ([] : List Bool)) fun y_571 => Mn.pur (x_570 :: y_571)) fun y_573 => Mn.pur (x_572 :: y_573)) fun y_575 => Mn.pur (x_574 :: y_575)) fun l_576 => gd (List.length l_576 ≤ 1000) (Mn.pur l_576)) fun told_551 => (Mn.bnd (Mn.bnd (Mn.bnd (Mn.pur told_551) fun x_585 => Mn.bnd (Mn.bnd (Mn.bnd (Mn.pur due_520) fun x_582 => Mn.bnd (Mn.bnd (Mn.pur due_520) fun x_580 => Mn.bnd (Mn.bnd (Mn.pur true) fun x_578 => Mn.bnd (Mn.pur ([] : List Bool)) fun y_579 => Mn.pur (x_578 :: y_579)) fun y_581 => Mn.pur (x_580 :: y_581)) fun y_583 => Mn.pur (x_582 :: y_583)) fun l_584 => gd (List.length l_584 ≤ 1000) (Mn.pur l_584)) fun y_586 => gd (Shp (enc x_585) = true ∧ Shp (enc y_586) = true) (Mn.pur (deqv (enc x_585) (enc y_586)))) fun b_592 => cnd b_592 (Mn.bnd (Mn.bnd (Mn.pur told_551) fun w_590 => gd (List.length w_590 ≤ 100000) (compL (fun (a_588 : Bool) => (Mn.pur true)) (fun (a_588 : Bool) => (Mn.bnd (Mn.pur a_588) fun i_589 => Mn.pur (kit "bool" (enc i_589)))) w_590)) fun u_591 => Mn.pur (List.all u_591 id)) (Mn.pur false)) fun r_577 => Mn.pur (.rt r_577))))))))))))
def m__law_beats_right (cl : List Int) (nn : Option (List Str)) : Sm Bool := match nn with | some nm => finS (mb__law_beats_right cl nm) | none => fun _ => none
def mb__law_parts_right (p0 : (T3 (Tl (T4 Str Str Int Int)) (Tl (T6 Str Str Str (Tl Int) Int Int)) (Option (Str × Str)))) : Option (Fl Empty Empty Bool) := (Mn.bnd (Mn.bnd (Mn.pur ([] : List (List Str))) fun l_594 => gd (List.length l_594 ≤ 1000) (Mn.pur l_594)) fun due_593 => (andThen (Mn.bnd (Mn.bnd (Mn.bnd (Mn.bnd (Mn.bnd (Mn.pur p0) fun x_595 => Mn.pur x_595.a) fun w_596 => Mn.pur (Tl.l w_596)) fun w_599 => gd (List.length w_599 ≤ 100000) (compL (fun (a_597 : (T4 Str Str Int Int)) => (Mn.pur true)) (fun (a_597 : (T4 Str Str Int Int)) => (Mn.bnd (Mn.pur a_597) fun x_598 => Mn.pur x_598.a)) w_599)) fun u_600 => gd (List.length u_600 < 64) (Mn.pur (sortS u_600))) fun w_652 => forL (fun (t_602 : (List (List Str))) (a_603 : Str) => ((andThen (Mn.bnd (Mn.bnd (Mn.bnd (Mn.bnd (Mn.bnd (Mn.pur p0) fun x_605 => Mn.bnd (Mn.pur a_603) fun y_606 => Mn.pur (x_605, y_606)) fun p_604 => lift (m__law_come_to p_604.1 p_604.2)) fun x_607 => Mn.bnd (Mn.pur (0 : Int)) fun y_608 => lift (atI x_607 y_608)) fun x_609 => Mn.bnd (Mn.pur a_603) fun y_610 => Mn.pur (decide (x_609 = y_610))) fun b_611 => cnd b_611 (Mn.bnd (Mn.bnd (Mn.bnd (Mn.pur p0) fun x_615 => Mn.bnd (Mn.pur a_603) fun y_616 => Mn.pur (x_615, y_616)) fun p_614 => lift (m__law_come_to p_614.1 p_614.2)) fun e_613 => gd (List.length t_602 < 100000) (Mn.bnd (Mn.pur (t_602 ++ [e_613])) fun zs_617 => (Mn.pur (.nx zs_617)))) (Mn.pur (.nx t_602)) : Option (Fl ((List (List Str))) ((List (List Str))) Bool)) fun t_612 => (Mn.pur (.nx t_612))) : Option (Fl ((List (List Str))) ((List (List Str))) Bool))) w_652 due_593 : Option (Fl ((List (List Str))) Empty Bool)) fun t_602 => (Mn.bnd (Mn.bnd (Mn.pur p0) fun u_619 => gd (shw (enc u_619) = true) (Mn.pur (enc u_619).py.shown)) fun kept_618 => (andThen (Mn.bnd (Mn.bnd (Mn.pur (2 : Int)) fun n_620 => gd (-(2 ^ 62) ≤ n_620 ∧ n_620 < 2 ^ 62) (Mn.pur (upTo 0 (Int.toNat n_620) 1))) fun w_651 => forL (fun (t_621 : Unit) (a_622 : Int) => ((Mn.bnd (Mn.bnd (Mn.pur p0) fun p_624 => lift (m_parts_of p_624)) fun found_623 => (andThen (Mn.bnd (Mn.bnd (Mn.bnd (Mn.bnd (Mn.pur found_623) fun i_625 => Mn.pur (kit "list" (enc i_625))) fun b_626 => Mn.pur (!b_626)) fun b_640 => cnd b_640 (Mn.pur true) (Mn.bnd (Mn.bnd (Mn.pur found_623) fun x_627 => Mn.bnd (Mn.pur t_602) fun y_628 => gd (Shp (enc x_627) = true ∧ Shp (enc y_628) = true) (Mn.pur (!deqv (enc x_627) (enc y_628)))) fun b_639 => cnd b_639 (Mn.pur true) (Mn.bnd (Mn.bnd (Mn.bnd (Mn.pur found_623) fun w_636 => gd (List.length w_636 ≤ 100000) (compL (fun (a_634 : (List Str)) => (Mn.pur true)) (fun (a_634 : (List Str)) => (Mn.bnd (Mn.pur a_634) fun i_635 => Mn.pur (kit "list" (enc i_635)))) w_636)) fun u_637 => Mn.pur (List.all u_637 id)) fun b_638 => Mn.pur (!b_638)))) fun b_641 => cnd b_641 (Mn.bnd (Mn.pur false) fun r_643 => Mn.pur (.rt r_643)) (Mn.pur (.nx ())) : Option (Fl (Unit) (Unit) Bool)) fun t_642 => (gd (∀ xs ∈ found_623, List.length xs < 100000) (Mn.bnd (Mn.pur (List.map (fun xs => xs ++ [("more" : Str)]) found_623)) fun found_644 => (gd (List.length found_644 < 100000) (Mn.bnd (Mn.pur (found_644 ++ [[]])) fun zs_646 => (Mn.pur (.nx ())))))))) : Option (Fl (Unit) (Unit) Bool))) w_651 () : Option (Fl (Unit) Empty Bool)) fun t_621 => (Mn.bnd (Mn.bnd (Mn.bnd (Mn.pur p0) fun u_648 => gd (shw (enc u_648) = true) (Mn.pur (enc u_648).py.shown)) fun x_649 => Mn.bnd (Mn.pur kept_618) fun y_650 => Mn.pur (decide (x_649 = y_650))) fun r_647 => Mn.pur (.rt r_647))))))
def m__law_parts_right (p0 : (T3 (Tl (T4 Str Str Int Int)) (Tl (T6 Str Str Str (Tl Int) Int Int)) (Option (Str × Str)))) : Option Bool := fin (mb__law_parts_right p0)
def mb__law_step (p0 : (List Int)) : Sm (Fl Empty Empty Bool) := (begun bhF (Cells.cells p0) fun nm_653 => (Mn.bnd (Mn.bnd (Mn.pur ()) fun (p_655 : Unit) => m__law_good (Cells.cells p0) (some nm_653) ) fun song_654 => (andThen (Mn.bnd (Mn.bnd (Mn.bnd (Mn.bnd (Mn.pur song_654) fun x_656 => Mn.pur x_656.a) fun x_658 => Mn.bnd (Mn.pur (none : Option Int)) fun l_659 => Mn.bnd (Mn.bnd (Mn.pur (12 : Int)) fun i_657 => Mn.pur (some i_657)) fun h_660 => Mn.pur (⟨cutL (Tl.l x_658) l_659 h_660⟩ : (Tl (T4 Str Str Int Int)))) fun w_661 => Mn.pur (Tl.l w_661)) fun w_706 => forL (fun (t_662 : Unit) (a_663 : (T4 Str Str Int Int)) => ((andThen (Mn.bnd (Mn.bnd (Mn.bnd (Mn.bnd (Mn.pur song_654) fun x_664 => Mn.pur x_664.a) fun x_666 => Mn.bnd (Mn.pur (none : Option Int)) fun l_667 => Mn.bnd (Mn.bnd (Mn.pur (12 : Int)) fun i_665 => Mn.pur (some i_665)) fun h_668 => Mn.pur (⟨cutL (Tl.l x_666) l_667 h_668⟩ : (Tl (T4 Str Str Int Int)))) fun w_669 => Mn.pur (Tl.l w_669)) fun w_683 => forL (fun (t_670 : Unit) (a_671 : (T4 Str Str Int Int)) => ((andThen (Mn.bnd (Mn.bnd (Mn.bnd (Mn.bnd (Mn.pur a_663) fun x_673 => Mn.bnd (Mn.pur a_671) fun y_674 => Mn.pur (x_673, y_674)) fun p_672 => lift (m_is_overlap p_672.1 p_672.2)) fun x_678 => Mn.bnd (Mn.bnd (Mn.bnd (Mn.pur a_663) fun x_676 => Mn.bnd (Mn.pur a_671) fun y_677 => Mn.pur (x_676, y_677)) fun p_675 => lift (m__law_overlap p_675.1 p_675.2)) fun y_679 => gd (Shp (enc x_678) = true ∧ Shp (enc y_679) = true) (Mn.pur (!deqv (enc x_678) (enc y_679)))) fun b_680 => cnd b_680 (Mn.bnd (Mn.pur false) fun r_682 => Mn.pur (.rt r_682)) (Mn.pur (.nx ())) : Sm (Fl (Unit) (Unit) Bool)) fun t_681 => (Mn.pur (.nx ()))) : Sm (Fl (Unit) (Unit) Bool))) w_683 () : Sm (Fl (Unit) (Unit) Bool)) fun t_670 => (Mn.pur (.nx ()))) : Sm (Fl (Unit) (Unit) Bool))) w_706 () : Sm (Fl (Unit) Empty Bool)) fun t_662 => (andThen (Mn.bnd (Mn.bnd (Mn.pur (6 : Int)) fun n_684 => gd (-(2 ^ 62) ≤ n_684 ∧ n_684 < 2 ^ 62) (Mn.pur (upTo 0 (Int.toNat n_684) 1))) fun w_705 => forL (fun (t_685 : Unit) (a_686 : Int) => ((andThen (Mn.bnd (Mn.bnd (Mn.bnd (Mn.pur ()) fun (p_687 : Unit) => m__law_beats_right (Cells.cells p0) (some nm_653) ) fun b_688 => Mn.pur (!b_688)) fun b_689 => cnd b_689 (Mn.bnd (Mn.pur false) fun r_691 => Mn.pur (.rt r_691)) (Mn.pur (.nx ())) : Sm (Fl (Unit) (Unit) Bool)) fun t_690 => (Mn.pur (.nx ()))) : Sm (Fl (Unit) (Unit) Bool))) w_705 () : Sm (Fl (Unit) Empty Bool)) fun t_685 => (Mn.bnd (Mn.bnd (Mn.bnd (Mn.pur song_654) fun p_693 => lift (m__law_parts_right p_693)) fun b_704 => cnd b_704 (Mn.bnd (Mn.bnd (Mn.bnd (Mn.bnd (Mn.pur song_654) fun x_695 => Mn.pur x_695.a) fun x_701 => Mn.bnd (Mn.bnd (Mn.bnd (Mn.bnd (Mn.pur song_654) fun x_696 => Mn.pur x_696.b) fun x_697 => Mn.pur (⟨ev2 (Tl.l x_697)⟩ : (Tl (T6 Str Str Str (Tl Int) Int Int)))) fun x_699 => Mn.bnd (Mn.bnd (Mn.pur ()) fun k_698 => Mn.pur (none : (Option (Str × Str)))) fun y_700 => Mn.pur (x_699, y_700)) fun y_702 => Mn.pur (x_701, y_702)) fun t_703 => Mn.pur (⟨t_703.1, t_703.2.1, t_703.2.2⟩ : (T3 (Tl (T4 Str Str Int Int)) (Tl (T6 Str Str Str (Tl Int) Int Int)) (Option (Str × Str))))) fun p_694 => lift (m__law_parts_right p_694)) (Mn.pur false)) fun r_692 => Mn.pur (.rt r_692))))))
def m__law_step (p0 : (List Int)) : Option Bool := fin0 (mb__law_step p0)
def mb_law (p0 : Sc) : Option (Fl Empty Empty Bool) := (andThen (Mn.bnd (Mn.bnd (Mn.bnd (Mn.pur (0 : Int)) fun x_714 => Mn.bnd (Mn.bnd (Mn.bnd (Mn.bnd (Mn.pur (1 : Int)) fun x_709 => Mn.bnd (Mn.bnd (Mn.pur p0) fun u_708 => Mn.pur ((List.length (Sc.ns u_708) : Nat) : Int)) fun y_710 => Mn.pur (x_709, y_710)) fun p_711 => Mn.pur (max p_711.1 p_711.2)) fun x_712 => Mn.bnd (Mn.pur (12 : Int)) fun y_713 => Mn.pur (x_712, y_713)) fun y_715 => Mn.pur (x_714, y_715)) fun n_716 => gd (Rg3 n_716.1 n_716.2.1 n_716.2.2) (Mn.pur (upTo n_716.1 (rg3 n_716.1 n_716.2.1 n_716.2.2) n_716.2.2))) fun w_744 => forL (fun (t_717 : Unit) (a_718 : Int) => ((andThen (Mn.bnd (Mn.bnd (Mn.bnd (Mn.bnd (Mn.pur p0) fun x_724 => Mn.bnd (Mn.bnd (Mn.pur a_718) fun i_720 => Mn.pur (some i_720)) fun l_725 => Mn.bnd (Mn.bnd (Mn.bnd (Mn.pur a_718) fun x_721 => Mn.bnd (Mn.pur (12 : Int)) fun y_722 => Mn.pur (x_721 + y_722)) fun i_723 => Mn.pur (some i_723)) fun h_726 => Mn.pur (cutL (Sc.ns x_724) l_725 h_726)) fun p_719 => lift (m__law_step p_719)) fun b_727 => Mn.pur (!b_727)) fun b_728 => cnd b_728 (Mn.bnd (Mn.pur false) fun r_730 => Mn.pur (.rt r_730)) (Mn.pur (.nx ())) : Option (Fl (Unit) (Unit) Bool)) fun t_729 => (Mn.pur (.nx ()))) : Option (Fl (Unit) (Unit) Bool))) w_744 () : Option (Fl (Unit) Empty Bool)) fun t_717 => (Mn.bnd (Mn.bnd (Mn.bnd (Mn.bnd (Mn.bnd (Mn.bnd (Mn.pur ([] : List (T4 Str Str Int Int))) fun l_733 => gd (List.length l_733 ≤ 1000) (Mn.pur (⟨l_733⟩ : (Tl (T4 Str Str Int Int))))) fun x_738 => Mn.bnd (Mn.bnd (Mn.bnd (Mn.pur ([] : List (T6 Str Str Str (Tl Int) Int Int))) fun l_734 => gd (List.length l_734 ≤ 1000) (Mn.pur (⟨l_734⟩ : (Tl (T6 Str Str Str (Tl Int) Int Int))))) fun x_736 => Mn.bnd (Mn.bnd (Mn.pur ()) fun k_735 => Mn.pur (none : (Option (Str × Str)))) fun y_737 => Mn.pur (x_736, y_737)) fun y_739 => Mn.pur (x_738, y_739)) fun t_740 => Mn.pur (⟨t_740.1, t_740.2.1, t_740.2.2⟩ : (T3 (Tl (T4 Str Str Int Int)) (Tl (T6 Str Str Str (Tl Int) Int Int)) (Option (Str × Str))))) fun p_732 => lift (m_parts_of p_732)) fun x_742 => Mn.bnd (Mn.bnd (Mn.pur ([] : List (List Str))) fun l_741 => gd (List.length l_741 ≤ 1000) (Mn.pur l_741)) fun y_743 => gd (Shp (enc x_742) = true ∧ Shp (enc y_743) = true) (Mn.pur (deqv (enc x_742) (enc y_743)))) fun r_731 => Mn.pur (.rt r_731)))
def m_law (p0 : Sc) : Option Bool := fin (mb_law p0)
end K11

set_option Elab.async false
set_option linter.all false
set_option maxRecDepth 100000
set_option maxHeartbeats 1000000
namespace K11
open PySem PySem.Spec PyProof.Rows L2 ON

def nok (x : Str) : Bool := PyData.strOk x && decide (x.length ≤ 8)
theorem nok_s {x : Str} (h : nok x = true) : PyData.strOk x = true := (Bool.and_eq_true_iff.mp h).1
theorem nok_l {x : Str} (h : nok x = true) : x.length ≤ 8 := of_decide_eq_true (Bool.and_eq_true_iff.mp h).2
theorem nok_of {x : Str} (h : PyData.strOk x = true) (hl : x.length ≤ 8) : nok x = true := Bool.and_eq_true_iff.mpr ⟨h, decide_eq_true hl⟩
abbrev Nt := T4 Str Str Int Int
abbrev Ti := T6 Str Str Str (Tl Int) Int Int
abbrev Sg := T3 (Tl Nt) (Tl Ti) (Option (Str × Str))
theorem szl {n : Nat} (h : n ≤ 100000) : n ≤ sizeLine := Nat.le_trans h (by decide)
theorem fr {ρ : Type} [Enc ρ] (r : ρ) : fin (some (.rt r) : Option (Fl Empty Empty ρ)) = some r := rfl
/-! ### notes that overlap -/
def ov (n m : Nt) : Bool := decide (max n.c m.c < min n.d m.d)
theorem ov_sym (n m : Nt) : ov n m = ov m n := by unfold ov; rw [Int.max_comm, Int.min_comm]
structure SmN (n : Nt) : Prop where
  sa : nok n.a = true
  sb : nok n.b = true
  c0 : 0 ≤ n.c
  c1 : n.c ≤ 400
  d0 : 0 ≤ n.d
  d1 : n.d ≤ 400
theorem SmN.ok {n : Nt} (h : SmN n) : EqD.ok n = true := by
  show (PyData.strOk n.a && PyData.strOk n.b && true && true) = true
  rw [nok_s h.sa, nok_s h.sb]; rfl
theorem overlap_eq (n m : Nt) : m_is_overlap n m = some (ov n m) := by
  unfold m_is_overlap mb_is_overlap
  simp only [pur_opt, sbO]
  exact fr _
theorem mem_upTo {lo b : Int} {k : Nat} : b ∈ upTo lo k 1 ↔ lo ≤ b ∧ b < lo + k := by
  unfold ON.upTo
  rw [List.mem_map]
  constructor
  · rintro ⟨i, hi, rfl⟩
    rw [List.mem_range] at hi
    omega
  · rintro ⟨h1, h2⟩
    exact ⟨(b - lo).toNat, List.mem_range.mpr (by omega), by omega⟩
theorem compL_filter {α : Type} {p : α → Option Bool} {g : α → Option α} {q : α → Bool} : ∀ xs : List α, (∀ x ∈ xs, p x = some (q x) ∧ g x = some x) → compL p g xs = some (xs.filter q)
  | [], _ => by rw [compL_nil, pur_opt]; rfl
  | x :: xs, h => by
    obtain ⟨h1, h2⟩ := h x (.head _)
    have ih := compL_filter xs fun y hy => h y (.tail _ hy)
    rw [compL_cons, h1, sbO, List.filter_cons]
    cases q x with
    | false => exact ih
    | true =>
      show Mn.bnd (g x) _ = _
      rw [h2, sbO, ih, sbO, pur_opt]; rfl
theorem cndF (b c : Bool) : (cnd b (some c) (some false) : Option Bool) = some (b && c) := by cases b <;> rfl
theorem cndT (b c : Bool) : (cnd b (some true) (some c) : Option Bool) = some (b || c) := by cases b <;> rfl
theorem filter_any {α : Type} [DecidableEq α] (q : α → Bool) (xs : List α) : (!decide (xs.filter q = [])) = xs.any q := by
  induction xs with
  | nil => rfl
  | cons x xs ih =>
    rw [List.filter_cons, List.any_cons]
    cases q x with
    | false => exact ih
    | true => simp
theorem lov_eq {n m : Nt} (h : SmN n) : m__law_overlap n m = some (ov n m) := by
  have h1 := h.c0
  have h2 := h.d1
  have h3 := h.d0
  have h4 := h.c1
  unfold m__law_overlap mb__law_overlap
  simp only [pur_opt, sbO]
  have em : min n.d 400 = n.d := by omega
  rw [em, gd_y (by omega), sbO, gd_y (by rw [upTo_len]; omega), compL_filter (q := fun b => decide (m.c ≤ b) && decide (b < m.d)) _ (fun b _ => ⟨cndF _ _, rfl⟩), sbO]
  have s1 : ∀ xs : List Int, Shp (enc xs) = true := fun xs => EqD.shp xs (List.all_eq_true.mpr fun _ _ => rfl)
  simp only [gd_y (show ([] : List Int).length ≤ 1000 by decide), sbO, gd_y (And.intro (s1 _) (s1 _)), EqD.deqv]
  rw [fr]
  congr 1
  have e := filter_any (fun b => decide (m.c ≤ b) && decide (b < m.d)) (upTo n.c (Int.toNat (n.d - n.c)) 1)
  have e2 : (!@decide (List.filter (fun b => decide (m.c ≤ b) && decide (b < m.d)) (upTo n.c (Int.toNat (n.d - n.c)) 1) = []) (EqD.dec _ _)) = (upTo n.c (Int.toNat (n.d - n.c)) 1).any (fun b => decide (m.c ≤ b) && decide (b < m.d)) := by
    rw [← e]
  rw [e2]
  unfold ov
  rw [Bool.eq_iff_iff, List.any_eq_true, decide_eq_true_eq]
  constructor
  · rintro ⟨b, hb, hq⟩
    rw [mem_upTo] at hb
    rw [Bool.and_eq_true, decide_eq_true_eq, decide_eq_true_eq] at hq
    omega
  · intro hlt
    refine ⟨max n.c m.c, mem_upTo.mpr (by omega), ?_⟩
    rw [Bool.and_eq_true, decide_eq_true_eq, decide_eq_true_eq]
    omega
/-! ### notes -/
theorem cut_take {α : Type} (xs : List α) (k : Nat) (h : k ≤ xs.length) : cutL xs none (some (k : Int)) = xs.take k := by
  unfold cutL
  rw [HT.sIx_nat, HT.sIx_none, Nat.min_eq_left h, Nat.sub_zero, List.drop_zero]
theorem cut_drop {α : Type} (xs : List α) (k : Nat) (h : k ≤ xs.length) : cutL xs (some (k : Int)) none = xs.drop k := by
  unfold cutL
  rw [HT.sIx_nat, HT.sIx_none, Nat.min_eq_left h, List.take_of_length_le (by rw [List.length_drop]; omega)]
def cl_ (ns : List Nt) (n : Nt) : Bool := decide (n.d ≤ n.c) || (decide (n.a ∈ ns.map fun m => m.a) || ns.any fun m => decide (m.b = n.b) && ov m n)
def nBad (ns : List Nt) (k : Nat) : Bool := match ns[k]? with
  | some n => decide (39 < k) || cl_ (ns.take k) n
  | none => false
theorem shpL {xs : List Nt} (h : ∀ n ∈ xs, SmN n) : Shp (enc xs) = true := EqD.shp xs (List.all_eq_true.mpr fun n hn => (h n hn).ok)
/-! ### the first that is bad -/
theorem forL_find {α ρ l : Type} {body : Unit → α → Option (Fl Unit Unit ρ)} (bad : α → Bool) (r : α → ρ) : ∀ (xs : List α), (∀ x ∈ xs, body () x = some (if bad x then .rt (r x) else .nx ())) → (forL body xs () : Option (Fl Unit l ρ)) = some (match xs.find? bad with | some x => .rt (r x) | none => .nx ())
  | [], _ => by rw [forL_nil, pur_opt]; rfl
  | x :: xs, h => by
    rw [forL_cons, h x (.head _), List.find?_cons, sbO]
    cases bad x with
    | true => exact pur_opt _
    | false => exact forL_find bad r xs fun y hy => h y (.tail _ hy)
def fN (ns : List Nt) : Option Int := (upTo 0 ns.length 1).find? fun k => nBad ns k.toNat
theorem zip_find {α : Type} (f : Int → Bool) (xs : List α) : ((List.zip (upTo 0 xs.length 1) xs).find? fun x => f x.1).map (·.1) = (upTo 0 xs.length 1).find? f := by
  have e : (List.zip (upTo 0 xs.length 1) xs).map (·.1) = upTo 0 xs.length 1 := List.map_fst_zip (by rw [upTo_len]; omega)
  conv => rhs; rw [← e, List.find?_map]
  rfl
theorem fN_mem {ns : List Nt} {k : Int} (h : fN ns = some k) : ∃ i : Nat, k = (i : Int) ∧ i < ns.length ∧ nBad ns i = true := by
  have h1 := List.mem_of_find?_eq_some h
  have h2 := List.find?_some h
  rw [mem_upTo] at h1
  exact ⟨k.toNat, by omega, by omega, h2⟩
theorem fN_none {ns : List Nt} (h : fN ns = none) : ∀ i, i < ns.length → nBad ns i = false := fun i hi => by
  have := List.find?_eq_none.mp h (i : Int) (mem_upTo.mpr (by omega))
  simpa using this
theorem names_nd {ns : List Nt} (h : ∀ i, i < ns.length → nBad ns i = false) : (ns.map fun n => n.a).Nodup := by
  rw [List.Nodup, List.pairwise_iff_getElem]
  intro i j hi hj hij e
  rw [List.length_map] at hi hj
  rw [List.getElem_map, List.getElem_map] at e
  have b := h j hj
  unfold nBad cl_ at b
  rw [List.getElem?_eq_getElem hj] at b
  simp only [Bool.or_eq_false_iff, decide_eq_false_iff_not] at b
  refine b.2.2.1 (List.mem_map.mpr ⟨ns[i], ?_, e⟩)
  rw [List.mem_take_iff_getElem]
  exact ⟨i, by omega, rfl⟩
/-! ### notes by their names -/
def fd (ns : List Nt) (z : Str) : Option Nt := ns.find? fun n => decide (n.a = z)
theorem dcOf_nd {α : Type} (ps : List (Str × α)) (h : (ps.map (·.1)).Nodup) : dcOf ps = ⟨ps⟩ := by
  unfold dcOf
  have key : ∀ (ps c : List (Str × α)), ((c ++ ps).map (·.1)).Nodup → ps.foldl (fun c p => putD c p.1 p.2) c = c ++ ps := by
    intro ps
    induction ps with
    | nil => intro c _; rw [List.append_nil]; rfl
    | cons p ps ih =>
      intro c hc
      have hp : putD c p.1 p.2 = c ++ [p] := by
        unfold putD
        rw [if_neg]
        intro ha
        rw [List.any_eq_true] at ha
        obtain ⟨x, hx, e⟩ := ha
        rw [List.map_append, List.nodup_append] at hc
        exact hc.2.2 x.1 (List.mem_map.mpr ⟨x, hx, rfl⟩) p.1 (List.mem_map.mpr ⟨p, .head _, rfl⟩) (of_decide_eq_true e)
      rw [List.foldl_cons, hp, ih (c ++ [p]) (by rw [List.append_assoc]; exact hc), List.append_assoc]; rfl
  rw [key ps [] h, List.nil_append]
theorem look_fd (ns : List Nt) (z : Str) : (ns.map fun n => (n.a, n)).lookup z = fd ns z := by
  induction ns with
  | nil => rfl
  | cons n ns ih =>
    unfold fd at *
    rw [List.map_cons, List.lookup_cons, List.find?_cons]
    by_cases e : n.a = z
    · subst e
      rw [beq_self_eq_true, decide_eq_true rfl]
    · have b : (z == n.a) = false := by simpa using fun y => e y.symm
      rw [b, decide_eq_false e]
      exact ih
theorem fd_mem {ns : List Nt} {z : Str} : (fd ns z).isSome = decide (z ∈ ns.map fun n => n.a) := by
  unfold fd
  rw [Bool.eq_iff_iff, List.find?_isSome, decide_eq_true_eq, List.mem_map]
  constructor
  · rintro ⟨x, hx, h⟩; exact ⟨x, hx, of_decide_eq_true h⟩
  · rintro ⟨x, hx, h⟩; exact ⟨x, hx, decide_eq_true h⟩
theorem filter_fd {ns : List Nt} (h : (ns.map fun n => n.a).Nodup) (z : Str) : ns.filter (fun n => decide (n.a = z)) = (fd ns z).toList := by
  induction ns with
  | nil => rfl
  | cons n ns ih =>
    rw [List.map_cons, List.nodup_cons] at h
    unfold fd at *
    rw [List.filter_cons, List.find?_cons]
    by_cases e : n.a = z
    · rw [decide_eq_true e]
      have : ns.filter (fun n => decide (n.a = z)) = [] := by
        rw [List.filter_eq_nil_iff]
        intro m hm hd
        exact h.1 (List.mem_map.mpr ⟨m, hm, (of_decide_eq_true hd).trans e.symm⟩)
      rw [if_pos rfl, this]; rfl
    · rw [decide_eq_false e, if_neg (by decide)]
      exact ih h.2
theorem fd_in {ns : List Nt} {z : Str} {n : Nt} (h : fd ns z = some n) : n ∈ ns ∧ n.a = z := ⟨List.mem_of_find?_eq_some h, by have := List.find?_some h; simpa using this⟩
end K11

set_option Elab.async false
set_option linter.all false
set_option maxRecDepth 100000
set_option maxHeartbeats 1000000
namespace K11
open PySem PySem.Spec PyProof.Rows L2 ON

/-! ### ties -/
def tOk (n m : Nt) (t : Ti) : Bool := if t.a = "pure" then ov n m else !(decide (m.c < n.d) || (decide (t.a = "step") && !decide (n.b = m.b)))
def tBad (ns : List Nt) (t : Ti) : Bool := match fd ns t.b, fd ns t.c with
  | some n, some m => decide (t.b = t.c) || !tOk n m t
  | _, _ => true
/-! ### songs -/
def hBad (ns : List Nt) (h : Str × Str) : Bool := decide (h.1 = h.2) || (!(fd ns h.1).isSome || !(fd ns h.2).isSome)
structure SmS (s : Sg) : Prop where
  n : ∀ n ∈ s.a.l, SmN n
  nl : s.a.l.length ≤ 900
  tl : s.b.l.length ≤ 900
/-! ### what is told -/
end K11

set_option Elab.async false
set_option linter.all false
set_option maxRecDepth 100000
set_option maxHeartbeats 1000000
namespace K11
open PySem PySem.Spec PyProof.Rows L2 ON

/-! ### names -/
theorem app_l (a b : Str) : (a ++ b).cps.toList = a.cps.toList ++ b.cps.toList := by
  show (a.cps ++ b.cps).toList = _
  simp
theorem str_ext {a b : Str} (h : a.cps.toList = b.cps.toList) : a = b := by
  cases a; cases b
  simp only [Str.mk.injEq]
  exact Array.toList_inj.mp h
theorem app_r {a b c : Str} (h : a ++ c = b ++ c) : a = b := by
  have := congrArg (fun s : Str => s.cps.toList) h
  simp only [app_l] at this
  exact str_ext (List.append_cancel_right this)
theorem app_c {a b c : Str} (h : c ++ a = c ++ b) : a = b := by
  have := congrArg (fun s : Str => s.cps.toList) h
  simp only [app_l] at this
  exact str_ext (List.append_cancel_left this)
theorem nd_map {α β : Type} {f : α → β} (hf : ∀ x y, f x = f y → x = y) : ∀ {xs : List α}, xs.Nodup → (xs.map f).Nodup
  | [], _ => List.nodup_nil
  | x :: xs, h => by
    rw [List.nodup_cons] at h
    rw [List.map_cons, List.nodup_cons]
    refine ⟨fun hm => ?_, nd_map hf h.2⟩
    obtain ⟨y, hy, e⟩ := List.mem_map.mp hm
    exact h.1 (hf _ _ e ▸ hy)
theorem signs_nd : ON.signs.Nodup := by decide +kernel
theorem sign_len : ∀ x ∈ ON.signs, x.length = 1 := by decide +kernel
theorem sign_low : ∀ x ∈ ON.signs, Low x := by decide +kernel
theorem lot_nd (a b : Str) : (lot a b).Nodup := nd_map (fun x y e => app_c (app_r e)) signs_nd
theorem lot_l {a b x : Str} (h : x ∈ lot a b) : x.length = a.length + b.length + 1 := by
  obtain ⟨s, hs, rfl⟩ := List.mem_map.mp h
  rw [Str.length_append, Str.length_append, sign_len s hs]; omega
theorem lots_nd (a b : Str) : (lots a b).Nodup := by
  unfold lots
  rw [List.nodup_append]
  refine ⟨lot_nd a b, nd_map (fun x y e => app_r e) (lot_nd a b), fun x hx y hy e => ?_⟩
  obtain ⟨z, hz, rfl⟩ := List.mem_map.mp hy
  have h1 := lot_l hx
  have h2 := lot_l hz
  rw [e, Str.length_append] at h1
  have : ("y" : Str).length = 1 := rfl
  omega
theorem lots_len (a b : Str) : (lots a b).length = 48 := by
  unfold lots
  rw [List.length_append, List.length_map, lot_len]
theorem Qz.low {x : Str} (h : Qz x) : Low x := by
  unfold Low
  refine List.all_eq_true.mpr fun c hc => ?_
  have := List.all_eq_true.mp h c hc
  unfold qz at this
  simp at this ⊢
  omega
theorem lots_ok {a b : Str} (ha : Qz a) (hb : Qz b) (hab : a.length + b.length ≤ 6) : ∀ x ∈ lots a b, nok x = true := by
  have hl : ∀ x ∈ lot a b, Low x := fun x hx => by
    obtain ⟨s, hs, rfl⟩ := List.mem_map.mp hx
    exact ((Qz.low ha).app (sign_low s hs)).app (Qz.low hb)
  intro x hx
  rcases List.mem_append.mp hx with hx | hx
  · exact nok_of (hl x hx).ok (by rw [lot_l hx]; omega)
  · obtain ⟨z, hz, rfl⟩ := List.mem_map.mp hx
    refine nok_of ((hl z hz).app (by decide +kernel)).ok ?_
    have := lot_l hz
    have : ("y" : Str).length = 1 := rfl
    rw [Str.length_append]; omega
structure Nms (nm : List Str) : Prop where
  l : nm.length = 48
  nd : nm.Nodup
  ok : ∀ x ∈ nm, nok x = true
theorem lots_Nms {a b : Str} (ha : Qz a) (hb : Qz b) (hab : a.length + b.length ≤ 6) : Nms (lots a b) := ⟨lots_len a b, lots_nd a b, lots_ok ha hb hab⟩
/-! ### a loop of draws, so many for each -/
theorem W.compLg {α β : Type} {f : α → Sm β} {Q : β → Prop} {P : List β → Int → Prop} (g M : Nat) : ∀ (xs : List α) (k : Int), (∀ (k : Int) x, 0 ≤ k → k ≤ (M : Int) → x ∈ xs → W (f x) k fun y k' => Q y ∧ k ≤ k' ∧ k' ≤ k + (g : Int)) → 0 ≤ k → k + (g : Int) * (xs.length : Int) ≤ (M : Int) → (∀ ys k', ys.length = xs.length → (∀ y ∈ ys, Q y) → k ≤ k' → k' ≤ k + (g : Int) * (xs.length : Int) → P ys k') → W (ON.compL (fun _ => Mn.pur true) f xs) k P := by
  intro xs
  induction xs generalizing P with
  | nil => intro k _ _ _ h; rw [compL_nil]; exact W.pur (h [] k rfl (fun y hy => nomatch hy) (Int.le_refl _) (by simp))
  | cons x xs ih =>
    intro k hf h0 hb h
    have e : ((g : Int) * ((x :: xs).length : Nat)) = g * (xs.length : Nat) + g := by rw [List.length_cons, Int.natCast_add, Int.mul_add]; simp
    have p : 0 ≤ (g : Int) * (xs.length : Nat) := Int.mul_nonneg (by omega) (by omega)
    rw [compL_cons]
    refine W.bnd (W.pur ?_)
    refine W.bnd ((hf k x h0 (by omega) (.head _)).mono fun y k1 hy => ?_)
    obtain ⟨q, l1, l2⟩ := hy
    refine W.bnd (ih (P := fun ys k' => W (Mn.pur (y :: ys)) k' P) k1 (fun k2 z h2 h3 hz => hf k2 z h2 h3 (.tail _ hz)) (by omega) (by omega) fun ys k' hl hq l3 l4 => ?_)
    refine W.pur (h (y :: ys) k' (by rw [List.length_cons, List.length_cons, hl]) (fun z hz => ?_) (by omega) (by omega))
    rcases List.mem_cons.mp hz with rfl | hz
    · exact q
    · exact hq z hz
/-! ### notes that may stand, one with another -/
def Rn (n m : Nt) : Prop := n.a ≠ m.a ∧ (n.b = m.b → ov n m = false)
theorem Rn.symm {n m : Nt} (h : Rn n m) : Rn m n := ⟨fun e => h.1 e.symm, fun e => by rw [ov_sym]; exact h.2 e.symm⟩
structure SmB (b : Int) (n : Nt) : Prop where
  sa : nok n.a = true
  sb : nok n.b = true
  c0 : 0 ≤ n.c
  c1 : n.c ≤ b
  d0 : 0 ≤ n.d
  d1 : n.d ≤ b
theorem SmB.sm {b : Int} {n : Nt} (h : SmB b n) (hb : b ≤ 400) : SmN n := ⟨h.sa, h.sb, h.c0, Int.le_trans h.c1 hb, h.d0, Int.le_trans h.d1 hb⟩
structure Gn (ns : List Nt) : Prop where
  p : ns.Pairwise Rn
  s : ∀ n ∈ ns, SmB 300 n ∧ n.c < n.d
  l : ns.length ≤ 40
theorem Gn.sm {ns : List Nt} (h : Gn ns) : ∀ n ∈ ns, SmN n := fun n hn => (h.s n hn).1.sm (by omega)
theorem Gn.fN {ns : List Nt} (h : Gn ns) : fN ns = none := by
  unfold K11.fN
  rw [List.find?_eq_none]
  intro k hk
  rw [mem_upTo] at hk
  obtain ⟨i, rfl⟩ : ∃ i : Nat, k = (i : Int) := ⟨k.toNat, by omega⟩
  have hi : i < ns.length := by omega
  have hl := h.l
  rw [Int.toNat_natCast]
  unfold nBad cl_
  rw [List.getElem?_eq_getElem hi]
  have hp := List.pairwise_iff_getElem.mp h.p
  have tk : ∀ m ∈ ns.take i, Rn m ns[i] := fun m hm => by
    rw [List.mem_take_iff_getElem] at hm
    obtain ⟨j, hj, rfl⟩ := hm
    exact hp j i (by omega) hi (by omega)
  have hd := (h.s ns[i] (List.getElem_mem hi)).2
  simp only [Bool.or_eq_true, decide_eq_true_eq, List.mem_map, List.any_eq_true, Bool.and_eq_true, not_or, not_exists, not_and, Bool.not_eq_true]
  exact ⟨by omega, by omega, fun m hm e => (tk m hm).1 e, fun m hm e => (tk m hm).2 e⟩
theorem Gn.nd {ns : List Nt} (h : Gn ns) : (ns.map fun n => n.a).Nodup := names_nd (fN_none h.fN)
theorem fd_self {ns : List Nt} (h : ns.Pairwise Rn) {n : Nt} (hn : n ∈ ns) : fd ns n.a = some n := by
  induction ns with
  | nil => cases hn
  | cons m ns ih =>
    rw [List.pairwise_cons] at h
    unfold fd
    rw [List.find?_cons]
    rcases List.mem_cons.mp hn with rfl | hm
    · rw [decide_eq_true rfl]
    · rw [decide_eq_false (h.1 n hm).1]
      exact ih h.2 hm
/-! ### ties that fit -/
structure Bd (d : Tl Int) (e f : Int) : Prop where
  dl : d.l.length ≤ 4
  di : ∀ i ∈ d.l, -9 ≤ i ∧ i ≤ 9
  e0 : 0 ≤ e
  e1 : e ≤ 99
  f0 : 0 ≤ f
  f1 : f ≤ 99
structure SmT (t : Ti) : Prop where
  bd : Bd t.d t.e t.f
  a : nok t.a = true
  b : nok t.b = true
  c : nok t.c = true
theorem SmT.ok {t : Ti} (h : SmT t) : EqD.ok t = true := by
  show (PyData.strOk t.a && PyData.strOk t.b && PyData.strOk t.c && t.d.l.all (fun _ => true) && true && true) = true
  rw [nok_s h.a, nok_s h.b, nok_s h.c, List.all_eq_true.mpr fun _ _ => rfl]; rfl
theorem Gn.rel {ns : List Nt} (h : Gn ns) {i j : Nat} (hi : i < ns.length) (hj : j < ns.length) (e : i ≠ j) : Rn ns[i] ns[j] := by
  have hp := List.pairwise_iff_getElem.mp h.p
  rcases Nat.lt_or_gt_of_ne e with l | l
  · exact hp i j hi hj l
  · exact (hp j i hj hi l).symm
theorem fitting_W {cl : List Int} {nm : Option (List Str)} {k : Int} {ns : List Nt} (hc : cl.length ≤ 1000) (k0 : 0 ≤ k) (k1 : k ≤ 100000) (h : Gn ns) (h2 : 2 ≤ ns.length) : W (m__law_fitting cl nm ns) k fun t k' => (SmT t ∧ tBad ns t = false) ∧ k ≤ k' ∧ k' ≤ k + (10 : Nat) := by
  have hl := h.l
  unfold m__law_fitting
  refine W.finS ?_
  unfold mb__law_fitting
  have l1 : ∀ a b : Str, ([a, b] : List Str).length ≤ 1000 := fun _ _ => (by decide : 2 ≤ 1000)
  have l4 : ∀ a b c d : Int, ([a, b, c, d] : List Int).length ≤ 1000 := fun _ _ _ _ => (by decide : 4 ≤ 1000)
  simp only [pbS, gd_y (l1 _ _), gd_y (l4 _ _ _ _)]
  refine W.bnd (W.nx hc (by omega) (by omega) fun at_ a0 a1 => ?_)
  obtain ⟨i, rfl⟩ : ∃ i : Nat, at_ = (i : Int) := ⟨at_.toNat, by omega⟩
  have hi : i < ns.length := by omega
  have ei : atI ns (i : Int) = some ns[i] := by rw [atNn ns i hi]; exact List.getElem?_eq_getElem hi
  refine W.bnd (W.bnd (W.lift ei (W.bnd (W.bnd (W.bnd (W.bnd (W.nx hc (by omega) (by omega) fun r r0 r1 => W.pur (W.gd (by omega) (W.pur ?_)))))))))
  have hm0 := Int.emod_nonneg ((i : Int) + 1 + r) (b := (ns.length : Int)) (by omega)
  have hm1 := Int.emod_lt_of_pos ((i : Int) + 1 + r) (b := (ns.length : Int)) (by omega)
  have hne : ((i : Int) + 1 + r) % (ns.length : Int) ≠ i := by
    intro e
    by_cases c : (i : Int) + 1 + r < ns.length
    · rw [Int.emod_eq_of_lt (by omega) c] at e; omega
    · have : ((i : Int) + 1 + r) % (ns.length : Int) = (i : Int) + 1 + r - ns.length := by
        rw [← Int.sub_emod_right, Int.emod_eq_of_lt (by omega) (by omega)]
      omega
  generalize ((i : Int) + 1 + r) % (ns.length : Int) = j at hm0 hm1 hne
  obtain ⟨j, rfl⟩ : ∃ n : Nat, j = (n : Int) := ⟨j.toNat, by omega⟩
  have hj : j < ns.length := by omega
  have ej : atI ns (j : Int) = some ns[j] := by rw [atNn ns j hj]; exact List.getElem?_eq_getElem hj
  refine W.lift ej (W.pur ?_)
  have rel := h.rel hi hj (by omega)
  have mi := List.getElem_mem hi
  have mj := List.getElem_mem hj
  have fi := fd_self h.p mi
  have fj := fd_self h.p mj
  have si := h.s _ mi
  have sj := h.s _ mj
  generalize ns[i] = n at ei rel mi fi si
  generalize ns[j] = m at ej rel mj fj sj
  have eo := lov_eq (m := m) (si.1.sm (by omega))
  have key : W (cnd (!ov n m) (ON.andThen (cnd (decide (m.c < n.d)) (Mn.pur (Fl.nx (m, n))) (Mn.pur (Fl.nx (n, m))) : Sm (Fl (Nt × Nt) Empty Ti)) fun t_245 => Mn.bnd (Mn.bnd (Mn.bnd (m__law_next cl nm 2) fun y_262 => gd (ON.MulOk (if decide (t_245.fst.b = t_245.snd.b) = true then 1 else 0) y_262) (Mn.pur ((if decide (t_245.fst.b = t_245.snd.b) = true then 1 else 0) * y_262))) fun y_264 => lift (atI ([("held" : Str), ("step" : Str)] : List Str) y_264)) fun word_249 => Mn.pur (Fl.nx (word_249, t_245.fst, t_245.snd))) (Mn.pur (Fl.nx (("pure" : Str), n, m))) : Sm (Fl (Str × Nt × Nt) Empty Ti)) (k + 1 + 1) fun f k' => ∃ w x y, f = .nx (w, x, y) ∧ k + 2 ≤ k' ∧ k' ≤ k + 3 ∧ nok w = true ∧ ∀ d e f', Bd d e f' → SmT ⟨w, x.a, y.a, d, e, f'⟩ ∧ tBad ns ⟨w, x.a, y.a, d, e, f'⟩ = false := by
    have nP : ("pure" : Str) ≠ ("held" : Str) := by decide
    have okP : nok ("pure" : Str) = true := by decide +kernel
    have fin : ∀ (w : Str) (x y : Nt), nok w = true → SmB 300 x → SmB 300 y → x.a ≠ y.a → fd ns x.a = some x → fd ns y.a = some y → (∀ d e f', tOk x y ⟨w, x.a, y.a, d, e, f'⟩ = true) → ∀ d e f', Bd d e f' → SmT ⟨w, x.a, y.a, d, e, f'⟩ ∧ tBad ns ⟨w, x.a, y.a, d, e, f'⟩ = false := by
      intro w x y hw hx hy hne e1 e2 ht d e f' hB
      refine ⟨⟨hB, hw, hx.sa, hy.sa⟩, ?_⟩
      unfold tBad
      simp only [e1, e2, ht, decide_eq_false hne]; rfl
    cases o : ov n m with
    | true =>
      rw [Bool.not_true, cnd_f]
      refine W.pur ⟨_, _, _, rfl, by omega, by omega, okP, fin _ n m okP si.1 sj.1 rel.1 fi fj fun d e f' => ?_⟩
      unfold tOk
      rw [if_pos rfl, o]
    | false =>
      rw [Bool.not_false, cnd_t]
      have ov' : ¬ (max n.c m.c < min n.d m.d) := by unfold ov at o; simpa using o
      have two : ∀ (x y : Nt), x.d ≤ y.c → x.a ≠ y.a → fd ns x.a = some x → fd ns y.a = some y → SmB 300 x → SmB 300 y → W (Mn.bnd (Mn.bnd (Mn.bnd (m__law_next cl nm 2) fun y_262 => gd (ON.MulOk (if decide (x.b = y.b) = true then 1 else 0) y_262) (Mn.pur ((if decide (x.b = y.b) = true then 1 else 0) * y_262))) fun y_264 => lift (atI ([("held" : Str), ("step" : Str)] : List Str) y_264)) fun word_249 => Mn.pur (Fl.nx (word_249, x, y)) : Sm (Fl (Str × Nt × Nt) Empty Ti)) (k + 1 + 1) fun f k' => ∃ w x y, f = .nx (w, x, y) ∧ k + 2 ≤ k' ∧ k' ≤ k + 3 ∧ nok w = true ∧ ∀ d e f', Bd d e f' → SmT ⟨w, x.a, y.a, d, e, f'⟩ ∧ tBad ns ⟨w, x.a, y.a, d, e, f'⟩ = false := by
        intro x y hxy hne e1 e2 hx hy
        refine W.bnd (W.bnd (W.bnd (W.nx hc (by omega) (by decide) fun r r0 r1 => ?_)))
        have okH : nok ("held" : Str) = true := by decide +kernel
        have okS : nok ("step" : Str) = true := by decide +kernel
        have cases2 : r = 0 ∨ r = 1 := by omega
        have held : W (Mn.pur (Fl.nx (("held" : Str), x, y)) : Sm (Fl (Str × Nt × Nt) Empty Ti)) (k + 1 + 1 + 1) fun f k' => ∃ w x y, f = .nx (w, x, y) ∧ k + 2 ≤ k' ∧ k' ≤ k + 3 ∧ nok w = true ∧ ∀ d e f', Bd d e f' → SmT ⟨w, x.a, y.a, d, e, f'⟩ ∧ tBad ns ⟨w, x.a, y.a, d, e, f'⟩ = false := by
          refine W.pur ⟨_, _, _, rfl, by omega, by omega, okH, fin _ x y okH hx hy hne e1 e2 fun d e f' => ?_⟩
          unfold tOk
          rw [if_neg (show ¬ ("held" : Str) = ("pure" : Str) by decide)]
          have : decide (y.c < x.d) = false := decide_eq_false (by omega)
          simp only [this, decide_eq_false (show ¬ ("held" : Str) = ("step" : Str) by decide)]; rfl
        by_cases b : x.b = y.b
        · rw [decide_eq_true b, if_pos rfl]
          rcases cases2 with rfl | rfl
          · refine W.gd (by decide) (W.pur (W.lift (a := ("held" : Str)) rfl held))
          · refine W.gd (by decide) (W.pur (W.lift (a := ("step" : Str)) rfl (W.pur ⟨_, _, _, rfl, by omega, by omega, okS, fin _ x y okS hx hy hne e1 e2 fun d e f' => ?_⟩)))
            unfold tOk
            rw [if_neg (show ¬ ("step" : Str) = ("pure" : Str) by decide)]
            have : decide (y.c < x.d) = false := decide_eq_false (by omega)
            simp only [this, decide_eq_true b]; simp
        · rw [decide_eq_false b, if_neg (by decide)]
          rcases cases2 with rfl | rfl
          · exact W.gd (by decide) (W.pur (W.lift (a := ("held" : Str)) rfl held))
          · exact W.gd (by decide) (W.pur (W.lift (a := ("held" : Str)) rfl held))
      by_cases c : m.c < n.d
      · rw [decide_eq_true c, cnd_t]
        refine W.andThen (W.pur ?_)
        have := si.2
        have := sj.2
        exact two m n (by omega) (fun e => rel.1 e.symm) fj fi sj.1 si.1
      · rw [decide_eq_false c, cnd_f]
        refine W.andThen (W.pur ?_)
        exact two n m (by omega) rel.1 fi fj si.1 sj.1
  simp only [eo, lsome, pbS]
  refine W.andThen (key.mono fun f k' hf => ?_)
  obtain ⟨w, x, y, rfl, h3, h4, hw, hh⟩ := hf
  have len4 := upTo_len 0 1 (Int.toNat 4)
  have up4 : (Int.toNat 4) = 4 := rfl
  simp only [gd_y (show -(2 ^ 62 : Int) ≤ 4 ∧ (4 : Int) < 2 ^ 62 by decide), pbS]
  refine W.bnd (W.bnd (W.gd (by rw [len4]; decide) (W.compLg (Q := fun y : Int => -9 ≤ y ∧ y ≤ 9) 1 1000000 _ _ (fun k x q0 q1 _ => W.bnd (W.nx hc (by omega) (by decide) fun r r0 r1 => W.pur ⟨⟨by omega, by omega⟩, by omega, by omega⟩)) (by omega) (by omega) fun ys k5 yl yq g1 g2 => W.pur ?_)))
  cases decide (w = ("held" : Str)) with
  | true =>
    rw [cnd_t]
    refine W.andThen (W.pur ?_)
    repeat refine W.bnd ?_
    refine W.nx hc (by omega) (by decide) fun r r0 r1 => ?_
    repeat refine W.bnd ?_
    refine W.nx hc (by omega) (by decide) fun r2 r20 r21 => ?_
    exact W.pur (W.pur (W.pur (W.pur (W.pur (W.pur (W.pur (W.pur ⟨_, rfl, hh _ _ _ ⟨by show 4 ≤ 4; omega, (by decide : ∀ i ∈ ([0, 0, 0, 0] : List Int), -9 ≤ i ∧ i ≤ 9), r0, by show r ≤ 99; omega, by show 0 ≤ 1 + r2; omega, by show 1 + r2 ≤ 99; omega⟩, by omega, by omega⟩)))))))
  | false =>
    rw [cnd_f]
    refine W.andThen (W.pur ?_)
    repeat refine W.bnd ?_
    refine W.nx hc (by omega) (by decide) fun r r0 r1 => ?_
    repeat refine W.bnd ?_
    refine W.nx hc (by omega) (by decide) fun r2 r20 r21 => ?_
    exact W.pur (W.pur (W.pur (W.pur (W.pur (W.pur (W.pur (W.pur ⟨_, rfl, hh _ _ _ ⟨by show ys.length ≤ 4; rw [yl, len4]; decide, yq, r0, by show r ≤ 99; omega, by show 0 ≤ 1 + r2; omega, by show 1 + r2 ≤ 99; omega⟩, by omega, by omega⟩)))))))
/-! ### dicts -/
theorem look_map {z : Str} {a : Int} {y : Str} : ∀ c : List (Str × Int), (c.map fun p => if p.1 = z then (p.1, a) else p).lookup y = if y = z then (if (c.any fun p => decide (p.1 = z)) = true then some a else none) else c.lookup y
  | [] => by simp
  | (k, x) :: c => by
    have ih := look_map (z := z) (a := a) (y := y) c
    rw [List.map_cons]
    by_cases e : k = z
    · subst e
      rw [if_pos rfl, List.lookup_cons, List.any_cons, decide_eq_true rfl, Bool.true_or, if_pos rfl]
      by_cases f : y = k
      · subst f
        rw [beq_self_eq_true, if_pos rfl]
      · have b : (y == k) = false := by simpa using f
        rw [b, if_neg f, List.lookup_cons, b, ih, if_neg f]
    · rw [if_neg e, List.lookup_cons, List.any_cons, decide_eq_false e, Bool.false_or, List.lookup_cons]
      by_cases f : y = k
      · subst f
        rw [beq_self_eq_true, if_neg e]
      · have b : (y == k) = false := by simpa using f
        rw [b]
        exact ih
theorem put_look (c : List (Str × Int)) (z y : Str) (a : Int) : (putD c z a).lookup y = if y = z then some a else c.lookup y := by
  unfold putD
  by_cases h : (c.any fun p => decide (p.1 = z)) = true
  · rw [if_pos h, look_map, if_pos h]
  · rw [if_neg h, List.lookup_append]
    by_cases f : y = z
    · subst f
      have : c.lookup y = none := by
        rw [List.lookup_eq_none_iff]
        intro p hp
        have := List.any_eq_false.mp (Bool.not_eq_true _ ▸ h) p hp
        simp at this ⊢
        exact fun e => this e.symm
      rw [this, if_pos rfl, List.lookup_cons, beq_self_eq_true]; rfl
    · have b : (y == z) = false := by simpa using f
      rw [if_neg f, List.lookup_cons, b]
      cases c.lookup y <;> rfl
theorem look_mem {α : Type} {ps : List (Str × α)} {z : Str} (h : z ∈ ps.map (·.1)) : ∃ a, ps.lookup z = some a ∧ (z, a) ∈ ps := by
  induction ps with
  | nil => cases h
  | cons p ps ih =>
    obtain ⟨k, x⟩ := p
    rw [List.lookup_cons]
    by_cases e : z = k
    · subst e
      exact ⟨x, by rw [beq_self_eq_true], .head _⟩
    · have b : (z == k) = false := by simpa using e
      rw [b]
      rw [List.map_cons, List.mem_cons] at h
      obtain ⟨a, h1, h2⟩ := ih (h.resolve_left e)
      exact ⟨a, h1, .tail _ h2⟩
theorem cut_sub {α : Type} (xs : List α) (lo hi : Option Int) : (cutL xs lo hi).Sublist xs := by
  unfold cutL
  exact (List.take_sublist _ _).trans (List.drop_sublist _ _)
end K11

set_option Elab.async false
set_option linter.all false
set_option maxRecDepth 100000
set_option maxHeartbeats 1000000
namespace K11
open PySem PySem.Spec PyProof.Rows L2 ON

theorem cut_ab {α : Type} (xs : List α) (a b : Nat) : (cutL xs (some (a : Int)) (some (b : Int))).length = min b xs.length - min a xs.length := by
  unfold cutL
  rw [HT.sIx_nat, HT.sIx_nat, List.length_take, List.length_drop]; omega
structure Lp (nm vs : List Str) (far at_ : Int) (j : Nat) (c : List (Str × Int)) (ns : List Nt) : Prop where
  n : ns.length = j
  cl : c.length ≤ 10 + j
  ck : ∀ v ∈ vs, ∃ x, c.lookup v = some x ∧ 0 ≤ x ∧ x ≤ 4 + 7 * j
  nam : ∀ (i : Nat) (n : Nt), ns[i]? = some n → nm[((at_ + far * (i : Int)) % 40).toNat]? = some n.a
  s : ∀ n ∈ ns, n.a ∈ nm ∧ n.b ∈ vs ∧ 0 ≤ n.c ∧ n.c < n.d ∧ n.d ≤ 4 + 7 * j ∧ ∀ x, c.lookup n.b = some x → n.d ≤ x
  p : ns.Pairwise Rn
theorem far_ne {far at_ : Int} (hf : far = 1 ∨ far = 7 ∨ far = 13 ∨ far = 39) {i j : Nat} (hij : i < j) (hj : j < 40) : ((at_ + far * (i : Int)) % 40).toNat ≠ ((at_ + far * (j : Int)) % 40).toNat := by
  rcases hf with rfl | rfl | rfl | rfl <;> omega
theorem Lp.step {nm vs : List Str} {far at_ : Int} {j : Nat} {c : List (Str × Int)} {ns : List Nt} (h : Lp nm vs far at_ j c ns) (hn : Nms nm) (hf : far = 1 ∨ far = 7 ∨ far = 13 ∨ far = 39) (hj : j < 40) {v z : Str} {x b d : Int} (hv : v ∈ vs) (hx : c.lookup v = some x) (hb : x ≤ b ∧ b ≤ x + 2) (hd : b < d ∧ d ≤ b + 5) (hz : nm[((at_ + far * (j : Int)) % 40).toNat]? = some z) : Lp nm vs far at_ (j + 1) (putD c v d) (ns ++ [⟨z, v, b, d⟩]) := by
  obtain ⟨x', hx', h0, h1⟩ := h.ck v hv
  rw [hx] at hx'; cases hx'
  have e7 : (((j + 1 : Nat) : Int)) = j + 1 := by omega
  refine ⟨by rw [List.length_append, h.n]; rfl, by have := putD_len c v d; have := h.cl; omega, fun w hw => ?_, fun i n hi => ?_, fun n hn' => ?_, ?_⟩
  · rw [put_look]
    by_cases e : w = v
    · rw [if_pos e]; exact ⟨d, rfl, by omega, by omega⟩
    · rw [if_neg e]
      obtain ⟨y, y1, y2, y3⟩ := h.ck w hw
      exact ⟨y, y1, y2, by omega⟩
  · by_cases l : i < ns.length
    · rw [List.getElem?_append_left l] at hi
      exact h.nam i n hi
    · rw [List.getElem?_append_right (by omega)] at hi
      have : i = j := by
        have := (List.getElem?_eq_some_iff.mp hi).1
        rw [List.length_singleton] at this
        have := h.n
        omega
      subst this
      rw [h.n, Nat.sub_self] at hi
      cases hi
      exact hz
  · rcases List.mem_append.mp hn' with hm | hm
    · obtain ⟨s1, s2, s3, s4, s5, s6⟩ := h.s n hm
      refine ⟨s1, s2, s3, s4, by omega, fun y hy => ?_⟩
      rw [put_look] at hy
      by_cases e : n.b = v
      · rw [if_pos e] at hy
        cases hy
        have := s6 x (e ▸ hx)
        omega
      · rw [if_neg e] at hy
        exact s6 y hy
    · rw [List.mem_singleton] at hm
      subst hm
      refine ⟨List.mem_of_getElem? hz, hv, by show 0 ≤ b; omega, hd.1, by show d ≤ _; omega, fun y hy => ?_⟩
      rw [put_look, if_pos rfl] at hy
      cases hy
      exact Int.le_refl _
  · rw [List.pairwise_append]
    refine ⟨h.p, List.pairwise_singleton _ _, fun m hm n hn' => ?_⟩
    rw [List.mem_singleton] at hn'
    subst hn'
    obtain ⟨s1, s2, s3, s4, s5, s6⟩ := h.s m hm
    refine ⟨fun e => ?_, fun e => ?_⟩
    · obtain ⟨i, hi, rfl⟩ := List.getElem_of_mem hm
      have := h.nam i _ (List.getElem?_eq_getElem hi)
      have hi2 := h.n
      refine far_ne (at_ := at_) hf (show i < j by omega) hj ?_
      refine (List.getElem?_inj ((List.getElem?_eq_some_iff.mp this).1) hn.nd).mp (this.trans ?_)
      rw [hz]
      exact congrArg some e
    · have := s6 x (by rw [show m.b = v from e]; exact hx)
      unfold ov
      refine decide_eq_false ?_
      show ¬ (max m.c b < min m.d d)
      omega
theorem Lp.gn {nm vs : List Str} {far at_ : Int} {j : Nat} {c : List (Str × Int)} {ns : List Nt} (h : Lp nm vs far at_ j c ns) (hn : Nms nm) (hv : ∀ v ∈ vs, v ∈ nm) (hj : j ≤ 40) : Gn ns := by
  refine ⟨h.p, fun n hm => ?_, by have := h.n; omega⟩
  obtain ⟨s1, s2, s3, s4, s5, s6⟩ := h.s n hm
  exact ⟨⟨hn.ok _ s1, hn.ok _ (hv _ s2), s3, by omega, by omega, by omega⟩, s4⟩
theorem Gn.turn {ns : List Nt} (h : Gn ns) (t : Nat) : Gn (ns.drop t ++ ns.take t) := by
  have pm : (ns.drop t ++ ns.take t).Perm ns := by
    have := List.perm_append_comm (l₁ := ns.drop t) (l₂ := ns.take t)
    rwa [List.take_append_drop] at this
  exact ⟨(pm.pairwise_iff fun h => h.symm).mpr h.p, fun n hn => h.s n (pm.mem_iff.mp hn), by rw [pm.length_eq]; exact h.l⟩
/-- a song that may be -/
structure Gs (s : Sg) : Prop where
  g : Gn s.a.l
  n : 1 ≤ s.a.l.length
  tl : s.b.l.length ≤ 80
  t : ∀ t ∈ s.b.l, SmT t ∧ tBad s.a.l t = false
  h : ∀ h, s.c = some h → hBad s.a.l h = false
theorem Gs.sm {s : Sg} (h : Gs s) : SmS s := ⟨h.g.sm, by have := h.g.l; omega, by have := h.tl; omega⟩
end K11

set_option Elab.async false
set_option linter.all false
set_option maxRecDepth 100000
set_option maxHeartbeats 1000000
namespace K11
open PySem PySem.Spec PyProof.Rows L2 ON

inductive A2 {α β : Type} (R : α → β → Prop) : List α → List β → Prop
  | nil : A2 R [] []
  | cons {x y xs ys} : R x y → A2 R xs ys → A2 R (x :: xs) (y :: ys)
theorem W.compLr {α β : Type} {f : α → Sm β} {R : α → β → Prop} {P : List β → Int → Prop} (g M : Nat) : ∀ (xs : List α) (k : Int), (∀ (k : Int) x, 0 ≤ k → k ≤ (M : Int) → x ∈ xs → W (f x) k fun y k' => R x y ∧ k ≤ k' ∧ k' ≤ k + (g : Int)) → 0 ≤ k → k + (g : Int) * (xs.length : Int) ≤ (M : Int) → (∀ ys k', A2 R xs ys → k ≤ k' → k' ≤ k + (g : Int) * (xs.length : Int) → P ys k') → W (ON.compL (fun _ => Mn.pur true) f xs) k P := by
  intro xs
  induction xs generalizing P with
  | nil => intro k _ _ _ h; rw [compL_nil]; exact W.pur (h [] k .nil (Int.le_refl _) (by simp))
  | cons x xs ih =>
    intro k hf h0 hb h
    have e : ((g : Int) * ((x :: xs).length : Nat)) = g * (xs.length : Nat) + g := by rw [List.length_cons, Int.natCast_add, Int.mul_add]; simp
    have p : 0 ≤ (g : Int) * (xs.length : Nat) := Int.mul_nonneg (by omega) (by omega)
    rw [compL_cons]
    refine W.bnd (W.pur ?_)
    refine W.bnd ((hf k x h0 (by omega) (.head _)).mono fun y k1 hy => ?_)
    obtain ⟨q, l1, l2⟩ := hy
    refine W.bnd (ih (P := fun ys k' => W (Mn.pur (y :: ys)) k' P) k1 (fun k2 z h2 h3 hz => hf k2 z h2 h3 (.tail _ hz)) (by omega) (by omega) fun ys k' hq l3 l4 => ?_)
    exact W.pur (h (y :: ys) k' (.cons q hq) (by omega) (by omega))
theorem A2.fst {vs : List Str} {ps : List (Str × Int)} (h : A2 (fun v (p : Str × Int) => p.1 = v ∧ 0 ≤ p.2 ∧ p.2 ≤ 4) vs ps) : ps.map (·.1) = vs ∧ ∀ p ∈ ps, 0 ≤ p.2 ∧ p.2 ≤ 4 := by
  induction h with
  | nil => exact ⟨rfl, fun p hp => nomatch hp⟩
  | cons r _ ih =>
    refine ⟨by rw [List.map_cons, ih.1, r.1], fun p hp => ?_⟩
    rcases List.mem_cons.mp hp with rfl | hp
    · exact r.2
    · exact ih.2 p hp
theorem good_W {cl : List Int} {nm : List Str} {k : Int} (hc : cl.length ≤ 1000) (k0 : 0 ≤ k) (k1 : k ≤ 1000) (hn : Nms nm) : W (m__law_good cl (some nm)) k fun s k' => Gs s ∧ 0 ≤ k' ∧ k' ≤ 5000 := by
  have nl := hn.l
  unfold m__law_good
  refine W.finS ?_
  unfold mb__law_good
  have l2 : ∀ a b : Int, ([a, b] : List Int).length ≤ 1000 := fun _ _ => (by decide : 2 ≤ 1000)
  have l3 : ∀ a b c : Int, ([a, b, c] : List Int).length ≤ 1000 := fun _ _ _ => (by decide : 3 ≤ 1000)
  have l4 : ∀ a b c d : Int, ([a, b, c, d] : List Int).length ≤ 1000 := fun _ _ _ _ => (by decide : 4 ≤ 1000)
  simp only [pbS, gd_y (l2 _ _), gd_y (l3 _ _ _), gd_y (l4 _ _ _ _), gd_y (show ([] : List Nt).length ≤ 1000 by decide)]
  refine W.bnd (W.bnd (W.nx hc (by omega) (by decide) fun a a0 a1 => ?_))
  obtain ⟨first, e1, m1⟩ := at_mem ([40, 0] : List Int) a a0 a1
  have hfirst : first = 40 ∨ first = 0 := by simpa using m1
  refine W.lift e1 (W.bnd ?_)
  repeat refine W.bnd ?_
  refine W.nx hc (by omega) (by decide) fun r r0 r1 => ?_
  refine W.pur (W.pur ?_)
  obtain ⟨f, rfl⟩ : ∃ f : Nat, first = (f : Int) := ⟨first.toNat, by omega⟩
  obtain ⟨r, rfl⟩ : ∃ f : Nat, r = (f : Int) := ⟨r.toNat, by omega⟩
  have ec : (f : Int) + 2 + (r : Int) = ((f + 2 + r : Nat) : Int) := by omega
  simp only [ec]
  have vl := cut_ab nm f (f + 2 + r)
  have vsub := cut_sub nm (some (f : Int)) (some ((f + 2 + r : Nat) : Int))
  generalize cutL nm (some (f : Int)) (some ((f + 2 + r : Nat) : Int)) = vs at vl vsub
  have vlen : 2 ≤ vs.length ∧ vs.length ≤ 4 := by omega
  have vmem : ∀ v ∈ vs, v ∈ nm := fun v hv => vsub.subset hv
  have vnd : vs.Nodup := vsub.nodup hn.nd
  refine W.pur (W.bnd (W.bnd (W.gd (by omega) (W.compLr (R := fun v (p : Str × Int) => p.1 = v ∧ 0 ≤ p.2 ∧ p.2 ≤ 4) 1 1000000 vs _ (fun k x q0 q1 hx => W.bnd (W.nx hc (by omega) (by decide) fun r r0 r1 => W.pur ?_)) (by omega) (by omega) fun ps k2 g1 g2 g3 => ?_))))
  · exact ⟨⟨rfl, r0, by show r ≤ 4; omega⟩, by omega, by omega⟩
  obtain ⟨p1, p2⟩ := g1.fst
  have pl : ps.length = vs.length := by rw [← p1, List.length_map]
  rw [dcOf_nd ps (by rw [p1]; exact vnd)]
  refine W.pur ?_
  refine W.bnd (W.bnd (W.bnd (W.nx hc (by omega) (by decide) fun b b0 b1 => ?_)))
  obtain ⟨far, e2, m2⟩ := at_mem ([1, 7, 13, 39] : List Int) b b0 b1
  have hfar : far = 1 ∨ far = 7 ∨ far = 13 ∨ far = 39 := by simpa using m2
  refine W.lift e2 (W.bnd (W.nx hc (by omega) (by decide) fun at_ t0 t1 => W.pur ?_))
  refine W.andThen ?_
  repeat refine W.bnd ?_
  refine W.nx hc (by omega) (by decide) fun n1 n10 n11 => W.pur ?_
  repeat refine W.bnd ?_
  refine W.nx hc (by omega) (by decide) fun n2 n20 n21 => ?_
  repeat refine W.pur ?_
  refine W.gd (l3 _ _ _) (W.pur ?_)
  repeat refine W.bnd ?_
  refine W.nx hc (by omega) (by decide) fun n3 n30 n31 => ?_
  obtain ⟨N, e3, m3⟩ := at_mem ([1 + n1, 1 + n2, 40] : List Int) n3 n30 n31
  have hN : 1 ≤ N ∧ N ≤ 40 := by
    simp only [List.mem_cons, List.not_mem_nil, or_false] at m3
    rcases m3 with rfl | rfl | rfl <;> omega
  obtain ⟨N, rfl⟩ : ∃ f : Nat, N = (f : Int) := ⟨N.toNat, by omega⟩
  have nd0 := vsub
  refine W.lift e3 (W.gd (by omega) (W.pur ?_))
  rw [Int.toNat_natCast]
  have up := upTo_len 0 1 N
  refine W.forLi (fun j t k => Lp nm vs far at_ j t.1.l t.2 ∧ 0 ≤ k ∧ k ≤ 1100 + 3 * (j : Int)) _ _ ⟨⟨rfl, by show ps.length ≤ _; omega, fun v hv => ?_, fun i n h => (nomatch h), fun n h => (nomatch h), List.Pairwise.nil⟩, by omega, by omega⟩ ?body ?rest
  · obtain ⟨x, x1, x2⟩ := look_mem (ps := ps) (z := v) (by rw [p1]; exact hv)
    have := p2 _ x2
    exact ⟨x, x1, this.1, by have := this.2; show x ≤ 4 + 7 * 0; omega⟩
  case body =>
    intro j t k x hx hI
    obtain ⟨hL, h0, h1⟩ := hI
    obtain ⟨g1, g2⟩ := upTo_get hx
    have ex : x = (j : Int) := by omega
    subst ex
    refine W.bnd (W.bnd (W.nx hc (by omega) (by omega) fun r r0 r1 => ?_))
    obtain ⟨v, e4, m4⟩ := at_mem vs r r0 r1
    obtain ⟨x, e5, x0, x1⟩ := hL.ck v m4
    refine W.lift e4 (W.bnd (W.bnd (W.lift e5 (W.bnd (W.nx hc (by omega) (by decide) fun b b0 b1 => W.pur ?_)))))
    refine W.bnd (W.bnd (W.nx hc (by omega) (by decide) fun d d0 d1 => W.pur ?_))
    have hcl := hL.cl
    refine W.gd (by omega) ?_
    have hmul : ON.MulOk far (j : Int) := by
      have key : ∀ f ∈ ([1, 7, 13, 39] : List Int), ∀ j < 40, ON.MulOk f ((j : Nat) : Int) := by decide +kernel
      exact key far m2 j (by omega)
    have hm0 := Int.emod_nonneg (at_ + far * (j : Int)) (b := 40) (by decide)
    have hm1 := Int.emod_lt_of_pos (at_ + far * (j : Int)) (b := 40) (by decide)
    have hz : nm[((at_ + far * (j : Int)) % 40).toNat]? = some (nm[((at_ + far * (j : Int)) % 40).toNat]'(by omega)) := List.getElem?_eq_getElem _
    have ez : atI nm ((at_ + far * (j : Int)) % 40) = some (nm[((at_ + far * (j : Int)) % 40).toNat]'(by omega)) := by
      have := atNn nm ((at_ + far * (j : Int)) % 40).toNat (by omega)
      rw [Int.toNat_of_nonneg hm0] at this
      rw [this]; exact hz
    generalize nm[((at_ + far * (j : Int)) % 40).toNat]'(by omega) = z at hz ez
    have hlk : List.lookup v (dcP t.1 v (x + b + 1 + d)).l = some (x + b + 1 + d) := by
      show (putD t.1.l v _).lookup v = _
      rw [put_look, if_pos rfl]
    simp only [gd_y hmul, pbS, gd_y (show (0 : Int) < 40 by decide), ez, hlk, lsome]
    have hnl := hL.n
    refine W.gd (by omega) (W.pur ⟨_, rfl, hL.step hn hfar (by omega) m4 e5 ⟨by omega, by omega⟩ ⟨by omega, by omega⟩ hz, by omega, by omega⟩)
  case rest =>
    intro t k hI
    rw [up] at hI
    obtain ⟨hL, h0, h1⟩ := hI
    have gn := hL.gn hn vmem (by omega)
    have hnl := hL.n
    refine W.bnd (W.nx hc (by omega) (by omega) fun tu u0 u1 => ?_)
    obtain ⟨tu, rfl⟩ : ∃ f : Nat, tu = (f : Int) := ⟨tu.toNat, by omega⟩
    rw [cut_take t.2 tu (by omega), cut_drop t.2 tu (by omega)]
    have gt := gn.turn tu
    have gl : (t.2.drop tu ++ t.2.take tu).length = N := by rw [List.length_append, List.length_drop, List.length_take]; omega
    have gl2 : (t.2.drop tu).length + (t.2.take tu).length = N := by rw [← List.length_append]; exact gl
    rw [gd_y (szl (by omega)), pbS]
    generalize t.2.drop tu ++ t.2.take tu = ns at gt gl
    repeat refine W.bnd ?_
    refine W.nx hc (by omega) (by decide) fun f1 f10 f11 => ?_
    repeat refine W.bnd ?_
    refine W.nx hc (by omega) (by decide) fun f2 f20 f21 => ?_
    repeat refine W.pur ?_
    refine W.gd (l3 _ _ _) (W.pur ?_)
    repeat refine W.bnd ?_
    refine W.nx hc (by omega) (by decide) fun f3 f30 f31 => ?_
    obtain ⟨F, e6, m6⟩ := at_mem ([f1, f2, 80] : List Int) f3 f30 f31
    have hF : 0 ≤ F ∧ F ≤ 80 := by
      simp only [List.mem_cons, List.not_mem_nil, or_false] at m6
      rcases m6 with rfl | rfl | rfl <;> omega
    refine W.lift e6 ?_
    rw [gl]
    have h10 : ∀ b : Bool, ON.MulOk F (if b = true then 1 else 0) := by
      intro b
      have key : ∀ f ∈ List.range 81, ON.MulOk ((f : Nat) : Int) 1 ∧ ON.MulOk ((f : Nat) : Int) 0 := by decide +kernel
      have := key F.toNat (List.mem_range.mpr (by omega))
      rw [Int.toNat_of_nonneg hF.1] at this
      cases b
      · exact this.2
      · exact this.1
    rw [gd_y (h10 _)]
    by_cases c : 1 < ((N : Nat) : Int)
    · rw [decide_eq_true c, if_pos rfl, Int.mul_one, cnd_t]
      refine W.pur (W.bnd (W.bnd (W.gd (by omega) (W.pur (W.gd (by rw [upTo_len]; omega) ?_)))))
      have up2 := upTo_len 0 1 F.toNat
      refine W.compLg (Q := fun t : Ti => SmT t ∧ tBad ns t = false) 10 100000 _ _ (fun k x q0 q1 _ => fitting_W hc q0 q1 gt (by omega)) (by omega) (by omega) fun ts k5 tl tq g3 g4 => ?_
      refine W.andThen (W.bnd (W.bnd (W.nx hc (by omega) (by decide) fun w w0 w1 => W.pur ?_)))
      cases decide (w = 1) with
      | true =>
        rw [cnd_t]
        have e0 : atI ns 0 = some (ns[0]'(by omega)) := by
          have := atNn ns 0 (by omega)
          rw [show ((0 : Nat) : Int) = 0 from rfl] at this
          rw [this]; exact List.getElem?_eq_getElem _
        refine W.bnd (W.bnd (W.bnd (W.bnd (W.lift e0 (W.pur (W.bnd (W.bnd (W.bnd (W.bnd (W.nx hc (by omega) (by omega) fun x x0 x1 => W.pur ?_))))))))))
        obtain ⟨x, rfl⟩ : ∃ f : Nat, x = (f : Int) := ⟨x.toNat, by omega⟩
        have e1 : atI ns (1 + (x : Int)) = some (ns[1 + x]'(by omega)) := by
          have := atNn ns (1 + x) (by omega)
          rw [show ((1 + x : Nat) : Int) = 1 + (x : Int) by omega] at this
          rw [this]; exact List.getElem?_eq_getElem _
        have rel := gt.rel (i := 0) (j := 1 + x) (by omega) (by omega) (by omega)
        refine W.lift e1 (W.pur (W.pur (W.pur (W.pur (W.pur ⟨_, rfl, ⟨gt, by show 1 ≤ ns.length; omega, by show ts.length ≤ 80; omega, tq, fun h eh => ?_⟩, by omega, by omega⟩)))))
        cases eh
        unfold hBad
        rw [fd_self gt.p (List.getElem_mem _), fd_self gt.p (List.getElem_mem _), decide_eq_false rel.1]; rfl
      | false =>
        rw [cnd_f]
        exact W.pur (W.pur ⟨_, rfl, ⟨gt, by show 1 ≤ ns.length; omega, by show ts.length ≤ 80; omega, tq, fun h eh => nomatch eh⟩, by omega, by omega⟩)
    · rw [decide_eq_false c, if_neg (by decide), Int.mul_zero, cnd_f]
      refine W.pur (W.bnd (W.bnd (W.gd (by decide) (W.pur (W.gd (by decide) ?_)))))
      have e0 : ON.upTo 0 (Int.toNat 0) 1 = [] := rfl
      rw [e0, compL_nil]
      refine W.pur (W.andThen (W.bnd (W.pur ?_)))
      rw [cnd_f]
      exact W.pur (W.pur ⟨_, rfl, ⟨gt, by show 1 ≤ ns.length; omega, by show (0 : Nat) ≤ 80; omega, fun t ht => (nomatch ht), fun h eh => nomatch eh⟩, by omega, by omega⟩)
end K11

set_option Elab.async false
set_option linter.all false
set_option maxRecDepth 100000
set_option maxHeartbeats 1000000
namespace K11
open PySem PySem.Spec PyProof.Rows L2 ON
open PyData (strOk)
theorem forL_pre {α τ l ρ : Type} {b : τ → α → Option (Fl τ τ ρ)} (I : List α → τ → Prop) (xs : List α) (t : τ) (h0 : I [] t) (hb : ∀ pre x post t, xs = pre ++ x :: post → I pre t → ∃ t', b t x = some (.nx t') ∧ I (pre ++ [x]) t') : ∃ t', (forL b xs t : Option (Fl τ l ρ)) = some (.nx t') ∧ I xs t' := by
  have key : ∀ (post pre : List α) (t : τ), xs = pre ++ post → I pre t → ∃ t', (forL b post t : Option (Fl τ l ρ)) = some (.nx t') ∧ I xs t' := by
    intro post
    induction post with
    | nil => intro pre t e h; exact ⟨t, by rw [forL_nil, pur_opt], by rw [e, List.append_nil]; exact h⟩
    | cons x post ih =>
      intro pre t e h
      obtain ⟨t', e1, h1⟩ := hb pre x post t e h
      obtain ⟨t2, e2, h2⟩ := ih (pre ++ [x]) t' (by rw [e, List.append_assoc]; rfl) h1
      exact ⟨t2, by rw [forL_cons, e1, sbO]; exact e2, h2⟩
  exact key xs [] t rfl h0
/-! ### marks -/
theorem lookS_map {z a y : Str} : ∀ c : List (Str × Str), (c.map fun p => if p.1 = z then (p.1, a) else p).lookup y = if y = z then (if (c.any fun p => decide (p.1 = z)) = true then some a else none) else c.lookup y
  | [] => by simp
  | (k, x) :: c => by
    have ih := lookS_map (z := z) (a := a) (y := y) c
    rw [List.map_cons]
    by_cases e : k = z
    · subst e
      rw [if_pos rfl, List.lookup_cons, List.any_cons, decide_eq_true rfl, Bool.true_or, if_pos rfl]
      by_cases f : y = k
      · subst f
        rw [beq_self_eq_true, if_pos rfl]
      · have b : (y == k) = false := by simpa using f
        rw [b, if_neg f, List.lookup_cons, b, ih, if_neg f]
    · rw [if_neg e, List.lookup_cons, List.any_cons, decide_eq_false e, Bool.false_or, List.lookup_cons]
      by_cases f : y = k
      · subst f
        rw [beq_self_eq_true, if_neg e]
      · have b : (y == k) = false := by simpa using f
        rw [b]
        exact ih
theorem putS_look (c : List (Str × Str)) (z y a : Str) : (putD c z a).lookup y = if y = z then some a else c.lookup y := by
  unfold putD
  by_cases h : (c.any fun p => decide (p.1 = z)) = true
  · rw [if_pos h, lookS_map, if_pos h]
  · rw [if_neg h, List.lookup_append]
    by_cases f : y = z
    · subst f
      have : c.lookup y = none := by
        rw [List.lookup_eq_none_iff]
        intro p hp
        have := List.any_eq_false.mp (Bool.not_eq_true _ ▸ h) p hp
        simp at this ⊢
        exact fun e => this e.symm
      rw [this, if_pos rfl, List.lookup_cons, beq_self_eq_true]; rfl
    · have b : (y == z) = false := by simpa using f
      rw [if_neg f, List.lookup_cons, b]
      cases c.lookup y <;> rfl
/-- the dict tells the marks -/
structure Mk (r : List Str) (m : Str → Str) (N : Nat) (c : Dc Str Str) : Prop where
  look : ∀ x ∈ r, c.l.lookup x = some (m x)
  len : c.l.length ≤ N
def mv (m : Str → Str) (o t : Str) : Str → Str := fun x => if m x = m t then m o else m x
abbrev RB := Fw (Sh.lst (Sh.lst Sh.dat)) (List (List Str))
/-- what stands as marks: names joined, and no more -/
structure Jn (r : List Str) (qs : List (Str × Str)) (m : Str → Str) : Prop where
  a : ∀ p ∈ qs, m p.1 = m p.2
  b : ∀ h : Str → Bool, (∀ p ∈ qs, h p.1 = h p.2) → ∀ x ∈ r, ∀ y ∈ r, m x = m y → h x = h y
theorem Jn.step {r : List Str} {qs : List (Str × Str)} {m : Str → Str} (J : Jn r qs m) {o t : Str} (ho : o ∈ r) (ht : t ∈ r) : Jn r (qs ++ [(o, t)]) (mv m o t) := by
  refine ⟨fun p hp => ?_, fun h hh x hx y hy e => ?_⟩
  · rcases List.mem_append.mp hp with hp | hp
    · have := J.a p hp
      unfold mv
      rw [this]
    · rw [List.mem_singleton] at hp
      subst hp
      unfold mv
      show (if m o = m t then m o else m o) = if m t = m t then m o else m t
      rw [if_pos rfl]
      by_cases c : m o = m t <;> simp [c]
  · have hq := fun p hp => hh p (List.mem_append_left _ hp)
    have hot : h o = h t := hh (o, t) (by simp)
    have B := J.b h hq
    unfold mv at e
    by_cases c1 : m x = m t
    · by_cases c2 : m y = m t
      · exact B x hx y hy (c1.trans c2.symm)
      · rw [if_pos c1, if_neg c2] at e
        rw [B x hx t ht c1, ← hot]
        exact B o ho y hy e
    · by_cases c2 : m y = m t
      · rw [if_neg c1, if_pos c2] at e
        rw [B y hy t ht c2, ← hot]
        exact B x hx o ho e
      · rw [if_neg c1, if_neg c2] at e
        exact B x hx y hy e
end K11

set_option Elab.async false
set_option linter.all false
set_option maxRecDepth 100000
set_option maxHeartbeats 1000000
namespace K11
open PySem PySem.Spec PyProof.Rows L2 ON
open PyData (strOk)
/-! ### groups -/
def cls (m : Str → Str) (r : List Str) (x : Str) : List Str := r.filter fun y => decide (m y = m x)
def frs1 (m : Str → Str) (r : List Str) : List Str := r.filter fun x => decide ((cls m r x).head? = some x)
def gr (m : Str → Str) (r : List Str) : List (Str × List Str) := r.foldl (fun c x => apD c (m x) x) []
theorem apD_none {m : Str → Str} {g : Str → List Str} {z a : Str} : ∀ L : List Str, (∀ x ∈ L, m x ≠ z) → apD (L.map fun x => (m x, g x)) z a = (L.map fun x => (m x, g x)) ++ [(z, [a])]
  | [], _ => rfl
  | x :: L, h => by
    show (if m x = z then _ else _) = _
    rw [if_neg (h x (.head _)), apD_none L fun y hy => h y (.tail _ hy)]; rfl
theorem apD_some {m : Str → Str} {g : Str → List Str} {z a : Str} : ∀ L : List Str, L.Nodup → (∀ x ∈ L, ∀ y ∈ L, m x = m y → x = y) → (∃ x ∈ L, m x = z) → apD (L.map fun x => (m x, g x)) z a = L.map fun x => (m x, g x ++ if z = m x then [a] else [])
  | [], _, _, h => by obtain ⟨x, hx, _⟩ := h; cases hx
  | x :: L, nd, hd, h => by
    rw [List.nodup_cons] at nd
    show (if m x = z then _ else _) = _
    by_cases c : m x = z
    · rw [if_pos c, List.map_cons, if_pos c.symm]
      congr 1
      refine List.map_congr_left fun y hy => ?_
      have : z ≠ m y := fun e => by
        have := hd x (.head _) y (.tail _ hy) (c.trans e)
        subst this
        exact nd.1 hy
      rw [if_neg this, List.append_nil]
    · rw [if_neg c, List.map_cons, if_neg (fun e => c e.symm), List.append_nil]
      congr 1
      refine apD_some L nd.2 (fun x hx y hy => hd x (.tail _ hx) y (.tail _ hy)) ?_
      obtain ⟨y, hy, e⟩ := h
      rcases List.mem_cons.mp hy with rfl | hy
      · exact absurd e c
      · exact ⟨y, hy, e⟩
theorem cls_key {m : Str → Str} {r : List Str} {x y : Str} (e : m x = m y) : cls m r x = cls m r y := by unfold cls; rw [e]
theorem frs1_inj {m : Str → Str} {r : List Str} : ∀ x ∈ frs1 m r, ∀ y ∈ frs1 m r, m x = m y → x = y := fun x hx y hy e => by
  have h1 := of_decide_eq_true (List.mem_filter.mp hx).2
  have h2 := of_decide_eq_true (List.mem_filter.mp hy).2
  rw [cls_key e, h2] at h1
  exact (Option.some.inj h1).symm
theorem cls_snoc {m : Str → Str} {r : List Str} {a x : Str} : cls m (r ++ [a]) x = cls m r x ++ if m a = m x then [a] else [] := by
  unfold cls
  rw [List.filter_append]
  congr 1
  by_cases c : m a = m x
  · rw [if_pos c]; simp [c]
  · rw [if_neg c]; simp [c]
theorem frs1_snoc {m : Str → Str} {r : List Str} {a : Str} (ha : a ∉ r) : frs1 m (r ++ [a]) = frs1 m r ++ if cls m r a = [] then [a] else [] := by
  unfold frs1
  rw [List.filter_append]
  congr 1
  · refine List.filter_congr fun x hx => ?_
    rw [cls_snoc]
    have hne : x ∈ cls m r x := List.mem_filter.mpr ⟨hx, decide_eq_true rfl⟩
    cases hc : cls m r x with
    | nil => rw [hc] at hne; cases hne
    | cons y l => rfl
  · rw [List.filter_cons, cls_snoc, if_pos rfl]
    cases hc : cls m r a with
    | nil => simp
    | cons y l =>
      have hy : y ∈ r := by
        have : y ∈ cls m r a := by rw [hc]; exact .head _
        exact (List.mem_filter.mp this).1
      have hya : y ≠ a := fun e => ha (e ▸ hy)
      simp [hya]
theorem gr_eq (m : Str → Str) : ∀ (n : Nat) (r : List Str), r.length = n → r.Nodup → gr m r = (frs1 m r).map fun x => (m x, cls m r x) := by
  intro n
  induction n with
  | zero =>
    intro r h _
    have : r = [] := List.length_eq_zero_iff.mp h
    subst this; rfl
  | succ n ih =>
    intro r h nd
    obtain ⟨q, a, rfl⟩ : ∃ q a, r = q ++ [a] := ⟨r.dropLast, r.getLast (fun e => by rw [e] at h; cases h), (List.dropLast_concat_getLast _).symm⟩
    rw [List.nodup_append] at nd
    have haq : a ∉ q := fun hm => nd.2.2 a hm a (by simp) rfl
    have ihq := ih q (by rw [List.length_append] at h; simpa using h) nd.1
    have e1 : gr m (q ++ [a]) = apD (gr m q) (m a) a := by unfold gr; rw [List.foldl_append]; rfl
    rw [e1, ihq, frs1_snoc haq]
    have nf : (frs1 m q).Nodup := nd.1.filter _
    by_cases c : cls m q a = []
    · rw [if_pos c, apD_none, List.map_append]
      · congr 1
        · refine List.map_congr_left fun x hx => ?_
          have hx' := (List.mem_filter.mp hx).1
          have : m a ≠ m x := fun e => by
            have : x ∈ cls m q a := List.mem_filter.mpr ⟨hx', decide_eq_true e.symm⟩
            rw [c] at this; cases this
          rw [cls_snoc, if_neg this, List.append_nil]
        · show [(m a, [a])] = [(m a, cls m (q ++ [a]) a)]
          rw [cls_snoc, if_pos rfl, c]; rfl
      · intro x hx e
        have : x ∈ cls m q a := List.mem_filter.mpr ⟨(List.mem_filter.mp hx).1, decide_eq_true e⟩
        rw [c] at this; cases this
    · rw [if_neg c, List.append_nil, apD_some _ nf frs1_inj]
      · exact List.map_congr_left fun x hx => by rw [cls_snoc]
      · cases hc : cls m q a with
        | nil => exact absurd hc c
        | cons x l =>
          have hx : x ∈ cls m q a := by rw [hc]; exact .head _
          have hx' := List.mem_filter.mp hx
          have e := of_decide_eq_true hx'.2
          exact ⟨x, List.mem_filter.mpr ⟨hx'.1, decide_eq_true (by rw [cls_key e, hc]; rfl)⟩, e⟩
/-- the parts, by the marks -/
def prt (m : Str → Str) (r : List Str) : List (List Str) := (frs1 m r).map (cls m r)
theorem gr_snd {m : Str → Str} {r : List Str} (h : r.Nodup) : (gr m r).map (·.2) = prt m r := by
  rw [gr_eq m _ r rfl h, List.map_map]; rfl
theorem apD_len {z a : Str} : ∀ c : List (Str × List Str), (apD c z a).length ≤ c.length + 1
  | [] => Nat.le_refl _
  | (k, xs) :: c => by
    show (if k = z then _ else _ : List (Str × List Str)).length ≤ _
    split
    · simp
    · have := apD_len (z := z) (a := a) c
      simp only [List.length_cons]; omega
theorem apD_in {z a : Str} {N : Nat} : ∀ c : List (Str × List Str), (∀ p ∈ c, p.2.length ≤ N) → ∀ p ∈ apD c z a, p.2.length ≤ N + 1
  | [], _, p, hp => by
    have hp : p ∈ [(z, [a])] := hp
    rw [List.mem_singleton] at hp
    subst hp; simp
  | (k, xs) :: c, h, p, hp => by
    have h0 : xs.length ≤ N := h (k, xs) (.head _)
    have hp : p ∈ (if k = z then (k, xs ++ [a]) :: c else (k, xs) :: apD c z a) := hp
    split at hp
    · rcases List.mem_cons.mp hp with rfl | hp
      · show (xs ++ [a]).length ≤ _
        rw [List.length_append]; simp; omega
      · have := h p (.tail _ hp); omega
    · rcases List.mem_cons.mp hp with rfl | hp
      · show xs.length ≤ _; omega
      · exact apD_in c (fun p hp => h p (.tail _ hp)) p hp
end K11

set_option Elab.async false
set_option linter.all false
set_option maxRecDepth 100000
set_option maxHeartbeats 1000000
namespace K11
open PySem PySem.Spec PyProof.Rows L2 ON
open PyData (strOk)
theorem lookup_diag {r : List Str} {x : Str} (h : x ∈ r) : (r.map fun a => (a, a)).lookup x = some x := by
  induction r with
  | nil => cases h
  | cons y r ih =>
    rw [List.map_cons, List.lookup_cons]
    by_cases e : x = y
    · subst e; rw [beq_self_eq_true]
    · have b : (x == y) = false := by simpa using e
      rw [b]
      exact ih ((List.mem_cons.mp h).resolve_left e)
theorem hanging_eq {ns : List Str} {ps : List (Str × Str)} (nl : ns.length ≤ 40) (nd : ns.Nodup) (pl : ps.length ≤ 100) (hp : ∀ p ∈ ps, p.1 ∈ ns ∧ p.2 ∈ ns) : ∃ m, Jn (sortS ns) ps m ∧ m_hanging_together ns ps = some (prt m (sortS ns)) := by
  have pm := sortS_perm ns
  have rn : (sortS ns).Nodup := pm.nodup_iff.mpr nd
  have rl : (sortS ns).length ≤ 40 := by rw [pm.length_eq]; exact nl
  have rp : ∀ p ∈ ps, p.1 ∈ sortS ns ∧ p.2 ∈ sortS ns := fun p h => ⟨pm.mem_iff.mpr (hp p h).1, pm.mem_iff.mpr (hp p h).2⟩
  unfold m_hanging_together mb_hanging_together
  simp only [pur_opt, sbO, liftO, gd_y (show ns.length < 64 by omega)]
  generalize sortS ns = r at rn rl rp
  rw [gd_y (show r.length ≤ 100000 by omega), compL_map (f := fun a : Str => (a, a)) r (fun _ _ => ⟨rfl, rfl⟩), sbO, dcOf_nd _ (by rw [List.map_map]; exact (List.map_id r).symm ▸ rn)]
  rw [sbO]
  refine Exists.elim (forL_pre (ρ := RB) (l := Empty) (b := fun (t_26 : Dc Str Str) (a_27 : Str × Str) => Mn.bnd (Mn.bnd (List.lookup a_27.1 t_26.l) fun x_30 => Mn.bnd (List.lookup a_27.2 t_26.l) fun y_31 => some (x_30, y_31)) fun p_32 => (andThen (forL (fun (t_34 : Dc Str Str) (a_35 : Str) => (andThen (Mn.bnd (Mn.bnd (List.lookup a_35 t_34.l) fun x_37 => some (decide (x_37 = p_32.2))) fun b_39 => cnd b_39 (gd (List.length t_34.l < 100000) (some (Fl.nx (dcP t_34 a_35 p_32.1)))) (some (Fl.nx t_34)) : Option (Fl (Dc Str Str) (Dc Str Str) RB)) fun t_40 => some (Fl.nx t_40))) r t_26 : Option (Fl (Dc Str Str) (Dc Str Str) RB)) fun t_34 => some (Fl.nx t_34)))
    (fun pre c => ∃ m, Mk r m (40 + 40 * pre.length) c ∧ Jn r pre m) ps ⟨r.map fun a => (a, a)⟩ ⟨id, ⟨fun x hx => lookup_diag hx, by show (r.map _).length ≤ _; rw [List.length_map]; simp; omega⟩, ⟨(fun p h => nomatch h), fun h _ x _ y _ e => congrArg h e⟩⟩ fun pre p post c eps hI => ?_) fun c hc => ?_
  · obtain ⟨m, hm, J⟩ := hI
    have hpp : p ∈ ps := by rw [eps]; simp
    obtain ⟨h1, h2⟩ := rp p hpp
    have el : pre.length + 1 + post.length = ps.length := by rw [eps]; simp; omega
    simp only [hm.look _ h1, hm.look _ h2, sbO]
    refine Exists.elim (forL_pre (ρ := RB) (l := Dc Str Str) (b := fun (t_34 : Dc Str Str) (a_35 : Str) => (andThen (Mn.bnd (Mn.bnd (List.lookup a_35 t_34.l) fun x_37 => some (decide (x_37 = m p.2))) fun b_39 => cnd b_39 (gd (List.length t_34.l < 100000) (some (Fl.nx (dcP t_34 a_35 (m p.1))))) (some (Fl.nx t_34)) : Option (Fl (Dc Str Str) (Dc Str Str) RB)) fun t_40 => some (Fl.nx t_40)))
      (fun q c => (∀ x ∈ r, c.l.lookup x = some (if x ∈ q then mv m p.1 p.2 x else m x)) ∧ c.l.length ≤ 40 + 40 * pre.length + q.length) r c ⟨fun x hx => by rw [hm.look x hx]; simp, hm.len⟩ fun q x post2 c er hI => ?_) fun c2 hc2 => ?_
    · have hx : x ∈ r := by rw [er]; simp
      have hxq : x ∉ q := fun hm => by
        rw [er, List.nodup_append] at rn
        exact rn.2.2 x hm x (by simp) rfl
      have hlk := hI.1 x hx
      rw [if_neg hxq] at hlk
      have hl := hI.2
      have el2 : q.length + 1 + post2.length = r.length := by rw [er]; simp; omega
      simp only [hlk, sbO]
      by_cases cc : m x = m p.2
      · rw [decide_eq_true cc, cnd_t, gd_y (by omega), andThen_nx]
        refine ⟨_, rfl, fun y hy => ?_, by have := putD_len c.l x (m p.1); show (putD _ _ _).length ≤ _; rw [List.length_append]; simp; omega⟩
        show (putD c.l x (m p.1)).lookup y = _
        rw [putS_look]
        by_cases e : y = x
        · subst e
          rw [if_pos rfl, if_pos (by simp)]
          unfold mv; rw [if_pos cc]
        · rw [if_neg e, hI.1 y hy]
          have : (y ∈ q ++ [x]) ↔ y ∈ q := by simp [e]
          by_cases c3 : y ∈ q
          · rw [if_pos c3, if_pos (this.mpr c3)]
          · rw [if_neg c3, if_neg (fun z => c3 (this.mp z))]
      · rw [decide_eq_false cc, cnd_f, andThen_nx]
        refine ⟨_, rfl, fun y hy => ?_, by rw [List.length_append]; simp; omega⟩
        rw [hI.1 y hy]
        by_cases e : y = x
        · subst e
          rw [if_neg hxq, if_pos (by simp)]
          unfold mv; rw [if_neg cc]
        · have : (y ∈ q ++ [x]) ↔ y ∈ q := by simp [e]
          by_cases c3 : y ∈ q
          · rw [if_pos c3, if_pos (this.mpr c3)]
          · rw [if_neg c3, if_neg (fun z => c3 (this.mp z))]
    · obtain ⟨e2, h3⟩ := hc2
      refine ⟨c2, ?_, mv m p.1 p.2, ⟨fun x hx => by rw [h3.1 x hx, if_pos hx], by have := h3.2; rw [List.length_append]; simp; omega⟩, J.step h1 h2⟩
      rw [e2, andThen_nx]
  · obtain ⟨e1, m, hm, J⟩ := hc
    refine ⟨m, J, ?_⟩
    rw [e1, andThen_nx]
    refine Exists.elim (forL_pre (ρ := RB) (l := Empty) (b := fun (t_47 : Dc Str (List Str)) (a_48 : Str) => (Mn.bnd (List.lookup a_48 c.l) fun y_51 => gd (List.length t_47.l < 100000 ∧ ∀ p ∈ t_47.l, List.length p.2 < 100000) (some (Fl.nx (apDc t_47 y_51 a_48))) : Option (Fl (Dc Str (List Str)) (Dc Str (List Str)) RB)))
      (fun q d => d.l = gr m q ∧ d.l.length ≤ q.length ∧ ∀ p ∈ d.l, p.2.length ≤ q.length) r ⟨[]⟩ ⟨rfl, Nat.le_refl _, fun p h => nomatch h⟩ fun q x post2 d er hI => ?_) fun c2 hc2 => ?_
    · have hx : x ∈ r := by rw [er]; simp
      have el2 : q.length + 1 + post2.length = r.length := by rw [er]; simp; omega
      obtain ⟨i1, i2, i3⟩ := hI
      rw [hm.look x hx, sbO, gd_y ⟨by omega, fun p hp => by have := i3 p hp; omega⟩]
      refine ⟨_, rfl, ?_, ?_, fun p hp => ?_⟩
      · show apD d.l (m x) x = _
        rw [i1]; unfold gr; rw [List.foldl_append]; rfl
      · have := apD_len (z := m x) (a := x) d.l
        show (apD d.l (m x) x).length ≤ _
        rw [List.length_append]; simp; omega
      · have := apD_in (z := m x) (a := x) d.l i3 p hp
        rw [List.length_append]; simp; omega
    · obtain ⟨e2, h3⟩ := hc2
      rw [e2, andThen_nx]
      show some _ = some _
      rw [h3.1, gr_snd rn]
end K11

set_option Elab.async false
set_option linter.all false
set_option maxRecDepth 100000
set_option maxHeartbeats 1000000
namespace K11
open PySem PySem.Spec PyProof.Rows L2 ON
open PyData (strOk)
theorem andThen_forL {α τ τ' l ρ : Type} {b : τ → α → Option (Fl τ τ ρ)} {f : τ → Option (Fl τ' l ρ)} {z : Option (Fl τ' l ρ)} (I : List α → τ → Prop) (xs : List α) (t : τ) (h0 : I [] t) (hb : ∀ pre x post t, xs = pre ++ x :: post → I pre t → ∃ t', b t x = some (.nx t') ∧ I (pre ++ [x]) t') (hf : ∀ t', I xs t' → f t' = z) : andThen (forL b xs t) f = z := by
  obtain ⟨t', e, i2⟩ := forL_pre (l := l) I xs t h0 hb
  rw [e, andThen_nx]
  exact hf t' i2
structure Cm (ns : List Str) (ts : List Ti) (m : Str → Str) (z : Str) (F : List Str) (k : Nat) : Prop where
  zf : z ∈ F
  nd : F.Nodup
  sub : ∀ x ∈ F, x ∈ ns ∧ m x = m z
  kf : k ≤ F.length
  clo : ∀ (i : Nat) (x : Str), i < k → F[i]? = some x → ∀ t ∈ ts, (t.b = x ∨ t.c = x) → t.b ∈ F ∧ t.c ∈ F
structure Tok (ns : List Str) (ts : List Ti) : Prop where
  m : ∀ t ∈ ts, t.b ∈ ns ∧ t.c ∈ ns ∧ t.b ≠ t.c
def prs (ts : List Ti) : List (Str × Str) := ts.map fun t => (t.b, t.c)
/-- one tie looked at -/
structure Tn (ns : List Str) (m : Str → Str) (z x : Str) (F0 F : List Str) (pre : List Ti) : Prop where
  ext : ∃ e, F = F0 ++ e
  nd : F.Nodup
  sub : ∀ y ∈ F, y ∈ ns ∧ m y = m z
  clo : ∀ t ∈ pre, (t.b = x ∨ t.c = x) → t.b ∈ F ∧ t.c ∈ F
theorem come_eq {ns : List Str} {s : Sg} {m : Str → Str} {z : Str} (nl : ns.length ≤ 40) (tk : Tok ns s.b.l) (J : Jn (sortS ns) (prs s.b.l) m) (nd : ns.Nodup) (hz : z ∈ ns) : m__law_come_to s z = some (cls m (sortS ns) z) := by
  have lenF : ∀ F : List Str, F.Nodup → (∀ x ∈ F, x ∈ ns ∧ m x = m z) → F.length ≤ 40 := fun F h1 h2 => Nat.le_trans (h1.length_le_of_subset fun x hx => (h2 x hx).1) nl
  unfold m__law_come_to mb__law_come_to
  simp only [pur_opt, sbO, liftO, gd_y (show ([z] : List Str).length ≤ 1000 from (by decide : 1 ≤ 1000))]
  refine (congrArg fin (andThen_whl (r := some (.rt (cls m (sortS ns) z))) (fun t : List Str × Int => ∃ k : Nat, t.2 = (k : Int) ∧ Cm ns s.b.l m z t.1 k) (fun t => 41 - t.2.toNat) ⟨0, rfl, by simp, by simp, fun x hx => by rw [List.mem_singleton.mp hx]; exact ⟨hz, rfl⟩, Nat.zero_le _, fun i x h => by omega⟩ (Nat.lt_of_le_of_lt (Nat.sub_le _ _) (by decide : 41 < FU)) ?_ ?_ ?_)).trans (fr _)
  · rintro ⟨F, at_⟩ ⟨k, hk, C⟩ hc
    have hk : at_ = (k : Int) := hk
    subst hk
    have hlt : k < F.length := by simpa using hc
    have hl := lenF F C.nd C.sub
    have ex : F[k]? = some F[k] := List.getElem?_eq_getElem hlt
    have hmx := C.sub F[k] (List.getElem_mem hlt)
    refine Exists.elim (forL_pre (ρ := List Str) (l := List Str × Int) (b := fun (t_415 : List Str) (a_416 : Ti) => (andThen (Mn.bnd (Mn.bnd (atI t_415 (k : Int)) fun x_421 => some (decide (x_421 ∈ [a_416.b, a_416.c]))) fun b_423 => cnd b_423 (Mn.bnd (Mn.bnd (gd (List.length [a_416.b, a_416.c] ≤ 100000) (compL (fun a_429 => some (!decide (a_429 ∈ t_415))) (fun a_429 => some a_429) [a_416.b, a_416.c])) fun y_434 => gd (List.length t_415 + List.length y_434 ≤ sizeLine) (some (t_415 ++ y_434))) fun found_425 => some (Fl.nx found_425)) (some (Fl.nx t_415)) : Option (Fl (List Str) (List Str) (List Str))) fun t_424 => some (Fl.nx t_424)))
      (fun pre F' => Tn ns m z F[k] F F' pre) s.b.l F ⟨⟨[], by simp⟩, C.nd, C.sub, fun t h => nomatch h⟩ fun pre t post F1 ets hT => ?_) fun F' hF => ?_
    · have ht : t ∈ s.b.l := by rw [ets]; simp
      obtain ⟨tb, tc, tne⟩ := tk.m t ht
      obtain ⟨e1, e2⟩ := hT.ext
      have hl1 := lenF F1 hT.nd hT.sub
      have eat : atI F1 (k : Int) = some F[k] := by
        have : k < F1.length := by rw [e2, List.length_append]; omega
        rw [atNn F1 k this, e2, List.getElem?_append_left hlt]; exact ex
      have mbc : m t.b = m t.c := J.a (t.b, t.c) (List.mem_map.mpr ⟨t, ht, rfl⟩)
      simp only [eat, sbO]
      by_cases cc : F[k] ∈ [t.b, t.c]
      · rw [decide_eq_true cc, cnd_t, gd_y (show ([t.b, t.c] : List Str).length ≤ 100000 from (by decide : 2 ≤ 100000)), compL_filter (q := fun y => !decide (y ∈ F1)) _ (fun y _ => ⟨rfl, rfl⟩), sbO]
        have fl : (List.filter (fun y => !decide (y ∈ F1)) [t.b, t.c]).length ≤ 2 := List.length_filter_le _ _
        rw [gd_y (szl (by omega)), sbO, andThen_nx]
        have mz : m t.b = m z ∧ m t.c = m z := by
          simp only [List.mem_cons, List.not_mem_nil, or_false] at cc
          rcases cc with c | c
          · rw [← mbc, ← c]; exact ⟨hmx.2, hmx.2⟩
          · rw [mbc, ← c]; exact ⟨hmx.2, hmx.2⟩
        have inn : ∀ y, y ∈ [t.b, t.c] → y ∈ F1 ++ List.filter (fun y => !decide (y ∈ F1)) [t.b, t.c] := fun y hy => by
          by_cases c : y ∈ F1
          · exact List.mem_append_left _ c
          · exact List.mem_append_right _ (List.mem_filter.mpr ⟨hy, by simp [c]⟩)
        refine ⟨_, rfl, ⟨e1 ++ _, by rw [e2, List.append_assoc]⟩, ?_, ?_, ?_⟩
        · rw [List.nodup_append]
          refine ⟨hT.nd, List.Pairwise.filter _ (by simp [tne]), fun a ha b hb e => ?_⟩
          have := (List.mem_filter.mp hb).2
          subst e
          simp [ha] at this
        · intro y hy
          rcases List.mem_append.mp hy with h | h
          · exact hT.sub y h
          · have h := (List.mem_filter.mp h).1
            simp only [List.mem_cons, List.not_mem_nil, or_false] at h
            rcases h with rfl | rfl
            · exact ⟨tb, mz.1⟩
            · exact ⟨tc, mz.2⟩
        · intro t' ht' hx
          rcases List.mem_append.mp ht' with h | h
          · have := hT.clo t' h hx
            exact ⟨List.mem_append_left _ this.1, List.mem_append_left _ this.2⟩
          · rw [List.mem_singleton] at h
            subst h
            exact ⟨inn _ (by simp), inn _ (by simp)⟩
      · rw [decide_eq_false cc, cnd_f, andThen_nx]
        refine ⟨_, rfl, ⟨e1, e2⟩, hT.nd, hT.sub, fun t' ht' hx => ?_⟩
        rcases List.mem_append.mp ht' with h | h
        · exact hT.clo t' h hx
        · rw [List.mem_singleton] at h
          subst h
          exact absurd (by simp only [List.mem_cons, List.not_mem_nil, or_false]; rcases hx with h | h <;> simp [h]) cc
    · obtain ⟨e, T⟩ := hF
      obtain ⟨e1, e2⟩ := T.ext
      rw [e, andThen_nx]
      have hl' := lenF F' T.nd T.sub
      refine ⟨_, rfl, ⟨k + 1, by omega, by rw [e2]; exact List.mem_append_left _ C.zf, T.nd, T.sub, by rw [e2, List.length_append]; omega, fun i x hi hx t ht htx => ?_⟩, by show 41 - ((k : Int) + 1).toNat < 41 - (k : Int).toNat; omega⟩
      by_cases ci : i < k
      · rw [e2, List.getElem?_append_left (by omega)] at hx
        have := C.clo i x ci hx t ht htx
        rw [e2]
        exact ⟨List.mem_append_left _ this.1, List.mem_append_left _ this.2⟩
      · have ei : i = k := by omega
        subst ei
        rw [e2, List.getElem?_append_left hlt, ex] at hx
        cases hx
        exact T.clo t ht htx
  · rintro ⟨F, at_⟩ _
    cases decide (at_ < (F.length : Int)) with
    | true => exact .inl rfl
    | false => exact .inr rfl
  · rintro ⟨F, at_⟩ ⟨k, hk, C⟩ hc
    have hk : at_ = (k : Int) := hk
    subst hk
    have hge : F.length ≤ k := by simpa using hc
    have hl := lenF F C.nd C.sub
    show Mn.bnd (gd (F.length < 64) (some (sortS F))) _ = _
    rw [gd_y (by omega), sbO]
    have eF : sortS F = cls m (sortS ns) z := by
      have p1 := sortS_perm F
      have p2 := sortS_perm ns
      refine List.Perm.eq_of_pairwise (le := fun a b => leS a b = true) (fun a b _ _ => leS_anti) (sortS_pw F) ((sortS_pw ns).filter _) ?_
      unfold cls
      rw [List.perm_ext_iff_of_nodup (p1.nodup_iff.mpr C.nd) ((p2.nodup_iff.mpr nd).filter _)]
      intro x
      rw [p1.mem_iff]
      constructor
      · intro hx
        have := C.sub x hx
        exact List.mem_filter.mpr ⟨p2.mem_iff.mpr this.1, decide_eq_true this.2⟩
      · intro hx
        have hx := List.mem_filter.mp hx
        have := J.b (fun y => decide (y ∈ F)) (fun p hp => ?_) x hx.1 z (p2.mem_iff.mpr hz) (of_decide_eq_true hx.2)
        · simpa [C.zf] using this
        · obtain ⟨t, ht, rfl⟩ := List.mem_map.mp hp
          refine decide_eq_decide.mpr ⟨fun h => ?_, fun h => ?_⟩
          · obtain ⟨i, hi, e⟩ := List.getElem_of_mem h
            exact (C.clo i _ (by omega) (List.getElem?_eq_getElem hi) t ht (.inl e.symm)).2
          · obtain ⟨i, hi, e⟩ := List.getElem_of_mem h
            exact (C.clo i _ (by omega) (List.getElem?_eq_getElem hi) t ht (.inr e.symm)).1
    rw [eF]
end K11

set_option Elab.async false
set_option linter.all false
set_option maxRecDepth 100000
set_option maxHeartbeats 1000000
namespace K11
open PySem PySem.Spec PyProof.Rows L2 ON
open PyData (strOk)
def nmsOf (s : Sg) : List Str := s.a.l.map fun n => n.a
structure Ps (s : Sg) : Prop where
  nd : (nmsOf s).Nodup
  nl : s.a.l.length ≤ 40
  tl : s.b.l.length ≤ 80
  tk : Tok (nmsOf s) s.b.l
  ok : ∀ x ∈ nmsOf s, strOk x = true
  sh : shw (enc s) = true
theorem parts_eq {s : Sg} (h : Ps s) : ∃ m, Jn (sortS (nmsOf s)) (prs s.b.l) m ∧ m_parts_of s = some (prt m (sortS (nmsOf s))) := by
  have h1 := h.nl
  have h2 := h.tl
  obtain ⟨m, J, e⟩ := hanging_eq (ns := nmsOf s) (ps := prs s.b.l) (by unfold nmsOf; rw [List.length_map]; exact h.nl) h.nd (by unfold prs; rw [List.length_map]; omega) fun p hp => by
    obtain ⟨t, ht, rfl⟩ := List.mem_map.mp hp
    exact ⟨(h.tk.m t ht).1, (h.tk.m t ht).2.1⟩
  refine ⟨m, J, ?_⟩
  unfold m_parts_of mb_parts_of
  simp only [pur_opt, sbO, liftO]
  rw [gd_y (by omega), compL_map (f := fun n : Nt => n.a) s.a.l (fun _ _ => ⟨rfl, rfl⟩), sbO, gd_y (by omega), compL_map (f := fun t : Ti => (t.b, t.c)) s.b.l (fun _ _ => ⟨rfl, rfl⟩), sbO, sbO]
  show Option.map Fw.r (fin (Mn.bnd (m_hanging_together (nmsOf s) (prs s.b.l)) _)) = _
  rw [e, sbO]
  rfl
theorem cls_at {m : Str → Str} {r : List Str} {x : Str} (hx : x ∈ r) : ∃ y, atI (cls m r x) 0 = some y ∧ (cls m r x).head? = some y := by
  have : x ∈ cls m r x := List.mem_filter.mpr ⟨hx, decide_eq_true rfl⟩
  cases hc : cls m r x with
  | nil => rw [hc] at this; cases this
  | cons y l => exact ⟨y, by have := atNn (y :: l) 0 (by simp); simpa using this, rfl⟩
theorem okLL {xs : List (List Str)} (h : ∀ l ∈ xs, ∀ x ∈ l, strOk x = true) : EqD.ok xs = true := List.all_eq_true.mpr fun l hl => List.all_eq_true.mpr fun x hx => h l hl x hx
theorem right_eq {s : Sg} (h : Ps s) : m__law_parts_right s = some true := by
  have h1 := h.nl
  have h2 := h.tl
  obtain ⟨m, J, e⟩ := parts_eq h
  have lr : (nmsOf s).length ≤ 40 := by unfold nmsOf; rw [List.length_map]; exact h.nl
  have pm := sortS_perm (nmsOf s)
  have rl : (sortS (nmsOf s)).length ≤ 40 := by rw [pm.length_eq]; exact lr
  have ce : ∀ z ∈ sortS (nmsOf s), m__law_come_to s z = some (cls m (sortS (nmsOf s)) z) := fun z hz => come_eq lr h.tk J h.nd (pm.mem_iff.mp hz)
  have okr : ∀ x ∈ sortS (nmsOf s), strOk x = true := fun x hx => h.ok x (pm.mem_iff.mp hx)
  unfold m__law_parts_right mb__law_parts_right
  simp only [pur_opt, sbO, liftO, gd_y (show ([] : List (List Str)).length ≤ 1000 by decide), gd_y h.sh]
  rw [gd_y (show s.a.l.length ≤ 100000 by omega), compL_map (f := fun n : Nt => n.a) s.a.l (fun _ _ => ⟨rfl, rfl⟩), sbO]
  have eN : (s.a.l.map fun n => n.a) = nmsOf s := rfl
  rw [eN, gd_y (show (nmsOf s).length < 64 by omega), sbO]
  generalize sortS (nmsOf s) = r at rl ce okr e J pm
  have pl : (prt m r).length ≤ 40 := by
    unfold prt frs1
    rw [List.length_map]
    have := List.length_filter_le (fun x => decide ((cls m r x).head? = some x)) r
    omega
  have pin : ∀ l ∈ prt m r, l.length ≤ 40 ∧ ∀ x ∈ l, strOk x = true := fun l hl => by
    obtain ⟨x, hx, rfl⟩ := List.mem_map.mp hl
    refine ⟨?_, fun y hy => okr y (List.mem_filter.mp hy).1⟩
    have := List.length_filter_le (fun y => decide (m y = m x)) r
    show (cls m r x).length ≤ 40
    unfold cls
    omega
  refine (congrArg fin (andThen_forL (z := some (.rt true)) (fun pre (t : List (List Str)) => t = (pre.filter fun x => decide ((cls m r x).head? = some x)).map (cls m r)) r [] rfl (fun pre a post t er hI => ?_) fun t hI => ?_)).trans (fr _)
  · have ha : a ∈ r := by rw [er]; simp
    obtain ⟨y, y1, y2⟩ := cls_at (m := m) ha
    have hl : t.length ≤ pre.length := by rw [hI, List.length_map]; exact List.length_filter_le _ _
    have el : pre.length + 1 + post.length = r.length := by rw [er]; simp; omega
    simp only [ce a ha, sbO, y1]
    by_cases c : y = a
    · rw [decide_eq_true c, cnd_t, gd_y (by omega), andThen_nx]
      refine ⟨_, rfl, ?_⟩
      have : decide ((cls m r a).head? = some a) = true := decide_eq_true (by rw [y2, c])
      rw [hI, List.filter_append, List.map_append, List.filter_cons, this]; rfl
    · rw [decide_eq_false c, cnd_f, andThen_nx]
      refine ⟨_, rfl, ?_⟩
      have : decide ((cls m r a).head? = some a) = false := decide_eq_false (by rw [y2]; exact fun z => c (Option.some.inj z))
      rw [hI, List.filter_append, List.map_append, List.filter_cons, this]; simp
  · have hI : t = prt m r := hI
    subst hI
    have k1 : kit "list" (enc (prt m r)) = true := rfl
    have sh : Shp (enc (prt m r)) = true := EqD.shp _ (okLL fun l hl => (pin l hl).2)
    have de : deqv (enc (prt m r)) (enc (prt m r)) = true := (EqD.deqv _ _).trans (decide_eq_true rfl)
    simp only [gd_y (show -(2 ^ 62 : Int) ≤ 2 ∧ (2 : Int) < 2 ^ 62 by decide), sbO, e, k1, Bool.not_true, cnd_f, gd_y (And.intro sh sh), de]
    refine andThen_forL (fun _ _ => True) _ () trivial (fun pre a post t _ _ => ⟨(), ?_, trivial⟩) fun t _ => ?_
    · rw [gd_y (by omega), compL_map (f := fun i : List Str => kit "list" (enc i)) (prt m r) (fun _ _ => ⟨rfl, rfl⟩), sbO]
      have : ((prt m r).map fun i : List Str => kit "list" (enc i)).all id = true := List.all_eq_true.mpr fun b hb => by
        obtain ⟨_, _, rfl⟩ := List.mem_map.mp hb; rfl
      rw [this, sbO, sbO, Bool.not_true, cnd_f, andThen_nx, gd_y (fun l hl => by have := (pin l hl).1; omega), gd_y (by rw [List.length_map]; omega)]
    · rfl
end K11

set_option Elab.async false
set_option linter.all false
set_option maxRecDepth 100000
set_option maxHeartbeats 1000000
namespace K11
open PySem PySem.Spec PyProof.Rows L2 ON
/-! ### how long a song is when shown -/
theorem shownAll_map : ∀ ds : List PyData, PyData.shownAll ds = ds.map PyData.shown
  | [] => by simp only [PyData.shownAll, List.map_nil]
  | d :: ds => by simp only [PyData.shownAll, List.map_cons, shownAll_map ds]
theorem tup_len {B : Nat} {ds : List PyData} (h : ∀ d ∈ ds, d.shown.length ≤ B) : (PyData.tuple ds).shown.length ≤ (B + 2) * ds.length + 3 := by
  have e : (PyData.tuple ds).shown = tupleText (PyData.shownAll ds) := by simp only [PyData.shown]
  have key : ∀ xs : List PyData, (∀ d ∈ xs, d.shown.length ≤ B) → ((xs.map PyData.shown).map fun x => x.length).sum ≤ B * xs.length := by
    intro xs
    induction xs with
    | nil => intro _; exact Nat.zero_le _
    | cons x xs ih =>
      intro h
      rw [List.map_cons, List.map_cons, List.sum_cons, List.length_cons, Nat.mul_succ]
      have := h x (.head _)
      have := ih fun d hd => h d (.tail _ hd)
      omega
  have := tupleText_len_le (PyData.shownAll ds)
  rw [e]
  rw [shownAll_map] at this ⊢
  have k := key ds h
  rw [List.length_map] at this
  have : (B + 2) * ds.length = B * ds.length + 2 * ds.length := Nat.add_mul _ _ _
  omega
def okP (d : PyData) (B : Nat) : Prop := d.shown.length ≤ B ∧ d.showable = true ∧ d.hasDict = false
theorem okP.tup {B : Nat} {ds : List PyData} (h : ∀ d ∈ ds, okP d B) : okP (.tuple ds) ((B + 2) * ds.length + 3) := by
  refine ⟨tup_len fun d hd => (h d hd).1, ?_, ?_⟩
  · simp only [PyData.showable]
    induction ds with
    | nil => simp only [PyData.showableAll]
    | cons d ds ih =>
      simp only [PyData.showableAll, (h d (.head _)).2.1, Bool.true_and]
      exact ih fun d hd => h d (.tail _ hd)
  · simp only [PyData.hasDict]
    induction ds with
    | nil => simp only [PyData.hasDictAll]
    | cons d ds ih =>
      simp only [PyData.hasDictAll, (h d (.head _)).2.2, Bool.false_or]
      exact ih fun d hd => h d (.tail _ hd)
theorem okP.mono {d : PyData} {B C : Nat} (h : okP d B) (hc : B ≤ C) : okP d C := ⟨Nat.le_trans h.1 hc, h.2⟩
theorem okP_str {x : Str} (h : nok x = true) : okP (.str x) 82 := by
  refine ⟨?_, by simp only [PyData.showable], by simp only [PyData.hasDict]⟩
  have e : (PyData.str x).shown = reprText x := by simp only [PyData.shown]
  have l : (PyData.str x).layable0 = true := by
    have hl := nok_l h
    simp only [PyData.layable0, PyData.canLay0, Bool.and_eq_true, decide_eq_true_eq]
    refine ⟨⟨nok_s h, by simp only [PyData.depth]; omega⟩, ?_⟩
    simp only [PyData.weight]
    have : x.cps.size = x.length := rfl
    omega
  have := len_repr_of_layable l
  have := nok_l h
  rw [e]; omega
theorem okP_int {i : Int} (h : -1000 ≤ i ∧ i ≤ 1000) : okP (.int i) 13 := by
  refine ⟨PyData.shown_int_le2 (by omega) (by omega), ?_, by simp only [PyData.hasDict]⟩
  simp only [PyData.showable]
  have : i.natAbs < 2 ^ 10 := by omega
  have h2 : i.natAbs.log2 < 1920 := by
    by_cases c : i.natAbs = 0
    · rw [c]; decide
    · have := (Nat.log2_lt c).mpr this
      omega
  exact decide_eq_true h2
theorem okP_note {n : Nt} (h : SmB 300 n) : okP (enc n).py 360 := by
  have h1 := h.c0
  have h2 := h.c1
  have h3 := h.d0
  have h4 := h.d1
  refine (okP.tup (B := 82) (ds := [.str n.a, .str n.b, .int n.c, .int n.d]) fun d hd => ?_).mono (show (82 + 2) * 4 + 3 ≤ 360 by decide)
  simp only [List.mem_cons, List.not_mem_nil, or_false] at hd
  rcases hd with rfl | rfl | rfl | rfl
  · exact okP_str h.sa
  · exact okP_str h.sb
  · exact (okP_int (by omega)).mono (by decide)
  · exact (okP_int (by omega)).mono (by decide)
theorem okP_tie {t : Ti} (h : SmT t) : okP (enc t).py 600 := by
  have b := h.bd
  have h1 := b.e0
  have h2 := b.e1
  have h3 := b.f0
  have h4 := b.f1
  refine (okP.tup (B := 82) (ds := [.str t.a, .str t.b, .str t.c, (enc t.d).py, .int t.e, .int t.f]) fun d hd => ?_).mono (show (82 + 2) * 6 + 3 ≤ 600 by decide)
  simp only [List.mem_cons, List.not_mem_nil, or_false] at hd
  rcases hd with rfl | rfl | rfl | rfl | rfl | rfl
  · exact okP_str h.a
  · exact okP_str h.b
  · exact okP_str h.c
  · have e : (enc t.d).py = .tuple (t.d.l.map PyData.int) := by
      show PyData.tuple (D.pys (t.d.l.map enc)) = _
      congr 1
      generalize t.d.l = xs
      induction xs with
      | nil => rfl
      | cons x xs ih => simp only [List.map_cons, D.pys, ih]; rfl
    rw [e]
    refine (okP.tup (B := 13) fun d hd => ?_).mono ?_
    · obtain ⟨i, hi, rfl⟩ := List.mem_map.mp hd
      have := b.di i hi
      exact okP_int (by omega)
    · rw [List.length_map]
      have := b.dl
      omega
  · exact (okP_int (by omega)).mono (by decide)
  · exact (okP_int (by omega)).mono (by decide)
theorem okP_tl {α : Type} [Enc α] {xs : List α} {B : Nat} (h : ∀ x ∈ xs, okP (enc x).py B) : okP (enc (⟨xs⟩ : Tl α)).py ((B + 2) * xs.length + 3) := by
  have e : ∀ ys : List α, D.pys (ys.map enc) = ys.map fun x => (enc x).py := fun ys => by
    induction ys with
    | nil => rfl
    | cons x ys ih => simp only [List.map_cons, D.pys, ih]
  show okP (.tuple (D.pys (xs.map enc))) _
  rw [e]
  have := okP.tup (B := B) (ds := xs.map fun x => (enc x).py) fun d hd => by
    obtain ⟨x, hx, rfl⟩ := List.mem_map.mp hd
    exact h x hx
  rwa [List.length_map] at this
structure Sw (s : Sg) : Prop where
  n : ∀ n ∈ s.a.l, SmB 300 n
  nl : s.a.l.length ≤ 40
  t : ∀ t ∈ s.b.l, SmT t
  tl : s.b.l.length ≤ 80
  h : ∀ h, s.c = some h → nok h.1 = true ∧ nok h.2 = true
theorem shw_song {s : Sg} (h : Sw s) : shw (enc s) = true := by
  obtain ⟨⟨ns⟩, ⟨ts⟩, hm⟩ := s
  have hn : ∀ n ∈ ns, SmB 300 n := h.n
  have ht : ∀ t ∈ ts, SmT t := h.t
  have nl : ns.length ≤ 40 := h.nl
  have tl : ts.length ≤ 80 := h.tl
  have hh : ∀ p, hm = some p → nok p.1 = true ∧ nok p.2 = true := h.h
  have k1 := (okP_tl (xs := ns) (B := 360) fun n m => okP_note (hn n m)).mono (C := 50000) (by omega)
  have k2 := (okP_tl (xs := ts) (B := 600) fun n m => okP_tie (ht n m)).mono (C := 50000) (by omega)
  have k3 : okP (enc hm).py 50000 := by
    cases hm with
    | none =>
      refine ⟨?_, by decide +kernel, by decide +kernel⟩
      have : (enc (none : Option (Str × Str))).py.shown.length ≤ 50000 := by decide +kernel
      exact this
    | some p =>
      have := hh p rfl
      refine (okP.tup (B := 82) (ds := [.str p.1, .str p.2]) fun d hd => ?_).mono (show (82 + 2) * 2 + 3 ≤ 50000 by decide)
      simp only [List.mem_cons, List.not_mem_nil, or_false] at hd
      rcases hd with rfl | rfl
      · exact okP_str this.1
      · exact okP_str this.2
  have k := okP.tup (B := 50000) (ds := [(enc (⟨ns⟩ : Tl Nt)).py, (enc (⟨ts⟩ : Tl Ti)).py, (enc hm).py]) fun d hd => by
    simp only [List.mem_cons, List.not_mem_nil, or_false] at hd
    rcases hd with rfl | rfl | rfl
    · exact k1
    · exact k2
    · exact k3
  have ok : EqD.ok (⟨⟨ns⟩, ⟨ts⟩, hm⟩ : Sg) = true := by
    show (ns.all EqD.ok && ts.all EqD.ok && EqD.ok hm) = true
    rw [List.all_eq_true.mpr fun n m => ((hn n m).sm (by decide)).ok, List.all_eq_true.mpr fun t m => (ht t m).ok]
    cases hm with
    | none => rfl
    | some p =>
      have := hh p rfl
      show (PyData.strOk p.1 && PyData.strOk p.2) = true
      rw [nok_s this.1, nok_s this.2]; rfl
  have s1 : Shp (enc (⟨⟨ns⟩, ⟨ts⟩, hm⟩ : Sg)) = true := EqD.shp _ ok
  have s2 : (enc (⟨⟨ns⟩, ⟨ts⟩, hm⟩ : Sg)).py.showable = true := k.2.1
  have s3 : (enc (⟨⟨ns⟩, ⟨ts⟩, hm⟩ : Sg)).py.hasDict = false := k.2.2
  have s4 : (enc (⟨⟨ns⟩, ⟨ts⟩, hm⟩ : Sg)).py.shown.length ≤ sizeLine := Nat.le_trans k.1 (show (50000 + 2) * 3 + 3 ≤ sizeLine by decide)
  unfold shw
  rw [s1, s2, s3, decide_eq_true s4]
  rfl
end K11

set_option Elab.async false
set_option linter.all false
set_option maxRecDepth 100000
set_option maxHeartbeats 1000000
namespace K11
open PySem PySem.Spec PyProof.Rows L2 ON
theorem Nms.at {nm : List Str} (h : Nms nm) (i : Nat) (hi : i < 48) : ∃ x, atI nm (i : Int) = some x := by
  have := h.l
  have e : nm[i]? = some (nm[i]'(by omega)) := List.getElem?_eq_getElem _
  exact ⟨_, by rw [atNn nm i (by omega), e]⟩
theorem beats_W {cl : List Int} {nm : List Str} {k : Int} (hc : cl.length ≤ 1000) (k0 : 0 ≤ k) (k1 : k ≤ 100000) (hn : Nms nm) : W (m__law_beats_right cl (some nm)) k fun b k' => b = true ∧ k ≤ k' ∧ k' ≤ k + 20 := by
  unfold m__law_beats_right
  refine W.finS ?_
  unfold mb__law_beats_right
  have l2 : ∀ a b : Int, ([a, b] : List Int).length ≤ 1000 := fun _ _ => (by decide : 2 ≤ 1000)
  have l4 : ∀ a b c d : Int, ([a, b, c, d] : List Int).length ≤ 1000 := fun _ _ _ _ => (by decide : 4 ≤ 1000)
  have b3 : ∀ a b c : Bool, ([a, b, c] : List Bool).length ≤ 1000 := fun _ _ _ => (by decide : 3 ≤ 1000)
  obtain ⟨z0, e0⟩ := hn.at 0 (by decide)
  obtain ⟨z1, e1⟩ := hn.at 1 (by decide)
  obtain ⟨z2, e2⟩ := hn.at 2 (by decide)
  have e0' : atI nm 0 = some z0 := e0
  have e1' : atI nm 1 = some z1 := e1
  have e2' : atI nm 2 = some z2 := e2
  simp only [pbS, e0', e1', e2', lsome, gd_y (l2 _ _), gd_y (l4 _ _ _ _), gd_y (b3 _ _ _), overlap_eq]
  refine W.bnd (W.nx hc (by omega) (by decide) fun b b0 b1 => ?_)
  repeat refine W.bnd ?_
  refine W.nx hc (by omega) (by decide) fun r r0 r1 => ?_
  obtain ⟨e, q1, m1⟩ := at_mem ([3, 9999 - b] : List Int) r r0 r1
  have he : 0 < e := by
    simp only [List.mem_cons, List.not_mem_nil, or_false] at m1
    rcases m1 with rfl | rfl <;> omega
  refine W.lift q1 (W.nx hc (by omega) he fun r2 r20 r21 => ?_)
  refine W.pur (W.pur (W.pur ?_))
  show W _ _ _
  have hE : b < min 9999 (b + 1 + r2) ∧ min 9999 (b + 1 + r2) ≤ 9999 := by omega
  simp only []
  generalize min 9999 (b + 1 + r2) = E at hE
  repeat refine W.bnd ?_
  refine W.nx hc (by omega) (by decide) fun r3 r30 r31 => ?_
  repeat refine W.pur ?_
  refine W.gd (l4 _ _ _ _) (W.pur ?_)
  repeat refine W.bnd ?_
  refine W.nx hc (by omega) (by decide) fun r4 r40 r41 => ?_
  obtain ⟨o, q2, m2⟩ := at_mem ([r3, E, max 0 (E - 1), b] : List Int) r4 r40 r41
  have ho : 0 ≤ o := by
    simp only [List.mem_cons, List.not_mem_nil, or_false] at m2
    rcases m2 with rfl | rfl | rfl | rfl <;> omega
  refine W.lift q2 ?_
  have hO : 0 ≤ min o 9998 ∧ min o 9998 ≤ 9998 := by omega
  generalize min o 9998 = O at hO
  repeat refine W.bnd ?_
  refine W.nx hc (by omega) (by decide) fun r5 r50 r51 => ?_
  obtain ⟨l, q3, m3⟩ := at_mem ([2, 9999 - O] : List Int) r5 r50 r51
  have hl : 0 < l := by
    simp only [List.mem_cons, List.not_mem_nil, or_false] at m3
    rcases m3 with rfl | rfl <;> omega
  refine W.lift q3 (W.nx hc (by omega) hl fun r6 r60 r61 => ?_)
  refine W.pur (W.pur (W.pur ?_))
  have hL : O < min 9999 (O + 1 + r6) := by omega
  simp only []
  generalize min 9999 (O + 1 + r6) = L at hL
  have ed : (cnd (decide (O < E)) (Mn.pur (decide (b < L))) (Mn.pur false) : Sm Bool) = Mn.pur (decide (O < E) && decide (b < L)) := by
    cases decide (O < E) with
    | true => rw [cnd_t, Bool.true_and]
    | false => rw [cnd_f, Bool.false_and]
  rw [ed, pbS]
  repeat refine W.bnd ?_
  refine W.nx hc (by omega) (by decide) fun r7 r70 r71 => ?_
  have nl := hn.l
  obtain ⟨x, q4, m4⟩ := at_mem nm r7 r70 (by omega)
  refine W.lift q4 ?_
  repeat refine W.pur ?_
  simp only []
  have o1 : ov ⟨z0, z1, b, E⟩ ⟨z2, x, O, L⟩ = (decide (O < E) && decide (b < L)) := by
    unfold ov
    rw [Bool.eq_iff_iff, Bool.and_eq_true, decide_eq_true_eq, decide_eq_true_eq, decide_eq_true_eq]
    show max b O < min E L ↔ _
    omega
  have o2 : ov ⟨z2, x, O, L⟩ ⟨z0, z1, b, E⟩ = (decide (O < E) && decide (b < L)) := by rw [ov_sym]; exact o1
  have o3 : ov ⟨z0, z1, b, E⟩ ⟨z0, z1, b, E⟩ = true := by
    unfold ov
    refine decide_eq_true ?_
    show max b b < min E E
    omega
  rw [o1, o2, o3]
  generalize (decide (O < E) && decide (b < L)) = D
  have sh : Shp (enc ([D, D, true] : List Bool)) = true := EqD.shp ([D, D, true] : List Bool) rfl
  have de : deqv (enc ([D, D, true] : List Bool)) (enc ([D, D, true] : List Bool)) = true := (EqD.deqv _ _).trans (decide_eq_true rfl)
  rw [gd_y (And.intro sh sh), de, pbS, cnd_t, gd_y (show ([D, D, true] : List Bool).length ≤ 100000 from (by decide : 3 ≤ 100000))]
  have kc : (ON.compL (fun (_ : Bool) => (Mn.pur true : Sm Bool)) (fun i : Bool => Mn.pur (kit "bool" (enc i))) [D, D, true] : Sm (List Bool)) = Mn.pur [true, true, true] := by
    rw [compL_mapS (f := fun i : Bool => kit "bool" (enc i)) _ (fun x _ => ⟨rfl, rfl⟩)]
    rfl
  rw [kc, pbS, pbS]
  exact W.pur ⟨_, rfl, rfl, by omega, by omega⟩
end K11

set_option Elab.async false
set_option linter.all false
set_option maxRecDepth 100000
set_option maxHeartbeats 1000000
namespace K11
open PySem PySem.Spec PyProof.Rows L2 ON
theorem fd_some {ns : List Nt} {z : Str} (h : (fd ns z).isSome = true) : ∃ n ∈ ns, n.a = z := by
  rw [fd_mem, decide_eq_true_eq] at h
  obtain ⟨n, hn, e⟩ := List.mem_map.mp h
  exact ⟨n, hn, e⟩
theorem tBad_tok {ns : List Nt} {t : Ti} (h : tBad ns t = false) : t.b ∈ (ns.map fun n => n.a) ∧ t.c ∈ (ns.map fun n => n.a) ∧ t.b ≠ t.c := by
  unfold tBad at h
  cases e1 : fd ns t.b with
  | none => rw [e1] at h; cases h
  | some n =>
    cases e2 : fd ns t.c with
    | none => rw [e1, e2] at h; cases h
    | some m =>
      rw [e1, e2] at h
      simp only [Bool.or_eq_false_iff, decide_eq_false_iff_not] at h
      exact ⟨List.mem_map.mpr ⟨n, (fd_in e1).1, (fd_in e1).2⟩, List.mem_map.mpr ⟨m, (fd_in e2).1, (fd_in e2).2⟩, h.1⟩
theorem Gs.ps {s : Sg} (h : Gs s) : Ps s := by
  refine ⟨h.g.nd, h.g.l, h.tl, ⟨fun t ht => tBad_tok (h.t t ht).2⟩, fun x hx => ?_, shw_song ⟨fun n hn => (h.g.s n hn).1, h.g.l, fun t ht => (h.t t ht).1, h.tl, fun p hp => ?_⟩⟩
  · obtain ⟨n, hn, rfl⟩ := List.mem_map.mp hx
    exact nok_s (h.g.s n hn).1.sa
  · have hb := h.h p hp
    unfold hBad at hb
    simp only [Bool.or_eq_false_iff, Bool.not_eq_false'] at hb
    obtain ⟨n, n1, n2⟩ := fd_some hb.2.1
    obtain ⟨m, m1, m2⟩ := fd_some hb.2.2
    rw [← n2, ← m2]
    exact ⟨(h.g.s n n1).1.sa, (h.g.s m m1).1.sa⟩
theorem Gs.ps2 {s : Sg} (h : Gs s) : Ps ⟨s.a, ⟨ev2 s.b.l⟩, none⟩ := by
  have p := h.ps
  have sb := ev2_sub s.b.l
  have sl := sb.length_le
  refine ⟨p.nd, p.nl, Nat.le_trans sl h.tl, ⟨fun t ht => p.tk.m t (sb.subset ht)⟩, p.ok, shw_song ⟨fun n hn => (h.g.s n hn).1, h.g.l, fun t ht => (h.t t (sb.subset ht)).1, Nat.le_trans sl h.tl, fun p hp => nomatch hp⟩⟩
theorem step_eq (p0 : List Int) (hc : p0.length ≤ 1000) : m__law_step p0 = some true := by
  unfold m__law_step
  refine fin0_of ?_
  unfold mb__law_step
  have hc2 : (Cells.cells p0 : List Int).length ≤ 1000 := hc
  generalize (Cells.cells p0 : List Int) = cl at hc2
  refine W.begun5 hc2 fun a b k k0 k1 hab qa qb => ?_
  have hn := lots_Nms qa qb hab
  simp only [pbS]
  refine W.bnd ((good_W hc2 (by omega) (by omega) hn).mono fun s k2 hs => ?_)
  obtain ⟨gs, k20, k21⟩ := hs
  have r1 := right_eq gs.ps
  have r2 := right_eq gs.ps2
  refine W.andThen (W.forLi (fun _ _ k => k = k2) _ _ rfl ?bod1 ?rest1)
  case bod1 =>
    intro j _ k n hn1 hI
    subst hI
    have mn : n ∈ s.a.l := cutL_mem (List.mem_of_getElem? hn1)
    refine W.andThen (W.forLi (fun _ _ k' => k' = k) _ _ rfl ?bod2 ?rest2)
    case rest2 =>
      intro _ k' hk
      exact W.pur ⟨(), rfl, hk⟩
    case bod2 =>
      intro i _ k' m hm1 hI
      subst hI
      have eo := lov_eq (m := m) ((gs.g.s n mn).1.sm (by decide))
      have sh : Shp (enc (ov n m)) = true := EqD.shp (ov n m) rfl
      have de : deqv (enc (ov n m)) (enc (ov n m)) = true := (EqD.deqv _ _).trans (decide_eq_true rfl)
      simp only [overlap_eq, eo, lsome, pbS, gd_y (And.intro sh sh), de, Bool.not_true, cnd_f]
      exact W.andThen (W.pur (W.pur ⟨(), rfl, rfl⟩))
  case rest1 =>
    intro _ k hk
    subst hk
    simp only [gd_y (show -(2 ^ 62 : Int) ≤ 6 ∧ (6 : Int) < 2 ^ 62 by decide), pbS]
    refine W.andThen (W.forLi (fun j _ k => 0 ≤ k ∧ k ≤ 5000 + 30 * (j : Int)) _ _ ⟨k20, by omega⟩ ?bod3 ?rest3)
    case bod3 =>
      intro j _ k x hx hI
      obtain ⟨h0, h1⟩ := hI
      obtain ⟨g1, g2⟩ := upTo_get hx
      have e6 : Int.toNat 6 = 6 := rfl
      refine W.andThen (W.bnd (W.bnd ((beats_W hc2 h0 (by omega) hn).mono fun b k' hb => ?_)))
      obtain ⟨rfl, b1, b2⟩ := hb
      refine W.pur ?_
      rw [Bool.not_true, cnd_f]
      exact W.pur (W.pur ⟨(), rfl, by omega, by omega⟩)
    case rest3 =>
      intro _ k _
      simp only [r1, r2, lsome, pbS, cnd_t]
      exact W.pur rfl
theorem law_true (s : Sc) (h : s.ns.length ≤ 63) : m_law s = some true := by
  unfold m_law
  have g : Rg3 0 (max 1 ((s.ns.length : Nat) : Int)) 12 := by
    have e : max 1 ((s.ns.length : Nat) : Int) = ((max 1 s.ns.length : Nat) : Int) := by omega
    rw [e]; exact rg_ok12 _ (by omega)
  have cl : ∀ lo hi, (cutL s.ns lo hi).length ≤ 1000 := fun lo hi => by
    have := cutL_len s.ns lo hi
    omega
  have pe : m_parts_of (⟨⟨[]⟩, ⟨[]⟩, none⟩ : Sg) = some [] := by
    have p0 : Ps (⟨⟨[]⟩, ⟨[]⟩, none⟩ : Sg) := ⟨List.nodup_nil, Nat.zero_le _, Nat.zero_le _, ⟨(fun t ht => nomatch ht)⟩, (fun x hx => nomatch hx), shw_song ⟨(fun n hn => nomatch hn), Nat.zero_le _, (fun t ht => nomatch ht), Nat.zero_le _, (fun p hp => nomatch hp)⟩⟩
    obtain ⟨m, _, e⟩ := parts_eq p0
    rw [e]
    have : sortS (nmsOf (⟨⟨[]⟩, ⟨[]⟩, none⟩ : Sg)) = [] := List.length_eq_zero_iff.mp (sortS_perm _).length_eq
    rw [this]; rfl
  have sh : Shp (enc ([] : List (List Str))) = true := EqD.shp ([] : List (List Str)) rfl
  have de : deqv (enc ([] : List (List Str))) (enc ([] : List (List Str))) = true := (EqD.deqv _ _).trans (decide_eq_true rfl)
  unfold mb_law
  simp only [pur_opt, sbO, liftO, gd_y g]
  rw [forL_all (f := fun _ _ => ()) _ _ (fun _ => True) trivial (fun u x _ _ => ⟨?hb, trivial⟩), andThen_nx]
  case hb =>
    rw [step_eq _ (cl _ _)]
    simp only [sbO, Bool.not_true, cnd_f, andThen_nx]
  simp only [gd_y (show ([] : List Nt).length ≤ 1000 by decide), gd_y (show ([] : List Ti).length ≤ 1000 by decide), gd_y (show ([] : List (List Str)).length ≤ 1000 by decide), sbO, pe, gd_y (And.intro sh sh), de]
  rfl
end K11

set_option Elab.async false
set_option linter.all false
set_option maxRecDepth 100000
set_option maxHeartbeats 1000000
namespace K11
open PySem PySem.Spec PyProof.Rows L2 ON
def topS (i : Nat) : Stmt := PySem.Challenge.pw_choirtrue_k11_overlaps_and_parts.main.body.getD i (.Pass ⟨0, 0, 0, 0⟩)
abbrev s_is_overlap : Stmt := topS 1
theorem sc_is_overlap : FnScope ["one", "other"] ["one", "other"] (defScope s_is_overlap) := ⟨rfl, rfl, rfl, by decide +kernel, rfl, by decide +kernel, by decide +kernel⟩
abbrev s_hanging_together : Stmt := topS 3
theorem sc_hanging_together : FnScope ["names", "pairs", "rising", "marks", "parts", "name", "one", "other", "mark", "other_mark"] ["names", "pairs"] (defScope s_hanging_together) := ⟨rfl, rfl, rfl, by decide +kernel, rfl, by decide +kernel, by decide +kernel⟩
abbrev s_parts_of : Stmt := topS 2
theorem sc_parts_of : FnScope ["song", "notes", "ties", "_", "note", "tie"] ["song"] (defScope s_parts_of) := ⟨rfl, rfl, rfl, by decide +kernel, rfl, by decide +kernel, by decide +kernel⟩
abbrev s__law_next : Stmt := topS 5
theorem sc__law_next : FnScope ["_law_state", "_law_many", "_law_k", "_law_cells", "_law_base"] ["_law_state", "_law_many"] (defScope s__law_next) := ⟨rfl, rfl, rfl, by decide +kernel, rfl, by decide +kernel, by decide +kernel⟩
abbrev s__law_begun : Stmt := topS 6
theorem sc__law_begun : FnScope ["_law_cells", "_law_state", "_law_rest", "_law_at", "_law_some", "_law_sign", "_law_k", "_law_name"] ["_law_cells"] (defScope s__law_begun) := ⟨rfl, rfl, rfl, by decide +kernel, rfl, by decide +kernel, by decide +kernel⟩
abbrev s__law_overlap : Stmt := topS 7
theorem sc__law_overlap : FnScope ["_law_one", "_law_other", "_law_beat"] ["_law_one", "_law_other"] (defScope s__law_overlap) := ⟨rfl, rfl, rfl, by decide +kernel, rfl, by decide +kernel, by decide +kernel⟩
abbrev s__law_fitting : Stmt := topS 8
theorem sc__law_fitting : FnScope ["_law_state", "_law_notes", "_law_at", "_law_word", "_law_ratio", "_law_one", "_law_other", "_law_k"] ["_law_state", "_law_notes"] (defScope s__law_fitting) := ⟨rfl, rfl, rfl, by decide +kernel, rfl, by decide +kernel, by decide +kernel⟩
abbrev s__law_good : Stmt := topS 9
theorem sc__law_good : FnScope ["_law_state", "_law_names", "_law_first", "_law_voices", "_law_clocks", "_law_notes", "_law_k", "_law_turn", "_law_far", "_law_ties", "_law_home", "_law_at", "_law_voice", "_law_begins"] ["_law_state"] (defScope s__law_good) := ⟨rfl, rfl, rfl, by decide +kernel, rfl, by decide +kernel, by decide +kernel⟩
abbrev s__law_come_to : Stmt := topS 10
theorem sc__law_come_to : FnScope ["_law_song", "_law_name", "_law_found", "_law_at", "_law_tie", "_law_one"] ["_law_song", "_law_name"] (defScope s__law_come_to) := ⟨rfl, rfl, rfl, by decide +kernel, rfl, by decide +kernel, by decide +kernel⟩
abbrev s__law_beats_right : Stmt := topS 11
theorem sc__law_beats_right : FnScope ["_law_state", "_law_names", "_law_begins", "_law_ends", "_law_other", "_law_later", "_law_due", "_law_one", "_law_two", "_law_told", "_law_each"] ["_law_state"] (defScope s__law_beats_right) := ⟨rfl, rfl, rfl, by decide +kernel, rfl, by decide +kernel, by decide +kernel⟩
abbrev s__law_parts_right : Stmt := topS 12
theorem sc__law_parts_right : FnScope ["_law_song", "_law_due", "_law_name", "_law_kept", "_law_turn", "_law_found", "_law_part", "_law_note"] ["_law_song"] (defScope s__law_parts_right) := ⟨rfl, rfl, rfl, by decide +kernel, rfl, by decide +kernel, by decide +kernel⟩
abbrev s__law_step : Stmt := topS 13
theorem sc__law_step : FnScope ["_law_cells", "_law_state", "_law_song", "_law_one", "_law_turn", "_law_other"] ["_law_cells"] (defScope s__law_step) := ⟨rfl, rfl, rfl, by decide +kernel, rfl, by decide +kernel, by decide +kernel⟩
abbrev s_law : Stmt := topS 14
theorem sc_law : FnScope ["_law_script", "_law_first"] ["_law_script"] (defScope s_law) := ⟨rfl, rfl, rfl, by decide +kernel, rfl, by decide +kernel, by decide +kernel⟩
abbrev pr_is_overlap (ds : List D) (r : D) : Prop := ∃ (p0 : (T4 Str Str Int Int)) (p1 : (T4 Str Str Int Int)) (x : Bool), ds = [enc p0, enc p1] ∧ m_is_overlap p0 p1 = some x ∧ r = enc x
abbrev pr_hanging_together (ds : List D) (r : D) : Prop := ∃ (p0 : (List Str)) (p1 : (List (Str × Str))) (x : (List (List Str))), ds = [enc p0, enc p1] ∧ m_hanging_together p0 p1 = some x ∧ r = enc x
abbrev pr_parts_of (ds : List D) (r : D) : Prop := ∃ (p0 : (T3 (Tl (T4 Str Str Int Int)) (Tl (T6 Str Str Str (Tl Int) Int Int)) (Option (Str × Str)))) (x : (List (List Str))), ds = [enc p0] ∧ m_parts_of p0 = some x ∧ r = enc x
abbrev pr__law_overlap (ds : List D) (r : D) : Prop := ∃ (p0 : (T4 Str Str Int Int)) (p1 : (T4 Str Str Int Int)) (x : Bool), ds = [enc p0, enc p1] ∧ m__law_overlap p0 p1 = some x ∧ r = enc x
abbrev pr__law_fitting (q : SK) (ds : List (Option D)) (k : Int) (r : D) (k2 : Int) : Prop := ∃ (cl : List Int) (nm : Option (List Str)) (p0 : (List (T4 Str Str Int Int))) (x : (T6 Str Str Str (Tl Int) Int Int)), q = .run cl nm ∧ ds = [none, some (enc p0)] ∧ m__law_fitting cl nm p0 k = some (x, k2) ∧ r = enc x
abbrev pr__law_good (q : SK) (ds : List (Option D)) (k : Int) (r : D) (k2 : Int) : Prop := ∃ (cl : List Int) (nm : Option (List Str)) (x : (T3 (Tl (T4 Str Str Int Int)) (Tl (T6 Str Str Str (Tl Int) Int Int)) (Option (Str × Str)))), q = .run cl nm ∧ ds = [none] ∧ m__law_good cl nm k = some (x, k2) ∧ r = enc x
abbrev pr__law_come_to (ds : List D) (r : D) : Prop := ∃ (p0 : (T3 (Tl (T4 Str Str Int Int)) (Tl (T6 Str Str Str (Tl Int) Int Int)) (Option (Str × Str)))) (p1 : Str) (x : (List Str)), ds = [enc p0, enc p1] ∧ m__law_come_to p0 p1 = some x ∧ r = enc x
abbrev pr__law_beats_right (q : SK) (ds : List (Option D)) (k : Int) (r : D) (k2 : Int) : Prop := ∃ (cl : List Int) (nm : Option (List Str)) (x : Bool), q = .run cl nm ∧ ds = [none] ∧ m__law_beats_right cl nm k = some (x, k2) ∧ r = enc x
abbrev pr__law_parts_right (ds : List D) (r : D) : Prop := ∃ (p0 : (T3 (Tl (T4 Str Str Int Int)) (Tl (T6 Str Str Str (Tl Int) Int Int)) (Option (Str × Str)))) (x : Bool), ds = [enc p0] ∧ m__law_parts_right p0 = some x ∧ r = enc x
abbrev pr__law_step (ds : List D) (r : D) : Prop := ∃ (p0 : (List Int)) (x : Bool), ds = [enc p0] ∧ m__law_step p0 = some x ∧ r = enc x
abbrev pr_law (ds : List D) (r : D) : Prop := ∃ (p0 : Sc) (x : Bool), ds = [enc p0] ∧ m_law p0 = some x ∧ r = enc x
/-- what the top has left -/
structure Tx (P : Program) (w : World) (K : PySem.W.Frag) (mg : Str → Option Value) : Prop where
  d_is_overlap : ∃ f fd, Fun K "is_overlap" "is_overlap" s_is_overlap f fd ∧ mg "is_overlap" = some (.ref f) ∧ Binds K fd ["one", "other"] []
  d_hanging_together : ∃ f fd, Fun K "hanging_together" "hanging_together" s_hanging_together f fd ∧ mg "hanging_together" = some (.ref f) ∧ Binds K fd ["names", "pairs"] []
  d_parts_of : ∃ f fd, Fun K "parts_of" "parts_of" s_parts_of f fd ∧ mg "parts_of" = some (.ref f) ∧ Binds K fd ["song"] []
  d__law_next : ∃ f fd, Fun K "_law_next" "_law_next" s__law_next f fd ∧ mg "_law_next" = some (.ref f) ∧ Binds K fd ["_law_state", "_law_many"] []
  d__law_begun : ∃ f fd, Fun K "_law_begun" "_law_begun" s__law_begun f fd ∧ mg "_law_begun" = some (.ref f) ∧ Binds K fd ["_law_cells"] []
  d__law_overlap : ∃ f fd, Fun K "_law_overlap" "_law_overlap" s__law_overlap f fd ∧ mg "_law_overlap" = some (.ref f) ∧ Binds K fd ["_law_one", "_law_other"] []
  d__law_fitting : ∃ f fd, Fun K "_law_fitting" "_law_fitting" s__law_fitting f fd ∧ mg "_law_fitting" = some (.ref f) ∧ Binds K fd ["_law_state", "_law_notes"] []
  d__law_good : ∃ f fd, Fun K "_law_good" "_law_good" s__law_good f fd ∧ mg "_law_good" = some (.ref f) ∧ Binds K fd ["_law_state"] []
  d__law_come_to : ∃ f fd, Fun K "_law_come_to" "_law_come_to" s__law_come_to f fd ∧ mg "_law_come_to" = some (.ref f) ∧ Binds K fd ["_law_song", "_law_name"] []
  d__law_beats_right : ∃ f fd, Fun K "_law_beats_right" "_law_beats_right" s__law_beats_right f fd ∧ mg "_law_beats_right" = some (.ref f) ∧ Binds K fd ["_law_state"] []
  d__law_parts_right : ∃ f fd, Fun K "_law_parts_right" "_law_parts_right" s__law_parts_right f fd ∧ mg "_law_parts_right" = some (.ref f) ∧ Binds K fd ["_law_song"] []
  d__law_step : ∃ f fd, Fun K "_law_step" "_law_step" s__law_step f fd ∧ mg "_law_step" = some (.ref f) ∧ Binds K fd ["_law_cells"] []
  d_law : ∃ f fd, Fun K "law" "law" s_law f fd ∧ mg "law" = some (.ref f) ∧ Binds K fd ["_law_script"] []
  b_all : mg "all" = none
  b_bool : mg "bool" = none
  b_dict : mg "dict" = none
  b_int : mg "int" = none
  b_isinstance : mg "isinstance" = none
  b_len : mg "len" = none
  b_list : mg "list" = none
  b_max : mg "max" = none
  b_min : mg "min" = none
  b_range : mg "range" = none
  b_repr : mg "repr" = none
  b_sorted : mg "sorted" = none
  b_tuple : mg "tuple" = none
section
variable {P : Program} {w : World} {K : PySem.W.Frag} {mg : Str → Option Value} {base : Heap}
theorem ok_is_overlap (T : Tx P w K mg) {f : Addr} {fd : FuncData} (F : Fun K "is_overlap" "is_overlap" s_is_overlap f fd) : FnOk P w K mg base CX0 1 f fd ["one", "other"] (spP K 2 .dat pr_is_overlap) := by
  have sc := sc_is_overlap
  refine F.ok sc (fun vs H Q E h => by obtain ⟨_, _, _, _, hl, _⟩ := h; exact hl) (fun cdv A outer s H vs Q E hr h => ?_)
  refine ⟨_, (pss_cons (ps_ret (pe_cmpR op_lt (pe_callB (cr_maxU rfl) (by rfl) T.b_max (by decide +kernel) (pa_cons (pe_ix (r := rIxT K) ix_tup (pv 0) pe_int (fun _ _ => rfl)) (pa_cons (pe_ix (r := rIxT K) ix_tup (pv 1) pe_int (fun _ _ => rfl)) pa_nil))) (pe_callB (cr_minU rfl) (by rfl) T.b_min (by decide +kernel) (pa_cons (pe_ix (r := rIxT K) ix_tup (pv 0) pe_int (fun _ _ => rfl)) (pa_cons (pe_ix (r := rIxT K) ix_tup (pv 1) pe_int (fun _ _ => rfl)) pa_nil))) (nomark _))) pss_nil), ?_⟩
  refine fin_pure h fun ds r hp => ?_
  obtain ⟨p0, p1, x, rfl, hm, rfl⟩ := hp
  refine ⟨_, inferInstance, mb_is_overlap p0 p1, x, W0, ?_, fin_some hm, rfl⟩
  show EvS K W0 _ [.dat (enc (p0 : (T4 Str Str Int Int))), .dat (enc (p1 : (T4 Str Str Int Int)))] noEnd noEnd (mb_is_overlap p0 p1)
  exact (by exact (es_retS (em_op (em_max (ea_2 (em_fldT (i := 2) (fun (x_2 : (T4 Str Str Int Int)) => x_2.c) (em_var rfl) (fun _ => ⟨_, rfl, rfl⟩)) (em_fldT (i := 2) (fun (x_4 : (T4 Str Str Int Int)) => x_4.c) (em_var rfl) (fun _ => ⟨_, rfl, rfl⟩)))) (em_min (ea_2 (em_fldT (i := 3) (fun (x_8 : (T4 Str Str Int Int)) => x_8.d) (em_var rfl) (fun _ => ⟨_, rfl, rfl⟩)) (em_fldT (i := 3) (fun (x_10 : (T4 Str Str Int Int)) => x_10.d) (em_var rfl) (fun _ => ⟨_, rfl, rfl⟩)))) fun _ _ => om_B0)))
theorem ok_hanging_together (T : Tx P w K mg) {f : Addr} {fd : FuncData} (F : Fun K "hanging_together" "hanging_together" s_hanging_together f fd) : FnOk P w K mg base CX0 1 f fd ["names", "pairs"] (spP K 2 (.lst (.lst .dat)) pr_hanging_together) := by
  have sc := sc_hanging_together
  refine F.ok sc (fun vs H Q E h => by obtain ⟨_, _, _, _, hl, _⟩ := h; exact hl) (fun cdv A outer s H vs Q E hr h => ?_)
  refine ⟨_, (pss_cons (ps_set (i := 2) sc.nd rfl (by first | exact Or.inl rfl | exact Or.inr rfl) (pe_callB (r := rSortedS K) cr_sortedS (by rfl) T.b_sorted (by decide +kernel) (pa_cons (pv 0) pa_nil))) (pss_cons (ps_setDc (i := 3) (own := [("name", 5)]) (g := gName 5) rfl sc.nd rfl rfl (swD_true rfl rfl rfl (by decide +kernel)) (pi_list (pv 2)) (blkOk_by (N := ["names", "pairs", "rising", "marks", "parts", "name", "one", "other", "mark", "other_mark"]) (sc := defScope s_hanging_together) (by decide +kernel)) (fun _ _ _ _ _ => (pg_name (i := 5) sc.nd rfl (by first | exact Or.inl rfl | exact Or.inr rfl))) (fun _ _ _ _ _ => pts_nil) (fun _ _ _ _ _ => (by exact (pv 5))) (fun _ _ _ _ _ => (by exact (pv 5)))) (pss_cons (ps_for PassesOwn.never rfl (pi_list (pv 1)) (pg_tup rfl (pgs_cons (pg_name (i := 6) sc.nd rfl (by first | exact Or.inl rfl | exact Or.inr rfl)) (pgs_cons (pg_name (i := 7) sc.nd rfl (by first | exact Or.inl rfl | exact Or.inr rfl)) pgs_nil))) (pss_cons (ps_par rfl sc.nd (i := 8) (j := 9) rfl rfl (by decide) rfl rfl (pa_cons (pe_dget (hu_of hr) (pv 3) (pv 6) (fun _ _ => rfl)) (pa_cons (pe_dget (hu_of hr) (pv 3) (pv 7) (fun _ _ => rfl)) pa_nil)) rfl) (pss_cons (ps_for PassesOwn.never rfl (pi_list (pv 2)) (pg_name (i := 5) sc.nd rfl (by first | exact Or.inl rfl | exact Or.inr rfl)) (pss_cons (ps_if (pt_cmpR op_eq (pe_dget (hu_of hr) (pv 3) (pv 5) (fun _ _ => rfl)) (pv 9) (nomark _)) (pss_cons (ps_dput (hu_of hr) (pv 3) (pv 5) (pv 8) (by rfl)) pss_nil) pss_nil) pss_nil)) pss_nil))) (pss_cons (ps_set (i := 4) sc.nd rfl (by first | exact Or.inl rfl | exact Or.inr rfl) pe_dnewK) (pss_cons (ps_for PassesOwn.never rfl (pi_list (pv 2)) (pg_name (i := 5) sc.nd rfl (by first | exact Or.inl rfl | exact Or.inr rfl)) (pss_cons (ps_expr (pe_bm PySem.F.plainAttrs_list PySem.F.slot_list_append PySem.F.type_list_append mt_append (pe_dsetd (pv 4) (pe_dget (hu_of hr) (pv 3) (pv 5) (fun _ _ => rfl)) (pe_lst pa_nil) ⟨rfl, rfl, rfl, rfl⟩) (pa_cons (pv 5) pa_nil))) pss_nil)) (pss_cons (ps_ret (pe_callTy (r := rLV) (cr_listVals rfl) (by rfl) T.b_list (by decide +kernel) (pa_cons (pe_bm0 PySem.F.plainAttrs_dict PySem.F.slot_dict_values PySem.F.type_dict_values mt_values (pv 4)) pa_nil))) pss_nil)))))), ?_⟩
  refine fin_pureF h fun ds r hp => ?_
  obtain ⟨p0, p1, x, rfl, hm, rfl⟩ := hp
  refine ⟨_, inferInstance, mb_hanging_together p0 p1, x, W0, ?_, finF_some hm, rfl⟩
  show EvS K W0 _ [.dat (enc (p0 : (List Str))), .dat (enc (p1 : (List (Str × Str)))), .un, .un, .un, .un, .un, .un, .un, .un] noEnd noEnd (mb_hanging_together p0 p1)
  exact (by exact (es_set (em_ofF (ef_sortS (em_var rfl))) fun rising_16 => (by exact (es_setF (ef_dc (vs := [5]) (is := [5]) (sd1 := fun (a_20 : Str) => [.dat (enc (p0 : (List Str))), .dat (enc (p1 : (List (Str × Str)))), .dat (enc (rising_16 : (List Str))), .un, .un, .dat (enc (a_20 : Str)), .un, .un, .un, .un]) (ei_list (em_var rfl)) (fun _ => eg_name) (by decide) (fun a_20 => eb_yes) (fun a_20 => (em_var rfl)) (fun a_20 => (em_var rfl)) (fun a_20 => (.same (.same (.same (.same (.same (.un (.same (.same (.same (.same .nil))))))))))) (noOwn_by rfl)) fun marks_18 => (by exact (es_seq (mid := (fun (t_26 : (Dc Str Str)) => [.dat (enc (p0 : (List Str))), .dat (enc (p1 : (List (Str × Str)))), .dat (enc (rising_16 : (List Str))), .own (.dic .dat) (enc (t_26 : (Dc Str Str))), .un, .un, .un, .un, .un, .un])) (es_for (inv := (fun (t_26 : (Dc Str Str)) => [.dat (enc (p0 : (List Str))), .dat (enc (p1 : (List (Str × Str)))), .dat (enc (rising_16 : (List Str))), .own (.dic .dat) (enc (t_26 : (Dc Str Str))), .un, .un, .un, .un, .un, .un])) (t0 := marks_18) (sd1 := fun (t_26 : (Dc Str Str)) (a_27 : (Str × Str)) => [.dat (enc (p0 : (List Str))), .dat (enc (p1 : (List (Str × Str)))), .dat (enc (rising_16 : (List Str))), .own (.dic .dat) (enc (t_26 : (Dc Str Str))), .un, .un, .dat (enc (a_27.1 : Str)), .dat (enc (a_27.2 : Str)), .un, .un]) (body := (fun (t_26 : (Dc Str Str)) (a_27 : (Str × Str)) => ((Mn.bnd (Mn.bnd (Mn.bnd (Mn.pur a_27.1) fun y_28 => lift (List.lookup y_28 t_26.l)) fun x_30 => Mn.bnd (Mn.bnd (Mn.pur a_27.2) fun y_29 => lift (List.lookup y_29 t_26.l)) fun y_31 => Mn.pur (x_30, y_31)) fun p_32 => (andThen (Mn.bnd (Mn.pur rising_16) fun w_44 => forL (fun (t_34 : (Dc Str Str)) (a_35 : Str) => ((andThen (Mn.bnd (Mn.bnd (Mn.bnd (Mn.pur a_35) fun y_36 => lift (List.lookup y_36 t_34.l)) fun x_37 => Mn.bnd (Mn.pur p_32.2) fun y_38 => Mn.pur (decide (x_37 = y_38))) fun b_39 => cnd b_39 (Mn.bnd (Mn.pur p_32.1) fun x_41 => Mn.bnd (Mn.pur a_35) fun y_42 => gd (List.length t_34.l < 100000) (Mn.bnd (Mn.pur (dcP t_34 y_42 x_41)) fun marks_43 => (Mn.pur (.nx marks_43)))) (Mn.pur (.nx t_34)) : Option (Fl ((Dc Str Str)) ((Dc Str Str)) (Fw (.lst (.lst .dat)) (List (List Str))))) fun t_40 => (Mn.pur (.nx t_40))) : Option (Fl ((Dc Str Str)) ((Dc Str Str)) (Fw (.lst (.lst .dat)) (List (List Str)))))) w_44 t_26 : Option (Fl ((Dc Str Str)) ((Dc Str Str)) (Fw (.lst (.lst .dat)) (List (List Str))))) fun t_34 => (Mn.pur (.nx t_34)))) : Option (Fl ((Dc Str Str)) ((Dc Str Str)) (Fw (.lst (.lst .dat)) (List (List Str))))))) (ei_list (em_var rfl)) (.same (.same (.same (.same (.same (.same (.same (.same (.same (.same .nil)))))))))) (fun _ _ => eg_pair) fun t_26 a_27 => (by exact (es_par (ea_cons (em_dgetO (c := t_26) rfl (em_var rfl)) (ea_1 (em_dgetO (c := t_26) rfl (em_var rfl)))) fun p_32 => (by exact (es_seq (mid := (fun (t_34 : (Dc Str Str)) => [.dat (enc (p0 : (List Str))), .dat (enc (p1 : (List (Str × Str)))), .dat (enc (rising_16 : (List Str))), .own (.dic .dat) (enc (t_34 : (Dc Str Str))), .un, .un, .dat (enc (a_27.1 : Str)), .dat (enc (a_27.2 : Str)), .dat (enc (p_32.1 : Str)), .dat (enc (p_32.2 : Str))])) (es_for (inv := (fun (t_34 : (Dc Str Str)) => [.dat (enc (p0 : (List Str))), .dat (enc (p1 : (List (Str × Str)))), .dat (enc (rising_16 : (List Str))), .own (.dic .dat) (enc (t_34 : (Dc Str Str))), .un, .un, .dat (enc (a_27.1 : Str)), .dat (enc (a_27.2 : Str)), .dat (enc (p_32.1 : Str)), .dat (enc (p_32.2 : Str))])) (t0 := t_26) (sd1 := fun (t_34 : (Dc Str Str)) (a_35 : Str) => [.dat (enc (p0 : (List Str))), .dat (enc (p1 : (List (Str × Str)))), .dat (enc (rising_16 : (List Str))), .own (.dic .dat) (enc (t_34 : (Dc Str Str))), .un, .dat (enc (a_35 : Str)), .dat (enc (a_27.1 : Str)), .dat (enc (a_27.2 : Str)), .dat (enc (p_32.1 : Str)), .dat (enc (p_32.2 : Str))]) (body := (fun (t_34 : (Dc Str Str)) (a_35 : Str) => ((andThen (Mn.bnd (Mn.bnd (Mn.bnd (Mn.pur a_35) fun y_36 => lift (List.lookup y_36 t_34.l)) fun x_37 => Mn.bnd (Mn.pur p_32.2) fun y_38 => Mn.pur (decide (x_37 = y_38))) fun b_39 => cnd b_39 (Mn.bnd (Mn.pur p_32.1) fun x_41 => Mn.bnd (Mn.pur a_35) fun y_42 => gd (List.length t_34.l < 100000) (Mn.bnd (Mn.pur (dcP t_34 y_42 x_41)) fun marks_43 => (Mn.pur (.nx marks_43)))) (Mn.pur (.nx t_34)) : Option (Fl ((Dc Str Str)) ((Dc Str Str)) (Fw (.lst (.lst .dat)) (List (List Str))))) fun t_40 => (Mn.pur (.nx t_40))) : Option (Fl ((Dc Str Str)) ((Dc Str Str)) (Fw (.lst (.lst .dat)) (List (List Str))))))) (ei_list (em_var rfl)) (.same (.same (.same (.same (.same (.same (.same (.same (.same (.same .nil)))))))))) (fun _ _ => eg_name) fun t_34 a_35 => (by exact (es_seq (mid := (fun (t_40 : (Dc Str Str)) => [.dat (enc (p0 : (List Str))), .dat (enc (p1 : (List (Str × Str)))), .dat (enc (rising_16 : (List Str))), .own (.dic .dat) (enc (t_40 : (Dc Str Str))), .un, .dat (enc (a_35 : Str)), .dat (enc (a_27.1 : Str)), .dat (enc (a_27.2 : Str)), .dat (enc (p_32.1 : Str)), .dat (enc (p_32.2 : Str))])) (es_if (eb_T (em_op (em_dgetO (c := t_34) rfl (em_var rfl)) (em_var rfl) fun _ _ => om_eqS)) (by exact (es_dputP (c := t_34) rfl (em_var rfl) (em_var rfl) fun marks_43 => (by exact es_next (.same (.same (.same (.same (.same (.same (.same (.same (.same (.same .nil))))))))))))) (by exact es_next (.same (.same (.same (.same (.same (.same (.same (.same (.same (.same .nil)))))))))))) fun t_40 => (by exact es_next (.same (.same (.same (.same (.same (.un (.same (.same (.same (.same .nil)))))))))))))) fun t_34 => (by exact es_next (.same (.same (.same (.same (.same (.same (.un (.un (.un (.un .nil)))))))))))))))) fun t_26 => (by exact (es_setF (ef_dnilL) fun parts_45 => (by exact (es_seq (mid := (fun (t_47 : (Dc Str (List Str))) => [.dat (enc (p0 : (List Str))), .dat (enc (p1 : (List (Str × Str)))), .dat (enc (rising_16 : (List Str))), .own (.dic .dat) (enc (t_26 : (Dc Str Str))), .own (.dic (.lst .dat)) (enc (t_47 : (Dc Str (List Str)))), .un, .un, .un, .un, .un])) (es_for (inv := (fun (t_47 : (Dc Str (List Str))) => [.dat (enc (p0 : (List Str))), .dat (enc (p1 : (List (Str × Str)))), .dat (enc (rising_16 : (List Str))), .own (.dic .dat) (enc (t_26 : (Dc Str Str))), .own (.dic (.lst .dat)) (enc (t_47 : (Dc Str (List Str)))), .un, .un, .un, .un, .un])) (t0 := parts_45) (sd1 := fun (t_47 : (Dc Str (List Str))) (a_48 : Str) => [.dat (enc (p0 : (List Str))), .dat (enc (p1 : (List (Str × Str)))), .dat (enc (rising_16 : (List Str))), .own (.dic .dat) (enc (t_26 : (Dc Str Str))), .own (.dic (.lst .dat)) (enc (t_47 : (Dc Str (List Str)))), .dat (enc (a_48 : Str)), .un, .un, .un, .un]) (body := (fun (t_47 : (Dc Str (List Str))) (a_48 : Str) => ((Mn.bnd (Mn.bnd (Mn.pur a_48) fun y_49 => lift (List.lookup y_49 t_26.l)) fun y_51 => Mn.bnd (Mn.pur a_48) fun x_50 => gd (List.length t_47.l < 100000 ∧ ∀ p ∈ t_47.l, List.length p.2 < 100000) (Mn.bnd (Mn.pur (apDc t_47 y_51 x_50)) fun parts_52 => (Mn.pur (.nx parts_52)))) : Option (Fl ((Dc Str (List Str))) ((Dc Str (List Str))) (Fw (.lst (.lst .dat)) (List (List Str))))))) (ei_list (em_var rfl)) (.same (.same (.same (.same (.same (.same (.same (.same (.same (.same .nil)))))))))) (fun _ _ => eg_name) fun t_47 a_48 => (by exact (es_sdApp (c := t_47) rfl (eh_dgetO (c := t_26) rfl (eh_U (em_var rfl) (.same rfl (.same rfl (.same rfl (.un (.un (.same rfl (.same rfl (.same rfl (.same rfl (.same rfl .nil)))))))))))) (fun _ => (eh_U (em_var rfl) (.same rfl (.same rfl (.same rfl (.un (.un (.same rfl (.same rfl (.same rfl (.same rfl (.same rfl .nil)))))))))))) fun parts_52 => (by exact es_next (.same (.same (.same (.same (.same (.un (.same (.same (.same (.same .nil)))))))))))))) fun t_47 => (by exact (es_retVals (c := t_47) rfl))))))))))))
theorem ok_parts_of (T : Tx P w K mg) {f : Addr} {fd : FuncData} (F : Fun K "parts_of" "parts_of" s_parts_of f fd) : FnOk P w K mg base CX0 2 f fd ["song"] (spP K 1 (.lst (.lst .dat)) pr_parts_of) := by
  obtain ⟨f_hanging_together, fd_hanging_together, F_hanging_together, mg_hanging_together, b_hanging_together⟩ := T.d_hanging_together
  have G_hanging_together := ok_hanging_together (P := P) (w := w) (base := base) T F_hanging_together
  have sc := sc_parts_of
  refine F.ok sc (fun vs H Q E h => by obtain ⟨_, _, _, _, hl, _⟩ := h; exact hl) (fun cdv A outer s H vs Q E hr h => ?_)
  refine ⟨_, (pss_cons (ps_asg (pv 0) (pg_tup rfl (pgs_cons (pg_name (i := 1) sc.nd rfl (by first | exact Or.inl rfl | exact Or.inr rfl)) (pgs_cons (pg_name (i := 2) sc.nd rfl (by first | exact Or.inl rfl | exact Or.inr rfl)) (pgs_cons (pg_name (i := 3) sc.nd rfl (by first | exact Or.inl rfl | exact Or.inr rfl)) pgs_nil))))) (pss_cons (ps_ret (pe_call G_hanging_together (hr.mono (by decide)) (by rfl) mg_hanging_together F_hanging_together.kp b_hanging_together .nil pass0 (pa_cons (pe_lc (own := [("note", 4)]) (g := gName 4) rfl sc.nd (pi_tup (pv 1)) (blkOk_by (N := ["song", "notes", "ties", "_", "note", "tie"]) (sc := defScope s_parts_of) (by decide +kernel)) (fun _ _ _ _ _ => (pg_name (i := 4) sc.nd rfl (by first | exact Or.inl rfl | exact Or.inr rfl))) (fun _ _ _ _ _ => pts_nil) (fun _ _ _ _ _ => (by exact (pe_ix (r := rIxT K) ix_tup (pv 4) pe_int (fun _ _ => rfl))))) (pa_cons (pe_lc (own := [("tie", 5)]) (g := gName 5) rfl sc.nd (pi_tup (pv 2)) (blkOk_by (N := ["song", "notes", "ties", "_", "note", "tie"]) (sc := defScope s_parts_of) (by decide +kernel)) (fun _ _ _ _ _ => (pg_name (i := 5) sc.nd rfl (by first | exact Or.inl rfl | exact Or.inr rfl))) (fun _ _ _ _ _ => pts_nil) (fun _ _ _ _ _ => (by exact (pe_tup (pa_cons (pe_ix (r := rIxT K) ix_tup (pv 5) pe_int (fun _ _ => rfl)) (pa_cons (pe_ix (r := rIxT K) ix_tup (pv 5) pe_int (fun _ _ => rfl)) pa_nil)))))) pa_nil)))) pss_nil)), ?_⟩
  refine fin_pureF h fun ds r hp => ?_
  obtain ⟨p0, x, rfl, hm, rfl⟩ := hp
  refine ⟨_, inferInstance, mb_parts_of p0, x, W0, ?_, finF_some hm, rfl⟩
  show EvS K W0 _ [.dat (enc (p0 : (T3 (Tl (T4 Str Str Int Int)) (Tl (T6 Str Str Str (Tl Int) Int Int)) (Option (Str × Str))))), .un, .un, .un, .un, .un] noEnd noEnd (mb_parts_of p0)
  exact (by exact (es_tgt (em_var rfl) (fun _ => eg_t3) fun p_55 => (by exact (es_retFS (ef_call (dvs := []) (dds := []) (f := fun p_57 => m_hanging_together p_57.1 p_57.2) (ea_cons (em_ofF (ef_lc (vs := [4]) (is := [4]) (sd1 := fun (a_59 : (T4 Str Str Int Int)) => [.dat (enc (p0 : (T3 (Tl (T4 Str Str Int Int)) (Tl (T6 Str Str Str (Tl Int) Int Int)) (Option (Str × Str))))), .dat (enc (p_55.a : (Tl (T4 Str Str Int Int)))), .dat (enc (p_55.b : (Tl (T6 Str Str Str (Tl Int) Int Int)))), .dat (enc (p_55.c : (Option (Str × Str)))), .dat (enc (a_59 : (T4 Str Str Int Int))), .un]) (ei_tup (em_var rfl)) (fun _ => eg_name) (by decide) (fun a_59 => eb_yes) (fun a_59 => (em_fldT (i := 0) (fun (x_60 : (T4 Str Str Int Int)) => x_60.a) (em_var rfl) (fun _ => ⟨_, rfl, rfl⟩))) (fun a_59 => (.same (.same (.same (.same (.un (.same .nil))))))) (noOwn_by rfl))) (ea_1 (em_ofF (ef_lc (vs := [5]) (is := [5]) (sd1 := fun (a_63 : (T6 Str Str Str (Tl Int) Int Int)) => [.dat (enc (p0 : (T3 (Tl (T4 Str Str Int Int)) (Tl (T6 Str Str Str (Tl Int) Int Int)) (Option (Str × Str))))), .dat (enc (p_55.a : (Tl (T4 Str Str Int Int)))), .dat (enc (p_55.b : (Tl (T6 Str Str Str (Tl Int) Int Int)))), .dat (enc (p_55.c : (Option (Str × Str)))), .un, .dat (enc (a_63 : (T6 Str Str Str (Tl Int) Int Int)))]) (ei_tup (em_var rfl)) (fun _ => eg_name) (by decide) (fun a_63 => eb_yes) (fun a_63 => (em_tup2 (em_fldT (i := 1) (fun (x_64 : (T6 Str Str Str (Tl Int) Int Int)) => x_64.b) (em_var rfl) (fun _ => ⟨_, rfl, rfl⟩)) (em_fldT (i := 2) (fun (x_65 : (T6 Str Str Str (Tl Int) Int Int)) => x_65.c) (em_var rfl) (fun _ => ⟨_, rfl, rfl⟩)))) (fun a_63 => (.same (.same (.same (.same (.same (.un .nil))))))) (noOwn_by rfl))))) (fun _ => .nil) (fun _ => rfl) fun b r h => ⟨b.1, b.2, r, rfl, h, rfl⟩)))))
theorem ok__law_next (T : Tx P w K mg) {f : Addr} {fd : FuncData} (F : Fun K "_law_next" "_law_next" s__law_next f fd) : FnOk P w K mg base CX0 1 f fd ["_law_state", "_law_many"] (spS K 2 .dat pr_next) := by
  have sc := sc__law_next
  refine F.ok sc (fun vs H Q E h => by obtain ⟨_, _, _, _, _, _, _, _, hl, _⟩ := h; exact hl) (fun cdv A outer s H vs Q E hr h => ?_)
  have hu := hu_of hr
  exact ⟨tNx K, (pss_cons (ps_dput hu (pv 0) pe_str (pe_op op_add (pe_dget hu (pv 0) pe_str (fun _ _ => rfl)) pe_int) rfl) (pss_cons (ps_set (i := 2) sc.nd rfl (by first | exact Or.inl rfl | exact Or.inr rfl) (pe_dget hu (pv 0) pe_str (fun _ _ => rfl))) (pss_cons (ps_set (i := 3) sc.nd rfl (by first | exact Or.inl rfl | exact Or.inr rfl) (pe_dget hu (pv 0) pe_str (fun _ _ => rfl))) (pss_cons (ps_set (i := 4) sc.nd rfl (by first | exact Or.inl rfl | exact Or.inr rfl) (pe_op op_add (pe_op op_mulU (pe_op op_mulU pe_int (pv 2)) (pv 2)) (pe_op op_mulU pe_int (pv 2)))) (pss_cons (ps_if (pt_cmpR (op_neD (room64 hr)) (pv 3) (pe_lst pa_nil) (nomark _)) (pss_cons (ps_set (i := 4) sc.nd rfl (by first | exact Or.inl rfl | exact Or.inr rfl) (pe_op op_add (pv 4) (pe_op op_mulU (pe_op op_mod (pe_ix ix_list (pv 3) (pe_op op_mod (pv 2) (pe_callB (r := ON.rLen K) cr_lenU (by rfl) T.b_len (by decide +kernel) (pa_cons (pv 3) pa_nil))) (fun _ _ => rfl)) pe_int) (pe_op op_add pe_int (pe_op op_fdivW (pv 2) (pe_callB (r := ON.rLen K) cr_lenU (by rfl) T.b_len (by decide +kernel) (pa_cons (pv 3) pa_nil))))))) pss_nil) pss_nil) (pss_cons (ps_ret (pe_op op_mod (pe_op op_fdivW (pe_op op_mod (pe_op op_mulU (pv 4) pe_int) pe_int) pe_int) (pv 1))) pss_nil)))))), run_next h⟩
theorem ok__law_begun (T : Tx P w K mg) {f : Addr} {fd : FuncData} (F : Fun K "_law_begun" "_law_begun" s__law_begun f fd) : FnOk P w K mg base CX0 2 f fd ["_law_cells"] (spB K ok5) := by
  obtain ⟨f__law_next, fd__law_next, F__law_next, mg__law_next, b__law_next⟩ := T.d__law_next
  have G__law_next := ok__law_next (P := P) (w := w) (base := base) T F__law_next
  have sc := sc__law_begun
  refine F.ok sc (fun vs H Q E h => by obtain ⟨_, _, _, rfl, _⟩ := h; rfl) (fun cdv A outer s H vs Q E hr h => ?_)
  have hu := hu_of hr
  refine ⟨tBg5 _ _ _ _ 2 3 4, (pss_cons (ps_set (i := 1) sc.nd rfl (by first | exact Or.inl rfl | exact Or.inr rfl) (pe_disp (pps_cons pe_str (pv 0) (pps_cons pe_str pe_int pps_nil)) rfl rfl (by decide) (by decide))) (pss_cons (ps_set (i := 2) sc.nd rfl (by first | exact Or.inl rfl | exact Or.inr rfl) (show PE _ _ (tBM K "str" (rJoin K) _ _) from (pe_bm PySem.F.plainAttrs_str PySem.F.slot_str_join PySem.F.type_str_join mt_joinU pe_str (pa_cons (pe_lc (own := [("_law_k", 6)]) (g := gName 6) rfl sc.nd (pi_range1 rfl T.b_range (pa_cons (pe_call G__law_next (hr.mono (by decide)) (by rfl) mg__law_next F__law_next.kp b__law_next .nil pass0 (pa_cons (pv 1) (pa_cons pe_int pa_nil))) pa_nil)) (blkOk_by (N := ["_law_cells", "_law_state", "_law_rest", "_law_at", "_law_some", "_law_sign", "_law_k", "_law_name"]) (sc := defScope s__law_begun) (by decide +kernel)) (fun _ _ _ _ _ => (pg_name (i := 6) sc.nd rfl (by first | exact Or.inl rfl | exact Or.inr rfl))) (fun _ _ _ _ _ => pts_nil) (fun _ _ _ _ _ => (by exact (pe_ix ix_str pe_str (pe_call G__law_next (hr.mono (by decide)) (by rfl) mg__law_next F__law_next.kp b__law_next .nil pass0 (pa_cons (pv 1) (pa_cons pe_int pa_nil))) (fun _ _ => rfl))))) pa_nil)))) (pss_cons (ps_set (i := 3) sc.nd rfl (by first | exact Or.inl rfl | exact Or.inr rfl) (pe_call G__law_next (hr.mono (by decide)) (by rfl) mg__law_next F__law_next.kp b__law_next .nil pass0 (pa_cons (pv 1) (pa_cons (pe_op op_add (pe_callB (r := ON.rLen K) cr_lenU (by rfl) T.b_len (by decide +kernel) (pa_cons (pv 2) pa_nil)) pe_int) pa_nil)))) (pss_cons (ps_setLc (i := 4) (own := [("_law_sign", 5)]) (g := gName 5) rfl sc.nd rfl rfl (sw_true rfl rfl rfl (by decide +kernel)) (pi_str pe_str) (blkOk_by (N := ["_law_cells", "_law_state", "_law_rest", "_law_at", "_law_some", "_law_sign", "_law_k", "_law_name"]) (sc := defScope s__law_begun) (by decide +kernel)) (fun _ _ _ _ _ => (pg_name (i := 5) sc.nd rfl (by first | exact Or.inl rfl | exact Or.inr rfl))) (fun _ _ _ _ _ => pts_nil) (fun _ _ _ _ _ => (by exact (pe_op op_add_str (pe_op op_add_str (pe_slice sl_str (pv 2) po_none (po_some (pv 3))) (pv 5)) (pe_slice sl_str (pv 2) (po_some (pv 3)) po_none))))) (pss_cons (ps_dput hu (pv 1) pe_str (pe_op op_cat (pv 4) (pe_lc (own := [("_law_name", 7)]) (g := gName 7) rfl sc.nd (pi_list (pv 4)) (blkOk_by (N := ["_law_cells", "_law_state", "_law_rest", "_law_at", "_law_some", "_law_sign", "_law_k", "_law_name"]) (sc := defScope s__law_begun) (by decide +kernel)) (fun _ _ _ _ _ => (pg_name (i := 7) sc.nd rfl (by first | exact Or.inl rfl | exact Or.inr rfl))) (fun _ _ _ _ _ => pts_nil) (fun _ _ _ _ _ => (by exact (pe_op op_add_str (pv 7) pe_str))))) rfl) (pss_cons (ps_ret (pv 1)) pss_nil)))))), run_begun5 (n := 6) rfl (by decide) (by decide) (by decide) (x2 := bh2) (x3 := bg3) (x4 := bg4) (x5 := bh5) (fun c => ?_) (fun c r => ?_) (fun c r a => ?_) (fun c r a l => ?_) bh_tot h⟩
  · exact (show EvM K _ (sdA 6 c) (bh2 c) from (em_join (em_ofF (ef_lc (vs := [6]) (is := [6]) (sd1 := fun (a_73 : Int) => [.un, .sr (.run c none), .un, .un, .un, .un, .dat (enc (a_73 : Int)), .un]) (ei_rng1 (ea_1 (em_draw (i := 1) (q := (.run c none)) (f := fun p_71 => m__law_next c none p_71) rfl (ea_st rfl (ea_dt1 em_int)) (fun _ => rfl) fun b k r k2 h => ⟨_, _, b, r, rfl, rfl, h, rfl⟩))) (fun _ => eg_name) (by decide) (fun a_73 => eb_yes) (fun a_73 => (em_op em_str (em_draw (i := 1) (q := (.run c none)) (f := fun p_74 => m__law_next c none p_74) rfl (ea_st rfl (ea_dt1 em_int)) (fun _ => rfl) fun b k r k2 h => ⟨_, _, b, r, rfl, rfl, h, rfl⟩) fun _ _ => om_ixS)) (fun a_73 => (.same (.same (.same (.same (.same (.same (.un (.same .nil))))))))) (noOwn_by rfl)))))
  · exact (show EvM K _ ((sdA 6 c).set 2 (.dat (enc r))) (bg3 c r) from (em_draw (i := 1) (q := (.run c none)) (f := fun p_80 => m__law_next c none p_80) rfl (ea_st rfl (ea_dt1 (em_op (em_lenS (em_var rfl)) em_int fun _ _ => om_I0))) (fun _ => rfl) fun b k r k2 h => ⟨_, _, b, r, rfl, rfl, h, rfl⟩))
  · exact (show EvF K (.lst .dat) _ (((sdA 6 c).set 2 (.dat (enc r))).set 3 (.dat (enc a))) (bg4 c r a) from (ef_lc (vs := [5]) (is := [5]) (sd1 := fun (a_85 : Str) => [.un, .sr (.run c none), .dat (enc (r : Str)), .dat (enc (a : Int)), .un, .dat (enc (a_85 : Str)), .un, .un]) (ei_str em_str) (fun _ => eg_name) (by decide) (fun a_85 => eb_yes) (fun a_85 => (em_op (em_op (em_sliceS (em_var rfl) eo_none (eo_some (em_var rfl))) (em_var rfl) fun _ _ => om_catS) (em_sliceS (em_var rfl) (eo_some (em_var rfl)) eo_none) fun _ _ => om_catS)) (fun a_85 => (.same (.same (.same (.same (.same (.un (.same (.same .nil))))))))) (noOwn_by rfl)))
  · exact (show EvF K (.lst .dat) _ ((((sdA 6 c).set 2 (.dat (enc r))).set 3 (.dat (enc a))).set 4 (.dat (enc l))) (bh5 c r a l) from (ef_cat (em_var rfl) (em_ofF (ef_lc (vs := [7]) (is := [7]) (sd1 := fun (a_100 : Str) => [.un, .sr (.run c none), .dat (enc (r : Str)), .dat (enc (a : Int)), .dat (enc (l : (List Str))), .un, .un, .dat (enc (a_100 : Str))]) (ei_list (em_var rfl)) (fun _ => eg_name) (by decide) (fun a_100 => eb_yes) (fun a_100 => (em_op (em_var rfl) em_str fun _ _ => om_catS)) (fun a_100 => (.same (.same (.same (.same (.same (.same (.same (.un .nil))))))))) (noOwn_by rfl)))))
theorem ok__law_overlap (T : Tx P w K mg) {f : Addr} {fd : FuncData} (F : Fun K "_law_overlap" "_law_overlap" s__law_overlap f fd) : FnOk P w K mg base CX0 1 f fd ["_law_one", "_law_other"] (spP K 2 .dat pr__law_overlap) := by
  have sc := sc__law_overlap
  refine F.ok sc (fun vs H Q E h => by obtain ⟨_, _, _, _, hl, _⟩ := h; exact hl) (fun cdv A outer s H vs Q E hr h => ?_)
  refine ⟨_, (pss_cons (ps_ret (pe_cmpR (r := rNeD K) (op_neD (room64 hr)) (pe_lc (own := [("_law_beat", 2)]) (g := gName 2) rfl sc.nd (pi_range2 rfl T.b_range (pa_cons (pe_ix (r := rIxT K) ix_tup (pv 0) pe_int (fun _ _ => rfl)) (pa_cons (pe_callB (cr_minU rfl) (by rfl) T.b_min (by decide +kernel) (pa_cons (pe_ix (r := rIxT K) ix_tup (pv 0) pe_int (fun _ _ => rfl)) (pa_cons pe_int pa_nil))) pa_nil))) (blkOk_by (N := ["_law_one", "_law_other", "_law_beat"]) (sc := defScope s__law_overlap) (by decide +kernel)) (fun _ _ _ _ _ => (pg_name (i := 2) sc.nd rfl (by first | exact Or.inl rfl | exact Or.inr rfl))) (fun _ _ _ _ _ => (pts_one (pt_chain op_le op_lt (pe_ix (r := rIxT K) ix_tup (pv 1) pe_int (fun _ _ => rfl)) (pv 2) (pe_ix (r := rIxT K) ix_tup (pv 1) pe_int (fun _ _ => rfl))))) (fun _ _ _ _ _ => (by exact (pv 2)))) (pe_lst pa_nil) (nomark _))) pss_nil), ?_⟩
  refine fin_pure h fun ds r hp => ?_
  obtain ⟨p0, p1, x, rfl, hm, rfl⟩ := hp
  refine ⟨_, inferInstance, mb__law_overlap p0 p1, x, W0, ?_, fin_some hm, rfl⟩
  show EvS K W0 _ [.dat (enc (p0 : (T4 Str Str Int Int))), .dat (enc (p1 : (T4 Str Str Int Int))), .un] noEnd noEnd (mb__law_overlap p0 p1)
  exact (by exact (es_retS (em_op (em_ofF (ef_lc (vs := [2]) (is := [2]) (sd1 := fun (a_116 : Int) => [.dat (enc (p0 : (T4 Str Str Int Int))), .dat (enc (p1 : (T4 Str Str Int Int))), .dat (enc (a_116 : Int))]) (ei_rng2 (ea_cons (em_fldT (i := 2) (fun (x_107 : (T4 Str Str Int Int)) => x_107.c) (em_var rfl) (fun _ => ⟨_, rfl, rfl⟩)) (ea_1 (em_min (ea_2 (em_fldT (i := 3) (fun (x_108 : (T4 Str Str Int Int)) => x_108.d) (em_var rfl) (fun _ => ⟨_, rfl, rfl⟩)) em_int))))) (fun _ => eg_name) (by decide) (fun a_116 => (eb_T (em_chain (em_fldT (i := 2) (fun (x_117 : (T4 Str Str Int Int)) => x_117.c) (em_var rfl) (fun _ => ⟨_, rfl, rfl⟩)) (em_var rfl) (em_fldT (i := 3) (fun (x_118 : (T4 Str Str Int Int)) => x_118.d) (em_var rfl) (fun _ => ⟨_, rfl, rfl⟩)) (fun _ _ => om_B0) fun _ _ => om_B0))) (fun a_116 => (em_var rfl)) (fun a_116 => (.same (.same (.un .nil)))) (noOwn_by rfl))) (em_ofF (ef_lst el_nil)) fun _ _ => om_neD)))
theorem ok__law_fitting (T : Tx P w K mg) {f : Addr} {fd : FuncData} (F : Fun K "_law_fitting" "_law_fitting" s__law_fitting f fd) : FnOk P w K mg base CX0 2 f fd ["_law_state", "_law_notes"] (spS K 2 .dat pr__law_fitting) := by
  obtain ⟨f__law_next, fd__law_next, F__law_next, mg__law_next, b__law_next⟩ := T.d__law_next
  have G__law_next := ok__law_next (P := P) (w := w) (base := base) T F__law_next
  obtain ⟨f__law_overlap, fd__law_overlap, F__law_overlap, mg__law_overlap, b__law_overlap⟩ := T.d__law_overlap
  have G__law_overlap := ok__law_overlap (P := P) (w := w) (base := base) T F__law_overlap
  have sc := sc__law_fitting
  refine F.ok sc (fun vs H Q E h => by obtain ⟨_, _, _, _, _, _, _, _, hl, _⟩ := h; exact hl) (fun cdv A outer s H vs Q E hr h => ?_)
  refine ⟨_, (pss_cons (ps_set (i := 2) sc.nd rfl (by first | exact Or.inl rfl | exact Or.inr rfl) (pe_call G__law_next (hr.mono (by decide)) (by rfl) mg__law_next F__law_next.kp b__law_next .nil pass0 (pa_cons (pv 0) (pa_cons (pe_callB (r := ON.rLen K) cr_lenU (by rfl) T.b_len (by decide +kernel) (pa_cons (pv 1) pa_nil)) pa_nil)))) (pss_cons (ps_par rfl sc.nd (i := 5) (j := 6) rfl rfl (by decide) rfl rfl (pa_cons (pe_ix (r := rIxL K) ix_list (pv 1) (pv 2) (fun _ _ => rfl)) (pa_cons (pe_ix (r := rIxL K) ix_list (pv 1) (pe_op op_mod (pe_op op_add (pe_op op_add (pv 2) pe_int) (pe_call G__law_next (hr.mono (by decide)) (by rfl) mg__law_next F__law_next.kp b__law_next .nil pass0 (pa_cons (pv 0) (pa_cons (pe_op op_sub (pe_callB (r := ON.rLen K) cr_lenU (by rfl) T.b_len (by decide +kernel) (pa_cons (pv 1) pa_nil)) pe_int) pa_nil)))) (pe_callB (r := ON.rLen K) cr_lenU (by rfl) T.b_len (by decide +kernel) (pa_cons (pv 1) pa_nil))) (fun _ _ => rfl)) pa_nil)) rfl) (pss_cons (ps_set (i := 3) sc.nd rfl (by first | exact Or.inl rfl | exact Or.inr rfl) pe_str) (pss_cons (ps_if (pt_not (pt_val (pe_call G__law_overlap (hr.mono (by decide)) (by rfl) mg__law_overlap F__law_overlap.kp b__law_overlap .nil pass0 (pa_cons (pv 5) (pa_cons (pv 6) pa_nil))))) (pss_cons (ps_if (pt_cmpR op_lt (pe_ix (r := rIxT K) ix_tup (pv 6) pe_int (fun _ _ => rfl)) (pe_ix (r := rIxT K) ix_tup (pv 5) pe_int (fun _ _ => rfl)) (nomark _)) (pss_cons (ps_par rfl sc.nd (i := 5) (j := 6) rfl rfl (by decide) rfl rfl (pa_cons (pv 6) (pa_cons (pv 5) pa_nil)) rfl) pss_nil) pss_nil) (pss_cons (ps_set (i := 3) sc.nd rfl (by first | exact Or.inl rfl | exact Or.inr rfl) (pe_ix (r := rIxL K) ix_list (pe_lst (pa_cons pe_str (pa_cons pe_str pa_nil))) (pe_op op_mulU (pe_callTy cr_int1 (by rfl) T.b_int (by decide +kernel) (pa_cons (pe_cmpR op_eq (pe_ix (r := rIxT K) ix_tup (pv 5) pe_int (fun _ _ => rfl)) (pe_ix (r := rIxT K) ix_tup (pv 6) pe_int (fun _ _ => rfl)) (nomark _)) pa_nil)) (pe_call G__law_next (hr.mono (by decide)) (by rfl) mg__law_next F__law_next.kp b__law_next .nil pass0 (pa_cons (pv 0) (pa_cons pe_int pa_nil)))) (fun _ _ => rfl))) pss_nil)) pss_nil) (pss_cons (ps_set (i := 4) sc.nd rfl (by first | exact Or.inl rfl | exact Or.inr rfl) (pe_callTy (r := rTupOf K) cr_tup (by rfl) T.b_tuple (by decide +kernel) (pa_cons (pe_lc (own := [("_law_k", 7)]) (g := gName 7) rfl sc.nd (pi_range1 rfl T.b_range (pa_cons pe_int pa_nil)) (blkOk_by (N := ["_law_state", "_law_notes", "_law_at", "_law_word", "_law_ratio", "_law_one", "_law_other", "_law_k"]) (sc := defScope s__law_fitting) (by decide +kernel)) (fun _ _ _ _ _ => (pg_name (i := 7) sc.nd rfl (by first | exact Or.inl rfl | exact Or.inr rfl))) (fun _ _ _ _ _ => pts_nil) (fun _ _ _ _ _ => (by exact (pe_op op_sub (pe_call G__law_next (hr.mono (by decide)) (by rfl) mg__law_next F__law_next.kp b__law_next .nil pass0 (pa_cons (pv 0) (pa_cons pe_int pa_nil))) pe_int)))) pa_nil))) (pss_cons (ps_if (pt_cmpR op_eq (pv 3) pe_str (nomark _)) (pss_cons (ps_set (i := 4) sc.nd rfl (by first | exact Or.inl rfl | exact Or.inr rfl) (pe_tup (pa_cons pe_int (pa_cons pe_int (pa_cons pe_int (pa_cons pe_int pa_nil)))))) pss_nil) pss_nil) (pss_cons (ps_ret (pe_tup (pa_cons (pv 3) (pa_cons (pe_ix (r := rIxT K) ix_tup (pv 5) pe_int (fun _ _ => rfl)) (pa_cons (pe_ix (r := rIxT K) ix_tup (pv 6) pe_int (fun _ _ => rfl)) (pa_cons (pv 4) (pa_cons (pe_call G__law_next (hr.mono (by decide)) (by rfl) mg__law_next F__law_next.kp b__law_next .nil pass0 (pa_cons (pv 0) (pa_cons pe_int pa_nil))) (pa_cons (pe_op op_add pe_int (pe_call G__law_next (hr.mono (by decide)) (by rfl) mg__law_next F__law_next.kp b__law_next .nil pass0 (pa_cons (pv 0) (pa_cons pe_int pa_nil)))) pa_nil)))))))) pss_nil))))))), ?_⟩
  refine fin_draw h fun q ds k r k2 hp => ?_
  obtain ⟨cl, nm, p0, x, rfl, rfl, hm, rfl⟩ := hp
  refine ⟨_, inferInstance, mb__law_fitting cl nm p0, x, W0, ?_, finS_some hm, rfl⟩
  show EvS K W0 _ [.sr (.run cl nm), .dat (enc (p0 : (List (T4 Str Str Int Int)))), .un, .un, .un, .un, .un, .un] noEnd noEnd (mb__law_fitting cl nm p0)
  exact (by exact (es_set (em_draw (i := 0) (q := (.run cl nm)) (f := fun p_128 => m__law_next cl nm p_128) rfl (ea_st rfl (ea_dt1 (em_lenL (em_var rfl)))) (fun _ => rfl) fun b k r k2 h => ⟨_, _, b, r, rfl, rfl, h, rfl⟩) fun at_127 => (by exact (es_par (ea_cons (em_op (em_var rfl) (em_var rfl) fun _ _ => om_ixL) (ea_1 (em_op (em_var rfl) (em_op (em_op (em_op (em_var rfl) em_int fun _ _ => om_I0) (em_draw (i := 0) (q := (.run cl nm)) (f := fun p_134 => m__law_next cl nm p_134) rfl (ea_st rfl (ea_dt1 (em_op (em_lenL (em_var rfl)) em_int fun _ _ => om_I0))) (fun _ => rfl) fun b k r k2 h => ⟨_, _, b, r, rfl, rfl, h, rfl⟩) fun _ _ => om_I0) (em_lenL (em_var rfl)) fun _ _ => om_mod) fun _ _ => om_ixL))) fun p_147 => (by exact (es_set em_str fun word_148 => (by exact (es_seq (mid := (fun (t_154 : Str × (T4 Str Str Int Int) × (T4 Str Str Int Int)) => [.sr (.run cl nm), .dat (enc (p0 : (List (T4 Str Str Int Int)))), .dat (enc (at_127 : Int)), .dat (enc (t_154.1 : Str)), .un, .dat (enc (t_154.2.1 : (T4 Str Str Int Int))), .dat (enc (t_154.2.2 : (T4 Str Str Int Int))), .un])) (es_if (eb_not (eb_B (em_call (dvs := []) (dds := []) (f := fun p_149 => m__law_overlap p_149.1 p_149.2) (ea_cons (em_var rfl) (ea_1 (em_var rfl))) (fun _ => .nil) (fun _ => rfl) fun b r h => ⟨b.1, b.2, r, rfl, h, rfl⟩))) (by exact (es_seq (mid := (fun (t_160 : (T4 Str Str Int Int) × (T4 Str Str Int Int)) => [.sr (.run cl nm), .dat (enc (p0 : (List (T4 Str Str Int Int)))), .dat (enc (at_127 : Int)), .dat (enc (word_148 : Str)), .un, .dat (enc (t_160.1 : (T4 Str Str Int Int))), .dat (enc (t_160.2 : (T4 Str Str Int Int))), .un])) (es_if (eb_T (em_op (em_fldT (i := 2) (fun (x_155 : (T4 Str Str Int Int)) => x_155.c) (em_var rfl) (fun _ => ⟨_, rfl, rfl⟩)) (em_fldT (i := 3) (fun (x_156 : (T4 Str Str Int Int)) => x_156.d) (em_var rfl) (fun _ => ⟨_, rfl, rfl⟩)) fun _ _ => om_B0)) (by exact (es_par (ea_cons (em_var rfl) (ea_1 (em_var rfl))) fun p_163 => (by exact es_next (.same (.same (.same (.same (.same (.same (.same (.same .nil))))))))))) (by exact es_next (.same (.same (.same (.same (.same (.same (.same (.same .nil)))))))))) fun t_160 => (by exact (es_set (em_op (em_ofF (ef_lst (el_cons em_str (el_cons em_str el_nil)))) (em_op (em_intB (em_op (em_fldT (i := 1) (fun (x_170 : (T4 Str Str Int Int)) => x_170.b) (em_var rfl) (fun _ => ⟨_, rfl, rfl⟩)) (em_fldT (i := 1) (fun (x_171 : (T4 Str Str Int Int)) => x_171.b) (em_var rfl) (fun _ => ⟨_, rfl, rfl⟩)) fun _ _ => om_eqS)) (em_draw (i := 0) (q := (.run cl nm)) (f := fun p_175 => m__law_next cl nm p_175) rfl (ea_st rfl (ea_dt1 em_int)) (fun _ => rfl) fun b k r k2 h => ⟨_, _, b, r, rfl, rfl, h, rfl⟩) fun _ _ => om_mul) fun _ _ => om_ixL) fun word_164 => (by exact es_next (.same (.same (.same (.same (.same (.same (.same (.same .nil))))))))))))) (by exact es_next (.same (.same (.same (.same (.same (.same (.same (.same .nil)))))))))) fun t_154 => (by exact (es_set (em_tupL (em_ofF (ef_lc (vs := [7]) (is := [7]) (sd1 := fun (a_182 : Int) => [.sr (.run cl nm), .dat (enc (p0 : (List (T4 Str Str Int Int)))), .dat (enc (at_127 : Int)), .dat (enc (t_154.1 : Str)), .un, .dat (enc (t_154.2.1 : (T4 Str Str Int Int))), .dat (enc (t_154.2.2 : (T4 Str Str Int Int))), .dat (enc (a_182 : Int))]) (ei_rng1 (ea_1 em_int)) (fun _ => eg_name) (by decide) (fun a_182 => eb_yes) (fun a_182 => (em_op (em_draw (i := 0) (q := (.run cl nm)) (f := fun p_183 => m__law_next cl nm p_183) rfl (ea_st rfl (ea_dt1 em_int)) (fun _ => rfl) fun b k r k2 h => ⟨_, _, b, r, rfl, rfl, h, rfl⟩) em_int fun _ _ => om_I0)) (fun a_182 => (.same (.same (.same (.same (.same (.same (.same (.un .nil))))))))) (noOwn_by rfl)))) fun ratio_180 => (by exact (es_seq (mid := (fun (t_191 : (Tl Int)) => [.sr (.run cl nm), .dat (enc (p0 : (List (T4 Str Str Int Int)))), .dat (enc (at_127 : Int)), .dat (enc (t_154.1 : Str)), .dat (enc (t_191 : (Tl Int))), .dat (enc (t_154.2.1 : (T4 Str Str Int Int))), .dat (enc (t_154.2.2 : (T4 Str Str Int Int))), .un])) (es_if (eb_T (em_op (em_var rfl) em_str fun _ _ => om_eqS)) (by exact (es_set (em_tupTl (el_cons em_int (el_cons em_int (el_cons em_int (el_cons em_int el_nil))))) fun ratio_192 => (by exact es_next (.same (.same (.same (.same (.same (.same (.same (.same .nil))))))))))) (by exact es_next (.same (.same (.same (.same (.same (.same (.same (.same .nil)))))))))) fun t_191 => (by exact (es_retS (em_tupN (fun t_219 => (⟨t_219.1, t_219.2.1, t_219.2.2.1, t_219.2.2.2.1, t_219.2.2.2.2.1, t_219.2.2.2.2.2⟩ : (T6 Str Str Str (Tl Int) Int Int))) (ea_cons (em_var rfl) (ea_cons (em_fldT (i := 0) (fun (x_203 : (T4 Str Str Int Int)) => x_203.a) (em_var rfl) (fun _ => ⟨_, rfl, rfl⟩)) (ea_cons (em_fldT (i := 0) (fun (x_204 : (T4 Str Str Int Int)) => x_204.a) (em_var rfl) (fun _ => ⟨_, rfl, rfl⟩)) (ea_cons (em_var rfl) (ea_cons (em_draw (i := 0) (q := (.run cl nm)) (f := fun p_205 => m__law_next cl nm p_205) rfl (ea_st rfl (ea_dt1 em_int)) (fun _ => rfl) fun b k r k2 h => ⟨_, _, b, r, rfl, rfl, h, rfl⟩) (ea_1 (em_op em_int (em_draw (i := 0) (q := (.run cl nm)) (f := fun p_206 => m__law_next cl nm p_206) rfl (ea_st rfl (ea_dt1 em_int)) (fun _ => rfl) fun b k r k2 h => ⟨_, _, b, r, rfl, rfl, h, rfl⟩) fun _ _ => om_I0))))))) (fun _ => rfl) (n := 6) (fun _ => rfl))))))))))))))))
theorem ok__law_good (T : Tx P w K mg) {f : Addr} {fd : FuncData} (F : Fun K "_law_good" "_law_good" s__law_good f fd) : FnOk P w K mg base CX0 3 f fd ["_law_state"] (spS K 1 .dat pr__law_good) := by
  obtain ⟨f__law_fitting, fd__law_fitting, F__law_fitting, mg__law_fitting, b__law_fitting⟩ := T.d__law_fitting
  have G__law_fitting := ok__law_fitting (P := P) (w := w) (base := base) T F__law_fitting
  obtain ⟨f__law_next, fd__law_next, F__law_next, mg__law_next, b__law_next⟩ := T.d__law_next
  have G__law_next := ok__law_next (P := P) (w := w) (base := base) T F__law_next
  have sc := sc__law_good
  refine F.ok sc (fun vs H Q E h => by obtain ⟨_, _, _, _, _, _, _, _, hl, _⟩ := h; exact hl) (fun cdv A outer s H vs Q E hr h => ?_)
  refine ⟨_, (pss_cons (ps_set (i := 1) sc.nd rfl (by first | exact Or.inl rfl | exact Or.inr rfl) (pe_dget (hu_of hr) (pv 0) pe_str (fun _ _ => rfl))) (pss_cons (ps_set (i := 2) sc.nd rfl (by first | exact Or.inl rfl | exact Or.inr rfl) (pe_ix (r := rIxL K) ix_list (pe_lst (pa_cons pe_int (pa_cons pe_int pa_nil))) (pe_call G__law_next (hr.mono (by decide)) (by rfl) mg__law_next F__law_next.kp b__law_next .nil pass0 (pa_cons (pv 0) (pa_cons pe_int pa_nil))) (fun _ _ => rfl))) (pss_cons (ps_set (i := 3) sc.nd rfl (by first | exact Or.inl rfl | exact Or.inr rfl) (pe_slice (r := rSlL K) sl_list (pv 1) (po_some (pv 2)) (po_some (pe_op op_add (pe_op op_add (pv 2) pe_int) (pe_call G__law_next (hr.mono (by decide)) (by rfl) mg__law_next F__law_next.kp b__law_next .nil pass0 (pa_cons (pv 0) (pa_cons pe_int pa_nil))))))) (pss_cons (ps_set (i := 4) sc.nd rfl (by first | exact Or.inl rfl | exact Or.inr rfl) (pe_callTy (r := rDictP K) (cr_dictP rfl) (by rfl) T.b_dict (by decide +kernel) (pa_cons (pe_lc (own := [("_law_voice", 12)]) (g := gName 12) rfl sc.nd (pi_list (pv 3)) (blkOk_by (N := ["_law_state", "_law_names", "_law_first", "_law_voices", "_law_clocks", "_law_notes", "_law_k", "_law_turn", "_law_far", "_law_ties", "_law_home", "_law_at", "_law_voice", "_law_begins"]) (sc := defScope s__law_good) (by decide +kernel)) (fun _ _ _ _ _ => (pg_name (i := 12) sc.nd rfl (by first | exact Or.inl rfl | exact Or.inr rfl))) (fun _ _ _ _ _ => pts_nil) (fun _ _ _ _ _ => (by exact (pe_tup (pa_cons (pv 12) (pa_cons (pe_call G__law_next (hr.mono (by decide)) (by rfl) mg__law_next F__law_next.kp b__law_next .nil pass0 (pa_cons (pv 0) (pa_cons pe_int pa_nil))) pa_nil)))))) pa_nil))) (pss_cons (ps_set (i := 5) sc.nd rfl (by first | exact Or.inl rfl | exact Or.inr rfl) (pe_lst pa_nil)) (pss_cons (ps_par rfl sc.nd (i := 8) (j := 11) rfl rfl (by decide) rfl rfl (pa_cons (pe_ix (r := rIxL K) ix_list (pe_lst (pa_cons pe_int (pa_cons pe_int (pa_cons pe_int (pa_cons pe_int pa_nil))))) (pe_call G__law_next (hr.mono (by decide)) (by rfl) mg__law_next F__law_next.kp b__law_next .nil pass0 (pa_cons (pv 0) (pa_cons pe_int pa_nil))) (fun _ _ => rfl)) (pa_cons (pe_call G__law_next (hr.mono (by decide)) (by rfl) mg__law_next F__law_next.kp b__law_next .nil pass0 (pa_cons (pv 0) (pa_cons pe_int pa_nil))) pa_nil)) rfl) (pss_cons (ps_for PassesOwn.never rfl (pi_range1 rfl T.b_range (pa_cons (pe_ix (r := rIxL K) ix_list (pe_lst (pa_cons (pe_op op_add pe_int (pe_call G__law_next (hr.mono (by decide)) (by rfl) mg__law_next F__law_next.kp b__law_next .nil pass0 (pa_cons (pv 0) (pa_cons pe_int pa_nil)))) (pa_cons (pe_op op_add pe_int (pe_call G__law_next (hr.mono (by decide)) (by rfl) mg__law_next F__law_next.kp b__law_next .nil pass0 (pa_cons (pv 0) (pa_cons pe_int pa_nil)))) (pa_cons pe_int pa_nil)))) (pe_call G__law_next (hr.mono (by decide)) (by rfl) mg__law_next F__law_next.kp b__law_next .nil pass0 (pa_cons (pv 0) (pa_cons pe_int pa_nil))) (fun _ _ => rfl)) pa_nil)) (pg_name (i := 6) sc.nd rfl (by first | exact Or.inl rfl | exact Or.inr rfl)) (pss_cons (ps_set (i := 12) sc.nd rfl (by first | exact Or.inl rfl | exact Or.inr rfl) (pe_ix (r := rIxL K) ix_list (pv 3) (pe_call G__law_next (hr.mono (by decide)) (by rfl) mg__law_next F__law_next.kp b__law_next .nil pass0 (pa_cons (pv 0) (pa_cons (pe_callB (r := ON.rLen K) cr_lenU (by rfl) T.b_len (by decide +kernel) (pa_cons (pv 3) pa_nil)) pa_nil))) (fun _ _ => rfl))) (pss_cons (ps_set (i := 13) sc.nd rfl (by first | exact Or.inl rfl | exact Or.inr rfl) (pe_op op_add (pe_dget (hu_of hr) (pv 4) (pv 12) (fun _ _ => rfl)) (pe_call G__law_next (hr.mono (by decide)) (by rfl) mg__law_next F__law_next.kp b__law_next .nil pass0 (pa_cons (pv 0) (pa_cons pe_int pa_nil))))) (pss_cons (ps_dput (hu_of hr) (pv 4) (pv 12) (pe_op op_add (pe_op op_add (pv 13) pe_int) (pe_call G__law_next (hr.mono (by decide)) (by rfl) mg__law_next F__law_next.kp b__law_next .nil pass0 (pa_cons (pv 0) (pa_cons pe_int pa_nil)))) (by rfl)) (pss_cons (ps_expr (pe_bm PySem.F.plainAttrs_list PySem.F.slot_list_append PySem.F.type_list_append mt_append (pv 5) (pa_cons (pe_tup (pa_cons (pe_ix (r := rIxL K) ix_list (pv 1) (pe_op op_mod (pe_op op_add (pv 11) (pe_op op_mulU (pv 8) (pv 6))) pe_int) (fun _ _ => rfl)) (pa_cons (pv 12) (pa_cons (pv 13) (pa_cons (pe_dget (hu_of hr) (pv 4) (pv 12) (fun _ _ => rfl)) pa_nil))))) pa_nil))) pss_nil))))) (pss_cons (ps_set (i := 7) sc.nd rfl (by first | exact Or.inl rfl | exact Or.inr rfl) (pe_call G__law_next (hr.mono (by decide)) (by rfl) mg__law_next F__law_next.kp b__law_next .nil pass0 (pa_cons (pv 0) (pa_cons (pe_callB (r := ON.rLen K) cr_lenU (by rfl) T.b_len (by decide +kernel) (pa_cons (pv 5) pa_nil)) pa_nil)))) (pss_cons (ps_set (i := 5) sc.nd rfl (by first | exact Or.inl rfl | exact Or.inr rfl) (pe_op op_cat (pe_slice (r := rSlL K) sl_list (pv 5) (po_some (pv 7)) po_none) (pe_slice (r := rSlL K) sl_list (pv 5) po_none (po_some (pv 7))))) (pss_cons (ps_set (i := 8) sc.nd rfl (by first | exact Or.inl rfl | exact Or.inr rfl) (pe_op op_mulU (pe_ix (r := rIxL K) ix_list (pe_lst (pa_cons (pe_call G__law_next (hr.mono (by decide)) (by rfl) mg__law_next F__law_next.kp b__law_next .nil pass0 (pa_cons (pv 0) (pa_cons pe_int pa_nil))) (pa_cons (pe_call G__law_next (hr.mono (by decide)) (by rfl) mg__law_next F__law_next.kp b__law_next .nil pass0 (pa_cons (pv 0) (pa_cons pe_int pa_nil))) (pa_cons pe_int pa_nil)))) (pe_call G__law_next (hr.mono (by decide)) (by rfl) mg__law_next F__law_next.kp b__law_next .nil pass0 (pa_cons (pv 0) (pa_cons pe_int pa_nil))) (fun _ _ => rfl)) (pe_callTy cr_int1 (by rfl) T.b_int (by decide +kernel) (pa_cons (pe_cmpR op_gt (pe_callB (r := ON.rLen K) cr_lenU (by rfl) T.b_len (by decide +kernel) (pa_cons (pv 5) pa_nil)) pe_int (nomark _)) pa_nil)))) (pss_cons (ps_setLc (i := 9) (own := [("_law_k", 6)]) (g := gName 6) rfl sc.nd rfl rfl (sw_true rfl rfl rfl (by decide +kernel)) (pi_range1 rfl T.b_range (pa_cons (pv 8) pa_nil)) (blkOk_by (N := ["_law_state", "_law_names", "_law_first", "_law_voices", "_law_clocks", "_law_notes", "_law_k", "_law_turn", "_law_far", "_law_ties", "_law_home", "_law_at", "_law_voice", "_law_begins"]) (sc := defScope s__law_good) (by decide +kernel)) (fun _ _ _ _ _ => (pg_name (i := 6) sc.nd rfl (by first | exact Or.inl rfl | exact Or.inr rfl))) (fun _ _ _ _ _ => pts_nil) (fun _ _ _ _ _ => (by exact (pe_call G__law_fitting (hr.mono (by decide)) (by rfl) mg__law_fitting F__law_fitting.kp b__law_fitting .nil pass0 (pa_cons (pv 0) (pa_cons (pv 5) pa_nil)))))) (pss_cons (ps_set (i := 10) sc.nd rfl (by first | exact Or.inl rfl | exact Or.inr rfl) pe_non) (pss_cons (ps_if (PW.pt (pw_and (pt_cmpR op_gt (pe_callB (r := ON.rLen K) cr_lenU (by rfl) T.b_len (by decide +kernel) (pa_cons (pv 5) pa_nil)) pe_int (nomark _)) (pw_and1 (pt_cmpR op_eq (pe_call G__law_next (hr.mono (by decide)) (by rfl) mg__law_next F__law_next.kp b__law_next .nil pass0 (pa_cons (pv 0) (pa_cons pe_int pa_nil))) pe_int (nomark _))))) (pss_cons (ps_set (i := 10) sc.nd rfl (by first | exact Or.inl rfl | exact Or.inr rfl) (pe_tup (pa_cons (pe_ix (r := rIxT K) ix_tup (pe_ix (r := rIxL K) ix_list (pv 5) pe_int (fun _ _ => rfl)) pe_int (fun _ _ => rfl)) (pa_cons (pe_ix (r := rIxT K) ix_tup (pe_ix (r := rIxL K) ix_list (pv 5) (pe_op op_add pe_int (pe_call G__law_next (hr.mono (by decide)) (by rfl) mg__law_next F__law_next.kp b__law_next .nil pass0 (pa_cons (pv 0) (pa_cons (pe_op op_sub (pe_callB (r := ON.rLen K) cr_lenU (by rfl) T.b_len (by decide +kernel) (pa_cons (pv 5) pa_nil)) pe_int) pa_nil)))) (fun _ _ => rfl)) pe_int (fun _ _ => rfl)) pa_nil)))) pss_nil) pss_nil) (pss_cons (ps_ret (pe_tup (pa_cons (pe_callTy (r := rTupOf K) cr_tup (by rfl) T.b_tuple (by decide +kernel) (pa_cons (pv 5) pa_nil)) (pa_cons (pe_callTy (r := rTupOf K) cr_tup (by rfl) T.b_tuple (by decide +kernel) (pa_cons (pv 9) pa_nil)) (pa_cons (pv 10) pa_nil))))) pss_nil)))))))))))))), ?_⟩
  refine fin_draw h fun q ds k r k2 hp => ?_
  obtain ⟨cl, nm, x, rfl, rfl, hm, rfl⟩ := hp
  cases nm with
  | none => cases hm
  | some nm =>
    refine ⟨_, inferInstance, mb__law_good cl nm, x, W0, ?_, finS_some hm, rfl⟩
    show EvS K W0 _ [.sr (.run cl (some nm)), .un, .un, .un, .un, .un, .un, .un, .un, .un, .un, .un, .un, .un] noEnd noEnd (mb__law_good cl nm)
    exact (by exact (es_set (em_names rfl) fun names_220 => (by exact (es_set (em_op (em_ofF (ef_lst (el_cons em_int (el_cons em_int el_nil)))) (em_draw (i := 0) (q := (.run cl (some nm))) (f := fun p_227 => m__law_next cl (some nm) p_227) rfl (ea_st rfl (ea_dt1 em_int)) (fun _ => rfl) fun b k r k2 h => ⟨_, _, b, r, rfl, rfl, h, rfl⟩) fun _ _ => om_ixL) fun first_221 => (by exact (es_set (em_ofF (ef_slice (em_var rfl) (eo_some (em_var rfl)) (eo_some (em_op (em_op (em_var rfl) em_int fun _ _ => om_I0) (em_draw (i := 0) (q := (.run cl (some nm))) (f := fun p_234 => m__law_next cl (some nm) p_234) rfl (ea_st rfl (ea_dt1 em_int)) (fun _ => rfl) fun b k r k2 h => ⟨_, _, b, r, rfl, rfl, h, rfl⟩) fun _ _ => om_I0)))) fun voices_230 => (by exact (es_setF (ef_dictP (em_ofF (ef_lc (vs := [12]) (is := [12]) (sd1 := fun (a_243 : Str) => [.sr (.run cl (some nm)), .dat (enc (names_220 : (List Str))), .dat (enc (first_221 : Int)), .dat (enc (voices_230 : (List Str))), .un, .un, .un, .un, .un, .un, .un, .un, .dat (enc (a_243 : Str)), .un]) (ei_list (em_var rfl)) (fun _ => eg_name) (by decide) (fun a_243 => eb_yes) (fun a_243 => (em_tup2 (em_var rfl) (em_draw (i := 0) (q := (.run cl (some nm))) (f := fun p_244 => m__law_next cl (some nm) p_244) rfl (ea_st rfl (ea_dt1 em_int)) (fun _ => rfl) fun b k r k2 h => ⟨_, _, b, r, rfl, rfl, h, rfl⟩))) (fun a_243 => (.same (.same (.same (.same (.same (.same (.same (.same (.same (.same (.same (.same (.un (.same .nil))))))))))))))) (noOwn_by rfl)))) fun clocks_241 => (by exact (es_setF (ef_lst el_nil) fun notes_249 => (by exact (es_par (ea_cons (em_op (em_ofF (ef_lst (el_cons em_int (el_cons em_int (el_cons em_int (el_cons em_int el_nil)))))) (em_draw (i := 0) (q := (.run cl (some nm))) (f := fun p_260 => m__law_next cl (some nm) p_260) rfl (ea_st rfl (ea_dt1 em_int)) (fun _ => rfl) fun b k r k2 h => ⟨_, _, b, r, rfl, rfl, h, rfl⟩) fun _ _ => om_ixL) (ea_1 (em_draw (i := 0) (q := (.run cl (some nm))) (f := fun p_263 => m__law_next cl (some nm) p_263) rfl (ea_st rfl (ea_dt1 em_int)) (fun _ => rfl) fun b k r k2 h => ⟨_, _, b, r, rfl, rfl, h, rfl⟩))) fun p_266 => (by exact (es_seq (mid := (fun (t_290 : (Dc Str Int) × (List (T4 Str Str Int Int))) => [.sr (.run cl (some nm)), .dat (enc (names_220 : (List Str))), .dat (enc (first_221 : Int)), .dat (enc (voices_230 : (List Str))), .own (.dic .dat) (enc (t_290.1 : (Dc Str Int))), .own (.lst .dat) (enc (t_290.2 : (List (T4 Str Str Int Int)))), .un, .un, .dat (enc (p_266.1 : Int)), .un, .un, .dat (enc (p_266.2 : Int)), .un, .un])) (es_for (inv := (fun (t_290 : (Dc Str Int) × (List (T4 Str Str Int Int))) => [.sr (.run cl (some nm)), .dat (enc (names_220 : (List Str))), .dat (enc (first_221 : Int)), .dat (enc (voices_230 : (List Str))), .own (.dic .dat) (enc (t_290.1 : (Dc Str Int))), .own (.lst .dat) (enc (t_290.2 : (List (T4 Str Str Int Int)))), .un, .un, .dat (enc (p_266.1 : Int)), .un, .un, .dat (enc (p_266.2 : Int)), .un, .un])) (t0 := (clocks_241, notes_249)) (sd1 := fun (t_290 : (Dc Str Int) × (List (T4 Str Str Int Int))) (a_291 : Int) => [.sr (.run cl (some nm)), .dat (enc (names_220 : (List Str))), .dat (enc (first_221 : Int)), .dat (enc (voices_230 : (List Str))), .own (.dic .dat) (enc (t_290.1 : (Dc Str Int))), .own (.lst .dat) (enc (t_290.2 : (List (T4 Str Str Int Int)))), .dat (enc (a_291 : Int)), .un, .dat (enc (p_266.1 : Int)), .un, .un, .dat (enc (p_266.2 : Int)), .un, .un]) (body := (fun (t_290 : (Dc Str Int) × (List (T4 Str Str Int Int))) (a_291 : Int) => ((Mn.bnd (Mn.bnd (Mn.pur voices_230) fun x_295 => Mn.bnd (Mn.bnd (Mn.bnd (Mn.pur voices_230) fun u_294 => Mn.pur ((List.length u_294 : Nat) : Int)) fun p_293 => m__law_next cl (some nm) p_293) fun y_296 => lift (atI x_295 y_296)) fun voice_292 => (Mn.bnd (Mn.bnd (Mn.bnd (Mn.pur voice_292) fun y_298 => lift (List.lookup y_298 t_290.1.l)) fun x_300 => Mn.bnd (Mn.bnd (Mn.pur (3 : Int)) fun p_299 => m__law_next cl (some nm) p_299) fun y_301 => Mn.pur (x_300 + y_301)) fun begins_297 => (Mn.bnd (Mn.bnd (Mn.bnd (Mn.pur begins_297) fun x_302 => Mn.bnd (Mn.pur (1 : Int)) fun y_303 => Mn.pur (x_302 + y_303)) fun x_305 => Mn.bnd (Mn.bnd (Mn.pur (5 : Int)) fun p_304 => m__law_next cl (some nm) p_304) fun y_306 => Mn.pur (x_305 + y_306)) fun x_307 => Mn.bnd (Mn.pur voice_292) fun y_308 => gd (List.length t_290.1.l < 100000) (Mn.bnd (Mn.pur (dcP t_290.1 y_308 x_307)) fun clocks_309 => (Mn.bnd (Mn.bnd (Mn.bnd (Mn.bnd (Mn.pur names_220) fun x_317 => Mn.bnd (Mn.bnd (Mn.bnd (Mn.pur p_266.2) fun x_313 => Mn.bnd (Mn.bnd (Mn.pur p_266.1) fun x_311 => Mn.bnd (Mn.pur a_291) fun y_312 => gd (ON.MulOk x_311 y_312) (Mn.pur (x_311 * y_312))) fun y_314 => Mn.pur (x_313 + y_314)) fun x_315 => Mn.bnd (Mn.pur (40 : Int)) fun y_316 => gd (0 < y_316) (Mn.pur (x_315 % y_316))) fun y_318 => lift (atI x_317 y_318)) fun x_324 => Mn.bnd (Mn.bnd (Mn.pur voice_292) fun x_322 => Mn.bnd (Mn.bnd (Mn.pur begins_297) fun x_320 => Mn.bnd (Mn.bnd (Mn.pur voice_292) fun y_319 => lift (List.lookup y_319 clocks_309.l)) fun y_321 => Mn.pur (x_320, y_321)) fun y_323 => Mn.pur (x_322, y_323)) fun y_325 => Mn.pur (x_324, y_325)) fun t_326 => Mn.pur (⟨t_326.1, t_326.2.1, t_326.2.2.1, t_326.2.2.2⟩ : (T4 Str Str Int Int))) fun e_310 => gd (List.length t_290.2 < 100000) (Mn.bnd (Mn.pur (t_290.2 ++ [e_310])) fun zs_327 => (Mn.pur (.nx (clocks_309, zs_327))))))))) : Sm (Fl ((Dc Str Int) × (List (T4 Str Str Int Int))) ((Dc Str Int) × (List (T4 Str Str Int Int))) (T3 (Tl (T4 Str Str Int Int)) (Tl (T6 Str Str Str (Tl Int) Int Int)) (Option (Str × Str))))))) (ei_rng1 (ea_1 (em_op (em_ofF (ef_lst (el_cons (em_op em_int (em_draw (i := 0) (q := (.run cl (some nm))) (f := fun p_273 => m__law_next cl (some nm) p_273) rfl (ea_st rfl (ea_dt1 em_int)) (fun _ => rfl) fun b k r k2 h => ⟨_, _, b, r, rfl, rfl, h, rfl⟩) fun _ _ => om_I0) (el_cons (em_op em_int (em_draw (i := 0) (q := (.run cl (some nm))) (f := fun p_276 => m__law_next cl (some nm) p_276) rfl (ea_st rfl (ea_dt1 em_int)) (fun _ => rfl) fun b k r k2 h => ⟨_, _, b, r, rfl, rfl, h, rfl⟩) fun _ _ => om_I0) (el_cons em_int el_nil))))) (em_draw (i := 0) (q := (.run cl (some nm))) (f := fun p_286 => m__law_next cl (some nm) p_286) rfl (ea_st rfl (ea_dt1 em_int)) (fun _ => rfl) fun b k r k2 h => ⟨_, _, b, r, rfl, rfl, h, rfl⟩) fun _ _ => om_ixL))) (.same (.same (.same (.same (.same (.same (.same (.same (.same (.same (.same (.same (.same (.same .nil)))))))))))))) (fun _ _ => eg_name) fun t_290 a_291 => (by exact (es_set (em_op (em_var rfl) (em_draw (i := 0) (q := (.run cl (some nm))) (f := fun p_293 => m__law_next cl (some nm) p_293) rfl (ea_st rfl (ea_dt1 (em_lenL (em_var rfl)))) (fun _ => rfl) fun b k r k2 h => ⟨_, _, b, r, rfl, rfl, h, rfl⟩) fun _ _ => om_ixL) fun voice_292 => (by exact (es_set (em_op (em_dgetO (c := t_290.1) rfl (em_var rfl)) (em_draw (i := 0) (q := (.run cl (some nm))) (f := fun p_299 => m__law_next cl (some nm) p_299) rfl (ea_st rfl (ea_dt1 em_int)) (fun _ => rfl) fun b k r k2 h => ⟨_, _, b, r, rfl, rfl, h, rfl⟩) fun _ _ => om_I0) fun begins_297 => (by exact (es_dputP (c := t_290.1) rfl (em_op (em_op (em_var rfl) em_int fun _ _ => om_I0) (em_draw (i := 0) (q := (.run cl (some nm))) (f := fun p_304 => m__law_next cl (some nm) p_304) rfl (ea_st rfl (ea_dt1 em_int)) (fun _ => rfl) fun b k r k2 h => ⟨_, _, b, r, rfl, rfl, h, rfl⟩) fun _ _ => om_I0) (em_var rfl) fun clocks_309 => (by exact (es_appP (xs := t_290.2) rfl (em_tupN (fun t_326 => (⟨t_326.1, t_326.2.1, t_326.2.2.1, t_326.2.2.2⟩ : (T4 Str Str Int Int))) (ea_cons (em_op (em_var rfl) (em_op (em_op (em_var rfl) (em_op (em_var rfl) (em_var rfl) fun _ _ => om_mul) fun _ _ => om_I0) em_int fun _ _ => om_mod) fun _ _ => om_ixL) (ea_cons (em_var rfl) (ea_cons (em_var rfl) (ea_1 (em_dgetO (c := clocks_309) rfl (em_var rfl)))))) (fun _ => rfl) (n := 4) (fun _ => rfl)) fun zs_327 => (by exact es_next (.same (.same (.same (.same (.same (.same (.un (.same (.same (.same (.same (.same (.un (.un .nil)))))))))))))))))))))))) fun t_290 => (by exact (es_set (em_draw (i := 0) (q := (.run cl (some nm))) (f := fun p_329 => m__law_next cl (some nm) p_329) rfl (ea_st rfl (ea_dt1 (em_borrow (em_lenL (em_var rfl)) (.same rfl (.same rfl (.same rfl (.same rfl (.un (.fz rfl (.same rfl (.same rfl (.same rfl (.same rfl (.same rfl (.same rfl (.same rfl (.same rfl .nil))))))))))))))))) (fun _ => rfl) fun b k r k2 h => ⟨_, _, b, r, rfl, rfl, h, rfl⟩) fun turn_328 => (by exact (es_frz (i := 5) rfl (es_setF (ef_cat (em_ofF (ef_slice (em_var rfl) (eo_some (em_var rfl)) eo_none)) (em_ofF (ef_slice (em_var rfl) eo_none (eo_some (em_var rfl))))) fun notes_331 => (by exact (es_set (em_op (em_op (em_ofF (ef_lst (el_cons (em_draw (i := 0) (q := (.run cl (some nm))) (f := fun p_345 => m__law_next cl (some nm) p_345) rfl (ea_st rfl (ea_dt1 em_int)) (fun _ => rfl) fun b k r k2 h => ⟨_, _, b, r, rfl, rfl, h, rfl⟩) (el_cons (em_draw (i := 0) (q := (.run cl (some nm))) (f := fun p_346 => m__law_next cl (some nm) p_346) rfl (ea_st rfl (ea_dt1 em_int)) (fun _ => rfl) fun b k r k2 h => ⟨_, _, b, r, rfl, rfl, h, rfl⟩) (el_cons em_int el_nil))))) (em_draw (i := 0) (q := (.run cl (some nm))) (f := fun p_354 => m__law_next cl (some nm) p_354) rfl (ea_st rfl (ea_dt1 em_int)) (fun _ => rfl) fun b k r k2 h => ⟨_, _, b, r, rfl, rfl, h, rfl⟩) fun _ _ => om_ixL) (em_intB (em_op (em_borrow (em_lenL (em_var rfl)) (.same rfl (.same rfl (.same rfl (.same rfl (.un (.fz rfl (.same rfl (.same rfl (.same rfl (.same rfl (.same rfl (.same rfl (.same rfl (.same rfl .nil))))))))))))))) em_int fun _ _ => om_B0)) fun _ _ => om_mul) fun far_342 => (by exact (es_frz (i := 5) rfl (es_set (em_ofF (ef_lc (vs := [6]) (is := [6]) (sd1 := fun (a_365 : Int) => [.sr (.run cl (some nm)), .dat (enc (names_220 : (List Str))), .dat (enc (first_221 : Int)), .dat (enc (voices_230 : (List Str))), .own (.dic .dat) (enc (t_290.1 : (Dc Str Int))), .dat (enc (notes_331 : (List (T4 Str Str Int Int)))), .dat (enc (a_365 : Int)), .dat (enc (turn_328 : Int)), .dat (enc (far_342 : Int)), .un, .un, .dat (enc (p_266.2 : Int)), .un, .un]) (ei_rng1 (ea_1 (em_var rfl))) (fun _ => eg_name) (by decide) (fun a_365 => eb_yes) (fun a_365 => (em_draw (i := 0) (q := (.run cl (some nm))) (f := fun p_366 => m__law_fitting cl (some nm) p_366) rfl (ea_st rfl (ea_dt1 (em_var rfl))) (fun _ => rfl) fun b k r k2 h => ⟨_, _, b, r, rfl, rfl, h, rfl⟩)) (fun a_365 => (.same (.same (.same (.same (.same (.same (.un (.same (.same (.same (.same (.same (.same (.same .nil))))))))))))))) (noOwn_by rfl))) fun ties_363 => (by exact (es_set (em_as (fun (k_369 : Unit) => (none : (Option (Str × Str)))) (fun _ => rfl) em_non) fun home_368 => (by exact (es_seq (mid := (fun (t_378 : (Option (Str × Str))) => [.sr (.run cl (some nm)), .dat (enc (names_220 : (List Str))), .dat (enc (first_221 : Int)), .dat (enc (voices_230 : (List Str))), .own (.dic .dat) (enc (t_290.1 : (Dc Str Int))), .dat (enc (notes_331 : (List (T4 Str Str Int Int)))), .un, .dat (enc (turn_328 : Int)), .dat (enc (far_342 : Int)), .dat (enc (ties_363 : (List (T6 Str Str Str (Tl Int) Int Int)))), .dat (enc (t_378 : (Option (Str × Str)))), .dat (enc (p_266.2 : Int)), .un, .un])) (es_if (eb_and (eb_T (em_op (em_lenL (em_var rfl)) em_int fun _ _ => om_B0)) (eb_T (em_op (em_draw (i := 0) (q := (.run cl (some nm))) (f := fun p_373 => m__law_next cl (some nm) p_373) rfl (ea_st rfl (ea_dt1 em_int)) (fun _ => rfl) fun b k r k2 h => ⟨_, _, b, r, rfl, rfl, h, rfl⟩) em_int fun _ _ => om_eqI))) (by exact (es_set (em_as (fun (k_394 : (Str × Str)) => (some k_394 : (Option (Str × Str)))) (fun _ => rfl) (em_tup2 (em_fldT (i := 0) (fun (x_382 : (T4 Str Str Int Int)) => x_382.a) (em_op (em_var rfl) em_int fun _ _ => om_ixL) (fun _ => ⟨_, rfl, rfl⟩)) (em_fldT (i := 0) (fun (x_391 : (T4 Str Str Int Int)) => x_391.a) (em_op (em_var rfl) (em_op em_int (em_draw (i := 0) (q := (.run cl (some nm))) (f := fun p_383 => m__law_next cl (some nm) p_383) rfl (ea_st rfl (ea_dt1 (em_op (em_lenL (em_var rfl)) em_int fun _ _ => om_I0))) (fun _ => rfl) fun b k r k2 h => ⟨_, _, b, r, rfl, rfl, h, rfl⟩) fun _ _ => om_I0) fun _ _ => om_ixL) (fun _ => ⟨_, rfl, rfl⟩)))) fun home_379 => (by exact es_next (.same (.same (.same (.same (.same (.same (.same (.same (.same (.same (.same (.same (.same (.same .nil))))))))))))))))) (by exact es_next (.same (.same (.same (.same (.same (.same (.same (.same (.same (.same (.same (.same (.same (.same .nil)))))))))))))))) fun t_378 => (by exact (es_retS (em_tupN (fun t_402 => (⟨t_402.1, t_402.2.1, t_402.2.2⟩ : (T3 (Tl (T4 Str Str Int Int)) (Tl (T6 Str Str Str (Tl Int) Int Int)) (Option (Str × Str))))) (ea_cons (em_tupL (em_var rfl)) (ea_cons (em_tupL (em_var rfl)) (ea_1 (em_var rfl)))) (fun _ => rfl) (n := 3) (fun _ => rfl))))))))))))))))))))))))))))))))
theorem ok__law_come_to (T : Tx P w K mg) {f : Addr} {fd : FuncData} (F : Fun K "_law_come_to" "_law_come_to" s__law_come_to f fd) : FnOk P w K mg base CX0 1 f fd ["_law_song", "_law_name"] (spP K 2 .dat pr__law_come_to) := by
  have sc := sc__law_come_to
  refine F.ok sc (fun vs H Q E h => by obtain ⟨_, _, _, _, hl, _⟩ := h; exact hl) (fun cdv A outer s H vs Q E hr h => ?_)
  refine ⟨_, (pss_cons (ps_set (i := 2) sc.nd rfl (by first | exact Or.inl rfl | exact Or.inr rfl) (pe_lst (pa_cons (pv 1) pa_nil))) (pss_cons (ps_set (i := 3) sc.nd rfl (by first | exact Or.inl rfl | exact Or.inr rfl) pe_int) (pss_cons (ps_while PassesOwn.never (pt_cmpR op_lt (pv 3) (pe_callB (r := ON.rLen K) cr_lenU (by rfl) T.b_len (by decide +kernel) (pa_cons (pv 2) pa_nil)) (nomark _)) (pss_cons (ps_for PassesOwn.never rfl (pi_tup (pe_ix (r := rIxT K) ix_tup (pv 0) pe_int (fun _ _ => rfl))) (pg_name (i := 4) sc.nd rfl (by first | exact Or.inl rfl | exact Or.inr rfl)) (pss_cons (ps_if (pt_cmpR (r := rIn K false) op_in_seq (pe_ix (r := rIxL K) ix_list (pv 2) (pv 3) (fun _ _ => rfl)) (pe_slice (r := rSlA K) sl_tupA (pv 4) (po_some pe_int) (po_some pe_int)) (by rfl)) (pss_cons (ps_set (i := 2) sc.nd rfl (by first | exact Or.inl rfl | exact Or.inr rfl) (pe_op op_cat (pv 2) (pe_lc (own := [("_law_one", 5)]) (g := gName 5) rfl sc.nd (pi_tup (pe_slice (r := rSlA K) sl_tupA (pv 4) (po_some pe_int) (po_some pe_int))) (blkOk_by (N := ["_law_song", "_law_name", "_law_found", "_law_at", "_law_tie", "_law_one"]) (sc := defScope s__law_come_to) (by decide +kernel)) (fun _ _ _ _ _ => (pg_name (i := 5) sc.nd rfl (by first | exact Or.inl rfl | exact Or.inr rfl))) (fun _ _ _ _ _ => (pts_one (pt_cmpR (r := rIn K true) op_notIn_seq (pv 5) (pv 2) (by rfl)))) (fun _ _ _ _ _ => (by exact (pv 5)))))) pss_nil) pss_nil) pss_nil)) (pss_cons (ps_set (i := 3) sc.nd rfl (by first | exact Or.inl rfl | exact Or.inr rfl) (pe_op op_add (pv 3) pe_int)) pss_nil))) (pss_cons (ps_ret (pe_callB (r := rSortedS K) cr_sortedS (by rfl) T.b_sorted (by decide +kernel) (pa_cons (pv 2) pa_nil))) pss_nil)))), ?_⟩
  refine fin_pure h fun ds r hp => ?_
  obtain ⟨p0, p1, x, rfl, hm, rfl⟩ := hp
  refine ⟨_, inferInstance, mb__law_come_to p0 p1, x, W0, ?_, fin_some hm, rfl⟩
  show EvS K W0 _ [.dat (enc (p0 : (T3 (Tl (T4 Str Str Int Int)) (Tl (T6 Str Str Str (Tl Int) Int Int)) (Option (Str × Str))))), .dat (enc (p1 : Str)), .un, .un, .un, .un] noEnd noEnd (mb__law_come_to p0 p1)
  exact (by exact (es_set (em_ofF (ef_lst (el_cons (em_var rfl) el_nil))) fun found_404 => (by exact (es_set em_int fun at_408 => (by exact (es_seq (mid := (fun (t_409 : (List Str) × Int) => [.dat (enc (p0 : (T3 (Tl (T4 Str Str Int Int)) (Tl (T6 Str Str Str (Tl Int) Int Int)) (Option (Str × Str))))), .dat (enc (p1 : Str)), .dat (enc (t_409.1 : (List Str))), .dat (enc (t_409.2 : Int)), .un, .un])) (es_while (inv := (fun (t_409 : (List Str) × Int) => [.dat (enc (p0 : (T3 (Tl (T4 Str Str Int Int)) (Tl (T6 Str Str Str (Tl Int) Int Int)) (Option (Str × Str))))), .dat (enc (p1 : Str)), .dat (enc (t_409.1 : (List Str))), .dat (enc (t_409.2 : Int)), .un, .un])) (t0 := (found_404, at_408)) (c := (fun (t_409 : (List Str) × Int) => ((Mn.bnd (Mn.pur t_409.2) fun x_411 => Mn.bnd (Mn.bnd (Mn.pur t_409.1) fun u_410 => Mn.pur ((List.length u_410 : Nat) : Int)) fun y_412 => Mn.pur (decide (x_411 < y_412))) : Option Bool))) (body := (fun (t_409 : (List Str) × Int) => ((andThen (Mn.bnd (Mn.bnd (Mn.bnd (Mn.pur p0) fun x_413 => Mn.pur x_413.b) fun w_414 => Mn.pur (Tl.l w_414)) fun w_438 => forL (fun (t_415 : (List Str)) (a_416 : (T6 Str Str Str (Tl Int) Int Int)) => ((andThen (Mn.bnd (Mn.bnd (Mn.bnd (Mn.pur t_415) fun x_417 => Mn.bnd (Mn.pur t_409.2) fun y_418 => lift (atI x_417 y_418)) fun x_421 => Mn.bnd (Mn.bnd (Mn.bnd (Mn.pur a_416) fun x_419 => Mn.pur (⟨x_419.b, x_419.c⟩ : (Str × Str))) fun k_420 => Mn.pur (⟨[k_420.1, k_420.2]⟩ : (Tl Str))) fun y_422 => Mn.pur (decide (x_421 ∈ y_422.l))) fun b_423 => cnd b_423 (Mn.bnd (Mn.bnd (Mn.pur t_415) fun x_433 => Mn.bnd (Mn.bnd (Mn.bnd (Mn.bnd (Mn.bnd (Mn.pur a_416) fun x_426 => Mn.pur (⟨x_426.b, x_426.c⟩ : (Str × Str))) fun k_427 => Mn.pur (⟨[k_427.1, k_427.2]⟩ : (Tl Str))) fun w_428 => Mn.pur (Tl.l w_428)) fun w_432 => gd (List.length w_432 ≤ 100000) (compL (fun (a_429 : Str) => (Mn.bnd (Mn.pur a_429) fun x_430 => Mn.bnd (Mn.pur t_415) fun y_431 => Mn.pur (!decide (x_430 ∈ y_431)))) (fun (a_429 : Str) => (Mn.pur a_429)) w_432)) fun y_434 => gd (List.length x_433 + List.length y_434 ≤ sizeLine) (Mn.pur (x_433 ++ y_434))) fun found_425 => (Mn.pur (.nx found_425))) (Mn.pur (.nx t_415)) : Option (Fl ((List Str)) ((List Str)) (List Str))) fun t_424 => (Mn.pur (.nx t_424))) : Option (Fl ((List Str)) ((List Str)) (List Str)))) w_438 t_409.1 : Option (Fl ((List Str)) ((List Str) × Int) (List Str))) fun t_415 => (Mn.bnd (Mn.bnd (Mn.pur t_409.2) fun x_436 => Mn.bnd (Mn.pur (1 : Int)) fun y_437 => Mn.pur (x_436 + y_437)) fun at_435 => (Mn.pur (.nx (t_415, at_435))))) : Option (Fl ((List Str) × Int) ((List Str) × Int) (List Str))))) (n := FU) (.same (.same (.same (.same (.same (.same .nil)))))) (fun t_409 => (eb_T (em_op (em_var rfl) (em_lenL (em_var rfl)) fun _ _ => om_B0))) fun t_409 => (by exact (es_seq (mid := (fun (t_415 : (List Str)) => [.dat (enc (p0 : (T3 (Tl (T4 Str Str Int Int)) (Tl (T6 Str Str Str (Tl Int) Int Int)) (Option (Str × Str))))), .dat (enc (p1 : Str)), .dat (enc (t_415 : (List Str))), .dat (enc (t_409.2 : Int)), .un, .un])) (es_for (inv := (fun (t_415 : (List Str)) => [.dat (enc (p0 : (T3 (Tl (T4 Str Str Int Int)) (Tl (T6 Str Str Str (Tl Int) Int Int)) (Option (Str × Str))))), .dat (enc (p1 : Str)), .dat (enc (t_415 : (List Str))), .dat (enc (t_409.2 : Int)), .un, .un])) (t0 := t_409.1) (sd1 := fun (t_415 : (List Str)) (a_416 : (T6 Str Str Str (Tl Int) Int Int)) => [.dat (enc (p0 : (T3 (Tl (T4 Str Str Int Int)) (Tl (T6 Str Str Str (Tl Int) Int Int)) (Option (Str × Str))))), .dat (enc (p1 : Str)), .dat (enc (t_415 : (List Str))), .dat (enc (t_409.2 : Int)), .dat (enc (a_416 : (T6 Str Str Str (Tl Int) Int Int))), .un]) (body := (fun (t_415 : (List Str)) (a_416 : (T6 Str Str Str (Tl Int) Int Int)) => ((andThen (Mn.bnd (Mn.bnd (Mn.bnd (Mn.pur t_415) fun x_417 => Mn.bnd (Mn.pur t_409.2) fun y_418 => lift (atI x_417 y_418)) fun x_421 => Mn.bnd (Mn.bnd (Mn.bnd (Mn.pur a_416) fun x_419 => Mn.pur (⟨x_419.b, x_419.c⟩ : (Str × Str))) fun k_420 => Mn.pur (⟨[k_420.1, k_420.2]⟩ : (Tl Str))) fun y_422 => Mn.pur (decide (x_421 ∈ y_422.l))) fun b_423 => cnd b_423 (Mn.bnd (Mn.bnd (Mn.pur t_415) fun x_433 => Mn.bnd (Mn.bnd (Mn.bnd (Mn.bnd (Mn.bnd (Mn.pur a_416) fun x_426 => Mn.pur (⟨x_426.b, x_426.c⟩ : (Str × Str))) fun k_427 => Mn.pur (⟨[k_427.1, k_427.2]⟩ : (Tl Str))) fun w_428 => Mn.pur (Tl.l w_428)) fun w_432 => gd (List.length w_432 ≤ 100000) (compL (fun (a_429 : Str) => (Mn.bnd (Mn.pur a_429) fun x_430 => Mn.bnd (Mn.pur t_415) fun y_431 => Mn.pur (!decide (x_430 ∈ y_431)))) (fun (a_429 : Str) => (Mn.pur a_429)) w_432)) fun y_434 => gd (List.length x_433 + List.length y_434 ≤ sizeLine) (Mn.pur (x_433 ++ y_434))) fun found_425 => (Mn.pur (.nx found_425))) (Mn.pur (.nx t_415)) : Option (Fl ((List Str)) ((List Str)) (List Str))) fun t_424 => (Mn.pur (.nx t_424))) : Option (Fl ((List Str)) ((List Str)) (List Str))))) (ei_tup (em_fldT (i := 1) (fun (x_413 : (T3 (Tl (T4 Str Str Int Int)) (Tl (T6 Str Str Str (Tl Int) Int Int)) (Option (Str × Str)))) => x_413.b) (em_var rfl) (fun _ => ⟨_, rfl, rfl⟩))) (.same (.same (.same (.same (.same (.same .nil)))))) (fun _ _ => eg_name) fun t_415 a_416 => (by exact (es_seq (mid := (fun (t_424 : (List Str)) => [.dat (enc (p0 : (T3 (Tl (T4 Str Str Int Int)) (Tl (T6 Str Str Str (Tl Int) Int Int)) (Option (Str × Str))))), .dat (enc (p1 : Str)), .dat (enc (t_424 : (List Str))), .dat (enc (t_409.2 : Int)), .dat (enc (a_416 : (T6 Str Str Str (Tl Int) Int Int))), .un])) (es_if (eb_T (em_op (em_op (em_var rfl) (em_var rfl) fun _ _ => om_ixL) (em_as (fun (k_420 : (Str × Str)) => (⟨[k_420.1, k_420.2]⟩ : (Tl Str))) (fun _ => rfl) (em_sliceF (lo := (some (1 : Int) : Option Int)) (hi := (some (3 : Int) : Option Int)) (fun (x_419 : (T6 Str Str Str (Tl Int) Int Int)) => [enc x_419.a, enc x_419.b, enc x_419.c, enc x_419.d, enc x_419.e, enc x_419.f]) (fun (x_419 : (T6 Str Str Str (Tl Int) Int Int)) => (⟨x_419.b, x_419.c⟩ : (Str × Str))) (fun _ => rfl) (fun _ => rfl) (em_var rfl) (eo_int em_int) (eo_int em_int))) fun _ _ => om_inT)) (by exact (es_set (em_ofF (ef_cat (em_var rfl) (em_ofF (ef_lc (vs := [5]) (is := [5]) (sd1 := fun (a_429 : Str) => [.dat (enc (p0 : (T3 (Tl (T4 Str Str Int Int)) (Tl (T6 Str Str Str (Tl Int) Int Int)) (Option (Str × Str))))), .dat (enc (p1 : Str)), .dat (enc (t_415 : (List Str))), .dat (enc (t_409.2 : Int)), .dat (enc (a_416 : (T6 Str Str Str (Tl Int) Int Int))), .dat (enc (a_429 : Str))]) (ei_tup (em_as (fun (k_427 : (Str × Str)) => (⟨[k_427.1, k_427.2]⟩ : (Tl Str))) (fun _ => rfl) (em_sliceF (lo := (some (1 : Int) : Option Int)) (hi := (some (3 : Int) : Option Int)) (fun (x_426 : (T6 Str Str Str (Tl Int) Int Int)) => [enc x_426.a, enc x_426.b, enc x_426.c, enc x_426.d, enc x_426.e, enc x_426.f]) (fun (x_426 : (T6 Str Str Str (Tl Int) Int Int)) => (⟨x_426.b, x_426.c⟩ : (Str × Str))) (fun _ => rfl) (fun _ => rfl) (em_var rfl) (eo_int em_int) (eo_int em_int)))) (fun _ => eg_name) (by decide) (fun a_429 => (eb_T (em_op (em_var rfl) (em_var rfl) fun _ _ => om_ninL))) (fun a_429 => (em_var rfl)) (fun a_429 => (.same (.same (.same (.same (.same (.un .nil))))))) (noOwn_by rfl))))) fun found_425 => (by exact es_next (.same (.same (.same (.same (.same (.same .nil))))))))) (by exact es_next (.same (.same (.same (.same (.same (.same .nil)))))))) fun t_424 => (by exact es_next (.same (.same (.same (.same (.un (.same .nil)))))))))) fun t_415 => (by exact (es_set (em_op (em_var rfl) em_int fun _ _ => om_I0) fun at_435 => (by exact es_next (.same (.same (.same (.same (.same (.same .nil)))))))))))) fun t_409 => (by exact (es_retS (em_ofF (ef_sortS (em_var rfl)))))))))))
theorem ok__law_beats_right (T : Tx P w K mg) {f : Addr} {fd : FuncData} (F : Fun K "_law_beats_right" "_law_beats_right" s__law_beats_right f fd) : FnOk P w K mg base CX0 2 f fd ["_law_state"] (spS K 1 .dat pr__law_beats_right) := by
  obtain ⟨f__law_next, fd__law_next, F__law_next, mg__law_next, b__law_next⟩ := T.d__law_next
  have G__law_next := ok__law_next (P := P) (w := w) (base := base) T F__law_next
  obtain ⟨f_is_overlap, fd_is_overlap, F_is_overlap, mg_is_overlap, b_is_overlap⟩ := T.d_is_overlap
  have G_is_overlap := ok_is_overlap (P := P) (w := w) (base := base) T F_is_overlap
  have sc := sc__law_beats_right
  refine F.ok sc (fun vs H Q E h => by obtain ⟨_, _, _, _, _, _, _, _, hl, _⟩ := h; exact hl) (fun cdv A outer s H vs Q E hr h => ?_)
  refine ⟨_, (pss_cons (ps_set (i := 1) sc.nd rfl (by first | exact Or.inl rfl | exact Or.inr rfl) (pe_dget (hu_of hr) (pv 0) pe_str (fun _ _ => rfl))) (pss_cons (ps_set (i := 2) sc.nd rfl (by first | exact Or.inl rfl | exact Or.inr rfl) (pe_call G__law_next (hr.mono (by decide)) (by rfl) mg__law_next F__law_next.kp b__law_next .nil pass0 (pa_cons (pv 0) (pa_cons pe_int pa_nil)))) (pss_cons (ps_set (i := 3) sc.nd rfl (by first | exact Or.inl rfl | exact Or.inr rfl) (pe_callB (cr_minU rfl) (by rfl) T.b_min (by decide +kernel) (pa_cons pe_int (pa_cons (pe_op op_add (pe_op op_add (pv 2) pe_int) (pe_call G__law_next (hr.mono (by decide)) (by rfl) mg__law_next F__law_next.kp b__law_next .nil pass0 (pa_cons (pv 0) (pa_cons (pe_ix (r := rIxL K) ix_list (pe_lst (pa_cons pe_int (pa_cons (pe_op op_sub pe_int (pv 2)) pa_nil))) (pe_call G__law_next (hr.mono (by decide)) (by rfl) mg__law_next F__law_next.kp b__law_next .nil pass0 (pa_cons (pv 0) (pa_cons pe_int pa_nil))) (fun _ _ => rfl)) pa_nil)))) pa_nil)))) (pss_cons (ps_set (i := 4) sc.nd rfl (by first | exact Or.inl rfl | exact Or.inr rfl) (pe_ix (r := rIxL K) ix_list (pe_lst (pa_cons (pe_call G__law_next (hr.mono (by decide)) (by rfl) mg__law_next F__law_next.kp b__law_next .nil pass0 (pa_cons (pv 0) (pa_cons pe_int pa_nil))) (pa_cons (pv 3) (pa_cons (pe_callB (cr_maxU rfl) (by rfl) T.b_max (by decide +kernel) (pa_cons pe_int (pa_cons (pe_op op_sub (pv 3) pe_int) pa_nil))) (pa_cons (pv 2) pa_nil))))) (pe_call G__law_next (hr.mono (by decide)) (by rfl) mg__law_next F__law_next.kp b__law_next .nil pass0 (pa_cons (pv 0) (pa_cons pe_int pa_nil))) (fun _ _ => rfl))) (pss_cons (ps_set (i := 4) sc.nd rfl (by first | exact Or.inl rfl | exact Or.inr rfl) (pe_callB (cr_minU rfl) (by rfl) T.b_min (by decide +kernel) (pa_cons (pv 4) (pa_cons pe_int pa_nil)))) (pss_cons (ps_set (i := 5) sc.nd rfl (by first | exact Or.inl rfl | exact Or.inr rfl) (pe_callB (cr_minU rfl) (by rfl) T.b_min (by decide +kernel) (pa_cons pe_int (pa_cons (pe_op op_add (pe_op op_add (pv 4) pe_int) (pe_call G__law_next (hr.mono (by decide)) (by rfl) mg__law_next F__law_next.kp b__law_next .nil pass0 (pa_cons (pv 0) (pa_cons (pe_ix (r := rIxL K) ix_list (pe_lst (pa_cons pe_int (pa_cons (pe_op op_sub pe_int (pv 4)) pa_nil))) (pe_call G__law_next (hr.mono (by decide)) (by rfl) mg__law_next F__law_next.kp b__law_next .nil pass0 (pa_cons (pv 0) (pa_cons pe_int pa_nil))) (fun _ _ => rfl)) pa_nil)))) pa_nil)))) (pss_cons (ps_set (i := 6) sc.nd rfl (by first | exact Or.inl rfl | exact Or.inr rfl) (pe_and (pe_cmpR op_lt (pv 4) (pv 3) (nomark _)) (pe_one (pe_cmpR op_lt (pv 2) (pv 5) (nomark _))))) (pss_cons (ps_set (i := 7) sc.nd rfl (by first | exact Or.inl rfl | exact Or.inr rfl) (pe_tup (pa_cons (pe_ix (r := rIxL K) ix_list (pv 1) pe_int (fun _ _ => rfl)) (pa_cons (pe_ix (r := rIxL K) ix_list (pv 1) pe_int (fun _ _ => rfl)) (pa_cons (pv 2) (pa_cons (pv 3) pa_nil)))))) (pss_cons (ps_set (i := 8) sc.nd rfl (by first | exact Or.inl rfl | exact Or.inr rfl) (pe_tup (pa_cons (pe_ix (r := rIxL K) ix_list (pv 1) pe_int (fun _ _ => rfl)) (pa_cons (pe_ix (r := rIxL K) ix_list (pv 1) (pe_call G__law_next (hr.mono (by decide)) (by rfl) mg__law_next F__law_next.kp b__law_next .nil pass0 (pa_cons (pv 0) (pa_cons pe_int pa_nil))) (fun _ _ => rfl)) (pa_cons (pv 4) (pa_cons (pv 5) pa_nil)))))) (pss_cons (ps_set (i := 9) sc.nd rfl (by first | exact Or.inl rfl | exact Or.inr rfl) (pe_lst (pa_cons (pe_call G_is_overlap (hr.mono (by decide)) (by rfl) mg_is_overlap F_is_overlap.kp b_is_overlap .nil pass0 (pa_cons (pv 7) (pa_cons (pv 8) pa_nil))) (pa_cons (pe_call G_is_overlap (hr.mono (by decide)) (by rfl) mg_is_overlap F_is_overlap.kp b_is_overlap .nil pass0 (pa_cons (pv 8) (pa_cons (pv 7) pa_nil))) (pa_cons (pe_call G_is_overlap (hr.mono (by decide)) (by rfl) mg_is_overlap F_is_overlap.kp b_is_overlap .nil pass0 (pa_cons (pv 7) (pa_cons (pv 7) pa_nil))) pa_nil))))) (pss_cons (ps_ret (pe_and (pe_cmpR (r := rEqD K) (op_eqD (room64 hr)) (pv 9) (pe_lst (pa_cons (pv 6) (pa_cons (pv 6) (pa_cons pe_bl pa_nil)))) (nomark _)) (pe_one (pe_callB (r := rAll K) (cr_all rfl) (by rfl) T.b_all (by decide +kernel) (pa_cons (pe_lc (own := [("_law_each", 10)]) (g := gName 10) rfl sc.nd (pi_list (pv 9)) (blkOk_by (N := ["_law_state", "_law_names", "_law_begins", "_law_ends", "_law_other", "_law_later", "_law_due", "_law_one", "_law_two", "_law_told", "_law_each"]) (sc := defScope s__law_beats_right) (by decide +kernel)) (fun _ _ _ _ _ => (pg_name (i := 10) sc.nd rfl (by first | exact Or.inl rfl | exact Or.inr rfl))) (fun _ _ _ _ _ => pts_nil) (fun _ _ _ _ _ => (by exact (pe_callB (id := "isinstance") (r := rIsi K) call_isi (by rfl) T.b_isinstance PyProof.Rows.boot_isinstance (pa_cons (pv 10) (pa_cons (pe_bltn (v := .ty "bool") (u := .type "bool") rfl T.b_bool PyProof.Rows.boot_bool rfl) pa_nil)))))) pa_nil))))) pss_nil))))))))))), ?_⟩
  refine fin_draw h fun q ds k r k2 hp => ?_
  obtain ⟨cl, nm, x, rfl, rfl, hm, rfl⟩ := hp
  cases nm with
  | none => cases hm
  | some nm =>
    refine ⟨_, inferInstance, mb__law_beats_right cl nm, x, W0, ?_, finS_some hm, rfl⟩
    show EvS K W0 _ [.sr (.run cl (some nm)), .un, .un, .un, .un, .un, .un, .un, .un, .un, .un] noEnd noEnd (mb__law_beats_right cl nm)
    exact (by exact (es_set (em_names rfl) fun names_441 => (by exact (es_set (em_draw (i := 0) (q := (.run cl (some nm))) (f := fun p_443 => m__law_next cl (some nm) p_443) rfl (ea_st rfl (ea_dt1 em_int)) (fun _ => rfl) fun b k r k2 h => ⟨_, _, b, r, rfl, rfl, h, rfl⟩) fun begins_442 => (by exact (es_set (em_min (ea_2 em_int (em_op (em_op (em_var rfl) em_int fun _ _ => om_I0) (em_draw (i := 0) (q := (.run cl (some nm))) (f := fun p_448 => m__law_next cl (some nm) p_448) rfl (ea_st rfl (ea_dt1 (em_op (em_ofF (ef_lst (el_cons em_int (el_cons (em_op em_int (em_var rfl) fun _ _ => om_I0) el_nil)))) (em_draw (i := 0) (q := (.run cl (some nm))) (f := fun p_458 => m__law_next cl (some nm) p_458) rfl (ea_st rfl (ea_dt1 em_int)) (fun _ => rfl) fun b k r k2 h => ⟨_, _, b, r, rfl, rfl, h, rfl⟩) fun _ _ => om_ixL))) (fun _ => rfl) fun b k r k2 h => ⟨_, _, b, r, rfl, rfl, h, rfl⟩) fun _ _ => om_I0))) fun ends_444 => (by exact (es_set (em_op (em_ofF (ef_lst (el_cons (em_draw (i := 0) (q := (.run cl (some nm))) (f := fun p_474 => m__law_next cl (some nm) p_474) rfl (ea_st rfl (ea_dt1 em_int)) (fun _ => rfl) fun b k r k2 h => ⟨_, _, b, r, rfl, rfl, h, rfl⟩) (el_cons (em_var rfl) (el_cons (em_max (ea_2 em_int (em_op (em_var rfl) em_int fun _ _ => om_I0))) (el_cons (em_var rfl) el_nil)))))) (em_draw (i := 0) (q := (.run cl (some nm))) (f := fun p_490 => m__law_next cl (some nm) p_490) rfl (ea_st rfl (ea_dt1 em_int)) (fun _ => rfl) fun b k r k2 h => ⟨_, _, b, r, rfl, rfl, h, rfl⟩) fun _ _ => om_ixL) fun other_466 => (by exact (es_set (em_min (ea_2 (em_var rfl) em_int)) fun other_493 => (by exact (es_set (em_min (ea_2 em_int (em_op (em_op (em_var rfl) em_int fun _ _ => om_I0) (em_draw (i := 0) (q := (.run cl (some nm))) (f := fun p_502 => m__law_next cl (some nm) p_502) rfl (ea_st rfl (ea_dt1 (em_op (em_ofF (ef_lst (el_cons em_int (el_cons (em_op em_int (em_var rfl) fun _ _ => om_I0) el_nil)))) (em_draw (i := 0) (q := (.run cl (some nm))) (f := fun p_512 => m__law_next cl (some nm) p_512) rfl (ea_st rfl (ea_dt1 em_int)) (fun _ => rfl) fun b k r k2 h => ⟨_, _, b, r, rfl, rfl, h, rfl⟩) fun _ _ => om_ixL))) (fun _ => rfl) fun b k r k2 h => ⟨_, _, b, r, rfl, rfl, h, rfl⟩) fun _ _ => om_I0))) fun later_498 => (by exact (es_set (em_and (em_op (em_var rfl) (em_var rfl) fun _ _ => om_B0) (em_op (em_var rfl) (em_var rfl) fun _ _ => om_B0)) fun due_520 => (by exact (es_set (em_tupN (fun t_537 => (⟨t_537.1, t_537.2.1, t_537.2.2.1, t_537.2.2.2⟩ : (T4 Str Str Int Int))) (ea_cons (em_op (em_var rfl) em_int fun _ _ => om_ixL) (ea_cons (em_op (em_var rfl) em_int fun _ _ => om_ixL) (ea_cons (em_var rfl) (ea_1 (em_var rfl))))) (fun _ => rfl) (n := 4) (fun _ => rfl)) fun one_526 => (by exact (es_set (em_tupN (fun t_550 => (⟨t_550.1, t_550.2.1, t_550.2.2.1, t_550.2.2.2⟩ : (T4 Str Str Int Int))) (ea_cons (em_op (em_var rfl) em_int fun _ _ => om_ixL) (ea_cons (em_op (em_var rfl) (em_draw (i := 0) (q := (.run cl (some nm))) (f := fun p_541 => m__law_next cl (some nm) p_541) rfl (ea_st rfl (ea_dt1 em_int)) (fun _ => rfl) fun b k r k2 h => ⟨_, _, b, r, rfl, rfl, h, rfl⟩) fun _ _ => om_ixL) (ea_cons (em_var rfl) (ea_1 (em_var rfl))))) (fun _ => rfl) (n := 4) (fun _ => rfl)) fun two_538 => (by exact (es_set (em_ofF (ef_lst (el_cons (em_call (dvs := []) (dds := []) (f := fun p_561 => m_is_overlap p_561.1 p_561.2) (ea_cons (em_var rfl) (ea_1 (em_var rfl))) (fun _ => .nil) (fun _ => rfl) fun b r h => ⟨b.1, b.2, r, rfl, h, rfl⟩) (el_cons (em_call (dvs := []) (dds := []) (f := fun p_564 => m_is_overlap p_564.1 p_564.2) (ea_cons (em_var rfl) (ea_1 (em_var rfl))) (fun _ => .nil) (fun _ => rfl) fun b r h => ⟨b.1, b.2, r, rfl, h, rfl⟩) (el_cons (em_call (dvs := []) (dds := []) (f := fun p_567 => m_is_overlap p_567.1 p_567.2) (ea_cons (em_var rfl) (ea_1 (em_var rfl))) (fun _ => .nil) (fun _ => rfl) fun b r h => ⟨b.1, b.2, r, rfl, h, rfl⟩) el_nil))))) fun told_551 => (by exact (es_retS (em_and (em_op (em_var rfl) (em_ofF (ef_lst (el_cons (em_var rfl) (el_cons (em_var rfl) (el_cons em_bl el_nil))))) fun _ _ => om_eqD) (em_all (em_ofF (ef_lc (vs := [10]) (is := [10]) (sd1 := fun (a_588 : Bool) => [.sr (.run cl (some nm)), .dat (enc (names_441 : (List Str))), .dat (enc (begins_442 : Int)), .dat (enc (ends_444 : Int)), .dat (enc (other_493 : Int)), .dat (enc (later_498 : Int)), .dat (enc (due_520 : Bool)), .dat (enc (one_526 : (T4 Str Str Int Int))), .dat (enc (two_538 : (T4 Str Str Int Int))), .dat (enc (told_551 : (List Bool))), .dat (enc (a_588 : Bool))]) (ei_list (em_var rfl)) (fun _ => eg_name) (by decide) (fun a_588 => eb_yes) (fun a_588 => (em_isT (T := "bool") (em_var rfl) (by decide +kernel))) (fun a_588 => (.same (.same (.same (.same (.same (.same (.same (.same (.same (.same (.un .nil)))))))))))) (noOwn_by rfl)))))))))))))))))))))))))))
theorem ok__law_parts_right (T : Tx P w K mg) {f : Addr} {fd : FuncData} (F : Fun K "_law_parts_right" "_law_parts_right" s__law_parts_right f fd) : FnG P w K mg base CX0 3 f fd ["_law_song"] (spP K 1 .dat pr__law_parts_right) := by
  obtain ⟨f__law_come_to, fd__law_come_to, F__law_come_to, mg__law_come_to, b__law_come_to⟩ := T.d__law_come_to
  have G__law_come_to := ok__law_come_to (P := P) (w := w) (base := base) T F__law_come_to
  obtain ⟨f_parts_of, fd_parts_of, F_parts_of, mg_parts_of, b_parts_of⟩ := T.d_parts_of
  have G_parts_of := ok_parts_of (P := P) (w := w) (base := base) T F_parts_of
  have sc := sc__law_parts_right
  refine okG F sc (fun vs H Q E h => by obtain ⟨_, _, _, _, hl, _⟩ := h; exact hl) (fun cdv A outer s H vs Q E hg hr h => ?_)
  refine ⟨_, (pss_cons (ps_set (i := 1) sc.nd rfl (by first | exact Or.inl rfl | exact Or.inr rfl) (pe_lst pa_nil)) (pss_cons (ps_for PassesOwn.never rfl (pi_list (pe_callB (r := rSortedS K) cr_sortedS (by rfl) T.b_sorted (by decide +kernel) (pa_cons (pe_lc (own := [("_law_note", 7)]) (g := gName 7) rfl sc.nd (pi_tup (pe_ix (r := rIxT K) ix_tup (pv 0) pe_int (fun _ _ => rfl))) (blkOk_by (N := ["_law_song", "_law_due", "_law_name", "_law_kept", "_law_turn", "_law_found", "_law_part", "_law_note"]) (sc := defScope s__law_parts_right) (by decide +kernel)) (fun _ _ _ _ _ => (pg_name (i := 7) sc.nd rfl (by first | exact Or.inl rfl | exact Or.inr rfl))) (fun _ _ _ _ _ => pts_nil) (fun _ _ _ _ _ => (by exact (pe_ix (r := rIxT K) ix_tup (pv 7) pe_int (fun _ _ => rfl))))) pa_nil))) (pg_name (i := 2) sc.nd rfl (by first | exact Or.inl rfl | exact Or.inr rfl)) (pss_cons (ps_if (pt_cmpR op_eq (pe_ix (r := rIxL K) ix_list (pe_call G__law_come_to (hr.mono (by decide)) (by rfl) mg__law_come_to F__law_come_to.kp b__law_come_to .nil pass0 (pa_cons (pv 0) (pa_cons (pv 2) pa_nil))) pe_int (fun _ _ => rfl)) (pv 2) (nomark _)) (pss_cons (ps_expr (pe_bm PySem.F.plainAttrs_list PySem.F.slot_list_append PySem.F.type_list_append mt_append (pv 1) (pa_cons (pe_call G__law_come_to (hr.mono (by decide)) (by rfl) mg__law_come_to F__law_come_to.kp b__law_come_to .nil pass0 (pa_cons (pv 0) (pa_cons (pv 2) pa_nil))) pa_nil))) pss_nil) pss_nil) pss_nil)) (pss_cons (ps_set (i := 3) sc.nd rfl (by first | exact Or.inl rfl | exact Or.inr rfl) (pe_callB (r := rReprD K) (cr_repr hg (hu_rp hr)) (by rfl) T.b_repr (by decide +kernel) (pa_cons (pv 0) pa_nil))) (pss_cons (ps_for PassesOwn.never rfl (pi_range1 rfl T.b_range (pa_cons pe_int pa_nil)) (pg_name (i := 4) sc.nd rfl (by first | exact Or.inl rfl | exact Or.inr rfl)) (pss_cons (ps_set (i := 5) sc.nd rfl (by first | exact Or.inl rfl | exact Or.inr rfl) (pe_call G_parts_of (hr.mono (by decide)) (by rfl) mg_parts_of F_parts_of.kp b_parts_of .nil pass0 (pa_cons (pv 0) pa_nil))) (pss_cons (ps_if (PW.pt (pw_or (pt_not (pt_val (pe_callB (id := "isinstance") (r := rIsi K) call_isi (by rfl) T.b_isinstance PyProof.Rows.boot_isinstance (pa_cons (pv 5) (pa_cons (pe_bltn (v := .ty "list") (u := .type "list") rfl T.b_list PyProof.Rows.boot_list rfl) pa_nil))))) (pw_or (pt_cmpR (r := rNeD K) (op_neD (room64 hr)) (pv 5) (pv 1) (nomark _)) (pw_or1 (pt_not (pt_val (pe_callB (r := rAll K) (cr_all rfl) (by rfl) T.b_all (by decide +kernel) (pa_cons (pe_lc (own := [("_law_part", 6)]) (g := gName 6) rfl sc.nd (pi_list (pv 5)) (blkOk_by (N := ["_law_song", "_law_due", "_law_name", "_law_kept", "_law_turn", "_law_found", "_law_part", "_law_note"]) (sc := defScope s__law_parts_right) (by decide +kernel)) (fun _ _ _ _ _ => (pg_name (i := 6) sc.nd rfl (by first | exact Or.inl rfl | exact Or.inr rfl))) (fun _ _ _ _ _ => pts_nil) (fun _ _ _ _ _ => (by exact (pe_callB (id := "isinstance") (r := rIsi K) call_isi (by rfl) T.b_isinstance PyProof.Rows.boot_isinstance (pa_cons (pv 6) (pa_cons (pe_bltn (v := .ty "list") (u := .type "list") rfl T.b_list PyProof.Rows.boot_list rfl) pa_nil)))))) pa_nil)))))))) (pss_cons (ps_ret pe_bl) pss_nil) pss_nil) (pss_cons (ps_for PassesOwn.never rfl (pi_list (pv 5)) (pg_name (i := 6) sc.nd rfl (by first | exact Or.inl rfl | exact Or.inr rfl)) (pss_cons (ps_expr (pe_bm PySem.F.plainAttrs_list PySem.F.slot_list_append PySem.F.type_list_append mt_append (pv 6) (pa_cons pe_str pa_nil))) pss_nil)) (pss_cons (ps_expr (pe_bm PySem.F.plainAttrs_list PySem.F.slot_list_append PySem.F.type_list_append mt_append (pv 5) (pa_cons (pe_lst pa_nil) pa_nil))) pss_nil))))) (pss_cons (ps_ret (pe_cmpR op_eq (pe_callB (r := rReprD K) (cr_repr hg (hu_rp hr)) (by rfl) T.b_repr (by decide +kernel) (pa_cons (pv 0) pa_nil)) (pv 3) (nomark _))) pss_nil))))), ?_⟩
  refine fin_pure h fun ds r hp => ?_
  obtain ⟨p0, x, rfl, hm, rfl⟩ := hp
  refine ⟨_, inferInstance, mb__law_parts_right p0, x, W0, ?_, fin_some hm, rfl⟩
  show EvS K W0 _ [.dat (enc (p0 : (T3 (Tl (T4 Str Str Int Int)) (Tl (T6 Str Str Str (Tl Int) Int Int)) (Option (Str × Str))))), .un, .un, .un, .un, .un, .un, .un] noEnd noEnd (mb__law_parts_right p0)
  exact (by exact (es_setF (ef_lst el_nil) fun due_593 => (by exact (es_seq (mid := (fun (t_602 : (List (List Str))) => [.dat (enc (p0 : (T3 (Tl (T4 Str Str Int Int)) (Tl (T6 Str Str Str (Tl Int) Int Int)) (Option (Str × Str))))), .own (.lst .dat) (enc (t_602 : (List (List Str)))), .un, .un, .un, .un, .un, .un])) (es_for (inv := (fun (t_602 : (List (List Str))) => [.dat (enc (p0 : (T3 (Tl (T4 Str Str Int Int)) (Tl (T6 Str Str Str (Tl Int) Int Int)) (Option (Str × Str))))), .own (.lst .dat) (enc (t_602 : (List (List Str)))), .un, .un, .un, .un, .un, .un])) (t0 := due_593) (sd1 := fun (t_602 : (List (List Str))) (a_603 : Str) => [.dat (enc (p0 : (T3 (Tl (T4 Str Str Int Int)) (Tl (T6 Str Str Str (Tl Int) Int Int)) (Option (Str × Str))))), .own (.lst .dat) (enc (t_602 : (List (List Str)))), .dat (enc (a_603 : Str)), .un, .un, .un, .un, .un]) (body := (fun (t_602 : (List (List Str))) (a_603 : Str) => ((andThen (Mn.bnd (Mn.bnd (Mn.bnd (Mn.bnd (Mn.bnd (Mn.pur p0) fun x_605 => Mn.bnd (Mn.pur a_603) fun y_606 => Mn.pur (x_605, y_606)) fun p_604 => lift (m__law_come_to p_604.1 p_604.2)) fun x_607 => Mn.bnd (Mn.pur (0 : Int)) fun y_608 => lift (atI x_607 y_608)) fun x_609 => Mn.bnd (Mn.pur a_603) fun y_610 => Mn.pur (decide (x_609 = y_610))) fun b_611 => cnd b_611 (Mn.bnd (Mn.bnd (Mn.bnd (Mn.pur p0) fun x_615 => Mn.bnd (Mn.pur a_603) fun y_616 => Mn.pur (x_615, y_616)) fun p_614 => lift (m__law_come_to p_614.1 p_614.2)) fun e_613 => gd (List.length t_602 < 100000) (Mn.bnd (Mn.pur (t_602 ++ [e_613])) fun zs_617 => (Mn.pur (.nx zs_617)))) (Mn.pur (.nx t_602)) : Option (Fl ((List (List Str))) ((List (List Str))) Bool)) fun t_612 => (Mn.pur (.nx t_612))) : Option (Fl ((List (List Str))) ((List (List Str))) Bool)))) (ei_list (em_ofF (ef_sortS (em_ofF (ef_lc (vs := [7]) (is := [7]) (sd1 := fun (a_597 : (T4 Str Str Int Int)) => [.dat (enc (p0 : (T3 (Tl (T4 Str Str Int Int)) (Tl (T6 Str Str Str (Tl Int) Int Int)) (Option (Str × Str))))), .own (.lst .dat) (enc (due_593 : (List (List Str)))), .un, .un, .un, .un, .un, .dat (enc (a_597 : (T4 Str Str Int Int)))]) (ei_tup (em_fldT (i := 0) (fun (x_595 : (T3 (Tl (T4 Str Str Int Int)) (Tl (T6 Str Str Str (Tl Int) Int Int)) (Option (Str × Str)))) => x_595.a) (em_var rfl) (fun _ => ⟨_, rfl, rfl⟩))) (fun _ => eg_name) (by decide) (fun a_597 => eb_yes) (fun a_597 => (em_fldT (i := 0) (fun (x_598 : (T4 Str Str Int Int)) => x_598.a) (em_var rfl) (fun _ => ⟨_, rfl, rfl⟩))) (fun a_597 => (.same (.same (.same (.same (.same (.same (.same (.un .nil))))))))) (noOwn_by rfl)))))) (.same (.same (.same (.same (.same (.same (.same (.same .nil)))))))) (fun _ _ => eg_name) fun t_602 a_603 => (by exact (es_seq (mid := (fun (t_612 : (List (List Str))) => [.dat (enc (p0 : (T3 (Tl (T4 Str Str Int Int)) (Tl (T6 Str Str Str (Tl Int) Int Int)) (Option (Str × Str))))), .own (.lst .dat) (enc (t_612 : (List (List Str)))), .dat (enc (a_603 : Str)), .un, .un, .un, .un, .un])) (es_if (eb_T (em_op (em_op (em_call (dvs := []) (dds := []) (f := fun p_604 => m__law_come_to p_604.1 p_604.2) (ea_cons (em_var rfl) (ea_1 (em_var rfl))) (fun _ => .nil) (fun _ => rfl) fun b r h => ⟨b.1, b.2, r, rfl, h, rfl⟩) em_int fun _ _ => om_ixL) (em_var rfl) fun _ _ => om_eqS)) (by exact (es_appP (xs := t_602) rfl (em_call (dvs := []) (dds := []) (f := fun p_614 => m__law_come_to p_614.1 p_614.2) (ea_cons (em_var rfl) (ea_1 (em_var rfl))) (fun _ => .nil) (fun _ => rfl) fun b r h => ⟨b.1, b.2, r, rfl, h, rfl⟩) fun zs_617 => (by exact es_next (.same (.same (.same (.same (.same (.same (.same (.same .nil))))))))))) (by exact es_next (.same (.same (.same (.same (.same (.same (.same (.same .nil)))))))))) fun t_612 => (by exact es_next (.same (.same (.un (.same (.same (.same (.same (.same .nil)))))))))))) fun t_602 => (by exact (es_set (em_repr (em_var rfl)) fun kept_618 => (by exact (es_seq (mid := (fun (t_621 : Unit) => [.dat (enc (p0 : (T3 (Tl (T4 Str Str Int Int)) (Tl (T6 Str Str Str (Tl Int) Int Int)) (Option (Str × Str))))), .own (.lst .dat) (enc (t_602 : (List (List Str)))), .un, .dat (enc (kept_618 : Str)), .un, .un, .un, .un])) (es_for (inv := (fun (t_621 : Unit) => [.dat (enc (p0 : (T3 (Tl (T4 Str Str Int Int)) (Tl (T6 Str Str Str (Tl Int) Int Int)) (Option (Str × Str))))), .own (.lst .dat) (enc (t_602 : (List (List Str)))), .un, .dat (enc (kept_618 : Str)), .un, .un, .un, .un])) (t0 := ()) (sd1 := fun (t_621 : Unit) (a_622 : Int) => [.dat (enc (p0 : (T3 (Tl (T4 Str Str Int Int)) (Tl (T6 Str Str Str (Tl Int) Int Int)) (Option (Str × Str))))), .own (.lst .dat) (enc (t_602 : (List (List Str)))), .un, .dat (enc (kept_618 : Str)), .dat (enc (a_622 : Int)), .un, .un, .un]) (body := (fun (t_621 : Unit) (a_622 : Int) => ((Mn.bnd (Mn.bnd (Mn.pur p0) fun p_624 => lift (m_parts_of p_624)) fun found_623 => (andThen (Mn.bnd (Mn.bnd (Mn.bnd (Mn.bnd (Mn.pur found_623) fun i_625 => Mn.pur (kit "list" (enc i_625))) fun b_626 => Mn.pur (!b_626)) fun b_640 => cnd b_640 (Mn.pur true) (Mn.bnd (Mn.bnd (Mn.pur found_623) fun x_627 => Mn.bnd (Mn.pur t_602) fun y_628 => gd (Shp (enc x_627) = true ∧ Shp (enc y_628) = true) (Mn.pur (!deqv (enc x_627) (enc y_628)))) fun b_639 => cnd b_639 (Mn.pur true) (Mn.bnd (Mn.bnd (Mn.bnd (Mn.pur found_623) fun w_636 => gd (List.length w_636 ≤ 100000) (compL (fun (a_634 : (List Str)) => (Mn.pur true)) (fun (a_634 : (List Str)) => (Mn.bnd (Mn.pur a_634) fun i_635 => Mn.pur (kit "list" (enc i_635)))) w_636)) fun u_637 => Mn.pur (List.all u_637 id)) fun b_638 => Mn.pur (!b_638)))) fun b_641 => cnd b_641 (Mn.bnd (Mn.pur false) fun r_643 => Mn.pur (.rt r_643)) (Mn.pur (.nx ())) : Option (Fl (Unit) (Unit) Bool)) fun t_642 => (gd (∀ xs ∈ found_623, List.length xs < 100000) (Mn.bnd (Mn.pur (List.map (fun xs => xs ++ [("more" : Str)]) found_623)) fun found_644 => (gd (List.length found_644 < 100000) (Mn.bnd (Mn.pur (found_644 ++ [[]])) fun zs_646 => (Mn.pur (.nx ())))))))) : Option (Fl (Unit) (Unit) Bool)))) (ei_rng1 (ea_1 em_int)) (.same (.same (.same (.same (.same (.same (.same (.same .nil)))))))) (fun _ _ => eg_name) fun t_621 a_622 => (by exact (es_setF (ef_call (dvs := []) (dds := []) (f := fun p_624 => m_parts_of p_624) (ea_1 (em_var rfl)) (fun _ => .nil) (fun _ => rfl) fun b r h => ⟨b, r, rfl, h, rfl⟩) fun found_623 => (by exact (es_seq (mid := (fun (t_642 : Unit) => [.dat (enc (p0 : (T3 (Tl (T4 Str Str Int Int)) (Tl (T6 Str Str Str (Tl Int) Int Int)) (Option (Str × Str))))), .own (.lst .dat) (enc (t_602 : (List (List Str)))), .un, .dat (enc (kept_618 : Str)), .dat (enc (a_622 : Int)), .own (.lst (.lst .dat)) (enc (found_623 : (List (List Str)))), .un, .un])) (es_if (eb_or (eb_not (eb_B (em_borrow (em_isT (T := "list") (em_var rfl) (by decide +kernel)) (.same rfl (.un (.same rfl (.same rfl (.same rfl (.fz rfl (.same rfl (.same rfl .nil))))))))))) (eb_or (eb_borrow (eb_T (em_op (em_var rfl) (em_var rfl) fun _ _ => om_neD)) (.same rfl (.fz rfl (.same rfl (.same rfl (.same rfl (.fz rfl (.same rfl (.same rfl .nil))))))))) (eb_not (eb_B (em_borrow (em_all (em_ofF (ef_lc (vs := [6]) (is := [6]) (sd1 := fun (a_634 : (List Str)) => [.dat (enc (p0 : (T3 (Tl (T4 Str Str Int Int)) (Tl (T6 Str Str Str (Tl Int) Int Int)) (Option (Str × Str))))), .un, .un, .dat (enc (kept_618 : Str)), .dat (enc (a_622 : Int)), .dat (enc (found_623 : (List (List Str)))), .dat (enc (a_634 : (List Str))), .un]) (ei_list (em_var rfl)) (fun _ => eg_name) (by decide) (fun a_634 => eb_yes) (fun a_634 => (em_isT (T := "list") (em_var rfl) (by decide +kernel))) (fun a_634 => (.same (.same (.same (.same (.same (.same (.un (.same .nil))))))))) (noOwn_by rfl)))) (.same rfl (.un (.same rfl (.same rfl (.same rfl (.fz rfl (.same rfl (.same rfl .nil))))))))))))) (by exact (es_retS em_bl)) (by exact es_next (.same (.same (.same (.same (.same (.same (.same (.same .nil)))))))))) fun t_642 => (by exact (es_forApp (c := found_623) (a := ("more" : Str)) rfl rfl (fun _ => (eh_U em_str (.same rfl (.un (.same rfl (.same rfl (.same rfl (.un (.same rfl (.same rfl .nil)))))))))) fun found_644 => (by exact (es_appNilP (xss := found_644) rfl fun zs_646 => (by exact es_next (.same (.same (.same (.same (.un (.un (.same (.same .nil)))))))))))))))))) fun t_621 => (by exact (es_retS (em_op (em_repr (em_var rfl)) (em_var rfl) fun _ _ => om_eqS)))))))))))
theorem ok__law_step (T : Tx P w K mg) {f : Addr} {fd : FuncData} (F : Fun K "_law_step" "_law_step" s__law_step f fd) : FnG P w K mg base CX0 4 f fd ["_law_cells"] (spP K 1 .dat pr__law_step) := by
  obtain ⟨f__law_beats_right, fd__law_beats_right, F__law_beats_right, mg__law_beats_right, b__law_beats_right⟩ := T.d__law_beats_right
  have G__law_beats_right := ok__law_beats_right (P := P) (w := w) (base := base) T F__law_beats_right
  obtain ⟨f__law_begun, fd__law_begun, F__law_begun, mg__law_begun, b__law_begun⟩ := T.d__law_begun
  have G__law_begun := ok__law_begun (P := P) (w := w) (base := base) T F__law_begun
  obtain ⟨f__law_good, fd__law_good, F__law_good, mg__law_good, b__law_good⟩ := T.d__law_good
  have G__law_good := ok__law_good (P := P) (w := w) (base := base) T F__law_good
  obtain ⟨f__law_overlap, fd__law_overlap, F__law_overlap, mg__law_overlap, b__law_overlap⟩ := T.d__law_overlap
  have G__law_overlap := ok__law_overlap (P := P) (w := w) (base := base) T F__law_overlap
  obtain ⟨f__law_parts_right, fd__law_parts_right, F__law_parts_right, mg__law_parts_right, b__law_parts_right⟩ := T.d__law_parts_right
  have G__law_parts_right := ok__law_parts_right (P := P) (w := w) (base := base) T F__law_parts_right
  obtain ⟨f_is_overlap, fd_is_overlap, F_is_overlap, mg_is_overlap, b_is_overlap⟩ := T.d_is_overlap
  have G_is_overlap := ok_is_overlap (P := P) (w := w) (base := base) T F_is_overlap
  have sc := sc__law_step
  refine okG F sc (fun vs H Q E h => by obtain ⟨_, _, _, _, hl, _⟩ := h; exact hl) (fun cdv A outer s H vs Q E hg hr h => ?_)
  refine ⟨_, (pss_cons (ps_set (i := 1) sc.nd rfl (by first | exact Or.inl rfl | exact Or.inr rfl) (pe_call G__law_begun (hr.mono (by decide)) (by rfl) mg__law_begun F__law_begun.kp b__law_begun .nil pass0 (pa_cons (pv 0) pa_nil))) (pss_cons (ps_set (i := 2) sc.nd rfl (by first | exact Or.inl rfl | exact Or.inr rfl) (pe_call G__law_good (hr.mono (by decide)) (by rfl) mg__law_good F__law_good.kp b__law_good .nil pass0 (pa_cons (pv 1) pa_nil))) (pss_cons (ps_for PassesOwn.never rfl (pi_tup (pe_slice (r := rSlA K) sl_tupA (pe_ix (r := rIxT K) ix_tup (pv 2) pe_int (fun _ _ => rfl)) po_none (po_some pe_int))) (pg_name (i := 3) sc.nd rfl (by first | exact Or.inl rfl | exact Or.inr rfl)) (pss_cons (ps_for PassesOwn.never rfl (pi_tup (pe_slice (r := rSlA K) sl_tupA (pe_ix (r := rIxT K) ix_tup (pv 2) pe_int (fun _ _ => rfl)) po_none (po_some pe_int))) (pg_name (i := 5) sc.nd rfl (by first | exact Or.inl rfl | exact Or.inr rfl)) (pss_cons (ps_if (pt_cmpR (r := rNeD K) (op_neD (room64 hr)) (pe_call G_is_overlap (hr.mono (by decide)) (by rfl) mg_is_overlap F_is_overlap.kp b_is_overlap .nil pass0 (pa_cons (pv 3) (pa_cons (pv 5) pa_nil))) (pe_call G__law_overlap (hr.mono (by decide)) (by rfl) mg__law_overlap F__law_overlap.kp b__law_overlap .nil pass0 (pa_cons (pv 3) (pa_cons (pv 5) pa_nil))) (nomark _)) (pss_cons (ps_ret pe_bl) pss_nil) pss_nil) pss_nil)) pss_nil)) (pss_cons (ps_for PassesOwn.never rfl (pi_range1 rfl T.b_range (pa_cons pe_int pa_nil)) (pg_name (i := 4) sc.nd rfl (by first | exact Or.inl rfl | exact Or.inr rfl)) (pss_cons (ps_if (pt_not (pt_val (pe_call G__law_beats_right (hr.mono (by decide)) (by rfl) mg__law_beats_right F__law_beats_right.kp b__law_beats_right .nil pass0 (pa_cons (pv 1) pa_nil)))) (pss_cons (ps_ret pe_bl) pss_nil) pss_nil) pss_nil)) (pss_cons (ps_ret (pe_and (pe_callG G__law_parts_right hg (hr.mono (by decide)) (by rfl) mg__law_parts_right F__law_parts_right.kp b__law_parts_right .nil pass0 (pa_cons (pv 2) pa_nil)) (pe_one (pe_callG G__law_parts_right hg (hr.mono (by decide)) (by rfl) mg__law_parts_right F__law_parts_right.kp b__law_parts_right .nil pass0 (pa_cons (pe_tup (pa_cons (pe_ix (r := rIxT K) ix_tup (pv 2) pe_int (fun _ _ => rfl)) (pa_cons (pe_ev2 (pe_ix (r := rIxT K) ix_tup (pv 2) pe_int (fun _ _ => rfl))) (pa_cons pe_non pa_nil)))) pa_nil))))) pss_nil))))), ?_⟩
  refine fin_pure0 h fun ds r hp => ?_
  obtain ⟨p0, x, rfl, hm, rfl⟩ := hp
  obtain ⟨k2, hm⟩ := fin0_some hm
  refine ⟨_, inferInstance, mb__law_step p0, x, k2, ?_, hm, rfl⟩
  show EvS0 K _ [.dat (enc (p0 : (List Int))), .un, .un, .un, .un, .un] (mb__law_step p0)
  exact (es_begun (a := p0) (bg := bhF) rfl (by exact (by decide : 1 < 6)) bh_ok fun nm_653 => (by exact (es_set (em_draw (i := 1) (q := (.run (Cells.cells p0) (some nm_653))) (f := fun (p_655 : Unit) => m__law_good (Cells.cells p0) (some nm_653) ) rfl (ea_st rfl ea_nilS) (fun _ => rfl) fun b k r k2 h => ⟨_, _, r, rfl, rfl, h, rfl⟩) fun song_654 => (by exact (es_seq (mid := (fun (t_662 : Unit) => [.dat (enc (p0 : (List Int))), .sr (.run (Cells.cells p0) (some nm_653)), .dat (enc (song_654 : (T3 (Tl (T4 Str Str Int Int)) (Tl (T6 Str Str Str (Tl Int) Int Int)) (Option (Str × Str))))), .un, .un, .un])) (es_for (inv := (fun (t_662 : Unit) => [.dat (enc (p0 : (List Int))), .sr (.run (Cells.cells p0) (some nm_653)), .dat (enc (song_654 : (T3 (Tl (T4 Str Str Int Int)) (Tl (T6 Str Str Str (Tl Int) Int Int)) (Option (Str × Str))))), .un, .un, .un])) (t0 := ()) (sd1 := fun (t_662 : Unit) (a_663 : (T4 Str Str Int Int)) => [.dat (enc (p0 : (List Int))), .sr (.run (Cells.cells p0) (some nm_653)), .dat (enc (song_654 : (T3 (Tl (T4 Str Str Int Int)) (Tl (T6 Str Str Str (Tl Int) Int Int)) (Option (Str × Str))))), .dat (enc (a_663 : (T4 Str Str Int Int))), .un, .un]) (body := (fun (t_662 : Unit) (a_663 : (T4 Str Str Int Int)) => ((andThen (Mn.bnd (Mn.bnd (Mn.bnd (Mn.bnd (Mn.pur song_654) fun x_664 => Mn.pur x_664.a) fun x_666 => Mn.bnd (Mn.pur (none : Option Int)) fun l_667 => Mn.bnd (Mn.bnd (Mn.pur (12 : Int)) fun i_665 => Mn.pur (some i_665)) fun h_668 => Mn.pur (⟨cutL (Tl.l x_666) l_667 h_668⟩ : (Tl (T4 Str Str Int Int)))) fun w_669 => Mn.pur (Tl.l w_669)) fun w_683 => forL (fun (t_670 : Unit) (a_671 : (T4 Str Str Int Int)) => ((andThen (Mn.bnd (Mn.bnd (Mn.bnd (Mn.bnd (Mn.pur a_663) fun x_673 => Mn.bnd (Mn.pur a_671) fun y_674 => Mn.pur (x_673, y_674)) fun p_672 => lift (m_is_overlap p_672.1 p_672.2)) fun x_678 => Mn.bnd (Mn.bnd (Mn.bnd (Mn.pur a_663) fun x_676 => Mn.bnd (Mn.pur a_671) fun y_677 => Mn.pur (x_676, y_677)) fun p_675 => lift (m__law_overlap p_675.1 p_675.2)) fun y_679 => gd (Shp (enc x_678) = true ∧ Shp (enc y_679) = true) (Mn.pur (!deqv (enc x_678) (enc y_679)))) fun b_680 => cnd b_680 (Mn.bnd (Mn.pur false) fun r_682 => Mn.pur (.rt r_682)) (Mn.pur (.nx ())) : Sm (Fl (Unit) (Unit) Bool)) fun t_681 => (Mn.pur (.nx ()))) : Sm (Fl (Unit) (Unit) Bool))) w_683 () : Sm (Fl (Unit) (Unit) Bool)) fun t_670 => (Mn.pur (.nx ()))) : Sm (Fl (Unit) (Unit) Bool)))) (ei_tup (em_sliceT (em_fldT (i := 0) (fun (x_656 : (T3 (Tl (T4 Str Str Int Int)) (Tl (T6 Str Str Str (Tl Int) Int Int)) (Option (Str × Str)))) => x_656.a) (em_var rfl) (fun _ => ⟨_, rfl, rfl⟩)) eo_none (eo_some em_int))) (.same (.same (.same (.same (.same (.same .nil)))))) (fun _ _ => eg_name) fun t_662 a_663 => (by exact (es_seq (mid := (fun (t_670 : Unit) => [.dat (enc (p0 : (List Int))), .sr (.run (Cells.cells p0) (some nm_653)), .dat (enc (song_654 : (T3 (Tl (T4 Str Str Int Int)) (Tl (T6 Str Str Str (Tl Int) Int Int)) (Option (Str × Str))))), .dat (enc (a_663 : (T4 Str Str Int Int))), .un, .un])) (es_for (inv := (fun (t_670 : Unit) => [.dat (enc (p0 : (List Int))), .sr (.run (Cells.cells p0) (some nm_653)), .dat (enc (song_654 : (T3 (Tl (T4 Str Str Int Int)) (Tl (T6 Str Str Str (Tl Int) Int Int)) (Option (Str × Str))))), .dat (enc (a_663 : (T4 Str Str Int Int))), .un, .un])) (t0 := ()) (sd1 := fun (t_670 : Unit) (a_671 : (T4 Str Str Int Int)) => [.dat (enc (p0 : (List Int))), .sr (.run (Cells.cells p0) (some nm_653)), .dat (enc (song_654 : (T3 (Tl (T4 Str Str Int Int)) (Tl (T6 Str Str Str (Tl Int) Int Int)) (Option (Str × Str))))), .dat (enc (a_663 : (T4 Str Str Int Int))), .un, .dat (enc (a_671 : (T4 Str Str Int Int)))]) (body := (fun (t_670 : Unit) (a_671 : (T4 Str Str Int Int)) => ((andThen (Mn.bnd (Mn.bnd (Mn.bnd (Mn.bnd (Mn.pur a_663) fun x_673 => Mn.bnd (Mn.pur a_671) fun y_674 => Mn.pur (x_673, y_674)) fun p_672 => lift (m_is_overlap p_672.1 p_672.2)) fun x_678 => Mn.bnd (Mn.bnd (Mn.bnd (Mn.pur a_663) fun x_676 => Mn.bnd (Mn.pur a_671) fun y_677 => Mn.pur (x_676, y_677)) fun p_675 => lift (m__law_overlap p_675.1 p_675.2)) fun y_679 => gd (Shp (enc x_678) = true ∧ Shp (enc y_679) = true) (Mn.pur (!deqv (enc x_678) (enc y_679)))) fun b_680 => cnd b_680 (Mn.bnd (Mn.pur false) fun r_682 => Mn.pur (.rt r_682)) (Mn.pur (.nx ())) : Sm (Fl (Unit) (Unit) Bool)) fun t_681 => (Mn.pur (.nx ()))) : Sm (Fl (Unit) (Unit) Bool)))) (ei_tup (em_sliceT (em_fldT (i := 0) (fun (x_664 : (T3 (Tl (T4 Str Str Int Int)) (Tl (T6 Str Str Str (Tl Int) Int Int)) (Option (Str × Str)))) => x_664.a) (em_var rfl) (fun _ => ⟨_, rfl, rfl⟩)) eo_none (eo_some em_int))) (.same (.same (.same (.same (.same (.same .nil)))))) (fun _ _ => eg_name) fun t_670 a_671 => (by exact (es_seq (mid := (fun (t_681 : Unit) => [.dat (enc (p0 : (List Int))), .sr (.run (Cells.cells p0) (some nm_653)), .dat (enc (song_654 : (T3 (Tl (T4 Str Str Int Int)) (Tl (T6 Str Str Str (Tl Int) Int Int)) (Option (Str × Str))))), .dat (enc (a_663 : (T4 Str Str Int Int))), .un, .dat (enc (a_671 : (T4 Str Str Int Int)))])) (es_if (eb_T (em_op (em_call (dvs := []) (dds := []) (f := fun p_672 => m_is_overlap p_672.1 p_672.2) (ea_cons (em_var rfl) (ea_1 (em_var rfl))) (fun _ => .nil) (fun _ => rfl) fun b r h => ⟨b.1, b.2, r, rfl, h, rfl⟩) (em_call (dvs := []) (dds := []) (f := fun p_675 => m__law_overlap p_675.1 p_675.2) (ea_cons (em_var rfl) (ea_1 (em_var rfl))) (fun _ => .nil) (fun _ => rfl) fun b r h => ⟨b.1, b.2, r, rfl, h, rfl⟩) fun _ _ => om_neD)) (by exact (es_retS em_bl)) (by exact es_next (.same (.same (.same (.same (.same (.same .nil)))))))) fun t_681 => (by exact es_next (.same (.same (.same (.same (.same (.un .nil)))))))))) fun t_670 => (by exact es_next (.same (.same (.same (.un (.same (.same .nil)))))))))) fun t_662 => (by exact (es_seq (mid := (fun (t_685 : Unit) => [.dat (enc (p0 : (List Int))), .sr (.run (Cells.cells p0) (some nm_653)), .dat (enc (song_654 : (T3 (Tl (T4 Str Str Int Int)) (Tl (T6 Str Str Str (Tl Int) Int Int)) (Option (Str × Str))))), .un, .un, .un])) (es_for (inv := (fun (t_685 : Unit) => [.dat (enc (p0 : (List Int))), .sr (.run (Cells.cells p0) (some nm_653)), .dat (enc (song_654 : (T3 (Tl (T4 Str Str Int Int)) (Tl (T6 Str Str Str (Tl Int) Int Int)) (Option (Str × Str))))), .un, .un, .un])) (t0 := ()) (sd1 := fun (t_685 : Unit) (a_686 : Int) => [.dat (enc (p0 : (List Int))), .sr (.run (Cells.cells p0) (some nm_653)), .dat (enc (song_654 : (T3 (Tl (T4 Str Str Int Int)) (Tl (T6 Str Str Str (Tl Int) Int Int)) (Option (Str × Str))))), .un, .dat (enc (a_686 : Int)), .un]) (body := (fun (t_685 : Unit) (a_686 : Int) => ((andThen (Mn.bnd (Mn.bnd (Mn.bnd (Mn.pur ()) fun (p_687 : Unit) => m__law_beats_right (Cells.cells p0) (some nm_653) ) fun b_688 => Mn.pur (!b_688)) fun b_689 => cnd b_689 (Mn.bnd (Mn.pur false) fun r_691 => Mn.pur (.rt r_691)) (Mn.pur (.nx ())) : Sm (Fl (Unit) (Unit) Bool)) fun t_690 => (Mn.pur (.nx ()))) : Sm (Fl (Unit) (Unit) Bool)))) (ei_rng1 (ea_1 em_int)) (.same (.same (.same (.same (.same (.same .nil)))))) (fun _ _ => eg_name) fun t_685 a_686 => (by exact (es_seq (mid := (fun (t_690 : Unit) => [.dat (enc (p0 : (List Int))), .sr (.run (Cells.cells p0) (some nm_653)), .dat (enc (song_654 : (T3 (Tl (T4 Str Str Int Int)) (Tl (T6 Str Str Str (Tl Int) Int Int)) (Option (Str × Str))))), .un, .dat (enc (a_686 : Int)), .un])) (es_if (eb_not (eb_B (em_draw (i := 1) (q := (.run (Cells.cells p0) (some nm_653))) (f := fun (p_687 : Unit) => m__law_beats_right (Cells.cells p0) (some nm_653) ) rfl (ea_st rfl ea_nilS) (fun _ => rfl) fun b k r k2 h => ⟨_, _, r, rfl, rfl, h, rfl⟩))) (by exact (es_retS em_bl)) (by exact es_next (.same (.same (.same (.same (.same (.same .nil)))))))) fun t_690 => (by exact es_next (.same (.same (.same (.same (.un (.same .nil)))))))))) fun t_685 => (by exact (es_retS (em_and (em_call (dvs := []) (dds := []) (f := fun p_693 => m__law_parts_right p_693) (ea_1 (em_var rfl)) (fun _ => .nil) (fun _ => rfl) fun b r h => ⟨b, r, rfl, h, rfl⟩) (em_call (dvs := []) (dds := []) (f := fun p_694 => m__law_parts_right p_694) (ea_1 (em_tupN (fun t_703 => (⟨t_703.1, t_703.2.1, t_703.2.2⟩ : (T3 (Tl (T4 Str Str Int Int)) (Tl (T6 Str Str Str (Tl Int) Int Int)) (Option (Str × Str))))) (ea_cons (em_fldT (i := 0) (fun (x_695 : (T3 (Tl (T4 Str Str Int Int)) (Tl (T6 Str Str Str (Tl Int) Int Int)) (Option (Str × Str)))) => x_695.a) (em_var rfl) (fun _ => ⟨_, rfl, rfl⟩)) (ea_cons (em_ev2 (em_fldT (i := 1) (fun (x_696 : (T3 (Tl (T4 Str Str Int Int)) (Tl (T6 Str Str Str (Tl Int) Int Int)) (Option (Str × Str)))) => x_696.b) (em_var rfl) (fun _ => ⟨_, rfl, rfl⟩))) (ea_1 (em_as (fun (k_698 : Unit) => (none : (Option (Str × Str)))) (fun _ => rfl) em_non)))) (fun _ => rfl) (n := 3) (fun _ => rfl))) (fun _ => .nil) (fun _ => rfl) fun b r h => ⟨b, r, rfl, h, rfl⟩)))))))))))
theorem ok_law (T : Tx P w K mg) {f : Addr} {fd : FuncData} (F : Fun K "law" "law" s_law f fd) : FnG P w K mg base CX0 5 f fd ["_law_script"] (spP K 1 .dat pr_law) := by
  obtain ⟨f__law_step, fd__law_step, F__law_step, mg__law_step, b__law_step⟩ := T.d__law_step
  have G__law_step := ok__law_step (P := P) (w := w) (base := base) T F__law_step
  obtain ⟨f_parts_of, fd_parts_of, F_parts_of, mg_parts_of, b_parts_of⟩ := T.d_parts_of
  have G_parts_of := ok_parts_of (P := P) (w := w) (base := base) T F_parts_of
  have sc := sc_law
  refine okG F sc (fun vs H Q E h => by obtain ⟨_, _, _, _, hl, _⟩ := h; exact hl) (fun cdv A outer s H vs Q E hg hr h => ?_)
  refine ⟨_, (pss_cons (ps_for PassesOwn.never rfl (pi_range3 rfl T.b_range (pa_cons pe_int (pa_cons (pe_callB (cr_maxU rfl) (by rfl) T.b_max (by decide +kernel) (pa_cons pe_int (pa_cons (pe_callB (r := ON.rLen K) cr_lenU (by rfl) T.b_len (by decide +kernel) (pa_cons (pv 0) pa_nil)) pa_nil))) (pa_cons pe_int pa_nil)))) (pg_name (i := 1) sc.nd rfl (by first | exact Or.inl rfl | exact Or.inr rfl)) (pss_cons (ps_if (pt_not (pt_val (pe_callG G__law_step hg (hr.mono (by decide)) (by rfl) mg__law_step F__law_step.kp b__law_step .nil pass0 (pa_cons (pe_slice (r := rSlL K) sl_list (pv 0) (po_some (pv 1)) (po_some (pe_op op_add (pv 1) pe_int))) pa_nil)))) (pss_cons (ps_ret pe_bl) pss_nil) pss_nil) pss_nil)) (pss_cons (ps_ret (pe_cmpR (r := rEqD K) (op_eqD (room64 hr)) (pe_call G_parts_of (hr.mono (by decide)) (by rfl) mg_parts_of F_parts_of.kp b_parts_of .nil pass0 (pa_cons (pe_tup (pa_cons (pe_tup pa_nil) (pa_cons (pe_tup pa_nil) (pa_cons pe_non pa_nil)))) pa_nil)) (pe_lst pa_nil) (nomark _))) pss_nil)), ?_⟩
  refine fin_pure h fun ds r hp => ?_
  obtain ⟨p0, x, rfl, hm, rfl⟩ := hp
  refine ⟨_, inferInstance, mb_law p0, x, W0, ?_, fin_some hm, rfl⟩
  show EvS K W0 _ [.dat (enc (p0 : Sc)), .un] noEnd noEnd (mb_law p0)
  exact (by exact (es_seq (mid := (fun (t_717 : Unit) => [.dat (enc (p0 : Sc)), .un])) (es_for (inv := (fun (t_717 : Unit) => [.dat (enc (p0 : Sc)), .un])) (t0 := ()) (sd1 := fun (t_717 : Unit) (a_718 : Int) => [.dat (enc (p0 : Sc)), .dat (enc (a_718 : Int))]) (body := (fun (t_717 : Unit) (a_718 : Int) => ((andThen (Mn.bnd (Mn.bnd (Mn.bnd (Mn.bnd (Mn.pur p0) fun x_724 => Mn.bnd (Mn.bnd (Mn.pur a_718) fun i_720 => Mn.pur (some i_720)) fun l_725 => Mn.bnd (Mn.bnd (Mn.bnd (Mn.pur a_718) fun x_721 => Mn.bnd (Mn.pur (12 : Int)) fun y_722 => Mn.pur (x_721 + y_722)) fun i_723 => Mn.pur (some i_723)) fun h_726 => Mn.pur (cutL (Sc.ns x_724) l_725 h_726)) fun p_719 => lift (m__law_step p_719)) fun b_727 => Mn.pur (!b_727)) fun b_728 => cnd b_728 (Mn.bnd (Mn.pur false) fun r_730 => Mn.pur (.rt r_730)) (Mn.pur (.nx ())) : Option (Fl (Unit) (Unit) Bool)) fun t_729 => (Mn.pur (.nx ()))) : Option (Fl (Unit) (Unit) Bool)))) (ei_rng3 (ea_cons em_int (ea_cons (em_max (ea_2 em_int (em_lenSc (em_var rfl)))) (ea_1 em_int)))) (.same (.same .nil)) (fun _ _ => eg_name) fun t_717 a_718 => (by exact (es_seq (mid := (fun (t_729 : Unit) => [.dat (enc (p0 : Sc)), .dat (enc (a_718 : Int))])) (es_if (eb_not (eb_B (em_call (dvs := []) (dds := []) (f := fun p_719 => m__law_step p_719) (ea_1 (em_ofF (ef_sliceSc (em_var rfl) (eo_some (em_var rfl)) (eo_some (em_op (em_var rfl) em_int fun _ _ => om_I0))))) (fun _ => .nil) (fun _ => rfl) fun b r h => ⟨b, r, rfl, h, rfl⟩))) (by exact (es_retS em_bl)) (by exact es_next (.same (.same .nil)))) fun t_729 => (by exact es_next (.same (.un .nil)))))) fun t_717 => (by exact (es_retS (em_op (em_ofF (ef_call (dvs := []) (dds := []) (f := fun p_732 => m_parts_of p_732) (ea_1 (em_tupN (fun t_740 => (⟨t_740.1, t_740.2.1, t_740.2.2⟩ : (T3 (Tl (T4 Str Str Int Int)) (Tl (T6 Str Str Str (Tl Int) Int Int)) (Option (Str × Str))))) (ea_cons (em_tupTl el_nil) (ea_cons (em_tupTl el_nil) (ea_1 (em_as (fun (k_735 : Unit) => (none : (Option (Str × Str)))) (fun _ => rfl) em_non)))) (fun _ => rfl) (n := 3) (fun _ => rfl))) (fun _ => .nil) (fun _ => rfl) fun b r h => ⟨b, r, rfl, h, rfl⟩)) (em_ofF (ef_lst el_nil)) fun _ _ => om_eqD)))))
end
end K11

set_option Elab.async false
set_option linter.all false
set_option maxRecDepth 100000
set_option maxHeartbeats 1000000
namespace K11
open PySem PySem.Spec PyProof.Rows L2 ON
def spLaw (K : PySem.W.Frag) : Sp := fun vs H Q _ => ∃ (a : Addr) (ns : List Int), vs = [.ref a] ∧ SqL K H a (ns.map V.int) ∧ ns.length ≤ 63 ∧ ∀ H2, Q (.bl true) H2
theorem all_mk {l : PySem.W.OpenLaw} {w : World} {K : PySem.W.Frag} {h : Heap} {mg : Str → Option Value} {fa : Addr} (X : K.In h) (G : h.Ns mainGlobals mg) (hfa : mg "law" = some (.ref fa))
    {f0 : Addr} {od0 an0 : Option Addr} {sl0 : Array (Option Value)} {oc0 kV0 dc0 pm0 cd0 ct0 : Value}
    {f1 : Addr} {od1 an1 : Option Addr} {sl1 : Array (Option Value)} {oc1 kV1 dc1 pm1 cd1 ct1 : Value}
    {f2 : Addr} {od2 an2 : Option Addr} {sl2 : Array (Option Value)} {oc2 kV2 dc2 pm2 cd2 ct2 : Value}
    {f3 : Addr} {od3 an3 : Option Addr} {sl3 : Array (Option Value)} {oc3 kV3 dc3 pm3 cd3 ct3 : Value}
    {f4 : Addr} {od4 an4 : Option Addr} {sl4 : Array (Option Value)} {oc4 kV4 dc4 pm4 cd4 ct4 : Value}
    {f5 : Addr} {od5 an5 : Option Addr} {sl5 : Array (Option Value)} {oc5 kV5 dc5 pm5 cd5 ct5 : Value}
    {f6 : Addr} {od6 an6 : Option Addr} {sl6 : Array (Option Value)} {oc6 kV6 dc6 pm6 cd6 ct6 : Value}
    {f7 : Addr} {od7 an7 : Option Addr} {sl7 : Array (Option Value)} {oc7 kV7 dc7 pm7 cd7 ct7 : Value}
    {f8 : Addr} {od8 an8 : Option Addr} {sl8 : Array (Option Value)} {oc8 kV8 dc8 pm8 cd8 ct8 : Value}
    {f9 : Addr} {od9 an9 : Option Addr} {sl9 : Array (Option Value)} {oc9 kV9 dc9 pm9 cd9 ct9 : Value}
    {f10 : Addr} {od10 an10 : Option Addr} {sl10 : Array (Option Value)} {oc10 kV10 dc10 pm10 cd10 ct10 : Value}
    {f11 : Addr} {od11 an11 : Option Addr} {sl11 : Array (Option Value)} {oc11 kV11 dc11 pm11 cd11 ct11 : Value}
    {f12 : Addr} {od12 an12 : Option Addr} {sl12 : Array (Option Value)} {oc12 kV12 dc12 pm12 cd12 ct12 : Value}
    (a0 : PySem.W.nsIn K mainGlobals "is_overlap" = some (some (.ref f0))) (l0 : K.lookup f0 = some ⟨oc0, od0, .func (PySem.W.fnOf "is_overlap" "is_overlap" (defArgs s_is_overlap) (defBody s_is_overlap) (defScope s_is_overlap) .none kV0 dc0 pm0 an0 cd0 ct0), sl0⟩) (c0 : PySem.W.codeIn K cd0 "is_overlap" = true) (k0 : PySem.W.keepIn K (.ref f0) = true)
    (a1 : PySem.W.nsIn K mainGlobals "hanging_together" = some (some (.ref f1))) (l1 : K.lookup f1 = some ⟨oc1, od1, .func (PySem.W.fnOf "hanging_together" "hanging_together" (defArgs s_hanging_together) (defBody s_hanging_together) (defScope s_hanging_together) .none kV1 dc1 pm1 an1 cd1 ct1), sl1⟩) (c1 : PySem.W.codeIn K cd1 "hanging_together" = true) (k1 : PySem.W.keepIn K (.ref f1) = true)
    (a2 : PySem.W.nsIn K mainGlobals "parts_of" = some (some (.ref f2))) (l2 : K.lookup f2 = some ⟨oc2, od2, .func (PySem.W.fnOf "parts_of" "parts_of" (defArgs s_parts_of) (defBody s_parts_of) (defScope s_parts_of) .none kV2 dc2 pm2 an2 cd2 ct2), sl2⟩) (c2 : PySem.W.codeIn K cd2 "parts_of" = true) (k2 : PySem.W.keepIn K (.ref f2) = true)
    (a3 : PySem.W.nsIn K mainGlobals "_law_next" = some (some (.ref f3))) (l3 : K.lookup f3 = some ⟨oc3, od3, .func (PySem.W.fnOf "_law_next" "_law_next" (defArgs s__law_next) (defBody s__law_next) (defScope s__law_next) .none kV3 dc3 pm3 an3 cd3 ct3), sl3⟩) (c3 : PySem.W.codeIn K cd3 "_law_next" = true) (k3 : PySem.W.keepIn K (.ref f3) = true)
    (a4 : PySem.W.nsIn K mainGlobals "_law_begun" = some (some (.ref f4))) (l4 : K.lookup f4 = some ⟨oc4, od4, .func (PySem.W.fnOf "_law_begun" "_law_begun" (defArgs s__law_begun) (defBody s__law_begun) (defScope s__law_begun) .none kV4 dc4 pm4 an4 cd4 ct4), sl4⟩) (c4 : PySem.W.codeIn K cd4 "_law_begun" = true) (k4 : PySem.W.keepIn K (.ref f4) = true)
    (a5 : PySem.W.nsIn K mainGlobals "_law_overlap" = some (some (.ref f5))) (l5 : K.lookup f5 = some ⟨oc5, od5, .func (PySem.W.fnOf "_law_overlap" "_law_overlap" (defArgs s__law_overlap) (defBody s__law_overlap) (defScope s__law_overlap) .none kV5 dc5 pm5 an5 cd5 ct5), sl5⟩) (c5 : PySem.W.codeIn K cd5 "_law_overlap" = true) (k5 : PySem.W.keepIn K (.ref f5) = true)
    (a6 : PySem.W.nsIn K mainGlobals "_law_fitting" = some (some (.ref f6))) (l6 : K.lookup f6 = some ⟨oc6, od6, .func (PySem.W.fnOf "_law_fitting" "_law_fitting" (defArgs s__law_fitting) (defBody s__law_fitting) (defScope s__law_fitting) .none kV6 dc6 pm6 an6 cd6 ct6), sl6⟩) (c6 : PySem.W.codeIn K cd6 "_law_fitting" = true) (k6 : PySem.W.keepIn K (.ref f6) = true)
    (a7 : PySem.W.nsIn K mainGlobals "_law_good" = some (some (.ref f7))) (l7 : K.lookup f7 = some ⟨oc7, od7, .func (PySem.W.fnOf "_law_good" "_law_good" (defArgs s__law_good) (defBody s__law_good) (defScope s__law_good) .none kV7 dc7 pm7 an7 cd7 ct7), sl7⟩) (c7 : PySem.W.codeIn K cd7 "_law_good" = true) (k7 : PySem.W.keepIn K (.ref f7) = true)
    (a8 : PySem.W.nsIn K mainGlobals "_law_come_to" = some (some (.ref f8))) (l8 : K.lookup f8 = some ⟨oc8, od8, .func (PySem.W.fnOf "_law_come_to" "_law_come_to" (defArgs s__law_come_to) (defBody s__law_come_to) (defScope s__law_come_to) .none kV8 dc8 pm8 an8 cd8 ct8), sl8⟩) (c8 : PySem.W.codeIn K cd8 "_law_come_to" = true) (k8 : PySem.W.keepIn K (.ref f8) = true)
    (a9 : PySem.W.nsIn K mainGlobals "_law_beats_right" = some (some (.ref f9))) (l9 : K.lookup f9 = some ⟨oc9, od9, .func (PySem.W.fnOf "_law_beats_right" "_law_beats_right" (defArgs s__law_beats_right) (defBody s__law_beats_right) (defScope s__law_beats_right) .none kV9 dc9 pm9 an9 cd9 ct9), sl9⟩) (c9 : PySem.W.codeIn K cd9 "_law_beats_right" = true) (k9 : PySem.W.keepIn K (.ref f9) = true)
    (a10 : PySem.W.nsIn K mainGlobals "_law_parts_right" = some (some (.ref f10))) (l10 : K.lookup f10 = some ⟨oc10, od10, .func (PySem.W.fnOf "_law_parts_right" "_law_parts_right" (defArgs s__law_parts_right) (defBody s__law_parts_right) (defScope s__law_parts_right) .none kV10 dc10 pm10 an10 cd10 ct10), sl10⟩) (c10 : PySem.W.codeIn K cd10 "_law_parts_right" = true) (k10 : PySem.W.keepIn K (.ref f10) = true)
    (a11 : PySem.W.nsIn K mainGlobals "_law_step" = some (some (.ref f11))) (l11 : K.lookup f11 = some ⟨oc11, od11, .func (PySem.W.fnOf "_law_step" "_law_step" (defArgs s__law_step) (defBody s__law_step) (defScope s__law_step) .none kV11 dc11 pm11 an11 cd11 ct11), sl11⟩) (c11 : PySem.W.codeIn K cd11 "_law_step" = true) (k11 : PySem.W.keepIn K (.ref f11) = true)
    (a12 : PySem.W.nsIn K mainGlobals "law" = some (some (.ref f12))) (l12 : K.lookup f12 = some ⟨oc12, od12, .func (PySem.W.fnOf "law" "law" (defArgs s_law) (defBody s_law) (defScope s_law) .none kV12 dc12 pm12 an12 cd12 ct12), sl12⟩) (c12 : PySem.W.codeIn K cd12 "law" = true) (k12 : PySem.W.keepIn K (.ref f12) = true)
    (z_all : PySem.W.nsIn K mainGlobals "all" = some none)
    (z_bool : PySem.W.nsIn K mainGlobals "bool" = some none)
    (z_dict : PySem.W.nsIn K mainGlobals "dict" = some none)
    (z_int : PySem.W.nsIn K mainGlobals "int" = some none)
    (z_isinstance : PySem.W.nsIn K mainGlobals "isinstance" = some none)
    (z_len : PySem.W.nsIn K mainGlobals "len" = some none)
    (z_list : PySem.W.nsIn K mainGlobals "list" = some none)
    (z_max : PySem.W.nsIn K mainGlobals "max" = some none)
    (z_min : PySem.W.nsIn K mainGlobals "min" = some none)
    (z_range : PySem.W.nsIn K mainGlobals "range" = some none)
    (z_repr : PySem.W.nsIn K mainGlobals "repr" = some none)
    (z_sorted : PySem.W.nsIn K mainGlobals "sorted" = some none)
    (z_tuple : PySem.W.nsIn K mainGlobals "tuple" = some none) :
    ∃ fd : FuncData, (∀ (s : Shared) (v : Value), BindsTo s fd ⟨[v], []⟩ [("_law_script", v)]) ∧ ∀ base : Heap, K.In base → base.Ns mainGlobals mg → FnG l.prog w K mg base CX0 5 fa fd ["_law_script"] (spLaw K) := by
  have e := hfa.symm.trans (PySem.W.mg_of X G a12)
  cases e
  have F0 := fun_mk (st := s_is_overlap) l0 c0 k0
  have B0 := F0.binds (ps := ["one", "other"]) fun _ _ _ _ _ _ us hl => match us, hl with | [_, _], _ => rfl
  have F1 := fun_mk (st := s_hanging_together) l1 c1 k1
  have B1 := F1.binds (ps := ["names", "pairs"]) fun _ _ _ _ _ _ us hl => match us, hl with | [_, _], _ => rfl
  have F2 := fun_mk (st := s_parts_of) l2 c2 k2
  have B2 := F2.binds (ps := ["song"]) fun _ _ _ _ _ _ us hl => match us, hl with | [_], _ => rfl
  have F3 := fun_mk (st := s__law_next) l3 c3 k3
  have B3 := F3.binds (ps := ["_law_state", "_law_many"]) fun _ _ _ _ _ _ us hl => match us, hl with | [_, _], _ => rfl
  have F4 := fun_mk (st := s__law_begun) l4 c4 k4
  have B4 := F4.binds (ps := ["_law_cells"]) fun _ _ _ _ _ _ us hl => match us, hl with | [_], _ => rfl
  have F5 := fun_mk (st := s__law_overlap) l5 c5 k5
  have B5 := F5.binds (ps := ["_law_one", "_law_other"]) fun _ _ _ _ _ _ us hl => match us, hl with | [_, _], _ => rfl
  have F6 := fun_mk (st := s__law_fitting) l6 c6 k6
  have B6 := F6.binds (ps := ["_law_state", "_law_notes"]) fun _ _ _ _ _ _ us hl => match us, hl with | [_, _], _ => rfl
  have F7 := fun_mk (st := s__law_good) l7 c7 k7
  have B7 := F7.binds (ps := ["_law_state"]) fun _ _ _ _ _ _ us hl => match us, hl with | [_], _ => rfl
  have F8 := fun_mk (st := s__law_come_to) l8 c8 k8
  have B8 := F8.binds (ps := ["_law_song", "_law_name"]) fun _ _ _ _ _ _ us hl => match us, hl with | [_, _], _ => rfl
  have F9 := fun_mk (st := s__law_beats_right) l9 c9 k9
  have B9 := F9.binds (ps := ["_law_state"]) fun _ _ _ _ _ _ us hl => match us, hl with | [_], _ => rfl
  have F10 := fun_mk (st := s__law_parts_right) l10 c10 k10
  have B10 := F10.binds (ps := ["_law_song"]) fun _ _ _ _ _ _ us hl => match us, hl with | [_], _ => rfl
  have F11 := fun_mk (st := s__law_step) l11 c11 k11
  have B11 := F11.binds (ps := ["_law_cells"]) fun _ _ _ _ _ _ us hl => match us, hl with | [_], _ => rfl
  have F12 := fun_mk (st := s_law) l12 c12 k12
  have B12 := F12.binds (ps := ["_law_script"]) fun _ _ _ _ _ _ us hl => match us, hl with | [_], _ => rfl
  have T : Tx l.prog w K mg := { d_is_overlap := ⟨_, _, F0, PySem.W.mg_of X G a0, B0⟩, d_hanging_together := ⟨_, _, F1, PySem.W.mg_of X G a1, B1⟩, d_parts_of := ⟨_, _, F2, PySem.W.mg_of X G a2, B2⟩, d__law_next := ⟨_, _, F3, PySem.W.mg_of X G a3, B3⟩, d__law_begun := ⟨_, _, F4, PySem.W.mg_of X G a4, B4⟩, d__law_overlap := ⟨_, _, F5, PySem.W.mg_of X G a5, B5⟩, d__law_fitting := ⟨_, _, F6, PySem.W.mg_of X G a6, B6⟩, d__law_good := ⟨_, _, F7, PySem.W.mg_of X G a7, B7⟩, d__law_come_to := ⟨_, _, F8, PySem.W.mg_of X G a8, B8⟩, d__law_beats_right := ⟨_, _, F9, PySem.W.mg_of X G a9, B9⟩, d__law_parts_right := ⟨_, _, F10, PySem.W.mg_of X G a10, B10⟩, d__law_step := ⟨_, _, F11, PySem.W.mg_of X G a11, B11⟩, d_law := ⟨_, _, F12, PySem.W.mg_of X G a12, B12⟩, b_all := PySem.W.mg_none_of X G z_all, b_bool := PySem.W.mg_none_of X G z_bool, b_dict := PySem.W.mg_none_of X G z_dict, b_int := PySem.W.mg_none_of X G z_int, b_isinstance := PySem.W.mg_none_of X G z_isinstance, b_len := PySem.W.mg_none_of X G z_len, b_list := PySem.W.mg_none_of X G z_list, b_max := PySem.W.mg_none_of X G z_max, b_min := PySem.W.mg_none_of X G z_min, b_range := PySem.W.mg_none_of X G z_range, b_repr := PySem.W.mg_none_of X G z_repr, b_sorted := PySem.W.mg_none_of X G z_sorted, b_tuple := PySem.W.mg_none_of X G z_tuple }
  refine ⟨_, fun s v => .of_eq rfl, fun base _ _ => (ok_law (P := l.prog) (w := w) (base := base) T F12).imp fun vs H Q E hq => ?_⟩
  obtain ⟨a, ns, rfl, hs, hl, q⟩ := hq
  exact ⟨H, _, _, ⟨⟨ns⟩, true, rfl, law_true ⟨ns⟩ hl, rfl⟩, rfl, Gr.refl H, .cons (.scr ns hs) .nil, fun v B2 H2 f _ _ _ _ w _ _ => by obtain ⟨_, r⟩ := w; rw [Rp.bl_inv r]; exact q H2⟩
end K11
open PySem PySem.W PyProof.Rows
set_option maxHeartbeats 0 in
theorem PySem.Challenge.cw_choirtrue_k11_overlaps_and_parts_holds : PySem.Challenge.rw_choirtrue_k11_overlaps_and_parts.Holds := by
  w_on; o_law; k_head; (case hw => w_witness2)
  k_fill
  refine ON.walk_ofG (l := PySem.Challenge.rw_choirtrue_k11_overlaps_and_parts) (n := 63) (k := 5) (x := "_law_script") (CX := fun _ => L2.CX0) (sp := fun w => K11.spLaw _) rfl (by decide) rfl ⟨rfl, by decide, by decide⟩ (fun w h Y => PySem.W.kIn_of Y) ?F (fun _ _ a ns hl _ hS => ⟨a, ns, rfl, hS, hl, fun _ => rfl⟩) (fun _ _ _ _ _ h => h)
  case F =>
    intro w mg fa h KX G hmg
    refine' K11.all_mk KX G hmg ?a0 ?l0 ?c0 ?k0 ?a1 ?l1 ?c1 ?k1 ?a2 ?l2 ?c2 ?k2 ?a3 ?l3 ?c3 ?k3 ?a4 ?l4 ?c4 ?k4 ?a5 ?l5 ?c5 ?k5 ?a6 ?l6 ?c6 ?k6 ?a7 ?l7 ?c7 ?k7 ?a8 ?l8 ?c8 ?k8 ?a9 ?l9 ?c9 ?k9 ?a10 ?l10 ?c10 ?k10 ?a11 ?l11 ?c11 ?k11 ?a12 ?l12 ?c12 ?k12 ?z_all ?z_bool ?z_dict ?z_int ?z_isinstance ?z_len ?z_list ?z_max ?z_min ?z_range ?z_repr ?z_sorted ?z_tuple
    (case a0 => k_is)
    (case l0 => k_is)
    (case c0 => k_is)
    (case k0 => k_is)
    (case a1 => k_is)
    (case l1 => k_is)
    (case c1 => k_is)
    (case k1 => k_is)
    (case a2 => k_is)
    (case l2 => k_is)
    (case c2 => k_is)
    (case k2 => k_is)
    (case a3 => k_is)
    (case l3 => k_is)
    (case c3 => k_is)
    (case k3 => k_is)
    (case a4 => k_is)
    (case l4 => k_is)
    (case c4 => k_is)
    (case k4 => k_is)
    (case a5 => k_is)
    (case l5 => k_is)
    (case c5 => k_is)
    (case k5 => k_is)
    (case a6 => k_is)
    (case l6 => k_is)
    (case c6 => k_is)
    (case k6 => k_is)
    (case a7 => k_is)
    (case l7 => k_is)
    (case c7 => k_is)
    (case k7 => k_is)
    (case a8 => k_is)
    (case l8 => k_is)
    (case c8 => k_is)
    (case k8 => k_is)
    (case a9 => k_is)
    (case l9 => k_is)
    (case c9 => k_is)
    (case k9 => k_is)
    (case a10 => k_is)
    (case l10 => k_is)
    (case c10 => k_is)
    (case k10 => k_is)
    (case a11 => k_is)
    (case l11 => k_is)
    (case c11 => k_is)
    (case k11 => k_is)
    (case a12 => k_is)
    (case l12 => k_is)
    (case c12 => k_is)
    (case k12 => k_is)
    (case z_all => k_is)
    (case z_bool => k_is)
    (case z_dict => k_is)
    (case z_int => k_is)
    (case z_isinstance => k_is)
    (case z_len => k_is)
    (case z_list => k_is)
    (case z_max => k_is)
    (case z_min => k_is)
    (case z_range => k_is)
    (case z_repr => k_is)
    (case z_sorted => k_is)
    (case z_tuple => k_is)

