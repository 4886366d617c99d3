import PyProof.Rows.All
import Wide.All
import OpenK.AllK
import Wide.FinOn
import HandS.ForMost
import HandS.Wide
import HandS.WideMore
import HandS.FStr
import HandS.Zip
import HandS.StrMore
import HandS.IsInst
import HandS.Style
import HandS.Flow
import HandS.RevTup
import HandS.TupAny
import HandS.ForExc
import HandS.ExcField
import HandS.ExcIs
import HandS.DictComp
import HandS.SetKeys
import HandS.Conv
import HandS.Deep
import KE.GoesMore
import KE.GoesZip
import KE.KExcIs
import HandS.ExcOwn
import HandS.WordsExc
import KE.KExcSuper
import KE.KSuper
import HandS.ExcInit
import HandS.Call
import HandS.List
import KE.RegKIsAll
import KE.RegKTryMore
import KE.KExcLine
import HandS.Iter
import HandS.NoneIn
import HandS.FStrTup
import HandS.HeadHook3
import PySem.Challenge.RW_choirtrue_k05_whole_written_and_read
set_option Elab.async false
set_option linter.all false
set_option maxRecDepth 100000
set_option maxHeartbeats 2000000
/-! N1: data, things owned, what holds of a frame. -/
namespace ON
open PySem L2

/-! ### heaps that grow -/
def Gr (B C : Hp) : Prop := ∀ a o, B a = some o → C a = some o
theorem Gr.refl (B : Hp) : Gr B B := fun _ _ h => h
theorem Gr.trans {B C D : Hp} (x : Gr B C) (y : Gr C D) : Gr B D := fun a o h => y a o (x a o h)
theorem Gr.new {B : Hp} {p : Addr} {o : HO} (h : B p = none) : Gr B (upd B p o) := fun a u e => by
  rw [upd_ne (ne_of_none e h)]; exact e
theorem Gr.mut {B C : Hp} {p : Addr} {o : HO} (g : Gr B C) (h : B p = none) : Gr B (upd C p o) := fun a u e => by
  rw [upd_ne (ne_of_none e h)]; exact g a u e
theorem Gr.back {B C : Hp} {p : Addr} (g : Gr B C) (h : C p = none) : B p = none := by
  cases e : B p with
  | none => rfl
  | some o => rw [g p o e] at h; cases h
theorem Gr.rd {B C : Hp} {a : Addr} {u : HO} (g : Gr B C) (h : Rd B a u) : Rd C a u := by
  rcases h with h | ⟨o, h⟩
  · exact .inl (g a _ h)
  · exact .inr ⟨o, g a _ h⟩
theorem Gr.sqL {K : PySem.W.Frag} {B C : Hp} {a : Addr} {xs : List V} (g : Gr B C) (h : SqL K B a xs) : SqL K C a xs := by
  rcases h with h | h
  · exact .inl (g.rd h)
  · exact .inr h
theorem Gr.sqT {K : PySem.W.Frag} {B C : Hp} {a : Addr} {xs : List V} (g : Gr B C) (h : SqT K B a xs) : SqT K C a xs := by
  rcases h with h | h
  · exact .inl (g.rd h)
  · exact .inr h

/-! ### data -/
inductive D where
  | non
  | bl (b : Bool)
  | int (i : Int)
  | str (s : Str)
  | lst (ds : List D)
  | tup (ds : List D)
  | dic (ks : List Key) (ds : List D)
  /-- the script -/
  | scr (ns : List Int)
  /-- an error that is kept: its class, its fields -/
  | err (c : Str) (ns : List Str) (ds : List D)
/-- an error kept: its class and its own dict -/
def XO (cls : Value) (d : Option Addr) (a : Addr) : HO := .ext fun h => ∃ oe vs, h.get? a = some oe ∧ Zc cls d oe ∧ oe.data = .fields vs
mutual
/-- the value stands for the data -/
inductive Rp (K : PySem.W.Frag) (B : Hp) : V → D → Prop
  | non : Rp K B .non .non
  | bl (b : Bool) : Rp K B (.bl b) (.bl b)
  | int (i : Int) : Rp K B (.int i) (.int i)
  | str (x : Str) : Rp K B (.str x) (.str x)
  | lst {a : Addr} {xs : List V} {ds : List D} (h : B a = some (.lst xs)) (hs : Rps K B xs ds) : Rp K B (.ref a) (.lst ds)
  | tup {a : Addr} {xs : List V} {ds : List D} (h : SqT K B a xs) (hs : Rps K B xs ds) : Rp K B (.ref a) (.tup ds)
  | dic {a : Addr} {o : Obj} {ks : List Key} {vs : List V} {ds : List D} (hl : ks.length = vs.length) (h : B a = some (.frz o (.dK (ks.zip vs)))) (hs : Rps K B vs ds) : Rp K B (.ref a) (.dic ks ds)
  | scr {a : Addr} (ns : List Int) (h : SqL K B a (ns.map V.int)) : Rp K B (.ref a) (.scr ns)
  | err {a C : Addr} {c : Str} (hc : PySem.W.nsIn K mainGlobals c = some (some (.ref C))) (h : B a = some (XO (.ref C) none a)) : Rp K B (.ref a) (.err c [] [])
  | erf {a C dd : Addr} {c n : Str} {v : V} {d : D} (hc : PySem.W.nsIn K mainGlobals c = some (some (.ref C))) (h : B a = some (XO (.ref C) (some dd) a)) (h2 : B dd = some (.xd [(n, v)])) (hv : Rp K B v d) : Rp K B (.ref a) (.err c [n] [d])
inductive Rps (K : PySem.W.Frag) (B : Hp) : List V → List D → Prop
  | nil : Rps K B [] []
  | cons {v : V} {vs : List V} {d : D} {ds : List D} (h : Rp K B v d) (hs : Rps K B vs ds) : Rps K B (v :: vs) (d :: ds)
end
mutual
theorem Rp.gr {K : PySem.W.Frag} {B C : Hp} (g : Gr B C) : ∀ {d : D} {v : V}, Rp K B v d → Rp K C v d
  | _, _, .non => .non
  | _, _, .bl b => .bl b
  | _, _, .int i => .int i
  | _, _, .str x => .str x
  | _, _, .lst h hs => .lst (g _ _ h) (Rps.gr g hs)
  | _, _, .tup h hs => .tup (g.sqT h) (Rps.gr g hs)
  | _, _, .dic hl h hs => .dic hl (g _ _ h) (Rps.gr g hs)
  | _, _, .scr ns h => .scr ns (g.sqL h)
  | _, _, .err hc h => .err hc (g _ _ h)
  | _, _, .erf hc h h2 hv => .erf hc (g _ _ h) (g _ _ h2) (Rp.gr g hv)
theorem Rps.gr {K : PySem.W.Frag} {B C : Hp} (g : Gr B C) : ∀ {ds : List D} {vs : List V}, Rps K B vs ds → Rps K C vs ds
  | _, _, .nil => .nil
  | _, _, .cons h hs => .cons (Rp.gr g h) (Rps.gr g hs)
end
mutual
/-- data as the library's data; what is plain -/
def D.py : D → PyData
  | .non => .none
  | .bl b => .bool b
  | .int i => .int i
  | .str s => .str s
  | .lst ds => .list (D.pys ds)
  | .tup ds => .tuple (D.pys ds)
  | .dic _ _ => .none
  | .scr _ => .none
  | .err _ _ _ => .none
def D.pys : List D → List PyData
  | [] => []
  | d :: ds => D.py d :: D.pys ds
end
mutual
def D.pl : D → Bool
  | .non => true
  | .bl _ => true
  | .int _ => true
  | .str _ => true
  | .lst ds => D.pls ds
  | .tup ds => D.pls ds
  | .dic _ _ => false
  | .scr _ => false
  | .err _ _ _ => false
def D.pls : List D → Bool
  | [] => true
  | d :: ds => D.pl d && D.pls ds
end
mutual
theorem Rp.dp {K : PySem.W.Frag} {B : Hp} : ∀ {d : D} {v : V}, d.pl = true → Rp K B v d → Dp K B v d.py
  | .non, _, _, h => by cases h; exact .non
  | .bl _, _, _, h => by cases h; exact .bl _
  | .int _, _, _, h => by cases h; exact .int _
  | .str _, _, _, h => by cases h; exact .str _
  | .lst ds, _, n, h => by
    rw [D.pl] at n; rw [D.py]
    cases h with | lst h hs => exact .lst (SqL.of h) (Rps.dp n hs)
  | .tup ds, _, n, h => by
    rw [D.pl] at n; rw [D.py]
    cases h with | tup h hs => exact .tup h (Rps.dp n hs)
  | .dic _ _, _, n, _ => by rw [D.pl] at n; cases n
  | .scr _, _, n, _ => by rw [D.pl] at n; cases n
  | .err _ _ _, _, n, _ => by rw [D.pl] at n; cases n
theorem Rps.dp {K : PySem.W.Frag} {B : Hp} : ∀ {ds : List D} {vs : List V}, D.pls ds = true → Rps K B vs ds → DpAll K B vs (D.pys ds)
  | [], _, _, h => by cases h; exact .nil
  | d :: ds, _, n, h => by
    rw [D.pls, Bool.and_eq_true] at n
    rw [D.pys]
    cases h with | cons h hs => exact .cons (Rp.dp n.1 h) (Rps.dp n.2 hs)
end
section
variable {K : PySem.W.Frag} {B : Hp}
theorem Rps.len {vs : List V} {ds : List D} (h : Rps K B vs ds) : vs.length = ds.length := by
  induction ds generalizing vs with
  | nil => cases h; rfl
  | cons d ds ih => cases h with | cons h hs => rw [List.length_cons, List.length_cons, ih hs]
theorem Rps.get : ∀ {vs : List V} {ds : List D} {i : Nat} {d : D}, Rps K B vs ds → ds[i]? = some d → ∃ v, vs[i]? = some v ∧ Rp K B v d
  | _, _, _, _, .nil, e => by simp at e
  | _, _, 0, _, .cons h _, e => by cases Option.some.inj e; exact ⟨_, rfl, h⟩
  | _, _, i + 1, _, .cons _ hs, e => Rps.get (i := i) hs e
theorem Rps.app : ∀ {vs ws : List V} {ds es : List D}, Rps K B vs ds → Rps K B ws es → Rps K B (vs ++ ws) (ds ++ es)
  | _, _, _, _, .nil, h => h
  | _, _, _, _, .cons h hs, g => .cons h (Rps.app hs g)
theorem Rps.take : ∀ {vs : List V} {ds : List D} (n : Nat), Rps K B vs ds → Rps K B (vs.take n) (ds.take n)
  | _, _, 0, _ => .nil
  | _, _, _ + 1, .nil => .nil
  | _, _, n + 1, .cons h hs => .cons h (Rps.take n hs)
theorem Rps.drop : ∀ {vs : List V} {ds : List D} (n : Nat), Rps K B vs ds → Rps K B (vs.drop n) (ds.drop n)
  | _, _, 0, h => h
  | _, _, _ + 1, .nil => .nil
  | _, _, n + 1, .cons _ hs => Rps.drop n hs
theorem Rps.set : ∀ {vs : List V} {ds : List D} (n : Nat) {v : V} {d : D}, Rps K B vs ds → Rp K B v d → Rps K B (vs.set n v) (ds.set n d)
  | _, _, _, _, _, .nil, _ => .nil
  | _, _, 0, _, _, .cons _ hs, g => .cons g hs
  | _, _, n + 1, _, _, .cons h hs, g => .cons h (Rps.set n hs g)
theorem Rps.rev {vs : List V} {ds : List D} (h : Rps K B vs ds) : Rps K B vs.reverse ds.reverse := by
  induction ds generalizing vs with
  | nil => cases h; exact .nil
  | cons d ds ih => cases h with | cons h hs => rw [List.reverse_cons, List.reverse_cons]; exact (ih hs).app (.cons h .nil)
theorem Rp.int_inv {v : V} {i : Int} (h : Rp K B v (.int i)) : v = .int i := by cases h; rfl
theorem Rp.bl_inv {v : V} {b : Bool} (h : Rp K B v (.bl b)) : v = .bl b := by cases h; rfl
theorem Rp.str_inv {v : V} {x : Str} (h : Rp K B v (.str x)) : v = .str x := by cases h; rfl
theorem Rp.non_inv {v : V} (h : Rp K B v .non) : v = .non := by cases h; rfl
theorem Rp.lst_inv {v : V} {ds : List D} (h : Rp K B v (.lst ds)) : ∃ a xs, v = .ref a ∧ B a = some (.lst xs) ∧ Rps K B xs ds := by
  cases h with | lst h hs => exact ⟨_, _, rfl, h, hs⟩
theorem Rp.tup_inv {v : V} {ds : List D} (h : Rp K B v (.tup ds)) : ∃ a xs, v = .ref a ∧ SqT K B a xs ∧ Rps K B xs ds := by
  cases h with | tup h hs => exact ⟨_, _, rfl, h, hs⟩
theorem Rp.dic_inv {v : V} {ks : List Key} {ds : List D} (h : Rp K B v (.dic ks ds)) : ∃ a o vs, v = .ref a ∧ ks.length = vs.length ∧ B a = some (.frz o (.dK (ks.zip vs))) ∧ Rps K B vs ds := by
  cases h with | dic hl h hs => exact ⟨_, _, _, rfl, hl, h, hs⟩
theorem Rp.scr_inv {v : V} {ns : List Int} (h : Rp K B v (.scr ns)) : ∃ a, v = .ref a ∧ SqL K B a (ns.map V.int) := by
  cases h with | scr _ h => exact ⟨_, rfl, h⟩
/-- ints, texts, truths need no heap -/
theorem Rps.ints : ∀ {xs : List V} {ns : List Int}, Rps K B xs (ns.map .int) → xs = ns.map V.int
  | _, [], h => by cases h; rfl
  | _, n :: ns, h => by
    cases h with | cons h hs => rw [h.int_inv, Rps.ints hs]; rfl
theorem Rps.ofInts : ∀ (ns : List Int), Rps K B (ns.map V.int) (ns.map .int)
  | [] => .nil
  | n :: ns => .cons (.int n) (Rps.ofInts ns)
theorem Rps.strs : ∀ {xs : List V} {ns : List Str}, Rps K B xs (ns.map .str) → xs = ns.map V.str
  | _, [], h => by cases h; rfl
  | _, n :: ns, h => by
    cases h with | cons h hs => rw [h.str_inv, Rps.strs hs]; rfl
theorem Rps.ofStrs : ∀ (ns : List Str), Rps K B (ns.map V.str) (ns.map .str)
  | [] => .nil
  | n :: ns => .cons (.str n) (Rps.ofStrs ns)
theorem Rps.bls : ∀ {xs : List V} {ns : List Bool}, Rps K B xs (ns.map .bl) → xs = ns.map V.bl
  | _, [], h => by cases h; rfl
  | _, n :: ns, h => by
    cases h with | cons h hs => rw [h.bl_inv, Rps.bls hs]; rfl
end

/-! ### values of Lean as data -/
class Enc (α : Type) where
  enc : α → D
abbrev enc {α : Type} [Enc α] (a : α) : D := Enc.enc a
instance : Enc Unit := ⟨fun _ => .non⟩
instance : Enc Bool := ⟨.bl⟩
instance : Enc Int := ⟨.int⟩
instance : Enc Str := ⟨.str⟩
instance : Enc D := ⟨id⟩
instance {α : Type} [Enc α] : Enc (List α) := ⟨fun xs => .lst (xs.map enc)⟩
instance {α : Type} [Enc α] : Enc (Option α) := ⟨fun o => match o with | some a => enc a | none => .non⟩
instance {α β : Type} [Enc α] [Enc β] : Enc (α ⊕ β) := ⟨fun o => match o with | .inl a => enc a | .inr b => enc b⟩
/-- the script -/
structure Sc where
  ns : List Int
instance : Enc Sc := ⟨fun s => .scr s.ns⟩
/-- an error: its class's name, its field's name and data -/
structure Er where
  c : Str
  f : Option (Str × D)
instance : Enc Er := ⟨fun e => match e.f with | none => .err e.c [] [] | some p => .err e.c [p.1] [p.2]⟩
/-- dicts -/
structure Dc (κ α : Type) where
  l : List (κ × α)
  deriving DecidableEq
class IsKey (κ : Type) where
  key : κ → Key
  val : κ → D
  dec : DecidableEq κ
  inj : ∀ a b, key a = key b → a = b
  rp : ∀ K B v a, Rp K B v (val a) ↔ v = kV (key a)
instance : IsKey Int := ⟨.inl, .int, inferInstance, fun _ _ e => Sum.inl.inj e, fun K B v a => ⟨fun h => h.int_inv, fun h => by subst h; exact .int a⟩⟩
instance : IsKey Str := ⟨.inr, .str, inferInstance, fun _ _ e => Sum.inr.inj e, fun K B v a => ⟨fun h => h.str_inv, fun h => by subst h; exact .str a⟩⟩
instance {κ α : Type} [IsKey κ] [Enc α] : Enc (Dc κ α) := ⟨fun d => .dic (d.l.map fun p => IsKey.key p.1) (d.l.map fun p => enc p.2)⟩
/-- a tuple of any length -/
structure Tl (α : Type) where
  l : List α
  deriving DecidableEq
instance {α : Type} [Enc α] : Enc (Tl α) := ⟨fun t => .tup (t.l.map enc)⟩
structure T1 (α : Type) where
  (a : α)
  deriving DecidableEq
instance {α : Type} [Enc α] : Enc (T1 α) := ⟨fun t => .tup [enc t.a]⟩
instance {α β : Type} [Enc α] [Enc β] : Enc (α × β) := ⟨fun t => .tup [enc t.1, enc t.2]⟩
structure T3 (α β γ : Type) where
  (a : α) (b : β) (c : γ)
  deriving DecidableEq
instance {α β γ : Type} [Enc α] [Enc β] [Enc γ] : Enc (T3 α β γ) := ⟨fun t => .tup [enc t.a, enc t.b, enc t.c]⟩
structure T4 (α β γ δ : Type) where
  (a : α) (b : β) (c : γ) (d : δ)
  deriving DecidableEq
instance {α β γ δ : Type} [Enc α] [Enc β] [Enc γ] [Enc δ] : Enc (T4 α β γ δ) := ⟨fun t => .tup [enc t.a, enc t.b, enc t.c, enc t.d]⟩
structure T5 (α β γ δ ε : Type) where
  (a : α) (b : β) (c : γ) (d : δ) (e : ε)
  deriving DecidableEq
instance {α β γ δ ε : Type} [Enc α] [Enc β] [Enc γ] [Enc δ] [Enc ε] : Enc (T5 α β γ δ ε) := ⟨fun t => .tup [enc t.a, enc t.b, enc t.c, enc t.d, enc t.e]⟩
structure T6 (α β γ δ ε ζ : Type) where
  (a : α) (b : β) (c : γ) (d : δ) (e : ε) (f : ζ)
  deriving DecidableEq
instance {α β γ δ ε ζ : Type} [Enc α] [Enc β] [Enc γ] [Enc δ] [Enc ε] [Enc ζ] : Enc (T6 α β γ δ ε ζ) := ⟨fun t => .tup [enc t.a, enc t.b, enc t.c, enc t.d, enc t.e, enc t.f]⟩

/-- an error under way -/
def ErOk (K : PySem.W.Frag) (B : Hp) (cls : Value) (d : Option Addr) (e : Er) : Prop :=
  ∃ C, PySem.W.nsIn K mainGlobals e.c = some (some (.ref C)) ∧ cls = .ref C ∧ match e.f with
    | none => d = none
    | some p => ∃ (dd : Addr) (v : V), d = some dd ∧ B dd = some (.xd [(p.1, v)]) ∧ Rp K B v p.2
theorem ErOk.gr {K : PySem.W.Frag} {B C : Hp} {cls : Value} {d : Option Addr} {e : Er} (g : Gr B C) (h : ErOk K B cls d e) : ErOk K C cls d e := by
  obtain ⟨A, h1, h2, h3⟩ := h
  refine ⟨A, h1, h2, ?_⟩
  obtain ⟨c, f⟩ := e
  cases f with
  | none => exact h3
  | some p => obtain ⟨dd, v, q1, q2, q3⟩ := h3; exact ⟨dd, v, q1, g _ _ q2, q3.gr g⟩
/-- .. kept at a -/
theorem ErOk.kept {K : PySem.W.Frag} {B : Hp} {cls : Value} {d : Option Addr} {e : Er} {a : Addr} (h : ErOk K B cls d e) (ha : B a = some (XO cls d a)) : Rp K B (.ref a) (enc e) := by
  obtain ⟨A, h1, rfl, h3⟩ := h
  obtain ⟨c, f⟩ := e
  cases f with
  | none => obtain rfl : d = none := h3; exact .err h1 ha
  | some p => obtain ⟨dd, v, rfl, q2, q3⟩ := h3; exact .erf h1 ha q2 q3

/-! ### things owned -/
inductive Sh where
  | dat
  | lst (s : Sh)
  | dic (s : Sh)
  /-- this, or data that is no list and no dict -/
  | opt (s : Sh)
/-- data that is no list and no dict -/
def D.sc : D → Bool
  | .lst _ => false
  | .dic _ _ => false
  | _ => true
def Ows (R : V → D → List Addr → Prop) : List V → List D → List Addr → Prop
  | [], [], f => f = []
  | v :: vs, d :: ds, f => ∃ f1 f2, f = f1 ++ f2 ∧ R v d f1 ∧ Ows R vs ds f2
  | _, _, _ => False
def Ow (K : PySem.W.Frag) (B H : Hp) : Sh → V → D → List Addr → Prop
  | .dat, v, d, f => f = [] ∧ Rp K B v d
  | .lst s, v, d, f => ∃ a xs ds g, v = .ref a ∧ d = .lst ds ∧ f = a :: g ∧ H a = some (.lst xs) ∧ Ows (Ow K B H s) xs ds g
  | .dic s, v, d, f => ∃ a ks vs ds g, v = .ref a ∧ d = .dic ks ds ∧ f = a :: g ∧ ks.length = vs.length ∧ H a = some (.dK (ks.zip vs)) ∧ Ows (Ow K B H s) vs ds g
  | .opt s, v, d, f => (f = [] ∧ d.sc = true ∧ Rp K B v d) ∨ Ow K B H s v d f
section
variable {K : PySem.W.Frag} {B H B' H' : Hp}
theorem Ows.imp {R S : V → D → List Addr → Prop} : ∀ {vs : List V} {ds : List D} {f : List Addr}, (∀ v d g, (∀ a ∈ g, a ∈ f) → R v d g → S v d g) → Ows R vs ds f → Ows S vs ds f
  | [], [], _, _, h => h
  | _ :: _, _ :: _, _, i, ⟨f1, f2, e, h1, h2⟩ => ⟨f1, f2, e, i _ _ _ (fun a m => by rw [e]; exact List.mem_append_left _ m) h1, Ows.imp (fun v d g hg => i v d g fun a m => by rw [e]; exact List.mem_append_right _ (hg a m)) h2⟩
  | [], _ :: _, _, _, h => h
  | _ :: _, [], _, _, h => h
theorem Ows.len {R : V → D → List Addr → Prop} : ∀ {vs : List V} {ds : List D} {f : List Addr}, Ows R vs ds f → vs.length = ds.length
  | [], [], _, _ => rfl
  | _ :: _, _ :: _, _, ⟨_, _, _, _, h⟩ => by rw [List.length_cons, List.length_cons, Ows.len h]
  | [], _ :: _, _, h => h.elim
  | _ :: _, [], _, h => h.elim
theorem Ow.frame (g : Gr B B') : ∀ {s : Sh} {v : V} {d : D} {f : List Addr}, (∀ a ∈ f, H' a = H a) → Ow K B H s v d f → Ow K B' H' s v d f
  | .dat, _, _, _, _, ⟨e, r⟩ => ⟨e, r.gr g⟩
  | .lst s, _, _, _, k, ⟨a, xs, ds, f, e1, e2, e3, e4, h⟩ => ⟨a, xs, ds, f, e1, e2, e3, by rw [k a (by rw [e3]; exact List.mem_cons_self)]; exact e4, Ows.imp (fun v d u hu r => Ow.frame g (fun b m => k b (by rw [e3]; exact List.mem_cons_of_mem _ (hu b m))) r) h⟩
  | .dic s, _, _, _, k, ⟨a, ks, vs, ds, f, e1, e2, e3, el, e4, h⟩ => ⟨a, ks, vs, ds, f, e1, e2, e3, el, by rw [k a (by rw [e3]; exact List.mem_cons_self)]; exact e4, Ows.imp (fun v d u hu r => Ow.frame g (fun b m => k b (by rw [e3]; exact List.mem_cons_of_mem _ (hu b m))) r) h⟩
  | .opt s, _, _, _, k, h => h.elim (fun h => .inl ⟨h.1, h.2.1, h.2.2.gr g⟩) fun h => .inr (Ow.frame g k h)
theorem Ows.some {R : V → D → List Addr → Prop} {P : Addr → Prop} (hR : ∀ v d f, R v d f → ∀ a ∈ f, P a) : ∀ {vs : List V} {ds : List D} {f : List Addr}, Ows R vs ds f → ∀ a ∈ f, P a
  | [], [], _, h, a, m => by rw [show _ = [] from h] at m; cases m
  | _ :: _, _ :: _, _, ⟨f1, f2, e, h1, h2⟩, a, m => by
    rw [e] at m
    rcases List.mem_append.mp m with m | m
    · exact hR _ _ _ h1 a m
    · exact Ows.some hR h2 a m
  | [], _ :: _, _, h, _, _ => h.elim
  | _ :: _, [], _, h, _, _ => h.elim
theorem Ow.some : ∀ {s : Sh} {v : V} {d : D} {f : List Addr}, Ow K B H s v d f → ∀ a ∈ f, H a ≠ none
  | .dat, _, _, _, ⟨e, _⟩, a, m => by rw [e] at m; cases m
  | .lst s, _, _, _, ⟨b, xs, ds, f, _, _, e, e4, h⟩, a, m => by
    rw [e] at m
    rcases List.mem_cons.mp m with rfl | m
    · rw [e4]; exact fun z => nomatch z
    · exact Ows.some (fun _ _ _ r => Ow.some r) h a m
  | .dic s, _, _, _, ⟨b, ks, vs, ds, f, _, _, e, _, e4, h⟩, a, m => by
    rw [e] at m
    rcases List.mem_cons.mp m with rfl | m
    · rw [e4]; exact fun z => nomatch z
    · exact Ows.some (fun _ _ _ r => Ow.some r) h a m
  | .opt s, _, _, _, h, a, m => h.elim (fun h => by rw [h.1] at m; cases m) fun h => Ow.some (s := s) h a m
/-- a list of data -/
theorem ows_dat : ∀ {vs : List V} {ds : List D} {f : List Addr}, Ows (Ow K B H .dat) vs ds f ↔ f = [] ∧ Rps K B vs ds
  | [], [], f => ⟨fun h => ⟨h, .nil⟩, fun h => h.1⟩
  | v :: vs, d :: ds, f => ⟨fun ⟨f1, f2, e, h1, h2⟩ => by
      obtain ⟨e1, r⟩ := h1
      obtain ⟨e2, rs⟩ := ows_dat.mp h2
      exact ⟨by rw [e, e1, e2]; rfl, .cons r rs⟩, fun ⟨e, h⟩ => by
      cases h with | cons h hs => exact ⟨[], [], e, ⟨rfl, h⟩, ows_dat.mpr ⟨rfl, hs⟩⟩⟩
  | [], _ :: _, _ => ⟨fun h => h.elim, fun h => nomatch h.2⟩
  | _ :: _, [], _ => ⟨fun h => h.elim, fun h => nomatch h.2⟩
theorem ow_lstd {v : V} {d : D} {f : List Addr} : Ow K B H (.lst .dat) v d f ↔ ∃ a xs ds, v = .ref a ∧ d = .lst ds ∧ f = [a] ∧ H a = some (.lst xs) ∧ Rps K B xs ds := by
  constructor
  · rintro ⟨a, xs, ds, g, e1, e2, e3, e4, h⟩
    obtain ⟨rfl, rs⟩ := ows_dat.mp h
    exact ⟨a, xs, ds, e1, e2, e3, e4, rs⟩
  · rintro ⟨a, xs, ds, e1, e2, e3, e4, rs⟩
    exact ⟨a, xs, ds, [], e1, e2, e3, e4, ows_dat.mpr ⟨rfl, rs⟩⟩
theorem ow_dicd {v : V} {d : D} {f : List Addr} : Ow K B H (.dic .dat) v d f ↔ ∃ a ks vs ds, v = .ref a ∧ d = .dic ks ds ∧ f = [a] ∧ ks.length = vs.length ∧ H a = some (.dK (ks.zip vs)) ∧ Rps K B vs ds := by
  constructor
  · rintro ⟨a, ks, vs, ds, g, e1, e2, e3, el, e4, h⟩
    obtain ⟨rfl, rs⟩ := ows_dat.mp h
    exact ⟨a, ks, vs, ds, e1, e2, e3, el, e4, rs⟩
  · rintro ⟨a, ks, vs, ds, e1, e2, e3, el, e4, rs⟩
    exact ⟨a, ks, vs, ds, [], e1, e2, e3, el, e4, ows_dat.mpr ⟨rfl, rs⟩⟩
/-- no dict in it: what may become data as it stands -/
def Sh.nd : Sh → Bool
  | .dat => true
  | .lst s => s.nd
  | .dic _ => false
  | .opt s => s.nd
def frzB (B H : Hp) (f : List Addr) : Hp := fun a => if a ∈ f then H a else B a
theorem frzB_gr {f : List Addr} (h : ∀ a ∈ f, B a = none) : Gr B (frzB B H f) := fun a o e => by
  unfold frzB
  rw [if_neg (fun m => by rw [h a m] at e; cases e)]; exact e
theorem Ows.rps {R : V → D → List Addr → Prop} {f0 : List Addr} {C : Hp} (hR : ∀ v d f, (∀ a ∈ f, a ∈ f0) → R v d f → Rp K C v d) : ∀ {vs : List V} {ds : List D} {f : List Addr}, (∀ a ∈ f, a ∈ f0) → Ows R vs ds f → Rps K C vs ds
  | [], [], _, _, _ => .nil
  | _ :: _, _ :: _, _, i, ⟨f1, f2, e, h1, h2⟩ => .cons (hR _ _ _ (fun a m => i a (by rw [e]; exact List.mem_append_left _ m)) h1) (Ows.rps hR (fun a m => i a (by rw [e]; exact List.mem_append_right _ m)) h2)
  | [], _ :: _, _, _, h => h.elim
  | _ :: _, [], _, _, h => h.elim
theorem Ow.rp {f0 : List Addr} (h0 : ∀ a ∈ f0, B a = none) : ∀ {s : Sh} {v : V} {d : D} {f : List Addr}, s.nd = true → (∀ a ∈ f, a ∈ f0) → Ow K B H s v d f → Rp K (frzB B H f0) v d
  | .dat, _, _, _, _, _, ⟨_, r⟩ => r.gr (frzB_gr h0)
  | .lst s, _, _, _, n, i, ⟨a, xs, ds, f, e1, e2, e3, e4, h⟩ => by
    subst e1; subst e2
    refine .lst (xs := xs) ?_ (Ows.rps (f0 := f0) (fun v d u hu r => Ow.rp (s := s) h0 n hu r) (fun b m => i b (by rw [e3]; exact List.mem_cons_of_mem _ m)) h)
    unfold frzB
    rw [if_pos (i a (by rw [e3]; exact List.mem_cons_self))]; exact e4
  | .dic s, _, _, _, n, _, _ => by cases n
  | .opt s, _, _, _, n, i, h => h.elim (fun h => h.2.2.gr (frzB_gr h0)) fun h => Ow.rp (s := s) h0 n i h
end
end ON

set_option Elab.async false
set_option linter.all false
set_option maxRecDepth 100000
set_option maxHeartbeats 2000000
/-! N2: slots, the state that a law draws from, what holds of a frame. -/
namespace ON
open PySem L2

/-- the state that is drawn from: the numbered one, the one of digits -/
inductive SK where
  | run (cells : List Int) (names : Option (List Str))
  | left
inductive SD where
  | un
  | dat (d : D)
  | own (s : Sh) (d : D)
  | sr (q : SK)
def SD.ow : SD → Bool
  | .own _ _ => true
  | _ => false
/-- the state: what it is, its cells, its names -/
structure Sa where
  q : SK
  cp : Addr
  nv : Option V
/-- a def's frame: the heap and the data at its entry; the state; what else is owned -/
structure Fr where
  H0 : Hp
  B0 : Hp
  sa : Option (Addr × Sa)
  ex : List (V × Sh × D)
def Fr.push (F : Fr) (v : V) (s : Sh) (d : D) : Fr := { F with ex := F.ex ++ [(v, s, d)] }
def stKvs (cv : V) (k : Int) (nv : Option V) : List (Key × V) := match nv with
  | some n => [(.inr "cells", cv), (.inr "at", .int k), (.inr "names", n)]
  | none => [(.inr "cells", cv), (.inr "at", .int k)]
def StHO (K : PySem.W.Frag) (B : Hp) (k : Int) (w : Sa) (o : Option HO) : Prop := match w.q with
  | .run cells names => o = some (.dK (stKvs (.ref w.cp) k w.nv)) ∧ SqL K B w.cp (cells.map V.int) ∧ (match names, w.nv with | some ns, some n => Rp K B n (.lst (ns.map .str)) | none, none => True | _, _ => False)
  | .left => o = some (.dK [(.inr "left", .int k)])
/-- the state stands at a -/
def StAt (K : PySem.W.Frag) (B H : Hp) (a : Addr) (q : Sa) (k : Int) : Prop := B a = none ∧ StHO K B k q (H a)
def SOk (K : PySem.W.Frag) (F : Fr) (B H : Hp) (o : Option V) : SD → List Addr → Prop
  | .un, f => f = []
  | .dat d, f => f = [] ∧ ∃ v, o = some v ∧ Rp K B v d
  | .own s d, f => ∃ v, o = some v ∧ Ow K B H s v d f
  | .sr q, f => f = [] ∧ ∃ a w, o = some (.ref a) ∧ F.sa = some (a, w) ∧ w.q = q
/-- what may own: a slot, or what the frame holds besides -/
def cell (F : Fr) (σ : L2.St) (sd : List SD) : Nat ⊕ Nat → Option (Option V × SD)
  | .inl i => match sd[i]?, σ[i]? with
    | some d, some o => some (o, d)
    | _, _ => none
  | .inr j => (F.ex[j]?).map fun e => (some e.1, .own e.2.1 e.2.2)
structure Pool (K : PySem.W.Frag) (F : Fr) (σ : L2.St) (B H : Hp) (sd : List SD) (g : Nat ⊕ Nat → List Addr) : Prop where
  ok : ∀ x c, cell F σ sd x = some c → SOk K F B H c.1 c.2 (g x)
  no : ∀ x, cell F σ sd x = none → g x = []
  nd : ∀ x, (g x).Nodup
  dj : ∀ x y a, a ∈ g x → a ∈ g y → x = y
  b : ∀ x a, a ∈ g x → B a = none
  h0 : ∀ x a, a ∈ g x → F.H0 a = none
  sa : ∀ x a, a ∈ g x → ∀ s, F.sa = some s → s.1 ≠ a
structure Rel (K : PySem.W.Frag) (F : Fr) (σ : L2.St) (B H : Hp) (sd : List SD) (k : Int) : Prop where
  len : sd.length = σ.length
  bh : Gr B H
  b0 : Gr F.B0 B
  bn : ∀ a o, B a = some o → F.B0 a = none → F.H0 a = none
  fr : ∀ a o, F.H0 a = some o → (∀ s, F.sa = some s → s.1 ≠ a) → H a = some o
  st : ∀ s, F.sa = some s → StAt K B H s.1 s.2 k
  pool : ∃ g, Pool K F σ B H sd g
section
variable {K : PySem.W.Frag} {F F' : Fr} {σ σ' : L2.St} {B H B' H' : Hp} {sd sd' : List SD} {k k' : Int} {g : Nat ⊕ Nat → List Addr}
theorem SOk.inH {o : Option V} {d : SD} {f : List Addr} (h : SOk K F B H o d f) : ∀ a ∈ f, H a ≠ none := fun a m => by
  cases d with
  | un => rw [show f = [] from h] at m; cases m
  | dat d => rw [h.1] at m; cases m
  | own s d => obtain ⟨v, _, h⟩ := h; exact h.some a m
  | sr q => rw [h.1] at m; cases m
theorem SOk.frame {o : Option V} {d : SD} {f : List Addr} (gr : Gr B B') (hs : F'.sa = F.sa) (hk : ∀ a ∈ f, H' a = H a) (h : SOk K F B H o d f) : SOk K F' B' H' o d f := by
  cases d with
  | un => exact h
  | dat d => obtain ⟨e, v, ho, r⟩ := h; exact ⟨e, v, ho, r.gr gr⟩
  | own s d => obtain ⟨v, e, h⟩ := h; exact ⟨v, e, h.frame gr hk⟩
  | sr q => obtain ⟨e, a, w, ho, hsa, hw⟩ := h; exact ⟨e, a, w, ho, hs.trans hsa, hw⟩
theorem Pool.inH (p : Pool K F σ B H sd g) : ∀ x a, a ∈ g x → H a ≠ none := fun x a m => by
  cases e : cell F σ sd x with
  | none => rw [p.no x e] at m; cases m
  | some c => exact (p.ok x c e).inH a m
theorem StAt.gr {C : Hp} {a : Addr} {q : Sa} (g : Gr B C) (hc : C a = none) (h : StAt K B H a q k) : StAt K C H a q k := by
  obtain ⟨_, h⟩ := h
  refine ⟨hc, ?_⟩
  obtain ⟨q, cp, nv⟩ := q
  cases q with
  | run c n =>
    obtain ⟨hh, hq, hn⟩ := h
    refine ⟨hh, g.sqL hq, ?_⟩
    cases n <;> cases nv <;> first | exact hn | exact Rp.gr g hn
  | left => exact h
/-- the state read off a later heap, over the data of before -/
theorem StAt.back {B2 H2 : Hp} {a : Addr} {q : Sa} {k k' : Int} (h : StAt K B H a q k) (h2 : StAt K B2 H2 a q k') : StAt K B H2 a q k' := by
  obtain ⟨b, h⟩ := h
  obtain ⟨_, h2⟩ := h2
  refine ⟨b, ?_⟩
  obtain ⟨q, cp, nv⟩ := q
  cases q with
  | run c n =>
    obtain ⟨hh, hq, hn⟩ := h
    exact ⟨h2.1, hq, hn⟩
  | left => exact h2
theorem StAt.heap {a : Addr} {q : Sa} (e : H' a = H a) (h : StAt K B H a q k) : StAt K B H' a q k := by
  obtain ⟨h1, h2⟩ := h
  exact ⟨h1, by rw [e]; exact h2⟩
theorem StAt.inH {a : Addr} {q : Sa} (h : StAt K B H a q k) : ∃ o, H a = some o := by
  obtain ⟨_, h⟩ := h
  obtain ⟨q, cp, nv⟩ := q
  cases q with
  | run c n => obtain ⟨hh, _⟩ := h; exact ⟨_, hh⟩
  | left => exact ⟨_, h⟩
/-- the cells of S change, the others stay -/
theorem Pool.move (p : Pool K F σ B H sd g) (S : Nat ⊕ Nat → Bool) (g' : Nat ⊕ Nat → List Addr) (gr : Gr B B') (hs : F'.sa = F.sa) (h0 : F'.H0 = F.H0)
    (same : ∀ x, S x = false → cell F' σ' sd' x = cell F σ sd x)
    (keep : ∀ x a, S x = false → a ∈ g x → H' a = H a ∧ B' a = none)
    (news : ∀ x c, S x = true → cell F' σ' sd' x = some c → SOk K F' B' H' c.1 c.2 (g' x)) (newn : ∀ x, S x = true → cell F' σ' sd' x = none → g' x = [])
    (nd : ∀ x, S x = true → (g' x).Nodup) (dj : ∀ x y a, S x = true → S y = true → a ∈ g' x → a ∈ g' y → x = y)
    (from_ : ∀ x a, S x = true → a ∈ g' x → B' a = none ∧ ((∃ y, S y = true ∧ a ∈ g y) ∨ (F.H0 a = none ∧ (∀ s, F.sa = some s → s.1 ≠ a) ∧ ∀ y, a ∉ g y))) :
    Pool K F' σ' B' H' sd' (fun x => if S x = true then g' x else g x) where
  ok := fun x c e => by
    cases hS : S x with
    | true => simp only [if_true]; exact news x c hS e
    | false =>
      simp only [Bool.false_eq_true, if_false]
      exact (p.ok x c (by rw [← same x hS]; exact e)).frame gr hs fun a m => (keep x a hS m).1
  no := fun x e => by
    cases hS : S x with
    | true => simp only [if_true]; exact newn x hS e
    | false => simp only [Bool.false_eq_true, if_false]; exact p.no x (by rw [← same x hS]; exact e)
  nd := fun x => by
    cases hS : S x with
    | true => simp only [if_true]; exact nd x hS
    | false => simp only [Bool.false_eq_true, if_false]; exact p.nd x
  dj := fun x y a mx my => by
    have key : ∀ x y, S x = true → S y = false → a ∈ g' x → a ∈ g y → False := fun x y h1 h2 m1 m2 => by
      rcases (from_ x a h1 m1).2 with ⟨z, hz, mz⟩ | ⟨_, _, q⟩
      · obtain rfl := p.dj z y a mz m2
        rw [hz] at h2; cases h2
      · exact q y m2
    cases hx : S x with
    | true =>
      simp only [hx, if_true] at mx
      cases hy : S y with
      | true => simp only [hy, if_true] at my; exact dj x y a hx hy mx my
      | false => simp only [hy, Bool.false_eq_true, if_false] at my; exact (key x y hx hy mx my).elim
    | false =>
      simp only [hx, Bool.false_eq_true, if_false] at mx
      cases hy : S y with
      | true => simp only [hy, if_true] at my; exact (key y x hy hx my mx).elim
      | false => simp only [hy, Bool.false_eq_true, if_false] at my; exact p.dj x y a mx my
  b := fun x a m => by
    cases hS : S x with
    | true => simp only [hS, if_true] at m; exact (from_ x a hS m).1
    | false => simp only [hS, Bool.false_eq_true, if_false] at m; exact (keep x a hS m).2
  h0 := fun x a m => by
    rw [h0]
    cases hS : S x with
    | true =>
      simp only [hS, if_true] at m
      rcases (from_ x a hS m).2 with ⟨z, _, mz⟩ | ⟨q, _, _⟩
      · exact p.h0 z a mz
      · exact q
    | false => simp only [hS, Bool.false_eq_true, if_false] at m; exact p.h0 x a m
  sa := fun x a m s e => by
    rw [hs] at e
    cases hS : S x with
    | true =>
      simp only [hS, if_true] at m
      rcases (from_ x a hS m).2 with ⟨z, _, mz⟩ | ⟨_, q, _⟩
      · exact p.sa z a mz s e
      · exact q s e
    | false => simp only [hS, Bool.false_eq_true, if_false] at m; exact p.sa x a m s e
theorem Rel.h0free (R : Rel K F σ B H sd k) {p : Addr} (h : H p = none) : F.H0 p = none ∧ ∀ s, F.sa = some s → s.1 ≠ p := by
  have hsa : ∀ s, F.sa = some s → s.1 ≠ p := fun s es z => by
    obtain ⟨o, ho⟩ := (R.st s es).inH
    rw [z, h] at ho; cases ho
  refine ⟨?_, hsa⟩
  cases e : F.H0 p with
  | none => rfl
  | some u => have z := R.fr p u e hsa; rw [h] at z; cases z
theorem upd_gr {p : Addr} {o : HO} (h : H p = none) : Gr H (upd H p o) := Gr.new h
/-- heap and data grow at new places -/
theorem Rel.called (R : Rel K F σ B H sd k) (g1 : Gr B B') (g2 : Gr B' H') (g3 : Gr H H') (hn : ∀ a o, B' a = some o → B a = none → H a = none) : Rel K F σ B' H' sd k where
  len := R.len
  bh := g2
  b0 := R.b0.trans g1
  bn := fun a o e e0 => by
    cases h : B a with
    | some u => exact R.bn a u h e0
    | none => exact (R.h0free (hn a o e h)).1
  fr := fun a o e s => g3 a o (R.fr a o e s)
  st := fun s e => by
    have h1 := R.st s e
    have hb : B' s.1 = none := by
      cases h : B' s.1 with
      | none => rfl
      | some u => obtain ⟨o, ho⟩ := h1.inH; rw [hn _ _ h h1.1] at ho; cases ho
    refine (h1.gr g1 hb).heap ?_
    obtain ⟨o, ho⟩ := h1.inH
    rw [ho]; exact g3 _ _ ho
  pool := by
    obtain ⟨g, p⟩ := R.pool
    have z := p.move (F' := F) (σ' := σ) (sd' := sd) (B' := B') (H' := H') (fun _ => false) g g1 rfl rfl (fun _ _ => rfl) (fun x a _ m => by
      have hs := p.inH x a m
      refine ⟨?_, ?_⟩
      · cases e : H a with
        | none => exact absurd e hs
        | some o => exact g3 a o e
      · cases h : B' a with
        | none => rfl
        | some u => exact absurd (hn a u h (p.b x a m)) hs) (fun _ _ e => nomatch e) (fun _ e => nomatch e) (fun _ e => nomatch e) (fun _ _ _ e => nomatch e) (fun _ _ e => nomatch e)
    exact ⟨_, z⟩
theorem Rel.alloc {p : Addr} {o : HO} (R : Rel K F σ B H sd k) (h : H p = none) : Rel K F σ B (upd H p o) sd k :=
  R.called (Gr.refl B) (R.bh.trans (Gr.new h)) (Gr.new h) fun a u e e0 => by rw [e] at e0; cases e0
/-- a new thing, at once data -/
theorem Rel.data {p : Addr} {o : HO} (R : Rel K F σ B H sd k) (h : H p = none) : Rel K F σ (upd B p o) (upd H p o) sd k ∧ Gr B (upd B p o) := by
  have gB : Gr B (upd B p o) := Gr.new (R.bh.back h)
  refine ⟨R.called gB (fun a u e => ?_) (Gr.new h) (fun a u e e0 => ?_), gB⟩
  · by_cases c : a = p
    · subst c; rw [upd_same] at e ⊢; exact e
    · rw [upd_ne c] at e ⊢; exact R.bh a u e
  · by_cases c : a = p
    · subst c; exact h
    · rw [upd_ne c] at e; rw [e] at e0; cases e0
/-- the state changed -/
theorem Rel.drew {a : Addr} {q : Sa} (R : Rel K F σ B H sd k) (hs : F.sa = some (a, q)) (g1 : Gr B B') (g2 : Gr B' H') (g3 : ∀ b o, b ≠ a → H b = some o → H' b = some o) (hS : StAt K B' H' a q k')
    (hn : ∀ a o, B' a = some o → B a = none → H a = none) : Rel K F σ B' H' sd k' where
  len := R.len
  bh := g2
  b0 := R.b0.trans g1
  bn := fun a o e e0 => by
    cases h : B a with
    | some u => exact R.bn a u h e0
    | none => exact (R.h0free (hn a o e h)).1
  fr := fun b o e s => g3 b o (fun z => s _ hs z.symm) (R.fr b o e s)
  st := fun s e => by rw [hs] at e; cases e; exact hS
  pool := by
    obtain ⟨g, p⟩ := R.pool
    have z := p.move (F' := F) (σ' := σ) (sd' := sd) (B' := B') (H' := H') (fun _ => false) g g1 rfl rfl (fun _ _ => rfl) (fun x b _ m => by
      have hs2 := p.inH x b m
      refine ⟨?_, ?_⟩
      · cases e : H b with
        | none => exact absurd e hs2
        | some o => exact g3 b o (fun z => p.sa x b m _ hs z.symm) e
      · cases h : B' b with
        | none => rfl
        | some u => exact absurd (hn b u h (p.b x b m)) hs2) (fun _ _ e => nomatch e) (fun _ e => nomatch e) (fun _ e => nomatch e) (fun _ _ _ e => nomatch e) (fun _ _ e => nomatch e)
    exact ⟨_, z⟩
theorem cell_set_ne {i : Nat} {o : Option V} {d : SD} {x : Nat ⊕ Nat} (h : x ≠ .inl i) : cell F (σ.set i o) (sd.set i d) x = cell F σ sd x := by
  cases x with
  | inl j =>
    have ne : i ≠ j := fun z => h (by rw [z])
    simp only [cell]
    rw [List.getElem?_set_ne ne, List.getElem?_set_ne ne]
  | inr j => rfl
theorem cell_set {i : Nat} {o : Option V} {d : SD} (h1 : i < sd.length) (h2 : i < σ.length) : cell F (σ.set i o) (sd.set i d) (.inl i) = some (o, d) := by
  simp only [cell]
  rw [List.getElem?_set_self h1, List.getElem?_set_self h2]
/-- slot i: what is there, and what may be put there -/
theorem Rel.slot {i : Nat} {d : SD} (R : Rel K F σ B H sd k) (hi : sd[i]? = some d) : ∃ o f, σ[i]? = some o ∧ SOk K F B H o d f ∧ f.Nodup ∧ (∀ a ∈ f, B a = none ∧ F.H0 a = none ∧ ∀ s, F.sa = some s → s.1 ≠ a) ∧
    ∀ (o' : Option V) (d' : SD) (f' : List Addr) (B' H' : Hp), SOk K F B' H' o' d' f' → f'.Nodup → (∀ a ∈ f', B' a = none ∧ (a ∈ f ∨ H a = none)) → (∀ a u, a ∉ f → H a = some u → H' a = some u) → Gr B B' → Gr B' H' →
      (∀ a u, B' a = some u → B a = none → a ∈ f ∨ H a = none) → Rel K F (σ.set i o') B' H' (sd.set i d') k := by
  obtain ⟨g, p⟩ := R.pool
  have li : i < sd.length := (List.getElem?_eq_some_iff.mp hi).1
  have lo : i < σ.length := by rw [← R.len]; exact li
  have ho : σ[i]? = some σ[i] := List.getElem?_eq_getElem lo
  have hc : cell F σ sd (.inl i) = some (σ[i], d) := by simp only [cell]; rw [hi, ho]
  refine ⟨σ[i], g (.inl i), ho, p.ok _ _ hc, p.nd _, fun a m => ⟨p.b _ a m, p.h0 _ a m, p.sa _ a m⟩, fun o' d' f' B' H' hok hnd hin hkeep gB gH hB => ?_⟩
  have hnB : ∀ a u, B' a = some u → B a = none → F.H0 a = none ∧ ∀ s, F.sa = some s → s.1 ≠ a := fun a u e e0 => by
    rcases hB a u e e0 with m | h
    · exact ⟨p.h0 _ a m, p.sa _ a m⟩
    · exact R.h0free h
  refine ⟨by rw [List.length_set, List.length_set]; exact R.len, gH, R.b0.trans gB, fun a u e e0 => ?_, fun a u e s => ?_, fun s e => ?_, ?_⟩
  · cases h : B a with
    | some w => exact R.bn a w h e0
    | none => exact (hnB a u e h).1
  · exact hkeep a u (fun m => by rw [p.h0 _ a m] at e; cases e) (R.fr a u e s)
  · have h1 := R.st s e
    have hb : B' s.1 = none := by
      cases h : B' s.1 with
      | none => rfl
      | some u => exact absurd rfl ((hnB _ u h h1.1).2 s e)
    refine (h1.gr gB hb).heap ?_
    obtain ⟨u, hu⟩ := h1.inH
    rw [hu]; exact hkeep _ u (fun m => p.sa _ _ m s e rfl) hu
  · refine ⟨_, p.move (F' := F) (fun x => decide (x = .inl i)) (fun _ => f') gB rfl rfl (fun x hx => cell_set_ne (of_decide_eq_false hx)) (fun x a hx m => ?_) (fun x c hx e => ?_) (fun x hx e => ?_) (fun _ _ => hnd) (fun x y a hx hy _ _ => (of_decide_eq_true hx).trans (of_decide_eq_true hy).symm) fun x a hx m => ?_⟩
    · have ni : a ∉ g (.inl i) := fun m2 => of_decide_eq_false hx (p.dj _ _ a m m2)
      refine ⟨?_, ?_⟩
      · cases e : H a with
        | none => exact absurd e (p.inH x a m)
        | some u => exact hkeep a u ni e
      · cases h : B' a with
        | none => rfl
        | some u =>
          rcases hB a u h (p.b x a m) with m2 | h2
          · exact absurd m2 ni
          · exact absurd h2 (p.inH x a m)
    · obtain rfl := of_decide_eq_true hx
      rw [cell_set li lo] at e; cases e
      exact hok
    · obtain rfl := of_decide_eq_true hx
      rw [cell_set li lo] at e; cases e
    · obtain ⟨m1, m2⟩ := hin a m
      refine ⟨m1, ?_⟩
      rcases m2 with m2 | m2
      · exact .inl ⟨.inl i, decide_eq_true rfl, m2⟩
      · obtain ⟨q1, q2⟩ := R.h0free m2
        exact .inr ⟨q1, q2, fun y my => p.inH y a my m2⟩
/-- a slot set: what was there is dropped -/
theorem Rel.setDat {i : Nat} {v : V} {d : D} (R : Rel K F σ B H sd k) (r : Rp K B v d) : Rel K F (σ.set i (some v)) B H (sd.set i (.dat d)) k := by
  by_cases c : i < sd.length
  · obtain ⟨o, f, _, _, _, _, q⟩ := R.slot (List.getElem?_eq_getElem c)
    exact q _ _ [] B H ⟨rfl, v, rfl, r⟩ .nil (fun a m => nomatch m) (fun a u _ e => e) (Gr.refl B) R.bh fun a u e e0 => by rw [e] at e0; cases e0
  · have hl := R.len; rw [List.set_eq_of_length_le (show σ.length ≤ i by omega), List.set_eq_of_length_le (show sd.length ≤ i by omega)]; exact R
theorem Rel.setUn {i : Nat} {o' : Option V} (R : Rel K F σ B H sd k) : Rel K F (σ.set i o') B H (sd.set i .un) k := by
  by_cases c : i < sd.length
  · obtain ⟨o, f, _, _, _, _, q⟩ := R.slot (List.getElem?_eq_getElem c)
    exact q _ _ [] B H rfl .nil (fun a m => nomatch m) (fun a u _ e => e) (Gr.refl B) R.bh fun a u e e0 => by rw [e] at e0; cases e0
  · have hl := R.len; rw [List.set_eq_of_length_le (show σ.length ≤ i by omega), List.set_eq_of_length_le (show sd.length ≤ i by omega)]; exact R
theorem σ_set_self {i : Nat} {o : Option V} (h : σ[i]? = some o) : σ.set i o = σ := by
  obtain ⟨h1, h2⟩ := List.getElem?_eq_some_iff.mp h
  subst h2; exact List.set_getElem_self h1
theorem Rel.forget {i : Nat} (R : Rel K F σ B H sd k) : Rel K F σ B H (sd.set i .un) k := by
  by_cases c : i < sd.length
  · obtain ⟨o, f, ho, _, _, _, q⟩ := R.slot (List.getElem?_eq_getElem c)
    have z := q o .un [] B H rfl .nil (fun a m => nomatch m) (fun a u _ e => e) (Gr.refl B) R.bh fun a u e e0 => by rw [e] at e0; cases e0
    rw [σ_set_self ho] at z; exact z
  · rw [List.set_eq_of_length_le (by omega)]; exact R
/-- a slot's data read -/
theorem Rel.dat {i : Nat} {d : D} (R : Rel K F σ B H sd k) (hi : sd[i]? = some (.dat d)) : ∃ v, σ[i]? = some (some v) ∧ Rp K B v d := by
  obtain ⟨o, f, ho, ⟨_, v, rfl, r⟩, _⟩ := R.slot hi
  exact ⟨v, ho, r⟩
/-- an owned slot becomes data -/
theorem Rel.frz {i : Nat} {s : Sh} {d : D} (R : Rel K F σ B H sd k) (hi : sd[i]? = some (.own s d)) (hn : s.nd = true) : ∃ B', Rel K F σ B' H (sd.set i (.dat d)) k ∧ Gr B B' := by
  obtain ⟨o, f, ho, ⟨v, rfl, w⟩, nd, hf, q⟩ := R.slot hi
  have hb : ∀ a ∈ f, B a = none := fun a m => (hf a m).1
  have g := frzB_gr (H := H) hb
  have z := q (some v) (.dat d) [] (frzB B H f) H ⟨rfl, v, rfl, w.rp hb hn (fun _ m => m)⟩ .nil (fun a m => nomatch m) (fun a u _ e => e) g (fun a u e => ?_) (fun a u e e0 => ?_)
  · rw [σ_set_self ho] at z
    exact ⟨_, z, g⟩
  · unfold frzB at e
    by_cases c : a ∈ f
    · rw [if_pos c] at e; exact e
    · rw [if_neg c] at e; exact R.bh a u e
  · unfold frzB at e
    by_cases c : a ∈ f
    · exact .inl c
    · rw [if_neg c, e0] at e; cases e

/-! ### what the frame holds besides -/
theorem cell_push_ne {v : V} {s : Sh} {d : D} {x : Nat ⊕ Nat} (h : x ≠ .inr F.ex.length) : cell (F.push v s d) σ sd x = cell F σ sd x := by
  cases x with
  | inl j => rfl
  | inr j =>
    show ((F.ex ++ [(v, s, d)])[j]?).map _ = (F.ex[j]?).map _
    have ne : j ≠ F.ex.length := fun z => h (by rw [z])
    by_cases c : j < F.ex.length
    · rw [List.getElem?_append_left c]
    · rw [List.getElem?_eq_none (by rw [List.length_append]; simp; omega), List.getElem?_eq_none (by omega)]
theorem cell_push {v : V} {s : Sh} {d : D} : cell (F.push v s d) σ sd (.inr F.ex.length) = some (some v, .own s d) := by
  show ((F.ex ++ [(v, s, d)])[F.ex.length]?).map _ = _
  rw [List.getElem?_append_right (Nat.le_refl _), Nat.sub_self]; rfl
theorem cell_top : cell F σ sd (.inr F.ex.length) = none := by
  show (F.ex[F.ex.length]?).map _ = none
  rw [List.getElem?_eq_none (Nat.le_refl _)]; rfl
/-- a new owned thing -/
theorem Rel.push {v : V} {s : Sh} {d : D} {f : List Addr} (R : Rel K F σ B H sd k) (w : Ow K B' H' s v d f) (nd : f.Nodup) (hf : ∀ a ∈ f, B' a = none ∧ H a = none) (g1 : Gr B B') (g2 : Gr B' H') (g3 : Gr H H') (hn : ∀ a o, B' a = some o → B a = none → H a = none) :
    Rel K (F.push v s d) σ B' H' sd k := by
  have R' := R.called g1 g2 g3 hn
  obtain ⟨g, p⟩ := R.pool
  refine ⟨R'.len, R'.bh, R'.b0, R'.bn, R'.fr, R'.st, _, p.move (F' := F.push v s d) (fun x => decide (x = .inr F.ex.length)) (fun _ => f) g1 rfl rfl (fun x hx => cell_push_ne (of_decide_eq_false hx)) (fun x a hx m => ?_) (fun x c hx e => ?_) (fun x hx e => ?_) (fun _ _ => nd) (fun x y a hx hy _ _ => (of_decide_eq_true hx).trans (of_decide_eq_true hy).symm) fun x a hx m => ?_⟩
  · refine ⟨?_, ?_⟩
    · cases e : H a with
      | none => exact absurd e (p.inH x a m)
      | some u => exact g3 a u e
    · cases h : B' a with
      | none => rfl
      | some u => exact absurd (hn a u h (p.b x a m)) (p.inH x a m)
  · obtain rfl := of_decide_eq_true hx
    rw [cell_push] at e; cases e
    exact ⟨v, rfl, w⟩
  · obtain rfl := of_decide_eq_true hx
    rw [cell_push] at e; cases e
  · obtain ⟨m1, m2⟩ := hf a m
    obtain ⟨q1, q2⟩ := R.h0free m2
    exact ⟨m1, .inr ⟨q1, q2, fun y my => p.inH y a my m2⟩⟩
/-- the last thing held: what it is, and what may become of it -/
theorem Rel.top {v : V} {s : Sh} {d : D} (R : Rel K (F.push v s d) σ B H sd k) : ∃ f, Ow K B H s v d f ∧ f.Nodup ∧ (∀ a ∈ f, B a = none ∧ F.H0 a = none ∧ ∀ s, F.sa = some s → s.1 ≠ a) ∧
    (∀ (B' H' : Hp), (∀ a u, a ∉ f → H a = some u → H' a = some u) → Gr B B' → Gr B' H' → (∀ a u, B' a = some u → B a = none → a ∈ f ∨ H a = none) →
      Rel K F σ B' H' sd k ∧
      (∀ v' s' d' f', Ow K B' H' s' v' d' f' → f'.Nodup → (∀ a ∈ f', B' a = none ∧ (a ∈ f ∨ H a = none)) → Rel K (F.push v' s' d') σ B' H' sd k) ∧
      (∀ i o' d' f', SOk K F B' H' o' d' f' → f'.Nodup → (∀ a ∈ f', B' a = none ∧ (a ∈ f ∨ H a = none)) → Rel K F (σ.set i o') B' H' (sd.set i d') k)) := by
  obtain ⟨g, p⟩ := R.pool
  obtain ⟨v1, e1, w⟩ := p.ok (.inr F.ex.length) _ cell_push
  cases e1
  have h0 : ∀ a, a ∈ g (.inr F.ex.length) → F.H0 a = none := fun a m => p.h0 _ a m
  have hsa : ∀ a, a ∈ g (.inr F.ex.length) → ∀ s, F.sa = some s → s.1 ≠ a := fun a m => p.sa _ a m
  refine ⟨g (.inr F.ex.length), w, p.nd _, fun a m => ⟨p.b _ a m, h0 a m, hsa a m⟩, fun B' H' hkeep gB gH hB => ?_⟩
  have free : ∀ {a}, H a = none → F.H0 a = none ∧ ∀ s, F.sa = some s → s.1 ≠ a := fun {a} h => R.h0free h
  have hnB : ∀ a u, B' a = some u → B a = none → F.H0 a = none ∧ ∀ s, F.sa = some s → s.1 ≠ a := fun a u e e0 => by
    rcases hB a u e e0 with m | h
    · exact ⟨h0 a m, hsa a m⟩
    · exact free h
  have b0 : Gr F.B0 B' := fun a o e => gB a o (R.b0 a o e)
  have bn : ∀ a o, B' a = some o → F.B0 a = none → F.H0 a = none := fun a u e e0 => by
    cases h : B a with
    | some w => exact R.bn a w h e0
    | none => exact (hnB a u e h).1
  have fr : ∀ a o, F.H0 a = some o → (∀ s, F.sa = some s → s.1 ≠ a) → H' a = some o := fun a u e s => hkeep a u (fun m => by rw [h0 a m] at e; cases e) (R.fr a u e s)
  have st : ∀ s, F.sa = some s → StAt K B' H' s.1 s.2 k := fun s e => by
    have h1 := R.st s e
    have hb : B' s.1 = none := by
      cases h : B' s.1 with
      | none => rfl
      | some u => exact absurd rfl ((hnB _ u h h1.1).2 s e)
    refine (h1.gr gB hb).heap ?_
    obtain ⟨u, hu⟩ := h1.inH
    rw [hu]; exact hkeep _ u (fun m => hsa _ m s e rfl) hu
  have keep : ∀ x a, x ≠ .inr F.ex.length → a ∈ g x → H' a = H a ∧ B' a = none := fun x a hx m => by
    have ni : a ∉ g (.inr F.ex.length) := fun m2 => hx (p.dj _ _ a m m2)
    refine ⟨?_, ?_⟩
    · cases e : H a with
      | none => exact absurd e (p.inH x a m)
      | some u => exact hkeep a u ni e
    · cases h : B' a with
      | none => rfl
      | some u =>
        rcases hB a u h (p.b x a m) with m2 | h2
        · exact absurd m2 ni
        · exact absurd h2 (p.inH x a m)
  refine ⟨⟨R.len, gH, b0, bn, fr, st, _, p.move (F' := F) (fun x => decide (x = .inr F.ex.length)) (fun _ => []) gB rfl rfl (fun x hx => (cell_push_ne (of_decide_eq_false hx)).symm) (fun x a hx m => keep x a (of_decide_eq_false hx) m) (fun x c hx e => ?_) (fun _ _ _ => rfl) (fun _ _ => .nil) (fun x y a hx hy m _ => nomatch m) fun x a hx m => nomatch m⟩, fun v' s' d' f' w' nd' hf' => ?_, fun i o' d' f' hok hnd hin => ?_⟩
  · obtain rfl := of_decide_eq_true hx
    rw [cell_top] at e; cases e
  · refine ⟨R.len, gH, b0, bn, fr, st, _, p.move (F' := F.push v' s' d') (fun x => decide (x = .inr F.ex.length)) (fun _ => f') gB rfl rfl (fun x hx => by rw [cell_push_ne (of_decide_eq_false hx), cell_push_ne (of_decide_eq_false hx)]) (fun x a hx m => keep x a (of_decide_eq_false hx) m) (fun x c hx e => ?_) (fun x hx e => ?_) (fun _ _ => nd') (fun x y a hx hy _ _ => (of_decide_eq_true hx).trans (of_decide_eq_true hy).symm) fun x a hx m => ?_⟩
    · obtain rfl := of_decide_eq_true hx
      rw [cell_push] at e; cases e
      exact ⟨v', rfl, w'⟩
    · obtain rfl := of_decide_eq_true hx
      rw [cell_push] at e; cases e
    · obtain ⟨m1, m2⟩ := hf' a m
      refine ⟨m1, ?_⟩
      rcases m2 with m2 | m2
      · exact .inl ⟨_, decide_eq_true rfl, m2⟩
      · obtain ⟨q1, q2⟩ := free m2
        exact .inr ⟨q1, q2, fun y my => p.inH y a my m2⟩
  · by_cases c : i < sd.length
    · have lo : i < σ.length := by rw [← R.len]; exact c
      refine ⟨by rw [List.length_set, List.length_set]; exact R.len, gH, b0, bn, fr, st, _, p.move (F' := F) (fun x => decide (x = .inr F.ex.length) || decide (x = .inl i)) (fun x => if x = .inl i then f' else []) gB rfl rfl (fun x hx => ?_) (fun x a hx m => ?_) (fun x cc hx e => ?_) (fun x hx e => ?_) (fun x _ => ?_) (fun x y a hx hy mx my => ?_) fun x a hx m => ?_⟩
      · have h1 : x ≠ .inr F.ex.length := fun z => by subst z; simp at hx
        have h2 : x ≠ .inl i := fun z => by subst z; simp at hx
        rw [cell_set_ne h2, cell_push_ne h1]
      · refine keep x a (fun z => ?_) m
        subst z; simp at hx
      · by_cases h2 : x = .inl i
        · subst h2
          rw [cell_set c lo] at e; cases e
          rw [if_pos rfl]; exact hok
        · have h1 : x = .inr F.ex.length := by
            simp only [Bool.or_eq_true, decide_eq_true_eq] at hx
            exact hx.resolve_right h2
          subst h1
          rw [cell_set_ne h2, cell_top] at e; cases e
      · by_cases h2 : x = .inl i
        · subst h2
          rw [cell_set c lo] at e; cases e
        · rw [if_neg h2]
      · split
        · exact hnd
        · exact .nil
      · by_cases h2 : x = .inl i
        · by_cases h3 : y = .inl i
          · exact h2.trans h3.symm
          · rw [if_neg h3] at my; cases my
        · rw [if_neg h2] at mx; cases mx
      · by_cases h2 : x = .inl i
        · rw [if_pos h2] at m
          obtain ⟨m1, m2⟩ := hin a m
          refine ⟨m1, ?_⟩
          rcases m2 with m2 | m2
          · exact .inl ⟨.inr F.ex.length, by simp, m2⟩
          · obtain ⟨q1, q2⟩ := free m2
            exact .inr ⟨q1, q2, fun y my => p.inH y a my m2⟩
        · rw [if_neg h2] at m; cases m
    · have hl := R.len; rw [List.set_eq_of_length_le (show σ.length ≤ i by omega), List.set_eq_of_length_le (show sd.length ≤ i by omega)]
      refine ⟨R.len, gH, b0, bn, fr, st, _, p.move (F' := F) (fun x => decide (x = .inr F.ex.length)) (fun _ => []) gB rfl rfl (fun x hx => (cell_push_ne (of_decide_eq_false hx)).symm) (fun x a hx m => keep x a (of_decide_eq_false hx) m) (fun x c hx e => ?_) (fun _ _ _ => rfl) (fun _ _ => .nil) (fun x y a hx hy m _ => nomatch m) fun x a hx m => nomatch m⟩
      obtain rfl := of_decide_eq_true hx
      rw [cell_top] at e; cases e
theorem Rel.pop {v : V} {s : Sh} {d : D} (R : Rel K (F.push v s d) σ B H sd k) : Rel K F σ B H sd k := by
  obtain ⟨f, _, _, _, q⟩ := R.top
  exact (q B H (fun a u _ e => e) (Gr.refl B) R.bh fun a u e e0 => by rw [e] at e0; cases e0).1
theorem Rel.toSlot {v : V} {s : Sh} {d : D} {i : Nat} (R : Rel K (F.push v s d) σ B H sd k) : Rel K F (σ.set i (some v)) B H (sd.set i (.own s d)) k := by
  obtain ⟨f, w, nd, hf, q⟩ := R.top
  exact (q B H (fun a u _ e => e) (Gr.refl B) R.bh fun a u e e0 => by rw [e] at e0; cases e0).2.2 i _ _ f ⟨v, rfl, w⟩ nd fun a m => ⟨(hf a m).1, .inl m⟩
/-- what is held becomes data -/
theorem Rel.frzX {v : V} {s : Sh} {d : D} (R : Rel K (F.push v s d) σ B H sd k) (hn : s.nd = true) : ∃ B', Rel K F σ B' H sd k ∧ Gr B B' ∧ Rp K B' v d := by
  obtain ⟨f, w, nd, hf, q⟩ := R.top
  have hb : ∀ a ∈ f, B a = none := fun a m => (hf a m).1
  have g := frzB_gr (H := H) hb
  refine ⟨frzB B H f, (q (frzB B H f) H (fun a u _ e => e) g (fun a u e => ?_) fun a u e e0 => ?_).1, g, w.rp hb hn fun _ m => m⟩
  · unfold frzB at e
    by_cases c : a ∈ f
    · rw [if_pos c] at e; exact e
    · rw [if_neg c] at e; exact R.bh a u e
  · unfold frzB at e
    by_cases c : a ∈ f
    · exact .inl c
    · rw [if_neg c, e0] at e; cases e
/-- a new list of data -/
theorem Rel.newL {p : Addr} {vs : List V} {ds : List D} (R : Rel K F σ B H sd k) (h : H p = none) (r : Rps K B vs ds) : Rel K (F.push (.ref p) (.lst .dat) (.lst ds)) σ B (upd H p (.lst vs)) sd k :=
  R.push (f := [p]) (ow_lstd.mpr ⟨p, vs, ds, rfl, rfl, rfl, upd_same, r⟩) (by simp) (fun a m => by rw [List.mem_singleton.mp m]; exact ⟨R.bh.back h, h⟩) (Gr.refl B) (R.bh.trans (Gr.new h)) (Gr.new h) fun a u e e0 => by rw [e] at e0; cases e0
theorem Rel.newD {p : Addr} {ks : List Key} {vs : List V} {ds : List D} (R : Rel K F σ B H sd k) (h : H p = none) (hl : ks.length = vs.length) (r : Rps K B vs ds) : Rel K (F.push (.ref p) (.dic .dat) (.dic ks ds)) σ B (upd H p (.dK (ks.zip vs))) sd k :=
  R.push (f := [p]) (ow_dicd.mpr ⟨p, ks, vs, ds, rfl, rfl, rfl, hl, upd_same, r⟩) (by simp) (fun a m => by rw [List.mem_singleton.mp m]; exact ⟨R.bh.back h, h⟩) (Gr.refl B) (R.bh.trans (Gr.new h)) (Gr.new h) fun a u e e0 => by rw [e] at e0; cases e0

/-! ### fewer slots told, or told otherwise -/
inductive Le : List SD → List SD → Prop
  | nil : Le [] []
  | same {d : SD} {a b : List SD} (h : Le a b) : Le (d :: a) (d :: b)
  | un {d : SD} {a b : List SD} (h : Le a b) : Le (d :: a) (.un :: b)
  /-- what is owned is told as what may be -/
  | opt {s : Sh} {d : D} {a b : List SD} (h : Le a b) : Le (.own s d :: a) (.own (.opt s) d :: b)
  | scal {s : Sh} {d : D} {a b : List SD} (hd : d.sc = true) (h : Le a b) : Le (.dat d :: a) (.own (.opt s) d :: b)
theorem Le.refl : ∀ a : List SD, Le a a
  | [] => .nil
  | _ :: a => .same (Le.refl a)
theorem Le.len {a b : List SD} (h : Le a b) : b.length = a.length := by
  induction h with
  | nil => rfl
  | same h ih => rw [List.length_cons, List.length_cons, ih]
  | un h ih => rw [List.length_cons, List.length_cons, ih]
  | opt h ih => rw [List.length_cons, List.length_cons, ih]
  | scal _ h ih => rw [List.length_cons, List.length_cons, ih]
theorem Le.get {a b : List SD} (h : Le a b) : ∀ {i : Nat} {d : SD}, b[i]? = some d → (d = .un ∧ ∃ e, a[i]? = some e) ∨ ∃ e, a[i]? = some e ∧ ∀ K F B H o f, SOk K F B H o e f → SOk K F B H o d f := by
  induction h with
  | nil => intro i d e; simp at e
  | same h ih =>
    intro i d e
    cases i with
    | zero => exact .inr ⟨d, e, fun _ _ _ _ _ _ h => h⟩
    | succ i => exact ih (i := i) e
  | un h ih =>
    intro i d e
    cases i with
    | zero => cases Option.some.inj e; exact .inl ⟨rfl, _, rfl⟩
    | succ i => exact ih (i := i) e
  | opt h ih =>
    intro i d e
    cases i with
    | zero => cases Option.some.inj e; exact .inr ⟨_, rfl, fun _ _ _ _ _ _ h => by obtain ⟨v, ho, w⟩ := h; exact ⟨v, ho, .inr w⟩⟩
    | succ i => exact ih (i := i) e
  | scal hd h ih =>
    intro i d e
    cases i with
    | zero => cases Option.some.inj e; exact .inr ⟨_, rfl, fun _ _ _ _ _ _ h => by obtain ⟨e, v, ho, r⟩ := h; exact ⟨v, ho, .inl ⟨e, hd, r⟩⟩⟩
    | succ i => exact ih (i := i) e
theorem Rel.le {se : List SD} (R : Rel K F σ B H sd k) (l : Le sd se) : Rel K F σ B H se k := by
  refine ⟨by rw [l.len]; exact R.len, R.bh, R.b0, R.bn, R.fr, R.st, ?_⟩
  obtain ⟨g, p⟩ := R.pool
  let un : Nat ⊕ Nat → Bool := fun x => match x with
    | .inl i => match se[i]? with
      | some .un => true
      | _ => false
    | .inr _ => false
  refine ⟨fun x => if un x = true then [] else g x, fun x c e => ?_, fun x e => ?_, fun x => ?_, fun x y a mx my => ?_, fun x a m => ?_, fun x a m => ?_, fun x a m => ?_⟩
  · cases x with
    | inr j => simp only [un, Bool.false_eq_true, if_false]; exact p.ok (.inr j) c e
    | inl i =>
      simp only [cell] at e
      cases e2 : se[i]? with
      | none => rw [e2] at e; cases e
      | some d =>
        rw [e2] at e
        cases e3 : σ[i]? with
        | none => rw [e3] at e; cases e
        | some o =>
          rw [e3] at e; cases e
          rcases l.get e2 with ⟨rfl, _⟩ | ⟨d0, h0, hok⟩
          · simp only [un, e2, if_true]; rfl
          · have hc : cell F σ sd (.inl i) = some (o, d0) := by simp only [cell]; rw [h0, e3]
            have z := hok _ _ _ _ _ _ (p.ok _ _ hc)
            by_cases hu : un (.inl i) = true
            · have : d = .un := by
                simp only [un, e2] at hu
                cases d <;> first | rfl | cases hu
              subst this
              simp only [hu, if_true]; rfl
            · simp only [hu, if_false, Bool.false_eq_true]; exact z
  · cases x with
    | inr j => simp only [un, Bool.false_eq_true, if_false]; exact p.no (.inr j) e
    | inl i =>
      by_cases hu : un (.inl i) = true
      · simp only [hu, if_true]
      · simp only [hu, if_false, Bool.false_eq_true]
        refine p.no _ ?_
        simp only [cell] at e ⊢
        cases e2 : se[i]? with
        | none =>
          have : sd[i]? = none := by
            rw [List.getElem?_eq_none_iff] at e2 ⊢
            rw [l.len] at e2; exact e2
          rw [this]
        | some d =>
          rw [e2] at e
          cases e3 : σ[i]? with
          | none => cases sd[i]? <;> rfl
          | some o => rw [e3] at e; cases e
  · show (if un x = true then [] else g x).Nodup
    split
    · exact .nil
    · exact p.nd x
  · have f1 : ∀ z, a ∈ (if un z = true then [] else g z) → a ∈ g z := fun z mz => by
      split at mz
      · cases mz
      · exact mz
    exact p.dj x y a (f1 x mx) (f1 y my)
  · have f1 : a ∈ g x := by
      have m : a ∈ (if un x = true then [] else g x) := m
      split at m
      · cases m
      · exact m
    exact p.b x a f1
  · have f1 : a ∈ g x := by
      have m : a ∈ (if un x = true then [] else g x) := m
      split at m
      · cases m
      · exact m
    exact p.h0 x a f1
  · have f1 : a ∈ g x := by
      have m : a ∈ (if un x = true then [] else g x) := m
      split at m
      · cases m
      · exact m
    exact p.sa x a f1
end
end ON

set_option Elab.async false
set_option linter.all false
set_option maxRecDepth 100000
set_option maxHeartbeats 2000000
/-! N3: monads, judgements, rules of expressions. -/
namespace ON
open PySem L2
/-! ### the monads: Option for what keeps no state, Sm for what draws -/
def Sm (α : Type) : Type := Int → Option (α × Int)
class Mn (m : Type → Type) where
  run : {α : Type} → m α → Int → Option (α × Int)
  pur0 : {α : Type} → α → m α
  bnd0 : {α β : Type} → m α → (α → m β) → m β
  fl0 : {α : Type} → m α
  run_pur0 : ∀ {α : Type} (a : α) (k : Int), run (pur0 a) k = some (a, k)
  run_bnd0 : ∀ {α β : Type} (x : m α) (f : α → m β) (k : Int), run (bnd0 x f) k = (run x k).bind fun p => run (f p.1) p.2
  run_fl0 : ∀ {α : Type} (k : Int), run (fl0 : m α) k = none
instance : Mn Option where
  run o k := o.map fun a => (a, k)
  pur0 := some
  bnd0 := Option.bind
  fl0 := none
  run_pur0 _ _ := rfl
  run_bnd0 x f k := by cases x <;> rfl
  run_fl0 _ := rfl
instance : Mn Sm where
  run x k := x k
  pur0 a := fun k => some (a, k)
  bnd0 x f := fun k => (x k).bind fun p => f p.1 p.2
  fl0 := fun _ => none
  run_pur0 _ _ := rfl
  run_bnd0 _ _ _ := rfl
  run_fl0 _ := rfl
@[irreducible] def Mn.pur {m : Type → Type} [Mn m] {α : Type} (a : α) : m α := Mn.pur0 a
@[irreducible] def Mn.bnd {m : Type → Type} [Mn m] {α β : Type} (x : m α) (f : α → m β) : m β := Mn.bnd0 x f
@[irreducible] def Mn.fl {m : Type → Type} [Mn m] {α : Type} : m α := Mn.fl0
section
variable {m : Type → Type} [Mn m] {α β : Type}
theorem Mn.run_pur (a : α) (k : Int) : Mn.run (Mn.pur a : m α) k = some (a, k) := by unfold Mn.pur; exact Mn.run_pur0 a k
theorem Mn.run_bnd (x : m α) (f : α → m β) (k : Int) : Mn.run (Mn.bnd x f) k = (Mn.run x k).bind fun p => Mn.run (f p.1) p.2 := by unfold Mn.bnd; exact Mn.run_bnd0 x f k
theorem Mn.run_fl (k : Int) : Mn.run (Mn.fl : m α) k = none := by unfold Mn.fl; exact Mn.run_fl0 k
theorem pur_opt (a : α) : (Mn.pur a : Option α) = some a := by unfold Mn.pur; rfl
theorem bnd_opt (x : Option α) (f : α → Option β) : Mn.bnd x f = x.bind f := by unfold Mn.bnd; rfl
theorem fl_opt : (Mn.fl : Option α) = none := by unfold Mn.fl; rfl
theorem pur_sm (a : α) (k : Int) : (Mn.pur a : Sm α) k = some (a, k) := by unfold Mn.pur; rfl
theorem bnd_sm (x : Sm α) (f : α → Sm β) (k : Int) : (Mn.bnd x f) k = (x k).bind fun p => f p.1 p.2 := by unfold Mn.bnd; rfl
theorem fl_sm (k : Int) : (Mn.fl : Sm α) k = none := by unfold Mn.fl; rfl
end
@[irreducible] def lift {m : Type → Type} [Mn m] {α : Type} (o : Option α) : m α := match o with | some a => Mn.pur a | none => Mn.fl
@[irreducible] def gd {m : Type → Type} [Mn m] {α : Type} (p : Prop) [Decidable p] (x : m α) : m α := if p then x else Mn.fl
section
variable {m : Type → Type} [Mn m] {α β : Type}
theorem bnd_some {x : m α} {f : α → m β} {k k2 : Int} {b : β} (h : Mn.run (Mn.bnd x f) k = some (b, k2)) : ∃ a k1, Mn.run x k = some (a, k1) ∧ Mn.run (f a) k1 = some (b, k2) := by
  rw [Mn.run_bnd] at h
  cases e : Mn.run x k with
  | none => rw [e] at h; cases h
  | some p => rw [e] at h; exact ⟨p.1, p.2, rfl, h⟩
theorem pur_some {a b : α} {k k2 : Int} (h : Mn.run (Mn.pur a : m α) k = some (b, k2)) : b = a ∧ k2 = k := by
  rw [Mn.run_pur] at h
  cases h; exact ⟨rfl, rfl⟩
theorem gd_some {p : Prop} [Decidable p] {x : m α} {k k2 : Int} {b : α} (h : Mn.run (gd p x) k = some (b, k2)) : p ∧ Mn.run x k = some (b, k2) := by
  unfold gd at h
  by_cases c : p
  · rw [if_pos c] at h; exact ⟨c, h⟩
  · rw [if_neg c, Mn.run_fl] at h; cases h
theorem lift_some {o : Option α} {k k2 : Int} {b : α} (h : Mn.run (lift o : m α) k = some (b, k2)) : o = some b ∧ k2 = k := by
  cases o with
  | none => unfold lift at h; rw [Mn.run_fl] at h; cases h
  | some a => unfold lift at h; obtain ⟨rfl, rfl⟩ := pur_some h; exact ⟨rfl, rfl⟩
theorem fl_some {k k2 : Int} {b : α} (h : Mn.run (Mn.fl : m α) k = some (b, k2)) : False := by
  rw [Mn.run_fl] at h; cases h
end

/-! ### the judgements -/
section
variable (K : PySem.W.Frag) {m : Type → Type} [Mn m] {α : Type}
def EvM [Enc α] (te : TE) (sd : List SD) (x : m α) : Prop := ∀ (F : Fr) (σ : L2.St) (B H : Hp) (k : Int), Rel K F σ B H sd k → ∀ (a : α) (k' : Int), Mn.run x k = some (a, k') →
  ∀ Q : VK, (∀ v B' H', Rel K F σ B' H' sd k' → Gr B B' → Rp K B' v (enc a) → Q v H') → te σ H Q
/-- what is owned by nobody else: of shape s -/
def EvF [Enc α] (s : Sh) (te : TE) (sd : List SD) (x : m α) : Prop := ∀ (F : Fr) (σ : L2.St) (B H : Hp) (k : Int), Rel K F σ B H sd k → ∀ (a : α) (k' : Int), Mn.run x k = some (a, k') →
  ∀ Q : VK, (∀ v B' H', Rel K (F.push v s (enc a)) σ B' H' sd k' → Gr B B' → Q v H') → te σ H Q
def EvB (te : TT) (sd : List SD) (x : m Bool) : Prop := ∀ (F : Fr) (σ : L2.St) (B H : Hp) (k : Int), Rel K F σ B H sd k → ∀ (a : Bool) (k' : Int), Mn.run x k = some (a, k') →
  ∀ Q : Bool → Hp → Prop, (∀ B' H', Rel K F σ B' H' sd k' → Gr B B' → Q a H') → te σ H Q
def EvA (ta : TA) (sd : List SD) (x : m α) (g : α → List D) : Prop := ∀ (F : Fr) (σ : L2.St) (B H : Hp) (k : Int), Rel K F σ B H sd k → ∀ (a : α) (k' : Int), Mn.run x k = some (a, k') →
  ∀ Q : List V → Hp → Prop, (∀ vs B' H', Rel K F σ B' H' sd k' → Gr B B' → Rps K B' vs (g a) → Q vs H') → ta σ H Q
end
inductive Fl (τ l ρ : Type) where
  | nx (t : τ)
  | bk (t : l)
  | ct (t : l)
  | rt (r : ρ)
/-- what is wished of an error that leaves, and the slots that it finds -/
structure Wr where
  w : WX
  sd : List SD
def W0 : Wr := ⟨fun _ _ _ _ => False, []⟩
/-- kinds of answers of a def: what stands where it ends so -/
class Rt (ρ : Type) where
  ok : PySem.W.Frag → Wr → Fr → Hp → VK → ρ → Int → Prop
  gr : ∀ {K : PySem.W.Frag} {W : Wr} {F : Fr} {B C : Hp} {Q : VK} {r : ρ} {k : Int}, Gr B C → ok K W F B Q r k → ok K W F C Q r k
instance {ρ : Type} [Enc ρ] : Rt ρ where
  ok K W F B Q r k := ∀ v σ' B' H' sd', Rel K F σ' B' H' sd' k → Gr B B' → Rp K B' v (enc r) → Q v H'
  gr g h := fun v σ' B' H' sd' R g' => h v σ' B' H' sd' R (g.trans g')
/-- an answer or an error -/
inductive Xr (ρ : Type) where
  | ok (r : ρ)
  | er (e : Er)
instance (priority := high) {ρ : Type} [Enc ρ] : Rt (Xr ρ) where
  ok K W F B Q r k := match r with
    | .ok r => ∀ v σ' B' H' sd', Rel K F σ' B' H' sd' k → Gr B B' → Rp K B' v (enc r) → Q v H'
    | .er e => ∀ cls d σ' B' H', Rel K F σ' B' H' W.sd k → Gr B B' → ErOk K B' cls d e → W.w cls d σ' H'
  gr {K W F B C Q r k} g h := by
    cases r with
    | ok r => exact fun v σ' B' H' sd' R g' => h v σ' B' H' sd' R (g.trans g')
    | er e => exact fun cls d σ' B' H' R g' => h cls d σ' B' H' R (g.trans g')
section
variable (K : PySem.W.Frag) (W : Wr) {m : Type → Type} [Mn m] {τ l ρ : Type} [Rt ρ]
def EndOk (F : Fr) (B : Hp) (D : Ends) (post : τ → List SD) (postL : l → List SD) (f : Fl τ l ρ) (k : Int) : Prop := match f with
  | .nx t => ∀ σ' B' H', Rel K F σ' B' H' (post t) k → Gr B B' → D.nx σ' H'
  | .bk t => ∀ σ' B' H', Rel K F σ' B' H' (postL t) k → Gr B B' → D.bk σ' H'
  | .ct t => ∀ σ' B' H', Rel K F σ' B' H' (postL t) k → Gr B B' → D.ct σ' H'
  | .rt r => Rt.ok K W F B D.rt r k
def EvS (ts : TS) (sd : List SD) (post : τ → List SD) (postL : l → List SD) (x : m (Fl τ l ρ)) : Prop := ∀ (F : Fr) (σ : L2.St) (B H : Hp) (k : Int), Rel K F σ B H sd k → ∀ (f : Fl τ l ρ) (k' : Int), Mn.run x k = some (f, k') →
  ∀ D : Ends, EndOk K W F B D post postL f k' → ts D σ H
end
theorem EndOk.gr {K : PySem.W.Frag} {W : Wr} {τ l ρ : Type} [Rt ρ] {F : Fr} {B C : Hp} {D : Ends} {post : τ → List SD} {postL : l → List SD} {f : Fl τ l ρ} {k : Int} (g : Gr B C) (h : EndOk K W F B D post postL f k) : EndOk K W F C D post postL f k := by
  cases f with
  | nx t => exact fun σ' B' H' R g' => h σ' B' H' R (g.trans g')
  | bk t => exact fun σ' B' H' R g' => h σ' B' H' R (g.trans g')
  | ct t => exact fun σ' B' H' R g' => h σ' B' H' R (g.trans g')
  | rt r => exact Rt.gr g h

/-! ### loops -/
section
variable {m : Type → Type} [Mn m] {τ τ' l ρ α : Type}
@[irreducible] def andThen (x : m (Fl τ l ρ)) (f : τ → m (Fl τ' l ρ)) : m (Fl τ' l ρ) := Mn.bnd x fun r => match r with
  | .nx t => f t
  | .bk t => Mn.pur (.bk t)
  | .ct t => Mn.pur (.ct t)
  | .rt r => Mn.pur (.rt r)
def forL0 (body : τ → α → m (Fl τ τ ρ)) : List α → τ → m (Fl τ l ρ)
  | [], t => Mn.pur (.nx t)
  | x :: xs, t => Mn.bnd (body t x) fun r => match r with
    | .nx t => forL0 body xs t
    | .ct t => forL0 body xs t
    | .bk t => Mn.pur (.nx t)
    | .rt r => Mn.pur (.rt r)
@[irreducible] def forL (body : τ → α → m (Fl τ τ ρ)) (xs : List α) (t : τ) : m (Fl τ l ρ) := forL0 body xs t
def whl0 (c : τ → m Bool) (body : τ → m (Fl τ τ ρ)) : Nat → τ → m (Fl τ l ρ)
  | 0, _ => Mn.fl
  | n + 1, t => Mn.bnd (c t) fun b => match b with
    | false => Mn.pur (.nx t)
    | true => Mn.bnd (body t) fun r => match r with
      | .nx t => whl0 c body n t
      | .ct t => whl0 c body n t
      | .bk t => Mn.pur (.nx t)
      | .rt r => Mn.pur (.rt r)
@[irreducible] def whl (c : τ → m Bool) (body : τ → m (Fl τ τ ρ)) (n : Nat) (t : τ) : m (Fl τ l ρ) := whl0 c body n t
/-- the comprehension: which, and what -/
def compL0 {β : Type} (p : α → m Bool) (f : α → m β) : List α → m (List β)
  | [] => Mn.pur []
  | x :: xs => Mn.bnd (p x) fun b => match b with
    | true => Mn.bnd (f x) fun y => Mn.bnd (compL0 p f xs) fun ys => Mn.pur (y :: ys)
    | false => compL0 p f xs
@[irreducible] def compL {β : Type} (p : α → m Bool) (f : α → m β) (xs : List α) : m (List β) := compL0 p f xs
variable {body : τ → α → m (Fl τ τ ρ)} {c : τ → m Bool} {bodyw : τ → m (Fl τ τ ρ)} {β : Type} {p : α → m Bool} {f : α → m β}
theorem forL_nil (t : τ) : (forL body [] t : m (Fl τ l ρ)) = Mn.pur (.nx t) := by unfold forL forL0; rfl
theorem forL_cons (x : α) (xs : List α) (t : τ) : (forL body (x :: xs) t : m (Fl τ l ρ)) = Mn.bnd (body t x) fun r => match r with
    | .nx t => forL body xs t
    | .ct t => forL body xs t
    | .bk t => Mn.pur (.nx t)
    | .rt r => Mn.pur (.rt r) := by unfold forL; rw [forL0]
theorem whl_zero (t : τ) : (whl c bodyw 0 t : m (Fl τ l ρ)) = Mn.fl := by unfold whl whl0; rfl
theorem whl_succ (n : Nat) (t : τ) : (whl c bodyw (n + 1) t : m (Fl τ l ρ)) = Mn.bnd (c t) fun b => match b with
    | false => Mn.pur (.nx t)
    | true => Mn.bnd (bodyw t) fun r => match r with
      | .nx t => whl c bodyw n t
      | .ct t => whl c bodyw n t
      | .bk t => Mn.pur (.nx t)
      | .rt r => Mn.pur (.rt r) := by unfold whl; rw [whl0]
theorem compL_nil : compL p f [] = Mn.pur [] := by unfold compL compL0; rfl
theorem compL_cons (x : α) (xs : List α) : compL p f (x :: xs) = Mn.bnd (p x) fun b => match b with
    | true => Mn.bnd (f x) fun y => Mn.bnd (compL p f xs) fun ys => Mn.pur (y :: ys)
    | false => compL p f xs := by unfold compL; rw [compL0]
end
section
variable {K : PySem.W.Frag} {m : Type → Type} [Mn m] {α β γ δ τ τ' l ρ : Type} {sd : List SD} {ta tb te : TE}

/-! ### names, constants -/
theorem em_var [Enc α] {i : Nat} {a : α} (h : sd[i]? = some (.dat (enc a))) : EvM K (tVar i) sd (Mn.pur a : m α) := fun F σ B H k R b k' e Q q => by
  obtain ⟨rfl, rfl⟩ := pur_some e
  obtain ⟨v, ho, r⟩ := R.dat h
  exact ⟨v, ho, q v B H R (Gr.refl B) r⟩
theorem em_c [Enc α] {v : V} {a : α} (h : ∀ B, Rp K B v (enc a)) : EvM K (tC v) sd (Mn.pur a : m α) := fun F σ B H k R b k' e Q q => by
  obtain ⟨rfl, rfl⟩ := pur_some e
  exact q v B H R (Gr.refl B) (h B)
theorem em_int {i : Int} : EvM K (tC (.int i)) sd (Mn.pur i : m Int) := em_c fun _ => .int i
theorem em_str {i : Str} : EvM K (tC (.str i)) sd (Mn.pur i : m Str) := em_c fun _ => .str i
theorem em_bl {i : Bool} : EvM K (tC (.bl i)) sd (Mn.pur i : m Bool) := em_c fun _ => .bl i
theorem em_non : EvM K (tC .non) sd (Mn.pur () : m Unit) := em_c fun _ => .non
/-- the same data by another type -/
theorem em_as [Enc α] [Enc β] {x : m α} (f : α → β) (hf : ∀ a, enc a = enc (f a)) (h : EvM K te sd x) : EvM K te sd (Mn.bnd x fun a => Mn.pur (f a)) := fun F σ B H k R b k' e Q q => by
  obtain ⟨a, k1, e1, e2⟩ := bnd_some e
  obtain ⟨rfl, rfl⟩ := pur_some e2
  exact h F σ B H k R a k' e1 Q fun v B' H' R' g r => q v B' H' R' g (by rw [← hf]; exact r)
/-- what is owned becomes data -/
theorem em_ofF [Enc α] {s : Sh} {x : m α} (h : EvF K s te sd x) (hn : s.nd = true := by rfl) : EvM K te sd x := fun F σ B H k R a k' e Q q =>
  h F σ B H k R a k' e Q fun v B' H' R' g => by
    obtain ⟨B2, R2, g2, r⟩ := R'.frzX hn
    exact q v B2 H' R2 (g.trans g2) r

/-! ### operators -/
def OpM (K : PySem.W.Frag) [Enc α] [Enc β] [Enc γ] (r : R2) (a : α) (b : β) (z : m γ) : Prop := ∀ (F : Fr) (σ : L2.St) (B H : Hp) (sd : List SD) (k : Int), Rel K F σ B H sd k → ∀ va vb, Rp K B va (enc a) → Rp K B vb (enc b) →
  ∀ (c : γ) (k' : Int), Mn.run z k = some (c, k') → ∀ Q : VK, (∀ v B' H', Rel K F σ B' H' sd k' → Gr B B' → Rp K B' v (enc c) → Q v H') → r va vb H Q
theorem em_op [Enc α] [Enc β] [Enc γ] {r : R2} {x : m α} {y : m β} {f : α → β → m γ} (ha : EvM K ta sd x) (hb : EvM K tb sd y) (hr : ∀ a b, OpM K r a b (f a b)) :
    EvM K (tOp r ta tb) sd (Mn.bnd x fun a => Mn.bnd y fun b => f a b) := fun F σ B H k R c k' e Q q => by
  obtain ⟨a, k1, e1, e⟩ := bnd_some e
  obtain ⟨b, k2, e2, e3⟩ := bnd_some e
  refine ha F σ B H k R a k1 e1 _ fun va B1 H1 R1 g1 r1 => ?_
  refine hb F σ B1 H1 k1 R1 b k2 e2 _ fun vb B2 H2 R2 g2 r2 => ?_
  exact hr a b F σ B2 H2 sd k2 R2 va vb (r1.gr g2) r2 c k' e3 Q fun v B' H' R' g r => q v B' H' R' ((g1.trans g2).trans g) r
theorem om_I0 {g : Int → Int → Int} {a b : Int} : OpM K (rI0 fun i j => .int (g i j)) a b (Mn.pur (g a b) : m Int) := fun F σ B H sd k R va vb ra rb c k' e Q q => by
  obtain ⟨rfl, rfl⟩ := pur_some e
  exact ⟨a, b, Rp.int_inv ra, Rp.int_inv rb, q _ B H R (Gr.refl B) (.int _)⟩
theorem om_B0 {g : Int → Int → Bool} {a b : Int} : OpM K (rI0 fun i j => .bl (g i j)) a b (Mn.pur (g a b) : m Bool) := fun F σ B H sd k R va vb ra rb c k' e Q q => by
  obtain ⟨rfl, rfl⟩ := pur_some e
  exact ⟨a, b, Rp.int_inv ra, Rp.int_inv rb, q _ B H R (Gr.refl B) (.bl _)⟩
theorem om_I {C : Int → Int → Prop} {g : Int → Int → Int} {a b : Int} {P : Prop} [Decidable P] (hp : P → C a b) : OpM K (rI C fun i j => .int (g i j)) a b (gd P (Mn.pur (g a b)) : m Int) := fun F σ B H sd k R va vb ra rb c k' e Q q => by
  obtain ⟨hc, e⟩ := gd_some e
  obtain ⟨rfl, rfl⟩ := pur_some e
  exact ⟨a, b, Rp.int_inv ra, Rp.int_inv rb, hp hc, q _ B H R (Gr.refl B) (.int _)⟩
/-- two factors that a product takes -/
def MulOk (i j : Int) : Prop := ((-(2 ^ 64) < i ∧ i < 2 ^ 64) ∨ (-(2 ^ 64) < j ∧ j < 2 ^ 64)) ∨ i.natAbs.log2 + j.natAbs.log2 < 1000000
instance (i j : Int) : Decidable (MulOk i j) := by unfold MulOk; exact inferInstance
def DivOk (j : Int) : Prop := 0 < j ∧ j.natAbs.log2 < 9000
instance (j : Int) : Decidable (DivOk j) := by unfold DivOk; exact inferInstance
def rMul : R2 := rI MulOk fun i j => .int (i * j)
theorem op_mulU {X : Cx} : OpR X (binaryOp .Mult) rMul := fun pins s σ H x y v u Q I rx ry h => by
  obtain ⟨i, j, rfl, rfl, hc, q⟩ := h
  rcases hc with hc | hc
  · exact op_mul pins s σ H _ _ v u Q I rx ry ⟨i, j, rfl, rfl, hc, q⟩
  · exact op_mulW pins s σ H _ _ v u Q I rx ry ⟨i, j, rfl, rfl, hc, q⟩
theorem om_mul {a b : Int} : OpM K rMul a b (gd (MulOk a b) (Mn.pur (a * b)) : m Int) := om_I id
theorem om_fdiv {a b : Int} : OpM K (rI CDivW fun i j => .int (i / j)) a b (gd (DivOk b) (Mn.pur (a / b)) : m Int) := om_I id
theorem om_mod {a b : Int} : OpM K (rI (fun _ j => 0 < j) fun i j => .int (i % j)) a b (gd (0 < b) (Mn.pur (a % b)) : m Int) := om_I id
theorem om_catS {a b : Str} : OpM K (fun x y H Q => ∃ i j, x = .str i ∧ y = .str j ∧ i.length + j.length ≤ sizeLine ∧ Q (.str (i ++ j)) H) a b (gd (a.length + b.length ≤ sizeLine) (Mn.pur (a ++ b)) : m Str) := fun F σ B H sd k R va vb ra rb c k' e Q q => by
  obtain ⟨hc, e⟩ := gd_some e
  obtain ⟨rfl, rfl⟩ := pur_some e
  exact ⟨a, b, Rp.str_inv ra, Rp.str_inv rb, hc, q _ B H R (Gr.refl B) (.str _)⟩
theorem om_eqI {a b : Int} : OpM K rEq a b (Mn.pur (decide (a = b)) : m Bool) := fun F σ B H sd k R va vb ra rb c k' e Q q => by
  obtain ⟨rfl, rfl⟩ := pur_some e
  rw [Rp.int_inv ra, Rp.int_inv rb]
  refine ⟨rfl, ?_⟩
  have z : decide (V.int a = V.int b) = decide (a = b) := by
    by_cases c : a = b
    · subst c; simp
    · rw [decide_eq_false c, decide_eq_false (fun h => c (V.int.inj h))]
  rw [z]
  exact q _ B H R (Gr.refl B) (.bl _)
theorem om_neI {a b : Int} : OpM K rNe a b (Mn.pur (!decide (a = b)) : m Bool) := fun F σ B H sd k R va vb ra rb c k' e Q q => by
  obtain ⟨rfl, rfl⟩ := pur_some e
  rw [Rp.int_inv ra, Rp.int_inv rb]
  refine ⟨rfl, ?_⟩
  have z : decide (V.int a = V.int b) = decide (a = b) := by
    by_cases c : a = b
    · subst c; simp
    · rw [decide_eq_false c, decide_eq_false (fun h => c (V.int.inj h))]
  rw [z]
  exact q _ B H R (Gr.refl B) (.bl _)
theorem om_eqS {a b : Str} : OpM K rEq a b (Mn.pur (decide (a = b)) : m Bool) := fun F σ B H sd k R va vb ra rb c k' e Q q => by
  obtain ⟨rfl, rfl⟩ := pur_some e
  rw [Rp.str_inv ra, Rp.str_inv rb]
  refine ⟨rfl, ?_⟩
  have z : decide (V.str a = V.str b) = decide (a = b) := by
    by_cases c : a = b
    · subst c; simp
    · rw [decide_eq_false c, decide_eq_false (fun h => c (V.str.inj h))]
  rw [z]
  exact q _ B H R (Gr.refl B) (.bl _)
theorem om_neS {a b : Str} : OpM K rNe a b (Mn.pur (!decide (a = b)) : m Bool) := fun F σ B H sd k R va vb ra rb c k' e Q q => by
  obtain ⟨rfl, rfl⟩ := pur_some e
  rw [Rp.str_inv ra, Rp.str_inv rb]
  refine ⟨rfl, ?_⟩
  have z : decide (V.str a = V.str b) = decide (a = b) := by
    by_cases c : a = b
    · subst c; simp
    · rw [decide_eq_false c, decide_eq_false (fun h => c (V.str.inj h))]
  rw [z]
  exact q _ B H R (Gr.refl B) (.bl _)
/-- whether two data are told alike; both of a depth that can be looked at -/
def Shp (d : D) : Bool := SeqAt.shaped d.py && d.pl
def deqv (d e : D) : Bool := PyData.eqv d.py e.py
theorem om_eqD [Enc α] [Enc β] {a : α} {b : β} : OpM K (rEqD K) a b (gd (Shp (enc a) = true ∧ Shp (enc b) = true) (Mn.pur (deqv (enc a) (enc b))) : m Bool) := fun F σ B H sd k R va vb ra rb c k' e Q q => by
  obtain ⟨hc, e⟩ := gd_some e
  obtain ⟨rfl, rfl⟩ := pur_some e
  exact ⟨_, _, (ra.gr R.bh).dp (Bool.and_eq_true_iff.mp hc.1).2, (rb.gr R.bh).dp (Bool.and_eq_true_iff.mp hc.2).2, (Bool.and_eq_true_iff.mp hc.1).1, (Bool.and_eq_true_iff.mp hc.2).1, q _ B H R (Gr.refl B) (.bl _)⟩
theorem om_neD [Enc α] [Enc β] {a : α} {b : β} : OpM K (rNeD K) a b (gd (Shp (enc a) = true ∧ Shp (enc b) = true) (Mn.pur (!deqv (enc a) (enc b))) : m Bool) := fun F σ B H sd k R va vb ra rb c k' e Q q => by
  obtain ⟨hc, e⟩ := gd_some e
  obtain ⟨rfl, rfl⟩ := pur_some e
  exact ⟨_, _, (ra.gr R.bh).dp (Bool.and_eq_true_iff.mp hc.1).2, (rb.gr R.bh).dp (Bool.and_eq_true_iff.mp hc.2).2, (Bool.and_eq_true_iff.mp hc.1).1, (Bool.and_eq_true_iff.mp hc.2).1, q _ B H R (Gr.refl B) (.bl _)⟩
theorem em_neg {x : m Int} (ha : EvM K ta sd x) : EvM K (tUn (rU fun i => .int (-i)) ta) sd (Mn.bnd x fun a => Mn.pur (-a)) := fun F σ B H k R c k' e Q q => by
  obtain ⟨a, k1, e1, e⟩ := bnd_some e
  obtain ⟨rfl, rfl⟩ := pur_some e
  exact ha F σ B H k R a k' e1 _ fun va B1 H1 R1 g1 r1 => ⟨a, Rp.int_inv r1, q _ B1 H1 R1 g1 (.int _)⟩

/-! ### items -/
theorem atI_rps {xs : List V} {ds : List D} {B : Hp} (r : Rps K B xs ds) {i : Int} {d : D} (h : atI ds i = some d) : ∃ v, atI xs i = some v ∧ Rp K B v d := by
  unfold atI at h ⊢
  rw [r.len]
  cases e : ixN ds.length i with
  | none => rw [e] at h; cases h
  | some j => rw [e] at h; exact r.get h
theorem atI_map {β : Type} (f : α → β) (xs : List α) (i : Int) : atI (xs.map f) i = (atI xs i).map f := by
  unfold atI
  rw [List.length_map]
  cases ixN xs.length i with
  | none => rfl
  | some j => exact List.getElem?_map
theorem om_ixL [Enc α] {a : List α} {i : Int} : OpM K (rIxL K) a i (lift (atI a i) : m α) := fun F σ B H sd k R va vb ra rb c k' e Q q => by
  obtain ⟨hc, rfl⟩ := lift_some e
  obtain ⟨p, xs, rfl, hp, hs⟩ := Rp.lst_inv ra
  have h2 : atI (a.map enc) i = some (enc c) := by rw [atI_map, hc] <;> rfl
  obtain ⟨v, hv, rv⟩ := atI_rps hs h2
  exact ⟨p, xs, i, v, rfl, Rp.int_inv rb, SqL.of (R.bh _ _ hp), hv, q v B H R (Gr.refl B) rv⟩
theorem om_ixT [Enc α] {a : Tl α} {i : Int} : OpM K (rIxT K) a i (lift (atI a.l i) : m α) := fun F σ B H sd k R va vb ra rb c k' e Q q => by
  obtain ⟨hc, rfl⟩ := lift_some e
  obtain ⟨p, xs, rfl, hp, hs⟩ := Rp.tup_inv ra
  have h2 : atI (a.l.map enc) i = some (enc c) := by rw [atI_map, hc] <;> rfl
  obtain ⟨v, hv, rv⟩ := atI_rps hs h2
  exact ⟨p, xs, i, v, rfl, Rp.int_inv rb, R.bh.sqT hp, hv, q v B H R (Gr.refl B) rv⟩
def sgn (c : Nat) : Str := ⟨#[c]⟩
theorem om_ixS {a : Str} {i : Int} : OpM K rIxS a i (gd (a.length ≤ sizeLine) (Mn.bnd (lift (atI a.cps.toList i)) fun c => Mn.pur (sgn c)) : m Str) := fun F σ B H sd k R va vb ra rb c k' e Q q => by
  obtain ⟨hg, e⟩ := gd_some e
  obtain ⟨d, k1, e1, e2⟩ := bnd_some e
  obtain ⟨hc, rfl⟩ := lift_some e1
  obtain ⟨rfl, rfl⟩ := pur_some e2
  exact ⟨a, i, d, Rp.str_inv ra, Rp.int_inv rb, hg, hc, q _ B H R (Gr.refl B) (.str _)⟩

/-! ### tests, truth -/
theorem eb_B {x : m Bool} (h : EvM K te sd x) : EvB K (tB te) sd x := fun F σ B H k R b k' e Q q =>
  h F σ B H k R b k' e _ fun v B' H' R' g r => ⟨b, Rp.bl_inv r, q B' H' R' g⟩
theorem eb_T {x : m Bool} (h : EvM K te sd x) : EvB K (tTest te) sd x := fun F σ B H k R b k' e Q q =>
  h F σ B H k R b k' e _ fun v B' H' R' g r => ⟨b, Rp.bl_inv r, q B' H' R' g⟩
def cnd {ω : Type} (b : Bool) (x y : ω) : ω := match b with
  | true => x
  | false => y
variable {t u : TT}
theorem eb_and {x y : m Bool} (h1 : EvB K t sd x) (h2 : EvB K u sd y) : EvB K (tAnd t u) sd (Mn.bnd x fun a => cnd a y (Mn.pur false)) := fun F σ B H k R b k' e Q q => by
  obtain ⟨a, k1, e1, e⟩ := bnd_some e
  refine h1 F σ B H k R a k1 e1 _ fun B1 H1 R1 g1 => ?_
  cases a with
  | true => exact h2 F σ B1 H1 k1 R1 b k' e Q fun B' H' R' g => q B' H' R' (g1.trans g)
  | false => obtain ⟨rfl, rfl⟩ := pur_some e; exact q B1 H1 R1 g1
theorem eb_or {x y : m Bool} (h1 : EvB K t sd x) (h2 : EvB K u sd y) : EvB K (tOr t u) sd (Mn.bnd x fun a => cnd a (Mn.pur true) y) := fun F σ B H k R b k' e Q q => by
  obtain ⟨a, k1, e1, e⟩ := bnd_some e
  refine h1 F σ B H k R a k1 e1 _ fun B1 H1 R1 g1 => ?_
  cases a with
  | false => exact h2 F σ B1 H1 k1 R1 b k' e Q fun B' H' R' g => q B' H' R' (g1.trans g)
  | true => obtain ⟨rfl, rfl⟩ := pur_some e; exact q B1 H1 R1 g1
theorem eb_not {x : m Bool} (h1 : EvB K t sd x) : EvB K (tNot t) sd (Mn.bnd x fun a => Mn.pur (!a)) := fun F σ B H k R b k' e Q q => by
  obtain ⟨a, k1, e1, e2⟩ := bnd_some e
  obtain ⟨rfl, rfl⟩ := pur_some e2
  exact h1 F σ B H k R a _ e1 _ fun B1 H1 R1 g1 => q B1 H1 R1 g1
theorem em_and {x y : m Bool} (h1 : EvM K ta sd x) (h2 : EvM K tb sd y) : EvM K (tAndV ta tb) sd (Mn.bnd x fun a => cnd a y (Mn.pur false)) := fun F σ B H k R b k' e Q q => by
  obtain ⟨a, k1, e1, e⟩ := bnd_some e
  refine h1 F σ B H k R a k1 e1 _ fun v B1 H1 R1 g1 r1 => ⟨a, Rp.bl_inv r1, ?_⟩
  cases a with
  | true => exact h2 F σ B1 H1 k1 R1 b k' e Q fun v B' H' R' g => q v B' H' R' (g1.trans g)
  | false => obtain ⟨rfl, rfl⟩ := pur_some e; exact q _ B1 H1 R1 g1 (.bl _)
theorem em_or {x y : m Bool} (h1 : EvM K ta sd x) (h2 : EvM K tb sd y) : EvM K (tOrV ta tb) sd (Mn.bnd x fun a => cnd a (Mn.pur true) y) := fun F σ B H k R b k' e Q q => by
  obtain ⟨a, k1, e1, e⟩ := bnd_some e
  refine h1 F σ B H k R a k1 e1 _ fun v B1 H1 R1 g1 r1 => ⟨a, Rp.bl_inv r1, ?_⟩
  cases a with
  | false => exact h2 F σ B1 H1 k1 R1 b k' e Q fun v B' H' R' g => q v B' H' R' (g1.trans g)
  | true => obtain ⟨rfl, rfl⟩ := pur_some e; exact q _ B1 H1 R1 g1 (.bl _)
theorem em_not {x : m Bool} (h1 : EvM K ta sd x) : EvM K (tNotV ta) sd (Mn.bnd x fun a => Mn.pur (!a)) := fun F σ B H k R b k' e Q q => by
  obtain ⟨a, k1, e1, e2⟩ := bnd_some e
  obtain ⟨rfl, rfl⟩ := pur_some e2
  exact h1 F σ B H k R a _ e1 _ fun v B1 H1 R1 g1 r1 => ⟨a, Rp.bl_inv r1, q _ B1 H1 R1 g1 (.bl _)⟩
theorem em_if [Enc α] {x : m Bool} {y z : m α} (h : EvB K t sd x) (h1 : EvM K ta sd y) (h2 : EvM K tb sd z) : EvM K (tIf t ta tb) sd (Mn.bnd x fun b => cnd b y z) := fun F σ B H k R c k' e Q q => by
  obtain ⟨b, k1, e1, e⟩ := bnd_some e
  refine h F σ B H k R b k1 e1 _ fun B1 H1 R1 g1 => ?_
  cases b with
  | true => exact h1 F σ B1 H1 k1 R1 c k' e Q fun v B' H' R' g r => q v B' H' R' (g1.trans g) r
  | false => exact h2 F σ B1 H1 k1 R1 c k' e Q fun v B' H' R' g r => q v B' H' R' (g1.trans g) r

/-! ### arguments, displays -/
theorem ea_nil : EvA K tNil sd (Mn.pur () : m Unit) (fun _ => []) := fun F σ B H k R b k' e Q q => by
  obtain ⟨rfl, rfl⟩ := pur_some e
  exact q [] B H R (Gr.refl B) .nil
theorem ea_cons [Enc α] {tr : TA} {x : m α} {y : m β} {g : β → List D} (h : EvM K te sd x) (hr : EvA K tr sd y g) : EvA K (tCons te tr) sd (Mn.bnd x fun a => Mn.bnd y fun b => Mn.pur (a, b)) (fun p => enc p.1 :: g p.2) := fun F σ B H k R c k' e Q q => by
  obtain ⟨a, k1, e1, e⟩ := bnd_some e
  obtain ⟨b, k2, e2, e⟩ := bnd_some e
  obtain ⟨rfl, rfl⟩ := pur_some e
  refine h F σ B H k R a k1 e1 _ fun v B1 H1 R1 g1 r1 => ?_
  exact hr F σ B1 H1 k1 R1 b _ e2 _ fun vs B2 H2 R2 g2 r2 => q (v :: vs) B2 H2 R2 (g1.trans g2) (.cons (r1.gr g2) r2)
/-- the arguments' values, told by another function of them -/
theorem ea_map {tr : TA} {y : m β} {g : β → List D} {z : m γ} {g' : γ → List D} (h : EvA K tr sd y g) (hz : ∀ k c k', Mn.run z k = some (c, k') → ∃ b, Mn.run y k = some (b, k') ∧ g b = g' c) : EvA K tr sd z g' := fun F σ B H k R c k' e Q q => by
  obtain ⟨b, e1, e2⟩ := hz k c k' e
  exact h F σ B H k R b k' e1 Q fun vs B' H' R' g r => q vs B' H' R' g (e2 ▸ r)
theorem ea_1 [Enc α] {x : m α} (h : EvM K te sd x) : EvA K (tCons te tNil) sd x (fun a => [enc a]) := fun F σ B H k R c k' e Q q =>
  h F σ B H k R c k' e _ fun v B1 H1 R1 g1 r1 => q [v] B1 H1 R1 g1 (.cons r1 .nil)
variable {t1 t2 t3 t4 t5 t6 : TE}
theorem ea_2 [Enc α] [Enc β] {x : m α} {y : m β} (h1 : EvM K t1 sd x) (h2 : EvM K t2 sd y) : EvA K (tCons t1 (tCons t2 tNil)) sd (Mn.bnd x fun a => Mn.bnd y fun b => Mn.pur (a, b)) (fun p => [enc p.1, enc p.2]) :=
  ea_cons h1 (ea_1 h2)
/-- a tuple of written length, as a value of a type of its own -/
theorem em_tup {tr : TA} [Enc β] {y : m β} {g : β → List D} (h : EvA K tr sd y g) (hg : ∀ b, enc b = .tup (g b)) (hl : ∀ b, (g b).length ≤ 1000) : EvM K (tTup tr) sd y := fun F σ B H k R c k' e Q q =>
  h F σ B H k R c k' e _ fun vs B1 H1 R1 g1 r1 => ⟨by rw [r1.len]; exact Nat.le_trans (hl c) (by decide), fun p hp => by
    obtain ⟨R2, g2⟩ := R1.data (o := .tup vs) hp
    exact q (.ref p) _ _ R2 (g1.trans g2) (by rw [hg]; exact .tup (.inl (.inl upd_same)) (r1.gr g2))⟩
theorem em_tup2 [Enc α] [Enc β] {x : m α} {y : m β} (h1 : EvM K t1 sd x) (h2 : EvM K t2 sd y) : EvM K (tTup (tCons t1 (tCons t2 tNil))) sd (Mn.bnd x fun a => Mn.bnd y fun b => Mn.pur (a, b)) :=
  em_tup (ea_2 h1 h2) (fun _ => rfl) fun _ => (by decide : 2 ≤ 1000)
theorem ef_lst [Enc α] {tr : TA} {y : m (List α)} (h : EvA K tr sd y (fun xs => xs.map enc)) : EvF K (.lst .dat) (tLst tr) sd (Mn.bnd y fun xs => gd (xs.length ≤ 1000) (Mn.pur xs)) := fun F σ B H k R c k' e Q q => by
  obtain ⟨xs, k1, e1, e⟩ := bnd_some e
  obtain ⟨hl, e⟩ := gd_some e
  obtain ⟨rfl, rfl⟩ := pur_some e
  refine h F σ B H k R c _ e1 _ fun vs B1 H1 R1 g1 r1 => ⟨?_, fun p hp => ?_⟩
  · rw [r1.len, List.length_map]; exact Nat.le_trans hl (by decide)
  · exact q _ B1 _ (R1.newL hp r1) g1
theorem el_nil [Enc α] : EvA K tNil sd (Mn.pur [] : m (List α)) (fun xs => xs.map enc) := fun F σ B H k R b k' e Q q => by
  obtain ⟨rfl, rfl⟩ := pur_some e
  exact q [] B H R (Gr.refl B) .nil
theorem el_cons [Enc α] {tr : TA} {x : m α} {y : m (List α)} (h : EvM K te sd x) (hr : EvA K tr sd y (fun xs => xs.map enc)) : EvA K (tCons te tr) sd (Mn.bnd x fun a => Mn.bnd y fun b => Mn.pur (a :: b)) (fun xs => xs.map enc) := fun F σ B H k R c k' e Q q => by
  obtain ⟨a, k1, e1, e⟩ := bnd_some e
  obtain ⟨b, k2, e2, e⟩ := bnd_some e
  obtain ⟨rfl, rfl⟩ := pur_some e
  refine h F σ B H k R a k1 e1 _ fun v B1 H1 R1 g1 r1 => ?_
  exact hr F σ B1 H1 k1 R1 b _ e2 _ fun vs B2 H2 R2 g2 r2 => q (v :: vs) B2 H2 R2 (g1.trans g2) (.cons (r1.gr g2) r2)

end
end ON

set_option Elab.async false
set_option linter.all false
set_option maxRecDepth 100000
set_option maxHeartbeats 2000000
/-! N4: calls of defs. -/
namespace ON
open PySem L2

/-- arguments: data, or the state -/
def Arps (K : PySem.W.Frag) (B : Hp) (a : Addr) : List V → List (Option D) → Prop
  | [], [] => True
  | v :: vs, some d :: ds => Rp K B v d ∧ Arps K B a vs ds
  | v :: vs, none :: ds => v = .ref a ∧ Arps K B a vs ds
  | _, _ => False
/-- a def that hands back something of shape s and leaves what stands -/
def spP (K : PySem.W.Frag) (n : Nat) (s : Sh) (pre : List D → D → Prop) : Sp := fun vs H Q _ => ∃ (B : Hp) (ds : List D) (r : D), pre ds r ∧ vs.length = n ∧ Gr B H ∧ Rps K B vs ds ∧
  ∀ v B' H' f, Gr B B' → Gr B' H' → Gr H H' → (∀ a o, B' a = some o → B a = none → H a = none) → Ow K B' H' s v r f → f.Nodup → (∀ a ∈ f, B' a = none ∧ H a = none) → Q v H'
/-- one that draws from the state -/
def spS (K : PySem.W.Frag) (n : Nat) (s : Sh) (pre : SK → List (Option D) → Int → D → Int → Prop) : Sp := fun vs H Q _ => ∃ (B : Hp) (a : Addr) (q : Sa) (ds : List (Option D)) (k : Int) (r : D) (k' : Int),
  pre q.q ds k r k' ∧ vs.length = n ∧ Gr B H ∧ StAt K B H a q k ∧ Arps K B a vs ds ∧
  ∀ v B' H' f, Gr B B' → Gr B' H' → (∀ b o, b ≠ a → H b = some o → H' b = some o) → StAt K B' H' a q k' → (∀ b o, B' b = some o → B b = none → H b = none) → Ow K B' H' s v r f → f.Nodup → (∀ b ∈ f, B' b = none ∧ H b = none) → Q v H'
/-- the arguments of a def that draws -/
def EvAS (K : PySem.W.Frag) {m : Type → Type} [Mn m] {α : Type} (ta : TA) (sd : List SD) (x : m α) (g : α → List (Option D)) : Prop := ∀ (F : Fr) (σ : L2.St) (B H : Hp) (k : Int) (a : Addr) (q : Sa), F.sa = some (a, q) → Rel K F σ B H sd k → ∀ (c : α) (k' : Int), Mn.run x k = some (c, k') →
  ∀ Q : List V → Hp → Prop, (∀ vs B' H', Rel K F σ B' H' sd k' → Gr B B' → Arps K B' a vs (g c) → Q vs H') → ta σ H Q
/-- .. of one whose state is made for it: {'left': k0}, the last argument -/
def EvAT (K : PySem.W.Frag) {m : Type → Type} [Mn m] {α : Type} (ta : TA) (sd : List SD) (x : m α) (g : α → List (Option D)) (k0 : α → Int) : Prop := ∀ (F : Fr) (σ : L2.St) (B H : Hp) (k : Int), Rel K F σ B H sd k → ∀ (c : α) (k' : Int), Mn.run x k = some (c, k') →
  ∀ Q : List V → Hp → Prop, (∀ a vs B' H', Rel K (F.push (.ref a) (.dic .dat) (.dic [.inr "left"] [.int (k0 c)])) σ B' H' sd k' → Gr B B' → Arps K B' a vs (g c) → Q vs H') → ta σ H Q
theorem Arps.gr {K : PySem.W.Frag} {B C : Hp} {a : Addr} (g : Gr B C) : ∀ {vs : List V} {ds : List (Option D)}, Arps K B a vs ds → Arps K C a vs ds
  | [], [], _ => trivial
  | _ :: _, some _ :: _, ⟨h, hs⟩ => ⟨h.gr g, Arps.gr g hs⟩
  | _ :: _, none :: _, ⟨h, hs⟩ => ⟨h, Arps.gr g hs⟩
  | [], _ :: _, h => by cases h
  | _ :: _, [], h => by cases h
theorem Arps.len {K : PySem.W.Frag} {B : Hp} {a : Addr} : ∀ {vs : List V} {ds : List (Option D)}, Arps K B a vs ds → vs.length = ds.length
  | [], [], _ => rfl
  | _ :: _, some _ :: _, ⟨_, hs⟩ => by rw [List.length_cons, List.length_cons, Arps.len hs]
  | _ :: _, none :: _, ⟨_, hs⟩ => by rw [List.length_cons, List.length_cons, Arps.len hs]
  | [], _ :: _, h => by cases h
  | _ :: _, [], h => by cases h
section
variable {K : PySem.W.Frag} {m : Type → Type} [Mn m] {α β γ δ τ τ' l ρ : Type} {sd : List SD} {ta tb te : TE}
/-- the call of a pure def: what its mirror says -/
theorem ef_call {tr : TA} [Enc γ] {n : Nat} {s : Sh} {pre : List D → D → Prop} {E : XK} {dvs : List V} {dds : List D} {y : m β} {g : β → List D} {f : β → Option γ} (h : EvA K tr sd y g) (hd : ∀ B, Rps K B dvs dds) (hn : ∀ b, (g b ++ dds).length = n) (hp : ∀ b r, f b = some r → pre (g b ++ dds) (enc r)) :
    EvF K s (tCall (spP K n s pre) dvs E tr) sd (Mn.bnd y fun b => lift (f b)) := fun F σ B H k R c k' e Q q => by
  obtain ⟨b, k1, e1, e⟩ := bnd_some e
  obtain ⟨hf, rfl⟩ := lift_some e
  refine h F σ B H k R b _ e1 _ fun vs B1 H1 R1 g1 r1 => ?_
  have rr := r1.app (hd B1)
  exact ⟨B1, g b ++ dds, enc c, hp b c hf, by rw [rr.len, hn], R1.bh, rr, fun v B' H' f g2 g3 g4 hn w nd hf => q v B' H' (R1.push w nd hf g2 g3 g4 hn) (g1.trans g2)⟩
theorem em_call {tr : TA} [Enc γ] {n : Nat} {pre : List D → D → Prop} {E : XK} {dvs : List V} {dds : List D} {y : m β} {g : β → List D} {f : β → Option γ} (h : EvA K tr sd y g) (hd : ∀ B, Rps K B dvs dds) (hn : ∀ b, (g b ++ dds).length = n) (hp : ∀ b r, f b = some r → pre (g b ++ dds) (enc r)) :
    EvM K (tCall (spP K n .dat pre) dvs E tr) sd (Mn.bnd y fun b => lift (f b)) := em_ofF (ef_call h hd hn hp)
theorem Rel.drewX {F : Fr} {σ : L2.St} {B H B' H' : Hp} {k k' : Int} {a : Addr} {q : Sa} {v : V} {s : Sh} {r : D} {f : List Addr} (R : Rel K F σ B H sd k) (hs : F.sa = some (a, q)) (g1 : Gr B B') (g2 : Gr B' H') (g3 : ∀ b o, b ≠ a → H b = some o → H' b = some o) (hS : StAt K B' H' a q k')
    (hn : ∀ a o, B' a = some o → B a = none → H a = none) (w : Ow K B' H' s v r f) (nd : f.Nodup) (hf : ∀ b ∈ f, B' b = none ∧ H b = none) : Rel K (F.push v s r) σ B' H' sd k' := by
  have hS0 := R.st _ hs
  obtain ⟨o0, ho0⟩ := hS0.inH
  have na : a ∉ f := fun m => by have z := (hf a m).2; rw [show H a = some o0 from ho0] at z; cases z
  let H2 : Hp := fun b => if b = a then H b else H' b
  have e2 : ∀ b, b ≠ a → H2 b = H' b := fun b ne => by show (if b = a then H b else H' b) = _; rw [if_neg ne]
  have ea : H2 a = H a := by show (if a = a then H a else H' a) = _; rw [if_pos rfl]
  have gB2 : Gr B' H2 := fun b o e => by
    by_cases c : b = a
    · subst c; rw [hS.1] at e; cases e
    · rw [e2 b c]; exact g2 b o e
  have gH2 : Gr H H2 := fun b o e => by
    by_cases c : b = a
    · subst c; rw [ea]; exact e
    · rw [e2 b c]; exact g3 b o c e
  have w2 : Ow K B' H2 s v r f := w.frame (Gr.refl _) fun b m => e2 b fun z => na (z ▸ m)
  have R2 := R.push w2 nd hf g1 gB2 gH2 hn
  exact R2.drew (F := F.push v s r) hs (Gr.refl _) g2 (fun b o ne e => by rw [e2 b ne] at e; exact e) hS fun b o e e0 => by rw [e] at e0; cases e0
theorem ef_draw {tr : TA} [Enc γ] {n : Nat} {s : Sh} {pre : SK → List (Option D) → Int → D → Int → Prop} {E : XK} {i : Nat} {q : SK} {y : Sm β} {g : β → List (Option D)} {f : β → Sm γ} (hi : sd[i]? = some (.sr q)) (h : EvAS K tr sd y g)
    (hn : ∀ b, (g b).length = n) (hp : ∀ b k r k', f b k = some (r, k') → pre q (g b) k (enc r) k') : EvF K s (tCall (spS K n s pre) [] E tr) sd (Mn.bnd y f) := fun F σ B H k R z k' e Q q => by
  obtain ⟨b, k1, e1, e⟩ := bnd_some e
  obtain ⟨o, _, ho, ⟨_, a, w0, rfl, hs, rfl⟩, _⟩ := R.slot hi
  refine h F σ B H k a _ hs R b _ e1 _ fun vs B1 H1 R1 g1 r1 => ?_
  have hS := R1.st _ hs
  refine ⟨B1, a, _, g b, k1, enc z, k', hp b k1 z k' e, ?_, R1.bh, hS, by rw [List.append_nil]; exact r1, fun v B' H' f g2 g3 g4 hS' hn' w nd hf => ?_⟩
  · rw [List.append_nil, r1.len, hn]
  · exact q v B' H' (R1.drewX hs g2 g3 g4 hS' hn' w nd hf) (g1.trans g2)
theorem em_draw {tr : TA} [Enc γ] {n : Nat} {pre : SK → List (Option D) → Int → D → Int → Prop} {E : XK} {i : Nat} {q : SK} {y : Sm β} {g : β → List (Option D)} {f : β → Sm γ} (hi : sd[i]? = some (.sr q)) (h : EvAS K tr sd y g)
    (hn : ∀ b, (g b).length = n) (hp : ∀ b k r k', f b k = some (r, k') → pre q (g b) k (enc r) k') : EvM K (tCall (spS K n .dat pre) [] E tr) sd (Mn.bnd y f) := em_ofF (ef_draw hi h hn hp)
/-- arguments of a def that draws -/
theorem ea_nilS : EvAS K tNil sd (Mn.pur () : m Unit) (fun _ => []) := fun F σ B H k a q hs R b k' e Q q => by
  obtain ⟨rfl, rfl⟩ := pur_some e
  exact q [] B H R (Gr.refl B) trivial
theorem ea_st {i : Nat} {q : SK} {tr : TA} {y : m β} {g : β → List (Option D)} (hi : sd[i]? = some (.sr q)) (hr : EvAS K tr sd y g) : EvAS K (tCons (tVar i) tr) sd y (fun b => none :: g b) := fun F σ B H k a q hs R c k' e Q q => by
  obtain ⟨o, _, ho, ⟨_, a2, w0, rfl, hs2, rfl⟩, _⟩ := R.slot hi
  rw [hs] at hs2; cases hs2
  exact ⟨_, ho, hr F σ B H k a _ hs R c k' e _ fun vs B' H' R' g' r' => q (.ref a :: vs) B' H' R' g' ⟨rfl, r'⟩⟩
theorem ea_dt [Enc α] {tr : TA} {x : m α} {y : m β} {g : β → List (Option D)} (h : EvM K te sd x) (hr : EvAS K tr sd y g) : EvAS K (tCons te tr) sd (Mn.bnd x fun a => Mn.bnd y fun b => Mn.pur (a, b)) (fun p => some (enc p.1) :: g p.2) := fun F σ B H k a q hs R c k' e Q q => by
  obtain ⟨b, k1, e1, e⟩ := bnd_some e
  obtain ⟨d, k2, e2, e⟩ := bnd_some e
  obtain ⟨rfl, rfl⟩ := pur_some e
  refine h F σ B H k R b k1 e1 _ fun v B1 H1 R1 g1 r1 => ?_
  exact hr F σ B1 H1 k1 a _ hs R1 d _ e2 _ fun vs B2 H2 R2 g2 r2 => q (v :: vs) B2 H2 R2 (g1.trans g2) ⟨r1.gr g2, r2⟩
theorem ea_dt1 [Enc α] {x : m α} (h : EvM K te sd x) : EvAS K (tCons te tNil) sd x (fun p => [some (enc p)]) := fun F σ B H k a q hs R c k' e Q q =>
  h F σ B H k R c k' e _ fun v B1 H1 R1 g1 r1 => q [v] B1 H1 R1 g1 ⟨r1, trivial⟩
/-- a state made for the call -/
theorem et_new {x : m Int} (h : EvM K te sd x) : EvAT K (tCons (tDisp [(tC (.str "left"), te)]) tNil) sd x (fun _ => [none]) id := fun F σ B H k R c k' e Q q => by
  intro p hp
  -- the dict stands empty while its value is reckoned
  have R0 := R.newD (ks := []) (vs := []) (ds := []) hp rfl .nil
  refine h (F.push (.ref p) (.dic .dat) (.dic [] [])) σ B _ k R0 c k' e _ fun v B1 H1 R1 g1 r1 => ?_
  rw [Rp.int_inv r1]
  obtain ⟨f, w, nd, hf, q1⟩ := R1.top
  obtain ⟨a, ks, vs, ds, ea, ed, rfl, hl, hH, hv⟩ := ow_dicd.mp w
  cases ea
  cases ed
  have ev : vs = [] := List.length_eq_zero_iff.mp hl.symm
  subst ev
  refine ⟨hH, [(.inr "left", .int c)], rfl, (by decide : 1 ≤ 15), ?_⟩
  have hb := (hf p (List.mem_singleton.mpr rfl)).1
  have z := q1 B1 (upd H1 p (.dK (mergeK [] [((.inr "left" : Key), V.int c)]))) (fun a u na e => by rw [upd_ne (fun z => na (List.mem_singleton.mpr z))]; exact e) (Gr.refl _) (R1.bh.mut hb) fun a u e e0 => by rw [e] at e0; cases e0
  refine q p [.ref p] B1 _ (z.2.1 (.ref p) (.dic .dat) _ [p] (ow_dicd.mpr ⟨p, [.inr "left"], [.int c], [.int c], rfl, rfl, rfl, rfl, upd_same, .cons (.int c) .nil⟩) (by simp) fun a m => ⟨(hf a m).1, .inl m⟩) g1 ⟨rfl, trivial⟩
theorem et_dt [Enc α] {tr : TA} {x : m α} {y : m β} {g : β → List (Option D)} {k0 : β → Int} (h : EvM K te sd x) (hr : EvAT K tr sd y g k0) : EvAT K (tCons te tr) sd (Mn.bnd x fun a => Mn.bnd y fun b => Mn.pur (a, b)) (fun p => some (enc p.1) :: g p.2) (fun p => k0 p.2) := fun F σ B H k R c k' e Q q => by
  obtain ⟨b, k1, e1, e⟩ := bnd_some e
  obtain ⟨d, k2, e2, e⟩ := bnd_some e
  obtain ⟨rfl, rfl⟩ := pur_some e
  refine h F σ B H k R b k1 e1 _ fun v B1 H1 R1 g1 r1 => ?_
  exact hr F σ B1 H1 k1 R1 d _ e2 _ fun a vs B2 H2 R2 g2 r2 => q a (v :: vs) B2 H2 R2 (g1.trans g2) ⟨r1.gr g2, r2⟩
theorem ef_callT {tr : TA} [Enc γ] {n : Nat} {s : Sh} {pre : SK → List (Option D) → Int → D → Int → Prop} {E : XK} {y : m β} {g : β → List (Option D)} {k0 : β → Int} {f : β → Sm γ} (h : EvAT K tr sd y g k0)
    (hn : ∀ b, (g b).length = n) (hp : ∀ b k r k', f b k = some (r, k') → pre .left (g b) k (enc r) k') : EvF K s (tCall (spS K n s pre) [] E tr) sd (Mn.bnd y fun b => lift ((f b (k0 b)).map (·.1))) := fun F σ B H k R z k' e Q q => by
  obtain ⟨b, k1, e1, e⟩ := bnd_some e
  obtain ⟨hm, rfl⟩ := lift_some e
  obtain ⟨p, hf, rfl⟩ := Option.map_eq_some_iff.mp hm
  obtain ⟨z, k2⟩ := p
  refine h F σ B H k R b _ e1 _ fun a vs B1 H1 R1 g1 r1 => ?_
  obtain ⟨fp, w, nd, hf1, q1⟩ := R1.top
  obtain ⟨a', ks, ws, ds, ea, ed, rfl, hl, hH, hv⟩ := ow_dicd.mp w
  cases ea; cases ed
  have hH2 : H1 a = some (.dK [(.inr "left", .int (k0 b))]) := by
    match ws, hl, hv with
    | [w1], _, hv =>
      cases hv with | cons hv _ => rw [Rp.int_inv hv] at hH; exact hH
  have hb := (hf1 a (List.mem_singleton.mpr rfl)).1
  refine ⟨B1, a, ⟨.left, a, none⟩, g b, k0 b, enc z, k2, hp b _ z k2 hf, ?_, R1.bh, ⟨hb, hH2⟩, by rw [List.append_nil]; exact r1, fun v B' H' fv g2 g3 g4 hS' hn' w2 nd2 hf2 => ?_⟩
  · rw [List.append_nil, r1.len, hn]
  · -- the state made for the call is dropped
    have key := q1 B' H' (fun c u nc e => g4 c u (fun z => nc (List.mem_singleton.mpr z)) e) g2 g3 fun c u e e0 => .inr (hn' c u e e0)
    exact q v B' H' (key.2.1 v s _ fv w2 nd2 fun c m => ⟨(hf2 c m).1, .inr (hf2 c m).2⟩) (g1.trans g2)
theorem em_callT {tr : TA} [Enc γ] {n : Nat} {pre : SK → List (Option D) → Int → D → Int → Prop} {E : XK} {y : m β} {g : β → List (Option D)} {k0 : β → Int} {f : β → Sm γ} (h : EvAT K tr sd y g k0)
    (hn : ∀ b, (g b).length = n) (hp : ∀ b k r k', f b k = some (r, k') → pre .left (g b) k (enc r) k') : EvM K (tCall (spS K n .dat pre) [] E tr) sd (Mn.bnd y fun b => lift ((f b (k0 b)).map (·.1))) := em_ofF (ef_callT h hn hp)
end
end ON

set_option Elab.async false
set_option linter.all false
set_option maxRecDepth 100000
set_option maxHeartbeats 2000000
/-! zip of a tuple and a list -/
namespace ON
open PySem PySem.Spec PyProof.Rows L2
def ItM (K : PySem.W.Frag) (a b : Addr) : It :=
  ⟨fun i H => ∃ (xs ys : List V) (x y : V), SqT K H a xs ∧ SqL K H b ys ∧ xs[i]? = some x ∧ ys[i]? = some y,
   fun i H v H' => ∃ T x y, v = .ref T ∧ H T = none ∧ H' = upd H T (.tup [x, y]) ∧ (∀ xs, SqT K H a xs → xs[i]? = some x) ∧ (∀ ys, SqL K H b ys → ys[i]? = some y),
   fun i H => ∃ xs ys : List V, SqT K H a xs ∧ SqL K H b ys ∧ (xs.length = i ∨ ys.length = i) ∧ i ≤ xs.length ∧ i ≤ ys.length⟩
theorem sep_of {z TI TO i1 i2 a b : Addr} (D : ZipApart z TI TO i1 i2 a b) : ZipSep2 z TI TO i1 i2 [i1, a] [i2, b] where
  TIz := D.TIz
  TOz := D.TOz
  TITO := D.TITO
  TIi1 := D.TIi1
  mem1 := by simp
  zf1 := by simp [D.i1z.symm, D.l1z.symm]
  Tf1 := by simp [D.TOi1, D.l1TO.symm]
  TIi2 := D.TIi2
  mem2 := by simp
  zf2 := by simp [D.i2z.symm, D.l2z.symm]
  Tf2 := by simp [D.TOi2, D.l2TO.symm]
  sep1_2 := by simp [D.i12, D.l2i1.symm]
  sep2_1 := by simp [D.i12.symm, D.l1i2.symm]
theorem five {c z TI TO i1 i2 : Addr} (h : c ∈ [z, TI, TO, i1, i2]) : c = z ∨ c = TI ∨ c = TO ∨ c = i1 ∨ c = i2 := by simpa using h
def StM (a b z TI TO i1 i2 : Addr) (i : Nat) (h : Heap) : Prop := IsZip h z TI TO .none ∧ IsPair h TI (.ref i1) (.ref i2) ∧ (∃ x y, IsPair h TO x y) ∧ h.IsTupleIter i1 a i ∧ h.IsListIter i2 b i
theorem turnM {P : Program} {w : World} {K : PySem.W.Frag} {es : List Expr} {kk : Nat} {tp : Pos} {a b z TI TO i1 i2 : Addr} (D : ZipApart z TI TO i1 i2 a b) :
    Turn P w K (.Tuple es kk tp) (ItM K a b) [z, TI, TO, i1, i2] z (StM a b z TI TO i1 i2) where
  mem := by simp
  obj := fun i h st c hc => by
    obtain ⟨hz, hI, ⟨x, y, hO⟩, ⟨o1, q1, _, d1⟩, ⟨o2, q2, _, d2⟩⟩ := st
    rcases five hc with rfl | rfl | rfl | rfl | rfl
    · exact ⟨_, hz, fun v q => nomatch q⟩
    · exact ⟨_, hI, fun v q => nomatch q⟩
    · exact ⟨_, hO, fun v q => nomatch q⟩
    · exact ⟨o1, q1, fun v q => by rw [d1] at q; cases q⟩
    · exact ⟨o2, q2, fun v q => by rw [d2] at q; cases q⟩
  keep := fun i h h' st k => by
    obtain ⟨hz, hI, ⟨x, y, hO⟩, n1, n2⟩ := st
    exact ⟨k z (by simp) _ hz, k TI (by simp) _ hI, ⟨x, y, k TO (by simp) _ hO⟩, n1.at fun o q => k i1 (by simp) o q, n2.at fun o q => k i2 (by simp) o q⟩
  item := by
    intro X hP hw hK hc i pins s σ H E I hf st hg
    subst hP hw hK
    obtain ⟨hz, hI, ⟨x0, y0, hO⟩, n1, n2⟩ := st
    obtain ⟨xs, ys, x, y, hqx, hqy, hx, hy⟩ := hg
    obtain ⟨ws, rv, p1, _⟩ := I.tuple hqx
    obtain ⟨ws2, rv2, p2, _⟩ := I.list hqy
    obtain ⟨u, hu, ru⟩ := rv.get hx
    obtain ⟨u2, hu2, ru2⟩ := rv2.get hy
    have zl : z < s.heap.objs.size := Heap.lt_size hz
    have hh : X.A.in1.handled = none := I.ok.hd hc
    refine wpAny_pyNext_zipD2_item (n1 := ws.toArray.size) (n2 := ws2.toArray.size) (sep_of D) (Draws.tuple hh i1 a D.l1i1 ws.toArray) (Draws.list hh i2 b D.l2i2 ws2.toArray) hz hI hO ⟨n1, p1⟩ ⟨n2, p2.isList⟩ ?_ ?_ ?_
    · have := (List.getElem?_eq_some_iff.mp hu).1; simpa using this
    · have := (List.getElem?_eq_some_iff.mp hu2).1; simpa using this
    intro v1 v2 h' tk e1 e2 z' O' st1 st2 hT hsz hk
    have ev1 : v1 = u := by
      have q : ws[i]? = some v1 := by simpa using e1
      rw [hu] at q; exact (Option.some.inj q).symm
    have ev2 : v2 = u2 := by
      have q : ws2[i]? = some v2 := by simpa using e2
      rw [hu2] at q; exact (Option.some.inj q).symm
    subst ev1 ev2
    refine ⟨_, rfl, wpAny_letOwnedTupleGo_zip (s := { s with heap := h', toks := tk }) z' fun h2 z2 sb => ?_⟩
    have T2 : h2.get? s.heap.objs.size = some { cls := .type "tuple", data := .seq #[v1, v2] } := (sb.2 _ (Nat.ne_of_gt zl)).trans hT
    have new : ObjOk X.prog X.w (upd H s.heap.objs.size (.tup [x, y])) h2 s.heap.objs.size (.tup [x, y]) := ⟨by show 2 ≤ sizeLine; decide, [v1, v2], .cons ru (.cons ru2 .nil), ⟨_, T2, rfl, _, rfl⟩⟩
    have lt : ∀ c ∈ [z, TI, TO, i1, i2], c < s.heap.objs.size := fun c hc => by
      rcases five hc with rfl | rfl | rfl | rfl | rfl
      · exact zl
      · exact Heap.lt_size hI
      · exact Heap.lt_size hO
      · obtain ⟨_, q, _⟩ := n1; exact Heap.lt_size q
      · obtain ⟨_, q, _⟩ := n2; exact Heap.lt_size q
    have I1 : Inv X pins σ (upd H s.heap.objs.size (.tup [x, y])) { s with heap := h2, toks := tk } := I.turnedNew (t' := tk) (ch := [z, TI, TO, i1, i2]) (fun c o hn q =>
      (sb.2 c (fun r => hn (by simp [r]))).trans (hk c o (fun r => hn (by simp [r])) (fun r => hn (by simp [r])) (fun r => hn (by simp [r])) (fun r => hn (by simp [r])) q)) hf (Nat.le_refl _) new
    refine ⟨.ref s.heap.objs.size, _, I1, rfl, ⟨_, x, y, rfl, I.hok.fresh (Nat.le_refl _), rfl, fun l hl => by rw [I.tuple_inj hl hqx]; exact hx, fun l hl => by rw [I.list_inj hl hqy]; exact hy⟩, ⟨z2, ?_, ⟨v1, v2, ?_⟩, ?_, ?_⟩, fun c hcm => ?_⟩
    · exact (sb.2 _ D.TIz).trans (hk _ _ D.TIz D.TITO D.TIi1 D.TIi2 hI)
    · exact (sb.2 _ D.TOz).trans O'
    · exact st1.1.at fun o q => (sb.2 _ D.i1z).trans q
    · exact st2.1.at fun o q => (sb.2 _ D.i2z).trans q
    · rw [upd_ne (Nat.ne_of_lt (lt c hcm))]
      exact (hf c hcm).1
  done := by
    intro X hP hw hK hc i pins s σ H E I hf st hg
    subst hP hw hK
    obtain ⟨hz, hI, ⟨x0, y0, hO⟩, n1, n2⟩ := st
    obtain ⟨xs, ys, hqx, hqy, he, l1, l2⟩ := hg
    obtain ⟨ws, rv, p1, _⟩ := I.tuple hqx
    obtain ⟨ws2, rv2, p2, _⟩ := I.list hqy
    have hh : X.A.in1.handled = none := I.ok.hd hc
    have s1 : ws.toArray.size = xs.length := by rw [List.size_toArray]; exact rv.length.symm
    have s2 : ws2.toArray.size = ys.length := by rw [List.size_toArray]; exact rv2.length.symm
    refine wpAny_pyNext_zipD2_end (n1 := ws.toArray.size) (n2 := ws2.toArray.size) (sep_of D) (Draws.tuple hh i1 a D.l1i1 ws.toArray) (Draws.list hh i2 b D.l2i2 ws2.toArray) hz hI hO ⟨n1, p1⟩ ⟨n2, p2.isList⟩ (by omega) (by omega) (by omega) fun h' tk hk => ?_
    exact ⟨rfl, I.turnedL (t' := tk) (ch := [z, TI, TO, i1, i2]) (fun c o hn q => hk c o (fun r => hn (by simp [r])) (fun r => hn (by simp [r])) (fun r => hn (by simp [r])) (fun r => hn (by simp [r])) q) hf⟩
  self := fun A i s Q E st h => wpAny_pyIter_zip st.1 h
def iZipM (K : PySem.W.Frag) (ta : TA) : TI := fun σ H R => ta σ H fun vs H1 => ∃ a b xs ys, vs = [.ref a, .ref b] ∧ SqT K H1 a xs ∧ SqL K H1 b ys ∧ R (ItM K a b) H1
theorem pi_zipM {X : Cx} {e e2 : Expr} {ta : TA} {p pos tpos : Pos} {elts : List Expr} {kk : Nat} (hg : Gl X "zip") (hm : X.mg "zip" = none) (ha : PA X [e, e2] ta)
    (hs : starEach [e, e2] X.env = (false, eval e X.env) :: starEach [e2] X.env := by rfl) (hpl : (backTo pos (starEach [e2] X.env)).any (·.1) = false := by rfl) :
    PI X (.Tuple elts kk tpos) (.Call (.Name "zip" p) [e, e2] [] pos) (iZipM X.K ta) := by
  refine ⟨fun pins s σ H R I h => ?_⟩
  refine Call_ (ld_blt I hg hm PyProof.Rows.boot_zip (PyProof.Rows.callWith_type1 (thn (ha.run pos pins s σ H _ I h) fun us s1 q0 => ?_) hs hpl))
  obtain ⟨vs, H1, I1, r1, a, b, xs, ys, rfl, hqx, hqy, q⟩ := q0
  cases r1 with
  | cons r rr =>
    cases rr with
    | cons r' rr =>
      cases rr
      cases r
      cases r'
      obtain ⟨ws, rv, p1, _⟩ := I1.tuple hqx
      obtain ⟨ws2, rv2, p2, _⟩ := I1.list hqy
      obtain ⟨o1, ho1, _⟩ := id p1
      have lt1 : a < s1.heap.objs.size := Heap.lt_size ho1
      have lt2 : b < s1.heap.objs.size := p2.lt
      refine zip_begins2 (begins_tuple a ws.toArray) (begins_list b ws2.toArray) p1 p2.isList fun h' hz hI hO g1 g2 hsz hk => wpAny_pyIter_zip hz ?_
      have fresh : ∀ c, c ∈ [s1.heap.objs.size + 4, s1.heap.objs.size + 2, s1.heap.objs.size + 3, s1.heap.objs.size, s1.heap.objs.size + 1] → FpOk X pins H1 c := fun c hcm => by
        have le : s1.heap.objs.size ≤ c := by
          rcases five hcm with rfl | rfl | rfl | rfl | rfl
          · exact Nat.le_add_right _ _
          · exact Nat.le_add_right _ _
          · exact Nat.le_add_right _ _
          · exact Nat.le_refl _
          · exact Nat.le_add_right _ _
        exact I1.fpOk le (I1.hok.fresh le)
      have I2 : Inv X pins σ H1 { s1 with heap := h' } := I1.kept (t' := s1.toks) hk
      exact ⟨_, _, _, _, H1, rfl, I2, turnM (PySem.W.ktu_apart s1.heap.objs.size a b lt1 lt2), ⟨hz, hI, ⟨_, _, hO⟩, ⟨_, g1, rfl, rfl⟩, ⟨_, g2, rfl, rfl⟩⟩, fresh, q⟩
end ON

set_option Elab.async false
set_option linter.all false
set_option maxRecDepth 100000
set_option maxHeartbeats 2000000
/-! N5: what is walked, targets, comprehensions. -/
namespace ON
open PySem L2
section
variable {K : PySem.W.Frag} {m : Type → Type} [Mn m] {α β γ δ τ τ' l ρ : Type} {sd : List SD} {ta tb te : TE}

/-! ### what is walked -/
def Src (K : PySem.W.Frag) [Enc α] (J : It) (B1 : Hp) (xs : List α) : Prop :=
  (∀ i B H, Gr B1 B → Gr B H → i < xs.length → J.go i H) ∧ (∀ i B H, Gr B1 B → Gr B H → xs.length = i → J.stop i H) ∧
  (∀ i B H x H' a, Gr B1 B → Gr B H → J.yld i H x H' → xs[i]? = some a → ∃ B', (∀ F σ sd k, Rel K F σ B H sd k → Rel K F σ B' H' sd k) ∧ Gr B B' ∧ Gr H H' ∧ (∀ p, H' p = none → H p = none) ∧ (∀ p o, H p = some o → B p = none → B' p = none) ∧ Rp K B' x (enc a))
def EvI (K : PySem.W.Frag) [Enc α] (wi : TI) (sd : List SD) (x : m (List α)) : Prop := ∀ (F : Fr) (σ : L2.St) (B H : Hp) (k : Int), Rel K F σ B H sd k → ∀ (xs : List α) (k' : Int), Mn.run x k = some (xs, k') →
  ∀ R : It → Hp → Prop, (∀ J B' H', Rel K F σ B' H' sd k' → Gr B B' → Src K J B' xs → R J H') → wi σ H R
theorem src_list [Enc α] {p : Addr} {vs : List V} {xs : List α} {B : Hp} (h : SqL K B p vs) (r : Rps K B vs (xs.map enc)) : Src K (Itl K p) B xs := by
  have hl : vs.length = xs.length := by rw [r.len, List.length_map]
  refine ⟨fun i C H g g2 hi => ?_, fun i C H g g2 hi => ⟨vs, (g.trans g2).sqL h, by omega⟩, fun i C H x H' a g g2 y hi => ?_⟩
  · obtain ⟨v, hv⟩ : ∃ v, vs[i]? = some v := ⟨vs[i], List.getElem?_eq_getElem (by omega)⟩
    exact ⟨vs, v, (g.trans g2).sqL h, hv⟩
  · obtain ⟨rfl, y⟩ := y
    have hx := y vs ((g.trans g2).sqL h)
    obtain ⟨v, hv, rv⟩ := r.get (i := i) (d := enc a) (by rw [List.getElem?_map, hi] <;> rfl)
    rw [hx] at hv; cases hv
    exact ⟨C, fun _ _ _ _ R => R, Gr.refl C, Gr.refl _, fun _ q => q, fun _ _ _ q => q, rv.gr g⟩
theorem src_tup [Enc α] {p : Addr} {vs : List V} {xs : List α} {B : Hp} (h : SqT K B p vs) (r : Rps K B vs (xs.map enc)) : Src K (Itt K p) B xs := by
  have hl : vs.length = xs.length := by rw [r.len, List.length_map]
  refine ⟨fun i C H g g2 hi => ?_, fun i C H g g2 hi => ⟨vs, (g.trans g2).sqT h, by omega⟩, fun i C H x H' a g g2 y hi => ?_⟩
  · obtain ⟨v, hv⟩ : ∃ v, vs[i]? = some v := ⟨vs[i], List.getElem?_eq_getElem (by omega)⟩
    exact ⟨vs, v, (g.trans g2).sqT h, hv⟩
  · obtain ⟨rfl, y⟩ := y
    have hx := y vs ((g.trans g2).sqT h)
    obtain ⟨v, hv, rv⟩ := r.get (i := i) (d := enc a) (by rw [List.getElem?_map, hi] <;> rfl)
    rw [hx] at hv; cases hv
    exact ⟨C, fun _ _ _ _ R => R, Gr.refl C, Gr.refl _, fun _ q => q, fun _ _ _ q => q, rv.gr g⟩
theorem src_zip [Enc α] [Enc β] {p q : Addr} {vs ws : List V} {xs : List α} {ys : List β} {B : Hp} (h : SqL K B p vs) (r : Rps K B vs (xs.map enc)) (h2 : SqL K B q ws) (r2 : Rps K B ws (ys.map enc)) : Src K (Itz K p q) B (xs.zip ys) := by
  have hl : vs.length = xs.length := by rw [r.len, List.length_map]
  have hl2 : ws.length = ys.length := by rw [r2.len, List.length_map]
  have hz : (xs.zip ys).length = min xs.length ys.length := List.length_zip
  refine ⟨fun i C H g g2 hi => ?_, fun i C H g g2 hi => ⟨vs, ws, (g.trans g2).sqL h, (g.trans g2).sqL h2, by omega⟩, fun i C H x H' a g g2 y hi => ?_⟩
  · exact ⟨vs, ws, vs[i]'(by omega), ws[i]'(by omega), (g.trans g2).sqL h, (g.trans g2).sqL h2, List.getElem?_eq_getElem (by omega), List.getElem?_eq_getElem (by omega)⟩
  · obtain ⟨T, y1, y2, rfl, nT, rfl, f1, f2⟩ := y
    have hx := f1 vs ((g.trans g2).sqL h)
    have hy := f2 ws ((g.trans g2).sqL h2)
    obtain ⟨a, b⟩ := a
    obtain ⟨ha, hb⟩ := List.getElem?_zip_eq_some.mp hi
    obtain ⟨v, hv, rv⟩ := r.get (i := i) (d := enc a) (by rw [List.getElem?_map, ha] <;> rfl)
    obtain ⟨w, hw, rw'⟩ := r2.get (i := i) (d := enc b) (by rw [List.getElem?_map, hb] <;> rfl)
    rw [hx] at hv; cases hv
    rw [hy] at hw; cases hw
    have gT : Gr C (upd C T (.tup [y1, y2])) := Gr.new (g2.back nT)
    refine ⟨upd C T (.tup [y1, y2]), fun F σ sd k R => (R.data nT).1, gT, Gr.new nT, fun p e => ?_, fun p o e eb => ?_, ?_⟩
    · by_cases c : p = T
      · subst c; exact nT
      · rw [upd_ne c] at e; exact e
    · rw [upd_ne (ne_of_none e nT)]; exact eb
    · exact .tup (.inl (.inl upd_same)) (.cons ((rv.gr g).gr gT) (.cons ((rw'.gr g).gr gT) .nil))
theorem src_zipT [Enc α] [Enc β] {p q : Addr} {vs ws : List V} {xs : List α} {ys : List β} {B : Hp} (h : SqT K B p vs) (r : Rps K B vs (xs.map enc)) (h2 : SqT K B q ws) (r2 : Rps K B ws (ys.map enc)) : Src K (RZ.ItzT K p q) B (xs.zip ys) := by
  have hl : vs.length = xs.length := by rw [r.len, List.length_map]
  have hl2 : ws.length = ys.length := by rw [r2.len, List.length_map]
  have hz : (xs.zip ys).length = min xs.length ys.length := List.length_zip
  refine ⟨fun i C H g g2 hi => ?_, fun i C H g g2 hi => ⟨vs, ws, (g.trans g2).sqT h, (g.trans g2).sqT h2, by omega⟩, fun i C H x H' a g g2 y hi => ?_⟩
  · exact ⟨vs, ws, vs[i]'(by omega), ws[i]'(by omega), (g.trans g2).sqT h, (g.trans g2).sqT h2, List.getElem?_eq_getElem (by omega), List.getElem?_eq_getElem (by omega)⟩
  · obtain ⟨T, y1, y2, rfl, nT, rfl, f1, f2⟩ := y
    have hx := f1 vs ((g.trans g2).sqT h)
    have hy := f2 ws ((g.trans g2).sqT h2)
    obtain ⟨a, b⟩ := a
    obtain ⟨ha, hb⟩ := List.getElem?_zip_eq_some.mp hi
    obtain ⟨v, hv, rv⟩ := r.get (i := i) (d := enc a) (by rw [List.getElem?_map, ha] <;> rfl)
    obtain ⟨w, hw, rw'⟩ := r2.get (i := i) (d := enc b) (by rw [List.getElem?_map, hb] <;> rfl)
    rw [hx] at hv; cases hv
    rw [hy] at hw; cases hw
    have gT : Gr C (upd C T (.tup [y1, y2])) := Gr.new (g2.back nT)
    refine ⟨upd C T (.tup [y1, y2]), fun F σ sd k R => (R.data nT).1, gT, Gr.new nT, fun p e => ?_, fun p o e eb => ?_, ?_⟩
    · by_cases c : p = T
      · subst c; exact nT
      · rw [upd_ne c] at e; exact e
    · rw [upd_ne (ne_of_none e nT)]; exact eb
    · exact .tup (.inl (.inl upd_same)) (.cons ((rv.gr g).gr gT) (.cons ((rw'.gr g).gr gT) .nil))
def upTo (lo : Int) (n : Nat) (c : Int) : List Int := (List.range n).map fun i => lo + (i : Nat) * c
theorem upTo_get {lo c a : Int} {n i : Nat} (h : (upTo lo n c)[i]? = some a) : i < n ∧ a = lo + (i : Nat) * c := by
  unfold upTo at h
  rw [List.getElem?_map] at h
  by_cases hi : i < n
  · rw [List.getElem?_range hi] at h; exact ⟨hi, (Option.some.inj h).symm⟩
  · rw [List.getElem?_eq_none (by rw [List.length_range]; omega)] at h; cases h
theorem upTo_len (lo c : Int) (n : Nat) : (upTo lo n c).length = n := by unfold upTo; rw [List.length_map, List.length_range]
theorem src_rng {lo : Int} {n : Nat} {B : Hp} : Src K (Itr lo n) B (upTo lo n 1) := by
  refine ⟨fun i C H g g2 hi => by rw [upTo_len] at hi; exact hi, fun i C H g g2 hi => by rw [upTo_len] at hi; exact Nat.le_of_eq hi, fun i C H x H' a g g2 y hi => ?_⟩
  obtain ⟨rfl, rfl⟩ := y
  obtain ⟨_, rfl⟩ := upTo_get hi
  rw [Int.mul_one]
  exact ⟨C, fun _ _ _ _ R => R, Gr.refl C, Gr.refl _, fun _ q => q, fun _ _ _ q => q, .int _⟩
theorem src_rngC {lo c : Int} {n : Nat} {B : Hp} : Src K (Itc lo c n) B (upTo lo n c) := by
  refine ⟨fun i C H g g2 hi => by rw [upTo_len] at hi; exact hi, fun i C H g g2 hi => by rw [upTo_len] at hi; exact Nat.le_of_eq hi, fun i C H x H' a g g2 y hi => ?_⟩
  obtain ⟨rfl, rfl⟩ := y
  obtain ⟨_, rfl⟩ := upTo_get hi
  exact ⟨C, fun _ _ _ _ R => R, Gr.refl C, Gr.refl _, fun _ q => q, fun _ _ _ q => q, .int _⟩
theorem src_str {x : Str} {B : Hp} : Src K (Its x) B (x.cps.toList.map sgn) := by
  have hl : (x.cps.toList.map sgn).length = x.cps.size := by simp
  refine ⟨fun i C H g g2 hi => by rw [hl] at hi; exact hi, fun i C H g g2 hi => by rw [hl] at hi; exact Nat.le_of_eq hi, fun i C H v H' a g g2 y hi => ?_⟩
  obtain ⟨rfl, c, hc, rfl⟩ := y
  rw [List.getElem?_map, Array.getElem?_toList, hc] at hi
  cases hi
  exact ⟨C, fun _ _ _ _ R => R, Gr.refl C, Gr.refl _, fun _ q => q, fun _ _ _ q => q, .str _⟩
theorem src_enum [Enc α] {p : Addr} {vs : List V} {xs : List α} {B : Hp} (h : SqL K B p vs) (r : Rps K B vs (xs.map enc)) : Src K (Ite K p) B ((upTo 0 xs.length 1).zip xs) := by
  have hl : vs.length = xs.length := by rw [r.len, List.length_map]
  have hz : ((upTo 0 xs.length 1).zip xs).length = xs.length := by rw [List.length_zip, upTo_len, Nat.min_self]
  refine ⟨fun i C H g g2 hi => ?_, fun i C H g g2 hi => ⟨vs, (g.trans g2).sqL h, by omega⟩, fun i C H x H' a g g2 y hi => ?_⟩
  · exact ⟨vs, vs[i]'(by omega), (g.trans g2).sqL h, List.getElem?_eq_getElem (by omega)⟩
  · obtain ⟨T, y1, rfl, nT, rfl, f1⟩ := y
    have hx := f1 vs ((g.trans g2).sqL h)
    obtain ⟨a, b⟩ := a
    obtain ⟨ha, hb⟩ := List.getElem?_zip_eq_some.mp hi
    obtain ⟨_, rfl⟩ := upTo_get ha
    obtain ⟨w, hw, rw'⟩ := r.get (i := i) (d := enc b) (by rw [List.getElem?_map, hb] <;> rfl)
    rw [hx] at hw; cases hw
    have gT : Gr C (upd C T (.tup [.int (i : Nat), y1])) := Gr.new (g2.back nT)
    refine ⟨upd C T (.tup [.int (i : Nat), y1]), fun F σ sd k R => (R.data nT).1, gT, Gr.new nT, fun p e => ?_, fun p o e eb => ?_, ?_⟩
    · by_cases c : p = T
      · subst c; exact nT
      · rw [upd_ne c] at e; exact e
    · rw [upd_ne (ne_of_none e nT)]; exact eb
    · refine .tup (.inl (.inl upd_same)) (.cons ?_ (.cons ((rw'.gr g).gr gT) .nil))
      have e : (0 : Int) + (i : Nat) * 1 = (i : Nat) := by omega
      show Rp K _ _ (.int _)
      rw [e]; exact .int _
theorem ei_list [Enc α] {x : m (List α)} (h : EvM K te sd x) : EvI K (iList K te) sd x := fun F σ B H k R xs k' e Q q =>
  h F σ B H k R xs k' e _ fun v B1 H1 R1 g1 r1 => by
    obtain ⟨p, vs, rfl, hp, hs⟩ := Rp.lst_inv r1
    exact ⟨p, rfl, ⟨vs, SqL.of (R1.bh _ _ hp)⟩, q _ B1 H1 R1 g1 (src_list (SqL.of hp) hs)⟩
theorem ei_tup [Enc α] {x : m (Tl α)} (h : EvM K te sd x) : EvI K (iTup K te) sd (Mn.bnd x fun t => Mn.pur t.l) := fun F σ B H k R xs k' e Q q => by
  obtain ⟨t, k1, e1, e2⟩ := bnd_some e
  obtain ⟨rfl, rfl⟩ := pur_some e2
  refine h F σ B H k R t _ e1 _ fun v B1 H1 R1 g1 r1 => ?_
  obtain ⟨p, vs, rfl, hp, hs⟩ := Rp.tup_inv r1
  exact ⟨p, rfl, ⟨vs, R1.bh.sqT hp⟩, q _ B1 H1 R1 g1 (src_tup hp hs)⟩
/-- an owned list that the loop leaves as it is: not served; freeze it first. A range -/
theorem ei_rng1 {tr : TA} {x : m Int} (h : EvA K tr sd x (fun a => [enc a])) : EvI K (iRng1 tr) sd (Mn.bnd x fun n => gd (-(2 ^ 62) ≤ n ∧ n < 2 ^ 62) (Mn.pur (upTo 0 n.toNat 1))) := fun F σ B H k R xs k' e Q q => by
  obtain ⟨n, k1, e1, e2⟩ := bnd_some e
  obtain ⟨hg, e3⟩ := gd_some e2
  obtain ⟨rfl, rfl⟩ := pur_some e3
  refine h F σ B H k R n _ e1 _ fun vs B1 H1 R1 g1 r1 => ?_
  cases r1 with | cons h hs => cases hs; exact ⟨n, by rw [Rp.int_inv h], hg.1, hg.2, q _ B1 H1 R1 g1 src_rng⟩
theorem ei_rng2 {tr : TA} {x : m (Int × Int)} (h : EvA K tr sd x (fun a => [enc a.1, enc a.2])) : EvI K (iRng2 tr) sd (Mn.bnd x fun n => gd (-(2 ^ 62) ≤ n.1 ∧ n.1 < 2 ^ 62 ∧ -(2 ^ 62) ≤ n.2 ∧ n.2 < 2 ^ 62) (Mn.pur (upTo n.1 (n.2 - n.1).toNat 1))) := fun F σ B H k R xs k' e Q q => by
  obtain ⟨n, k1, e1, e2⟩ := bnd_some e
  obtain ⟨hg, e3⟩ := gd_some e2
  obtain ⟨rfl, rfl⟩ := pur_some e3
  refine h F σ B H k R n _ e1 _ fun vs B1 H1 R1 g1 r1 => ?_
  cases r1 with | cons h hs => cases hs with | cons h2 hs => cases hs; exact ⟨n.1, n.2, by rw [Rp.int_inv h, Rp.int_inv h2], hg, q _ B1 H1 R1 g1 src_rng⟩
/-- zip of two lists, of two tuples -/
theorem ei_zipL [Enc α] [Enc β] {tr : TA} {x : m (List α × List β)} (h : EvA K tr sd x (fun a => [enc a.1, enc a.2])) : EvI K (RZ.iZipA K tr) sd (Mn.bnd x fun p => Mn.pur (p.1.zip p.2)) := fun F σ B H k R xs k' e Q q => by
  obtain ⟨n, k1, e1, e2⟩ := bnd_some e
  obtain ⟨rfl, rfl⟩ := pur_some e2
  refine h F σ B H k R n _ e1 _ fun vs B1 H1 R1 g1 r1 => ?_
  cases r1 with | cons h hs => cases hs with | cons h2 hs =>
    cases hs
    obtain ⟨p, vs, rfl, hp, hs⟩ := Rp.lst_inv h
    obtain ⟨p2, vs2, rfl, hp2, hs2⟩ := Rp.lst_inv h2
    exact ⟨p, p2, vs, vs2, rfl, .inl ⟨SqL.of (R1.bh _ _ hp), SqL.of (R1.bh _ _ hp2), q _ B1 H1 R1 g1 (src_zip (SqL.of hp) hs (SqL.of hp2) hs2)⟩⟩
theorem ei_zipT [Enc α] [Enc β] {tr : TA} {x : m (Tl α × Tl β)} (h : EvA K tr sd x (fun a => [enc a.1, enc a.2])) : EvI K (RZ.iZipA K tr) sd (Mn.bnd x fun p => Mn.pur (p.1.l.zip p.2.l)) := fun F σ B H k R xs k' e Q q => by
  obtain ⟨n, k1, e1, e2⟩ := bnd_some e
  obtain ⟨rfl, rfl⟩ := pur_some e2
  refine h F σ B H k R n _ e1 _ fun vs B1 H1 R1 g1 r1 => ?_
  cases r1 with | cons h hs => cases hs with | cons h2 hs =>
    cases hs
    obtain ⟨p, vs, rfl, hp, hs⟩ := Rp.tup_inv h
    obtain ⟨p2, vs2, rfl, hp2, hs2⟩ := Rp.tup_inv h2
    exact ⟨p, p2, vs, vs2, rfl, .inr ⟨R1.bh.sqT hp, R1.bh.sqT hp2, q _ B1 H1 R1 g1 (src_zipT hp hs hp2 hs2)⟩⟩
theorem ei_str {x : m Str} (h : EvM K te sd x) : EvI K (iStr te) sd (Mn.bnd x fun s => Mn.pur (s.cps.toList.map sgn)) := fun F σ B H k R xs k' e Q q => by
  obtain ⟨n, k1, e1, e2⟩ := bnd_some e
  obtain ⟨rfl, rfl⟩ := pur_some e2
  exact h F σ B H k R n _ e1 _ fun v B1 H1 R1 g1 r1 => ⟨n, Rp.str_inv r1, q _ B1 H1 R1 g1 src_str⟩

theorem src_zipM [Enc α] [Enc β] {p q : Addr} {vs ws : List V} {xs : List α} {ys : List β} {B : Hp} (h : SqT K B p vs) (r : Rps K B vs (xs.map enc)) (h2 : SqL K B q ws) (r2 : Rps K B ws (ys.map enc)) : Src K (ItM K p q) B (xs.zip ys) := by
  have hl : vs.length = xs.length := by rw [r.len, List.length_map]
  have hl2 : ws.length = ys.length := by rw [r2.len, List.length_map]
  have hz : (xs.zip ys).length = min xs.length ys.length := List.length_zip
  refine ⟨fun i C H g g2 hi => ?_, fun i C H g g2 hi => ?_, fun i C H x H' a g g2 y hi => ?_⟩
  · exact ⟨vs, ws, vs[i]'(by omega), ws[i]'(by omega), (g.trans g2).sqT h, (g.trans g2).sqL h2, List.getElem?_eq_getElem (by omega), List.getElem?_eq_getElem (by omega)⟩
  · exact ⟨vs, ws, (g.trans g2).sqT h, (g.trans g2).sqL h2, by omega, by omega, by omega⟩
  · obtain ⟨T, y1, y2, rfl, nT, rfl, f1, f2⟩ := y
    have hx := f1 vs ((g.trans g2).sqT h)
    have hy := f2 ws ((g.trans g2).sqL h2)
    obtain ⟨a, b⟩ := a
    obtain ⟨ha, hb⟩ := List.getElem?_zip_eq_some.mp hi
    obtain ⟨v, hv, rv⟩ := r.get (i := i) (d := enc a) (by rw [List.getElem?_map, ha] <;> rfl)
    obtain ⟨w, hw, rw'⟩ := r2.get (i := i) (d := enc b) (by rw [List.getElem?_map, hb] <;> rfl)
    rw [hx] at hv; cases hv
    rw [hy] at hw; cases hw
    have gT : Gr C (upd C T (.tup [y1, y2])) := Gr.new (g2.back nT)
    refine ⟨upd C T (.tup [y1, y2]), fun F σ sd k R => (R.data nT).1, gT, Gr.new nT, fun p e => ?_, fun p o e eb => ?_, ?_⟩
    · by_cases c : p = T
      · subst c; exact nT
      · rw [upd_ne c] at e; exact e
    · rw [upd_ne (ne_of_none e nT)]; exact eb
    · exact .tup (.inl (.inl upd_same)) (.cons ((rv.gr g).gr gT) (.cons ((rw'.gr g).gr gT) .nil))
theorem ei_zipM [Enc α] [Enc β] {tr : TA} {x : m (Tl α × List β)} (h : EvA K tr sd x (fun a => [enc a.1, enc a.2])) : EvI K (iZipM K tr) sd (Mn.bnd x fun p => Mn.pur (p.1.l.zip p.2)) := fun F σ B H k R xs k' e Q q => by
  obtain ⟨n, k1, e1, e2⟩ := bnd_some e
  obtain ⟨rfl, rfl⟩ := pur_some e2
  refine h F σ B H k R n _ e1 _ fun vs B1 H1 R1 g1 r1 => ?_
  cases r1 with | cons h hs => cases hs with | cons h2 hs =>
    cases hs
    obtain ⟨p, vs, rfl, hp, hs⟩ := Rp.tup_inv h
    obtain ⟨p2, vs2, rfl, hp2, hs2⟩ := Rp.lst_inv h2
    exact ⟨p, p2, vs, vs2, rfl, R1.bh.sqT hp, SqL.of (R1.bh _ _ hp2), q _ B1 H1 R1 g1 (src_zipM hp hs (SqL.of hp2) hs2)⟩

/-! ### targets -/
def EvG (K : PySem.W.Frag) [Enc α] (g : TG) (sd : List SD) (a : α) (sd' : List SD) (is : List Nat) : Prop := ∀ (F : Fr) (σ : L2.St) (B H : Hp) (k : Int) (v : V), Rel K F σ B H sd k → Rp K B v (enc a) → ∀ Q : L2.St → Hp → Prop,
  (∀ σ', Rel K F σ' B H sd' k → (∀ vs, (∀ i ∈ is, i ∈ vs) → wipe σ' vs = wipe σ vs) → Q σ' H) → g v σ H Q
theorem wipe_get (σ : L2.St) (vs : List Nat) (j : Nat) : (wipe σ vs)[j]? = if j ∈ vs then (σ[j]?).map fun _ => none else σ[j]? := by
  induction vs with
  | nil => rfl
  | cons v vs ih =>
    unfold wipe
    rw [List.getElem?_set]
    by_cases c : v = j
    · subst c
      rw [if_pos rfl, if_pos List.mem_cons_self, wipe_length]
      by_cases l : v < σ.length
      · rw [if_pos l, List.getElem?_eq_getElem l]; rfl
      · rw [if_neg l, List.getElem?_eq_none (by omega)]; rfl
    · rw [if_neg c, ih]
      have e : (j ∈ v :: vs) = (j ∈ vs) := by
        rw [List.mem_cons]; exact propext ⟨fun h => h.resolve_left fun z => c z.symm, .inr⟩
      simp only [e]
theorem wipe_set {σ : L2.St} {vs : List Nat} {i : Nat} {x : Option V} (h : i ∈ vs) : wipe (σ.set i x) vs = wipe σ vs := by
  refine List.ext_getElem? fun j => ?_
  rw [wipe_get, wipe_get]
  by_cases c : j ∈ vs
  · rw [if_pos c, if_pos c, List.getElem?_set]
    by_cases e : i = j
    · subst e
      rw [if_pos rfl]
      by_cases l : i < σ.length
      · rw [if_pos l, List.getElem?_eq_getElem l]; rfl
      · rw [if_neg l, List.getElem?_eq_none (by omega)]
    · rw [if_neg e]
  · rw [if_neg c, if_neg c, List.getElem?_set_ne (show i ≠ j from fun e => c (by rw [← e]; exact h))]
theorem wipe_wipe (σ : L2.St) (vs : List Nat) : wipe (wipe σ vs) vs = wipe σ vs := by
  refine List.ext_getElem? fun j => ?_
  rw [wipe_get, wipe_get]
  by_cases c : j ∈ vs
  · rw [if_pos c, if_pos c]
    cases σ[j]? <;> rfl
  · rw [if_neg c, if_neg c]
theorem eg_name [Enc α] {i : Nat} {a : α} : EvG K (gName i) sd a (sd.set i (.dat (enc a))) [i] := fun F σ B H k v R r Q q =>
  q _ (R.setDat r) fun vs h => wipe_set (h i (.head _))
theorem eg_pair [Enc α] [Enc β] {i j : Nat} {p : α × β} : EvG K (gTup K 2 (gCons (gName i) (gCons (gName j) gNil))) sd p ((sd.set i (.dat (enc p.1))).set j (.dat (enc p.2))) [i, j] := fun F σ B H k v R r Q q => by
  obtain ⟨a, xs, rfl, hp, hs⟩ := Rp.tup_inv r
  cases hs with | cons h1 hs => cases hs with | cons h2 hs =>
    cases hs
    refine ⟨a, _, rfl, R.bh.sqT hp, rfl, _, _, rfl, _, _, rfl, rfl, ?_⟩
    refine q _ ((R.setDat h1).setDat h2) fun vs h => ?_
    rw [wipe_set (h j (.tail _ (.head _))), wipe_set (h i (.head _))]

/-! ### comprehensions -/
def wipeS (sd : List SD) : List Nat → List SD
  | [] => sd
  | v :: vs => (wipeS sd vs).set v .un
theorem Rel.wiped {F : Fr} {σ : L2.St} {B H : Hp} {k : Int} (R : Rel K F σ B H sd k) : ∀ vs : List Nat, Rel K F (wipe σ vs) B H (wipeS sd vs) k
  | [] => R
  | v :: vs => (Rel.wiped R vs).setUn
theorem wipeS_get (sd : List SD) (vs : List Nat) (j : Nat) : (wipeS sd vs)[j]? = if j ∈ vs then (sd[j]?).map fun _ => .un else sd[j]? := by
  induction vs with
  | nil => rfl
  | cons v vs ih =>
    have hl : (wipeS sd vs).length = sd.length := by
      clear ih
      induction vs with
      | nil => rfl
      | cons v vs ih => unfold wipeS; rw [List.length_set, ih]
    unfold wipeS
    rw [List.getElem?_set]
    by_cases c : v = j
    · subst c
      rw [if_pos rfl, if_pos List.mem_cons_self, hl]
      by_cases l : v < sd.length
      · rw [if_pos l, List.getElem?_eq_getElem l]; rfl
      · rw [if_neg l, List.getElem?_eq_none (by omega)]; rfl
    · rw [if_neg c, ih]
      have e : (j ∈ v :: vs) = (j ∈ vs) := by
        rw [List.mem_cons]; exact propext ⟨fun h => h.resolve_left fun z => c z.symm, .inr⟩
      simp only [e]
theorem wipeS_wipeS (sd : List SD) (vs : List Nat) : wipeS (wipeS sd vs) vs = wipeS sd vs := by
  refine List.ext_getElem? fun j => ?_
  rw [wipeS_get, wipeS_get]
  by_cases c : j ∈ vs
  · rw [if_pos c, if_pos c]; cases sd[j]? <;> rfl
  · rw [if_neg c, if_neg c]
def noOwn (sd : List SD) (vs : List Nat) : Prop := ∀ i ∈ vs, ∀ d, sd[i]? = some d → d.ow = false
def noOwnB (sd : List SD) (vs : List Nat) : Bool := vs.all fun i => match sd[i]? with
  | some d => !d.ow
  | none => true
theorem noOwn_by {vs : List Nat} (h : noOwnB sd vs = true) : noOwn sd vs := fun i hi d hd => by
  unfold noOwnB at h
  have z := List.all_eq_true.mp h i hi
  rw [hd] at z
  cases w : d.ow with
  | false => rfl
  | true => simp only [w] at z; cases z
/-- what a comprehension leaves: the slots as they were -/
theorem Rel.unwipe {F F0 : Fr} {σ : L2.St} {B H B' H' : Hp} {k k' : Int} {vs : List Nat} (R' : Rel K F (wipe σ vs) B' H' (wipeS sd vs) k') (R : Rel K F0 σ B H sd k) (hsa : F.sa = F0.sa) (g : Gr B B') (hv : noOwn sd vs) : Rel K F σ B' H' sd k' := by
  refine ⟨R.len, R'.bh, R'.b0, R'.bn, R'.fr, R'.st, ?_⟩
  obtain ⟨q, p⟩ := R'.pool
  obtain ⟨q0, p0⟩ := R.pool
  have nocell : ∀ x c, cell F σ sd x = some c → (∃ i, x = .inl i ∧ i ∈ vs) → q x = [] := fun x c e ⟨i, hx, hi⟩ => by
    subst hx
    cases hc : cell F (wipe σ vs) (wipeS sd vs) (.inl i) with
    | none => exact p.no _ hc
    | some c2 =>
      have z := p.ok _ _ hc
      simp only [cell] at hc
      rw [wipeS_get, if_pos hi, wipe_get, if_pos hi] at hc
      cases h1 : sd[i]? with
      | none => rw [h1] at hc; cases hc
      | some d =>
        cases h2 : σ[i]? with
        | none => rw [h1, h2] at hc; cases hc
        | some o => rw [h1, h2] at hc; cases hc; exact z
  have same : ∀ x, (¬ ∃ i, x = .inl i ∧ i ∈ vs) → cell F (wipe σ vs) (wipeS sd vs) x = cell F σ sd x := fun x hx => by
    cases x with
    | inr j => rfl
    | inl i =>
      have ni : i ∉ vs := fun m => hx ⟨i, rfl, m⟩
      simp only [cell]
      rw [wipeS_get, if_neg ni, wipe_get, if_neg ni]
  refine ⟨q, ⟨fun x c e => ?_, fun x e => ?_, p.nd, p.dj, p.b, p.h0, p.sa⟩⟩
  · by_cases hx : ∃ i, x = .inl i ∧ i ∈ vs
    · have nq := nocell x c e hx
      rw [nq]
      obtain ⟨i, rfl, hi⟩ := hx
      have e0 : cell F0 σ sd (.inl i) = some c := e
      have z := p0.ok _ _ e0
      have hd : sd[i]? = some c.2 := by
        simp only [cell] at e
        cases h1 : sd[i]? with
        | none => rw [h1] at e; cases e
        | some d =>
          cases h2 : σ[i]? with
          | none => rw [h1, h2] at e; cases e
          | some o => rw [h1, h2] at e; cases e; rfl
      have no := hv i hi _ hd
      obtain ⟨o, d⟩ := c
      cases d with
      | un => rfl
      | dat d => obtain ⟨_, v, ho, r⟩ := z; exact ⟨rfl, v, ho, r.gr g⟩
      | own s d => cases no
      | sr q2 => obtain ⟨_, a, w, ho, hs, hw⟩ := z; exact ⟨rfl, a, w, ho, hsa.trans hs, hw⟩
    · exact p.ok x c (by rw [same x hx]; exact e)
  · by_cases hx : ∃ i, x = .inl i ∧ i ∈ vs
    · obtain ⟨i, rfl, hi⟩ := hx
      refine p.no _ ?_
      simp only [cell] at e ⊢
      rw [wipeS_get, if_pos hi, wipe_get, if_pos hi]
      cases h1 : sd[i]? with
      | none => rfl
      | some d =>
        cases h2 : σ[i]? with
        | none => rfl
        | some o => rw [h1, h2] at e; cases e
    · exact p.no x (by rw [same x hx]; exact e)
theorem ef_lc [Enc α] [Enc β] {wi : TI} {g : TG} {tt : TT} {vs is : List Nat} {x : m (List α)} {p : α → m Bool} {f : α → m β} {sd1 : α → List SD} (hi : EvI K wi sd x) (hg : ∀ a, EvG K g (wipeS sd vs) a (sd1 a) is) (his : ∀ i ∈ is, i ∈ vs)
    (ht : ∀ a, EvB K tt (sd1 a) (p a)) (he : ∀ a, EvM K te (sd1 a) (f a)) (hle : ∀ a, Le (sd1 a) (wipeS sd vs)) (hv : noOwn sd vs) : EvF K (.lst .dat) (tLc wi g tt te vs) sd (Mn.bnd x fun xs => gd (xs.length ≤ 100000) (compL p f xs)) := fun F σ B H k R out k' e Q q => by
  obtain ⟨xs, k1, e1, e2⟩ := bnd_some e
  obtain ⟨hlen, e3⟩ := gd_some e2
  refine hi F σ B H k R xs k1 e1 _ fun J B1 H1 R1 g1 S => ?_
  intro D hD
  have RD := R1.newL (ds := []) hD .nil
  refine ⟨fun i n H' => n = xs.length - i ∧ i ≤ xs.length ∧ ∃ B' k2 acc rest, Rel K (F.push (.ref D) (.lst .dat) (.lst (acc.map enc))) (wipe σ vs) B' H' (wipeS sd vs) k2 ∧ Gr B1 B' ∧ acc.length ≤ i ∧
    Mn.run (compL p f (xs.drop i)) k2 = some (rest, k') ∧ acc ++ rest = out, ⟨xs.length, by simp, Nat.zero_le _, B1, k1, [], out, RD.wiped vs, Gr.refl B1, Nat.le_refl _, by rw [List.drop_zero]; exact e3, rfl⟩, ?_⟩
  rintro i n H2 ⟨rfl, hi2, B2, k2, acc, rest, R2, g2, hl, hrun, happ⟩
  by_cases c : i < xs.length
  · right
    have hx : xs[i]? = some xs[i] := List.getElem?_eq_getElem c
    have hdrop : xs.drop i = xs[i] :: xs.drop (i + 1) := List.drop_eq_getElem_cons c
    refine ⟨S.1 i B2 H2 g2 R2.bh c, fun H' => ∃ n', n' < xs.length - i ∧ (n' = xs.length - (i + 1) ∧ i + 1 ≤ xs.length ∧ ∃ B' k2 acc rest, Rel K (F.push (.ref D) (.lst .dat) (.lst (acc.map enc))) (wipe σ vs) B' H' (wipeS sd vs) k2 ∧ Gr B1 B' ∧ acc.length ≤ i + 1 ∧
      Mn.run (compL p f (xs.drop (i + 1))) k2 = some (rest, k') ∧ acc ++ rest = out), fun H' h => h, fun v H3 y => ?_⟩
    obtain ⟨B3, rel3, g3, gh3, _, nb3, rv⟩ := S.2.2 i B2 H2 v H3 xs[i] g2 R2.bh y hx
    have R3 := rel3 (F.push (.ref D) (.lst .dat) (.lst (acc.map enc))) (wipe σ vs) (wipeS sd vs) k2 R2
    refine hg xs[i] _ (wipe σ vs) B3 H3 k2 v R3 rv _ fun σ2 R4 hw => ⟨?_, ?_⟩
    · rw [hw vs his, wipe_wipe]
    · rw [hdrop, compL_cons] at hrun
      obtain ⟨b, k3, e4, e5⟩ := bnd_some hrun
      refine ht xs[i] _ σ2 B3 H3 k2 R4 b k3 e4 _ fun B5 H5 R5 g5 => ?_
      have back : ∀ {F' B6 H6 k6}, Rel K F' σ2 B6 H6 (sd1 xs[i]) k6 → Rel K F' (wipe σ vs) B6 H6 (wipeS sd vs) k6 := fun {F' B6 H6 k6} R6 => by
        have z := (R6.le (hle xs[i])).wiped vs
        have w1 : wipe σ2 vs = wipe σ vs := by rw [hw vs his, wipe_wipe]
        rw [w1, wipeS_wipeS] at z
        exact z
      cases b with
      | false =>
        rw [if_neg Bool.false_ne_true]
        exact ⟨_, by omega, rfl, c, B5, k3, acc, rest, back R5, (g2.trans g3).trans g5, by omega, e5, happ⟩
      | true =>
        rw [if_pos rfl]
        obtain ⟨y1, k4, e6, e7⟩ := bnd_some e5
        obtain ⟨ys, k5, e8, e9⟩ := bnd_some e7
        obtain ⟨rfl, rfl⟩ := pur_some e9
        refine he xs[i] _ σ2 B5 H5 k3 R5 y1 k4 e6 _ fun w B6 H6 R6 g6 r6 => ?_
        have R7 := back R6
        obtain ⟨fp, ow, nd, hf, q7⟩ := R7.top
        obtain ⟨D', vacc, dsx, ea, ed, rfl, hD2, ra⟩ := ow_lstd.mp ow
        cases ea; cases ed
        have hlen2 : vacc.length = acc.length := by rw [ra.len, List.length_map]
        have sl1 : 100000 < sizeLine := by decide
        have hb := (hf D (List.mem_singleton.mpr rfl)).1
        have R8 := (q7 B6 (upd H6 D (.lst (vacc ++ [w]))) (fun a u na e => by rw [upd_ne (fun z => na (List.mem_singleton.mpr z))]; exact e) (Gr.refl _) (R7.bh.mut hb) fun a u e e0 => by rw [e] at e0; cases e0).2.1 (.ref D) (.lst .dat) (.lst ((acc ++ [y1]).map enc)) [D]
          (ow_lstd.mpr ⟨D, vacc ++ [w], _, rfl, rfl, rfl, upd_same, by rw [List.map_append]; exact ra.app (.cons r6 .nil)⟩) (by simp) fun a m => ⟨(hf a m).1, .inl m⟩
        refine ⟨vacc, hD2, by omega, _, by omega, rfl, c, B6, k4, acc ++ [y1], ys, R8, ((g2.trans g3).trans g5).trans g6, by rw [List.length_append]; simp; omega, e8, by rw [← happ, List.append_assoc]; rfl⟩
  · left
    have ei : i = xs.length := by omega
    subst ei
    rw [List.drop_length, compL_nil] at hrun
    obtain ⟨rfl, rfl⟩ := pur_some hrun
    rw [List.append_nil] at happ
    subst happ
    refine ⟨S.2.1 _ B2 H2 g2 R2.bh rfl, q (.ref D) B2 H2 (R2.unwipe R1 rfl g2 hv) (g1.trans g2)⟩
end
end ON

set_option Elab.async false
set_option linter.all false
set_option maxRecDepth 100000
set_option maxHeartbeats 2000000
namespace ON
open PySem L2
section
variable {K : PySem.W.Frag} {m : Type → Type} [Mn m] {α β γ δ τ τ' l l' ρ : Type} {sd : List SD} {ta tb te : TE} [Rt ρ] {W : Wr} {post : τ → List SD} {postL : l → List SD} {ts tu tb' : TS} {tt : TT}

/-- what is handed back is the asker's own, of shape s -/
structure Fw (s : Sh) (ρ : Type) where
  r : ρ
instance (priority := high) rtFw {s : Sh} {ρ : Type} [Enc ρ] : Rt (Fw s ρ) where
  ok K W F B Q r k := ∀ v σ' B' H' sd', Rel K (F.push v s (enc r.r)) σ' B' H' sd' k → Gr B B' → Q v H'
  gr g h := fun v σ' B' H' sd' R g' => h v σ' B' H' sd' R (g.trans g')
/-! ### statements -/
theorem es_next {t : τ} (h : Le sd (post t)) : EvS K W (ρ := ρ) tNext sd post postL (Mn.pur (.nx t) : m (Fl τ l ρ)) := fun F σ B H k R f k' e D q => by
  obtain ⟨rfl, rfl⟩ := pur_some e
  exact q σ B H (R.le h) (Gr.refl B)
theorem es_break {t : l} (h : Le sd (postL t)) : EvS K W (ρ := ρ) tBreak sd post postL (Mn.pur (.bk t) : m (Fl τ l ρ)) := fun F σ B H k R f k' e D q => by
  obtain ⟨rfl, rfl⟩ := pur_some e
  exact q σ B H (R.le h) (Gr.refl B)
theorem es_cont {t : l} (h : Le sd (postL t)) : EvS K W (ρ := ρ) tCont sd post postL (Mn.pur (.ct t) : m (Fl τ l ρ)) := fun F σ B H k R f k' e D q => by
  obtain ⟨rfl, rfl⟩ := pur_some e
  exact q σ B H (R.le h) (Gr.refl B)
theorem es_ret {ρ : Type} [Enc ρ] {x : m ρ} (h : EvM K te sd x) : EvS K W (tRet te) sd post postL (Mn.bnd x fun r => (Mn.pur (.rt r) : m (Fl τ l ρ))) := fun F σ B H k R f k' e D q => by
  obtain ⟨r, k1, e1, e2⟩ := bnd_some e
  obtain ⟨rfl, rfl⟩ := pur_some e2
  exact h F σ B H k R r _ e1 _ fun v B' H' R' g rr => q v σ B' H' sd R' g rr
/-- name = e, then the rest -/
theorem es_set [Enc α] {i : Nat} {x : m α} {f : α → m (Fl τ l ρ)} (h : EvM K te sd x) (hf : ∀ a, EvS K W tu (sd.set i (.dat (enc a))) post postL (f a)) : EvS K W (tSeq (tAsg te (gName i)) tu) sd post postL (Mn.bnd x f) := fun F σ B H k R r k' e D q => by
  obtain ⟨a, k1, e1, e2⟩ := bnd_some e
  exact h F σ B H k R a k1 e1 _ fun v B' H' R' g rv => hf a F _ B' H' k1 (R'.setDat rv) r k' e2 D (q.gr g)
theorem es_setF [Enc α] {s : Sh} {i : Nat} {x : m α} {f : α → m (Fl τ l ρ)} (h : EvF K s te sd x) (hf : ∀ a, EvS K W tu (sd.set i (.own s (enc a))) post postL (f a)) : EvS K W (tSeq (tAsg te (gName i)) tu) sd post postL (Mn.bnd x f) := fun F σ B H k R r k' e D q => by
  obtain ⟨a, k1, e1, e2⟩ := bnd_some e
  exact h F σ B H k R a k1 e1 _ fun v B' H' R' g => hf a F _ B' H' k1 R'.toSlot r k' e2 D (q.gr g)
/-- the last statement of a block: name = e -/
theorem es_set1 [Enc α] {i : Nat} {x : m α} {f : α → τ} (h : EvM K te sd x) (hf : ∀ a, Le (sd.set i (.dat (enc a))) (post (f a))) : EvS K W (tAsg te (gName i)) sd post postL (Mn.bnd x fun a => (Mn.pur (.nx (f a)) : m (Fl τ l ρ))) := fun F σ B H k R r k' e D q => by
  obtain ⟨a, k1, e1, e2⟩ := bnd_some e
  obtain ⟨rfl, rfl⟩ := pur_some e2
  exact h F σ B H k R a _ e1 _ fun v B' H' R' g rv => q _ B' H' ((R'.setDat rv).le (hf a)) g
/-- a target of any kind -/
theorem es_tgt [Enc α] {g : TG} {x : m α} {sd1 : α → List SD} {is : List Nat} {f : α → m (Fl τ l ρ)} (h : EvM K te sd x) (hg : ∀ a, EvG K g sd a (sd1 a) is) (hf : ∀ a, EvS K W tu (sd1 a) post postL (f a)) : EvS K W (tSeq (tAsg te g) tu) sd post postL (Mn.bnd x f) := fun F σ B H k R r k' e D q => by
  obtain ⟨a, k1, e1, e2⟩ := bnd_some e
  exact h F σ B H k R a k1 e1 _ fun v B' H' R' g' rv => hg a F σ B' H' k1 v R' rv _ fun σ' R2 _ => hf a F _ B' H' k1 R2 r k' e2 D (q.gr g')
/-- an expression alone -/
theorem es_drop [Enc α] {x : m α} {f : α → m (Fl τ l ρ)} (h : EvM K te sd x) (hf : ∀ a, EvS K W tu sd post postL (f a)) : EvS K W (tSeq (tDrop te) tu) sd post postL (Mn.bnd x f) := fun F σ B H k R r k' e D q => by
  obtain ⟨a, k1, e1, e2⟩ := bnd_some e
  exact h F σ B H k R a k1 e1 _ fun v B' H' R' g' rv => hf a F _ B' H' k1 R' r k' e2 D (q.gr g')
/-- an operator at a name -/
theorem es_aug [Enc α] [Enc β] [Enc γ] {i : Nat} {r : R2} {a : α} {y : m β} {z : β → m γ} {f : γ → m (Fl τ l ρ)} (hi : sd[i]? = some (.dat (enc a))) (h : EvM K te sd y) (hr : ∀ b, OpM K r a b (z b)) (hf : ∀ c, EvS K W tu (sd.set i (.dat (enc c))) post postL (f c)) :
    EvS K W (tSeq (tAug i te r) tu) sd post postL (Mn.bnd (Mn.bnd y z) f) := fun F σ B H k R rr k' e D q => by
  obtain ⟨c, k1, e1, e2⟩ := bnd_some e
  obtain ⟨b, k2, e3, e4⟩ := bnd_some e1
  obtain ⟨v, ho, ra⟩ := R.dat hi
  refine ⟨v, ho, ?_⟩
  refine h F σ B H k R b k2 e3 _ fun w B1 H1 R1 g1 r1 => ?_
  exact hr b F σ B1 H1 sd k2 R1 v w (ra.gr g1) r1 c k1 e4 _ fun u B2 H2 R2 g2 r2 => hf c F _ B2 H2 k1 (R2.setDat r2) rr k' e2 D (q.gr (g1.trans g2))
theorem es_aug1 [Enc α] [Enc β] [Enc γ] {i : Nat} {r : R2} {a : α} {y : m β} {z : β → m γ} {f : γ → τ} (hi : sd[i]? = some (.dat (enc a))) (h : EvM K te sd y) (hr : ∀ b, OpM K r a b (z b)) (hf : ∀ c, Le (sd.set i (.dat (enc c))) (post (f c))) :
    EvS K W (tAug i te r) sd post postL (Mn.bnd (Mn.bnd y z) fun c => (Mn.pur (.nx (f c)) : m (Fl τ l ρ))) := fun F σ B H k R rr k' e D q => by
  obtain ⟨c, k1, e1, e2⟩ := bnd_some e
  obtain ⟨rfl, rfl⟩ := pur_some e2
  obtain ⟨b, k2, e3, e4⟩ := bnd_some e1
  obtain ⟨v, ho, ra⟩ := R.dat hi
  refine ⟨v, ho, ?_⟩
  refine h F σ B H k R b k2 e3 _ fun w B1 H1 R1 g1 r1 => ?_
  exact hr b F σ B1 H1 sd k2 R1 v w (ra.gr g1) r1 c _ e4 _ fun u B2 H2 R2 g2 r2 => q _ B2 H2 ((R2.setDat r2).le (hf c)) (g1.trans g2)
/-- if, at the end of a block -/
theorem es_if {x : m Bool} {y z : m (Fl τ l ρ)} (h : EvB K tt sd x) (h1 : EvS K W ts sd post postL y) (h2 : EvS K W tu sd post postL z) : EvS K W (tIfS tt ts tu) sd post postL (Mn.bnd x fun b => cnd b y z) := fun F σ B H k R f k' e D q => by
  obtain ⟨b, k1, e1, e2⟩ := bnd_some e
  refine h F σ B H k R b k1 e1 _ fun B1 H1 R1 g1 => ?_
  cases b with
  | true => rw [if_pos rfl]; exact h1 F σ B1 H1 k1 R1 f k' e2 D (q.gr g1)
  | false => rw [if_neg Bool.false_ne_true]; exact h2 F σ B1 H1 k1 R1 f k' e2 D (q.gr g1)
/-- any statement, then the rest -/
theorem es_seq {mid : τ' → List SD} {x : m (Fl τ' l ρ)} {f : τ' → m (Fl τ l ρ)} (h : EvS K W ts sd mid postL x) (hf : ∀ t, EvS K W tu (mid t) post postL (f t)) : EvS K W (tSeq ts tu) sd post postL (andThen x f) := fun F σ B H k R r k' e D q => by
  unfold andThen at e
  obtain ⟨a, k1, e1, e2⟩ := bnd_some e
  refine h F σ B H k R a k1 e1 _ ?_
  cases a with
  | nx t => exact fun σ' B' H' R' g => hf t F σ' B' H' k1 R' r k' e2 D (q.gr g)
  | bk t => obtain ⟨rfl, rfl⟩ := pur_some e2; exact q
  | ct t => obtain ⟨rfl, rfl⟩ := pur_some e2; exact q
  | rt t => obtain ⟨rfl, rfl⟩ := pur_some e2; exact q
/-- an owned list grows -/
theorem es_app [Enc α] {i : Nat} {xs : List α} {y : m α} {f : List α → m (Fl τ l ρ)} (hi : sd[i]? = some (.own (.lst .dat) (enc xs))) (h : EvM K te sd y) (hf : ∀ a, EvS K W tu (sd.set i (.own (.lst .dat) (enc (xs ++ [a])))) post postL (f (xs ++ [a]))) :
    EvS K W (tSeq (tDrop (tBM K "list" rAppend (tVar i) (tCons te tNil))) tu) sd post postL (Mn.bnd y fun a => gd (xs.length < 100000) (f (xs ++ [a]))) := fun F σ B H k R r k' e D q => by
  obtain ⟨a, k1, e1, e2⟩ := bnd_some e
  obtain ⟨hl, e3⟩ := gd_some e2
  obtain ⟨o, f0, ho, ⟨v0, rfl, w0⟩, _⟩ := R.slot hi
  obtain ⟨p, vs, ds, rfl, ed, rfl, hh, rs⟩ := ow_lstd.mp w0
  refine ⟨_, ho, .inl ⟨rfl, vs, SqL.of hh⟩, ?_⟩
  refine h F σ B H k R a k1 e1 _ fun v B1 H1 R1 g1 r1 => ?_
  obtain ⟨o1, f1, ho1, ⟨v1, rfl, w1⟩, nd1, hf1, q1⟩ := R1.slot hi
  obtain ⟨p1, vs1, ds1, rfl, ed1, rfl, hh1, rs1⟩ := ow_lstd.mp w1
  cases ed1
  rw [ho] at ho1; cases ho1
  have l1 : vs1.length = xs.length := by rw [rs1.len, List.length_map]
  refine ⟨p, vs1, v, rfl, rfl, hh1, Nat.lt_of_lt_of_le (by omega : vs1.length < 100000) (by decide), ?_⟩
  have hb := (hf1 p (List.mem_singleton.mpr rfl)).1
  have z := q1 (some (.ref p)) (.own (.lst .dat) (enc (xs ++ [a]))) [p] B1 (upd H1 p (.lst (vs1 ++ [v]))) ⟨_, rfl, ow_lstd.mpr ⟨p, _, _, rfl, rfl, rfl, upd_same, by rw [List.map_append]; exact rs1.app (.cons r1 .nil)⟩⟩ (by simp) (fun b m => by rw [List.mem_singleton.mp m]; exact ⟨hb, .inl (List.mem_singleton.mpr rfl)⟩)
    (fun a u na e => by rw [upd_ne (fun z => na (List.mem_singleton.mpr z))]; exact e) (Gr.refl _) (R1.bh.mut hb) fun a u e e0 => by rw [e] at e0; cases e0
  rw [σ_set_self ho] at z
  exact hf a F σ B1 _ k1 z r k' e3 D (q.gr g1)
/-- an owned list is data from here on -/
theorem es_frz {i : Nat} {s : Sh} {d : D} {x : m (Fl τ l ρ)} (hi : sd[i]? = some (.own s d)) (h : EvS K W ts (sd.set i (.dat d)) post postL x) (hn : s.nd = true := by rfl) : EvS K W ts sd post postL x := fun F σ B H k R f k' e D q => by
  obtain ⟨B', R', g⟩ := R.frz hi hn
  exact h F σ B' H k R' f k' e D (q.gr g)
theorem es_le {sd' : List SD} {x : m (Fl τ l ρ)} (hl : Le sd sd') (h : EvS K W ts sd' post postL x) : EvS K W ts sd post postL x := fun F σ B H k R => h F σ B H k (R.le hl)

/-! ### loops -/
theorem es_for [Enc α] {wi : TI} {g : TG} {is : List Nat} {inv : τ → List SD} {t0 : τ} {sd1 : τ → α → List SD} {x : m (List α)} {body : τ → α → m (Fl τ τ ρ)} (hi : EvI K wi sd x) (h0 : Le sd (inv t0)) (hg : ∀ t a, EvG K g (inv t) a (sd1 t a) is)
    (hb : ∀ t a, EvS K W tb' (sd1 t a) inv inv (body t a)) : EvS K W (tFor wi g tb') sd inv postL (Mn.bnd x fun xs => (forL body xs t0 : m (Fl τ l ρ))) := fun F σ B H k R r k' e D q => by
  obtain ⟨xs, k1, e1, e2⟩ := bnd_some e
  refine hi F σ B H k R xs k1 e1 _ fun J B1 H1 R1 g1 S => ?_
  refine ⟨fun i n σ' H' => n = xs.length - i ∧ i ≤ xs.length ∧ ∃ B' k2 t, Rel K F σ' B' H' (inv t) k2 ∧ Gr B1 B' ∧ Mn.run (forL body (xs.drop i) t : m (Fl τ l ρ)) k2 = some (r, k'),
    ⟨xs.length, by simp, Nat.zero_le _, B1, k1, t0, R1.le h0, Gr.refl B1, by rw [List.drop_zero]; exact e2⟩, ?_⟩
  rintro i n σ2 H2 ⟨rfl, hi2, B2, k2, t, R2, g2, hrun⟩
  by_cases c : i < xs.length
  · right
    have hx : xs[i]? = some xs[i] := List.getElem?_eq_getElem c
    rw [List.drop_eq_getElem_cons c, forL_cons] at hrun
    obtain ⟨f, k3, e4, e5⟩ := bnd_some hrun
    refine ⟨S.1 i B2 H2 g2 R2.bh c, fun σ' H' => ∃ n', n' < xs.length - i ∧ (n' = xs.length - (i + 1) ∧ i + 1 ≤ xs.length ∧ ∃ B' k2 t, Rel K F σ' B' H' (inv t) k2 ∧ Gr B1 B' ∧ Mn.run (forL body (xs.drop (i + 1)) t : m (Fl τ l ρ)) k2 = some (r, k')), fun _ _ h => h, fun v H3 y => ?_⟩
    obtain ⟨B3, rel3, g3, gh3, _, nb3, rv⟩ := S.2.2 i B2 H2 v H3 xs[i] g2 R2.bh y hx
    refine hg t xs[i] F σ2 B3 H3 k2 v (rel3 F σ2 (inv t) k2 R2) rv _ fun σ3 R3 _ => ?_
    refine hb t xs[i] F σ3 B3 H3 k2 R3 f k3 e4 _ ?_
    cases f with
    | nx t' => exact fun σ' B' H' R' g' => ⟨_, by omega, rfl, c, B', k3, t', R', (g2.trans g3).trans g', e5⟩
    | ct t' => exact fun σ' B' H' R' g' => ⟨_, by omega, rfl, c, B', k3, t', R', (g2.trans g3).trans g', e5⟩
    | bk t' =>
      obtain ⟨rfl, rfl⟩ := pur_some e5
      exact fun σ' B' H' R' g' => q σ' B' H' R' (((g1.trans g2).trans g3).trans g')
    | rt z =>
      obtain ⟨rfl, rfl⟩ := pur_some e5
      exact Rt.gr ((g1.trans g2).trans g3) q
  · left
    have ei : i = xs.length := by omega
    subst ei
    rw [List.drop_length, forL_nil] at hrun
    obtain ⟨rfl, rfl⟩ := pur_some hrun
    exact ⟨S.2.1 _ B2 H2 g2 R2.bh rfl, q σ2 B2 H2 R2 (g1.trans g2)⟩
theorem es_while {inv : τ → List SD} {t0 : τ} {c : τ → m Bool} {body : τ → m (Fl τ τ ρ)} {n : Nat} (h0 : Le sd (inv t0)) (hc : ∀ t, EvB K tt (inv t) (c t)) (hb : ∀ t, EvS K W ts (inv t) inv inv (body t)) :
    EvS K W (tWhile tt ts) sd inv postL (whl c body n t0 : m (Fl τ l ρ)) := fun F σ B H k R r k' e D q => by
  refine ⟨fun n' σ' H' => ∃ B' k2 t, Rel K F σ' B' H' (inv t) k2 ∧ Gr B B' ∧ Mn.run (whl c body n' t : m (Fl τ l ρ)) k2 = some (r, k'), ⟨n, B, k, t0, R.le h0, Gr.refl B, e⟩, ?_⟩
  rintro n' σ2 H2 ⟨B2, k2, t, R2, g2, hrun⟩
  cases n' with
  | zero => rw [whl_zero] at hrun; exact (fl_some hrun).elim
  | succ n' =>
    rw [whl_succ] at hrun
    obtain ⟨b, k3, e1, e2⟩ := bnd_some hrun
    refine hc t F σ2 B2 H2 k2 R2 b k3 e1 _ fun B3 H3 R3 g3 => ?_
    cases b with
    | false =>
      rw [if_neg Bool.false_ne_true]
      obtain ⟨rfl, rfl⟩ := pur_some e2
      exact q σ2 B3 H3 R3 (g2.trans g3)
    | true =>
      rw [if_pos rfl]
      obtain ⟨f, k4, e3, e4⟩ := bnd_some e2
      refine ⟨fun σ' H' => ∃ m', m' < n' + 1 ∧ ∃ B' k2 t, Rel K F σ' B' H' (inv t) k2 ∧ Gr B B' ∧ Mn.run (whl c body m' t : m (Fl τ l ρ)) k2 = some (r, k'), fun _ _ h => h, ?_⟩
      refine hb t F σ2 B3 H3 k3 R3 f k4 e3 _ ?_
      cases f with
      | nx t' => exact fun σ' B' H' R' g' => ⟨n', by omega, B', k4, t', R', (g2.trans g3).trans g', e4⟩
      | ct t' => exact fun σ' B' H' R' g' => ⟨n', by omega, B', k4, t', R', (g2.trans g3).trans g', e4⟩
      | bk t' =>
        obtain ⟨rfl, rfl⟩ := pur_some e4
        exact fun σ' B' H' R' g' => q σ' B' H' R' ((g2.trans g3).trans g')
      | rt z =>
        obtain ⟨rfl, rfl⟩ := pur_some e4
        exact Rt.gr (g2.trans g3) q

/-! ### a def's promise from its body -/
def fin {ρ : Type} (x : Option (Fl Empty Empty ρ)) : Option ρ := x.bind fun f => match f with
  | .rt r => some r
  | .nx t => t.elim
  | .bk t => t.elim
  | .ct t => t.elim
def finS {ρ : Type} (x : Sm (Fl Empty Empty ρ)) : Sm ρ := fun k => (x k).bind fun p => match p.1 with
  | .rt r => some (r, p.2)
  | .nx t => t.elim
  | .bk t => t.elim
  | .ct t => t.elim
theorem fin_some {x : Option (Fl Empty Empty ρ)} {r : ρ} (h : fin x = some r) : x = some (.rt r) := by
  cases x with
  | none => cases h
  | some f => cases f with
    | rt z => cases h; rfl
    | nx t => exact t.elim
    | bk t => exact t.elim
    | ct t => exact t.elim
theorem finS_some {x : Sm (Fl Empty Empty ρ)} {r : ρ} {k k' : Int} (h : finS x k = some (r, k')) : x k = some (.rt r, k') := by
  unfold finS at h
  cases e : x k with
  | none => rw [e] at h; cases h
  | some p =>
    rw [e] at h
    obtain ⟨f, k2⟩ := p
    cases f with
    | rt z => cases h; rfl
    | nx t => exact t.elim
    | bk t => exact t.elim
    | ct t => exact t.elim
def noEnd (t : Empty) : List SD := t.elim
theorem start_get {N : List Str} {vs : List V} {i : Nat} : (L2.start N vs)[i]? = if i < vs.length then (vs[i]?).map some else if i < vs.length + (N.length - vs.length) then some none else none := by
  unfold L2.start
  by_cases c : i < vs.length
  · rw [if_pos c, List.getElem?_append_left (by rw [List.length_map]; exact c), List.getElem?_map]
  · rw [if_neg c, List.getElem?_append_right (by rw [List.length_map]; omega), List.length_map, List.getElem?_replicate]
    by_cases c2 : i < vs.length + (N.length - vs.length)
    · rw [if_pos c2, if_pos (by omega)]
    · rw [if_neg c2, if_neg (by omega)]
def sd0 (n : Nat) (ds : List D) : List SD := ds.map SD.dat ++ List.replicate (n - ds.length) .un
theorem Rel.init {B H : Hp} {N : List Str} {vs : List V} {ds : List D} (g : Gr B H) (r : Rps K B vs ds) : Rel K ⟨H, B, none, []⟩ (L2.start N vs) B H (sd0 N.length ds) 0 := by
  have z := r.len
  refine ⟨?_, g, Gr.refl B, fun a o e e0 => ?_, fun a o e _ => e, fun s e => (nomatch e), fun _ => [], fun x c e => ?_, fun _ _ => rfl, fun _ => .nil, fun _ _ _ m => (nomatch m), fun _ _ m => (nomatch m), fun _ _ m => (nomatch m), fun _ _ m => (nomatch m)⟩
  · unfold sd0 L2.start
    simp only [List.length_append, List.length_map, List.length_replicate]; omega
  · have e1 : B a = none := e0
    rw [e] at e1; cases e1
  · cases x with
    | inr j => simp [cell] at e
    | inl i =>
      simp only [cell] at e
      cases h1 : (sd0 N.length ds)[i]? with
      | none => rw [h1] at e; cases e
      | some d =>
        cases h2 : (L2.start N vs)[i]? with
        | none => rw [h1, h2] at e; cases e
        | some o =>
          rw [h1, h2] at e; cases e
          unfold sd0 at h1
          rw [start_get] at h2
          by_cases c : i < ds.length
          · rw [List.getElem?_append_left (by rw [List.length_map]; exact c), List.getElem?_map] at h1
            rw [if_pos (by omega)] at h2
            obtain ⟨d', hd, rfl⟩ := Option.map_eq_some_iff.mp h1
            obtain ⟨v, hv, rv⟩ := r.get hd
            rw [hv] at h2; cases h2
            exact ⟨rfl, v, rfl, rv⟩
          · rw [List.getElem?_append_right (by rw [List.length_map]; omega), List.length_map, List.getElem?_replicate] at h1
            by_cases c2 : i - ds.length < N.length - ds.length
            · rw [if_pos c2] at h1; cases h1; rfl
            · rw [if_neg c2] at h1; cases h1
theorem Rel.fr0 {F : Fr} {σ : L2.St} {B H : Hp} {k : Int} (R : Rel K F σ B H sd k) (h : F.sa = none) : Gr F.H0 H := fun a o e => R.fr a o e fun s es => by rw [h] at es; cases es
/-- the end of a pure def's proof -/
theorem fin_pure {N : List Str} {n : Nat} {pre : List D → D → Prop} {vs : List V} {H : Hp} {Q : VK} {E : XK} (h : spP K n .dat pre vs H Q E)
    (hb : ∀ ds r, pre ds r → ∃ (ρ : Type) (_ : Enc ρ) (x : Option (Fl Empty Empty ρ)) (z : ρ) (W : Wr), EvS K W ts (sd0 N.length ds) noEnd noEnd x ∧ x = some (.rt z) ∧ enc z = r) : ts { nx := fun _ H' => Q .non H', rt := Q } (L2.start N vs) H := by
  obtain ⟨B, ds, r, hp, hn, g, rs, q⟩ := h
  obtain ⟨ρ, i, x, z, W, hx, ex, rfl⟩ := hb ds r hp
  refine hx _ _ B H 0 (Rel.init g rs) (.rt z) 0 (by rw [ex]; rfl) _ fun v σ' B' H' sd' R' g' rv => ?_
  exact q v B' H' [] R'.b0 R'.bh (R'.fr0 rfl) (fun a o e e0 => R'.bn a o e e0) ⟨rfl, rv⟩ .nil fun _ m => nomatch m
theorem fin_pureF {N : List Str} {n : Nat} {s : Sh} {pre : List D → D → Prop} {vs : List V} {H : Hp} {Q : VK} {E : XK} (h : spP K n s pre vs H Q E)
    (hb : ∀ ds r, pre ds r → ∃ (ρ : Type) (_ : Enc ρ) (x : Option (Fl Empty Empty (Fw s ρ))) (z : ρ) (W : Wr), EvS K W ts (sd0 N.length ds) noEnd noEnd x ∧ x = some (.rt ⟨z⟩) ∧ enc z = r) : ts { nx := fun _ H' => Q .non H', rt := Q } (L2.start N vs) H := by
  obtain ⟨B, ds, r, hp, hn, g, rs, q⟩ := h
  obtain ⟨ρ, i, x, z, W, hx, ex, rfl⟩ := hb ds r hp
  refine hx _ _ B H 0 (Rel.init g rs) (.rt ⟨z⟩) 0 (by rw [ex]; rfl) _ fun v σ' B' H' sd' R' g' => ?_
  obtain ⟨f, w, nd, hf, _⟩ := R'.top
  refine q v B' H' f R'.b0 R'.bh (R'.fr0 rfl) (fun a o e e0 => R'.bn a o e e0) w nd fun a m => ⟨(hf a m).1, (hf a m).2.1⟩
/-- what a slot owns is taken out of it -/
theorem Rel.take {F : Fr} {σ : L2.St} {B H : Hp} {k : Int} {i : Nat} {s : Sh} {d : D} {v : V} {f0 : List Addr} (R : Rel K F σ B H sd k) (hi : sd[i]? = some (.own s d)) (ho : σ[i]? = some (some v)) (w : Ow K B H s v d f0) : Rel K (F.push v s d) σ B H (sd.set i .un) k := by
  obtain ⟨g, p⟩ := R.pool
  have li : i < sd.length := (List.getElem?_eq_some_iff.mp hi).1
  have hc : cell F σ sd (.inl i) = some (some v, .own s d) := by simp only [cell]; rw [hi, ho]
  obtain ⟨v', e', w'⟩ := p.ok _ _ hc
  cases e'
  refine ⟨by rw [List.length_set]; exact R.len, R.bh, R.b0, R.bn, R.fr, R.st, _, p.move (F' := F.push v s d) (fun x => decide (x = .inr F.ex.length) || decide (x = .inl i)) (fun x => if x = .inl i then [] else g (.inl i)) (Gr.refl B) rfl rfl (fun x hx => ?_) (fun x a hx m => ⟨rfl, p.b x a m⟩) (fun x cc hx e => ?_) (fun x hx e => ?_) (fun x _ => ?_) (fun x y a hx hy mx my => ?_) fun x a hx m => ?_⟩
  · have h1 : x ≠ .inr F.ex.length := fun z => by subst z; simp at hx
    have h2 : x ≠ .inl i := fun z => by subst z; simp at hx
    rw [cell_push_ne h1]
    cases x with
    | inr j => rfl
    | inl j =>
      have ne : i ≠ j := fun z => h2 (by rw [z])
      simp only [cell]
      rw [List.getElem?_set_ne ne]
  · by_cases h2 : x = .inl i
    · subst h2
      simp only [cell] at e
      rw [List.getElem?_set_self li, ho] at e; cases e
      rw [if_pos rfl]; rfl
    · have h1 : x = .inr F.ex.length := by
        simp only [Bool.or_eq_true, decide_eq_true_eq] at hx
        exact hx.resolve_right h2
      subst h1
      rw [if_neg h2]
      rw [show cell (F.push v s d) σ (sd.set i .un) (.inr F.ex.length) = cell (F.push v s d) σ sd (.inr F.ex.length) from rfl, cell_push] at e; cases e
      exact ⟨v, rfl, w'⟩
  · by_cases h2 : x = .inl i
    · rw [if_pos h2]
    · have h1 : x = .inr F.ex.length := by
        simp only [Bool.or_eq_true, decide_eq_true_eq] at hx
        exact hx.resolve_right h2
      subst h1
      rw [show cell (F.push v s d) σ (sd.set i .un) (.inr F.ex.length) = cell (F.push v s d) σ sd (.inr F.ex.length) from rfl, cell_push] at e; cases e
  · split
    · exact .nil
    · exact p.nd _
  · have hh : ∀ z : Nat ⊕ Nat, (decide (z = .inr F.ex.length) || decide (z = .inl i)) = true → a ∈ (if z = .inl i then [] else g (.inl i)) → z = .inr F.ex.length := fun z hz mz => by
      by_cases h2 : z = .inl i
      · rw [if_pos h2] at mz; cases mz
      · simp only [Bool.or_eq_true, decide_eq_true_eq] at hz
        exact hz.resolve_right h2
    exact (hh x hx mx).trans (hh y hy my).symm
  · by_cases h2 : x = .inl i
    · rw [if_pos h2] at m; cases m
    · rw [if_neg h2] at m
      exact ⟨p.b _ a m, .inl ⟨.inl i, by simp, m⟩⟩
theorem es_retF {ρ : Type} [Enc ρ] {s : Sh} {x : m ρ} (h : EvF K s te sd x) : EvS K W (tRet te) sd post postL (Mn.bnd x fun r => (Mn.pur (.rt ⟨r⟩) : m (Fl τ l (Fw s ρ)))) := fun F σ B H k R f k' e D q => by
  obtain ⟨r, k1, e1, e2⟩ := bnd_some e
  obtain ⟨rfl, rfl⟩ := pur_some e2
  exact h F σ B H k R r _ e1 _ fun v B' H' R' g => q v σ B' H' sd R' g
/-- return name, which is owned -/
theorem es_retV {ρ : Type} [Enc ρ] {s : Sh} {i : Nat} {r : ρ} (hi : sd[i]? = some (.own s (enc r))) : EvS K W (tRet (tVar i)) sd post postL (Mn.pur (.rt ⟨r⟩) : m (Fl τ l (Fw s ρ))) := fun F σ B H k R f k' e D q => by
  obtain ⟨rfl, rfl⟩ := pur_some e
  obtain ⟨o, f0, ho, ⟨v, rfl, w⟩, nd, hf, q1⟩ := R.slot hi
  refine ⟨v, ho, ?_⟩
  refine q v σ B H (sd.set i .un) (R.take hi ho w) (Gr.refl B)
end
end ON

set_option Elab.async false
set_option linter.all false
set_option maxRecDepth 100000
set_option maxHeartbeats 2000000
namespace ON
open PySem L2
section
variable {K : PySem.W.Frag} {m : Type → Type} [Mn m] {α β γ δ : Type} {sd : List SD} {ta tb te : TE}

/-! ### built-ins by their reading -/
theorem em_cb1 [Enc α] [Enc β] {r : List V → Hp → VK → Prop} {x : m α} {f : α → m β} (h : EvM K te sd x)
    (hr : ∀ (F : Fr) (σ : L2.St) (B H : Hp) (k : Int) a v, Rel K F σ B H sd k → Rp K B v (enc a) → ∀ b k', Mn.run (f a) k = some (b, k') → ∀ Q : VK, (∀ w B' H', Rel K F σ B' H' sd k' → Gr B B' → Rp K B' w (enc b) → Q w H') → r [v] H Q) :
    EvM K (tCB r (tCons te tNil)) sd (Mn.bnd x f) := fun F σ B H k R b k' e Q q => by
  obtain ⟨a, k1, e1, e2⟩ := bnd_some e
  exact h F σ B H k R a k1 e1 _ fun v B1 H1 R1 g1 r1 => hr F σ B1 H1 k1 a v R1 r1 b k' e2 Q fun w B' H' R' g r => q w B' H' R' (g1.trans g) r
def rLen (K : PySem.W.Frag) : List V → Hp → VK → Prop := fun xs H Q => (∃ p ys, xs = [.ref p] ∧ (SqL K H p ys ∨ SqT K H p ys) ∧ Q (.int ys.length) H) ∨ ∃ z, xs = [.str z] ∧ z.length ≤ sizeLine ∧ Q (.int z.length) H
theorem cr_lenU {X : Cx} : CallR X (.builtin "len") (rLen X.K) := fun pins s σ H xs us Q I r h => by
  rcases h with h | h
  · exact call_len_seq pins s σ H xs us Q I r h
  · exact call_len_str pins s σ H xs us Q I r h
theorem em_lenL [Enc α] {x : m (List α)} (h : EvM K te sd x) : EvM K (tCB (rLen K) (tCons te tNil)) sd (Mn.bnd x fun xs => Mn.pur (xs.length : Int)) := em_cb1 h fun F σ B H k a v R r b k' e Q q => by
  obtain ⟨rfl, rfl⟩ := pur_some e
  obtain ⟨p, vs, rfl, hp, hs⟩ := Rp.lst_inv r
  refine .inl ⟨p, vs, rfl, .inl (SqL.of (R.bh _ _ hp)), ?_⟩
  rw [hs.len, List.length_map]
  exact q _ B H R (Gr.refl B) (.int _)
theorem em_lenT [Enc α] {x : m (Tl α)} (h : EvM K te sd x) : EvM K (tCB (rLen K) (tCons te tNil)) sd (Mn.bnd x fun xs => Mn.pur (xs.l.length : Int)) := em_cb1 h fun F σ B H k a v R r b k' e Q q => by
  obtain ⟨rfl, rfl⟩ := pur_some e
  obtain ⟨p, vs, rfl, hp, hs⟩ := Rp.tup_inv r
  refine .inl ⟨p, vs, rfl, .inr (R.bh.sqT hp), ?_⟩
  rw [hs.len, List.length_map]
  exact q _ B H R (Gr.refl B) (.int _)
theorem em_lenS {x : m Str} (h : EvM K te sd x) : EvM K (tCB (rLen K) (tCons te tNil)) sd (Mn.bnd x fun s => gd (s.length ≤ sizeLine) (Mn.pur (s.length : Int))) := em_cb1 h fun F σ B H k a v R r b k' e Q q => by
  obtain ⟨hg, e⟩ := gd_some e
  obtain ⟨rfl, rfl⟩ := pur_some e
  rw [Rp.str_inv r]
  exact .inr ⟨a, rfl, hg, q _ B H R (Gr.refl B) (.int _)⟩
/-- len of a pair -/
theorem em_len2 [Enc α] [Enc β] {x : m (α × β)} (h : EvM K te sd x) : EvM K (tCB (rLen K) (tCons te tNil)) sd (Mn.bnd x fun _ => Mn.pur (2 : Int)) := em_cb1 h fun F σ B H k a v R r b k' e Q q => by
  obtain ⟨rfl, rfl⟩ := pur_some e
  obtain ⟨p, vs, rfl, hp, hs⟩ := Rp.tup_inv r
  refine .inl ⟨p, vs, rfl, .inr (R.bh.sqT hp), ?_⟩
  rw [hs.len]
  exact q _ B H R (Gr.refl B) (.int _)
def rTupOf (K : PySem.W.Frag) : List V → Hp → VK → Prop := fun xs H Q => ∃ p ys, xs = [.ref p] ∧ ((SqL K H p ys ∧ ∀ l, H l = none → Q (.ref l) (upd H l (.tup ys))) ∨ (SqT K H p ys ∧ Q (.ref p) H))
theorem cr_tup {X : Cx} : CallR X (.type "tuple") (rTupOf X.K) := call_tuple_of
theorem em_tupL [Enc α] {x : m (List α)} (h : EvM K te sd x) : EvM K (tCB (rTupOf K) (tCons te tNil)) sd (Mn.bnd x fun xs => Mn.pur (⟨xs⟩ : Tl α)) := em_cb1 h fun F σ B H k a v R r b k' e Q q => by
  obtain ⟨rfl, rfl⟩ := pur_some e
  obtain ⟨p, vs, rfl, hp, hs⟩ := Rp.lst_inv r
  refine ⟨p, vs, rfl, .inl ⟨SqL.of (R.bh _ _ hp), fun l hl => ?_⟩⟩
  obtain ⟨R2, g2⟩ := R.data (o := .tup vs) hl
  exact q _ _ _ R2 g2 (.tup (.inl (.inl upd_same)) (hs.gr g2))
def rSumI (K : PySem.W.Frag) : List V → Hp → VK → Prop := rSum K
theorem cr_sumU {X : Cx} (hc : X.calm = true) : CallR X (.builtin "sum") (rSumI X.K) := cr_sum hc
theorem em_sum {x : m (List Int)} (h : EvM K te sd x) : EvM K (tCB (rSumI K) (tCons te tNil)) sd (Mn.bnd x fun xs => Mn.pur xs.sum) := em_cb1 h fun F σ B H k a v R r b k' e Q q => by
  obtain ⟨rfl, rfl⟩ := pur_some e
  obtain ⟨p, vs, rfl, hp, hs⟩ := Rp.lst_inv r
  have z := Rps.ints (ns := a) hs
  subst z
  exact ⟨p, a, rfl, SqL.of (R.bh _ _ hp), q _ B H R (Gr.refl B) (.int _)⟩
theorem em_all {x : m (List Bool)} (h : EvM K te sd x) : EvM K (tCB (rAll K) (tCons te tNil)) sd (Mn.bnd x fun xs => Mn.pur (xs.all id)) := em_cb1 h fun F σ B H k a v R r b k' e Q q => by
  obtain ⟨rfl, rfl⟩ := pur_some e
  obtain ⟨p, vs, rfl, hp, hs⟩ := Rp.lst_inv r
  have z := Rps.bls (ns := a) hs
  subst z
  exact ⟨p, a, rfl, SqL.of (R.bh _ _ hp), q _ B H R (Gr.refl B) (.bl _)⟩
theorem em_any {x : m (List Bool)} (h : EvM K te sd x) : EvM K (tCB (rAny K) (tCons te tNil)) sd (Mn.bnd x fun xs => Mn.pur (xs.any id)) := em_cb1 h fun F σ B H k a v R r b k' e Q q => by
  obtain ⟨rfl, rfl⟩ := pur_some e
  obtain ⟨p, vs, rfl, hp, hs⟩ := Rp.lst_inv r
  have z := Rps.bls (ns := a) hs
  subst z
  exact ⟨p, a, rfl, SqL.of (R.bh _ _ hp), q _ B H R (Gr.refl B) (.bl _)⟩
def rMaxI : List V → Hp → VK → Prop := fun xs H Q => ∃ i j, xs = [.int i, .int j] ∧ Q (.int (if j > i then j else i)) H
def rMinI : List V → Hp → VK → Prop := fun xs H Q => ∃ i j, xs = [.int i, .int j] ∧ Q (.int (if j < i then j else i)) H
theorem cr_maxU {X : Cx} (hc : X.calm = true) : CallR X (.builtin "max") rMaxI := call_max2 hc
theorem cr_minU {X : Cx} (hc : X.calm = true) : CallR X (.builtin "min") rMinI := call_min2 hc
theorem em_max {x y : m Int} {tr : TA} (h : EvA K tr sd (Mn.bnd x fun a => Mn.bnd y fun b => Mn.pur (a, b)) (fun p => [enc p.1, enc p.2])) : EvM K (tCB rMaxI tr) sd (Mn.bnd (Mn.bnd x fun a => Mn.bnd y fun b => Mn.pur (a, b)) fun p => Mn.pur (max p.1 p.2)) := fun F σ B H k R b k' e Q q => by
  obtain ⟨p, k1, e1, e2⟩ := bnd_some e
  obtain ⟨rfl, rfl⟩ := pur_some e2
  refine h F σ B H k R p _ e1 _ fun vs B1 H1 R1 g1 r1 => ?_
  cases r1 with | cons h1 hs => cases hs with | cons h2 hs =>
    cases hs
    refine ⟨p.1, p.2, by rw [Rp.int_inv h1, Rp.int_inv h2], ?_⟩
    have z : (if p.2 > p.1 then p.2 else p.1) = max p.1 p.2 := by rw [Int.max_def]; split <;> split <;> omega
    rw [z]
    exact q _ B1 H1 R1 g1 (.int _)
theorem em_min {x y : m Int} {tr : TA} (h : EvA K tr sd (Mn.bnd x fun a => Mn.bnd y fun b => Mn.pur (a, b)) (fun p => [enc p.1, enc p.2])) : EvM K (tCB rMinI tr) sd (Mn.bnd (Mn.bnd x fun a => Mn.bnd y fun b => Mn.pur (a, b)) fun p => Mn.pur (min p.1 p.2)) := fun F σ B H k R b k' e Q q => by
  obtain ⟨p, k1, e1, e2⟩ := bnd_some e
  obtain ⟨rfl, rfl⟩ := pur_some e2
  refine h F σ B H k R p _ e1 _ fun vs B1 H1 R1 g1 r1 => ?_
  cases r1 with | cons h1 hs => cases hs with | cons h2 hs =>
    cases hs
    refine ⟨p.1, p.2, by rw [Rp.int_inv h1, Rp.int_inv h2], ?_⟩
    have z : (if p.2 < p.1 then p.2 else p.1) = min p.1 p.2 := by rw [Int.min_def]; split <;> split <;> omega
    rw [z]
    exact q _ B1 H1 R1 g1 (.int _)
def strI (i : Int) : Str := toString i
def rStrI : List V → Hp → VK → Prop := fun xs H Q => ∃ i, xs = [.int i] ∧ i.natAbs.log2 < 1920 ∧ Q (.str (toString i)) H
theorem cr_strU {X : Cx} : CallR X (.type "str") rStrI := call_str_int
theorem em_str1 {x : m Int} (h : EvM K te sd x) : EvM K (tCB rStrI (tCons te tNil)) sd (Mn.bnd x fun i => gd (i.natAbs.log2 < 1920) (Mn.pur (strI i))) := em_cb1 h fun F σ B H k a v R r b k' e Q q => by
  obtain ⟨hg, e⟩ := gd_some e
  obtain ⟨rfl, rfl⟩ := pur_some e
  rw [Rp.int_inv r]
  exact ⟨a, rfl, hg, q _ B H R (Gr.refl B) (.str _)⟩
/-! ### isinstance of a built-in class -/
def tyN : D → String
  | .non => "NoneType"
  | .bl _ => "bool"
  | .int _ => "int"
  | .str _ => "str"
  | .lst _ => "list"
  | .tup _ => "tuple"
  | .dic _ _ => "dict"
  | .scr _ => "list"
  | .err _ _ _ => ""
theorem Rp.ty {B : Hp} {v : V} {d : D} (r : Rp K B v d) (hn : tyN d ≠ "") : TyX K B v (.type (tyN d)) := by
  cases r with
  | non => exact .base .non
  | bl b => exact .base (.bl b)
  | int i => exact .base (.int i)
  | str x => exact .base (.str x)
  | lst h hs => exact .base (.lst h)
  | tup h hs =>
    rcases h with (h | ⟨o, h⟩) | ⟨o, its, n, h1, h2, _⟩
    · exact .base (.tup h)
    · exact .fTuple h
    · exact .kTuple h1 h2
  | dic hl h hs => exact .fDict h
  | err _ _ => exact absurd rfl hn
  | erf _ _ _ _ => exact absurd rfl hn
  | scr ns h =>
    rcases h with (h | ⟨o, h⟩) | ⟨o, its, n, h1, h2, _⟩
    · exact .base (.lst h)
    · exact .base (.frz h)
    · exact .kList h1 h2
theorem em_isi [Enc α] {x : m α} {T : String} {f : α → Bool} (h : EvM K te sd x) (hk : ∀ a, kitB (tyN (enc a)) T = some (f a)) (hn : ∀ a : α, tyN (enc a) ≠ "" := by intro a; first | (intro h; simp [tyN, ON.enc, Enc.enc] at h; done) | (cases a <;> (intro h; simp [tyN, ON.enc, Enc.enc] at h; done))) : EvM K (tCB (rIsi K) (tCons te (tCons (tC (.ty T)) tNil))) sd (Mn.bnd x fun a => Mn.pur (f a)) := fun F σ B H k R b k' e Q q => by
  obtain ⟨a, k1, e1, e2⟩ := bnd_some e
  obtain ⟨rfl, rfl⟩ := pur_some e2
  exact h F σ B H k R a _ e1 _ fun v B1 H1 R1 g1 r1 => ⟨v, .ty T, _, _, _, rfl, .ty T, (r1.gr R1.bh).ty (hn a), kit_ty (hk a), q _ B1 H1 R1 g1 (.bl _)⟩

/-! ### slices, lists put together -/
def EvO (K : PySem.W.Frag) (to : TO) (sd : List SD) (x : m (Option Int)) : Prop := ∀ (F : Fr) (σ : L2.St) (B H : Hp) (k : Int), Rel K F σ B H sd k → ∀ (a : Option Int) (k' : Int), Mn.run x k = some (a, k') →
  ∀ Q : Option Int → Hp → Prop, (∀ B' H', Rel K F σ B' H' sd k' → Gr B B' → Q a H') → to σ H Q
theorem eo_none : EvO K tNoPart sd (Mn.pur none : m (Option Int)) := fun F σ B H k R a k' e Q q => by
  obtain ⟨rfl, rfl⟩ := pur_some e
  exact q B H R (Gr.refl B)
theorem eo_some {x : m Int} (h : EvM K te sd x) : EvO K (tPart te) sd (Mn.bnd x fun i => Mn.pur (some i)) := fun F σ B H k R a k' e Q q => by
  obtain ⟨i, k1, e1, e2⟩ := bnd_some e
  obtain ⟨rfl, rfl⟩ := pur_some e2
  exact h F σ B H k R i _ e1 _ fun v B1 H1 R1 g1 r1 => ⟨i, Rp.int_inv r1, q B1 H1 R1 g1⟩
def cutL (xs : List α) (lo hi : Option Int) : List α := (xs.drop (HT.sIx xs.length 0 lo)).take (HT.sIx xs.length xs.length hi - HT.sIx xs.length 0 lo)
theorem Rps.cut {B : Hp} {vs : List V} {ds : List D} (r : Rps K B vs ds) (lo hi : Option Int) : Rps K B (cutV vs lo hi) (cutL ds lo hi) := by
  unfold cutV cutL
  rw [r.len]
  exact (r.drop _).take _
theorem cutL_map (f : α → β) (xs : List α) (lo hi : Option Int) : (cutL xs lo hi).map f = cutL (xs.map f) lo hi := by
  unfold cutL
  rw [List.length_map, List.map_take, List.map_drop]
variable {tl th : TO}
theorem ef_slice [Enc α] {x : m (List α)} {y z : m (Option Int)} (h : EvM K te sd x) (hl : EvO K tl sd y) (hh : EvO K th sd z) : EvF K (.lst .dat) (tSl (rSlL K) te tl th) sd (Mn.bnd x fun xs => Mn.bnd y fun lo => Mn.bnd z fun hi => Mn.pur (cutL xs lo hi)) := fun F σ B H k R b k' e Q q => by
  obtain ⟨xs, k1, e1, e2⟩ := bnd_some e
  obtain ⟨lo, k2, e3, e4⟩ := bnd_some e2
  obtain ⟨hi, k3, e5, e6⟩ := bnd_some e4
  obtain ⟨rfl, rfl⟩ := pur_some e6
  refine h F σ B H k R xs k1 e1 _ fun v B1 H1 R1 g1 r1 => ?_
  refine hl F σ B1 H1 k1 R1 lo k2 e3 _ fun B2 H2 R2 g2 => ?_
  refine hh F σ B2 H2 k2 R2 hi _ e5 _ fun B3 H3 R3 g3 => ?_
  obtain ⟨p, vs, rfl, hp, hs⟩ := Rp.lst_inv (r1.gr (g2.trans g3))
  refine ⟨p, vs, rfl, SqL.of (R3.bh _ _ hp), fun l hl => ?_⟩
  exact q _ B3 _ (R3.newL hl (by show Rps K B3 _ ((cutL _ _ _).map enc); rw [cutL_map]; exact hs.cut lo hi)) ((g1.trans g2).trans g3)
theorem ef_sliceSc {x : m Sc} {y z : m (Option Int)} (h : EvM K te sd x) (hl : EvO K tl sd y) (hh : EvO K th sd z) : EvF K (.lst .dat) (tSl (rSlL K) te tl th) sd (Mn.bnd x fun xs => Mn.bnd y fun lo => Mn.bnd z fun hi => Mn.pur (cutL xs.ns lo hi)) := fun F σ B H k R b k' e Q q => by
  obtain ⟨xs, k1, e1, e2⟩ := bnd_some e
  obtain ⟨lo, k2, e3, e4⟩ := bnd_some e2
  obtain ⟨hi, k3, e5, e6⟩ := bnd_some e4
  obtain ⟨rfl, rfl⟩ := pur_some e6
  refine h F σ B H k R xs k1 e1 _ fun v B1 H1 R1 g1 r1 => ?_
  refine hl F σ B1 H1 k1 R1 lo k2 e3 _ fun B2 H2 R2 g2 => ?_
  refine hh F σ B2 H2 k2 R2 hi _ e5 _ fun B3 H3 R3 g3 => ?_
  obtain ⟨p, rfl, hp⟩ := Rp.scr_inv (ns := xs.ns) (r1.gr (g2.trans g3))
  refine ⟨p, _, rfl, R3.bh.sqL hp, fun l hl => ?_⟩
  exact q _ B3 _ (R3.newL hl (by show Rps K B3 _ ((cutL _ _ _).map enc); rw [cutL_map]; exact (Rps.ofInts xs.ns).cut lo hi)) ((g1.trans g2).trans g3)
theorem em_lenSc {x : m Sc} (h : EvM K te sd x) : EvM K (tCB (rLen K) (tCons te tNil)) sd (Mn.bnd x fun xs => Mn.pur (xs.ns.length : Int)) := em_cb1 h fun F σ B H k a v R r b k' e Q q => by
  obtain ⟨rfl, rfl⟩ := pur_some e
  obtain ⟨p, rfl, hp⟩ := Rp.scr_inv (ns := a.ns) r
  refine .inl ⟨p, _, rfl, .inl (R.bh.sqL hp), ?_⟩
  rw [List.length_map]
  exact q _ B H R (Gr.refl B) (.int _)
def cutT (x : Str) (lo hi : Option Int) : Str := cutS x lo hi
theorem em_sliceS {x : m Str} {y z : m (Option Int)} (h : EvM K te sd x) (hl : EvO K tl sd y) (hh : EvO K th sd z) : EvM K (tSl rSlS te tl th) sd (Mn.bnd x fun xs => Mn.bnd y fun lo => Mn.bnd z fun hi => gd (xs.length ≤ sizeLine) (Mn.pur (cutT xs lo hi))) := fun F σ B H k R b k' e Q q => by
  obtain ⟨xs, k1, e1, e2⟩ := bnd_some e
  obtain ⟨lo, k2, e3, e4⟩ := bnd_some e2
  obtain ⟨hi, k3, e5, e6⟩ := bnd_some e4
  obtain ⟨hg, e7⟩ := gd_some e6
  obtain ⟨rfl, rfl⟩ := pur_some e7
  refine h F σ B H k R xs k1 e1 _ fun v B1 H1 R1 g1 r1 => ?_
  refine hl F σ B1 H1 k1 R1 lo k2 e3 _ fun B2 H2 R2 g2 => ?_
  refine hh F σ B2 H2 k2 R2 hi _ e5 _ fun B3 H3 R3 g3 => ?_
  exact ⟨xs, Rp.str_inv r1, hg, q _ B3 H3 R3 ((g1.trans g2).trans g3) (.str _)⟩
theorem ef_cat [Enc α] {x y : m (List α)} (h : EvM K ta sd x) (h2 : EvM K tb sd y) : EvF K (.lst .dat) (tOp rCat ta tb) sd (Mn.bnd x fun xs => Mn.bnd y fun ys => gd (xs.length + ys.length ≤ sizeLine) (Mn.pur (xs ++ ys))) := fun F σ B H k R b k' e Q q => by
  obtain ⟨xs, k1, e1, e2⟩ := bnd_some e
  obtain ⟨ys, k2, e3, e4⟩ := bnd_some e2
  obtain ⟨hg, e5⟩ := gd_some e4
  obtain ⟨rfl, rfl⟩ := pur_some e5
  refine h F σ B H k R xs k1 e1 _ fun v B1 H1 R1 g1 r1 => ?_
  refine h2 F σ B1 H1 k1 R1 ys _ e3 _ fun w B2 H2 R2 g2 r2 => ?_
  obtain ⟨p, vs, rfl, hp, hs⟩ := Rp.lst_inv (r1.gr g2)
  obtain ⟨p2, vs2, rfl, hp2, hs2⟩ := Rp.lst_inv r2
  refine ⟨p, p2, vs, vs2, rfl, rfl, R2.bh _ _ hp, R2.bh _ _ hp2, ?_, fun l hl => ?_⟩
  · rw [hs.len, hs2.len, List.length_map, List.length_map]; exact hg
  · exact q _ B2 _ (R2.newL hl (by rw [List.map_append]; exact hs.app hs2)) (g1.trans g2)
theorem ef_rev [Enc α] {x : m (List α)} (h : EvM K te sd x) : EvF K (.lst .dat) (tRevL K te) sd (Mn.bnd x fun xs => Mn.pur xs.reverse) := fun F σ B H k R b k' e Q q => by
  obtain ⟨xs, k1, e1, e2⟩ := bnd_some e
  obtain ⟨rfl, rfl⟩ := pur_some e2
  refine h F σ B H k R xs _ e1 _ fun v B1 H1 R1 g1 r1 => ?_
  obtain ⟨p, vs, rfl, hp, hs⟩ := Rp.lst_inv r1
  refine ⟨p, vs, rfl, SqL.of (R1.bh _ _ hp), fun l hl => ?_⟩
  exact q _ B1 _ (R1.newL hl (by rw [List.map_reverse]; exact hs.rev)) g1

/-! ### texts -/
theorem em_fs2 {t1 t3 : TE} {x z : m Str} {c : Str} (h1 : EvM K t1 sd x) (h2 : EvM K t3 sd z) : EvM K (fun σ H Q => tJs [tFmt t1, tC (.str c), tFmt t3] Str.empty σ H fun out H1 => Q (.str out) H1) sd
    (Mn.bnd x fun a => Mn.bnd z fun b => gd (a.length ≤ sizeLine ∧ b.length ≤ sizeLine ∧ (Str.empty ++ a).length ≤ sizeLine ∧ (Str.empty ++ a ++ c).length ≤ sizeLine ∧ (Str.empty ++ a ++ c ++ b).length ≤ sizeLine) (Mn.pur (Str.empty ++ a ++ c ++ b))) := fun F σ B H k R b k' e Q q => by
  obtain ⟨a, k1, e1, e2⟩ := bnd_some e
  obtain ⟨b', k2, e3, e4⟩ := bnd_some e2
  obtain ⟨⟨g1, g2, g3, g4, g5⟩, e5⟩ := gd_some e4
  obtain ⟨rfl, rfl⟩ := pur_some e5
  refine h1 F σ B H k R a k1 e1 _ fun v B1 H1 R1 gr1 r1 => ?_
  refine .inl ⟨a, Rp.str_inv r1, g1, a, rfl, g3, c, rfl, g4, ?_⟩
  refine h2 F σ B1 H1 k1 R1 b' _ e3 _ fun w B2 H2 R2 gr2 r2 => ?_
  exact .inl ⟨b', Rp.str_inv r2, g2, b', rfl, g5, q _ B2 H2 R2 (gr1.trans gr2) (.str _)⟩
def rZf : V → List V → Hp → VK → Prop := fun x xs H Q => ∃ (a : Str) (i : Int), x = .str a ∧ xs = [.int i] ∧ PadOk i = true ∧ Q (.str (Txt.zfill a i)) H
theorem mt_zfU {X : Cx} : MtR X "str.zfill" rZf := mt_zfill
theorem em_zfill {x : m Str} {i : Int} (h : EvM K te sd x) (hi : PadOk i = true) : EvM K (tBM K "str" rZf te (tCons (tC (.int i)) tNil)) sd (Mn.bnd x fun a => Mn.pur (Txt.zfill a i)) := fun F σ B H k R b k' e Q q => by
  obtain ⟨a, k1, e1, e2⟩ := bnd_some e
  obtain ⟨rfl, rfl⟩ := pur_some e2
  refine h F σ B H k R a _ e1 _ fun v B1 H1 R1 gr1 r1 => ?_
  rw [Rp.str_inv r1]
  exact ⟨rfl, a, i, rfl, rfl, hi, q _ B1 H1 R1 gr1 (.str _)⟩
def rJoin (K : PySem.W.Frag) : V → List V → Hp → VK → Prop := fun x xs H Q => ∃ a p, ∃ ys : List Str, x = .str a ∧ xs = [.ref p] ∧ (SqL K H p (ys.map V.str) ∨ SqT K H p (ys.map V.str)) ∧ (ys.map (·.length)).sum + ys.length * a.length ≤ 16777216 ∧ Q (.str (Txt.join a ys)) H
theorem mt_joinU {X : Cx} : MtR X "str.join" (rJoin X.K) := mt_join
theorem em_join {x : m (List Str)} {c : Str} (h : EvM K te sd x) : EvM K (tBM K "str" (rJoin K) (tC (.str c)) (tCons te tNil)) sd (Mn.bnd x fun ys => gd ((ys.map (·.length)).sum + ys.length * c.length ≤ 16777216) (Mn.pur (Txt.join c ys))) := fun F σ B H k R b k' e Q q => by
  obtain ⟨ys, k1, e1, e2⟩ := bnd_some e
  obtain ⟨hg, e3⟩ := gd_some e2
  obtain ⟨rfl, rfl⟩ := pur_some e3
  refine ⟨rfl, ?_⟩
  refine h F σ B H k R ys _ e1 _ fun v B1 H1 R1 gr1 r1 => ?_
  obtain ⟨p, vs, rfl, hp, hs⟩ := Rp.lst_inv r1
  have z := Rps.strs (ns := ys) hs
  subst z
  exact ⟨c, p, ys, rfl, rfl, .inl (SqL.of (R1.bh _ _ hp)), hg, q _ B1 H1 R1 gr1 (.str _)⟩
end
end ON
namespace ON
open PySem PySem.Spec PyProof.Rows L2
section
variable {K : PySem.W.Frag} {m : Type → Type} [Mn m] {α β γ δ τ l ρ : Type} {sd : List SD} {ta tb te : TE} [Rt ρ] {W : Wr} {post : τ → List SD} {postL : l → List SD} {ts tu : TS}
/-- return e; what follows is never reached -/
theorem es_retS {ρ : Type} [Enc ρ] {x : m ρ} (h : EvM K te sd x) : EvS K W (tSeq (tRet te) tu) sd post postL (Mn.bnd x fun r => (Mn.pur (.rt r) : m (Fl τ l ρ))) := fun F σ B H k R f k' e D q => by
  obtain ⟨r, k1, e1, e2⟩ := bnd_some e
  obtain ⟨rfl, rfl⟩ := pur_some e2
  exact h F σ B H k R r _ e1 _ fun v B' H' R' g rr => q v σ B' H' sd R' g rr
theorem es_breakS {t : l} (h : Le sd (postL t)) : EvS K W (ρ := ρ) (tSeq tBreak tu) sd post postL (Mn.pur (.bk t) : m (Fl τ l ρ)) := fun F σ B H k R f k' e D q => by
  obtain ⟨rfl, rfl⟩ := pur_some e
  exact q σ B H (R.le h) (Gr.refl B)
theorem es_contS {t : l} (h : Le sd (postL t)) : EvS K W (ρ := ρ) (tSeq tCont tu) sd post postL (Mn.pur (.ct t) : m (Fl τ l ρ)) := fun F σ B H k R f k' e D q => by
  obtain ⟨rfl, rfl⟩ := pur_some e
  exact q σ B H (R.le h) (Gr.refl B)
/-- a, b = x, y -/
theorem es_par [Enc α] [Enc β] {i j : Nat} {tr : TA} {x : m (α × β)} {f : α × β → m (Fl τ l ρ)} (h : EvA K tr sd x (fun p => [enc p.1, enc p.2])) (hf : ∀ p, EvS K W tu ((sd.set i (.dat (enc p.1))).set j (.dat (enc p.2))) post postL (f p)) :
    EvS K W (tSeq (tPar i j tr) tu) sd post postL (Mn.bnd x f) := fun F σ B H k R r k' e D q => by
  obtain ⟨p, k1, e1, e2⟩ := bnd_some e
  refine h F σ B H k R p k1 e1 _ fun vs B1 H1 R1 g1 r1 => ?_
  cases r1 with | cons h1 hs => cases hs with | cons h2 hs =>
    cases hs
    exact ⟨_, _, rfl, hf p F _ B1 H1 k1 ((R1.setDat h1).setDat h2) r k' e2 D (q.gr g1)⟩
/-- a tuple display as a tuple of any length -/
theorem em_tupTl [Enc α] {tr : TA} {y : m (List α)} (h : EvA K tr sd y (fun xs => xs.map enc)) : EvM K (tTup tr) sd (Mn.bnd y fun xs => gd (xs.length ≤ 1000) (Mn.pur (⟨xs⟩ : Tl α))) := fun F σ B H k R c k' e Q q => by
  obtain ⟨xs, k1, e1, e2⟩ := bnd_some e
  obtain ⟨hl, e3⟩ := gd_some e2
  obtain ⟨rfl, rfl⟩ := pur_some e3
  refine h F σ B H k R xs _ e1 _ fun vs B1 H1 R1 g1 r1 => ⟨?_, fun p hp => ?_⟩
  · rw [r1.len, List.length_map]; exact Nat.le_trans hl (by decide)
  · obtain ⟨R2, g2⟩ := R1.data (o := .tup vs) hp
    exact q (.ref p) _ _ R2 (g1.trans g2) (.tup (.inl (.inl upd_same)) (r1.gr g2))
def PowOk (i j : Int) : Prop := 0 ≤ j ∧ j ≤ 1000000 ∧ i.natAbs < 2 ^ 64
instance (i j : Int) : Decidable (PowOk i j) := by unfold PowOk; exact inferInstance
theorem om_pow {a b : Int} : OpM K (rI CPow fun i j => .int (i ^ j.toNat)) a b (gd (PowOk a b) (Mn.pur (a ^ b.toNat)) : m Int) := om_I id
/-- in-place products -/
theorem iop_mulU {X : Cx} : PIp X .Mult rMul := fun pins s σ H x y v u Q I rx ry h => by
  obtain ⟨i, j, rfl, rfl, hc, q⟩ := h
  obtain ⟨t, rfl⟩ := rx
  obtain ⟨t', rfl⟩ := ry
  have ok := Or.elim hc (fun z => CMul.ok z) (fun z => CMulW.ok z)
  exact imul_int ⟨.int (i * j), H, I.tok _, ⟨_, rfl⟩, q⟩ ok
theorem room64 {k : Nat} {A : Around} (hr : Room k A) : A.units + 64 < cLine := by have := hr.un; omega
def FU : Nat := 1000000000
theorem Rp.tupK {B : Hp} {a : Addr} {od : Option Addr} {its : Array Value} {n : Nat} {sl : Array (Option Value)} {vs : List V} {ds : List D} (h : K.lookup a = some ⟨.type "tuple", od, .seq its n, sl⟩) (hl : its.size ≤ 1000) (hv : Vals vs its.toList) (hs : Rps K B vs ds) : Rp K B (.ref a) (.tup ds) :=
  .tup (.inr ⟨_, its, n, h, rfl, rfl, Nat.le_trans hl (by decide), hv⟩) hs
end
end ON
namespace ON
open PySem PySem.Spec PyProof.Rows L2
section
variable {K : PySem.W.Frag} {m : Type → Type} [Mn m] {α β γ δ τ l ρ : Type} {sd : List SD} {ta tb te : TE}
theorem eb_yes : EvB K tYes sd (Mn.pur true : m Bool) := fun F σ B H k R b k' e Q q => by
  obtain ⟨rfl, rfl⟩ := pur_some e
  exact q B H R (Gr.refl B)
def Rg3 (i j c : Int) : Prop := c ≠ 0 ∧ c.natAbs < 1073741824 ∧ Builtin.Range.small i j c = true ∧ 0 ≤ Builtin.Range.rangeSize i j c
instance (i j c : Int) : Decidable (Rg3 i j c) := by unfold Rg3; exact inferInstance
def rg3 (i j c : Int) : Nat := (Builtin.Range.rangeSize i j c).toNat
theorem ei_rng3 {tr : TA} {x : m (Int × Int × Int)} {g : Int × Int × Int → List D} (h : EvA K tr sd x g) (hg : ∀ p, g p = [enc p.1, enc p.2.1, enc p.2.2] := by intro _; rfl) : EvI K (iRng3 tr) sd (Mn.bnd x fun n => gd (Rg3 n.1 n.2.1 n.2.2) (Mn.pur (upTo n.1 (rg3 n.1 n.2.1 n.2.2) n.2.2))) := fun F σ B H k R xs k' e Q q => by
  obtain ⟨n, k1, e1, e2⟩ := bnd_some e
  obtain ⟨⟨h1, h2, h3, h4⟩, e3⟩ := gd_some e2
  obtain ⟨rfl, rfl⟩ := pur_some e3
  refine h F σ B H k R n _ e1 _ fun vs B1 H1 R1 g1 r1 => ?_
  rw [hg] at r1
  cases r1 with | cons a1 hs => cases hs with | cons a2 hs => cases hs with | cons a3 hs =>
    cases hs
    exact ⟨n.1, n.2.1, n.2.2, rg3 n.1 n.2.1 n.2.2, by rw [Rp.int_inv a1, Rp.int_inv a2, Rp.int_inv a3], ⟨h1, h2, h3, (Int.toNat_of_nonneg h4).symm⟩, q _ B1 H1 R1 g1 src_rngC⟩
end
end ON
namespace ON
open PySem PySem.Spec PyProof.Rows L2
section
variable {X : Cx} {K : PySem.W.Frag}
theorem PE.toK {e : Expr} {t t' : TE} (h : PE X e t) (ht : t = t') : PE X e t' := ht ▸ h
end
end ON

set_option Elab.async false
set_option linter.all false
set_option maxRecDepth 100000
set_option maxHeartbeats 2000000
/-! the state that a law draws from -/
namespace ON
open PySem PySem.Spec PyProof.Rows L2
theorem st_at {cv : V} {k : Int} {nv : Option V} : valV (stKvs cv k nv) (.inr "at") = some (.int k) := by cases nv <;> rfl
theorem st_cells {cv : V} {k : Int} {nv : Option V} : valV (stKvs cv k nv) (.inr "cells") = some cv := by cases nv <;> rfl
theorem st_put {cv : V} {k k' : Int} {nv : Option V} : putK (stKvs cv k nv) (.inr "at") (.int k') = stKvs cv k' nv := by cases nv <;> rfl
theorem st_len {cv : V} {k : Int} {nv : Option V} : (stKvs cv k nv).length < sizeLine := by
  cases nv with
  | none => exact (by decide : 2 < sizeLine)
  | some n => exact (by decide : 3 < sizeLine)
theorem st_names {cv : V} {k : Int} {n : V} : valV (stKvs cv k (some n)) (.inr "names") = some n := rfl
theorem st_putN {cv : V} {k : Int} {n : V} : putK (stKvs cv k none) (.inr "names") n = stKvs cv k (some n) := rfl
/-- what is drawn -/
def nxB (c : List Int) (k1 : Int) : Int := 31 * k1 * k1 + 7919 * k1 + (match atI c (k1 % c.length) with | some z => z % 2147483647 * (1 + k1 / c.length) | none => 0)
def nxV (c : List Int) (k1 mm : Int) : Int := nxB c k1 * 48271 % 2147483647 / 7 % mm
def nx (c : List Int) (mm : Int) : Sm Int := fun k => if 0 ≤ k ∧ k < 1000000000000 ∧ 0 < mm ∧ c.length ≤ 1000 then some (nxV c (k + 1) mm, k + 1) else none
theorem nx_some {c : List Int} {mm k r k' : Int} (h : nx c mm k = some (r, k')) : (0 ≤ k ∧ k < 1000000000000 ∧ 0 < mm ∧ c.length ≤ 1000) ∧ r = nxV c (k + 1) mm ∧ k' = k + 1 := by
  unfold nx at h
  by_cases z : 0 ≤ k ∧ k < 1000000000000 ∧ 0 < mm ∧ c.length ≤ 1000
  · rw [if_pos z] at h; cases h; exact ⟨z, rfl, rfl⟩
  · rw [if_neg z] at h; cases h
abbrev pr_next (q : SK) (ds : List (Option D)) (k : Int) (r : D) (k' : Int) : Prop := ∃ (c : List Int) (ns : Option (List Str)) (p0 x : Int), q = .run c ns ∧ ds = [none, some (enc p0)] ∧ nx c p0 k = some (x, k') ∧ r = enc x
def rNxA : R2 := rI0 fun i j => .int (i + j)
def rNxM : R2 := rI (fun _ j => 0 < j) fun i j => .int (i % j)
def rNxD : R2 := rI CDivW fun i j => .int (i / j)
/-- the reading of the drawing def's body -/
def tNx (K : PySem.W.Frag) : TS := tSeq (sDPut (tVar 0) (tC (.str "at")) (tOp rNxA (tDGet (tVar 0) (tC (.str "at"))) (tC (.int 1))))
  (tSeq (tAsg (tDGet (tVar 0) (tC (.str "at"))) (gName 2)) (tSeq (tAsg (tDGet (tVar 0) (tC (.str "cells"))) (gName 3))
  (tSeq (tAsg (tOp rNxA (tOp rMul (tOp rMul (tC (.int 31)) (tVar 2)) (tVar 2)) (tOp rMul (tC (.int 7919)) (tVar 2))) (gName 4))
  (tSeq (tIfS (tTest (tOp (rNeD K) (tVar 3) (tLst tNil)))
    (tSeq (tAsg (tOp rNxA (tVar 4) (tOp rMul (tOp rNxM (tOp (rIxL K) (tVar 3) (tOp rNxM (tVar 2) (tCB (rLen K) (tCons (tVar 3) tNil)))) (tC (.int 2147483647)))
      (tOp rNxA (tC (.int 1)) (tOp rNxD (tVar 2) (tCB (rLen K) (tCons (tVar 3) tNil)))))) (gName 4)) tNext) tNext)
  (tSeq (tRet (tOp rNxM (tOp rNxD (tOp rNxM (tOp rMul (tVar 4) (tC (.int 48271))) (tC (.int 2147483647))) (tC (.int 7))) (tVar 1))) tNext)))))
theorem ints_eqv_nil (c : List Int) : PyData.eqv (.list (c.map .int)) (.list []) = decide (c = []) := by
  cases c with
  | nil => rfl
  | cons x r => simp [PyData.eqv, PyData.eqvAll]
theorem dp_ints (K : PySem.W.Frag) (H : Hp) : ∀ c : List Int, DpAll K H (c.map V.int) (c.map .int)
  | [] => .nil
  | x :: r => .cons (.int x) (dp_ints K H r)
theorem ints_shaped (c : List Int) : SeqAt.shaped (.list (c.map .int)) = true := by
  have h1 : ∀ c : List Int, PyData.canLayAll0 (c.map .int) = true := fun c => by
    induction c with
    | nil => rfl
    | cons x r ih => simp [PyData.canLayAll0, PyData.canLay0, ih]
  have h2 : ∀ c : List Int, PyData.depthAll (c.map .int) ≤ 1 := fun c => by
    induction c with
    | nil => simp [PyData.depthAll]
    | cons x r ih => simp only [List.map_cons, PyData.depthAll, PyData.depth]; omega
  show (PyData.canLay0 (.list (c.map .int)) && decide (PyData.depth (.list (c.map .int)) ≤ 64)) = true
  rw [Bool.and_eq_true]
  refine ⟨by simp only [PyData.canLay0]; exact h1 c, decide_eq_true ?_⟩
  have := h2 c
  simp only [PyData.depth]; omega
theorem mul_ok1 {i j : Int} (h : -(2 ^ 64) < i ∧ i < 2 ^ 64) : ON.MulOk i j := .inl (.inl h)
theorem mul_ok2 {i j : Int} (h : -(2 ^ 64) < j ∧ j < 2 ^ 64) : ON.MulOk i j := .inl (.inr h)
theorem log2_small {i : Int} (h : i.natAbs < 2 ^ 64) : i.natAbs.log2 < 9000 := Nat.lt_of_lt_of_le (PySem.Flt.log2_lt_of (by decide) h) (by decide)
theorem run_next {K : PySem.W.Frag} {vs : List V} {H : Hp} {Q : VK} {E : XK} (h : spS K 2 .dat pr_next vs H Q E) : tNx K { nx := fun _ H' => Q .non H', rt := Q } (L2.start ["_law_state", "_law_many", "_law_k", "_law_cells", "_law_base"] vs) H := by
  obtain ⟨B, a, ⟨_, ca, nv⟩, ds, k, r, k', ⟨c, ns, mm, x, rfl, rfl, hx, rfl⟩, hl, g, hS, rs, q⟩ := h
  match vs, hl, rs with
  | [v0, v1], _, rs =>
  obtain ⟨rfl, r1, _⟩ := rs
  obtain ⟨⟨h0, h1, h2, h3⟩, rfl, rfl⟩ := nx_some hx
  cases r1
  obtain ⟨hb, hh, hq, hn⟩ := hS
  have gg := DGet.k (k := .inr "at") hh
  rw [st_at] at gg
  -- state['at'] = state['at'] + 1
  refine ⟨_, rfl, a, _, rfl, gg, k, 1, rfl, rfl, _, rfl, a, _, rfl, DPut.k (k := .inr "at") hh st_len, ?_⟩
  rw [st_put]
  have hh2 : upd H a (.dK (stKvs (.ref ca) (k + 1) nv)) a = some (.dK (stKvs (.ref ca) (k + 1) nv)) := upd_same
  have g2 := DGet.k (k := .inr "at") hh2
  rw [st_at] at g2
  have g3 := DGet.k (k := .inr "cells") hh2
  rw [st_cells] at g3
  have gB : Gr B (upd H a (.dK (stKvs (.ref ca) (k + 1) nv))) := g.mut hb
  have hqH := gB.sqL hq
  refine ⟨_, rfl, a, _, rfl, g2, ?_⟩
  refine ⟨_, rfl, a, _, rfl, g3, ?_⟩
  -- base
  refine ⟨_, rfl, 31, k + 1, rfl, rfl, mul_ok1 (by decide), _, rfl, 31 * (k + 1), k + 1, rfl, rfl, mul_ok2 (by omega), _, rfl, 7919, k + 1, rfl, rfl, mul_ok1 (by decide), _, _, rfl, rfl, ?_⟩
  -- cells != []
  refine ⟨_, rfl, Nat.zero_le _, fun p np => ?_⟩
  have gP : Gr (upd H a (.dK (stKvs (.ref ca) (k + 1) nv))) (upd (upd H a (.dK (stKvs (.ref ca) (k + 1) nv))) p (.lst [])) := Gr.new np
  have hnp : a ≠ p := ne_of_none hh2 np
  refine ⟨.list (c.map .int), .list [], .lst (gP.sqL hqH) (dp_ints K _ c), .lst (SqL.of upd_same) .nil, ints_shaped c, ints_shaped [], _, rfl, ?_⟩
  rw [ints_eqv_nil]
  -- the end, from any base
  have fin : ∀ b : Int, b = nxB c (k + 1) → ∀ (w1 w2 w3 : Option V) (H3 : Hp), H3 = upd (upd H a (.dK (stKvs (.ref ca) (k + 1) nv))) p (.lst []) →
      tSeq (tRet (tOp rNxM (tOp rNxD (tOp rNxM (tOp rMul (tVar 4) (tC (.int 48271))) (tC (.int 2147483647))) (tC (.int 7))) (tVar 1))) tNext { nx := fun _ H' => Q .non H', rt := Q } [some (.ref a), some (.int mm), w2, w3, some (.int b)] H3 := fun b hbE w1 w2 w3 H3 e3 => by
    refine ⟨_, rfl, b, 48271, rfl, rfl, mul_ok2 (by decide), _, _, rfl, rfl, (by decide : (0 : Int) < 2147483647), _, 7, rfl, rfl, ⟨by decide, by decide⟩, _, rfl, _, mm, rfl, rfl, h2, ?_⟩
    subst e3
    refine q _ B _ [] (Gr.refl B) (gB.trans gP) (fun b o ne e => ?_) ?_ (fun b o e e0 => by rw [e] at e0; cases e0) ⟨rfl, ?_⟩ .nil (fun _ m => nomatch m)
    · rw [upd_ne (fun z => by rw [z] at e; rw [upd_ne (fun z2 => hnp z2.symm)] at np; rw [np] at e; cases e), upd_ne ne]; exact e
    · exact ⟨hb, by rw [upd_ne hnp, upd_same], hq, hn⟩
    · rw [hbE]; exact .int _
  by_cases hc : c = []
  · rw [decide_eq_true hc]
    refine iteF ?_
    refine fin _ ?_ none _ _ _ rfl
    subst hc
    unfold nxB
    have z : atI ([] : List Int) ((k + 1) % (([] : List Int).length : Int)) = none := by
      unfold atI
      cases ixN ([] : List Int).length ((k + 1) % (([] : List Int).length : Int)) with
      | none => rfl
      | some j => rfl
    rw [z]
    show 31 * (k + 1) * (k + 1) + 7919 * (k + 1) = 31 * (k + 1) * (k + 1) + 7919 * (k + 1) + 0
    rw [Int.add_zero]
  · rw [decide_eq_false hc]
    refine iteT ?_
    have lc : 0 < c.length := List.length_pos_iff.mpr hc
    have hL : (c.map V.int).length = c.length := List.length_map ..
    have hj : ∃ z, atI c ((k + 1) % (c.length : Int)) = some z := by
      have p0 : 0 ≤ (k + 1) % (c.length : Int) := Int.emod_nonneg _ (by omega)
      have p1 : (k + 1) % (c.length : Int) < c.length := Int.emod_lt_of_pos _ (by omega)
      have e := atI_nat (xs := c) (j := ((k + 1) % (c.length : Int)).toNat) (v := c[((k + 1) % (c.length : Int)).toNat]'(by omega)) (List.getElem?_eq_getElem (by omega))
      rw [Int.toNat_of_nonneg p0] at e
      exact ⟨_, e⟩
    obtain ⟨z, hz⟩ := hj
    have sq := gP.sqL hqH
    refine ⟨_, rfl, _, rfl, _, rfl, _, rfl, .inl ⟨ca, _, rfl, .inl sq, k + 1, c.length, rfl, ?_, ?_, ca, _, _, .int z, rfl, rfl, sq, ?_, z, 2147483647, rfl, rfl, (by show (0 : Int) < 2147483647; decide), _, rfl, _, rfl, .inl ⟨ca, _, rfl, .inl sq, k + 1, c.length, rfl, ?_, ?_, 1, _, rfl, rfl, _, _, rfl, rfl, ?_, _, _, rfl, rfl, ?_⟩⟩⟩
    · rw [hL]
    · show (0 : Int) < (c.length : Int); omega
    · rw [atI_map, hz]; rfl
    · rw [hL]
    · refine ⟨by show (0 : Int) < (c.length : Int); omega, log2_small ?_⟩
      rw [Int.natAbs_natCast]
      exact Nat.lt_of_le_of_lt h3 (by decide)
    · refine mul_ok1 ?_
      have q1 := Int.emod_nonneg z (show (2147483647 : Int) ≠ 0 by decide)
      have q2 := Int.emod_lt_of_pos z (show (0 : Int) < 2147483647 by decide)
      omega
    · refine fin _ ?_ none _ _ _ rfl
      unfold nxB
      rw [hz]
/-- the state of digits -/
abbrev dg (mm : Int) : Sm Int := fun k => if 0 < mm ∧ mm < 2 ^ 60 then some (k % mm, k / mm) else none
theorem dg_some {mm k r k' : Int} (h : dg mm k = some (r, k')) : (0 < mm ∧ mm < 2 ^ 60) ∧ r = k % mm ∧ k' = k / mm := by
  unfold dg at h
  by_cases z : 0 < mm ∧ mm < 2 ^ 60
  · rw [if_pos z] at h; cases h; exact ⟨z, rfl, rfl⟩
  · rw [if_neg z] at h; cases h
abbrev pr_digit (q : SK) (ds : List (Option D)) (k : Int) (r : D) (k' : Int) : Prop := ∃ (p0 x : Int), q = .left ∧ ds = [none, some (enc p0)] ∧ dg p0 k = some (x, k') ∧ r = enc x
def tDg : TS := tSeq (tAsg (tOp rNxM (tDGet (tVar 0) (tC (.str "left"))) (tVar 1)) (gName 2)) (tSeq (sDPut (tVar 0) (tC (.str "left")) (tOp rNxD (tDGet (tVar 0) (tC (.str "left"))) (tVar 1))) (tSeq (tRet (tVar 2)) tNext))
theorem run_digit {K : PySem.W.Frag} {vs : List V} {H : Hp} {Q : VK} {E : XK} (h : spS K 2 .dat pr_digit vs H Q E) : tDg { nx := fun _ H' => Q .non H', rt := Q } (L2.start ["_law_state", "_law_many", "_law_found"] vs) H := by
  obtain ⟨B, a, ⟨_, ca, nv⟩, ds, k, r, k', ⟨mm, x, rfl, rfl, hx, rfl⟩, hl, g, hS, rs, q⟩ := h
  match vs, hl, rs with
  | [v0, v1], _, rs =>
  obtain ⟨rfl, r1, _⟩ := rs
  obtain ⟨⟨h1, h2⟩, rfl, rfl⟩ := dg_some hx
  cases r1
  obtain ⟨hb, hh⟩ := hS
  have hh : H a = some (.dK [(.inr "left", .int k)]) := hh
  have gg := DGet.k (k := .inr "left") hh
  refine ⟨_, rfl, a, _, rfl, gg, _, rfl, k, mm, rfl, rfl, h1, ?_⟩
  refine ⟨_, rfl, a, _, rfl, gg, _, rfl, k, mm, rfl, rfl, ⟨h1, log2_small (by omega)⟩, _, rfl, a, _, rfl, DPut.k (k := .inr "left") hh (by exact (by decide : 1 < sizeLine)), ?_⟩
  refine ⟨_, rfl, ?_⟩
  have e : putK [((.inr "left" : Key), V.int k)] (.inr "left") (V.int (k / mm)) = [(.inr "left", .int (k / mm))] := rfl
  refine q _ B _ [] (Gr.refl B) (g.mut hb) (fun b o ne e => by rw [upd_ne ne]; exact e) ⟨hb, ?_⟩ (fun b o e e0 => by rw [e] at e0; cases e0) ⟨rfl, .int _⟩ .nil (fun _ m => nomatch m)
  show upd H a _ a = _
  rw [upd_same, e]
end ON

set_option Elab.async false
set_option linter.all false
set_option maxRecDepth 100000
set_option maxHeartbeats 2000000
/-! N9: defs that draw, defs that begin a state. -/
namespace ON
open PySem PySem.Spec PyProof.Rows L2
section
variable {K : PySem.W.Frag} {α β τ l ρ : Type} {sd : List SD} {ta tb te : TE} {W : Wr} {ts tu : TS}
def sdS (n : Nat) (q : SK) (ds : List (Option D)) : List SD := ds.map (fun o => match o with | some d => SD.dat d | none => SD.sr q) ++ List.replicate (n - ds.length) .un
theorem Arps.get {B : Hp} {a : Addr} : ∀ {vs : List V} {ds : List (Option D)}, Arps K B a vs ds → ∀ {i : Nat} {o : Option D}, ds[i]? = some o → ∃ v, vs[i]? = some v ∧ match o with | some d => Rp K B v d | none => v = .ref a
  | [], [], _, i, o, e => by simp at e
  | v :: vs, some d :: ds, ⟨h, hs⟩, i, o, e => by
    cases i with
    | zero => cases e; exact ⟨v, rfl, h⟩
    | succ i => exact Arps.get hs (i := i) e
  | v :: vs, none :: ds, ⟨h, hs⟩, i, o, e => by
    cases i with
    | zero => cases e; exact ⟨v, rfl, h⟩
    | succ i => exact Arps.get hs (i := i) e
  | [], _ :: _, h, _, _, _ => by cases h
  | _ :: _, [], h, _, _, _ => by cases h
theorem Rel.initS {B H : Hp} {N : List Str} {a : Addr} {q : Sa} {k : Int} {vs : List V} {ds : List (Option D)} (g : Gr B H) (hS : StAt K B H a q k) (r : Arps K B a vs ds) :
    Rel K ⟨H, B, some (a, q), []⟩ (L2.start N vs) B H (sdS N.length q.q ds) k := by
  have z := r.len
  refine ⟨?_, g, Gr.refl B, fun b o e e0 => ?_, fun b o e _ => e, fun s e => ?_, fun _ => [], fun x c e => ?_, fun _ _ => rfl, fun _ => .nil, fun _ _ _ m => (nomatch m), fun _ _ m => (nomatch m), fun _ _ m => (nomatch m), fun _ _ m => (nomatch m)⟩
  · unfold sdS L2.start
    simp only [List.length_append, List.length_map, List.length_replicate]; omega
  · have e1 : B b = none := e0
    rw [e] at e1; cases e1
  · cases e; exact hS
  · cases x with
    | inr j => simp [cell] at e
    | inl i =>
      simp only [cell] at e
      cases h1 : (sdS N.length q.q ds)[i]? with
      | none => rw [h1] at e; cases e
      | some d =>
        cases h2 : (L2.start N vs)[i]? with
        | none => rw [h1, h2] at e; cases e
        | some o =>
          rw [h1, h2] at e; cases e
          unfold sdS at h1
          rw [start_get] at h2
          by_cases c : i < ds.length
          · rw [List.getElem?_append_left (by rw [List.length_map]; exact c), List.getElem?_map] at h1
            rw [if_pos (by omega)] at h2
            obtain ⟨d', hd, rfl⟩ := Option.map_eq_some_iff.mp h1
            obtain ⟨v, hv, rv⟩ := r.get hd
            rw [hv] at h2; cases h2
            cases d' with
            | some d => exact ⟨rfl, v, rfl, rv⟩
            | none => exact ⟨rfl, a, _, by rw [show v = _ from rv], rfl, rfl⟩
          · rw [List.getElem?_append_right (by rw [List.length_map]; omega), List.length_map, List.getElem?_replicate] at h1
            by_cases c2 : i - ds.length < N.length - ds.length
            · rw [if_pos c2] at h1; cases h1; rfl
            · rw [if_neg c2] at h1; cases h1
/-- the end of a drawing def's proof -/
theorem fin_draw {N : List Str} {n : Nat} {pre : SK → List (Option D) → Int → D → Int → Prop} {vs : List V} {H : Hp} {Q : VK} {E : XK} (h : spS K n .dat pre vs H Q E)
    (hb : ∀ q ds k r k', pre q ds k r k' → ∃ (ρ : Type) (_ : Enc ρ) (x : Sm (Fl Empty Empty ρ)) (z : ρ) (W : Wr), EvS K W ts (sdS N.length q ds) noEnd noEnd x ∧ x k = some (.rt z, k') ∧ enc z = r) : ts { nx := fun _ H' => Q .non H', rt := Q } (L2.start N vs) H := by
  obtain ⟨B, a, q0, ds, k, r, k', hp, hn, g, hS, rs, q⟩ := h
  obtain ⟨ρ, i, x, z, W, hx, ex, rfl⟩ := hb _ ds k r k' hp
  refine hx _ _ B H k (Rel.initS g hS rs) (.rt z) k' ex _ fun v σ' B' H' sd' R' g' rv => ?_
  exact q v B' H' [] R'.b0 R'.bh (fun b o ne e => R'.fr b o e fun s es z => by cases es; exact ne z.symm) (R'.st _ rfl) (fun b o e e0 => R'.bn b o e e0) ⟨rfl, rv⟩ .nil fun _ m => nomatch m
theorem fin_drawF {N : List Str} {n : Nat} {s : Sh} {pre : SK → List (Option D) → Int → D → Int → Prop} {vs : List V} {H : Hp} {Q : VK} {E : XK} (h : spS K n s pre vs H Q E)
    (hb : ∀ q ds k r k', pre q ds k r k' → ∃ (ρ : Type) (_ : Enc ρ) (x : Sm (Fl Empty Empty (Fw s ρ))) (z : ρ) (W : Wr), EvS K W ts (sdS N.length q ds) noEnd noEnd x ∧ x k = some (.rt ⟨z⟩, k') ∧ enc z = r) : ts { nx := fun _ H' => Q .non H', rt := Q } (L2.start N vs) H := by
  obtain ⟨B, a, q0, ds, k, r, k', hp, hn, g, hS, rs, q⟩ := h
  obtain ⟨ρ, i, x, z, W, hx, ex, rfl⟩ := hb _ ds k r k' hp
  refine hx _ _ B H k (Rel.initS g hS rs) (.rt ⟨z⟩) k' ex _ fun v σ' B' H' sd' R' g' => ?_
  obtain ⟨f, w, nd, hf, _⟩ := R'.top
  exact q v B' H' f R'.b0 R'.bh (fun b o ne e => R'.fr b o e fun s es z => by cases es; exact ne z.symm) (R'.st _ rfl) (fun b o e e0 => R'.bn b o e e0) w nd fun a m => ⟨(hf a m).1, (hf a m).2.1⟩
/-- a state begins -/
theorem Rel.begin_ {F : Fr} {σ : L2.St} {B H B' H' : Hp} {k k0 : Int} {p : Addr} {q : Sa} {i : Nat} (R : Rel K F σ B H sd k) (hs : F.sa = none) (hp : H p = none) (g1 : Gr B B') (g2 : Gr B' H') (g3 : Gr H H') (hn : ∀ a o, B' a = some o → B a = none → H a = none) (hS : StAt K B' H' p q k0) (hi : i < sd.length) :
    Rel K { F with sa := some (p, q) } (σ.set i (some (.ref p))) B' H' (sd.set i (.sr q.q)) k0 := by
  have R1 := (R.called g1 g2 g3 hn).setUn (i := i) (o' := some (.ref p))
  obtain ⟨g0, p0⟩ := (R.setUn (i := i) (o' := some (.ref p))).pool
  obtain ⟨g, pl⟩ := R1.pool
  have lo : i < σ.length := by rw [← R.len]; exact hi
  have h0 := R.h0free hp
  refine ⟨by rw [List.length_set, List.length_set]; exact R.len, R1.bh, R1.b0, R1.bn, fun b o e _ => R1.fr b o e (fun s es => by rw [hs] at es; cases es), fun s e => by cases e; exact hS, ?_⟩
  -- the pool of before, with the new state's slot
  have key : ∃ g, Pool K F (σ.set i (some (.ref p))) B' H' (sd.set i .un) g ∧ ∀ x a, a ∈ g x → a ≠ p := by
    refine ⟨_, p0.move (F' := F) (B' := B') (H' := H') (fun _ => false) g0 g1 rfl rfl (fun _ _ => rfl) (fun x b _ m => ?_) (fun _ _ e => nomatch e) (fun _ e => nomatch e) (fun _ e => nomatch e) (fun _ _ _ e => nomatch e) (fun _ _ e => nomatch e), fun x a m z => ?_⟩
    · have hs2 := p0.inH x b m
      refine ⟨?_, ?_⟩
      · cases e : H b with
        | none => exact absurd e hs2
        | some o => exact g3 b o e
      · cases h : B' b with
        | none => rfl
        | some u => exact absurd (hn b u h (p0.b x b m)) hs2
    · have m2 : a ∈ g0 x := m
      exact p0.inH x a m2 (z ▸ hp)
  obtain ⟨g, pl, np⟩ := key
  refine ⟨g, fun x c e => ?_, fun x e => ?_, pl.nd, pl.dj, pl.b, pl.h0, fun x a m s e => by cases e; exact fun z => np x a m z.symm⟩
  · by_cases hx : x = .inl i
    · subst hx
      rw [show cell { F with sa := some (p, q) } (σ.set i (some (.ref p))) (sd.set i (.sr q.q)) (.inl i) = cell F (σ.set i (some (.ref p))) (sd.set i (.sr q.q)) (.inl i) from rfl, cell_set hi lo] at e
      cases e
      have z := pl.ok (.inl i) _ (cell_set hi lo)
      exact ⟨z, p, q, rfl, rfl, rfl⟩
    · have e2 : cell F (σ.set i (some (.ref p))) (sd.set i .un) x = some c := by
        rw [cell_set_ne hx]
        rw [show cell { F with sa := some (p, q) } (σ.set i (some (.ref p))) (sd.set i (.sr q.q)) x = cell F (σ.set i (some (.ref p))) (sd.set i (.sr q.q)) x from by cases x <;> rfl, cell_set_ne hx] at e
        exact e
      have z := pl.ok x c e2
      obtain ⟨o, d⟩ := c
      cases d with
      | un => exact z
      | dat d => exact z
      | own s d => exact z
      | sr q2 => obtain ⟨_, a, _, _, hz, _⟩ := z; rw [hs] at hz; cases hz
  · refine pl.no x ?_
    by_cases hx : x = .inl i
    · subst hx
      rw [show cell { F with sa := some (p, q) } (σ.set i (some (.ref p))) (sd.set i (.sr q.q)) (.inl i) = cell F (σ.set i (some (.ref p))) (sd.set i (.sr q.q)) (.inl i) from rfl, cell_set hi lo] at e
      cases e
    · rw [show cell { F with sa := some (p, q) } (σ.set i (some (.ref p))) (sd.set i (.sr q.q)) x = cell F (σ.set i (some (.ref p))) (sd.set i (.sr q.q)) x from by cases x <;> rfl, cell_set_ne hx] at e
      rw [cell_set_ne hx]; exact e
variable [Enc ρ]
/-- a body that begins a state of its own: no state ahead -/
def EvS0 (K : PySem.W.Frag) (ts : TS) (sd : List SD) (x : Sm (Fl Empty Empty ρ)) : Prop := ∀ (F : Fr) (σ : L2.St) (B H : Hp) (k : Int), F.sa = none → Rel K F σ B H sd k → ∀ (r : ρ) (k' : Int), x k = some (.rt r, k') →
  ∀ D : Ends, (∀ v B' H', Gr B B' → Gr B' H' → (∀ a o, B' a = some o → F.B0 a = none → F.H0 a = none) → (∀ a o, F.H0 a = some o → H' a = some o) → Rp K B' v (enc r) → D.rt v H') → ts D σ H
theorem es0_of {x : Sm (Fl Empty Empty ρ)} (h : EvS K W0 ts sd noEnd noEnd x) : EvS0 K ts sd x := fun F σ B H k hs R r k' e D q =>
  h F σ B H k R (.rt r) k' e D fun v σ' B' H' sd' R' g rv => q v B' H' g R'.bh (fun a o e e0 => R'.bn a o e e0) (fun a o e => R'.fr a o e fun s es => by rw [hs] at es; cases es) rv
theorem es0_set [Enc α] {i : Nat} {x : Sm α} {f : α → Sm (Fl Empty Empty ρ)} (h : EvM K te sd x) (hf : ∀ a, EvS0 K tu (sd.set i (.dat (enc a))) (f a)) : EvS0 K (tSeq (tAsg te (gName i)) tu) sd (Mn.bnd x f) := fun F σ B H k hs R r k' e D q => by
  obtain ⟨a, k1, e1, e2⟩ := bnd_some (m := Sm) e
  exact h F σ B H k R a k1 e1 _ fun v B' H' R' g rv => hf a F _ B' H' k1 hs (R'.setDat rv) r k' e2 D fun v' B2 H2 g2 => q v' B2 H2 (g.trans g2)
theorem es0_tgt [Enc α] {g : TG} {x : Sm α} {sd1 : α → List SD} {is : List Nat} {f : α → Sm (Fl Empty Empty ρ)} (h : EvM K te sd x) (hg : ∀ a, EvG K g sd a (sd1 a) is) (hf : ∀ a, EvS0 K tu (sd1 a) (f a)) : EvS0 K (tSeq (tAsg te g) tu) sd (Mn.bnd x f) := fun F σ B H k hs R r k' e D q => by
  obtain ⟨a, k1, e1, e2⟩ := bnd_some (m := Sm) e
  exact h F σ B H k R a k1 e1 _ fun v B' H' R' g' rv => hg a F σ B' H' k1 v R' rv _ fun σ' R2 _ => hf a F _ B' H' k1 hs R2 r k' e2 D fun v' B2 H2 g2 => q v' B2 H2 (g'.trans g2)
theorem es0_seq {mid : τ → List SD} {x : Sm (Fl τ Empty ρ)} {f : τ → Sm (Fl Empty Empty ρ)} (h : EvS K W0 ts sd mid noEnd x) (hf : ∀ t, EvS0 K tu (mid t) (f t)) : EvS0 K (tSeq ts tu) sd (andThen x f) := fun F σ B H k hs R r k' e D q => by
  unfold andThen at e
  obtain ⟨a, k1, e1, e2⟩ := bnd_some (m := Sm) e
  refine h F σ B H k R a k1 e1 _ ?_
  cases a with
  | nx t => exact fun σ' B' H' R' g => hf t F σ' B' H' k1 hs R' r k' e2 D fun v' B2 H2 g2 => q v' B2 H2 (g.trans g2)
  | bk t => exact t.elim
  | ct t => exact t.elim
  | rt t =>
    obtain ⟨e3, rfl⟩ := pur_some (m := Sm) e2
    cases e3
    exact fun v σ' B' H' sd' R' g rv => q v B' H' g R'.bh (fun a o e e0 => R'.bn a o e e0) (fun a o e => R'.fr a o e fun s es => by rw [hs] at es; cases es) rv
/-- a new state's promise: of the cells (a list that is read), a state with so many draws made, with names -/
def spB (K : PySem.W.Frag) (ok : List Int → List Str → Int → Prop) : Sp := fun vs H Q _ => ∃ (B : Hp) (a : Addr) (c : List Int), vs = [.ref a] ∧ c.length ≤ 1000 ∧ Gr B H ∧ SqL K B a (c.map V.int) ∧
  ∀ p B' H' ns k cp nv, Gr B B' → Gr B' H' → Gr H H' → (∀ b o, B' b = some o → B b = none → H b = none) → H p = none → StAt K B' H' p ⟨.run c (some ns), cp, nv⟩ k → ok c ns k → Q (.ref p) H'
/-- what a new state brings -/
def beg (ok : List Int → List Str → Int → Prop) (bg : List Int → Option (List Str × Int)) : Prop := ∀ c ns k, ok c ns k → bg c = some (ns, k)
class Cells (α : Type) [Enc α] where
  cells : α → List Int
  at_ : ∀ {K : PySem.W.Frag} {B : Hp} {v : V} {a : α}, Rp K B v (enc a) → ∃ p, v = .ref p ∧ SqL K B p ((cells a).map V.int)
instance : Cells Sc := ⟨Sc.ns, fun r => Rp.scr_inv r⟩
instance : Cells (List Int) := ⟨id, fun {K B v a} r => by
  obtain ⟨p, xs, rfl, hp, hs⟩ := Rp.lst_inv r
  have z := Rps.ints (ns := a) hs
  subst z
  exact ⟨p, rfl, SqL.of hp⟩⟩
/-- the rest of a body, over a new state; what it draws first is told by bg -/
def begun (bg : List Int → Option (List Str × Int)) (c : List Int) (f : List Str → Sm (Fl Empty Empty ρ)) : Sm (Fl Empty Empty ρ) := fun _ => if c.length ≤ 1000 then (bg c).bind fun p => f p.1 p.2 else none
theorem es_begun [Enc α] [Cells α] {i : Nat} {E : XK} {ok : List Int → List Str → Int → Prop} {bg : List Int → Option (List Str × Int)} {a : α} {f : List Str → Sm (Fl Empty Empty ρ)} {j : Nat} (hj : sd[j]? = some (.dat (enc a))) (hi : i < sd.length) (hok : beg ok bg)
    (hf : ∀ ns, EvS K W0 tu (sd.set i (.sr (.run (Cells.cells a) (some ns)))) noEnd noEnd (f ns)) : EvS0 K (tSeq (tAsg (tCall (spB K ok) [] E (tCons (tVar j) tNil)) (gName i)) tu) sd (begun bg (Cells.cells a) f) := fun F σ B H k hs R r k' e D q => by
  obtain ⟨v, ho, ra⟩ := R.dat hj
  obtain ⟨p, rfl, hp⟩ := Cells.at_ ra
  unfold begun at e
  by_cases hl : (Cells.cells a).length ≤ 1000
  · rw [if_pos hl] at e
    refine ⟨_, ho, B, p, Cells.cells a, rfl, hl, R.bh, hp, fun st B' H' ns k0 cp nv g1 g2 g3 hn hfree hS ho2 => ?_⟩
    have eb := hok _ _ _ ho2
    rw [eb] at e
    have R2 := R.begin_ hs hfree g1 g2 g3 hn hS hi
    have fr := R.h0free hfree
    refine hf ns _ _ B' H' k0 R2 (.rt r) k' e D fun v' σ' B2 H2 sd' R' g' rv => ?_
    exact q v' B2 H2 (g1.trans g') R'.bh (fun b o e e0 => R'.bn b o e e0) (fun b o e => R'.fr b o e fun s es z => by
      cases es
      have e2 : F.H0 b = some o := e
      rw [← show st = b from z, fr.1] at e2; cases e2) rv
  · rw [if_neg hl] at e; cases e
/-- a state of digits: name = {'left': e} -/
def begL (x : Sm Int) (f : Sm (Fl Empty Empty ρ)) : Sm (Fl Empty Empty ρ) := fun k => (x k).bind fun p => f p.1
theorem es_begL {i : Nat} {x : Sm Int} {f : Sm (Fl Empty Empty ρ)} (h : EvM K te sd x) (hi : i < sd.length) (hf : EvS K W0 tu (sd.set i (.sr .left)) noEnd noEnd f) :
    EvS0 K (tSeq (tAsg (tDisp [(tC (.str "left"), te)]) (gName i)) tu) sd (begL x f) := fun F σ B H k hs R r k' e D q => by
  unfold begL at e
  obtain ⟨pp, e1, e2⟩ := Option.bind_eq_some_iff.mp e
  obtain ⟨k0, k1⟩ := pp
  intro p hp
  have R0 := R.newD (ks := []) (vs := []) (ds := []) hp rfl .nil
  refine h (F.push (.ref p) (.dic .dat) (.dic [] [])) σ B _ k R0 k0 k1 e1 _ fun v B1 H1 R1 g1 r1 => ?_
  rw [Rp.int_inv r1]
  obtain ⟨fp, w, nd, hfp, q1⟩ := R1.top
  obtain ⟨a, ks, vs, ds, ea, ed, rfl, hl, hH, hv⟩ := ow_dicd.mp w
  cases ea
  cases ed
  have ev : vs = [] := List.length_eq_zero_iff.mp hl.symm
  subst ev
  have hb := (hfp p (List.mem_singleton.mpr rfl)).1
  refine ⟨hH, [(.inr "left", .int k0)], rfl, (by decide : 1 ≤ 15), ?_⟩
  have m1 : mergeK [] [((.inr "left" : Key), V.int k0)] = [(.inr "left", .int k0)] := rfl
  rw [m1]
  -- a heap from which the new dict is taken away
  let H2 : Hp := fun b => if b = p then none else H1 b
  have e2p : H2 p = none := by show (if p = p then none else H1 p) = none; rw [if_pos rfl]
  have e2n : ∀ b, b ≠ p → H2 b = H1 b := fun b ne => by show (if b = p then none else H1 b) = _; rw [if_neg ne]
  have gB2 : Gr B1 H2 := fun b o eo => by
    have ne : b ≠ p := fun z => by rw [z, hb] at eo; cases eo
    rw [e2n b ne]; exact R1.bh b o eo
  have RA := (q1 B1 H2 (fun a u na e => by rw [e2n a (fun z => na (List.mem_singleton.mpr z))]; exact e) (Gr.refl _) gB2 fun a u e e0 => by rw [e] at e0; cases e0).1
  have gH2 : Gr H2 (upd H1 p (.dK [(.inr "left", .int k0)])) := fun b o eo => by
    have ne : b ≠ p := fun z => by rw [z, e2p] at eo; cases eo
    rw [upd_ne ne, ← e2n b ne]; exact eo
  have R2 := RA.begin_ (k0 := k0) (q := ⟨.left, p, none⟩) hs e2p (Gr.refl _) (R1.bh.mut hb) gH2 (fun a u e e0 => by rw [e] at e0; cases e0) ⟨hb, upd_same⟩ hi
  have fr := R.h0free hp
  refine hf _ _ B1 _ k0 R2 (.rt r) k' e2 D fun v' σ' B2 H3 sd' R' g' rv => ?_
  exact q v' B2 H3 (g1.trans g') R'.bh (fun b o e e0 => R'.bn b o e e0) (fun b o e => R'.fr b o e fun s es z => by
    cases es
    have e3 : F.H0 b = some o := e
    rw [← show p = b from z, fr.1] at e3; cases e3) rv
theorem fin_pure0 {N : List Str} {n : Nat} {pre : List D → D → Prop} {vs : List V} {H : Hp} {Q : VK} {E : XK} (h : spP K n .dat pre vs H Q E)
    (hb : ∀ ds r, pre ds r → ∃ (ρ : Type) (_ : Enc ρ) (x : Sm (Fl Empty Empty ρ)) (z : ρ) (k' : Int), EvS0 K ts (sd0 N.length ds) x ∧ x 0 = some (.rt z, k') ∧ enc z = r) : ts { nx := fun _ H' => Q .non H', rt := Q } (L2.start N vs) H := by
  obtain ⟨B, ds, r, hp, hn, g, rs, q⟩ := h
  obtain ⟨ρ, i, x, z, k', hx, ex, rfl⟩ := hb ds r hp
  refine hx ⟨H, B, none, []⟩ _ B H 0 rfl (Rel.init g rs) z k' ex _ fun v B' H' g1 g2 hn hk rv => ?_
  exact q v B' H' [] g1 g2 hk (fun a o e e0 => hn a o e e0) ⟨rfl, rv⟩ .nil fun _ m => nomatch m
def fin0 {ρ : Type} (x : Sm (Fl Empty Empty ρ)) : Option ρ := (finS x 0).map (·.1)
theorem fin0_some {ρ : Type} [Enc ρ] {x : Sm (Fl Empty Empty ρ)} {r : ρ} (h : fin0 x = some r) : ∃ k', x 0 = some (.rt r, k') := by
  unfold fin0 at h
  obtain ⟨p, hp, rfl⟩ := Option.map_eq_some_iff.mp h
  exact ⟨p.2, finS_some hp⟩
/-- state['names'] -/
theorem em_names {i : Nat} {c : List Int} {ns : List Str} (hi : sd[i]? = some (.sr (.run c (some ns)))) : EvM K (tDGet (tVar i) (tC (.str "names"))) sd (Mn.pur ns : Sm (List Str)) := fun F σ B H k R b k' e Q q => by
  obtain ⟨rfl, rfl⟩ := pur_some (m := Sm) e
  obtain ⟨o, _, ho, ⟨_, a, ⟨_, ca, nv⟩, rfl, hs, rfl⟩, _⟩ := R.slot hi
  obtain ⟨hb, hh, hq, hn⟩ := R.st _ hs
  cases nv with
  | none => exact hn.elim
  | some n =>
    have gg := DGet.k (k := .inr "names") hh
    rw [st_names] at gg
    exact ⟨_, ho, a, n, rfl, gg, q n B H R (Gr.refl B) hn⟩
end
end ON

set_option Elab.async false
set_option linter.all false
set_option maxRecDepth 100000
set_option maxHeartbeats 2000000
namespace ON
open PySem PySem.Spec PyProof.Rows L2
def sdA (n : Nat) (c : List Int) : List SD := .un :: .sr (.run c none) :: List.replicate n .un
def bgM (x2 : List Int → Sm Str) (x3 : List Int → Str → Sm Int) (x4 : List Int → Str → Int → Sm (List Str)) (c : List Int) : Sm (List Str) := Mn.bnd (x2 c) fun r => Mn.bnd (x3 c r) fun a => x4 c r a
def tBg (te2 te3 te4 : TE) (i2 i3 : Nat) : TS := tSeq (tAsg (tDisp [(tC (.str "cells"), tVar 0), (tC (.str "at"), tC (.int 0))]) (gName 1)) (tSeq (tAsg te2 (gName i2)) (tSeq (tAsg te3 (gName i3)) (tSeq (sDPut (tVar 1) (tC (.str "names")) te4) (tSeq (tRet (tVar 1)) tNext))))
theorem run_begun {K : PySem.W.Frag} {te2 te3 te4 : TE} {i2 i3 n : Nat} {x2 : List Int → Sm Str} {x3 : List Int → Str → Sm Int} {x4 : List Int → Str → Int → Sm (List Str)} {N : List Str} (hN : N.length = n + 2) (hi2 : i2 ≠ 1) (hi3 : i3 ≠ 1)
    (h2 : ∀ c, EvM K te2 (sdA n c) (x2 c)) (h3 : ∀ c r, EvM K te3 ((sdA n c).set i2 (.dat (enc r))) (x3 c r)) (h4 : ∀ c r a, EvF K (.lst .dat) te4 (((sdA n c).set i2 (.dat (enc r))).set i3 (.dat (enc a))) (x4 c r a))
    (tot : ∀ c : List Int, c.length ≤ 1000 → ∃ ns k, bgM x2 x3 x4 c 0 = some (ns, k)) {vs : List V} {H : Hp} {Q : VK} {E : XK} (h : spB K (fun c ns k => bgM x2 x3 x4 c 0 = some (ns, k)) vs H Q E) :
    tBg te2 te3 te4 i2 i3 { nx := fun _ H' => Q .non H', rt := Q } (L2.start N vs) H := by
  obtain ⟨B, a, c, rfl, hl, g, hq, q⟩ := h
  obtain ⟨ns, k, hb⟩ := tot c hl
  have hb0 := hb
  unfold bgM at hb
  obtain ⟨r, k2, e2, e⟩ := bnd_some (m := Sm) hb
  obtain ⟨z, k3, e3, e4⟩ := bnd_some (m := Sm) e
  have hst : L2.start N [.ref a] = some (.ref a) :: none :: List.replicate n none := by
    unfold L2.start
    show some (V.ref a) :: List.replicate (N.length - 1) none = _
    rw [hN]; rfl
  rw [hst]
  intro p hp
  refine ⟨_, rfl, upd_same, [(.inr "cells", .ref a), (.inr "at", .int 0)], rfl, (by decide : 2 ≤ 15), ?_⟩
  rw [upd_upd]
  have ek : mergeK [] [((.inr "cells" : Key), V.ref a), (.inr "at", .int 0)] = stKvs (.ref a) 0 none := rfl
  rw [ek]
  show tSeq _ _ _ (some (V.ref a) :: some (V.ref p) :: List.replicate n none) _
  have nb : B p = none := g.back hp
  have gB : Gr B (upd H p (.dK (stKvs (.ref a) 0 none))) := g.mut nb
  have R00 : Rel K ⟨H, B, none, []⟩ (some (V.ref a) :: none :: List.replicate n none) B H (SD.un :: SD.un :: List.replicate n SD.un) 0 := by
    refine ⟨by simp, g, Gr.refl B, fun b o e e0 => ?_, fun b o e _ => e, fun s e => (nomatch e), fun _ => [], fun x cc e => ?_, fun _ _ => rfl, fun _ => .nil, fun _ _ _ m => (nomatch m), fun _ _ m => (nomatch m), fun _ _ m => (nomatch m), fun _ _ m => (nomatch m)⟩
    · have e1 : B b = none := e0
      rw [e] at e1; cases e1
    · have un : ∀ (i : Nat) (d : SD), (SD.un :: SD.un :: List.replicate n SD.un)[i]? = some d → d = .un := fun i d e => by
        match i, e with
        | 0, e => cases e; rfl
        | 1, e => cases e; rfl
        | i + 2, e =>
          have e : (List.replicate n SD.un)[i]? = some d := e
          rw [List.getElem?_replicate] at e
          by_cases c2 : i < n
          · rw [if_pos c2] at e; cases e; rfl
          · rw [if_neg c2] at e; cases e
      cases x with
      | inr j => simp [cell] at e
      | inl i =>
        simp only [cell] at e
        cases h1 : (SD.un :: SD.un :: List.replicate n SD.un)[i]? with
        | none => rw [h1] at e; cases e
        | some d =>
          have := un i d h1
          subst this
          rw [h1] at e
          cases h2 : (some (V.ref a) :: none :: List.replicate n none)[i]? with
          | none => rw [h2] at e; cases e
          | some o => rw [h2] at e; cases e; rfl
  have R0 := R00.begin_ (i := 1) (q := ⟨.run c none, a, none⟩) (k0 := 0) (H' := upd H p (.dK (stKvs (.ref a) 0 none))) rfl hp (Gr.refl B) gB (Gr.new hp) (fun b o e e0 => by rw [e] at e0; cases e0) ⟨nb, upd_same, hq, trivial⟩ (by simp)
  have R0 : Rel K ⟨H, B, some (p, ⟨.run c none, a, none⟩), []⟩ (some (V.ref a) :: some (V.ref p) :: List.replicate n none) B (upd H p (.dK (stKvs (.ref a) 0 none))) (sdA n c) 0 := R0
  refine h2 c _ _ B _ 0 R0 r k2 e2 _ fun v2 B2 H2 R2 g2 r2 => ?_
  refine h3 c r _ _ B2 H2 k2 (R2.setDat r2) z k3 e3 _ fun v3 B3 H3 R3 g3 r3 => ?_
  have R3' := R3.setDat (i := i3) r3
  refine h4 c r z _ _ B3 H3 k3 R3' ns k e4 _ fun w B4 H4 R4 g4 => ?_
  obtain ⟨B5, R5, g5, rw5⟩ := R4.frzX rfl
  have s1 : ∀ (σ : L2.St) (x y : Option V), σ[1]? = some (some (.ref p)) → ((σ.set i2 x).set i3 y)[1]? = some (some (.ref p)) := fun σ x y hs => by
    rw [List.getElem?_set_ne hi3, List.getElem?_set_ne hi2]; exact hs
  have s0 := s1 (some (V.ref a) :: some (V.ref p) :: List.replicate n none) (some v2) (some v3) rfl
  obtain ⟨b5, hh, hq4, hn4⟩ := R5.st _ rfl
  refine ⟨_, s0, p, _, rfl, DPut.k (k := .inr "names") hh (by exact (by decide : 2 < sizeLine)), ?_⟩
  rw [st_putN]
  refine ⟨_, s0, ?_⟩
  refine q p B5 _ ns k a (some w) (((g2.trans g3).trans g4).trans g5) (R5.bh.mut b5) (fun b o e => ?_) (fun b o e e0 => R5.bn b o e e0) hp ⟨b5, upd_same, hq4, ?_⟩ hb0
  · rw [upd_ne (ne_of_none e hp)]
    exact R5.fr b o e fun s es z => by
      cases es
      rw [← show p = b from z, hp] at e; cases e
  · exact rw5
end ON

set_option Elab.async false
set_option linter.all false
set_option maxRecDepth 100000
set_option maxHeartbeats 1000000
/-! the mathematics of mirrors: how they are read -/
namespace ON
open PySem PySem.Spec PyProof.Rows L2
section
variable {α β τ l ρ : Type}
theorem pbO (a : α) (f : α → Option β) : Mn.bnd (Mn.pur a) f = f a := by rw [bnd_opt, pur_opt]; rfl
theorem sbO (a : α) (f : α → Option β) : Mn.bnd (some a) f = f a := by rw [bnd_opt]; rfl
theorem pbS (a : α) (f : α → Sm β) : Mn.bnd (Mn.pur a) f = f a := by funext k; rw [bnd_sm, pur_sm]; rfl
theorem gd_y {m : Type → Type} [Mn m] {p : Prop} [Decidable p] (h : p) (x : m α) : gd p x = x := by unfold gd; rw [if_pos h]
theorem liftO (o : Option α) : (lift o : Option α) = o := by
  cases o with
  | none => unfold lift; exact fl_opt
  | some a => unfold lift; exact pur_opt a
theorem cnd_t {ω : Type} (x y : ω) : cnd true x y = x := rfl
theorem cnd_f {ω : Type} (x y : ω) : cnd false x y = y := rfl
theorem andThen_nx {τ' : Type} (t : τ) (f : τ → Option (Fl τ' l ρ)) : andThen (some (.nx t)) f = f t := by unfold andThen; rw [bnd_opt]; rfl
theorem andThen_rt {τ' : Type} (r : ρ) (f : τ → Option (Fl τ' l ρ)) : andThen (some (.rt r)) f = some (.rt r) := by unfold andThen; rw [bnd_opt]; exact pur_opt _
theorem andThen_bk {τ' : Type} (r : l) (f : τ → Option (Fl τ' l ρ)) : andThen (some (.bk r)) f = some (.bk r) := by unfold andThen; rw [bnd_opt]; exact pur_opt _
theorem andThen_ct {τ' : Type} (r : l) (f : τ → Option (Fl τ' l ρ)) : andThen (some (.ct r)) f = some (.ct r) := by unfold andThen; rw [bnd_opt]; exact pur_opt _
theorem fin_rt [Enc ρ] (r : ρ) : fin (some (.rt r)) = some r := rfl
/-- a while's turn, a while's end -/
theorem whl_go {c : τ → Option Bool} {b : τ → Option (Fl τ τ ρ)} {n : Nat} {t t' : τ} (h : c t = some true) (hb : b t = some (.nx t')) : (whl c b (n + 1) t : Option (Fl τ l ρ)) = whl c b n t' := by
  rw [whl_succ, h, sbO]; show Mn.bnd (b t) _ = _; rw [hb, sbO]
theorem whl_end {c : τ → Option Bool} {b : τ → Option (Fl τ τ ρ)} {n : Nat} {t : τ} (h : c t = some false) : (whl c b (n + 1) t : Option (Fl τ l ρ)) = some (.nx t) := by
  rw [whl_succ, h, sbO]; exact pur_opt _
/-- a while by its measure: an invariant, a turn, an end -/
theorem whl_inv {c : τ → Option Bool} {b : τ → Option (Fl τ τ ρ)} (I : τ → Prop) (mu : τ → Nat) (fin : τ → τ) (hgo : ∀ t, I t → c t = some true → ∃ t', b t = some (.nx t') ∧ I t' ∧ mu t' < mu t ∧ fin t' = fin t) (hc : ∀ t, I t → c t = some true ∨ (c t = some false ∧ fin t = t)) :
    ∀ (n : Nat) (t : τ), I t → mu t < n → (whl c b n t : Option (Fl τ l ρ)) = some (.nx (fin t)) := by
  intro n
  induction n with
  | zero => intro t _ h; omega
  | succ n ih =>
    intro t it hm
    rcases hc t it with h | ⟨h, e⟩
    · obtain ⟨t', hb, it', hl, hf⟩ := hgo t it h
      rw [whl_go h hb, ih t' it' (by omega), hf]
    · rw [whl_end h, e]
/-- the same, the end told by the invariant -/
theorem whl_ex {c : τ → Option Bool} {b : τ → Option (Fl τ τ ρ)} (I : τ → Prop) (mu : τ → Nat) (hgo : ∀ t, I t → c t = some true → ∃ t', b t = some (.nx t') ∧ I t' ∧ mu t' < mu t) (hc : ∀ t, I t → c t = some true ∨ c t = some false) :
    ∀ (n : Nat) (t : τ), I t → mu t < n → ∃ t', (whl c b n t : Option (Fl τ l ρ)) = some (.nx t') ∧ I t' ∧ c t' = some false := by
  intro n
  induction n with
  | zero => intro t _ h; omega
  | succ n ih =>
    intro t it hm
    rcases hc t it with h | h
    · obtain ⟨t', hb, it', hl⟩ := hgo t it h
      rw [whl_go h hb]
      exact ih t' it' (by omega)
    · exact ⟨t, whl_end h, it, h⟩
theorem andThen_whl {τ' : Type} {c : τ → Option Bool} {b : τ → Option (Fl τ τ ρ)} {f : τ → Option (Fl τ' l ρ)} {r : Option (Fl τ' l ρ)} (I : τ → Prop) (mu : τ → Nat) {n : Nat} {t : τ} (it : I t) (ht : mu t < n)
    (hgo : ∀ t, I t → c t = some true → ∃ t', b t = some (.nx t') ∧ I t' ∧ mu t' < mu t) (hc : ∀ t, I t → c t = some true ∨ c t = some false) (hf : ∀ t, I t → c t = some false → f t = r) : andThen (whl c b n t) f = r := by
  obtain ⟨t', e, i2, h2⟩ := whl_ex (l := l) I mu hgo hc n t it ht
  rw [e, andThen_nx]
  exact hf t' i2 h2
/-- for and comprehension over Option -/
theorem forL_all {b : τ → α → Option (Fl τ τ ρ)} {f : τ → α → τ} : ∀ (xs : List α) (t : τ) (I : τ → Prop), I t → (∀ t x, I t → x ∈ xs → b t x = some (.nx (f t x)) ∧ I (f t x)) → (forL b xs t : Option (Fl τ l ρ)) = some (.nx (xs.foldl f t)) := by
  intro xs
  induction xs with
  | nil => intro t I _ _; rw [forL_nil]; exact pur_opt _
  | cons x xs ih =>
    intro t I it h
    obtain ⟨e, i2⟩ := h t x it (.head _)
    rw [forL_cons, e, sbO]
    exact ih (f t x) I i2 fun t y it hy => h t y it (.tail _ hy)
theorem compL_map {p : α → Option Bool} {g : α → Option β} {f : α → β} : ∀ xs : List α, (∀ x ∈ xs, p x = some true ∧ g x = some (f x)) → compL p g xs = some (xs.map f) := by
  intro xs
  induction xs with
  | nil => intro _; rw [compL_nil]; exact pur_opt _
  | cons x xs ih =>
    intro h
    obtain ⟨h1, h2⟩ := h x (.head _)
    rw [compL_cons, h1, sbO]
    show Mn.bnd (g x) _ = _
    rw [h2, sbO, ih fun y hy => h y (.tail _ hy), sbO]; exact pur_opt _
/-! ### == of values -/
section
open PyData
/-- values whose == is told by Lean's own -/
class EqD (α : Type) [Enc α] where
  dec : DecidableEq α
  ok : α → Bool
  dp : Nat
  pl : ∀ a : α, (enc a).pl = true
  lay : ∀ a : α, ok a = true → canLay0 (enc a).py = true
  dep : ∀ a : α, depth (enc a).py ≤ dp
  eq : ∀ a b : α, PyData.eqv (enc a).py (enc b).py = @decide (a = b) (dec a b)
instance EqD.decInst {α : Type} [Enc α] [EqD α] : DecidableEq α := EqD.dec
theorem EqD.shp {α : Type} [Enc α] [EqD α] (a : α) (h : EqD.ok a = true) (hd : EqD.dp α ≤ 64 := by decide) : Shp (enc a) = true := by
  unfold Shp SeqAt.shaped
  rw [Bool.and_eq_true, Bool.and_eq_true]
  exact ⟨⟨EqD.lay a h, decide_eq_true (Nat.le_trans (EqD.dep a) hd)⟩, EqD.pl a⟩
theorem EqD.deqv {α : Type} [Enc α] [EqD α] (a b : α) : ON.deqv (enc a) (enc b) = @decide (a = b) (EqD.dec a b) := EqD.eq a b
instance : EqD Int where
  dec := inferInstance
  ok _ := true
  dp := 0
  pl _ := rfl
  lay _ _ := rfl
  dep _ := Nat.le_refl 0
  eq a b := by
    show (a == b) = decide (a = b)
    by_cases h : a = b
    · subst h; simp
    · simp [h]
instance : EqD Bool where
  dec := inferInstance
  ok _ := true
  dp := 0
  pl _ := rfl
  lay _ _ := rfl
  dep _ := Nat.le_refl 0
  eq a b := by cases a <;> cases b <;> rfl
instance : EqD Str where
  dec := inferInstance
  ok x := strOk x
  dp := 0
  pl _ := rfl
  lay a h := by show canLay0 (.str a) = true; rw [canLay0]; exact h
  dep _ := Nat.le_refl 0
  eq a b := by
    show (a == b) = decide (a = b)
    by_cases h : a = b
    · subst h; simp
    · rw [decide_eq_false h]; simpa using h
theorem pys_map {α : Type} [Enc α] (xs : List α) : D.pys (xs.map enc) = xs.map fun a => (enc a).py := by
  induction xs with
  | nil => rfl
  | cons x xs ih => rw [List.map_cons, D.pys, ih]; rfl
theorem pls_map {α : Type} [Enc α] [EqD α] (xs : List α) : D.pls (xs.map enc) = true := by
  induction xs with
  | nil => rfl
  | cons x xs ih => rw [List.map_cons, D.pls, EqD.pl, ih]; rfl
theorem lay_map {α : Type} [Enc α] [EqD α] (xs : List α) (h : xs.all EqD.ok = true) : canLayAll0 (D.pys (xs.map enc)) = true := by
  induction xs with
  | nil => rfl
  | cons x xs ih =>
    rw [List.all_cons, Bool.and_eq_true] at h
    rw [List.map_cons, D.pys, canLayAll0, EqD.lay x h.1, ih h.2]; rfl
theorem dep_map {α : Type} [Enc α] [EqD α] (xs : List α) : depthAll (D.pys (xs.map enc)) ≤ EqD.dp α := by
  induction xs with
  | nil => exact Nat.zero_le _
  | cons x xs ih =>
    rw [List.map_cons, D.pys, depthAll]
    exact Nat.max_le.mpr ⟨EqD.dep x, ih⟩
theorem eq_map {α : Type} [Enc α] [EqD α] : ∀ xs ys : List α, PyData.eqvAll (D.pys (xs.map enc)) (D.pys (ys.map enc)) = decide (xs = ys)
  | [], [] => rfl
  | [], _ :: _ => rfl
  | _ :: _, [] => rfl
  | x :: xs, y :: ys => by
    rw [List.map_cons, List.map_cons, D.pys, D.pys, eqvAll, eq_map xs ys, EqD.eq x y]
    by_cases h : x = y
    · subst h
      by_cases g : xs = ys
      · subst g; simp
      · simp [g]
    · simp [h]
instance {α : Type} [Enc α] [EqD α] : EqD (List α) where
  dec := inferInstance
  ok xs := xs.all EqD.ok
  dp := EqD.dp α + 1
  pl xs := pls_map xs
  lay xs h := by
    show canLay0 (.list (D.pys (xs.map enc))) = true
    rw [canLay0]; exact lay_map xs h
  dep xs := by
    show depth (.list (D.pys (xs.map enc))) ≤ _
    rw [depth]; exact Nat.add_le_add_right (dep_map xs) 1
  eq xs ys := by
    show PyData.eqv (.list (D.pys (xs.map enc))) (.list (D.pys (ys.map enc))) = _
    rw [PyData.eqv, eq_map]
instance {α : Type} [Enc α] [EqD α] : EqD (Tl α) where
  dec := inferInstance
  ok xs := xs.l.all EqD.ok
  dp := EqD.dp α + 1
  pl xs := pls_map xs.l
  lay xs h := by
    show canLay0 (.tuple (D.pys (xs.l.map enc))) = true
    rw [canLay0]; exact lay_map xs.l h
  dep xs := by
    show depth (.tuple (D.pys (xs.l.map enc))) ≤ _
    rw [depth]; exact Nat.add_le_add_right (dep_map xs.l) 1
  eq xs ys := by
    show PyData.eqv (.tuple (D.pys (xs.l.map enc))) (.tuple (D.pys (ys.l.map enc))) = _
    rw [PyData.eqv, eq_map]
    obtain ⟨x⟩ := xs
    obtain ⟨y⟩ := ys
    by_cases h : x = y
    · subst h; simp
    · rw [decide_eq_false h, decide_eq_false (fun z => h (Tl.mk.inj z))]
instance {α β : Type} [Enc α] [Enc β] [EqD α] [EqD β] : EqD (α × β) where
  dec := inferInstance
  ok p := EqD.ok p.1 && EqD.ok p.2
  dp := max (EqD.dp α) (EqD.dp β) + 1
  pl p := by show D.pl (.tup [enc p.1, enc p.2]) = true; simp [D.pl, D.pls, EqD.pl]
  lay p h := by
    rw [Bool.and_eq_true] at h
    show canLay0 (.tuple (D.pys [enc p.1, enc p.2])) = true
    simp [D.pys, canLay0, canLayAll0, EqD.lay p.1 h.1, EqD.lay p.2 h.2]
  dep p := by
    show depth (.tuple (D.pys [enc p.1, enc p.2])) ≤ _
    have h1 := EqD.dep p.1
    have h2 := EqD.dep p.2
    simp only [D.pys, depth, depthAll]; omega
  eq p q := by
    show PyData.eqv (.tuple (D.pys [enc p.1, enc p.2])) (.tuple (D.pys [enc q.1, enc q.2])) = _
    simp only [D.pys, PyData.eqv, eqvAll, EqD.eq, Bool.and_true]
    obtain ⟨a, b⟩ := p
    obtain ⟨c, d⟩ := q
    by_cases h : a = c
    · by_cases g : b = d
      · subst h; subst g; simp
      · simp [h, g]
    · simp [h]
instance {α β γ : Type} [Enc α] [Enc β] [Enc γ] [EqD α] [EqD β] [EqD γ] : EqD (T3 α β γ) where
  dec := inferInstance
  ok p := EqD.ok p.a && EqD.ok p.b && EqD.ok p.c
  dp := max (max (EqD.dp α) (EqD.dp β)) (EqD.dp γ) + 1
  pl p := by show D.pl (.tup [enc p.a, enc p.b, enc p.c]) = true; simp [D.pl, D.pls, EqD.pl]
  lay p h := by
    rw [Bool.and_eq_true, Bool.and_eq_true] at h
    show canLay0 (.tuple (D.pys [enc p.a, enc p.b, enc p.c])) = true
    simp [D.pys, canLay0, canLayAll0, EqD.lay p.a h.1.1, EqD.lay p.b h.1.2, EqD.lay p.c h.2]
  dep p := by
    show depth (.tuple (D.pys [enc p.a, enc p.b, enc p.c])) ≤ _
    have h1 := EqD.dep p.a
    have h2 := EqD.dep p.b
    have h3 := EqD.dep p.c
    simp only [D.pys, depth, depthAll]; omega
  eq p q := by
    show PyData.eqv (.tuple (D.pys [enc p.a, enc p.b, enc p.c])) (.tuple (D.pys [enc q.a, enc q.b, enc q.c])) = _
    simp only [D.pys, PyData.eqv, eqvAll, EqD.eq, Bool.and_true]
    obtain ⟨a, b, c⟩ := p
    obtain ⟨d, e, f⟩ := q
    simp only [T3.mk.injEq, Bool.decide_and]
instance {α β γ δ : Type} [Enc α] [Enc β] [Enc γ] [Enc δ] [EqD α] [EqD β] [EqD γ] [EqD δ] : EqD (T4 α β γ δ) where
  dec := inferInstance
  ok p := EqD.ok p.a && EqD.ok p.b && EqD.ok p.c && EqD.ok p.d
  dp := max (max (max (EqD.dp α) (EqD.dp β)) (EqD.dp γ)) (EqD.dp δ) + 1
  pl p := by show D.pl (.tup [enc p.a, enc p.b, enc p.c, enc p.d]) = true; simp [D.pl, D.pls, EqD.pl]
  lay p h := by
    rw [Bool.and_eq_true, Bool.and_eq_true, Bool.and_eq_true] at h
    show canLay0 (.tuple (D.pys [enc p.a, enc p.b, enc p.c, enc p.d])) = true
    simp [D.pys, canLay0, canLayAll0, EqD.lay p.a h.1.1.1, EqD.lay p.b h.1.1.2, EqD.lay p.c h.1.2, EqD.lay p.d h.2]
  dep p := by
    show depth (.tuple (D.pys [enc p.a, enc p.b, enc p.c, enc p.d])) ≤ _
    have h1 := EqD.dep p.a
    have h2 := EqD.dep p.b
    have h3 := EqD.dep p.c
    have h4 := EqD.dep p.d
    simp only [D.pys, depth, depthAll]; omega
  eq p q := by
    show PyData.eqv (.tuple (D.pys [enc p.a, enc p.b, enc p.c, enc p.d])) (.tuple (D.pys [enc q.a, enc q.b, enc q.c, enc q.d])) = _
    simp only [D.pys, PyData.eqv, eqvAll, EqD.eq, Bool.and_true]
    obtain ⟨a, b, c, u⟩ := p
    obtain ⟨d, e, f, v⟩ := q
    simp only [T4.mk.injEq, Bool.decide_and]
end
end
end ON

set_option Elab.async false
set_option linter.all false
set_option maxRecDepth 100000
set_option maxHeartbeats 1000000
/-! what a drawing function comes to, whatever is drawn -/
namespace ON
open PySem PySem.Spec PyProof.Rows L2
def W {α : Type} (x : Sm α) (k : Int) (P : α → Int → Prop) : Prop := ∃ a k', x k = some (a, k') ∧ P a k'
section
variable {α β τ τ' l ρ : Type} {k : Int}
theorem W.mono {x : Sm α} {P Q : α → Int → Prop} (h : W x k P) (hq : ∀ a k', P a k' → Q a k') : W x k Q := by
  obtain ⟨a, k', e, p⟩ := h
  exact ⟨a, k', e, hq a k' p⟩
theorem W.pur {a : α} {P : α → Int → Prop} (h : P a k) : W (Mn.pur a : Sm α) k P := ⟨a, k, pur_sm a k, h⟩
theorem W.bnd {x : Sm α} {f : α → Sm β} {P : β → Int → Prop} (h : W x k fun a k' => W (f a) k' P) : W (Mn.bnd x f) k P := by
  obtain ⟨a, k1, e, b, k2, e2, p⟩ := h
  exact ⟨b, k2, by rw [bnd_sm, e]; exact e2, p⟩
theorem W.gd {p : Prop} [Decidable p] {x : Sm α} {P : α → Int → Prop} (hp : p) (h : W x k P) : W (ON.gd p x) k P := by rw [gd_y hp]; exact h
theorem W.lift {o : Option α} {a : α} {P : α → Int → Prop} (e : o = some a) (h : P a k) : W (ON.lift o : Sm α) k P := by
  subst e
  refine ⟨a, k, ?_, h⟩
  unfold ON.lift; exact pur_sm a k
theorem W.nx {c : List Int} {mm : Int} {P : Int → Int → Prop} (hc : c.length ≤ 1000) (hk : 0 ≤ k ∧ k < 1000000000000) (hm : 0 < mm) (h : ∀ r, 0 ≤ r → r < mm → P r (k + 1)) : W (ON.nx c mm) k P := by
  refine ⟨nxV c (k + 1) mm, k + 1, ?_, h _ (Int.emod_nonneg _ (by omega)) (Int.emod_lt_of_pos _ hm)⟩
  unfold ON.nx
  rw [if_pos ⟨hk.1, hk.2, hm, hc⟩]
theorem W.andThen {x : Sm (Fl τ l ρ)} {f : τ → Sm (Fl τ' l ρ)} {P : Fl τ' l ρ → Int → Prop} (h : W x k fun r k' => match r with
    | .nx t => W (f t) k' P
    | .bk t => P (.bk t) k'
    | .ct t => P (.ct t) k'
    | .rt t => P (.rt t) k') : W (ON.andThen x f) k P := by
  unfold ON.andThen
  refine W.bnd (h.mono fun r k' hr => ?_)
  cases r with
  | nx t => exact hr
  | bk t => exact W.pur hr
  | ct t => exact W.pur hr
  | rt t => exact W.pur hr
/-- a loop that goes through -/
theorem W.forL {body : τ → α → Sm (Fl τ τ ρ)} {P : Fl τ l ρ → Int → Prop} (I : Nat → τ → Int → Prop) : ∀ (xs : List α) (i : Nat) (t : τ) (k : Int), I i t k → (∀ j t k x, i ≤ j → j < i + xs.length → I j t k → x ∈ xs → W (body t x) k fun r k' => ∃ t', r = .nx t' ∧ I (j + 1) t' k') → (∀ t k, I (i + xs.length) t k → P (.nx t) k) → W (ON.forL body xs t) k P := by
  intro xs
  induction xs with
  | nil => intro i t k it _ h; rw [forL_nil]; exact W.pur (h t k it)
  | cons x xs ih =>
    intro i t k it hb h
    rw [forL_cons]
    refine W.bnd ((hb i t k x (Nat.le_refl _) (by rw [List.length_cons]; omega) it (.head _)).mono fun r k' hr => ?_)
    obtain ⟨t', rfl, it'⟩ := hr
    exact ih (i + 1) t' k' it' (fun j t k y h0 h1 h2 hy => hb j t k y (by omega) (by rw [List.length_cons]; omega) h2 (.tail _ hy)) fun t k h2 => h t k (by rw [List.length_cons, show i + (xs.length + 1) = i + 1 + xs.length by omega]; exact h2)
theorem W.compL {f : α → Sm β} {Q : β → Prop} {P : List β → Int → Prop} (b : Int) : ∀ (xs : List α) (k : Int), (∀ k x, 0 ≤ k → k < b + xs.length → x ∈ xs → W (f x) k fun y k' => Q y ∧ k ≤ k' ∧ k' ≤ k + 1) → 0 ≤ k → k ≤ b → (∀ ys k', ys.length = xs.length → (∀ y ∈ ys, Q y) → k ≤ k' → k' ≤ k + xs.length → P ys k') → W (ON.compL (fun _ => Mn.pur true) f xs) k P := by
  intro xs
  induction xs generalizing b P with
  | nil => intro k _ _ _ h; rw [compL_nil]; exact W.pur (h [] k rfl (fun y hy => nomatch hy) (Int.le_refl _) (by simp))
  | cons x xs ih =>
    intro k hf h0 hb h
    rw [compL_cons]
    refine W.bnd (W.pur ?_)
    refine W.bnd ((hf k x h0 (by rw [List.length_cons]; omega) (.head _)).mono fun y k1 hy => ?_)
    obtain ⟨q, l1, l2⟩ := hy
    refine W.bnd (ih (b := b + 1) (P := fun ys k' => W (Mn.pur (y :: ys)) k' P) k1 (fun k2 z h2 h3 hz => hf k2 z h2 (by rw [List.length_cons]; omega) (.tail _ hz)) (by omega) (by omega) fun ys k' hl hq l3 l4 => ?_)
    refine W.pur (h (y :: ys) k' (by rw [List.length_cons, List.length_cons, hl]) (fun z hz => ?_) (by omega) (by rw [List.length_cons]; omega))
    rcases List.mem_cons.mp hz with rfl | hz
    · exact q
    · exact hq z hz
theorem W.finS [Enc ρ] {x : Sm (Fl Empty Empty ρ)} {P : ρ → Int → Prop} (h : W x k fun f k' => ∃ r, f = .rt r ∧ P r k') : W (ON.finS x) k P := by
  obtain ⟨f, k', e, r, rfl, p⟩ := h
  refine ⟨r, k', ?_, p⟩
  unfold ON.finS
  rw [e]; rfl
theorem W.run {x : Sm α} {P : α → Int → Prop} (h : W x k P) : ∃ a k', x k = some (a, k') ∧ P a k' := h
end
end ON

set_option Elab.async false
set_option linter.all false
set_option maxRecDepth 100000
set_option maxHeartbeats 1000000
namespace ON
open PySem PySem.Spec PyProof.Rows L2
abbrev m__law_next (c : List Int) (_ : Option (List Str)) (mm : Int) : Sm Int := nx c mm
def bg2 (c : List Int) : Sm Str := (Mn.bnd (Mn.bnd (Mn.bnd (Mn.bnd (Mn.pur (8 : Int)) fun p_141 => m__law_next c none p_141) fun n_142 => gd (-(2 ^ 62) ≤ n_142 ∧ n_142 < 2 ^ 62) (Mn.pur (upTo 0 (Int.toNat n_142) 1))) fun w_148 => gd (List.length w_148 ≤ 100000) (compL (fun (a_143 : Int) => (Mn.pur true)) (fun (a_143 : Int) => (Mn.bnd (Mn.pur ("qzjv" : Str)) fun x_145 => Mn.bnd (Mn.bnd (Mn.pur (4 : Int)) fun p_144 => m__law_next c none p_144) fun y_146 => gd (x_145.length ≤ sizeLine) (Mn.bnd (lift (atI (Array.toList (Str.cps x_145)) y_146)) fun c_147 => Mn.pur (sgn c_147)))) w_148)) fun j_150 => gd ((List.map Str.length j_150).sum + List.length j_150 * Str.length ("" : Str) ≤ 16777216) (Mn.pur (Txt.join ("" : Str) j_150)))
def bg3 (c : List Int) (r : Str) : Sm Int := (Mn.bnd (Mn.bnd (Mn.bnd (Mn.pur r) fun u_151 => gd (u_151.length ≤ sizeLine) (Mn.pur ((Str.length u_151 : Nat) : Int))) fun x_152 => Mn.bnd (Mn.pur (1 : Int)) fun y_153 => Mn.pur (x_152 + y_153)) fun p_154 => m__law_next c none p_154)
def bg4 (c : List Int) (r : Str) (a : Int) : Sm (List Str) := (Mn.bnd (Mn.bnd (Mn.pur ("mcxgtaqerbvkdunhspjfwlio" : Str)) fun w_155 => Mn.pur (List.map sgn (Array.toList (Str.cps w_155)))) fun w_169 => gd (List.length w_169 ≤ 100000) (compL (fun (a_156 : Str) => (Mn.pur true)) (fun (a_156 : Str) => (Mn.bnd (Mn.bnd (Mn.bnd (Mn.pur r) fun x_158 => Mn.bnd (Mn.pur (none : Option Int)) fun l_159 => Mn.bnd (Mn.bnd (Mn.pur a) fun i_157 => Mn.pur (some i_157)) fun h_160 => gd (x_158.length ≤ sizeLine) (Mn.pur (cutT x_158 l_159 h_160))) fun x_161 => Mn.bnd (Mn.pur a_156) fun y_162 => gd (x_161.length + y_162.length ≤ sizeLine) (Mn.pur (x_161 ++ y_162))) fun x_167 => Mn.bnd (Mn.bnd (Mn.pur r) fun x_164 => Mn.bnd (Mn.bnd (Mn.pur a) fun i_163 => Mn.pur (some i_163)) fun l_165 => Mn.bnd (Mn.pur (none : Option Int)) fun h_166 => gd (x_164.length ≤ sizeLine) (Mn.pur (cutT x_164 l_165 h_166))) fun y_168 => gd (x_167.length + y_168.length ≤ sizeLine) (Mn.pur (x_167 ++ y_168)))) w_169))
abbrev okB (c : List Int) (ns : List Str) (k : Int) : Prop := bgM bg2 bg3 bg4 c 0 = some (ns, k)
def bgF (c : List Int) : Option (List Str × Int) := bgM bg2 bg3 bg4 c 0
theorem bg_ok : beg okB bgF := fun _ _ _ h => h
theorem joinL_nil_len : ∀ ps : List (List Nat), (TL.joinL [] ps).length = (ps.map List.length).sum
  | [] => rfl
  | [p] => by simp [TL.joinL]
  | p :: q :: r => by
    rw [TL.joinL, List.length_append, List.nil_append, joinL_nil_len (q :: r)]; rfl
theorem join_len (ys : List Str) : (Txt.join ("" : Str) ys).length = (ys.map Str.length).sum := by
  show (Txt.join ("" : Str) ys).cps.size = _
  rw [← Array.length_toList]
  have e : (Txt.join ("" : Str) ys).cps.toList = TL.joinL [] (ys.map fun y => y.cps.toList) := by rw [TL.join_eq]; exact TL.tl_join ("" : Str) ys
  rw [e, joinL_nil_len, List.map_map]
  congr 1
theorem sum_ones : ∀ ys : List Str, (∀ y ∈ ys, y.length = 1) → (ys.map Str.length).sum = ys.length
  | [], _ => rfl
  | y :: ys, h => by
    rw [List.map_cons, List.sum_cons, h y (.head _), sum_ones ys fun z hz => h z (.tail _ hz), List.length_cons]; omega
theorem bg_W (c : List Int) (hc : c.length ≤ 1000) : W (bgM bg2 bg3 bg4 c) 0 fun ns k => 0 ≤ k ∧ k ≤ 100 ∧ ns.length = 24 := by
  have sz : 100000 < sizeLine := by decide
  unfold bgM
  refine W.bnd ?_
  unfold bg2
  refine W.bnd (W.bnd (W.bnd (W.bnd (W.pur (W.nx hc (by decide) (by decide) fun n n0 n1 => ?_)))))
  refine W.gd (by omega) (W.pur ?_)
  have hl := upTo_len 0 1 n.toNat
  refine W.gd (by rw [hl]; omega) (W.compL (Q := fun y : Str => y.length = 1) 1 _ _ (fun k x k0 k1 _ => ?_) (by decide) (by decide) fun ys k' h1 h2 h3 h4 => ?_)
  · refine W.bnd (W.pur (W.bnd (W.bnd (W.pur (W.nx hc (by rw [hl] at k1; omega) (by decide) fun r r0 r1 => ?_)))))
    refine W.gd (by decide) (W.bnd ?_)
    have hr : ∃ z, atI (Array.toList (Str.cps ("qzjv" : Str))) r = some z := by
      have : r = 0 ∨ r = 1 ∨ r = 2 ∨ r = 3 := by omega
      rcases this with rfl | rfl | rfl | rfl <;> exact ⟨_, rfl⟩
    obtain ⟨z, hz⟩ := hr
    exact W.lift hz (W.pur ⟨rfl, by omega, by omega⟩)
  rw [hl] at h1 h4
  have hs := sum_ones ys h2
  have e0 : Str.length ("" : Str) = 0 := rfl
  refine W.gd (by rw [e0]; omega) (W.pur (W.bnd ?_))
  have hj := join_len ys
  unfold bg3
  refine W.bnd (W.bnd (W.bnd (W.pur (W.gd (by omega) (W.pur (W.bnd (W.pur (W.pur (W.nx hc (by omega) (by omega) fun a a0 a1 => ?_)))))))))
  unfold bg4
  refine W.bnd (W.bnd (W.pur (W.pur (W.gd (by decide) (W.compL (Q := fun _ => True) 20 _ _ (fun k x k0 k1 hx => ?_) (by omega) (by omega) fun ns k2 g1 g2 g3 g4 => ?_)))))
  · have hx1 : x.length = 1 := by
      obtain ⟨z, _, rfl⟩ := List.mem_map.mp hx
      rfl
    have cl : ∀ lo hi, (cutT (Txt.join ("" : Str) ys) lo hi).length ≤ (Txt.join ("" : Str) ys).length := fun lo hi => by
      unfold cutT cutS Str.length
      rw [List.size_toArray, List.length_take, List.length_drop, Array.length_toList]
      omega
    have c1 := cl none (some a)
    have c2 := cl (some a) none
    have q1 : (Txt.join ("" : Str) ys).length ≤ sizeLine := by omega
    have q2 : (cutT (Txt.join ("" : Str) ys) none (some a)).length + x.length ≤ sizeLine := by omega
    have q3 : (cutT (Txt.join ("" : Str) ys) none (some a) ++ x).length + (cutT (Txt.join ("" : Str) ys) (some a) none).length ≤ sizeLine := by rw [Str.length_append]; omega
    simp only [pbS, gd_y q1, gd_y q2, gd_y q3]
    exact W.pur ⟨trivial, by omega, by omega⟩
  · have e24 : (List.map sgn (Array.toList (Str.cps ("mcxgtaqerbvkdunhspjfwlio" : Str)))).length = 24 := rfl
    rw [e24] at g1 g4
    exact ⟨by omega, by omega, g1⟩
theorem bg_tot : ∀ c : List Int, c.length ≤ 1000 → ∃ ns k, bgM bg2 bg3 bg4 c 0 = some (ns, k) := fun c hc => by
  obtain ⟨ns, k, e, _⟩ := bg_W c hc
  exact ⟨ns, k, e⟩
theorem W.begun {ρ : Type} [Enc ρ] {c : List Int} {f : List Str → Sm (Fl Empty Empty ρ)} {k : Int} {P : Fl Empty Empty ρ → Int → Prop} (hc : c.length ≤ 1000) (h : ∀ ns k, 0 ≤ k → k ≤ 100 → ns.length = 24 → W (f ns) k P) : W (ON.begun bgF c f) k P := by
  obtain ⟨ns, k0, e, h1, h2, h3⟩ := bg_W c hc
  obtain ⟨a, k', e2, p⟩ := h ns k0 h1 h2 h3
  refine ⟨a, k', ?_, p⟩
  unfold ON.begun bgF
  rw [if_pos hc, e]
  exact e2
theorem fin0_of {ρ : Type} [Enc ρ] {x : Sm (Fl Empty Empty ρ)} {r : ρ} (h : W x 0 fun f _ => f = .rt r) : fin0 x = some r := by
  obtain ⟨f, k', e, rfl⟩ := h
  unfold fin0 finS
  rw [e]; rfl
end ON

set_option Elab.async false
set_option linter.all false
set_option maxRecDepth 100000
set_option maxHeartbeats 2000000
/-! OX1: an error that is caught and kept behind its try. -/
namespace ON
open PySem L2

theorem XO_ok {P : Program} {w : World} {H : Hp} {h : Heap} {a : Addr} {cls : Value} {d : Option Addr} {oe : Obj} {vs : Array Value} (e : h.get? a = some oe) (z : Zc cls d oe) (f : oe.data = .fields vs) : ObjOk P w H h a (XO cls d a) := by
  show (∃ oe vs, h.get? a = some oe ∧ Zc cls d oe ∧ oe.data = .fields vs) ∧ (∃ o, h.get? a = some o) ∧ _
  refine ⟨⟨oe, vs, e, z, f⟩, ⟨oe, e⟩, fun h1 h2 q k => ?_⟩
  obtain ⟨o, v, e1, z1, f1⟩ := q
  exact ⟨o, v, k o e1, z1, f1⟩
theorem XO_inv {P : Program} {w : World} {H : Hp} {h : Heap} {a : Addr} {cls : Value} {d : Option Addr} (q : ObjOk P w H h a (XO cls d a)) : ∃ oe vs, h.get? a = some oe ∧ Zc cls d oe ∧ oe.data = .fields vs := by
  have z : (∃ oe vs, h.get? a = some oe ∧ Zc cls d oe ∧ oe.data = .fields vs) ∧ (∃ o, h.get? a = some o) ∧ _ := q
  exact z.1
section
variable {X : Cx} {pins : List (Addr × Obj)} {σ : L2.St} {H : Hp} {s : Shared} {a : Addr} {oe : Obj} {vs : Array Value} {cls : Value} {d : Option Addr}
/-- what is nobody's is told as a kept error -/
theorem keepX (I : L2.Inv X pins σ H s) (e : s.heap.get? a = some oe) (z : Zc cls d oe) (f : oe.data = .fields vs) (hn : H a = none) (hl : a ≠ X.env.locals)
    (h0 : X.s_0.heap.get? a = none) (hp : ∀ p ∈ X.pn ++ pins, p.1 ≠ a) : L2.Inv X pins σ (upd H a (XO cls d a)) s where
  ok := I.ok
  os := I.os
  bare := I.bare
  base := {
    keep := I.base.keep
    slot := I.base.slot
    free := fun b o hb q x => by
      rw [upd_ne (fun w => by rw [w, h0] at hb; cases hb)]
      exact I.base.free b o hb q x
    there := I.base.there
    tups := fun b xs q => by
      have y := I.base.tups b xs q
      rw [upd_ne (ne_of_none y hn)]; exact y
    frzs := fun b o u q => by
      have y := I.base.frzs b o u q
      rw [upd_ne (ne_of_none y hn)]; exact y
    tbls := fun b ps q => by
      obtain ⟨more, y⟩ := I.base.tbls b ps q
      refine ⟨more, ?_⟩
      rw [upd_ne (ne_of_none y hn)]; exact y }
  loc := I.loc
  cell := I.cell
  free := by rw [upd_ne (Ne.symm hl)]; exact I.free
  freeC := fun x c q => by
    have ne : c ≠ a := fun w => by
      obtain ⟨v, hc⟩ := I.cell x c q
      obtain ⟨o, ho, hd⟩ := hc
      rw [w, e] at ho; cases ho
      rw [f] at hd; cases hd
    rw [upd_ne ne]; exact I.freeC x c q
  pin := fun p hm => by
    obtain ⟨q1, q2, q3⟩ := I.pin p hm
    refine ⟨q1, ?_, q3⟩
    rw [upd_ne (hp p hm)]; exact q2
  hok := fun b o hb => by
    by_cases c : b = a
    · subst c
      rw [upd_same] at hb; cases hb
      exact XO_ok e z f
    · rw [upd_ne c] at hb
      refine (I.hok b o hb).stay (fun _ _ _ q => q) (fun x q => ?_) fun x xs q => ?_
      · rw [upd_ne (ne_of_none q hn)]; exact q
      · rw [upd_ne (ne_of_none q hn)]; exact q
  len := I.len
/-- try .. except c as n: suite, where the error is kept behind it; all that is raised is caught -/
def wKeep (K : PySem.W.Frag) (c : Value) (i : Nat) (ts : Addr → Value → Option Addr → TS) (D : Ends) : WX := fun cls d σ H =>
  PySem.W.exmOne K cls c = some true ∧ ∀ a, H a = none → ts a cls d { nx := fun σ' H' => H' a = none → D.nx (σ'.set i none) (upd H' a (XO cls d a)), rt := D.rt, bk := fun _ _ => False, ct := fun _ _ => False } (σ.set i (some (.ref a))) H
/-- frames hold no fields -/
theorem frame_no {h B : Heap} {l : List Env} {b : Addr} {o : Obj} {vs : Array Value} (ff : h.FunFrames B l) (e : h.get? b = some o) (f : o.data = .fields vs) : b ∉ frs l := fun hm => by
  obtain ⟨_, o', e', nf⟩ := Heap.FunFrames.mem ff hm
  rw [e] at e'; cases e'
  exact nf vs f
theorem ps_try_keep {x n : Str} {c : Value} {i : Nat} {body suite : List Stmt} {b₀ : Stmt} {np pos pos' : Pos} {tb : WX → TS} {ts : Addr → Value → Option Addr → TS}
    (hs : X.stack = X.env :: X.outer) (hf : X.env.frame = some X.env.locals) (hex : X.ex = []) (hN : X.N.Nodup) (hi : X.N[i]? = some n) (hln : X.env.kindOf n = some .local) (hc : Names X x c)
    (hb : ∀ (W : WX) (pn : List (Addr × Obj)) (xe : Value → Shared → Prop), Takes (X.tr pn xe) W → PassesOwn (model X.prog X.w) X.A X.env xe → PSs (X.tr pn xe) body (tb W))
    (hsu : ∀ (a : Addr) (oe : Obj) (cls : Value) (d : Option Addr) (pn : List (Addr × Obj)), Zc cls d oe → (∃ vs, oe.data = .fields vs) → PSs (X.suite a ((a, oe) :: pn)) (b₀ :: suite) (ts a cls d)) :
    PS X (.Try body [.ExceptHandler (some (.Name x np)) (some n) (b₀ :: suite) pos'] [] [] pos) (fun D σ H => tb (wKeep X.K c i ts D) D σ H) := by
  refine ⟨fun pins s σ H D I h => ?_⟩
  have ok := I.ok
  have hfr : X.A.frames = some (X.env :: X.outer) := by rw [ok.frames, hs]
  have hloc : L2.Loc X.env.scope n := .inl hln
  refine wpAny_Try_except (wpAny_mono ((hb (wKeep X.K c i ts D) (X.pn ++ pins) _ (fun u s' xx => ?tk) ?po).run [] s σ H D (I.toTry _) h) ?nx fun _ _ q => q)
  case po => exact PassesOwn.looking
  case nx =>
    intro f s1 q
    cases f with
    | next =>
      obtain ⟨σ', H', J, w⟩ := q
      exact wpAny_execs_nil ⟨σ', H', J.ofTry ok, w⟩
    | brk =>
      obtain ⟨σ', H', J, w⟩ := q
      exact ⟨σ', H', J.ofTry ok, w⟩
    | cont =>
      obtain ⟨σ', H', J, w⟩ := q
      exact ⟨σ', H', J.ofTry ok, w⟩
    | ret u =>
      obtain ⟨v, σ', H', J, w⟩ := q
      exact ⟨v, σ', H', J.ofTry ok, w⟩
  case tk =>
    obtain ⟨a, B, sI, pins', σ', H', cls, d, rfl, J', nb, up, sky, na, os, ag, ce, hyes⟩ := xx
    have J : L2.Inv X pins σ' H' sI := J'.ofTry ok
    rw [show (X.tr (X.pn ++ pins) _).stack = X.env :: X.outer from hs] at sky
    refine Sky.land Zc.steady hfr hf sky fun h3 fl3 up3 => ?_
    have J3 : L2.Inv X pins σ' H' ⟨h3, s'.gens, s'.drawn, s'.toks, s'.os⟩ := J.landed nb fl3.1 (Heap.UpToSlots.trans up up3) os ag
    obtain ⟨oe3, vs3, he3, hz3, hd3⟩ := HandSPX.FlyingZ.there fl3
    have nF3 := frame_no fl3.2.2.1 he3 hd3
    have inL : X.env.locals ∈ frs (X.env :: X.outer) := List.mem_filterMap.mpr ⟨X.env, List.mem_cons_self, hf⟩
    have nL : a ≠ X.env.locals := fun z => nF3 (z ▸ inL)
    have nF : a ∉ X.fs := fun hm => by
      obtain ⟨e, he, q⟩ := List.mem_filterMap.mp hm
      exact nF3 (List.mem_filterMap.mpr ⟨e, List.mem_cons_of_mem _ he, q⟩)
    have S3 := J3.suite he3 hd3 na nL nF
    refine wpAny_handleBy_cons (codeAny_handlers_test ?_) (by simp [byPass])
    have LT : PySem.W.Looks (model X.prog X.w) h3 (typeOf (.ref a)) cls := fun A Q E s k q => wpAny_typeOf_ref (k a oe3 he3) (by rw [hz3.1]; exact q)
    have LM := PySem.W.exm_one J3.kIn LT ce
    have test : ∀ {Q E}, Q c ⟨h3, s'.gens, s'.drawn, s'.toks, s'.os⟩ → wpAny (model X.prog X.w) (X.A.mark (some (.ref a))) (eval (.Name x np) X.env) Q E ⟨h3, s'.gens, s'.drawn, s'.toks, s'.os⟩ := fun q => by
      obtain ⟨hg, hdbg, hm | ⟨hm, hv, hnn⟩⟩ := hc
      · exact ld_glob S3 hg hm q hdbg
      · exact ld_blt S3 hg hm hv q hnn hdbg
    refine test (LM.here ?_)
    refine codeAny_handlers_suite_as (HandSPX.lands_againZ fl3 fun h4 fl4 up4 => ?_)
    have J4 : L2.Inv X pins σ' H' ⟨h4, s'.gens, s'.drawn, s'.toks, s'.os⟩ := J.landed nb fl4.1 (Heap.UpToSlots.trans (Heap.UpToSlots.trans up up3) up4) os ag
    obtain ⟨oe4, vs4, he4, hz4, hd4⟩ := HandSPX.FlyingZ.there fl4
    have S4 := J4.suite he4 hd4 na nL nF
    refine store_ok (X := X.suite a ((a, oe4) :: (X.pn ++ pins))) (v := .ref a) S4 hN hi hloc rfl (fun s5 S5 => ?_) (.inr hln)
    refine wpAny_mono ((hsu a oe4 cls d (X.pn ++ pins) hz4 ⟨vs4, hd4⟩).run [] s5 _ H' _ S5 (hyes a na)) (fun f s6 q => ?_) fun _ _ z => z.elim
    have old : ∀ b o, sI.heap.get? b = some o → b ∉ frs (X.env :: X.outer) → b ≠ a := fun b o e hb z => by
      have y := nb b o e (by rw [show (X.tr (X.pn ++ pins) _).stack = X.env :: X.outer from hs]; exact hb)
      rw [z, fl4.2.1] at y; cases y
    cases f with
    | next =>
      obtain ⟨σ6, H6, J6, w⟩ := q
      obtain ⟨p1, p2, _⟩ := J6.pin (a, oe4) (List.mem_append_left _ List.mem_cons_self)
      have J7 : L2.Inv X pins σ6 H6 s6 := J6.unsuite ok
      refine gone_ok (keepX J7 p1 hz4 hd4 p2 nL ?_ ?_) hN hi hln fun s8 J8 => ⟨_, _, J8, w p2⟩
      · cases e : X.s_0.heap.get? a with
        | none => rfl
        | some o =>
          obtain ⟨o', y⟩ := J.base.there a o e (by rw [hex]; exact List.not_mem_nil)
          exact absurd rfl (old a o' y nF3)
      · intro p hm z
        obtain ⟨q1, _⟩ := J.pin p hm
        exact old p.1 p.2 q1 (z ▸ nF3) z
    | brk => obtain ⟨_, _, _, w⟩ := q; exact w.elim
    | cont => obtain ⟨_, _, _, w⟩ := q; exact w.elim
    | ret u =>
      obtain ⟨v, σ6, H6, J6, w⟩ := q
      exact gone_ok (J6.unsuite ok) hN hi hln fun s8 J8 => ⟨v, _, _, J8, w⟩
end
end ON

set_option Elab.async false
set_option linter.all false
set_option maxRecDepth 100000
set_option maxHeartbeats 2000000
namespace ON
open PySem L2
/-- e.n, e a kept error with a dict of its own -/
def tXk (K : PySem.W.Frag) (n : Str) (te : TE) : TE := fun σ H Q => te σ H fun x H1 =>
  ∃ (a C dd : Addr) (fs : List (Str × V)) (v : V), x = .ref a ∧ H1 a = some (XO (.ref C) (some dd) a) ∧ H1 dd = some (.xd fs) ∧ fs.lookup n = some v ∧ XfC K C ∧ PySem.W.findIn K (.ref C) n = some none ∧ Q v H1
theorem pe_xk {X : Cx} {e : Expr} {te : TE} {n : Str} {pos : Pos} (he : PE X e te) (hb : attributeBase e n X.env (eval e X.env) = eval e X.env := by rfl) : PE X (.Attribute e n pos) (tXk X.K n te) := by
  refine ⟨fun pins s σ H Q I h => ?_⟩
  refine attr_of hb (thn (he.run pins s σ H _ I h) fun u s1 hh => ?_)
  obtain ⟨x, H1, J, rx, a, C, dd, fs, v, rfl, ha, hd, hl, T, hno, q⟩ := hh
  obtain rfl : u = Value.ref a := rx
  obtain ⟨oe, vs, e1, z, f⟩ := XO_inv (J.hok a _ ha)
  have hx : ObjOk X.prog X.w H1 s1.heap dd (.xd fs) := J.hok dd _ hd
  obtain ⟨mA, hns, hr⟩ := hx
  obtain ⟨od, ho, look⟩ := lookIn_ns hns
  obtain ⟨w, hw, rw_⟩ := RelO.some_of (v := v) (o := mA n) (by rw [← hl]; exact hr n)
  have IA : PySem.W.InstAt s1.heap a oe C (some od) := ⟨e1, z.1, by unfold PySem.W.notCls; rw [f] <;> rfl, by rw [z.2]; exact ho⟩
  exact HandSPX.exc_get J.kIn IA T.ga T.gg T.exC (PySem.W.findObj_own T.hdC hno rfl (by rw [look, hw])) (handed_of rw_) ⟨v, H1, J.tok _, rw_, q⟩
/-- what isinstance asks of an error's class -/
structure EC (K : PySem.W.Frag) (C : Addr) : Prop where
  some : (PySem.W.clsIn K C).isSome = true
  ga : PySem.W.findIn K (.ref C) "__getattribute__" = Option.some (Option.some (.builtin "BaseException.__getattribute__"))
  gg : PySem.W.findIn K (.ref C) "__getattr__" = Option.some none
  sb : PySem.W.subIn K (.ref C) (.type "BaseException") = Option.some true
  cl : PySem.W.findIn K (.ref C) "__class__" = Option.some (Option.some (.builtin "object.__class__"))
  sp : PySem.W.specialIn K (.builtin "object.__class__") "__get__" = Option.some (Option.some (.builtin "getset_descriptor.__get__"))
  tk : PySem.W.takesIn K (.builtin "object.__class__") = Option.some true
  mr : PySem.W.mroIn K C (.type "object") = Option.some true
/-- isinstance(e, c), e a kept error -/
def rIsK (K : PySem.W.Frag) : List V → Hp → VK → Prop := fun xs H Q => ∃ (a C : Addr) (d : Option Addr) (c : V) (cv : Value) (b : Bool), xs = [.ref a, c] ∧ H a = some (XO (.ref C) d a) ∧ (∀ dd, d = some dd → ∃ fs, H dd = some (.xd fs)) ∧ EC K C ∧ (∀ u, RelV c u → u = cv) ∧ PySem.W.kitOne K (.ref C) cv = some b ∧ Q (.bl b) H
theorem call_isK {X : Cx} : CallR X (.builtin "isinstance") (rIsK X.K) := by
  intro pins s σ H xs us Q I hv h
  obtain ⟨a, C, d, c, cv, b, rfl, ha, hd, T, hc, hk, q⟩ := h
  cases hv with
  | cons r1 r2 =>
    cases r2 with
    | cons r2 r3 =>
      cases r3
      obtain rfl : _ = Value.ref a := r1
      obtain rfl := hc _ r2
      obtain ⟨oe, vs, e1, z, f⟩ := XO_inv (I.hok a _ ha)
      have ex : ∃ od, PySem.W.InstAt s.heap a oe C od := by
        cases d with
        | none => exact ⟨none, e1, z.1, by unfold PySem.W.notCls; rw [f] <;> rfl, by rw [z.2]; trivial⟩
        | some dd =>
          obtain ⟨fs, hdd⟩ := hd dd rfl
          have hx : ObjOk X.prog X.w H s.heap dd (.xd fs) := I.hok dd _ hdd
          obtain ⟨mA, hns, hr⟩ := hx
          obtain ⟨od, ho, look⟩ := lookIn_ns hns
          exact ⟨some od, e1, z.1, by unfold PySem.W.notCls; rw [f] <;> rfl, by rw [z.2]; exact ho⟩
      obtain ⟨od, IA⟩ := ex
      exact PySem.W.kia_one (PySem.W.kitx_exc T.some T.ga T.gg T.sb T.cl T.sp T.tk T.mr) I.kIn IA hk (by simp) fun tk => ⟨.bl b, H, I.kept fun _ _ z => z, rfl, q⟩
end ON

set_option Elab.async false
set_option linter.all false
set_option maxRecDepth 100000
set_option maxHeartbeats 2000000
/-! OX3: defs that may raise, raise, try .. except .. as e: kept = e -/
namespace ON
open PySem L2
def xenc {γ : Type} [Enc γ] : Xr γ → D ⊕ Er
  | .ok a => .inl (enc a)
  | .er e => .inr e
/-- the promise of a def that may raise -/
def spX (K : PySem.W.Frag) (n : Nat) (s : Sh) (pre : List D → D ⊕ Er → Prop) : Sp := fun vs H Q E => ∃ (B : Hp) (ds : List D) (r : D ⊕ Er), pre ds r ∧ vs.length = n ∧ Gr B H ∧ Rps K B vs ds ∧
  (∀ d, r = .inl d → ∀ v B' H' f, Gr B B' → Gr B' H' → Gr H H' → (∀ a o, B' a = some o → B a = none → H a = none) → Ow K B' H' s v d f → f.Nodup → (∀ a ∈ f, B' a = none ∧ H a = none) → Q v H') ∧
  (∀ e, r = .inr e → ∀ cls dd B' H', Gr B B' → Gr B' H' → Gr H H' → (∀ a o, B' a = some o → B a = none → H a = none) → ErOk K B' cls dd e → E cls dd H')
/-- an expression that may raise; what it gives is the asker's own, of shape s -/
def EvX (K : PySem.W.Frag) (W : Wr) {m : Type → Type} [Mn m] {α : Type} [Enc α] (s : Sh) (te : TE) (sd : List SD) (x : m (Xr α)) : Prop := ∀ (F : Fr) (σ : L2.St) (B H : Hp) (k : Int), Rel K F σ B H sd k → ∀ (r : Xr α) (k' : Int), Mn.run x k = some (r, k') →
  ∀ Q : VK, (∀ a, r = .ok a → ∀ v B' H', Rel K (F.push v s (enc a)) σ B' H' sd k' → Gr B B' → Q v H') →
    (∀ e, r = .er e → ∀ cls d B' H', Rel K F σ B' H' sd k' → Gr B B' → ErOk K B' cls d e → W.w cls d σ H') → te σ H Q
def EvK (K : PySem.W.Frag) {m : Type → Type} [Mn m] (t : L2.St → Hp → XK → Prop) (sd : List SD) (x : m Er) : Prop := ∀ (F : Fr) (σ : L2.St) (B H : Hp) (k : Int), Rel K F σ B H sd k → ∀ (e : Er) (k' : Int), Mn.run x k = some (e, k') →
  ∀ Q : XK, (∀ cls d B' H', Rel K F σ B' H' sd k' → Gr B B' → ErOk K B' cls d e → Q cls d H') → t σ H Q
/-- an answer that is the asker's own, or an error -/
instance (priority := high + 10) rtXF {s : Sh} {ρ : Type} [Enc ρ] : Rt (Xr (Fw s ρ)) where
  ok K W F B Q r k := match r with
    | .ok r => ∀ v σ' B' H' sd', Rel K (F.push v s (enc r.r)) σ' B' H' sd' k → Gr B B' → Q v H'
    | .er e => ∀ cls d σ' B' H', Rel K F σ' B' H' W.sd k → Gr B B' → ErOk K B' cls d e → W.w cls d σ' H'
  gr {K W F B C Q r k} g h := by
    cases r with
    | ok r => exact fun v σ' B' H' sd' R g' => h v σ' B' H' sd' R (g.trans g')
    | er e => exact fun cls d σ' B' H' R g' => h cls d σ' B' H' R (g.trans g')
section
variable {K : PySem.W.Frag} {m : Type → Type} [Mn m] {α β γ τ τ' τ'' l ρ : Type} {sd : List SD} {ta te : TE} {W : Wr} {post : τ → List SD} {postL : l → List SD} {ts tu : TS}
@[irreducible] def xbnd (x : m (Xr α)) (f : α → m (Fl τ l (Xr ρ))) : m (Fl τ l (Xr ρ)) := Mn.bnd x fun r => match r with
  | .ok a => f a
  | .er e => Mn.pur (.rt (.er e))
theorem ex_call {tr : TA} [Enc γ] {n : Nat} {s : Sh} {pre : List D → D ⊕ Er → Prop} {y : m β} {g : β → List D} {f : β → Option (Xr γ)} (h : EvA K tr sd y g) (hn : ∀ b, (g b).length = n) (hp : ∀ b r, f b = some r → pre (g b) (xenc r)) :
    EvX K W s (tCallS (spX K n s pre) (WE W.w) tr) sd (Mn.bnd y fun b => lift (f b)) := fun F σ B H k R c k' e Q q qx => by
  obtain ⟨b, k1, e1, e⟩ := bnd_some e
  obtain ⟨hf, rfl⟩ := lift_some e
  refine h F σ B H k R b _ e1 _ fun vs B1 H1 R1 g1 r1 => ?_
  refine ⟨B1, g b, xenc c, hp b c hf, by rw [r1.len, hn], R1.bh, r1, fun d hd v B' H' f2 g2 g3 g4 hn w nd hf2 => ?_, fun er he cls dd B' H' g2 g3 g4 hn r => ?_⟩
  · cases c with
    | ok a => cases hd; exact q a rfl v B' H' (R1.push w nd hf2 g2 g3 g4 hn) (g1.trans g2)
    | er e => cases hd
  · cases c with
    | ok a => cases he
    | er e5 => cases he; exact qx _ rfl cls dd B' H' (R1.called g2 g3 g4 hn) (g1.trans g2) r
theorem es_setX [Enc α] [Enc ρ] {i : Nat} {x : m (Xr α)} {f : α → m (Fl τ l (Xr ρ))} (h : EvX K W .dat te sd x) (hl : Le sd W.sd) (hf : ∀ a, EvS K W tu (sd.set i (.dat (enc a))) post postL (f a)) : EvS K W (tSeq (tAsg te (gName i)) tu) sd post postL (xbnd x f) := fun F σ B H k R r k' e D q => by
  unfold xbnd at e
  obtain ⟨a, k1, e1, e2⟩ := bnd_some e
  cases a with
  | ok a => exact h F σ B H k R _ k1 e1 _ (fun b hb v B' H' R' g => by cases hb; obtain ⟨B2, R2, g2, rv⟩ := R'.frzX rfl; exact hf a F _ B2 H' k1 (R2.setDat rv) r k' e2 D (q.gr (g.trans g2))) fun e he => by cases he
  | er e3 =>
    obtain ⟨rfl, rfl⟩ := pur_some e2
    exact h F σ B H k R _ _ e1 _ (fun b hb => by cases hb) fun e4 he cls d B' H' R' g ro => by cases he; exact q cls d σ B' H' (R'.le hl) g ro
theorem es_set1X [Enc α] [Enc ρ] {i : Nat} {x : m (Xr α)} {f : α → τ} (h : EvX K W .dat te sd x) (hl : Le sd W.sd) (hf : ∀ a, Le (sd.set i (.dat (enc a))) (post (f a))) : EvS K W (tAsg te (gName i)) sd post postL (xbnd x fun a => (Mn.pur (.nx (f a)) : m (Fl τ l (Xr ρ)))) := fun F σ B H k R r k' e D q => by
  unfold xbnd at e
  obtain ⟨a, k1, e1, e2⟩ := bnd_some e
  cases a with
  | ok a =>
    obtain ⟨rfl, rfl⟩ := pur_some e2
    exact h F σ B H k R _ _ e1 _ (fun b hb v B' H' R' g => by cases hb; obtain ⟨B2, R2, g2, rv⟩ := R'.frzX rfl; exact q _ B2 H' ((R2.setDat rv).le (hf a)) (g.trans g2)) fun e he => by cases he
  | er e3 =>
    obtain ⟨rfl, rfl⟩ := pur_some e2
    exact h F σ B H k R _ _ e1 _ (fun b hb => by cases hb) fun e4 he cls d B' H' R' g ro => by cases he; exact q cls d σ B' H' (R'.le hl) g ro
theorem es_dropX [Enc α] [Enc ρ] {x : m (Xr α)} {f : α → m (Fl τ l (Xr ρ))} (h : EvX K W .dat te sd x) (hl : Le sd W.sd) (hf : ∀ a, EvS K W tu sd post postL (f a)) : EvS K W (tSeq (tDrop te) tu) sd post postL (xbnd x f) := fun F σ B H k R r k' e D q => by
  unfold xbnd at e
  obtain ⟨a, k1, e1, e2⟩ := bnd_some e
  cases a with
  | ok a => exact h F σ B H k R _ k1 e1 _ (fun b hb v B' H' R' g => by cases hb; exact hf a F _ B' H' k1 R'.pop r k' e2 D (q.gr g)) fun e he => by cases he
  | er e3 =>
    obtain ⟨rfl, rfl⟩ := pur_some e2
    exact h F σ B H k R _ _ e1 _ (fun b hb => by cases hb) fun e4 he cls d B' H' R' g ro => by cases he; exact q cls d σ B' H' (R'.le hl) g ro
/-- return e, e may raise -/
theorem es_retX [Enc ρ] {x : m (Xr ρ)} (h : EvX K W .dat te sd x) (hl : Le sd W.sd) : EvS K W (tRet te) sd post postL (Mn.bnd x fun r => (Mn.pur (.rt r) : m (Fl τ l (Xr ρ)))) := fun F σ B H k R f k' e D q => by
  obtain ⟨r, k1, e1, e2⟩ := bnd_some e
  obtain ⟨rfl, rfl⟩ := pur_some e2
  cases r with
  | ok a => exact h F σ B H k R _ _ e1 _ (fun b hb v B' H' R' g => by cases hb; obtain ⟨B2, R2, g2, rv⟩ := R'.frzX rfl; exact q v σ B2 H' sd R2 (g.trans g2) rv) fun e he => by cases he
  | er e3 => exact h F σ B H k R _ _ e1 _ (fun b hb => by cases hb) fun e4 he cls d B' H' R' g ro => by cases he; exact q cls d σ B' H' (R'.le hl) g ro
/-- return e in a def that may raise -/
theorem es_retO [Enc ρ] {x : m ρ} (h : EvM K te sd x) : EvS K W (tRet te) sd post postL (Mn.bnd x fun r => (Mn.pur (.rt (.ok r)) : m (Fl τ l (Xr ρ)))) := fun F σ B H k R f k' e D q => by
  obtain ⟨r, k1, e1, e2⟩ := bnd_some e
  obtain ⟨rfl, rfl⟩ := pur_some e2
  exact h F σ B H k R r _ e1 _ fun v B' H' R' g rr => q v σ B' H' sd R' g rr
theorem es_retOS [Enc ρ] {x : m ρ} (h : EvM K te sd x) : EvS K W (tSeq (tRet te) tu) sd post postL (Mn.bnd x fun r => (Mn.pur (.rt (.ok r)) : m (Fl τ l (Xr ρ)))) := fun F σ B H k R f k' e D q => by
  obtain ⟨r, k1, e1, e2⟩ := bnd_some e
  obtain ⟨rfl, rfl⟩ := pur_some e2
  exact h F σ B H k R r _ e1 _ fun v B' H' R' g rr => q v σ B' H' sd R' g rr
theorem es_setXF [Enc α] [Enc ρ] {s : Sh} {i : Nat} {x : m (Xr α)} {f : α → m (Fl τ l (Xr ρ))} (h : EvX K W s te sd x) (hl : Le sd W.sd) (hf : ∀ a, EvS K W tu (sd.set i (.own s (enc a))) post postL (f a)) : EvS K W (tSeq (tAsg te (gName i)) tu) sd post postL (xbnd x f) := fun F σ B H k R r k' e D q => by
  unfold xbnd at e
  obtain ⟨a, k1, e1, e2⟩ := bnd_some e
  cases a with
  | ok a => exact h F σ B H k R _ k1 e1 _ (fun b hb v B' H' R' g => by cases hb; exact hf a F _ B' H' k1 R'.toSlot r k' e2 D (q.gr g)) fun e he => by cases he
  | er e3 =>
    obtain ⟨rfl, rfl⟩ := pur_some e2
    exact h F σ B H k R _ _ e1 _ (fun b hb => by cases hb) fun e4 he cls d B' H' R' g ro => by cases he; exact q cls d σ B' H' (R'.le hl) g ro
/-- raise -/
def tRaise (t : L2.St → Hp → XK → Prop) (w : WX) : TS := fun _ σ H => t σ H fun cls d H' => w cls d σ H'
theorem es_raise [Enc ρ] {t : L2.St → Hp → XK → Prop} {x : m Er} (h : EvK K t sd x) (hl : Le sd W.sd) : EvS K W (tRaise t W.w) sd post postL (Mn.bnd x fun e => (Mn.pur (.rt (.er e)) : m (Fl τ l (Xr ρ)))) := fun F σ B H k R f k' e D q => by
  obtain ⟨r, k1, e1, e2⟩ := bnd_some e
  obtain ⟨rfl, rfl⟩ := pur_some e2
  exact h F σ B H k R r _ e1 _ fun cls d B' H' R' g ro => q cls d σ B' H' (R'.le hl) g ro
/-- an error made: C(v), its field n -/
def tMk (C : Addr) (n : Str) (ok : V → Prop) (ta : TA) : L2.St → Hp → XK → Prop := fun σ H Q => ta σ H fun vs H1 => ∃ v, vs = [v] ∧ ok v ∧ ∀ d, H1 d = none → Q (.ref C) (some d) (upd H1 d (.xd [(n, v)]))
theorem ek_mk [Enc α] {C : Addr} {c n : Str} {ok : V → Prop} {okd : α → Prop} [DecidablePred okd] {tr : TA} {x : m α} (hc : PySem.W.nsIn K mainGlobals c = some (some (.ref C))) (h : EvA K tr sd x (fun a => [enc a])) (ho : ∀ a B v, okd a → Rp K B v (enc a) → ok v) :
    EvK K (tMk C n ok tr) sd (Mn.bnd x fun a => gd (okd a) (Mn.pur (⟨c, some (n, enc a)⟩ : Er))) := fun F σ B H k R e k' he Q q => by
  obtain ⟨a, k1, e1, e2⟩ := bnd_some he
  obtain ⟨hg, e3⟩ := gd_some e2
  obtain ⟨rfl, rfl⟩ := pur_some e3
  refine h F σ B H k R a _ e1 _ fun vs B1 H1 R1 g1 r1 => ?_
  cases r1 with | cons r1 hs =>
    cases hs
    refine ⟨_, rfl, ho a _ _ hg r1, fun d hd => ?_⟩
    obtain ⟨R2, g2⟩ := R1.data (o := .xd [(n, _)]) hd
    exact q _ _ _ _ R2 (g1.trans g2) ⟨C, hc, rfl, d, _, rfl, upd_same, r1.gr g2⟩
/-- try: body; except .. as (slot i): (slot j) = (slot i) -/
@[irreducible] def tryK (names : List Str) (mg : τ' ⊕ Er → τ) (x : m (Fl τ' l (Xr ρ))) : m (Fl τ l ρ) := Mn.bnd x fun r => match r with
  | .nx t => Mn.pur (.nx (mg (.inl t)))
  | .bk t => Mn.pur (.bk t)
  | .ct t => Mn.pur (.ct t)
  | .rt (.ok r) => Mn.pur (.rt r)
  | .rt (.er e) => gd (e.c ∈ names) (Mn.pur (.nx (mg (.inr e))))
def tTryK (K : PySem.W.Frag) (c : Value) (i j : Nat) (tb : WX → TS) : TS := fun D σ H => tb (wKeep K c i (fun _ _ _ => tAsg (tVar i) (gName j)) D) D σ H
theorem es_try [Enc ρ] {c : Value} {i j : Nat} {names : List Str} {mg : τ' ⊕ Er → τ} {tb : WX → TS} {xb : m (Fl τ' l (Xr ρ))} {sdE : List SD} {mid : τ' → List SD} (hij : i ≠ j) (hi : i < sdE.length)
    (hb : ∀ w : WX, EvS K ⟨w, sdE⟩ (tb w) sd mid postL xb) (hn : ∀ n ∈ names, ∀ C, PySem.W.nsIn K mainGlobals n = some (some (.ref C)) → PySem.W.exmOne K (.ref C) c = some true)
    (h1 : ∀ t, Le (mid t) (post (mg (.inl t)))) (h2 : ∀ e : Er, Le ((sdE.set j (.dat (enc e))).set i .un) (post (mg (.inr e)))) :
    EvS K W (tTryK K c i j tb) sd post postL (tryK names mg xb : m (Fl τ l ρ)) := fun F σ B H k R f k' e D q => by
  unfold tryK at e
  obtain ⟨r, k1, e1, e2⟩ := bnd_some e
  refine hb _ F σ B H k R r k1 e1 D ?_
  cases r with
  | nx t => obtain ⟨rfl, rfl⟩ := pur_some e2; exact fun σ' B' H' R' g => q σ' B' H' (R'.le (h1 t)) g
  | bk t => obtain ⟨rfl, rfl⟩ := pur_some e2; exact q
  | ct t => obtain ⟨rfl, rfl⟩ := pur_some e2; exact q
  | rt z =>
    cases z with
    | ok z => obtain ⟨rfl, rfl⟩ := pur_some e2; exact q
    | er z =>
      obtain ⟨hm, e3⟩ := gd_some e2
      obtain ⟨rfl, rfl⟩ := pur_some e3
      intro cls d σ' B' H' R' g ro
      have R0 : Rel K F σ' B' H' sdE _ := R'
      obtain ⟨C, hC, hcls, _⟩ := id ro
      refine ⟨by rw [hcls]; exact hn _ hm C hC, fun a ha => ?_⟩
      have li : i < σ'.length := by rw [← R0.len]; exact hi
      refine ⟨.ref a, List.getElem?_set_self li, fun _ => ?_⟩
      obtain ⟨R1, g1⟩ := R0.data (o := XO cls d a) ha
      have rk := (ro.gr g1).kept upd_same
      have R2 := ((R1.setDat (i := i) rk).setDat (i := j) rk).setUn (i := i) (o' := none)
      refine q _ _ _ (R2.le ?_) (g.trans g1)
      rw [List.set_comm _ _ hij, List.set_set]
      exact h2 z
/-- the end of a def that may raise -/
theorem fin_X {N : List Str} {n : Nat} {pre : List D → D ⊕ Er → Prop} {vs : List V} {H : Hp} {Q : VK} {E : XK} {ts : TS} (h : spX K n .dat pre vs H Q E)
    (hb : ∀ ds r, pre ds r → ∃ (ρ : Type) (_ : Enc ρ) (x : Option (Fl Empty Empty (Xr ρ))) (z : Xr ρ), EvS K ⟨fun cls d _ H => E cls d H, List.replicate N.length .un⟩ ts (sd0 N.length ds) noEnd noEnd x ∧ x = some (.rt z) ∧ xenc z = r) : ts { nx := fun _ H' => Q .non H', rt := Q } (L2.start N vs) H := by
  obtain ⟨B, ds, r, hp, hn, g, rs, q, qx⟩ := h
  obtain ⟨ρ, i, x, z, hx, ex, rfl⟩ := hb ds r hp
  refine hx _ _ B H 0 (Rel.init g rs) (.rt z) 0 (by rw [ex]; rfl) _ ?_
  cases z with
  | ok z => exact fun v σ' B' H' sd' R' g' rv => q _ rfl v B' H' [] R'.b0 R'.bh (R'.fr0 rfl) (fun a o e e0 => R'.bn a o e e0) ⟨rfl, rv⟩ .nil fun _ m => nomatch m
  | er z => exact fun cls d σ' B' H' R' g' ro => qx _ rfl cls d B' H' R'.b0 R'.bh (R'.fr0 rfl) (fun a o e e0 => R'.bn a o e e0) ro
/-- .. that gives out what is the asker's own -/
theorem fin_XF {N : List Str} {n : Nat} {s : Sh} {pre : List D → D ⊕ Er → Prop} {vs : List V} {H : Hp} {Q : VK} {E : XK} {ts : TS} (h : spX K n s pre vs H Q E)
    (hb : ∀ ds r, pre ds r → ∃ (ρ : Type) (_ : Enc ρ) (x : Option (Fl Empty Empty (Xr (Fw s ρ)))) (z : Xr ρ), EvS K ⟨fun cls d _ H => E cls d H, List.replicate N.length .un⟩ ts (sd0 N.length ds) noEnd noEnd x ∧ x = some (.rt (match z with | .ok z => .ok ⟨z⟩ | .er e => .er e)) ∧ xenc z = r) : ts { nx := fun _ H' => Q .non H', rt := Q } (L2.start N vs) H := by
  obtain ⟨B, ds, r, hp, hn, g, rs, q, qx⟩ := h
  obtain ⟨ρ, i, x, z, hx, ex, rfl⟩ := hb ds r hp
  refine hx _ _ B H 0 (Rel.init g rs) _ 0 (by rw [ex]; rfl) _ ?_
  cases z with
  | ok z =>
    exact fun v σ' B' H' sd' R' g' => by
      obtain ⟨f, w, nd, hf, _⟩ := R'.top
      exact q _ rfl v B' H' f R'.b0 R'.bh (R'.fr0 rfl) (fun a o e e0 => R'.bn a o e e0) w nd fun a m => ⟨(hf a m).1, (hf a m).2.1⟩
  | er z => exact fun cls d σ' B' H' R' g' ro => qx _ rfl cls d B' H' R'.b0 R'.bh (R'.fr0 rfl) (fun a o e e0 => R'.bn a o e e0) ro
end
end ON

set_option Elab.async false
set_option linter.all false
set_option maxRecDepth 100000
set_option maxHeartbeats 2000000
/-! OX4: an own error whose __init__ says super().__init__(f'..{spot}'), then self.spot = spot -/
namespace ON
open PySem PySem.W PySem.Calls PyProof.Rows PySem.HandSPX
def siA (p1 p2 : Pos) : Arguments := { posonlyargs := [], args := [{ arg := "self", annotation := none, pos := p1 }, { arg := "spot", annotation := none, pos := p2 }], vararg := none, kwonlyargs := [], kw_defaults := [], kwarg := none, defaults := [] }
def siB (pre : Str) (q : Nat → Pos) : List Stmt := [
  .Expr (.Call (.Attribute (.Call (.Name "super" (q 0)) [] [] (q 1)) "__init__" (q 2)) [.JoinedStr [.Constant (.str pre) 0 (q 3), .FormattedValue (.Name "spot" (q 4)) (-1) none (q 5)] (q 6)] [] (q 7)) (q 8),
  .Assign [.Attribute (.Name "self" (q 9)) "spot" (q 10)] (.Name "spot" (q 11)) (q 12)]
def siS : Scope := { kind := .function, names := [(PySem.Str.ofString "self", .local), (PySem.Str.ofString "spot", .local), (PySem.Str.ofString "__class__", .free), (PySem.Str.ofString "super", .globalImplicit)], isGenerator := false, isCoroutine := false, more := [] }
/-- a heap without x -/
def era (h : Heap) (x : Addr) : Heap := { h with objs := h.objs.setIfInBounds x ⟨.none, none, .freed, #[]⟩ }
theorem era_ne {h : Heap} {x b : Addr} (n : b ≠ x) : (era h x).get? b = h.get? b := by
  unfold Heap.get? era
  rw [Array.getElem?_setIfInBounds_ne (Ne.symm n)]
theorem era_eq {h : Heap} {x : Addr} : (era h x).get? x = none := by
  unfold Heap.get? era
  by_cases c : x < h.objs.size
  · rw [Array.getElem?_setIfInBounds_self_of_lt c]
  · rw [Array.getElem?_eq_none (by rw [Array.size_setIfInBounds]; exact Nat.le_of_not_lt c)]
theorem era_sz {h : Heap} {x : Addr} : (era h x).objs.size = h.objs.size := by unfold era; exact Array.size_setIfInBounds
/-- whether a call's receiver is looked up plainly -/
def plOf (o : PySem.Expr) (env : Env) : Sem Bool := do
      let __do_lift ← importBound o env
      pure (__do_lift.getD true)
theorem mc_eq {o a : PySem.Expr} {name : Str} {apos pos : Pos} {env : Env} (h : (apos.endLine == pos.line) = true) (ha : starEach [a] env = [(false, eval a env)]) :
    eval ((o.Attribute name apos).Call [a] [] pos) env = (do
            let ov ← attributeBase o name env (eval o env)
            standAt apos.atName
            let __x ← holding [ov] (getMethod ov name (plOf o env))
            (match __x with
              | (f, first) => callWith pos f first (backTo pos (starEach [a] env)) [])) := by
  rw [arm_eval_Call]
  have hp : methodCallPos true o env apos pos = pure pos := by
    unfold methodCallPos
    rw [h]; rfl
  have hf : methodCallForm ([a].length + ([] : List Keyword).length) (backTo pos (starEach [a] env)) (backToKw pos (keywordEach [] env)) = true := by
    rw [ha]; rfl
  unfold methodCall
  rw [hf]
  simp only [hp]
  rfl
/-- what can stand in the braces -/
def Fmt (P : Program) (w : World) (h : Heap) (v : Value) : Prop := ∀ (A : Around) (E : Value → Shared → Prop) (s : Shared) (Q : Value → Shared → Prop), (∀ b o, h.get? b = some o → s.heap.get? b = some o) → (∀ y t tk, y.length ≤ 100000 → Q (.str y t) { s with toks := tk }) → wpAny (model P w) A (formatField v Str.empty) Q E s
structure SupTxt (P : Program) (K : Frag) (mg : Str → Option Value) (C fI cc cda : Addr) (qual pre : Str) : Prop where
  cls : ∃ nm q N bs bm sn sub ab col dd k0 k1 k2 k3 k5, K.lookup C = some (excClassObj nm q C N bs bm true sn sub ab col dd k0 k1 k2 k3 k5 "ValueError.__new__") ∧ refsVE bm = true ∧ alongIn K "__init__" bm = some (some (.builtin "ValueError.__init__"))
  iniC : excInitIn K C [.type "ValueError", .type "Exception", .type "BaseException", .type "object"] "ValueError.__new__" = true
  sa : findIn K (.ref C) "__setattr__" = some (some (.builtin "object.__setattr__"))
  noN : findIn K (.ref C) "spot" = some none
  iC : findIn K (.ref C) "__init__" = some (some (.ref fI))
  tC : typeIn K (.ref fI) = some (.type "function")
  own : subIn K (.ref C) (.ref C) = some true
  ve : subIn K (.ref C) (.type "ValueError") = some true
  st : nsIn K cStatics "thirdparty.any" = some none
  gS : mg "super" = none
  gP : (P.main.scope.names.lookup (PySem.Str.ofString "super")).isSome = false
  pl : pre.length ≤ 1000
  cel : ∃ cl cld csl, K.lookup cc = some ⟨cl, cld, .cell (some (.ref C)), csl⟩
  fn : ∃ (oc : Value) (od : Option Addr) (doc pm : Value) (an : Option Addr) (ct : Value) (osl : Array (Option Value)) (p1 p2 : Pos) (q : Nat → Pos), ((q 2).endLine == (q 7).line) = true ∧
    K.lookup fI = some ⟨oc, od, .func (ksFn "__init__" qual (siA p1 p2) (siB pre q) siS .none .none doc pm an (.ref cda) ct cc), osl⟩ ∧ codeIn K (.ref cda) qual = true
  cda : ∃ ccl cdd ccs vs file tf, K.lookup cda = some ⟨ccl, cdd, .fields vs, ccs⟩ ∧ vs[2]? = some (.str file tf) ∧ (P.main.file == file) = true
section
variable {P : Program} {w : World} {A : Around} {E : Value → Shared → Prop} {R : Result → Shared → Prop} {s : Shared} {K : Frag} {mg mb : Str → Option Value} {C fI cc cda : Addr} {qual pre : Str}
theorem wpAt_of {α : Type} {M : Model} {c : Code} {t : Sem α} {Q : α → Shared → Prop} (h : wpAny M A t Q E s) : PySem.wpAt M A c t Q E s := fun Γ p _ hi => h Γ p hi
theorem sup_init (T : SupTxt P K mg C fI cc cda qual pre) {x t0 : Addr} {v : Value} (X : K.In s.heap) (hlim : s.heap.NoLimit) (hG : s.heap.Ns mainGlobals mg) (hB : s.heap.Ns builtinsNs mb) (hS : mb "super" = some (.type "super"))
    (hx : s.heap.get? x = some (excO C t0)) (hnx : K.lookup x = none) (hroom : A.depth < recursionLimit) (hv : Fmt P w (era s.heap x) v)
    (hq : ∀ h' tk dx t1, (∀ b o, b ≠ x → s.heap.get? b = some o → h'.get? b = some o) → h'.get? x = some { cls := .ref C, dict := some dx, data := .fields #[.ref t1, .none, .none, .none, .bool false, .none] } → s.heap.objs.size ≤ dx → dx ≠ x → (h'.Ns1 dx fun y => if y = "spot" then some v else none) → R (.ok (.ret .none)) { s with heap := h', toks := tk }) :
    codeAny (model P w) A (.call (.ref fI) ⟨[.ref x, v], []⟩) R s := by
  obtain ⟨oc, od, doc, pm, an, ct, osl, p1, p2, q, hpos, ho, hcd⟩ := T.fn
  obtain ⟨nm, qn, N, bs, bm, sn, sub, ab, col, dd, k0, k1, k2, k3, k5, hC, hbm, hal⟩ := T.cls
  obtain ⟨cl, cld, csl, hcell⟩ := T.cel
  obtain ⟨ccl, cdd, ccs, vs, file, tf, hcda, hvs, hfile⟩ := T.cda
  refine ks_codeAny_call_defAt (binds := [("self", .ref x), ("spot", v)]) hroom (X _ _ ho) rfl hlim ?code rfl (BindsTo.of_eq (by first | rfl | with_unfolding_all rfl)) ?nc ?nl (fun h₁ hn k => ?_) rfl rfl rfl
  case code => exact codeRec_of X hcd
  case nc => exact (by decide : ∀ y ∈ siS.names, y.2 ≠ .cell)
  case nl =>
    intro y hy
    rcases List.mem_cons.mp hy with rfl | hy
    · rfl
    · rcases List.mem_cons.mp hy with rfl | hy
      · rfl
      · cases hy
  have X₁ : K.In h₁ := X.keeps k
  have ne : ∀ {a : Addr} {o : Obj}, K.lookup a = some o → a ≠ x := fun e z => by rw [z, hnx] at e; cases e
  let env : Env := ksEnv "__init__" siS s.heap.objs.size fI (.ref cda) cc
  refine ks_wpAt_execs_cons ?_
  refine ks_wpAt_Expr_any ?_
  refine ks_wpAt_MethodCall ?_ (mc_eq hpos rfl)
  refine ks_wpAt_super_base rfl rfl rfl rfl (X₁ _ _ ho) rfl rfl rfl (X₁ _ _ hcda) rfl hvs hfile T.gP ?_
  refine ks_loadName_global rfl rfl (loadGlobal_builtin (hG.keeps k) T.gS (hB.keeps k) hS ⟨rfl, ?_⟩)
  refine wpAny_loadName_free rfl rfl rfl ⟨_, X₁ _ _ hcell, rfl⟩ ?_
  refine wpAny_loadName_local rfl rfl hn rfl ?_
  refine ks_wpAny_isType_cls (X₁ _ _ hC) rfl ⟨rfl, ?_⟩
  refine ks_wpAny_call_super (X₁ _ _ hC) rfl (k _ _ hx) rfl (fun c z => by cases z) (looks_subIn X₁ T.own) fun h₂ hso k₂ => ?_
  have hL : x < s.heap.objs.size := Heap.lt_size hx
  have z₁ : s.heap.objs.size < h₁.objs.size := hn.lt
  have K₀ : K.In (era s.heap x) := fun a o e => by rw [era_ne (ne e)]; exact X _ _ e
  have old : ∀ {h' : Heap}, (∀ b o, h₁.get? b = some o → h'.get? b = some o) → ∀ b o, (era s.heap x).get? b = some o → h'.get? b = some o := fun kk b o e => by
    by_cases c : b = x
    · subst c; rw [era_eq] at e; cases e
    · rw [era_ne c] at e; exact kk _ _ (k _ _ e)
  have F₂ : PyProof.Rows.Fr (era s.heap x) s.heap.objs.size h₂ _ := ⟨hn.keeps k₂, old k₂, Nat.le_of_eq era_sz⟩
  have gone : ∀ b, s.heap.objs.size ≤ b → (era s.heap x).get? b = none := fun b hb => by
    cases e : (era s.heap x).get? b with
    | none => rfl
    | some o => exact absurd (Heap.lt_size e) (by rw [era_sz]; exact Nat.not_lt_of_le hb)
  have N₂ : News (era s.heap x) s.heap.objs.size h₂ [(h₁.objs.size, ks_superObj C x C), (x, excO C t0)] := fun p hp => by
    rcases List.mem_cons.mp hp with rfl | hp
    · exact ⟨hso, Nat.ne_of_gt z₁, gone _ (Nat.le_of_lt z₁)⟩
    · rcases List.mem_cons.mp hp with rfl | hp
      · exact ⟨k₂ _ _ (k _ _ hx), Nat.ne_of_lt hL, era_eq⟩
      · cases hp
  have hcl : clsIn K C = some { name := nm, bases := bs, mro := .ref C :: bm, ns := N, qualname := qn, hasDict := true, slotNames := sn, subclasses := sub, abstract := ab, collection := col, hasDel := false } := by unfold clsIn; rw [hC] <;> rfl
  refine kxs_method kxs_ValueError F₂ K₀ N₂ List.mem_cons_self (ox := excO C t0) (odx := none) ⟨k₂ _ _ (k _ _ hx), rfl, rfl, trivial⟩ T.st ?si T.ve rfl fun u h₃ F₃ N₃ lt₃ => ?_
  case si =>
    unfold ks_superIn
    rw [hcl]
    show alongIn K _ (List.drop 1 (List.dropWhile (fun x => x != Value.ref C) (Value.ref C :: bm))) = _
    rw [show List.drop 1 (List.dropWhile (fun x => x != Value.ref C) (Value.ref C :: bm)) = bm from by simp [List.dropWhile]]; exact hal
  refine kxs_callWith1 N₃ List.mem_cons_self (spliced_more ?_)
  have fits : ∀ y : Str, y.length ≤ 100000 → (Str.empty ++ pre ++ y).length ≤ sizeLine := fun y hy => by
    rw [Str.empty_append, Str.length_append]
    exact Nat.le_trans (Nat.add_le_add T.pl hy) (by decide)
  refine wpAny_JoinedStr ?_
  refine wpAny_Constant_str ?_
  refine ⟨_, _, rfl, ?len, ?_⟩
  case len => exact Nat.le_trans (Nat.le_of_eq (by rw [Str.empty_append])) (Nat.le_trans T.pl (by decide))
  refine wpAny_FormattedValue_plain (wpAny_Name (wpAny_loadName_local rfl rfl F₃.ns rfl ?_) rfl)
  refine hv _ _ _ _ F₃.keep fun y ty tk hy => ⟨_, _, rfl, ?len2, ?len3, ?_⟩
  case len2 => exact fits y hy
  case len3 => exact fits y hy
  refine spliced_none ⟨N₃ _ List.mem_cons_self |>.1, ?_⟩
  refine kxs_call (t := t0) (dv := none) (c2 := .none) F₃ K₀ N₃ F.excBase_ValueError T.iniC List.mem_cons_self (.tail ?n1 (.tail ?n2 (.head ?n3))) (by exact (by decide : 1 ≤ sizeLine)) fun t' h₄ F₄ N₄ lt₄ => ?_
  case n3 => exact fun p hp => nomatch hp
  case n1 => exact Nat.ne_of_gt (lt₃ (x, excO C t0) (List.mem_cons_of_mem _ List.mem_cons_self))
  case n2 => exact fun z => absurd hL (by rw [← z]; exact Nat.not_lt_of_le (Nat.le_of_lt z₁))
  have X₄ : K.In h₄ := K₀.keeps F₄.keep
  have hx₄ : h₄.get? x = some (excO C t') := (N₄ (x, excO C t') (by simp)).1
  refine wpAt_of ?_
  refine wpAny_execs_cons (plainObj_wpAny_Assign_Attribute ?_)
  refine wpAny_Name (wpAny_loadName_local rfl rfl F₄.ns rfl ?_) rfl
  refine wpAny_Name (wpAny_loadName_local rfl rfl F₄.ns rfl ?_) rfl
  refine set_plain X₄ (ox := excO C t') (od := none) ⟨hx₄, rfl, rfl, trivial⟩ T.sa ?_
  refine exc_osa X₄ hx₄ hcl (show refsVE (.ref C :: bm) = true from hbm) rfl T.noN (fun h₅ tk₅ dx k₅ dn dne hx₅ hn₅ => ?_)
  refine wpAny_execs_nil (hq h₅ _ dx t' (fun b o hb e => k₅ b o hb (F₄.keep b o (by rw [era_ne hb]; exact e))) hx₅ (Nat.le_trans (Nat.le_of_lt F₄.ns.lt) dn) dne hn₅)
theorem sup_made (T : SupTxt P K mg C fI cc cda qual pre) {v : Value} (X : K.In s.heap) (hlim : s.heap.NoLimit) (hG : s.heap.Ns mainGlobals mg) (hB : s.heap.Ns builtinsNs mb) (hS : mb "super" = some (.type "super"))
    (hroom : A.depth + 1 < recursionLimit) (hv : Fmt P w s.heap v)
    (hq : ∀ h' tk e dx t1, (∀ b o, s.heap.get? b = some o → h'.get? b = some o) → s.heap.objs.size ≤ e → h'.get? e = some { cls := .ref C, dict := some dx, data := .fields #[.ref t1, .none, .none, .none, .bool false, .none] } → s.heap.objs.size ≤ dx → dx ≠ e → (h'.Ns1 dx fun y => if y = "spot" then some v else none) → R (.ok (.ret (.ref e))) { s with heap := h', toks := tk }) :
    codeAny (model P w) A (.call (.ref C) ⟨[v], []⟩) R s := by
  obtain ⟨nm, qn, N, bs, bm, sn, sub, ab, col, dd, k0, k1, k2, k3, k5, hC, hbm, hal⟩ := T.cls
  obtain ⟨hp, g, dr, tk, os⟩ := s
  have k : ∀ b o, hp.get? b = some o → ((hp.push (kdv_tup [v])).push (excO C hp.objs.size)).get? b = some o := fun b o e => Heap.get?_push_of_some _ (Heap.get?_push_of_some _ e)
  have hget : ((hp.push (kdv_tup [v])).push (excO C hp.objs.size)).get? (hp.objs.size + 1) = some (excO C hp.objs.size) := by heap_get
  have hnx : K.lookup (hp.objs.size + 1) = none := by
    cases e : K.lookup (hp.objs.size + 1) with
    | none => rfl
    | some o => exact absurd (Nat.lt_of_succ_lt (Heap.lt_size (X _ _ e))) (Nat.lt_irrefl _)
  refine call_own F.excBase_ValueError (fun X => refsVE_contains X bm hbm) (X _ _ hC) (looks_findIn X T.iC) (fun self => bind_fn X self T.tC) (by exact (by decide : 1 ≤ sizeLine)) ?_
  have hv' : Fmt P w (era ((hp.push (kdv_tup [v])).push (excO C hp.objs.size)) (hp.objs.size + 1)) v := fun A E s Q kk qq => hv A E s Q (fun b o e => kk b o (by rw [era_ne (Nat.ne_of_lt (Nat.lt_succ_of_lt (Heap.lt_size e)))]; exact k b o e)) qq
  refine sup_init (s := ⟨(hp.push (kdv_tup [v])).push (excO C hp.objs.size), g, dr, tk, os⟩) T (X.keeps k) (hlim.keeps k) (hG.keeps k) (hB.keeps k) hS hget hnx hroom hv' fun h' tk' dx t1 k' hx dn dne hns => ?_
  have e2 : hp.objs.size + 1 + 1 ≤ dx := by rw [Heap.size_push, Heap.size_push] at dn; exact dn
  exact ⟨rfl, hq h' tk' (hp.objs.size + 1) dx t1 (fun b o e => k' b o (Nat.ne_of_lt (Nat.lt_succ_of_lt (Heap.lt_size e))) (k b o e)) (Nat.le_succ _) hx (Nat.le_trans (Nat.le_trans (Nat.le_succ _) (Nat.le_succ _)) e2) dne hns⟩
end
open L2
section
variable {X : L2.Cx} {C fI cc cda : Addr} {qual pre x : Str}
theorem pmk_sup {okv : V → Prop} {a : PySem.Expr} {ta : TA} {p pos : Pos} {k : Nat} (T : SupTxt X.prog X.K X.mg C fI cc cda qual pre) (hr : Room (k + 1) X.A) (gC : X.mg x = some (.ref C)) (kC : keepIn X.K (.ref C) = true) (rC : Raises X (.ref C))
    (hf : ∀ (H : Hp) (h : Heap) v u, HOk X.prog X.w H h → okv v → RelV v u → Fmt X.prog X.w h u) (ha : PA X [a] ta) (hg : Gl X x := by rfl) (hd : (x == ("__debug__" : Str)) = false := by decide)
    (he : starEach (a :: []) X.env = (false, eval a X.env) :: starEach [] X.env := by rfl) (hpl : (backTo pos (starEach [] X.env)).any (·.1) = false := by rfl) :
    PMk X (.Call (.Name x p) [a] [] pos) (tMk C "spot" okv ta) := by
  intro pins s σ H Q I h
  refine wpAny_Call_Name_kw (ld_glob I hg gC ?_ hd)
  refine PySem.W.callWith_K (h₀ := X.base) I.ok.mod.kin kC (thn (ha.run pos pins s σ H _ I h) fun us s1 hh => ?_) he hpl
  obtain ⟨vs, H1, I1, r1, v, ev, hok, q1⟩ := hh
  subst ev
  refine ⟨I1.kIn, ?_⟩
  cases r1 with
  | cons rv rn =>
    rename_i v' us'
    cases rn
    show wpAny _ _ (call (.ref C) [v']) _ _ _
    have hlim := I1.nolimit
    obtain ⟨mb, hB, hbl⟩ := I1.ok.mod.blt
    have base : ∀ b o, X.base.get? b = some o → s1.heap.get? b = some o := fun b o e => (I1.bs b o e).1
    have hG := I1.ok.mod.glob.keeps base
    have hB' := hB.keeps base
    have hS : mb "super" = some (.type "super") := by rw [hbl _ (by decide)]; rfl
    have hF := hf H1 s1.heap v v' I1.hok hok rv
    obtain ⟨hp, g, dr, tk, os⟩ := s1
    refine wpAny_call (sup_made T I1.kIn hlim hG hB' hS (by have := hr.dp; omega) hF fun h' tk' e d t1 keep newe hoe newd dne hns => ?_)
    show MkP X pins σ Q (.ref e) ⟨h', g, dr, tk', os⟩
    have ge : (era h' e).get? e = none := era_eq
    have old : ∀ b o, hp.get? b = some o → (era h' e).get? b = some o := fun b o q => (era_ne (Nat.ne_of_lt (Nat.lt_of_lt_of_le (Heap.lt_size q) newe))).trans (keep b o q)
    have ob : ObjOk X.prog X.w (upd H1 d (.xd [(("spot" : Str), v)])) (era h' e) d (.xd [(("spot" : Str), v)]) :=
      ⟨_, hns.at (fun o q => (era_ne dne).trans q), fun f => by
        by_cases hw : f = "spot"
        · subst hw
          rw [if_pos rfl, show List.lookup ("spot" : Str) [(("spot" : Str), v)] = some v from by simp [List.lookup]]
          exact rv
        · have qw : (f == ("spot" : Str)) = false := by simpa using hw
          have q2 : List.lookup f [(("spot" : Str), v)] = none := by simp [List.lookup, qw]
          rw [if_neg hw, q2]
          trivial⟩
    have J : L2.Inv X pins σ (upd H1 d (.xd [(("spot" : Str), v)])) ⟨era h' e, g, dr, tk', os⟩ := I1.laid (t' := tk') old newd ob
    refine ⟨e, _, _, ⟨era h' e, g, dr, tk', os⟩, _, .ref C, some d, rfl, J, fun b o q => ?_, ge, hoe, ⟨rfl, rfl⟩, rfl, rfl, ?_, rfl, I1.bare, rC, q1 d (I1.hok.fresh newd)⟩
    · by_cases hb : b = e
      · have q' : (era h' e).get? b = some o := q
        rw [hb, ge] at q'; cases q'
      · exact (era_ne hb).symm.trans q
    · rw [upd_ne (Ne.symm dne)]
      exact I1.hok.fresh newe
end
end ON

set_option Elab.async false
set_option linter.all false
set_option maxRecDepth 100000
set_option maxHeartbeats 2000000
/-! OX5: kept errors in expressions -/
namespace ON
open PySem L2
section
variable {K : PySem.W.Frag} {m : Type → Type} [Mn m] {α β γ τ l ρ : Type} {sd : List SD} {ta te : TE}
theorem Rp.er_inv {B : Hp} {v : V} {e : Er} (h : Rp K B v (enc e)) : ∃ (a C : Addr) (d : Option Addr), v = .ref a ∧ PySem.W.nsIn K mainGlobals e.c = some (some (.ref C)) ∧ B a = some (XO (.ref C) d a) ∧ match e.f with
    | none => d = none
    | some p => ∃ (dd : Addr) (w : V), d = some dd ∧ B dd = some (.xd [(p.1, w)]) ∧ Rp K B w p.2 := by
  obtain ⟨c, f⟩ := e
  cases f with
  | none =>
    have h : Rp K B v (.err c [] []) := h
    cases h with | err hc ha => exact ⟨_, _, none, rfl, hc, ha, rfl⟩
  | some p =>
    obtain ⟨n, pd⟩ := p
    have h : Rp K B v (.err c [n] [pd]) := h
    cases h with | erf hc ha h2 hv => exact ⟨_, _, some _, rfl, hc, ha, _, _, rfl, h2, hv⟩
/-- e.n -/
def fldOf (n : Str) (e : Er) : Option D := match e.f with
  | some p => if p.1 = n then some p.2 else none
  | none => none
theorem em_fld [Enc α] {n : Str} {x : m Er} {dec : Er → Option α} (h : EvM K te sd x) (hd : ∀ e a, dec e = some a → e.f = some (n, enc a) ∧ ∀ C, PySem.W.nsIn K mainGlobals e.c = some (some (.ref C)) → XfC K C ∧ PySem.W.findIn K (.ref C) n = some none) :
    EvM K (tXk K n te) sd (Mn.bnd x fun e => lift (dec e)) := fun F σ B H k R b k' e Q q => by
  obtain ⟨a, k1, e1, e2⟩ := bnd_some e
  obtain ⟨e3, rfl⟩ := lift_some e2
  obtain ⟨hf, hC⟩ := hd a b e3
  refine h F σ B H k R a _ e1 _ fun v B1 H1 R1 g1 r1 => ?_
  obtain ⟨p, C, d, rfl, hc, ho, hm⟩ := r1.er_inv
  rw [hf] at hm
  obtain ⟨dd, w, rfl, h2, hw⟩ := hm
  obtain ⟨T, hno⟩ := hC C hc
  exact ⟨p, C, dd, _, w, rfl, R1.bh _ _ ho, R1.bh _ _ h2, by simp [List.lookup], T, hno, q w B1 H1 R1 g1 hw⟩
/-- isinstance(e, D), D a class of the program's or a built-in one -/
theorem em_isE {x : m Er} {c : V} {cv : Value} {f : Er → Option Bool} (h : EvM K te sd x) (hcv : ∀ u, RelV c u → u = cv) (hf : ∀ e b, f e = some b → ∀ C, PySem.W.nsIn K mainGlobals e.c = some (some (.ref C)) → EC K C ∧ PySem.W.kitOne K (.ref C) cv = some b) :
    EvM K (tCB (rIsK K) (tCons te (tCons (tC c) tNil))) sd (Mn.bnd x fun e => lift (f e)) := fun F σ B H k R b k' e Q q => by
  obtain ⟨a, k1, e1, e2⟩ := bnd_some e
  obtain ⟨e3, rfl⟩ := lift_some e2
  refine h F σ B H k R a _ e1 _ fun v B1 H1 R1 g1 r1 => ?_
  obtain ⟨p, C, d, rfl, hc, ho, hm⟩ := r1.er_inv
  obtain ⟨T, hk⟩ := hf a b e3 C hc
  refine ⟨p, C, d, c, cv, b, rfl, R1.bh _ _ ho, fun dd hdd => ?_, T, hcv, hk, q _ B1 H1 R1 g1 (.bl _)⟩
  cases hfe : a.f with
  | none => rw [hfe] at hm; obtain rfl : d = none := hm; cases hdd
  | some p2 =>
    rw [hfe] at hm
    obtain ⟨dd', w, rfl, h2, _⟩ := hm
    cases hdd
    exact ⟨_, R1.bh _ _ h2⟩
end
end ON

set_option Elab.async false
set_option linter.all false
set_option maxRecDepth 100000
set_option maxHeartbeats 2000000
/-! OX6: in, not in, chains of two comparisons, is None -/
namespace ON
open PySem L2
section
variable {K : PySem.W.Frag} {m : Type → Type} [Mn m] {α β γ τ l ρ : Type} {sd : List SD} {ta tb tc te : TE}
/-- a text in a text -/
def inStr (a b : Str) : Bool := !(Builtin.Str.occurrences b a 0 b.length 1).isEmpty
def rInStr : R2 := fun x y H Q => ∃ i j, x = .str i ∧ y = .str j ∧ Q (.bl (!(Builtin.Str.occurrences j i 0 j.length 1).isEmpty)) H
def rNinStr : R2 := fun x y H Q => ∃ i j, x = .str i ∧ y = .str j ∧ Q (.bl (!(!(Builtin.Str.occurrences j i 0 j.length 1).isEmpty))) H
theorem or_inStr {X : Cx} : OpR X (compareOp .In) rInStr := op_in_str
theorem or_ninStr {X : Cx} : OpR X (compareOp .NotIn) rNinStr := op_notin_str
theorem om_inS {a b : Str} : OpM K rInStr a b (Mn.pur (inStr a b) : m Bool) := fun F σ B H sd k R va vb ra rb c k' e Q q => by
  obtain ⟨rfl, rfl⟩ := pur_some e
  exact ⟨a, b, ra.str_inv, rb.str_inv, q _ B H R (Gr.refl B) (.bl _)⟩
theorem om_ninS {a b : Str} : OpM K rNinStr a b (Mn.pur (!inStr a b) : m Bool) := fun F σ B H sd k R va vb ra rb c k' e Q q => by
  obtain ⟨rfl, rfl⟩ := pur_some e
  exact ⟨a, b, ra.str_inv, rb.str_inv, q _ B H R (Gr.refl B) (.bl _)⟩
/-- a text in a tuple or a list of texts -/
theorem flat_strs (b : List Str) : (b.map V.str).all flatV = true := by
  rw [List.all_map]; exact List.all_eq_true.mpr fun x _ => rfl
theorem inV_strs (a : Str) (b : List Str) : inV (.str a) (b.map V.str) = decide (a ∈ b) := by
  unfold inV
  induction b with
  | nil => rfl
  | cons x b ih =>
    rw [List.map_cons, List.any_cons, ih]
    by_cases c : a = x
    · subst c
      have z : eqV (.str a) (.str a) = true := by show (a == a) = true; simp
      rw [z]; simp
    · have z : eqV (.str x) (.str a) = false := by show (x == a) = false; simpa using fun w => c w.symm
      rw [z]; simp [c]
theorem om_inT {a : Str} {b : Tl Str} : OpM K (rIn K false) a b (Mn.pur (decide (a ∈ b.l)) : m Bool) := fun F σ B H sd k R va vb ra rb c k' e Q q => by
  obtain ⟨rfl, rfl⟩ := pur_some e
  obtain ⟨p, xs, rfl, hs, rs⟩ := rb.tup_inv
  have ex : xs = b.l.map V.str := Rps.strs (show Rps K B xs (b.l.map D.str) from rs)
  subst ex
  refine ⟨p, _, rfl, .inr (R.bh.sqT hs), by rw [ra.str_inv]; rfl, flat_strs _, ?_⟩
  rw [ra.str_inv, if_neg Bool.false_ne_true, inV_strs]
  exact q _ B H R (Gr.refl B) (.bl _)
theorem om_ninT {a : Str} {b : Tl Str} : OpM K (rIn K true) a b (Mn.pur (!decide (a ∈ b.l)) : m Bool) := fun F σ B H sd k R va vb ra rb c k' e Q q => by
  obtain ⟨rfl, rfl⟩ := pur_some e
  obtain ⟨p, xs, rfl, hs, rs⟩ := rb.tup_inv
  have ex : xs = b.l.map V.str := Rps.strs (show Rps K B xs (b.l.map D.str) from rs)
  subst ex
  refine ⟨p, _, rfl, .inr (R.bh.sqT hs), by rw [ra.str_inv]; rfl, flat_strs _, ?_⟩
  rw [ra.str_inv, if_pos rfl, inV_strs]
  exact q _ B H R (Gr.refl B) (.bl _)
theorem om_inL {a : Str} {b : List Str} : OpM K (rIn K false) a b (Mn.pur (decide (a ∈ b)) : m Bool) := fun F σ B H sd k R va vb ra rb c k' e Q q => by
  obtain ⟨rfl, rfl⟩ := pur_some e
  obtain ⟨p, xs, rfl, hs, rs⟩ := rb.lst_inv
  have ex : xs = b.map V.str := Rps.strs rs
  subst ex
  refine ⟨p, _, rfl, .inl (.of (R.bh _ _ hs)), by rw [ra.str_inv]; rfl, flat_strs _, ?_⟩
  rw [ra.str_inv, if_neg Bool.false_ne_true, inV_strs]
  exact q _ B H R (Gr.refl B) (.bl _)
theorem om_ninL {a : Str} {b : List Str} : OpM K (rIn K true) a b (Mn.pur (!decide (a ∈ b)) : m Bool) := fun F σ B H sd k R va vb ra rb c k' e Q q => by
  obtain ⟨rfl, rfl⟩ := pur_some e
  obtain ⟨p, xs, rfl, hs, rs⟩ := rb.lst_inv
  have ex : xs = b.map V.str := Rps.strs rs
  subst ex
  refine ⟨p, _, rfl, .inl (.of (R.bh _ _ hs)), by rw [ra.str_inv]; rfl, flat_strs _, ?_⟩
  rw [ra.str_inv, if_pos rfl, inV_strs]
  exact q _ B H R (Gr.refl B) (.bl _)
/-- a op b op' c -/
theorem em_chain [Enc α] [Enc β] [Enc γ] {r r' : R2} {x : m α} {y : m β} {z : m γ} {f : α → β → m Bool} {g : β → γ → m Bool} (ha : EvM K ta sd x) (hb : EvM K tb sd y) (hc : EvM K tc sd z) (hf : ∀ a b, OpM K r a b (f a b)) (hg : ∀ b c, OpM K r' b c (g b c)) :
    EvM K (tChain r r' ta tb tc) sd (Mn.bnd x fun a => Mn.bnd y fun b => Mn.bnd (f a b) fun p => cnd p (Mn.bnd z fun c => g b c) (Mn.pur false)) := fun F σ B H k R w k' e Q q => by
  obtain ⟨a, k1, e1, e⟩ := bnd_some e
  obtain ⟨b, k2, e2, e⟩ := bnd_some e
  obtain ⟨p, k3, e3, e⟩ := bnd_some e
  refine ha F σ B H k R a k1 e1 _ fun va B1 H1 R1 g1 r1 => ?_
  refine hb F σ B1 H1 k1 R1 b k2 e2 _ fun vb B2 H2 R2 g2 r2 => ?_
  refine hf a b F σ B2 H2 sd k2 R2 va vb (r1.gr g2) r2 p k3 e3 _ fun vp B3 H3 R3 g3 r3 => ?_
  refine ⟨p, r3.bl_inv, ?_⟩
  cases p with
  | true =>
    obtain ⟨c, k4, e4, e5⟩ := bnd_some e
    rw [if_pos rfl]
    refine hc F σ B3 H3 k3 R3 c k4 e4 _ fun vc B4 H4 R4 g4 r4 => ?_
    exact hg b c F σ B4 H4 sd k4 R4 vb vc ((r2.gr g3).gr g4) r4 w k' e5 _ fun v B5 H5 R5 g5 r5 => q v B5 H5 R5 ((((g1.trans g2).trans g3).trans g4).trans g5) r5
  | false =>
    obtain ⟨rfl, rfl⟩ := pur_some e
    rw [if_neg Bool.false_ne_true]
    exact q _ B3 H3 R3 ((g1.trans g2).trans g3) (.bl false)
/-- x is None -/
def rIsN : R2 := fun x y H Q => y = .non ∧ Q (.bl (decide (x = .non))) H
def rNotN : R2 := fun x y H Q => y = .non ∧ Q (.bl (!decide (x = .non))) H
theorem or_isN {X : Cx} : OpR X (compareOp .Is) rIsN := op_isN
theorem or_notN {X : Cx} : OpR X (compareOp .IsNot) rNotN := op_notN
theorem Rp.ne_non {B : Hp} {v : V} {d : D} (h : Rp K B v d) (hd : d ≠ .non) : v ≠ .non := fun z => by
  cases h with
  | non => exact hd rfl
  | _ => cases z
theorem Rp.isN [Enc α] (hn : ∀ a : α, enc a ≠ .non) {B : Hp} {v : V} {o : Option α} (h : Rp K B v (enc o)) : decide (v = .non) = o.isNone := by
  cases o with
  | none => rw [Rp.non_inv h]; rfl
  | some a => exact decide_eq_false (Rp.ne_non h (hn a))
theorem em_isN [Enc α] {x : m (Option α)} (h : EvM K te sd x) (hn : ∀ a : α, enc a ≠ .non := by intro a w; cases w) : EvM K (tOp rIsN te (tC .non)) sd (Mn.bnd x fun o => Mn.pur o.isNone) := fun F σ B H k R b k' e Q q => by
  obtain ⟨a, k1, e1, e2⟩ := bnd_some e
  obtain ⟨rfl, rfl⟩ := pur_some e2
  refine h F σ B H k R a _ e1 _ fun v B1 H1 R1 g1 r1 => ⟨rfl, ?_⟩
  rw [r1.isN hn]
  exact q _ B1 H1 R1 g1 (.bl _)
theorem em_notN [Enc α] {x : m (Option α)} (h : EvM K te sd x) (hn : ∀ a : α, enc a ≠ .non := by intro a w; cases w) : EvM K (tOp rNotN te (tC .non)) sd (Mn.bnd x fun o => Mn.pur o.isSome) := fun F σ B H k R b k' e Q q => by
  obtain ⟨a, k1, e1, e2⟩ := bnd_some e
  obtain ⟨rfl, rfl⟩ := pur_some e2
  refine h F σ B H k R a _ e1 _ fun v B1 H1 R1 g1 r1 => ⟨rfl, ?_⟩
  rw [r1.isN hn, show (!a.isNone) = a.isSome from by cases a <;> rfl]
  exact q _ B1 H1 R1 g1 (.bl _)
end
end ON

set_option Elab.async false
set_option linter.all false
set_option maxRecDepth 100000
set_option maxHeartbeats 2000000
/-! OX7: list * int, int(bool), int(text) -/
namespace ON
open PySem L2
section
variable {K : PySem.W.Frag} {m : Type → Type} [Mn m] {α β γ τ l ρ : Type} {sd : List SD} {ta tb tc te : TE}
def repL (xs : List α) (k : Int) : List α := (List.replicate k.toNat xs).flatten
theorem Rps.rep {B : Hp} {vs : List V} {ds : List D} (h : Rps K B vs ds) : ∀ n : Nat, Rps K B (List.replicate n vs).flatten (List.replicate n ds).flatten
  | 0 => .nil
  | n + 1 => by
    rw [List.replicate_succ, List.replicate_succ, List.flatten_cons, List.flatten_cons]
    exact h.app (Rps.rep h n)
theorem map_rep [Enc α] (xs : List α) : ∀ n : Nat, ((List.replicate n xs).flatten).map enc = (List.replicate n (xs.map enc)).flatten
  | 0 => rfl
  | n + 1 => by
    rw [List.replicate_succ, List.replicate_succ, List.flatten_cons, List.flatten_cons, List.map_append, map_rep xs n]
/-- [..] * k, a list of its own -/
theorem ef_rep [Enc α] {x : m (List α)} {y : m Int} (ha : EvM K ta sd x) (hb : EvM K tb sd y) : EvF K (.lst .dat) (tOp rRep ta tb) sd (Mn.bnd x fun a => Mn.bnd y fun k => gd (-(2 ^ 63) ≤ k ∧ k < 2 ^ 63 ∧ a.length * k.toNat ≤ 100000) (Mn.pur (repL a k))) := fun F σ B H k R w k' e Q q => by
  obtain ⟨a, k1, e1, e⟩ := bnd_some e
  obtain ⟨n, k2, e2, e⟩ := bnd_some e
  obtain ⟨⟨h1, h2, h3⟩, e⟩ := gd_some e
  obtain ⟨rfl, rfl⟩ := pur_some e
  refine ha F σ B H k R a k1 e1 _ fun va B1 H1 R1 g1 r1 => ?_
  refine hb F σ B1 H1 k1 R1 n _ e2 _ fun vb B2 H2 R2 g2 r2 => ?_
  obtain ⟨p, xs, rfl, hp, rs⟩ := (r1.gr g2).lst_inv
  rw [Rp.int_inv r2]
  refine ⟨p, n, xs, rfl, rfl, R2.bh _ _ hp, h1, h2, ?_, fun o ho => ?_⟩
  · rw [rs.len, List.length_map]; exact Nat.le_trans h3 (by decide)
  · refine q _ B2 _ (R2.newL ho ?_) (g1.trans g2)
    unfold repL
    rw [map_rep]
    exact rs.rep _
def rInt1 : List V → Hp → VK → Prop := fun xs H Q => (∃ i, xs = [.int i] ∧ Q (.int i) H) ∨ ∃ k, xs = [.bl k] ∧ Q (.int (if k then 1 else 0)) H
theorem cr_int1 {X : Cx} : CallR X (.type "int") rInt1 := call_int1
/-- int(b) -/
theorem em_intB {x : m Bool} (h : EvM K te sd x) : EvM K (tCB rInt1 (tCons te tNil)) sd (Mn.bnd x fun b => Mn.pur (if b then (1 : Int) else 0)) := em_cb1 h fun F σ B H k a v R r b k' e Q q => by
  obtain ⟨rfl, rfl⟩ := pur_some e
  rw [Rp.bl_inv r]
  exact .inr ⟨a, rfl, q _ B H R (Gr.refl B) (.int _)⟩
end
/-! ### text * int -/
section
def repS (a : Str) (n : Int) : Str := ⟨(List.replicate n.toNat a.cps).foldl (fun x y => x ++ y) #[]⟩
def rRepS : R2 := fun x y H Q => ∃ (a : Str) (n : Int), x = .str a ∧ y = .int n ∧ n < 2 ^ 62 ∧ -(2 ^ 62) < n ∧ a.length * n.toNat ≤ 1000000 ∧ Q (.str (repS a n)) H
theorem repS_none {a : Str} {n : Int} (h : n < 1) : repS a n = Str.empty := by
  unfold repS
  rw [show n.toNat = 0 by omega]; rfl
theorem repS_one {a : Str} : repS a 1 = a := by
  show Str.mk (#[] ++ a.cps) = a
  simp
theorem repS_nil {a : Str} (h : a.length = 0) (n : Int) : repS a n = a := by
  have e : a.cps = #[] := Array.eq_empty_of_size_eq_zero h
  unfold repS
  rw [e]
  have z : ∀ k, (List.replicate k (#[] : Array Nat)).foldl (fun x y => x ++ y) #[] = #[] := fun k => by
    induction k with
    | zero => rfl
    | succ k ih => rw [List.replicate_succ, List.foldl_cons]; simpa using ih
  rw [z, ← e]
theorem repS_len (a : Str) (n : Int) : (repS a n).length = n.toNat * a.length := by
  have z : ∀ (k : Nat) (acc : Array Nat), ((List.replicate k a.cps).foldl (fun x y => x ++ y) acc).size = acc.size + k * a.cps.size := fun k => by
    induction k with
    | zero => intro acc; simp
    | succ k ih =>
      intro acc
      rw [List.replicate_succ, List.foldl_cons, ih, Array.size_append, Nat.add_mul]; omega
  have y := z n.toNat #[]
  rw [Array.size_empty, Nat.zero_add] at y
  exact y
theorem op_repS {X : Cx} : OpR X (binaryOp .Mult) rRepS := fun pins s σ H x y v u Q I rx ry h => by
  obtain ⟨a, n, rfl, rfl, h1, h2, h3, q⟩ := h
  obtain ⟨t, rfl⟩ := rx
  obtain ⟨t', rfl⟩ := ry
  have big : 1000000 ≤ sizeLine := by decide
  have e : ¬ n < 1 → (n.toNat : Int) = n := fun c => Int.toNat_of_nonneg (by omega)
  refine P.mul_str (by rw [Bool.or_eq_false_iff]; exact ⟨decide_eq_false (by omega), decide_eq_false (by omega)⟩) (fun c _ hh => ?_) (fun c _ => decide_eq_false (by omega)) ?_
  · have hn : 0 < n := by omega
    have h4 : (a.length : Int) * n ≤ 1000000 := by
      have y := Int.ofNat_le.mpr h3
      rw [Int.natCast_mul, e c] at y
      exact y
    have h5 : (2 ^ 63 - 1 : Int) < (a.length : Int) * n := Int.lt_mul_of_ediv_lt hn hh
    omega
  · by_cases c : n < 1
    · rw [if_pos c]
      rw [repS_none c] at q
      exact ⟨Nat.zero_le _, .str Str.empty, H, I.tok _, ⟨_, rfl⟩, q⟩
    · rw [if_neg c]
      by_cases c2 : (n == 1 || a.length == 0) = true
      · rw [if_pos c2]
        have e2 : repS a n = a := by
          rcases (Bool.or_eq_true _ _).mp c2 with w | w
          · rw [show n = 1 by simpa using w]; exact repS_one
          · exact repS_nil (by simpa using w) n
        rw [e2] at q
        exact ⟨.str a, H, I, ⟨_, rfl⟩, q⟩
      · rw [if_neg c2]
        exact ⟨by have := repS_len a n; unfold repS at this; rw [this, Nat.mul_comm]; exact Nat.le_trans h3 big, .str (repS a n), H, I.tok _, ⟨_, rfl⟩, q⟩
variable {K : PySem.W.Frag} {m : Type → Type} [Mn m]
theorem om_repS {a : Str} {n : Int} : OpM K rRepS a n (gd (n < 2 ^ 62 ∧ -(2 ^ 62) < n ∧ a.length * n.toNat ≤ 1000000) (Mn.pur (repS a n)) : m Str) := fun F σ B H sd k R va vb ra rb c k' e Q q => by
  obtain ⟨⟨h1, h2, h3⟩, e⟩ := gd_some e
  obtain ⟨rfl, rfl⟩ := pur_some e
  exact ⟨a, n, ra.str_inv, rb.int_inv, h1, h2, h3, q _ B H R (Gr.refl B) (.str _)⟩
end
end ON

set_option Elab.async false
set_option linter.all false
set_option maxRecDepth 100000
set_option maxHeartbeats 2000000
/-! N14: what is owned is read, and changed. -/
namespace ON
open PySem PySem.Spec PyProof.Rows L2

/-- values that need no heap -/
class Scal (α : Type) [Enc α] where
  rp : ∀ {K : PySem.W.Frag} {B C : Hp} {v : V} {a : α}, Rp K B v (enc a) → Rp K C v (enc a)
instance : Scal Int := ⟨fun h => by rw [Rp.int_inv h]; exact .int _⟩
instance : Scal Bool := ⟨fun h => by rw [Rp.bl_inv h]; exact .bl _⟩
instance : Scal Str := ⟨fun h => by rw [Rp.str_inv h]; exact .str _⟩
instance : Scal Unit := ⟨fun h => by rw [Rp.non_inv h]; exact .non⟩
instance {α : Type} [Enc α] [Scal α] : Scal (Option α) := ⟨fun {K B C v a} h => by
  cases a with
  | none => have h : Rp K B v .non := h; rw [Rp.non_inv h]; exact .non
  | some a => exact Scal.rp (α := α) h⟩
/-- slots told for reading: what is owned is data, or not told -/
inductive Bor : List SD → List SD → Prop
  | nil : Bor [] []
  | same {d : SD} {a b : List SD} (hd : d.ow = false) (h : Bor a b) : Bor (d :: a) (d :: b)
  | un {d : SD} {a b : List SD} (h : Bor a b) : Bor (d :: a) (.un :: b)
  | fz {s : Sh} {d : D} {a b : List SD} (hn : s.nd = true) (h : Bor a b) : Bor (.own s d :: a) (.dat d :: b)
/-- .. not told at all -/
inductive BorU : List SD → List SD → Prop
  | nil : BorU [] []
  | same {d : SD} {a b : List SD} (hd : d.ow = false) (h : BorU a b) : BorU (d :: a) (d :: b)
  | un {d : SD} {a b : List SD} (h : BorU a b) : BorU (d :: a) (.un :: b)
theorem Bor.len {a b : List SD} (h : Bor a b) : b.length = a.length := by
  induction h with
  | nil => rfl
  | same _ h ih => rw [List.length_cons, List.length_cons, ih]
  | un h ih => rw [List.length_cons, List.length_cons, ih]
  | fz _ h ih => rw [List.length_cons, List.length_cons, ih]
theorem Bor.get {a b : List SD} (h : Bor a b) : ∀ {i : Nat} {d : SD}, b[i]? = some d → (d = .un ∧ ∃ e, a[i]? = some e) ∨ (a[i]? = some d ∧ d.ow = false) ∨ ∃ s e, a[i]? = some (.own s e) ∧ d = .dat e ∧ s.nd = true := by
  induction h with
  | nil => intro i d e; simp at e
  | same hd h ih =>
    intro i d e
    cases i with
    | zero => cases e; exact .inr (.inl ⟨rfl, hd⟩)
    | succ i => exact ih (i := i) e
  | un h ih =>
    intro i d e
    cases i with
    | zero => cases Option.some.inj e; exact .inl ⟨rfl, _, rfl⟩
    | succ i => exact ih (i := i) e
  | fz hn h ih =>
    intro i d e
    cases i with
    | zero => cases Option.some.inj e; exact .inr (.inr ⟨_, _, rfl, rfl, hn⟩)
    | succ i => exact ih (i := i) e
theorem BorU.bor {a b : List SD} (h : BorU a b) : Bor a b := by
  induction h with
  | nil => exact .nil
  | same hd h ih => exact .same hd ih
  | un h ih => exact .un ih
theorem BorU.get {a b : List SD} (h : BorU a b) : ∀ {i : Nat} {d : SD}, b[i]? = some d → (d = .un ∧ ∃ e, a[i]? = some e) ∨ (a[i]? = some d ∧ d.ow = false) := by
  induction h with
  | nil => intro i d e; simp at e
  | same hd h ih =>
    intro i d e
    cases i with
    | zero => cases e; exact .inr ⟨rfl, hd⟩
    | succ i => exact ih (i := i) e
  | un h ih =>
    intro i d e
    cases i with
    | zero => cases Option.some.inj e; exact .inl ⟨rfl, _, rfl⟩
    | succ i => exact ih (i := i) e
section
variable {K : PySem.W.Frag} {F : Fr} {σ : L2.St} {B H : Hp} {sd sd' : List SD} {k k' : Int}
/-- the data that all owned things make up -/
def allB (B H : Hp) (P : Addr → Prop) [DecidablePred P] : Hp := fun a => if P a then H a else B a
open Classical in
theorem Rel.bor (R : Rel K F σ B H sd k) (b : Bor sd sd') : ∃ B', Gr B B' ∧ Gr B' H ∧ Rel K ⟨H, B', F.sa, []⟩ σ B' H sd' k ∧ ((∀ (i : Nat) (s : Sh) (d : D), sd[i]? = some (SD.own s d) → sd'[i]? = some SD.un) → B' = B) := by
  obtain ⟨g, p⟩ := R.pool
  let P : Addr → Prop := fun a => ∃ (i : Nat) (s : Sh) (d : D), sd[i]? = some (SD.own s d) ∧ sd'[i]? ≠ some SD.un ∧ a ∈ g (.inl i)
  have hP : ∀ a, P a → B a = none := fun a ⟨i, _, _, _, _, m⟩ => p.b _ a m
  have gB : Gr B (allB B H P) := fun a o e => by
    unfold allB
    rw [if_neg (fun z => by rw [hP a z] at e; cases e)]; exact e
  have gH : Gr (allB B H P) H := fun a o e => by
    unfold allB at e
    by_cases c : P a
    · rw [if_pos c] at e; exact e
    · rw [if_neg c] at e; exact R.bh a o e
  refine ⟨allB B H P, gB, gH, ⟨by rw [b.len]; exact R.len, gH, Gr.refl _, fun a o e e0 => ?_, fun a o e _ => e, fun s es => ?_, fun _ => [], fun x c e => ?_, fun _ _ => rfl, fun _ => .nil, fun _ _ _ m => (nomatch m), fun _ _ m => (nomatch m), fun _ _ m => (nomatch m), fun _ _ m => (nomatch m)⟩, fun hu => ?_⟩
  · have e1 : allB B H P a = none := e0
    rw [e] at e1; cases e1
  · have hS := R.st s es
    refine hS.gr gB ?_
    unfold allB
    rw [if_neg (fun ⟨i, _, _, _, _, m⟩ => p.sa _ _ m s es rfl)]; exact hS.1
  · cases x with
    | inr j => simp [cell] at e
    | inl i =>
      simp only [cell] at e
      cases h1 : sd'[i]? with
      | none => rw [h1] at e; cases e
      | some d =>
        cases h2 : σ[i]? with
        | none => rw [h1, h2] at e; cases e
        | some o =>
          rw [h1, h2] at e; cases e
          rcases b.get h1 with ⟨rfl, _⟩ | ⟨ha, hd⟩ | ⟨s, e2, ha, rfl, hn⟩
          · rfl
          · have hc : cell F σ sd (.inl i) = some (o, d) := by simp only [cell]; rw [ha, h2]
            have z := p.ok _ _ hc
            cases d with
            | un => rfl
            | dat d => obtain ⟨_, v, ho, r⟩ := z; exact ⟨rfl, v, ho, r.gr gB⟩
            | own s d => cases hd
            | sr q => obtain ⟨_, a, w, ho, hs, hw⟩ := z; exact ⟨rfl, a, w, ho, hs, hw⟩
          · have hc : cell F σ sd (.inl i) = some (o, .own s e2) := by simp only [cell]; rw [ha, h2]
            obtain ⟨v, ho, w⟩ := p.ok _ _ hc
            refine ⟨rfl, v, ho, (w.rp (f0 := g (.inl i)) (fun a m => p.b _ a m) hn fun _ m => m).gr fun a u e => ?_⟩
            unfold frzB at e
            unfold allB
            by_cases c : a ∈ g (.inl i)
            · rw [if_pos c] at e
              rw [if_pos ⟨i, s, e2, ha, by rw [h1]; exact fun z => (nomatch z), c⟩]; exact e
            · rw [if_neg c] at e
              rw [if_neg (fun z => by rw [hP a z] at e; cases e)]; exact e
  · funext a
    unfold allB
    rw [if_neg (fun ⟨i, s, d, h1, h2, _⟩ => h2 (hu i s d h1))]
/-- back from the reading -/
theorem Rel.unbor {B2 H2 B' : Hp} (R : Rel K F σ B H sd k) (R2 : Rel K ⟨H, B', F.sa, []⟩ σ B2 H2 sd' k') : Rel K F σ B H2 sd k' ∧ ∀ a o, H a = some o → (∀ s, F.sa = some s → s.1 ≠ a) → H2 a = some o := by
  have keep : ∀ a o, H a = some o → (∀ s, F.sa = some s → s.1 ≠ a) → H2 a = some o := fun a o e hs => R2.fr a o e hs
  refine ⟨⟨R.len, fun a o e => keep a o (R.bh a o e) fun s es z => ?_, R.b0, R.bn, fun a o e hs => keep a o (R.fr a o e hs) hs, fun s es => (R.st s es).back (R2.st s es), ?_⟩, keep⟩
  · have hb := (R.st s es).1
    rw [z, e] at hb; cases hb
  · obtain ⟨g, p⟩ := R.pool
    refine ⟨_, p.move (F' := F) (σ' := σ) (sd' := sd) (B' := B) (H' := H2) (fun _ => false) g (Gr.refl B) rfl rfl (fun _ _ => rfl) (fun x a _ m => ⟨?_, p.b x a m⟩) (fun _ _ e => nomatch e) (fun _ e => nomatch e) (fun _ e => nomatch e) (fun _ _ _ e => nomatch e) (fun _ _ e => nomatch e)⟩
    cases e : H a with
    | none => exact absurd e (p.inH x a m)
    | some o => exact keep a o e (p.sa x a m)
variable {m : Type → Type} [Mn m] {α β γ τ τ' l ρ : Type} {ta te tk ti : TE} {tt : TT}
/-- an expression that changes nothing that stands -/
def EvH (K : PySem.W.Frag) [Enc α] (te : TE) (sd : List SD) (x : m α) : Prop := ∀ (F : Fr) (σ : L2.St) (B H : Hp) (k : Int), Rel K F σ B H sd k → ∀ (a : α) (k' : Int), Mn.run x k = some (a, k') →
  ∀ Q : VK, (∀ v B' H', Rel K F σ B' H' sd k' → Gr B B' → Rp K B' v (enc a) → (∀ b o, H b = some o → (∀ s, F.sa = some s → s.1 ≠ b) → H' b = some o) → Q v H') → te σ H Q
theorem EvH.toM [Enc α] {x : m α} (h : EvH K te sd x) : EvM K te sd x := fun F σ B H k R a k' e Q q => h F σ B H k R a k' e Q fun v B' H' R' g r _ => q v B' H' R' g r
theorem eh_S [Enc α] [Scal α] {x : m α} (h : EvM K te sd' x) (b : Bor sd sd') : EvH K te sd x := fun F σ B H k R a k' e Q q => by
  obtain ⟨B', g1, g2, R1, _⟩ := R.bor b
  refine h _ σ B' H k R1 a k' e Q fun v B2 H2 R2 g r => ?_
  obtain ⟨R3, kp⟩ := R.unbor R2
  exact q v B H2 R3 (Gr.refl B) (Scal.rp r) kp
theorem em_borrow [Enc α] [Scal α] {x : m α} (h : EvM K te sd' x) (b : Bor sd sd') : EvM K te sd x := (eh_S h b).toM
theorem eb_borrow {x : m Bool} (h : EvB K tt sd' x) (b : Bor sd sd') : EvB K tt sd x := fun F σ B H k R a k' e Q q => by
  obtain ⟨B', g1, g2, R1, _⟩ := R.bor b
  refine h _ σ B' H k R1 a k' e Q fun B2 H2 R2 g => ?_
  exact q B H2 (R.unbor R2).1 (Gr.refl B)
theorem BorU.un_ {a b : List SD} (h : BorU a b) : ∀ (i : Nat) (s : Sh) (d : D), a[i]? = some (SD.own s d) → b[i]? = some SD.un := by
  induction h with
  | nil => intro i s d e; simp at e
  | same hd h ih =>
    intro i s d e
    cases i with
    | zero => cases e; cases hd
    | succ i => exact ih i s d e
  | un h ih =>
    intro i s d e
    cases i with
    | zero => rfl
    | succ i => exact ih i s d e
theorem Rel.unborU {B2 H2 : Hp} (R : Rel K F σ B H sd k) (R2 : Rel K ⟨H, B, F.sa, []⟩ σ B2 H2 sd' k') : Rel K F σ B2 H2 sd k' ∧ Gr B B2 ∧ ∀ a o, H a = some o → (∀ s, F.sa = some s → s.1 ≠ a) → H2 a = some o := by
  have keep : ∀ a o, H a = some o → (∀ s, F.sa = some s → s.1 ≠ a) → H2 a = some o := fun a o e hs => R2.fr a o e hs
  refine ⟨⟨R.len, R2.bh, fun a o e => R2.b0 a o (R.b0 a o e), fun a o e e0 => ?_, fun a o e hs => keep a o (R.fr a o e hs) hs, fun s es => R2.st s es, ?_⟩, R2.b0, keep⟩
  · cases h : B a with
    | some u => exact R.bn a u h e0
    | none => exact (R.h0free (R2.bn a o e h)).1
  · obtain ⟨g, p⟩ := R.pool
    refine ⟨_, p.move (F' := F) (σ' := σ) (sd' := sd) (B' := B2) (H' := H2) (fun _ => false) g R2.b0 rfl rfl (fun _ _ => rfl) (fun x a _ m => ⟨?_, ?_⟩) (fun _ _ e => nomatch e) (fun _ e => nomatch e) (fun _ e => nomatch e) (fun _ _ _ e => nomatch e) (fun _ _ e => nomatch e)⟩
    · cases e : H a with
      | none => exact absurd e (p.inH x a m)
      | some o => exact keep a o e (p.sa x a m)
    · cases h : B2 a with
      | none => rfl
      | some u => exact absurd (R2.bn a u h (p.b x a m)) (p.inH x a m)
theorem eh_U [Enc α] {x : m α} (h : EvM K te sd' x) (b : BorU sd sd') : EvH K te sd x := fun F σ B H k R a k' e Q q => by
  obtain ⟨B', g1, g2, R1, hB⟩ := R.bor b.bor
  obtain rfl := hB b.un_
  refine h _ σ B' H k R1 a k' e Q fun v B2 H2 R2 g r => ?_
  obtain ⟨R3, g3, kp⟩ := R.unborU R2
  exact q v B2 H2 R3 g3 r kp
end
section
variable {K : PySem.W.Frag} {m : Type → Type} [Mn m] {α β γ τ τ' l ρ : Type} {sd sd' : List SD} {ta tb te tk ti : TE} [Rt ρ] {W : Wr} {post : τ → List SD} {postL : l → List SD} {ts tu : TS}
theorem atI_ixN {xs : List α} {i : Int} {x : α} (h : atI xs i = some x) : ∃ j, ixN xs.length i = some j ∧ xs[j]? = some x := by
  unfold atI at h
  cases e : ixN xs.length i with
  | none => rw [e] at h; cases h
  | some j => rw [e] at h; exact ⟨j, rfl, h⟩
theorem ixN_at {xs : List α} {i : Int} {x : α} {j : Nat} (h : ixN xs.length i = some j) (hx : xs[j]? = some x) : atI xs i = some x := by
  unfold atI; rw [h]; exact hx
/-- name[i] = e, name an owned list -/
@[irreducible] def setI (xs : List α) (i : Int) (a : α) : Option (List α) := (ixN xs.length i).map fun j => xs.set j a
theorem setI_eq (xs : List α) (i : Int) (a : α) : setI xs i a = (ixN xs.length i).map fun j => xs.set j a := by unfold setI; rfl
theorem es_putL [Enc α] {i : Nat} {xs : List α} {y : m α} {z : m Int} {f : List α → m (Fl τ l ρ)} (hi : sd[i]? = some (.own (.lst .dat) (enc xs))) (h : EvM K te sd y) (hz : EvM K ti sd z) (hf : ∀ ys, EvS K W tu (sd.set i (.own (.lst .dat) (enc ys))) post postL (f ys)) :
    EvS K W (tSeq (tAsg te (gSub (tVar i) ti rSetL)) tu) sd post postL (Mn.bnd y fun a => Mn.bnd z fun j => Mn.bnd (lift (setI xs j a)) f) := fun F σ B H k R r k' e dd q => by
  obtain ⟨a, k1, e1, e2⟩ := bnd_some e
  obtain ⟨j, k2, e3, e4⟩ := bnd_some e2
  obtain ⟨ys, k3, e5, e6⟩ := bnd_some e4
  obtain ⟨hs, rfl⟩ := lift_some e5
  rw [setI_eq] at hs
  obtain ⟨n, hn, rfl⟩ := Option.map_eq_some_iff.mp hs
  refine h F σ B H k R a k1 e1 _ fun v B1 H1 R1 g1 r1 => ?_
  obtain ⟨o0, _, ho0, ⟨v0, rfl, w0⟩, _⟩ := R1.slot hi
  refine ⟨v0, ho0, ?_⟩
  refine hz F σ B1 H1 k1 R1 j _ e3 _ fun iv B2 H2 R2 g2 r2 => ?_
  obtain ⟨o1, f1, ho1, ⟨v1, rfl, w1⟩, nd1, hf1, q1⟩ := R2.slot hi
  rw [ho0] at ho1; cases ho1
  obtain ⟨p, vs, ds, rfl, ed, rfl, hh, rs⟩ := ow_lstd.mp w1
  cases ed
  have hl : vs.length = xs.length := by rw [rs.len, List.length_map]
  refine ⟨p, vs, j, n, rfl, Rp.int_inv r2, hh, by rw [hl]; exact hn, ?_⟩
  have hb := (hf1 p (List.mem_singleton.mpr rfl)).1
  have z := q1 (some (.ref p)) (.own (.lst .dat) (enc (xs.set n a))) [p] B2 (upd H2 p (.lst (vs.set n v))) ⟨_, rfl, ow_lstd.mpr ⟨p, _, _, rfl, rfl, rfl, upd_same, by rw [List.map_set]; exact rs.set n (r1.gr g2)⟩⟩ (by simp) (fun b m => by rw [List.mem_singleton.mp m]; exact ⟨hb, .inl (List.mem_singleton.mpr rfl)⟩)
    (fun a u na e => by rw [upd_ne (fun z => na (List.mem_singleton.mpr z))]; exact e) (Gr.refl _) (R2.bh.mut hb) fun a u e e0 => by rw [e] at e0; cases e0
  rw [σ_set_self ho0] at z
  exact hf _ F σ B2 _ _ z r k' e6 dd (q.gr (g1.trans g2))
/-- name[i], name an owned list -/
theorem em_ixO [Enc α] {i : Nat} {xs : List α} {z : m Int} (hi : sd[i]? = some (.own (.lst .dat) (enc xs))) (hz : EvM K ti sd z) : EvM K (tOp (rIxL K) (tVar i) ti) sd (Mn.bnd z fun j => lift (atI xs j)) := fun F σ B H k R b k' e Q q => by
  obtain ⟨j, k1, e1, e2⟩ := bnd_some e
  obtain ⟨hc, rfl⟩ := lift_some e2
  obtain ⟨o0, _, ho0, ⟨v0, rfl, w0⟩, _⟩ := R.slot hi
  refine ⟨v0, ho0, ?_⟩
  refine hz F σ B H k R j _ e1 _ fun iv B2 H2 R2 g2 r2 => ?_
  obtain ⟨o1, f1, ho1, ⟨v1, rfl, w1⟩, nd1, hf1, q1⟩ := R2.slot hi
  rw [ho0] at ho1; cases ho1
  obtain ⟨p, vs, ds, rfl, ed, rfl, hh, rs⟩ := ow_lstd.mp w1
  cases ed
  have h2 : atI (xs.map enc) j = some (enc b) := by rw [atI_map, hc] <;> rfl
  obtain ⟨v, hv, rv⟩ := atI_rps rs h2
  exact ⟨p, vs, j, v, rfl, Rp.int_inv r2, SqL.of hh, hv, q v B2 H2 R2 g2 rv⟩
end
section
/-- things owned one behind the other: one of them -/
theorem ows_at {R : V → D → List Addr → Prop} : ∀ {vs : List V} {ds : List D} {f : List Addr} {n : Nat} {d : D}, Ows R vs ds f → ds[n]? = some d → ∃ v f1 g f2, vs[n]? = some v ∧ f = f1 ++ g ++ f2 ∧ R v d g ∧
    ∀ (S : V → D → List Addr → Prop) (v' : V) (d' : D) (g' : List Addr), S v' d' g' → (∀ v d h, (∀ a ∈ h, a ∈ f1 ∨ a ∈ f2) → R v d h → S v d h) → Ows S (vs.set n v') (ds.set n d') (f1 ++ g' ++ f2)
  | [], [], _, _, _, _, e => by simp at e
  | v :: vs, d0 :: ds, f, 0, d, ⟨f1, f2, e, h1, h2⟩, ed => by
    cases ed
    refine ⟨v, [], f1, f2, rfl, by simpa using e, h1, fun S v' d' g' hS hi => ?_⟩
    exact ⟨g', f2, by simp, hS, h2.imp fun v d h hh r => hi v d h (fun a m => .inr (hh a m)) r⟩
  | v :: vs, d0 :: ds, f, n + 1, d, ⟨f1, f2, e, h1, h2⟩, ed => by
    obtain ⟨w, a1, g, a2, hw, e2, hr, hq⟩ := ows_at h2 (n := n) ed
    refine ⟨w, f1 ++ a1, g, a2, hw, by rw [e, e2]; simp [List.append_assoc], hr, fun S v' d' g' hS hi => ?_⟩
    refine ⟨f1, a1 ++ g' ++ a2, by simp [List.append_assoc], hi v d0 f1 (fun a m => .inl (List.mem_append_left _ m)) h1, ?_⟩
    exact hq S v' d' g' hS fun v d h hh r => hi v d h (fun a m => (hh a m).elim (fun z => .inl (List.mem_append_right _ z)) .inr) r
  | [], _ :: _, _, _, _, h, _ => h.elim
  | _ :: _, [], _, _, _, h, _ => h.elim
variable {K : PySem.W.Frag} {m : Type → Type} [Mn m] {α β γ τ τ' l ρ : Type} {sd sd' : List SD} {ta tb te tk ti : TE} [Rt ρ] {W : Wr} {post : τ → List SD} {postL : l → List SD} {ts tu : TS}
/-- name[i].append(e), name an owned list of owned lists -/
@[irreducible] def appI (xss : List (List α)) (i : Int) (a : α) : Option (List (List α)) := (ixN xss.length i).bind fun j => (xss[j]?).bind fun xs => if xs.length < 100000 then some (xss.set j (xs ++ [a])) else none
theorem appI_eq (xss : List (List α)) (i : Int) (a : α) : appI xss i a = (ixN xss.length i).bind fun j => (xss[j]?).bind fun xs => if xs.length < 100000 then some (xss.set j (xs ++ [a])) else none := by unfold appI; rfl
theorem es_appAt [Enc α] {i : Nat} {xss : List (List α)} {z : m Int} {y : m α} {f : List (List α) → m (Fl τ l ρ)} (hi : sd[i]? = some (.own (.lst (.lst .dat)) (enc xss))) (hz : EvH K ti sd z) (h : EvH K te sd y) (hf : ∀ ys, EvS K W tu (sd.set i (.own (.lst (.lst .dat)) (enc ys))) post postL (f ys)) :
    EvS K W (tSeq (tDrop (tBM K "list" rAppend (tOp (rIxL K) (tVar i) ti) (tCons te tNil))) tu) sd post postL (Mn.bnd z fun j => Mn.bnd y fun a => Mn.bnd (lift (appI xss j a)) f) := fun F σ B H k R r k' e dd q => by
  obtain ⟨j, k1, e1, e2⟩ := bnd_some e
  obtain ⟨a, k2, e3, e4⟩ := bnd_some e2
  obtain ⟨ys, k3, e5, e6⟩ := bnd_some e4
  obtain ⟨hs, rfl⟩ := lift_some e5
  rw [appI_eq] at hs
  obtain ⟨n, hn, hs⟩ := Option.bind_eq_some_iff.mp hs
  obtain ⟨xs, hx, hs⟩ := Option.bind_eq_some_iff.mp hs
  by_cases hlen : xs.length < 100000
  case neg => rw [if_neg hlen] at hs; cases hs
  rw [if_pos hlen] at hs; cases hs
  obtain ⟨o0, _, ho0, ⟨v0, rfl, w0⟩, _⟩ := R.slot hi
  refine ⟨v0, ho0, ?_⟩
  refine hz F σ B H k R j _ e1 _ fun iv B1 H1 R1 g1 r1 kp1 => ?_
  -- the list, its item
  obtain ⟨o1, f1, ho1, ⟨v1, rfl, w1⟩, nd1, hf1, q1⟩ := R1.slot hi
  rw [ho0] at ho1; cases ho1
  obtain ⟨p, vs, ds, gg, rfl, ed, rfl, hh, ow⟩ := w1
  cases ed
  have hd : (xss.map enc)[n]? = some (enc xs) := by rw [List.getElem?_map, hx] <;> rfl
  obtain ⟨w, a1, gw, a2, hw, eg, rw_, hq⟩ := ows_at ow hd
  obtain ⟨p2, us, es, rfl, ed2, rfl, hp2, rs2⟩ := ow_lstd.mp rw_
  cases ed2
  have hl : vs.length = xss.length := by rw [ow.len, List.length_map]
  refine ⟨p, vs, j, .ref p2, rfl, Rp.int_inv r1, SqL.of hh, ixN_at (by rw [hl]; exact hn) hw, .inl ⟨rfl, us, SqL.of hp2⟩, ?_⟩
  refine h F σ B1 H1 k1 R1 a _ e3 _ fun v B2 H2 R2 g2 r2 kp2 => ?_
  have nsa : ∀ b ∈ p :: gg, ∀ s, F.sa = some s → s.1 ≠ b := fun b m => (hf1 b m).2.2
  have mp2 : p2 ∈ p :: gg := by rw [eg]; simp
  have hp22 : H2 p2 = some (.lst us) := kp2 _ _ hp2 (nsa _ mp2)
  have hl2 : us.length = xs.length := by rw [rs2.len, List.length_map]
  refine ⟨p2, us, v, rfl, rfl, hp22, Nat.lt_of_lt_of_le (by omega : us.length < 100000) (by decide), ?_⟩
  -- the slot in the heap behind the argument
  obtain ⟨o3, f3, ho3, ⟨v3, rfl, w3⟩, nd3, hf3, q3⟩ := R2.slot hi
  rw [ho0] at ho3; cases ho3
  obtain ⟨p', vs', ds', g3, ep, ed3, rfl, hh3, ow3⟩ := w3
  cases ep; cases ed3
  have hh2 := kp2 _ _ hh (nsa _ (by simp))
  rw [hh3] at hh2
  have evs : vs' = vs := by
    have z := Option.some.inj hh2
    exact HO.lst.inj z
  subst evs
  obtain ⟨w', b1, gw', b2, hw', eg', rw', hq'⟩ := ows_at ow3 hd
  rw [hw] at hw'; cases hw'
  obtain ⟨p2', us', es', ep2, ed4, rfl, hp2', rs2'⟩ := ow_lstd.mp rw'
  cases ep2; cases ed4
  rw [hp22] at hp2'
  have eus : us = us' := HO.lst.inj (Option.some.inj hp2')
  subst eus
  have hb : B2 p2 = none := (hf3 p2 (by rw [eg']; simp)).1
  have nodup : (p :: (b1 ++ [p2] ++ b2)).Nodup := by rw [← eg']; exact nd3
  have npp : p ≠ p2 := fun z => by
    rw [z] at nodup
    exact (List.nodup_cons.mp nodup).1 (by simp)
  have nb12 : ∀ b, b ∈ b1 ∨ b ∈ b2 → b ≠ p2 := fun b m z => by
    subst z
    have n2 := (List.nodup_cons.mp nodup).2
    rw [List.append_assoc, List.nodup_append] at n2
    obtain ⟨_, n3, n4⟩ := n2
    rcases m with m | m
    · exact n4 b m b (by simp) rfl
    · exact (List.nodup_cons.mp n3).1 m
  have z := q3 (some (.ref p)) (.own (.lst (.lst .dat)) (enc (xss.set n (xs ++ [a])))) (p :: (b1 ++ [p2] ++ b2)) B2 (upd H2 p2 (.lst (us ++ [v])))
    ⟨_, rfl, p, vs', (xss.map enc).set n (enc (xs ++ [a])), b1 ++ [p2] ++ b2, rfl, by show D.lst ((xss.set n (xs ++ [a])).map enc) = _; rw [List.map_set], rfl, by rw [upd_ne npp]; exact hh3, by
      have y := hq' (Ow K B2 (upd H2 p2 (.lst (us ++ [v]))) (.lst .dat)) (.ref p2) (enc (xs ++ [a])) [p2] (ow_lstd.mpr ⟨p2, us ++ [v], _, rfl, rfl, rfl, upd_same, by rw [List.map_append]; exact rs2'.app (.cons r2 .nil)⟩) fun v d h hh r => r.frame (Gr.refl _) fun b m => upd_ne (nb12 b (hh b m))
      rw [show vs'.set n (.ref p2) = vs' from by
        obtain ⟨h1, h2⟩ := List.getElem?_eq_some_iff.mp hw
        rw [← h2]; exact List.set_getElem_self h1] at y
      exact y⟩ nodup (fun b m => by
        have m2 : b ∈ p :: g3 := by rw [eg']; exact m
        exact ⟨(hf3 b m2).1, .inl m2⟩)
    (fun a u na e => by rw [upd_ne (fun z => na (by rw [z, eg']; simp))]; exact e) (Gr.refl _) (R2.bh.mut hb) fun a u e e0 => by rw [e] at e0; cases e0
  rw [σ_set_self ho0] at z
  exact hf _ F σ B2 _ _ z r k' e6 dd (q.gr (g1.trans g2))
/-- name.append([]), name an owned list of owned lists -/
theorem es_appNil [Enc α] {i : Nat} {xss : List (List α)} {f : List (List α) → m (Fl τ l ρ)} (hi : sd[i]? = some (.own (.lst (.lst .dat)) (enc xss))) (hf : ∀ ys, EvS K W tu (sd.set i (.own (.lst (.lst .dat)) (enc ys))) post postL (f ys)) :
    EvS K W (tSeq (tDrop (tBM K "list" rAppend (tVar i) (tCons (tLst tNil) tNil))) tu) sd post postL (gd (xss.length < 100000) (f (xss ++ [[]]))) := fun F σ B H k R r k' e dd q => by
  obtain ⟨hlen, e1⟩ := gd_some e
  obtain ⟨o0, f0, ho0, ⟨v0, rfl, w0⟩, nd0, hf0, q0⟩ := R.slot hi
  obtain ⟨p, vs, ds, gg, rfl, ed, rfl, hh, ow⟩ := w0
  cases ed
  refine ⟨_, ho0, .inl ⟨rfl, vs, SqL.of hh⟩, ?_⟩
  refine ⟨Nat.zero_le _, fun n np => ?_⟩
  have ne : p ≠ n := ne_of_none hh np
  have hl : vs.length = xss.length := by rw [ow.len, List.length_map]
  refine ⟨p, vs, .ref n, rfl, rfl, by rw [upd_ne ne]; exact hh, Nat.lt_of_lt_of_le (by omega : vs.length < 100000) (by decide), ?_⟩
  have hb := (hf0 p (by simp)).1
  have nn : n ∉ p :: gg := fun m => by
    rcases List.mem_cons.mp m with z | m
    · exact ne z.symm
    · exact absurd np ((show Ow K B H (.lst (.lst .dat)) (.ref p) (.lst (xss.map enc)) (p :: gg) from ⟨p, vs, _, gg, rfl, rfl, rfl, hh, ow⟩).some n (List.mem_cons_of_mem _ m))
  have hap : ∀ {vs : List V} {ds : List D} {f : List Addr} {R : V → D → List Addr → Prop} {v : V} {d : D} {g : List Addr}, Ows R vs ds f → R v d g → Ows R (vs ++ [v]) (ds ++ [d]) (f ++ g) := fun {vs ds f R v d g} h hr => by
    induction vs generalizing ds f with
    | nil => cases ds with
      | nil => obtain rfl : f = [] := h; exact ⟨g, [], by simp, hr, rfl⟩
      | cons _ _ => exact h.elim
    | cons x vs ih => cases ds with
      | nil => exact h.elim
      | cons y ds =>
        obtain ⟨f1, f2, e, h1, h2⟩ := h
        exact ⟨f1, f2 ++ g, by rw [e, List.append_assoc], h1, ih h2⟩
  have z := q0 (some (.ref p)) (.own (.lst (.lst .dat)) (enc (xss ++ [[]]))) (p :: (gg ++ [n])) B (upd (upd H n (.lst [])) p (.lst (vs ++ [.ref n])))
    ⟨_, rfl, p, vs ++ [.ref n], (xss ++ [[]]).map enc, gg ++ [n], rfl, rfl, rfl, upd_same, by
      rw [List.map_append]
      refine hap (ow.imp fun v d h hh2 r => r.frame (Gr.refl _) fun b m => ?_) (ow_lstd.mpr ⟨n, [], [], rfl, rfl, rfl, by rw [upd_ne ne.symm, upd_same], .nil⟩)
      have b1 : b ≠ p := fun z => (List.nodup_cons.mp nd0).1 (z ▸ hh2 b m)
      have b2 : b ≠ n := fun z => nn (List.mem_cons_of_mem _ (z ▸ hh2 b m))
      rw [upd_ne b1, upd_ne b2]⟩ (by
        rw [List.nodup_cons, List.nodup_append]
        refine ⟨fun m => ?_, (List.nodup_cons.mp nd0).2, by simp, fun a ma b mb z => ?_⟩
        · rcases List.mem_append.mp m with m | m
          · exact (List.nodup_cons.mp nd0).1 m
          · exact ne (List.mem_singleton.mp m)
        · rw [List.mem_singleton.mp mb] at z
          exact nn (List.mem_cons_of_mem _ (z ▸ ma)))
    (fun b m => by
      rcases List.mem_cons.mp m with rfl | m
      · exact ⟨hb, .inl List.mem_cons_self⟩
      · rcases List.mem_append.mp m with m | m
        · exact ⟨(hf0 b (List.mem_cons_of_mem _ m)).1, .inl (List.mem_cons_of_mem _ m)⟩
        · rw [List.mem_singleton.mp m]; exact ⟨R.bh.back np, .inr np⟩)
    (fun a u na e => by rw [upd_ne (fun z => na (by rw [z]; exact List.mem_cons_self)), upd_ne (ne_of_none e np)]; exact e) (Gr.refl _) ((R.bh.trans (Gr.new np)).mut hb) fun a u e e0 => by rw [e] at e0; cases e0
  rw [σ_set_self ho0] at z
  exact hf _ F σ B _ _ z r k' e1 dd q
/-- [[..], ..]: lists of the frame's own in one -/
theorem ef_lst1 [Enc α] {tr : TA} {x : m (List α)} (h : EvF K (.lst .dat) (tLst tr) sd x) : EvF K (.lst (.lst .dat)) (tLst (tCons (tLst tr) tNil)) sd (Mn.bnd x fun xs => Mn.pur [xs]) := fun F σ B H k R b k' e Q q => by
  obtain ⟨xs, k1, e1, e2⟩ := bnd_some e
  obtain ⟨rfl, rfl⟩ := pur_some e2
  show tLst tr σ H fun v H1 => [v].length ≤ sizeLine ∧ ∀ p, H1 p = none → Q (.ref p) (upd H1 p (.lst [v]))
  refine h F σ B H k R xs _ e1 _ fun v B1 H1 R1 g1 => ⟨(by decide : 1 ≤ sizeLine), fun p hp => ?_⟩
  obtain ⟨f, w, nd, hf, q1⟩ := R1.top
  obtain ⟨a, us, ds, rfl, ed, rfl, hh, rs⟩ := ow_lstd.mp w
  cases ed
  have ne : a ≠ p := ne_of_none hh hp
  have z := (q1 B1 (upd H1 p (.lst [.ref a])) (fun b u na e => by rw [upd_ne (ne_of_none e hp)]; exact e) (Gr.refl _) (R1.bh.trans (Gr.new hp)) fun b u e e0 => by rw [e] at e0; cases e0).2.1 (.ref p) (.lst (.lst .dat)) (enc [xs]) [p, a]
    ⟨p, [.ref a], [enc xs], [a], rfl, rfl, rfl, upd_same, [a], [], rfl, ow_lstd.mpr ⟨a, us, _, rfl, rfl, rfl, by rw [upd_ne ne]; exact hh, rs⟩, rfl⟩ (by simp [ne.symm]) fun b m => by
      rcases List.mem_cons.mp m with rfl | m
      · exact ⟨R1.bh.back hp, .inr hp⟩
      · exact ⟨(hf b m).1, .inl m⟩
  exact q (.ref p) B1 _ z g1
/-- an owned thing told otherwise: the same data -/
theorem es_as {i : Nat} {s s' : Sh} {d : D} {x : m (Fl τ l ρ)} (hi : sd[i]? = some (.own s d)) (hs : ∀ B H v f, Ow K B H s v d f → Ow K B H s' v d f) (h : EvS K W ts (sd.set i (.own s' d)) post postL x) : EvS K W ts sd post postL x := fun F σ B H k R f k' e dd q => by
  obtain ⟨o, f0, ho, ⟨v, rfl, w⟩, nd, hf, q1⟩ := R.slot hi
  have z := q1 (some v) (.own s' d) f0 B H ⟨v, rfl, hs B H v f0 w⟩ nd (fun a m => ⟨(hf a m).1, .inl m⟩) (fun a u _ e => e) (Gr.refl B) R.bh fun a u e e0 => by rw [e] at e0; cases e0
  rw [σ_set_self ho] at z
  exact h F σ B H k z f k' e dd q
/-- what is known to be a list: told as one -/
theorem es_unopt [Enc α] [Enc β] {i : Nat} {s : Sh} {b : β} {pr : β → Option α} {f : α → m (Fl τ l ρ)} (hi : sd[i]? = some (.own (.opt s) (enc b))) (hp : ∀ a, pr b = some a → enc b = enc a ∧ (enc a).sc = false) (h : ∀ a, EvS K W ts (sd.set i (.own s (enc a))) post postL (f a)) :
    EvS K W ts sd post postL (Mn.bnd (lift (pr b)) f) := fun F σ B H k R r k' e dd q => by
  obtain ⟨a, k1, e1, e2⟩ := bnd_some e
  obtain ⟨hpa, rfl⟩ := lift_some e1
  obtain ⟨he, hsc⟩ := hp a hpa
  refine es_as (s' := s) (ts := ts) (K := K) (W := W) (post := post) (postL := postL) hi (fun B H v f w => ?_) (by rw [he]; exact h a) F σ B H _ R r k' e2 dd q
  rcases w with ⟨_, h1, _⟩ | w
  · rw [he] at h1; rw [h1] at hsc; cases hsc
  · exact w
end
end ON

set_option Elab.async false
set_option linter.all false
set_option maxRecDepth 100000
set_option maxHeartbeats 2000000
/-! N15: values by other types, anything told, few more statements. -/
namespace ON
open PySem PySem.Spec PyProof.Rows L2
/-- anything told that is no error -/
structure An where
  d : D
  h : tyN d ≠ ""
instance : Enc An := ⟨An.d⟩
theorem An.ty (a : An) : tyN (enc a) ≠ "" := a.h
/-- types whose values are never errors -/
class Tyd (α : Type) [Enc α] where
  ty : ∀ a : α, tyN (enc a) ≠ ""
instance : Tyd An := ⟨An.h⟩
instance : Tyd Unit := ⟨fun _ => by show "NoneType" ≠ ""; decide⟩
instance : Tyd Bool := ⟨fun _ => by show "bool" ≠ ""; decide⟩
instance : Tyd Int := ⟨fun _ => by show "int" ≠ ""; decide⟩
instance : Tyd Str := ⟨fun _ => by show "str" ≠ ""; decide⟩
instance : Tyd Sc := ⟨fun _ => by show "list" ≠ ""; decide⟩
instance {α : Type} [Enc α] : Tyd (List α) := ⟨fun _ => by show "list" ≠ ""; decide⟩
instance {α : Type} [Enc α] : Tyd (Tl α) := ⟨fun _ => by show "tuple" ≠ ""; decide⟩
instance {α : Type} [Enc α] : Tyd (T1 α) := ⟨fun _ => by show "tuple" ≠ ""; decide⟩
instance {α β : Type} [Enc α] [Enc β] : Tyd (α × β) := ⟨fun _ => by show "tuple" ≠ ""; decide⟩
instance {α β γ : Type} [Enc α] [Enc β] [Enc γ] : Tyd (T3 α β γ) := ⟨fun _ => by show "tuple" ≠ ""; decide⟩
instance {α β γ δ : Type} [Enc α] [Enc β] [Enc γ] [Enc δ] : Tyd (T4 α β γ δ) := ⟨fun _ => by show "tuple" ≠ ""; decide⟩
instance {α β γ δ ε : Type} [Enc α] [Enc β] [Enc γ] [Enc δ] [Enc ε] : Tyd (T5 α β γ δ ε) := ⟨fun _ => by show "tuple" ≠ ""; decide⟩
instance {α β γ δ ε ζ : Type} [Enc α] [Enc β] [Enc γ] [Enc δ] [Enc ε] [Enc ζ] : Tyd (T6 α β γ δ ε ζ) := ⟨fun _ => by show "tuple" ≠ ""; decide⟩
instance {κ α : Type} [IsKey κ] [Enc α] : Tyd (Dc κ α) := ⟨fun _ => by show "dict" ≠ ""; decide⟩
instance {α : Type} [Enc α] [Tyd α] : Tyd (Option α) := ⟨fun a => by cases a with | none => show "NoneType" ≠ ""; decide | some a => exact Tyd.ty a⟩
instance {α β : Type} [Enc α] [Enc β] [Tyd α] [Tyd β] : Tyd (α ⊕ β) := ⟨fun a => by cases a with | inl a => exact Tyd.ty a | inr a => exact Tyd.ty a⟩
def An.of {α : Type} [Enc α] [Tyd α] (a : α) : An := ⟨enc a, Tyd.ty a⟩
/-- whether isinstance(.., T) -/
def kit (T : String) (d : D) : Bool := (kitB (tyN d) T).getD false
def kitFor (T : String) : Bool := ["NoneType", "bool", "int", "str", "list", "tuple", "dict"].all fun t => (kitB t T).isSome
theorem kit_ok {T : String} (h : kitFor T = true) (d : D) (hd : tyN d ≠ "") : kitB (tyN d) T = some (kit T d) := by
  unfold kit
  unfold kitFor at h
  have key : ∀ t ∈ ["NoneType", "bool", "int", "str", "list", "tuple", "dict"], kitB t T = some ((kitB t T).getD false) := fun t ht => by
    have z := List.all_eq_true.mp h t ht
    cases e : kitB t T with
    | none => rw [e] at z; cases z
    | some b => rfl
  cases d with
  | non => exact key "NoneType" (by simp)
  | bl b => exact key "bool" (by simp)
  | int i => exact key "int" (by simp)
  | str s => exact key "str" (by simp)
  | lst ds => exact key "list" (by simp)
  | tup ds => exact key "tuple" (by simp)
  | dic ks ds => exact key "dict" (by simp)
  | scr ns => exact key "list" (by simp)
  | err c ns ds => exact absurd rfl hd
/-- what a value is by another type -/
class Dec (α β : Type) where
  dec : α → Option β
instance {α : Type} : Dec (Option α) α := ⟨id⟩
instance : Dec An Str := ⟨fun a => match a.d with | .str s => some s | _ => none⟩
instance : Dec An Int := ⟨fun a => match a.d with | .int s => some s | _ => none⟩
section
variable {K : PySem.W.Frag} {m : Type → Type} [Mn m] {α β γ τ τ' l ρ : Type} {sd sd' : List SD} {ta tb te tk ti : TE} {W : Wr} {post : τ → List SD} {postL : l → List SD} {ts tu : TS}
theorem em_dec [Enc α] [Enc β] {x : m α} (f : α → Option β) (hf : ∀ a b, f a = some b → enc a = enc b) (h : EvM K te sd x) : EvM K te sd (Mn.bnd x fun a => lift (f a)) := fun F σ B H k R b k' e Q q => by
  obtain ⟨a, k1, e1, e2⟩ := bnd_some e
  obtain ⟨e3, rfl⟩ := lift_some e2
  exact h F σ B H k R a _ e1 Q fun v B' H' R' g r => q v B' H' R' g (by rw [← hf a b e3]; exact r)
theorem ef_as [Enc α] [Enc β] {s : Sh} {x : m α} (f : α → β) (hf : ∀ a, enc a = enc (f a)) (h : EvF K s te sd x) : EvF K s te sd (Mn.bnd x fun a => Mn.pur (f a)) := fun F σ B H k R b k' e Q q => by
  obtain ⟨a, k1, e1, e2⟩ := bnd_some e
  obtain ⟨rfl, rfl⟩ := pur_some e2
  exact h F σ B H k R a k' e1 Q fun v B' H' R' g => q v B' H' (by rw [← hf]; exact R') g
theorem dec_opt [Enc α] : ∀ (a : Option α) b, id a = some b → enc a = enc b := fun a b e => by subst e; rfl
theorem dec_anS : ∀ (a : An) b, (Dec.dec a : Option Str) = some b → enc a = enc b := fun a b e => by
  obtain ⟨d, h⟩ := a
  cases d <;> first | (cases e; done) | (cases e; rfl)
theorem dec_anI : ∀ (a : An) b, (Dec.dec a : Option Int) = some b → enc a = enc b := fun a b e => by
  obtain ⟨d, h⟩ := a
  cases d <;> first | (cases e; done) | (cases e; rfl)
/-- isinstance(x, T), T a built-in class -/
theorem em_isT [Enc α] [Tyd α] {x : m α} {T : String} (h : EvM K te sd x) (hk : kitFor T = true) : EvM K (tCB (rIsi K) (tCons te (tCons (tC (.ty T)) tNil))) sd (Mn.bnd x fun a => Mn.pur (kit T (enc a))) :=
  em_isi h (fun a => kit_ok hk (enc a) (Tyd.ty a)) (fun a => Tyd.ty a)
/-- return, what follows is never reached -/
theorem es_retFS {ρ : Type} [Enc ρ] {s : Sh} {x : m ρ} (h : EvF K s te sd x) : EvS K W (tSeq (tRet te) tu) sd post postL (Mn.bnd x fun r => (Mn.pur (.rt ⟨r⟩) : m (Fl τ l (Fw s ρ)))) := fun F σ B H k R f k' e D q => by
  obtain ⟨r, k1, e1, e2⟩ := bnd_some e
  obtain ⟨rfl, rfl⟩ := pur_some e2
  exact h F σ B H k R r _ e1 _ fun v B' H' R' g => q v σ B' H' sd R' g
theorem es_retVS {ρ : Type} [Enc ρ] {s : Sh} {i : Nat} {r : ρ} (hi : sd[i]? = some (.own s (enc r))) : EvS K W (tSeq (tRet (tVar i)) tu) sd post postL (Mn.pur (.rt ⟨r⟩) : m (Fl τ l (Fw s ρ))) := fun F σ B H k R f k' e D q => by
  obtain ⟨rfl, rfl⟩ := pur_some e
  obtain ⟨o, f0, ho, ⟨v, rfl, w⟩, nd, hf, q1⟩ := R.slot hi
  refine ⟨v, ho, ?_⟩
  exact q v σ B H (sd.set i .un) (R.take hi ho w) (Gr.refl B)
/-- the same in a def that may raise -/
theorem es_retVO {ρ : Type} [Enc ρ] {s : Sh} {i : Nat} {r : ρ} (hi : sd[i]? = some (.own s (enc r))) : EvS K W (tSeq (tRet (tVar i)) tu) sd post postL (Mn.pur (.rt (.ok ⟨r⟩)) : m (Fl τ l (Xr (Fw s ρ)))) := fun F σ B H k R f k' e D q => by
  obtain ⟨rfl, rfl⟩ := pur_some e
  obtain ⟨o, f0, ho, ⟨v, rfl, w⟩, nd, hf, q1⟩ := R.slot hi
  refine ⟨v, ho, ?_⟩
  exact q v σ B H (sd.set i .un) (R.take hi ho w) (Gr.refl B)
theorem es_retFO {ρ : Type} [Enc ρ] {s : Sh} {x : m ρ} (h : EvF K s te sd x) : EvS K W (tSeq (tRet te) tu) sd post postL (Mn.bnd x fun r => (Mn.pur (.rt (.ok ⟨r⟩)) : m (Fl τ l (Xr (Fw s ρ))))) := fun F σ B H k R f k' e D q => by
  obtain ⟨r, k1, e1, e2⟩ := bnd_some e
  obtain ⟨rfl, rfl⟩ := pur_some e2
  exact h F σ B H k R r _ e1 _ fun v B' H' R' g => q v σ B' H' sd R' g
/-- data handed back as what may be owned -/
theorem ef_sc [Enc α] {s : Sh} {x : m α} (h : EvM K te sd x) (hs : ∀ a : α, (enc a).sc = true) : EvF K (.opt s) te sd x := fun F σ B H k R a k' e Q q =>
  h F σ B H k R a k' e Q fun v B' H' R' g r => q v B' H' (R'.push (f := []) (.inl ⟨rfl, hs a, r⟩) .nil (fun _ m => nomatch m) (Gr.refl _) R'.bh (Gr.refl _) fun a o e e0 => by rw [e] at e0; cases e0) g
theorem es_raiseS [Enc ρ] {t : L2.St → Hp → XK → Prop} {x : m Er} (h : EvK K t sd x) (hl : Le sd W.sd) : EvS K W (tSeq (tRaise t W.w) tu) sd post postL (Mn.bnd x fun e => (Mn.pur (.rt (.er e)) : m (Fl τ l (Xr ρ)))) := fun F σ B H k R f k' e D q => by
  obtain ⟨r, k1, e1, e2⟩ := bnd_some e
  obtain ⟨rfl, rfl⟩ := pur_some e2
  exact h F σ B H k R r _ e1 _ fun cls d B' H' R' g ro => q cls d σ B' H' (R'.le hl) g ro
theorem es_raiseF [Enc ρ] {s : Sh} {t : L2.St → Hp → XK → Prop} {x : m Er} (h : EvK K t sd x) (hl : Le sd W.sd) : EvS K W (tSeq (tRaise t W.w) tu) sd post postL (Mn.bnd x fun e => (Mn.pur (.rt (.er e)) : m (Fl τ l (Xr (Fw s ρ))))) := fun F σ B H k R f k' e D q => by
  obtain ⟨r, k1, e1, e2⟩ := bnd_some e
  obtain ⟨rfl, rfl⟩ := pur_some e2
  exact h F σ B H k R r _ e1 _ fun cls d B' H' R' g ro => q cls d σ B' H' (R'.le hl) g ro
end
end ON

set_option Elab.async false
set_option linter.all false
set_option maxRecDepth 100000
set_option maxHeartbeats 2000000
/-! N16: parts of tuples, targets, what the printer wants besides; error classes. -/
namespace ON
open PySem PySem.Spec PyProof.Rows L2
section
variable {K : PySem.W.Frag} {m : Type → Type} [Mn m] {α β γ δ ε ζ τ τ' l ρ : Type} {sd sd' : List SD} {ta tb te tk ti : TE} {W : Wr} {post : τ → List SD} {postL : l → List SD} {ts tu : TS}
/-- x[i] of a tuple of a type of its own, i written -/
theorem em_fldT [Enc α] [Enc β] {x : m α} {i : Int} (pr : α → β) (h : EvM K ta sd x) (hp : ∀ a, ∃ ds, enc a = .tup ds ∧ atI ds i = some (enc (pr a))) : EvM K (tOp (rIxT K) ta (tC (.int i))) sd (Mn.bnd x fun a => Mn.pur (pr a)) := fun F σ B H k R b k' e Q q => by
  obtain ⟨a, k1, e1, e2⟩ := bnd_some e
  obtain ⟨rfl, rfl⟩ := pur_some e2
  refine h F σ B H k R a _ e1 _ fun v B1 H1 R1 g1 r1 => ?_
  obtain ⟨ds, hd, hx⟩ := hp a
  rw [hd] at r1
  obtain ⟨p, xs, rfl, hq, hs⟩ := Rp.tup_inv r1
  obtain ⟨w, hw, rw_⟩ := atI_rps hs hx
  exact ⟨p, xs, i, w, rfl, rfl, R1.bh.sqT hq, hw, q w B1 H1 R1 g1 rw_⟩
theorem em_fldN [Enc α] [Enc β] {x : m α} {i : Int} (pr : α → β) (h : EvM K ta sd x) (hp : ∀ a, ∃ ds, enc a = .tup ds ∧ atI ds (-i) = some (enc (pr a))) : EvM K (tOp (rIxT K) ta (tUn (rU fun i => .int (-i)) (tC (.int i)))) sd (Mn.bnd x fun a => Mn.pur (pr a)) := fun F σ B H k R b k' e Q q => by
  obtain ⟨a, k1, e1, e2⟩ := bnd_some e
  obtain ⟨rfl, rfl⟩ := pur_some e2
  refine h F σ B H k R a _ e1 _ fun v B1 H1 R1 g1 r1 => ?_
  obtain ⟨ds, hd, hx⟩ := hp a
  rw [hd] at r1
  obtain ⟨p, xs, rfl, hq, hs⟩ := Rp.tup_inv r1
  obtain ⟨w, hw, rw_⟩ := atI_rps hs hx
  exact ⟨i, rfl, p, xs, -i, w, rfl, rfl, R1.bh.sqT hq, hw, q w B1 H1 R1 g1 rw_⟩
/-- a tuple display as a value of a type of its own -/
theorem em_tupN [Enc β] {tr : TA} {y : m α} {g : α → List D} (f : α → β) (h : EvA K tr sd y g) (hg : ∀ b, enc (f b) = .tup (g b)) {n : Nat} (hl : ∀ b, (g b).length = n := by intro _; rfl) (hn : n ≤ 1000 := by decide) : EvM K (tTup tr) sd (Mn.bnd y fun b => Mn.pur (f b)) := fun F σ B H k R c k' e Q q => by
  obtain ⟨b, k1, e1, e2⟩ := bnd_some e
  obtain ⟨rfl, rfl⟩ := pur_some e2
  exact h F σ B H k R b _ e1 _ fun vs B1 H1 R1 g1 r1 => ⟨by rw [r1.len, hl]; exact Nat.le_trans hn (by decide), fun p hp => by
    obtain ⟨R2, g2⟩ := R1.data (o := .tup vs) hp
    exact q (.ref p) _ _ R2 (g1.trans g2) (by rw [hg]; exact .tup (.inl (.inl upd_same)) (r1.gr g2))⟩
theorem om_ixSc {a : Sc} {i : Int} : OpM K (rIxL K) a i (lift (atI a.ns i) : m Int) := fun F σ B H sd k R va vb ra rb c k' e Q q => by
  obtain ⟨hc, rfl⟩ := lift_some e
  obtain ⟨p, rfl, hp⟩ := Rp.scr_inv (ns := a.ns) ra
  exact ⟨p, _, i, .int c, rfl, Rp.int_inv rb, R.bh.sqL hp, by rw [atI_map, hc] <;> rfl, q _ B H R (Gr.refl B) (.int _)⟩
theorem eg_t3 [Enc α] [Enc β] [Enc γ] {i j n : Nat} {p : T3 α β γ} : EvG K (gTup K 3 (gCons (gName i) (gCons (gName j) (gCons (gName n) gNil)))) sd p (((sd.set i (.dat (enc p.a))).set j (.dat (enc p.b))).set n (.dat (enc p.c))) [i, j, n] := fun F σ B H k v R r Q q => by
  obtain ⟨a, xs, rfl, hp, hs⟩ := Rp.tup_inv r
  cases hs with | cons h1 hs => cases hs with | cons h2 hs => cases hs with | cons h3 hs =>
    cases hs
    refine ⟨a, _, rfl, R.bh.sqT hp, rfl, _, _, rfl, _, _, rfl, _, _, rfl, rfl, ?_⟩
    refine q _ (((R.setDat h1).setDat h2).setDat h3) fun vs h => ?_
    rw [wipe_set (h n (by simp)), wipe_set (h j (by simp)), wipe_set (h i (by simp))]
theorem eg_t4 [Enc α] [Enc β] [Enc γ] [Enc δ] {i j n o : Nat} {p : T4 α β γ δ} : EvG K (gTup K 4 (gCons (gName i) (gCons (gName j) (gCons (gName n) (gCons (gName o) gNil))))) sd p ((((sd.set i (.dat (enc p.a))).set j (.dat (enc p.b))).set n (.dat (enc p.c))).set o (.dat (enc p.d))) [i, j, n, o] := fun F σ B H k v R r Q q => by
  obtain ⟨a, xs, rfl, hp, hs⟩ := Rp.tup_inv r
  cases hs with | cons h1 hs => cases hs with | cons h2 hs => cases hs with | cons h3 hs => cases hs with | cons h4 hs =>
    cases hs
    refine ⟨a, _, rfl, R.bh.sqT hp, rfl, _, _, rfl, _, _, rfl, _, _, rfl, _, _, rfl, rfl, ?_⟩
    refine q _ ((((R.setDat h1).setDat h2).setDat h3).setDat h4) fun vs h => ?_
    rw [wipe_set (h o (by simp)), wipe_set (h n (by simp)), wipe_set (h j (by simp)), wipe_set (h i (by simp))]
/-- an owned list grows; the rest told of any list -/
theorem es_appG [Rt ρ] [Enc α] {i : Nat} {xs : List α} {y : m α} {f : List α → m (Fl τ l ρ)} (hi : sd[i]? = some (.own (.lst .dat) (enc xs))) (h : EvM K te sd y) (hf : ∀ zs, EvS K W tu (sd.set i (.own (.lst .dat) (enc zs))) post postL (f zs)) :
    EvS K W (tSeq (tDrop (tBM K "list" rAppend (tVar i) (tCons te tNil))) tu) sd post postL (Mn.bnd y fun a => gd (xs.length < 100000) (f (xs ++ [a]))) := es_app hi h fun a => hf _
theorem finF_some [Enc ρ] {s : Sh} {x : Option (Fl Empty Empty (Fw s ρ))} {r : ρ} (h : (fin x).map Fw.r = some r) : x = some (.rt ⟨r⟩) := by
  obtain ⟨z, hz, rfl⟩ := Option.map_eq_some_iff.mp h
  exact fin_some hz
def Xr.unF {s : Sh} : Xr (Fw s ρ) → Xr ρ
  | .ok z => .ok z.r
  | .er e => .er e
theorem finXF_some [Enc ρ] {s : Sh} {x : Option (Fl Empty Empty (Xr (Fw s ρ)))} {r : Xr ρ} (h : (fin x).map Xr.unF = some r) : x = some (.rt (match (generalizing := false) r with | .ok z => .ok ⟨z⟩ | .er e => .er e)) := by
  obtain ⟨z, hz, e⟩ := Option.map_eq_some_iff.mp h
  rw [fin_some hz]
  subst e
  cases z <;> rfl
end
/-! ### error classes -/
/-- what is wished of an own class whose __init__ says super().__init__(f'..') and keeps its field -/
structure ErrC (P : Program) (K : PySem.W.Frag) (mg : Str → Option Value) (n fl : Str) (C : Addr) : Prop where
  mg : mg n = some (.ref C)
  ns : PySem.W.nsIn K mainGlobals n = some (some (.ref C))
  keep : PySem.W.keepIn K (.ref C) = true
  sb : PySem.W.subIn K (.ref C) (.type "BaseException") = some true
  ty : PySem.W.typeIn K (.ref C) = some (.type "type")
  xf : XfC K C
  nof : PySem.W.findIn K (.ref C) fl = some none
  ec : EC K C
theorem ErrC.raises {P : Program} {K : PySem.W.Frag} {mg : Str → Option Value} {n fl : Str} {C : Addr} (h : ErrC P K mg n fl C) {X : Cx} (e : X.K = K) : Raises X (.ref C) := by
  subst e; exact raises_own h.sb h.ty
/-- ints can stand in the braces -/
def isI (v : V) : Prop := ∃ i : Int, v = .int i ∧ i.natAbs.log2 < 1920
end ON

set_option Elab.async false
set_option linter.all false
set_option maxRecDepth 100000
set_option maxHeartbeats 2000000
namespace ON
open PySem PySem.Spec PyProof.Rows L2
def okI (i : Int) : Prop := i.natAbs.log2 < 1920
instance : DecidablePred okI := fun i => by unfold okI; exact inferInstance
theorem ho_isI {K : PySem.W.Frag} : ∀ (a : Int) (B : Hp) (v : V), okI a → Rp K B v (enc a) → isI v := fun a B v h r => ⟨a, Rp.int_inv r, h⟩
theorem fmt_isI {P : Program} {w : World} : ∀ (H : Hp) (h : Heap) (v : V) (u : Value), HOk P w H h → isI v → RelV v u → Fmt P w h u := fun H h v u _ hi r => by
  obtain ⟨i, rfl, hl⟩ := hi
  obtain ⟨t, rfl⟩ := r
  intro A E s Q _ q
  refine PySem.wpAny_formatField_int hl ?_
  refine q (Str.ofString (toString i)) _ _ ?_
  have e := int_text_length_le (k := 1920) (by decide) hl
  rw [PySem.ofString_length]; omega
end ON
namespace ON
def prL {α β : Type} : Option α ⊕ β → Option α
  | .inl o => o
  | .inr _ => none
theorem prL_ok {α β : Type} [Enc α] [Enc β] (hα : ∀ a : α, (enc a).sc = false) (b : Option α ⊕ β) (a : α) (h : prL b = some a) : enc b = enc a ∧ (enc a).sc = false := by
  cases b with
  | inl o => cases o with
    | none => cases h
    | some x => cases h; exact ⟨rfl, hα _⟩
  | inr _ => cases h
end ON

set_option Elab.async false
set_option linter.all false
set_option maxRecDepth 100000
set_option maxHeartbeats 400000
namespace ON
open PySem PySem.Spec PyProof.Rows L2
/-- try: body; except c as (slot i): (slot j) = (slot i) -/
theorem ps_tryM {X : Cx} {x n : Str} {c : Value} {i j : Nat} {body suite : List Stmt} {b₀ : Stmt} {np pos pos' : Pos} {tb : WX → TS}
    (hs : X.stack = X.env :: X.outer) (hf : X.env.frame = some X.env.locals) (hex : X.ex = []) (hN : X.N.Nodup) (hi : X.N[i]? = some n) (hln : X.env.kindOf n = some .local) (hc : Names X x c)
    (hb : ∀ (W : WX) (pn : List (Addr × Obj)) (xe : Value → Shared → Prop), Takes (X.tr pn xe) W → PassesOwn (model X.prog X.w) X.A X.env xe → PSs (X.tr pn xe) body (tb W))
    (hsu : ∀ (a : Addr) (oe : Obj) (cls : Value) (d : Option Addr) (pn : List (Addr × Obj)), Zc cls d oe → (∃ vs, oe.data = .fields vs) → PSs (X.suite a ((a, oe) :: pn)) (b₀ :: suite) (tAsg (tVar i) (gName j))) :
    PS X (.Try body [.ExceptHandler (some (.Name x np)) (some n) (b₀ :: suite) pos'] [] [] pos) (tTryK X.K c i j tb) :=
  ps_try_keep (ts := fun _ _ _ => tAsg (tVar i) (gName j)) hs hf hex hN hi hln hc hb hsu
section
variable {K : PySem.W.Frag} {m : Type → Type} [Mn m] {α β γ τ τ' τ'' l ρ : Type} {sd : List SD} {ta te : TE} {W : Wr} {post : τ → List SD} {postL : l → List SD} {ts tu : TS}
theorem es_setXG [Enc α] [Enc ρ] {s0 : Sh} {i : Nat} {x : m (Xr α)} {f : α → m (Fl τ l (Xr (Fw s0 ρ)))} (h : EvX K W .dat te sd x) (hl : Le sd W.sd) (hf : ∀ a, EvS K W tu (sd.set i (.dat (enc a))) post postL (f a)) : EvS K W (tSeq (tAsg te (gName i)) tu) sd post postL (xbnd x f) := fun F σ B H k R r k' e D q => by
  unfold xbnd at e
  obtain ⟨a, k1, e1, e2⟩ := bnd_some e
  cases a with
  | ok a => exact h F σ B H k R _ k1 e1 _ (fun b hb v B' H' R' g => by cases hb; obtain ⟨B2, R2, g2, rv⟩ := R'.frzX rfl; exact hf a F _ B2 H' k1 (R2.setDat rv) r k' e2 D (q.gr (g.trans g2))) fun e he => by cases he
  | er e3 =>
    obtain ⟨rfl, rfl⟩ := pur_some e2
    exact h F σ B H k R _ _ e1 _ (fun b hb => by cases hb) fun e4 he cls d B' H' R' g ro => by cases he; exact q cls d σ B' H' (R'.le hl) g ro
theorem es_dropXG [Enc α] [Enc ρ] {s0 : Sh} {x : m (Xr α)} {f : α → m (Fl τ l (Xr (Fw s0 ρ)))} (h : EvX K W .dat te sd x) (hl : Le sd W.sd) (hf : ∀ a, EvS K W tu sd post postL (f a)) : EvS K W (tSeq (tDrop te) tu) sd post postL (xbnd x f) := fun F σ B H k R r k' e D q => by
  unfold xbnd at e
  obtain ⟨a, k1, e1, e2⟩ := bnd_some e
  cases a with
  | ok a => exact h F σ B H k R _ k1 e1 _ (fun b hb v B' H' R' g => by cases hb; exact hf a F _ B' H' k1 R'.pop r k' e2 D (q.gr g)) fun e he => by cases he
  | er e3 =>
    obtain ⟨rfl, rfl⟩ := pur_some e2
    exact h F σ B H k R _ _ e1 _ (fun b hb => by cases hb) fun e4 he cls d B' H' R' g ro => by cases he; exact q cls d σ B' H' (R'.le hl) g ro
theorem es_setXFG [Enc α] [Enc ρ] {s0 : Sh} {s : Sh} {i : Nat} {x : m (Xr α)} {f : α → m (Fl τ l (Xr (Fw s0 ρ)))} (h : EvX K W s te sd x) (hl : Le sd W.sd) (hf : ∀ a, EvS K W tu (sd.set i (.own s (enc a))) post postL (f a)) : EvS K W (tSeq (tAsg te (gName i)) tu) sd post postL (xbnd x f) := fun F σ B H k R r k' e D q => by
  unfold xbnd at e
  obtain ⟨a, k1, e1, e2⟩ := bnd_some e
  cases a with
  | ok a => exact h F σ B H k R _ k1 e1 _ (fun b hb v B' H' R' g => by cases hb; exact hf a F _ B' H' k1 R'.toSlot r k' e2 D (q.gr g)) fun e he => by cases he
  | er e3 =>
    obtain ⟨rfl, rfl⟩ := pur_some e2
    exact h F σ B H k R _ _ e1 _ (fun b hb => by cases hb) fun e4 he cls d B' H' R' g ro => by cases he; exact q cls d σ B' H' (R'.le hl) g ro
theorem es_tryF [Enc ρ] {s0 : Sh} {c : Value} {i j : Nat} {names : List Str} {mg : τ' ⊕ Er → τ} {tb : WX → TS} {xb : m (Fl τ' l (Xr (Fw s0 ρ)))} {sdE : List SD} {mid : τ' → List SD} (hij : i ≠ j) (hi : i < sdE.length)
    (hb : ∀ w : WX, EvS K ⟨w, sdE⟩ (tb w) sd mid postL xb) (hn : ∀ n ∈ names, ∀ C, PySem.W.nsIn K mainGlobals n = some (some (.ref C)) → PySem.W.exmOne K (.ref C) c = some true)
    (h1 : ∀ t, Le (mid t) (post (mg (.inl t)))) (h2 : ∀ e : Er, Le ((sdE.set j (.dat (enc e))).set i .un) (post (mg (.inr e)))) :
    EvS K W (tTryK K c i j tb) sd post postL (tryK names mg xb : m (Fl τ l (Fw s0 ρ))) := fun F σ B H k R f k' e D q => by
  unfold tryK at e
  obtain ⟨r, k1, e1, e2⟩ := bnd_some e
  refine hb _ F σ B H k R r k1 e1 D ?_
  cases r with
  | nx t => obtain ⟨rfl, rfl⟩ := pur_some e2; exact fun σ' B' H' R' g => q σ' B' H' (R'.le (h1 t)) g
  | bk t => obtain ⟨rfl, rfl⟩ := pur_some e2; exact q
  | ct t => obtain ⟨rfl, rfl⟩ := pur_some e2; exact q
  | rt z =>
    cases z with
    | ok z => obtain ⟨rfl, rfl⟩ := pur_some e2; exact q
    | er z =>
      obtain ⟨hm, e3⟩ := gd_some e2
      obtain ⟨rfl, rfl⟩ := pur_some e3
      intro cls d σ' B' H' R' g ro
      have R0 : Rel K F σ' B' H' sdE _ := R'
      obtain ⟨C, hC, hcls, _⟩ := id ro
      refine ⟨by rw [hcls]; exact hn _ hm C hC, fun a ha => ?_⟩
      have li : i < σ'.length := by rw [← R0.len]; exact hi
      refine ⟨.ref a, List.getElem?_set_self li, fun _ => ?_⟩
      obtain ⟨R1, g1⟩ := R0.data (o := XO cls d a) ha
      have rk := (ro.gr g1).kept upd_same
      have R2 := ((R1.setDat (i := i) rk).setDat (i := j) rk).setUn (i := i) (o' := none)
      refine q _ _ _ (R2.le ?_) (g.trans g1)
      rw [List.set_comm _ _ hij, List.set_set]
      exact h2 z
end
end ON

set_option Elab.async false
set_option linter.all false
set_option maxRecDepth 100000
set_option maxHeartbeats 400000
/-! N19: a dict locked for good is data. -/
namespace ON
open PySem PySem.Spec PyProof.Rows L2
def tLkE (t : TE) : TE := fun σ H Q => t σ H fun v H1 => ∃ d u, v = .ref d ∧ H1 d = some u ∧ Mut (some u) ∧ ∀ od, Q v (upd H1 d (.frz od u))
theorem pe_lk {X : Cx} {e : Expr} {t : TE} (h : PE X e t) : PE X e (tLkE t) := by
  refine ⟨fun pins s σ H Q I hw => ?_⟩
  refine thn (h.run pins s σ _ _ I hw) fun v s1 ⟨x, H1, I2, r, e2⟩ => ?_
  obtain ⟨d, u, rfl, hd, mu, q⟩ := e2
  obtain ⟨od, I3⟩ := I2.lock hd mu
  exact ⟨_, _, I3, r, q od⟩
section
variable {K : PySem.W.Frag} {m : Type → Type} [Mn m] {α β γ τ τ' l ρ κ : Type} {sd sd' : List SD} {ta tb te tk ti : TE} {W : Wr} {post : τ → List SD} {postL : l → List SD} {ts tu : TS}
theorem ef_dnil [IsKey κ] [Enc α] : EvF K (.dic .dat) tDNewK sd (Mn.pur ⟨[]⟩ : m (Dc κ α)) := fun F σ B H k R c k' e Q q => by
  obtain ⟨rfl, rfl⟩ := pur_some e
  exact fun p hp => q _ B _ (R.newD (ks := []) (vs := []) (ds := []) hp rfl .nil) (Gr.refl B)
theorem Rel.lock {F : Fr} {σ : L2.St} {B H : Hp} {k : Int} {v : V} {d : D} (R : Rel K (F.push v (.dic .dat) d) σ B H sd k) : ∃ a u, v = .ref a ∧ H a = some u ∧ Mut (some u) ∧ ∀ od, ∃ B', Rel K F σ B' (upd H a (.frz od u)) sd k ∧ Gr B B' ∧ Rp K B' v d := by
  obtain ⟨f, w, nd, hf, q⟩ := R.top
  obtain ⟨a, ks, vs, ds, rfl, rfl, rfl, hl, ha, r⟩ := ow_dicd.mp w
  refine ⟨a, _, rfl, ha, trivial, fun od => ?_⟩
  have hb : B a = none := (hf a (List.mem_singleton.mpr rfl)).1
  have g : Gr B (upd B a (.frz od (.dK (ks.zip vs)))) := Gr.new hb
  refine ⟨upd B a (.frz od (.dK (ks.zip vs))), (q _ (upd H a (.frz od (.dK (ks.zip vs)))) (fun b u nb e => by rw [upd_ne (fun z => nb (List.mem_singleton.mpr z))]; exact e) g (fun b u e => ?_) fun b u e e0 => ?_).1, g, ?_⟩
  · by_cases c : b = a
    · subst c; rw [upd_same] at e ⊢; exact e
    · rw [upd_ne c] at e ⊢; exact R.bh b u e
  · by_cases c : b = a
    · exact .inl (List.mem_singleton.mpr c)
    · rw [upd_ne c, e0] at e; cases e
  · exact .dic hl upd_same (r.gr g)
theorem em_lk [IsKey κ] [Enc α] {x : m (Dc κ α)} (h : EvF K (.dic .dat) te sd x) : EvM K (tLkE te) sd x := fun F σ B H k R a k' e Q q => by
  refine h F σ B H k R a k' e _ fun v B' H' R' g => ?_
  obtain ⟨d, u, rfl, hd, mu, z⟩ := R'.lock
  refine ⟨d, u, rfl, hd, mu, fun od => ?_⟩
  obtain ⟨B2, R2, g2, r2⟩ := z od
  exact q _ B2 _ R2 (g.trans g2) r2
end
end ON

set_option Elab.async false
set_option linter.all false
set_option maxRecDepth 100000
set_option maxHeartbeats 1000000
/-! N20: what the names of a state look like -/
namespace ON
open PySem PySem.Spec PyProof.Rows L2
/-- small letters alone -/
def Low (y : Str) : Prop := y.cps.toList.all (fun c => decide (97 ≤ c ∧ c ≤ 122)) = true
instance (y : Str) : Decidable (Low y) := by unfold Low; exact inferInstance
theorem Low.app {a b : Str} (h : Low a) (g : Low b) : Low (a ++ b) := by
  unfold Low at *
  have e : (a ++ b).cps.toList = a.cps.toList ++ b.cps.toList := by
    show (a.cps ++ b.cps).toList = _
    simp
  rw [e, List.all_append, h, g]; rfl
theorem joinL_all (f : Nat → Bool) : ∀ ps : List (List Nat), (∀ p ∈ ps, p.all f = true) → (TL.joinL [] ps).all f = true
  | [], _ => rfl
  | [p], h => by simpa [TL.joinL] using h p (.head _)
  | p :: q :: r, h => by
    rw [TL.joinL, List.all_append, List.all_append, h p (.head _), joinL_all f (q :: r) fun z hz => h z (.tail _ hz)]; rfl
theorem join_l (ys : List Str) : (Txt.join ("" : Str) ys).cps.toList = TL.joinL [] (ys.map fun y => y.cps.toList) := by rw [TL.join_eq]; exact TL.tl_join ("" : Str) ys
theorem Low.join {ys : List Str} (h : ∀ y ∈ ys, Low y) : Low (Txt.join ("" : Str) ys) := by
  unfold Low
  rw [join_l]
  refine joinL_all _ _ fun p hp => ?_
  obtain ⟨y, hy, rfl⟩ := List.mem_map.mp hp
  exact h y hy
theorem cut_all {f : Nat → Bool} {x : Str} {lo hi : Option Int} (h : x.cps.toList.all f = true) : (cutT x lo hi).cps.toList.all f = true := by
  unfold cutT cutS
  rw [List.all_eq_true] at h ⊢
  exact fun c hc => h c (List.mem_of_mem_drop (List.mem_of_mem_take hc))
theorem Low.cut {x : Str} {lo hi : Option Int} (h : Low x) : Low (cutT x lo hi) := cut_all h
theorem Low.ok {x : Str} (h : Low x) : PyData.strOk x = true := by
  unfold Low at h
  show x.cps.all _ = true
  rw [← Array.all_toList]
  rw [List.all_eq_true] at h ⊢
  intro c hc
  have := of_decide_eq_true (h c hc)
  exact decide_eq_true (by omega)
theorem cut_len (x : Str) (lo hi : Option Int) : (cutT x lo hi).length = min (HT.sIx x.length x.length hi - HT.sIx x.length 0 lo) (x.length - HT.sIx x.length 0 lo) := by
  show (List.toArray _).size = _
  rw [List.size_toArray, List.length_take, List.length_drop, Array.length_toList]; rfl
theorem cut_two (x : Str) (a : Int) (h : 0 ≤ a) : (cutT x none (some a)).length + (cutT x (some a) none).length ≤ x.length := by
  obtain ⟨j, rfl⟩ : ∃ j : Nat, a = (j : Int) := ⟨a.toNat, by omega⟩
  rw [cut_len, cut_len, HT.sIx_nat, HT.sIx_nat, HT.sIx_none, HT.sIx_none]
  have := Nat.min_le_right j x.length
  omega
theorem bg_W2 (c : List Int) (hc : c.length ≤ 1000) : W (bgM bg2 bg3 bg4 c) 0 fun ns k => 0 ≤ k ∧ k ≤ 100 ∧ ns.length = 24 ∧ ∀ y ∈ ns, 1 ≤ y.length ∧ y.length ≤ 8 ∧ Low y := by
  have sz : 100000 < sizeLine := by decide
  unfold bgM
  refine W.bnd ?_
  unfold bg2
  refine W.bnd (W.bnd (W.bnd (W.bnd (W.pur (W.nx hc (by decide) (by decide) fun n n0 n1 => ?_)))))
  refine W.gd (by omega) (W.pur ?_)
  have hl := upTo_len 0 1 n.toNat
  refine W.gd (by rw [hl]; omega) (W.compL (Q := fun y : Str => y.length = 1 ∧ Low y) 1 _ _ (fun k x k0 k1 _ => ?_) (by decide) (by decide) fun ys k' h1 h2 h3 h4 => ?_)
  · refine W.bnd (W.pur (W.bnd (W.bnd (W.pur (W.nx hc (by rw [hl] at k1; omega) (by decide) fun r r0 r1 => ?_)))))
    refine W.gd (by decide) (W.bnd ?_)
    have hr : ∃ z, atI (Array.toList (Str.cps ("qzjv" : Str))) r = some z ∧ Low (sgn z) := by
      have : r = 0 ∨ r = 1 ∨ r = 2 ∨ r = 3 := by omega
      rcases this with rfl | rfl | rfl | rfl <;> exact ⟨_, rfl, by decide +kernel⟩
    obtain ⟨z, hz, hlow⟩ := hr
    exact W.lift hz (W.pur ⟨⟨rfl, hlow⟩, by omega, by omega⟩)
  rw [hl] at h1 h4
  have hs := sum_ones ys fun y hy => (h2 y hy).1
  have hlw : Low (Txt.join ("" : Str) ys) := Low.join fun y hy => (h2 y hy).2
  have e0 : Str.length ("" : Str) = 0 := rfl
  refine W.gd (by rw [e0]; omega) (W.pur (W.bnd ?_))
  have hj := join_len ys
  unfold bg3
  refine W.bnd (W.bnd (W.bnd (W.pur (W.gd (by omega) (W.pur (W.bnd (W.pur (W.pur (W.nx hc (by omega) (by omega) fun a a0 a1 => ?_)))))))))
  unfold bg4
  refine W.bnd (W.bnd (W.pur (W.pur (W.gd (by decide) (W.compL (Q := fun y : Str => 1 ≤ y.length ∧ y.length ≤ 8 ∧ Low y) 20 _ _ (fun k x k0 k1 hx => ?_) (by omega) (by omega) fun ns k2 g1 g2 g3 g4 => ?_)))))
  · have hx1 : x.length = 1 ∧ Low x := by
      have key : ∀ x ∈ List.map sgn (Array.toList (Str.cps ("mcxgtaqerbvkdunhspjfwlio" : Str))), x.length = 1 ∧ Low x := by decide +kernel
      exact key x hx
    obtain ⟨hx1, hxl⟩ := hx1
    have cl : ∀ lo hi, (cutT (Txt.join ("" : Str) ys) lo hi).length ≤ (Txt.join ("" : Str) ys).length := fun lo hi => by
      unfold cutT cutS Str.length
      rw [List.size_toArray, List.length_take, List.length_drop, Array.length_toList]
      omega
    have c1 := cl none (some a)
    have c2 := cl (some a) none
    have q1 : (Txt.join ("" : Str) ys).length ≤ sizeLine := by omega
    have q2 : (cutT (Txt.join ("" : Str) ys) none (some a)).length + x.length ≤ sizeLine := by omega
    have q3 : (cutT (Txt.join ("" : Str) ys) none (some a) ++ x).length + (cutT (Txt.join ("" : Str) ys) (some a) none).length ≤ sizeLine := by rw [Str.length_append]; omega
    simp only [pbS, gd_y q1, gd_y q2, gd_y q3]
    have c3 := cut_two (Txt.join ("" : Str) ys) a a0
    have hjl : (Txt.join ("" : Str) ys).length ≤ 7 := by omega
    exact W.pur ⟨⟨by rw [Str.length_append, Str.length_append]; omega, by rw [Str.length_append, Str.length_append]; omega, (hlw.cut.app hxl).app hlw.cut⟩, by omega, by omega⟩
  · have e24 : (List.map sgn (Array.toList (Str.cps ("mcxgtaqerbvkdunhspjfwlio" : Str)))).length = 24 := rfl
    rw [e24] at g1 g4
    exact ⟨by omega, by omega, g1, g2⟩
theorem W.begun2 {ρ : Type} [Enc ρ] {c : List Int} {f : List Str → Sm (Fl Empty Empty ρ)} {k : Int} {P : Fl Empty Empty ρ → Int → Prop} (hc : c.length ≤ 1000) (h : ∀ ns k, 0 ≤ k → k ≤ 100 → ns.length = 24 → (∀ y ∈ ns, 1 ≤ y.length ∧ y.length ≤ 8 ∧ Low y) → W (f ns) k P) : W (ON.begun bgF c f) k P := by
  obtain ⟨ns, k0, e, h1, h2, h3, h4⟩ := bg_W2 c hc
  obtain ⟨a, k', e2, p⟩ := h ns k0 h1 h2 h3 h4
  refine ⟨a, k', ?_, p⟩
  unfold ON.begun bgF
  rw [if_pos hc, e]
  exact e2
end ON

set_option Elab.async false
set_option linter.all false
set_option maxRecDepth 100000
set_option maxHeartbeats 400000
/-! N21: int(text), x.index(text), dicts of the top with text keys, tuples put together. -/
namespace ON
open PySem PySem.Spec PyProof.Rows L2
section
variable {K : PySem.W.Frag} {w : World} {m : Type → Type} [Mn m] {α β γ τ τ' l ρ κ : Type} {sd sd' : List SD} {ta tb te tk ti : TE} {W : Wr} {post : τ → List SD} {postL : l → List SD} {ts tu : TS}
/-! ### int(text) -/
def rIntT : List V → Hp → VK → Prop := fun xs H Q => ∃ a n, xs = [.str a] ∧ PySem.intText? a = some n ∧ a.length ≤ 640 ∧ Q (.int n) H
theorem cr_intT {X : Cx} : CallR X (.type "int") rIntT := call_int_str
def intT (a : Str) : Option Int := PySem.intText? a
theorem em_intT {x : m Str} (h : EvM K te sd x) : EvM K (tCB rIntT (tCons te tNil)) sd (Mn.bnd x fun a => gd (a.length ≤ 640) (lift (intT a) : m Int)) := em_cb1 h fun F σ B H k a v R r b k' e Q q => by
  obtain ⟨hg, e⟩ := gd_some e
  obtain ⟨hc, rfl⟩ := lift_some e
  rw [Rp.str_inv r]
  exact ⟨a, b, rfl, hc, hg, q _ B H R (Gr.refl B) (.int _)⟩
/-! ### a dict of the top, its keys texts -/
structure KTab (K : PySem.W.Frag) (w : World) (d : Addr) [Enc α] (c : Dc Str α) : Prop where
  kd : ∃ es n, KDict K w d es n
  no : ∀ z, c.l.lookup z = none → PySem.W.nsIn K d z = some none
  yes : ∀ z a, c.l.lookup z = some a → ∃ u v, PySem.W.nsIn K d z = some (some u) ∧ RelV v u ∧ ∀ B, Rp K B v (enc a)
def rInK (K : PySem.W.Frag) (d : Addr) : R2 := fun x y H Q => ∃ (z : Str) (r : Option Value), x = .str z ∧ y = .ref d ∧ PySem.W.nsIn K d z = some r ∧ Q (.bl r.isSome) H
def rNinK (K : PySem.W.Frag) (d : Addr) : R2 := fun x y H Q => ∃ (z : Str) (r : Option Value), x = .str z ∧ y = .ref d ∧ PySem.W.nsIn K d z = some r ∧ Q (.bl (!r.isSome)) H
theorem or_inK {X : Cx} [Enc α] {d : Addr} {c : Dc Str α} (T : KTab X.K X.w d c) : OpR X (compareOp .In) (rInK X.K d) := by
  obtain ⟨es, n, D⟩ := T.kd
  exact op_in_kd D
theorem or_ninK {X : Cx} [Enc α] {d : Addr} {c : Dc Str α} (T : KTab X.K X.w d c) : OpR X (compareOp .NotIn) (rNinK X.K d) := by
  obtain ⟨es, n, D⟩ := T.kd
  exact op_notIn_kd D
theorem KTab.r [Enc α] {d : Addr} {c : Dc Str α} (T : KTab K w d c) (z : Str) : ∃ r, PySem.W.nsIn K d z = some r ∧ r.isSome = (c.l.lookup z).isSome := by
  cases e : c.l.lookup z with
  | none => exact ⟨none, T.no z e, rfl⟩
  | some a => obtain ⟨u, v, h, _⟩ := T.yes z a e; exact ⟨some u, h, rfl⟩
theorem em_inK [Enc α] {d : Addr} {c : Dc Str α} {x : m Str} (T : KTab K w d c) (h : EvM K te sd x) : EvM K (tOp (rInK K d) te (tC (.ref d))) sd (Mn.bnd x fun z => Mn.pur (c.l.lookup z).isSome) := fun F σ B H k R b k' e Q q => by
  obtain ⟨z, k1, e1, e2⟩ := bnd_some e
  obtain ⟨rfl, rfl⟩ := pur_some e2
  refine h F σ B H k R z _ e1 _ fun v B' H' R' g r => ?_
  rw [Rp.str_inv r]
  obtain ⟨r, hr, hs⟩ := T.r z
  exact ⟨z, r, rfl, rfl, hr, by rw [hs]; exact q _ B' H' R' g (.bl _)⟩
theorem em_ninK [Enc α] {d : Addr} {c : Dc Str α} {x : m Str} (T : KTab K w d c) (h : EvM K te sd x) : EvM K (tOp (rNinK K d) te (tC (.ref d))) sd (Mn.bnd x fun z => Mn.pur (!(c.l.lookup z).isSome)) := fun F σ B H k R b k' e Q q => by
  obtain ⟨z, k1, e1, e2⟩ := bnd_some e
  obtain ⟨rfl, rfl⟩ := pur_some e2
  refine h F σ B H k R z _ e1 _ fun v B' H' R' g r => ?_
  rw [Rp.str_inv r]
  obtain ⟨r, hr, hs⟩ := T.r z
  exact ⟨z, r, rfl, rfl, hr, by rw [hs]; exact q _ B' H' R' g (.bl _)⟩
theorem em_getK [Enc α] {d : Addr} {c : Dc Str α} {x : m Str} (T : KTab K w d c) (h : EvM K te sd x) : EvM K (tOp (rIxD K w) (tC (.ref d)) te) sd (Mn.bnd x fun z => lift (c.l.lookup z) : m α) := fun F σ B H k R b k' e Q q => by
  obtain ⟨z, k1, e1, e2⟩ := bnd_some e
  obtain ⟨hc, rfl⟩ := lift_some e2
  refine h F σ B H k R z _ e1 _ fun v B' H' R' g r => ?_
  rw [Rp.str_inv r]
  obtain ⟨u, v0, h1, h2, h3⟩ := T.yes z b hc
  obtain ⟨es, n, D⟩ := T.kd
  exact ⟨d, z, v0, rfl, rfl, ⟨es, n, u, D.at_, D.lit, h1, h2⟩, q _ B' H' R' g (h3 B')⟩
/-! ### x.index(text) -/
def idxS : List Str → Str → Option Nat
  | [], _ => none
  | x :: xs, z => if x = z then some 0 else (idxS xs z).map (· + 1)
theorem idxS_ok : ∀ (xs : List Str) (z : Str) (j : Nat), idxS xs z = some j → (xs.map V.str)[j]? = some (.str z) ∧ ∀ (m : Nat) (z' : V), m < j → (xs.map V.str)[m]? = some z' → eqV z' (.str z) = false
  | [], _, _, h => by cases h
  | x :: xs, z, j, h => by
    rw [idxS] at h
    by_cases c : x = z
    · rw [if_pos c] at h; cases h; subst c
      exact ⟨rfl, fun m z' hm => by omega⟩
    · rw [if_neg c] at h
      cases e : idxS xs z with
      | none => rw [e] at h; cases h
      | some i =>
        rw [e] at h; cases h
        obtain ⟨h1, h2⟩ := idxS_ok xs z i e
        refine ⟨h1, fun m z' hm hz => ?_⟩
        cases m with
        | zero =>
          cases hz
          show (x == z) = false
          simpa using c
        | succ m => exact h2 m z' (Nat.lt_of_succ_lt_succ hm) hz
theorem em_indexL {x : m (List Str)} {y : m Str} (h : EvM K ta sd x) (h2 : EvM K tb sd y) : EvM K (tBM K "list" (rIndex K) ta (tCons tb tNil)) sd (Mn.bnd x fun xs => Mn.bnd y fun z => Mn.bnd (lift (idxS xs z)) fun j => Mn.pur ((j : Nat) : Int)) := fun F σ B H k R b k' e Q q => by
  obtain ⟨xs, k1, e1, e2⟩ := bnd_some e
  obtain ⟨z, k2, e3, e4⟩ := bnd_some e2
  obtain ⟨j, k3, e5, e6⟩ := bnd_some e4
  obtain ⟨hj, rfl⟩ := lift_some e5
  obtain ⟨rfl, rfl⟩ := pur_some e6
  refine h F σ B H k R xs _ e1 _ fun v B1 H1 R1 g1 r1 => ?_
  obtain ⟨p, vs, rfl, hp, hs⟩ := Rp.lst_inv r1
  have ez := Rps.strs (ns := xs) hs
  subst ez
  refine ⟨.inl ⟨rfl, _, .of (R1.bh _ _ hp)⟩, ?_⟩
  refine h2 F σ B1 H1 k1 R1 z _ e3 _ fun v B2 H2 R2 g2 r2 => ?_
  obtain ⟨i1, i2⟩ := idxS_ok xs z j hj
  rw [Rp.str_inv r2]
  exact ⟨p, _, .str z, j, .str z, rfl, rfl, .of (R2.bh _ _ (g2 _ _ hp)), rfl, flat_strs _, i1, by show (z == z) = true; simp, i2, q _ B2 H2 R2 (g1.trans g2) (.int _)⟩
/-! ### tuples put together -/
theorem Rps.appd {K : PySem.W.Frag} {B : Hp} : ∀ {vs ws : List V} {ds es : List D}, Rps K B vs ds → Rps K B ws es → Rps K B (vs ++ ws) (ds ++ es)
  | [], _, _, _, .nil, g => g
  | _ :: _, _, _, _, .cons h hs, g => .cons h (Rps.appd hs g)
theorem em_catT [Enc α] [Enc β] [Enc γ] {x : m α} {y : m β} {ga : α → List D} {gb : β → List D} (f : α → β → γ) (ha : ∀ a, enc a = .tup (ga a)) (hb : ∀ b, enc b = .tup (gb b)) (hc : ∀ a b, enc (f a b) = .tup (ga a ++ gb b)) (hl : ∀ a b, (ga a).length + (gb b).length ≤ 1000) (na : ∀ a, ga a ≠ []) (nb : ∀ b, gb b ≠ [])
    (h1 : EvM K ta sd x) (h2 : EvM K tb sd y) : EvM K (tOp (rCatA K) ta tb) sd (Mn.bnd x fun a => Mn.bnd y fun b => Mn.pur (f a b)) :=
  em_op h1 h2 fun a b F σ B H sd k R va vb ra rb c k' e Q q => by
    obtain ⟨rfl, rfl⟩ := pur_some e
    rw [ha] at ra
    rw [hb] at rb
    obtain ⟨p, vs, rfl, hp, hs⟩ := Rp.tup_inv ra
    obtain ⟨p2, vs2, rfl, hp2, hs2⟩ := Rp.tup_inv rb
    have l1 := hs.len
    have l2 := hs2.len
    have hn : ∀ {vs : List V} {ds : List D}, Rps K B vs ds → ds ≠ [] → vs ≠ [] := fun h hd z => by subst z; cases h; exact hd rfl
    refine ⟨p, p2, vs, vs2, rfl, rfl, R.bh.sqT hp, R.bh.sqT hp2, by rw [l1, l2]; exact Nat.le_trans (hl a b) (by decide), fun z => absurd z (hn hs (na a)), fun _ z => absurd z (hn hs2 (nb b)), fun _ _ q0 hq => ?_⟩
    obtain ⟨R2, g2⟩ := R.data (o := .tup (vs ++ vs2)) hq
    exact q (.ref q0) _ _ R2 g2 (by rw [hc]; exact .tup (.inl (.inl upd_same)) (Rps.appd (hs.gr g2) (hs2.gr g2)))
end
end ON

set_option Elab.async false
set_option linter.all false
set_option maxRecDepth 100000
set_option maxHeartbeats 400000
/-! N22: a list of three unpacked. -/
namespace ON
open PySem PySem.Spec PyProof.Rows L2
structure L3 (α : Type) where
  a : α
  b : α
  c : α
instance {α : Type} [Enc α] : Enc (L3 α) := ⟨fun x => .lst [enc x.a, enc x.b, enc x.c]⟩
def l3 {α : Type} : List α → Option (L3 α)
  | [a, b, c] => some ⟨a, b, c⟩
  | _ => none
theorem l3_ok {α : Type} [Enc α] : ∀ (xs : List α) (y : L3 α), l3 xs = some y → enc xs = enc y
  | [], _, h => by cases h
  | [_], _, h => by cases h
  | [_, _], _, h => by cases h
  | [a, b, c], y, h => by cases h; rfl
  | _ :: _ :: _ :: _ :: _, _, h => by cases h
section
variable {K : PySem.W.Frag} {α : Type} {sd : List SD}
theorem eg_l3 [Enc α] {i j n : Nat} {p : L3 α} : EvG K (gUnl K 3 (gCons (gName i) (gCons (gName j) (gCons (gName n) gNil)))) sd p (((sd.set i (.dat (enc p.a))).set j (.dat (enc p.b))).set n (.dat (enc p.c))) [i, j, n] := fun F σ B H k v R r Q q => by
  obtain ⟨a, xs, rfl, hp, hs⟩ := Rp.lst_inv r
  cases hs with | cons h1 hs => cases hs with | cons h2 hs => cases hs with | cons h3 hs =>
    cases hs
    refine ⟨a, _, rfl, .of (R.bh _ _ hp), rfl, _, _, rfl, _, _, rfl, _, _, rfl, rfl, ?_⟩
    refine q _ (((R.setDat h1).setDat h2).setDat h3) fun vs h => ?_
    rw [wipe_set (h n (by simp)), wipe_set (h j (by simp)), wipe_set (h i (by simp))]
end
end ON

set_option Elab.async false
set_option linter.all false
set_option maxRecDepth 100000
set_option maxHeartbeats 400000
/-! N23: truth of lists, a number in a list or tuple of numbers, a raising def that ends without a return. -/
namespace ON
open PySem PySem.Spec PyProof.Rows L2
section
variable {K : PySem.W.Frag} {m : Type → Type} [Mn m] {α β γ τ τ' l ρ : Type} {sd sd' : List SD} {ta tb te : TE} {W : Wr} {post : τ → List SD} {postL : l → List SD} {ts tu : TS}
/-! ### truth -/
def tTru (K : PySem.W.Frag) (ta : TE) : TT := fun σ H Q => ta σ H fun x H' => ∃ k, TruV K x H' k ∧ Q k H'
theorem pt_tru {X : Cx} {a : Expr} {ta : TE} (ha : PE X a ta) (he : ∀ whole, isTrue a X.env whole = (do let v ← whole; standAt a.pos; holding [v] (truthy v)) := by intro _; rfl) : PT X a (tTru X.K ta) := pt_truth ha he
theorem pe_notTru {X : Cx} {a : Expr} {ta : TE} {pos : Pos} (ha : PE X a ta) : PE X (.UnaryOp .Not a pos) (tNotT X.K ta) := pe_notT ha
theorem pt_truK {X : Cx} {K : PySem.W.Frag} {a : Expr} {ta : TE} (hK : X.K = K) (ha : PE X a ta) (he : ∀ whole, isTrue a X.env whole = (do let v ← whole; standAt a.pos; holding [v] (truthy v)) := by intro _; rfl) : PT X a (tTru K ta) := by subst hK; exact pt_truth ha he
theorem pe_notTruK {X : Cx} {K : PySem.W.Frag} {a : Expr} {ta : TE} {pos : Pos} (hK : X.K = K) (ha : PE X a ta) : PE X (.UnaryOp .Not a pos) (tNotT K ta) := by subst hK; exact pe_notT ha
theorem truL [Enc α] {F : Fr} {σ : L2.St} {B H : Hp} {k : Int} {xs : List α} {v : V} (R : Rel K F σ B H sd k) (r : Rp K B v (enc xs)) : TruV K v H (!xs.isEmpty) := by
  obtain ⟨p, vs, rfl, hp, hs⟩ := Rp.lst_inv r
  refine .inl ⟨vs, .of (R.bh _ _ hp), ?_⟩
  have := hs.len
  cases xs with
  | nil => cases vs with
    | nil => rfl
    | cons _ _ => simp at this
  | cons _ _ => cases vs with
    | nil => simp at this
    | cons _ _ => rfl
theorem eb_truL [Enc α] {x : m (List α)} (h : EvM K te sd x) : EvB K (tTru K te) sd (Mn.bnd x fun xs => Mn.pur (!xs.isEmpty)) := fun F σ B H k R b k' e Q q => by
  obtain ⟨xs, k1, e1, e2⟩ := bnd_some e
  obtain ⟨rfl, rfl⟩ := pur_some e2
  exact h F σ B H k R xs _ e1 _ fun v B' H' R' g r => ⟨_, truL R' r, q B' H' R' g⟩
theorem em_notL [Enc α] {x : m (List α)} (h : EvM K te sd x) : EvM K (tNotT K te) sd (Mn.bnd x fun xs => Mn.pur (!(!xs.isEmpty))) := fun F σ B H k R b k' e Q q => by
  obtain ⟨xs, k1, e1, e2⟩ := bnd_some e
  obtain ⟨rfl, rfl⟩ := pur_some e2
  exact h F σ B H k R xs _ e1 _ fun v B' H' R' g r => ⟨_, truL R' r, q _ B' H' R' g (.bl _)⟩
/-! ### a number in .. -/
theorem flat_ints (b : List Int) : (b.map V.int).all flatV = true := by
  rw [List.all_map]; exact List.all_eq_true.mpr fun x _ => rfl
theorem inV_ints (a : Int) (b : List Int) : inV (.int a) (b.map V.int) = decide (a ∈ b) := by
  unfold inV
  induction b with
  | nil => rfl
  | cons x b ih =>
    rw [List.map_cons, List.any_cons, ih]
    by_cases c : a = x
    · subst c
      have z : eqV (.int a) (.int a) = true := by show (a == a) = true; simp
      rw [z]; simp
    · have z : eqV (.int x) (.int a) = false := by show (x == a) = false; simpa using fun w => c w.symm
      rw [z]; simp [c]
theorem Rps.intsM {B : Hp} : ∀ {xs : List V} {ns : List Int}, Rps K B xs (ns.map .int) → xs = ns.map V.int
  | _, [], h => by cases h; rfl
  | _, n :: ns, h => by
    cases h with | cons h hs => rw [h.int_inv, Rps.intsM hs]; rfl
theorem om_inTI {a : Int} {b : Tl Int} : OpM K (rIn K false) a b (Mn.pur (decide (a ∈ b.l)) : m Bool) := fun F σ B H sd k R va vb ra rb c k' e Q q => by
  obtain ⟨rfl, rfl⟩ := pur_some e
  obtain ⟨p, xs, rfl, hs, rs⟩ := rb.tup_inv
  have ex : xs = b.l.map V.int := Rps.intsM (show Rps K B xs (b.l.map D.int) from rs)
  subst ex
  refine ⟨p, _, rfl, .inr (R.bh.sqT hs), by rw [ra.int_inv]; rfl, flat_ints _, ?_⟩
  rw [ra.int_inv, if_neg Bool.false_ne_true, inV_ints]
  exact q _ B H R (Gr.refl B) (.bl _)
theorem om_ninTI {a : Int} {b : Tl Int} : OpM K (rIn K true) a b (Mn.pur (!decide (a ∈ b.l)) : m Bool) := fun F σ B H sd k R va vb ra rb c k' e Q q => by
  obtain ⟨rfl, rfl⟩ := pur_some e
  obtain ⟨p, xs, rfl, hs, rs⟩ := rb.tup_inv
  have ex : xs = b.l.map V.int := Rps.intsM (show Rps K B xs (b.l.map D.int) from rs)
  subst ex
  refine ⟨p, _, rfl, .inr (R.bh.sqT hs), by rw [ra.int_inv]; rfl, flat_ints _, ?_⟩
  rw [ra.int_inv, if_pos rfl, inV_ints]
  exact q _ B H R (Gr.refl B) (.bl _)
theorem om_inLI {a : Int} {b : List Int} : OpM K (rIn K false) a b (Mn.pur (decide (a ∈ b)) : m Bool) := fun F σ B H sd k R va vb ra rb c k' e Q q => by
  obtain ⟨rfl, rfl⟩ := pur_some e
  obtain ⟨p, xs, rfl, hs, rs⟩ := rb.lst_inv
  have ex : xs = b.map V.int := Rps.intsM rs
  subst ex
  refine ⟨p, _, rfl, .inl (.of (R.bh _ _ hs)), by rw [ra.int_inv]; rfl, flat_ints _, ?_⟩
  rw [ra.int_inv, if_neg Bool.false_ne_true, inV_ints]
  exact q _ B H R (Gr.refl B) (.bl _)
theorem om_ninLI {a : Int} {b : List Int} : OpM K (rIn K true) a b (Mn.pur (!decide (a ∈ b)) : m Bool) := fun F σ B H sd k R va vb ra rb c k' e Q q => by
  obtain ⟨rfl, rfl⟩ := pur_some e
  obtain ⟨p, xs, rfl, hs, rs⟩ := rb.lst_inv
  have ex : xs = b.map V.int := Rps.intsM rs
  subst ex
  refine ⟨p, _, rfl, .inl (.of (R.bh _ _ hs)), by rw [ra.int_inv]; rfl, flat_ints _, ?_⟩
  rw [ra.int_inv, if_pos rfl, inV_ints]
  exact q _ B H R (Gr.refl B) (.bl _)
/-! ### enumerate -/
theorem ei_enum [Enc α] {tr : TA} {x : m (List α)} (h : EvA K tr sd x (fun a => [enc a])) : EvI K (iEnum K tr) sd (Mn.bnd x fun xs => Mn.pur ((upTo 0 xs.length 1).zip xs)) := fun F σ B H k R xs k' e Q q => by
  obtain ⟨n, k1, e1, e2⟩ := bnd_some e
  obtain ⟨rfl, rfl⟩ := pur_some e2
  refine h F σ B H k R n _ e1 _ fun vs B1 H1 R1 g1 r1 => ?_
  cases r1 with | cons h hs =>
    cases hs
    obtain ⟨p, vs, rfl, hp, hs⟩ := Rp.lst_inv h
    exact ⟨p, vs, rfl, SqL.of (R1.bh _ _ hp), q _ B1 H1 R1 g1 (src_enum (SqL.of hp) hs)⟩
end
/-! ### a raising def that ends without a return -/
def finN (x : Option (Fl Unit Empty (Xr Unit))) : Option (Xr Unit) := match x with
  | some (.nx _) => some (.ok ())
  | some (.rt z) => some z
  | _ => none
theorem finN_some {x : Option (Fl Unit Empty (Xr Unit))} {z : Xr Unit} (h : finN x = some z) : (x = some (.nx ()) ∧ z = .ok ()) ∨ x = some (.rt z) := by
  unfold finN at h
  split at h
  · cases h; exact .inl ⟨rfl, rfl⟩
  · cases h; exact .inr rfl
  · cases h
theorem fin_XN {K : PySem.W.Frag} {N : List Str} {n : Nat} {pre : List D → D ⊕ Er → Prop} {vs : List V} {H : Hp} {Q : VK} {E : XK} {ts : TS} (h : spX K n .dat pre vs H Q E)
    (hb : ∀ ds r, pre ds r → ∃ (x : Option (Fl Unit Empty (Xr Unit))) (z : Xr Unit), EvS K ⟨fun cls d _ H => E cls d H, List.replicate N.length .un⟩ ts (sd0 N.length ds) (fun _ => List.replicate N.length .un) noEnd x ∧ finN x = some z ∧ xenc z = r) : ts { nx := fun _ H' => Q .non H', rt := Q } (L2.start N vs) H := by
  obtain ⟨B, ds, r, hp, hn, g, rs, q, qx⟩ := h
  obtain ⟨x, z, hx, ex, rfl⟩ := hb ds r hp
  rcases finN_some ex with ⟨rfl, rfl⟩ | rfl
  · refine hx _ _ B H 0 (Rel.init g rs) (.nx ()) 0 rfl _ ?_
    exact fun σ' B' H' R' g' => q _ rfl .non B' H' [] R'.b0 R'.bh (R'.fr0 rfl) (fun a o e e0 => R'.bn a o e e0) ⟨rfl, .non⟩ .nil fun _ m => nomatch m
  · refine hx _ _ B H 0 (Rel.init g rs) (.rt z) 0 rfl _ ?_
    cases z with
    | ok z => exact fun v σ' B' H' sd' R' g' rv => q _ rfl v B' H' [] R'.b0 R'.bh (R'.fr0 rfl) (fun a o e e0 => R'.bn a o e e0) ⟨rfl, rv⟩ .nil fun _ m => nomatch m
    | er z => exact fun cls d σ' B' H' R' g' ro => qx _ rfl cls d B' H' R'.b0 R'.bh (R'.fr0 rfl) (fun a o e e0 => R'.bn a o e e0) ro
end ON

set_option Elab.async false
set_option linter.all false
set_option maxRecDepth 100000
set_option maxHeartbeats 2000000
/-! N24: NX4 once more, by other fields, and where more can stand in the braces (a tuple of numbers): printed by gen24.py. -/
namespace ON
open PySem PySem.Spec PyProof.Rows L2
/-- an error made: C(v), its field n; what v is stands in the heap -/
def tMkH (C : Addr) (n : Str) (ok : Hp → V → Prop) (ta : TA) : L2.St → Hp → XK → Prop := fun σ H Q => ta σ H fun vs H1 => ∃ v, vs = [v] ∧ ok H1 v ∧ ∀ d, H1 d = none → Q (.ref C) (some d) (upd H1 d (.xd [(n, v)]))
theorem ek_mkH {K : PySem.W.Frag} {m : Type → Type} [Mn m] {α : Type} {sd : List SD} [Enc α] {C : Addr} {c n : Str} {ok : Hp → V → Prop} {okd : α → Prop} [DecidablePred okd] {tr : TA} {x : m α} (hc : PySem.W.nsIn K mainGlobals c = some (some (.ref C))) (h : EvA K tr sd x (fun a => [enc a])) (ho : ∀ a B H v, okd a → Gr B H → Rp K B v (enc a) → ok H v) :
    EvK K (tMkH C n ok tr) sd (Mn.bnd x fun a => gd (okd a) (Mn.pur (⟨c, some (n, enc a)⟩ : Er))) := fun F σ B H k R e k' he Q q => by
  obtain ⟨a, k1, e1, e2⟩ := bnd_some he
  obtain ⟨hg, e3⟩ := gd_some e2
  obtain ⟨rfl, rfl⟩ := pur_some e3
  refine h F σ B H k R a _ e1 _ fun vs B1 H1 R1 g1 r1 => ?_
  cases r1 with | cons r1 hs =>
    cases hs
    refine ⟨_, rfl, ho a _ _ _ hg R1.bh r1, fun d hd => ?_⟩
    obtain ⟨R2, g2⟩ := R1.data (o := .xd [(n, _)]) hd
    exact q _ _ _ _ R2 (g1.trans g2) ⟨C, hc, rfl, d, _, rfl, upd_same, r1.gr g2⟩
end ON
namespace ON.F_spot
open ON
open PySem PySem.W PySem.Calls PyProof.Rows PySem.HandSPX
def siA (p1 p2 : Pos) : Arguments := { posonlyargs := [], args := [{ arg := "self", annotation := none, pos := p1 }, { arg := "spot", annotation := none, pos := p2 }], vararg := none, kwonlyargs := [], kw_defaults := [], kwarg := none, defaults := [] }
def siB (pre : Str) (q : Nat → Pos) : List Stmt := [
  .Expr (.Call (.Attribute (.Call (.Name "super" (q 0)) [] [] (q 1)) "__init__" (q 2)) [.JoinedStr [.Constant (.str pre) 0 (q 3), .FormattedValue (.Name "spot" (q 4)) (-1) none (q 5)] (q 6)] [] (q 7)) (q 8),
  .Assign [.Attribute (.Name "self" (q 9)) "spot" (q 10)] (.Name "spot" (q 11)) (q 12)]
def siS : Scope := { kind := .function, names := [(PySem.Str.ofString "self", .local), (PySem.Str.ofString "spot", .local), (PySem.Str.ofString "__class__", .free), (PySem.Str.ofString "super", .globalImplicit)], isGenerator := false, isCoroutine := false, more := [] }
/-- a heap without x -/
def era (h : Heap) (x : Addr) : Heap := { h with objs := h.objs.setIfInBounds x ⟨.none, none, .freed, #[]⟩ }
theorem era_ne {h : Heap} {x b : Addr} (n : b ≠ x) : (era h x).get? b = h.get? b := by
  unfold Heap.get? era
  rw [Array.getElem?_setIfInBounds_ne (Ne.symm n)]
theorem era_eq {h : Heap} {x : Addr} : (era h x).get? x = none := by
  unfold Heap.get? era
  by_cases c : x < h.objs.size
  · rw [Array.getElem?_setIfInBounds_self_of_lt c]
  · rw [Array.getElem?_eq_none (by rw [Array.size_setIfInBounds]; exact Nat.le_of_not_lt c)]
theorem era_sz {h : Heap} {x : Addr} : (era h x).objs.size = h.objs.size := by unfold era; exact Array.size_setIfInBounds
/-- whether a call's receiver is looked up plainly -/
def plOf (o : PySem.Expr) (env : Env) : Sem Bool := do
      let __do_lift ← importBound o env
      pure (__do_lift.getD true)
theorem mc_eq {o a : PySem.Expr} {name : Str} {apos pos : Pos} {env : Env} (h : (apos.endLine == pos.line) = true) (ha : starEach [a] env = [(false, eval a env)]) :
    eval ((o.Attribute name apos).Call [a] [] pos) env = (do
            let ov ← attributeBase o name env (eval o env)
            standAt apos.atName
            let __x ← holding [ov] (getMethod ov name (plOf o env))
            (match __x with
              | (f, first) => callWith pos f first (backTo pos (starEach [a] env)) [])) := by
  rw [arm_eval_Call]
  have hp : methodCallPos true o env apos pos = pure pos := by
    unfold methodCallPos
    rw [h]; rfl
  have hf : methodCallForm ([a].length + ([] : List Keyword).length) (backTo pos (starEach [a] env)) (backToKw pos (keywordEach [] env)) = true := by
    rw [ha]; rfl
  unfold methodCall
  rw [hf]
  simp only [hp]
  rfl
/-- what can stand in the braces -/
def Fmt (P : Program) (w : World) (h : Heap) (v : Value) : Prop := ∀ (A : Around) (E : Value → Shared → Prop) (s : Shared) (Q : Value → Shared → Prop), A.units + 2 < cLine → (∀ b o, h.get? b = some o → s.heap.get? b = some o) → (∀ y t tk, y.length ≤ 100000 → Q (.str y t) { s with toks := tk }) → wpAny (model P w) A (formatField v Str.empty) Q E s
structure SupTxt (P : Program) (K : Frag) (mg : Str → Option Value) (C fI cc cda : Addr) (qual pre : Str) : Prop where
  cls : ∃ nm q N bs bm sn sub ab col dd k0 k1 k2 k3 k5, K.lookup C = some (excClassObj nm q C N bs bm true sn sub ab col dd k0 k1 k2 k3 k5 "ValueError.__new__") ∧ refsVE bm = true ∧ alongIn K "__init__" bm = some (some (.builtin "ValueError.__init__"))
  iniC : excInitIn K C [.type "ValueError", .type "Exception", .type "BaseException", .type "object"] "ValueError.__new__" = true
  sa : findIn K (.ref C) "__setattr__" = some (some (.builtin "object.__setattr__"))
  noN : findIn K (.ref C) "spot" = some none
  iC : findIn K (.ref C) "__init__" = some (some (.ref fI))
  tC : typeIn K (.ref fI) = some (.type "function")
  own : subIn K (.ref C) (.ref C) = some true
  ve : subIn K (.ref C) (.type "ValueError") = some true
  st : nsIn K cStatics "thirdparty.any" = some none
  gS : mg "super" = none
  gP : (P.main.scope.names.lookup (PySem.Str.ofString "super")).isSome = false
  pl : pre.length ≤ 1000
  cel : ∃ cl cld csl, K.lookup cc = some ⟨cl, cld, .cell (some (.ref C)), csl⟩
  fn : ∃ (oc : Value) (od : Option Addr) (doc pm : Value) (an : Option Addr) (ct : Value) (osl : Array (Option Value)) (p1 p2 : Pos) (q : Nat → Pos), ((q 2).endLine == (q 7).line) = true ∧
    K.lookup fI = some ⟨oc, od, .func (ksFn "__init__" qual (siA p1 p2) (siB pre q) siS .none .none doc pm an (.ref cda) ct cc), osl⟩ ∧ codeIn K (.ref cda) qual = true
  cda : ∃ ccl cdd ccs vs file tf, K.lookup cda = some ⟨ccl, cdd, .fields vs, ccs⟩ ∧ vs[2]? = some (.str file tf) ∧ (P.main.file == file) = true
section
variable {P : Program} {w : World} {A : Around} {E : Value → Shared → Prop} {R : Result → Shared → Prop} {s : Shared} {K : Frag} {mg mb : Str → Option Value} {C fI cc cda : Addr} {qual pre : Str}
theorem wpAt_of {α : Type} {M : Model} {c : Code} {t : Sem α} {Q : α → Shared → Prop} (h : wpAny M A t Q E s) : PySem.wpAt M A c t Q E s := fun Γ p _ hi => h Γ p hi
theorem sup_init (T : SupTxt P K mg C fI cc cda qual pre) {x t0 : Addr} {v : Value} (X : K.In s.heap) (hlim : s.heap.NoLimit) (hG : s.heap.Ns mainGlobals mg) (hB : s.heap.Ns builtinsNs mb) (hS : mb "super" = some (.type "super"))
    (hx : s.heap.get? x = some (excO C t0)) (hnx : K.lookup x = none) (hroom : A.depth < recursionLimit) (hun : A.units + 50 < cLine) (hv : Fmt P w (era s.heap x) v)
    (hq : ∀ h' tk dx t1, (∀ b o, b ≠ x → s.heap.get? b = some o → h'.get? b = some o) → h'.get? x = some { cls := .ref C, dict := some dx, data := .fields #[.ref t1, .none, .none, .none, .bool false, .none] } → s.heap.objs.size ≤ dx → dx ≠ x → (h'.Ns1 dx fun y => if y = "spot" then some v else none) → R (.ok (.ret .none)) { s with heap := h', toks := tk }) :
    codeAny (model P w) A (.call (.ref fI) ⟨[.ref x, v], []⟩) R s := by
  obtain ⟨oc, od, doc, pm, an, ct, osl, p1, p2, q, hpos, ho, hcd⟩ := T.fn
  obtain ⟨nm, qn, N, bs, bm, sn, sub, ab, col, dd, k0, k1, k2, k3, k5, hC, hbm, hal⟩ := T.cls
  obtain ⟨cl, cld, csl, hcell⟩ := T.cel
  obtain ⟨ccl, cdd, ccs, vs, file, tf, hcda, hvs, hfile⟩ := T.cda
  refine ks_codeAny_call_defAt (binds := [("self", .ref x), ("spot", v)]) hroom (X _ _ ho) rfl hlim ?code rfl (BindsTo.of_eq (by first | rfl | with_unfolding_all rfl)) ?nc ?nl (fun h₁ hn k => ?_) rfl rfl rfl
  case code => exact codeRec_of X hcd
  case nc => exact (by decide : ∀ y ∈ siS.names, y.2 ≠ .cell)
  case nl =>
    intro y hy
    rcases List.mem_cons.mp hy with rfl | hy
    · rfl
    · rcases List.mem_cons.mp hy with rfl | hy
      · rfl
      · cases hy
  have X₁ : K.In h₁ := X.keeps k
  have ne : ∀ {a : Addr} {o : Obj}, K.lookup a = some o → a ≠ x := fun e z => by rw [z, hnx] at e; cases e
  let env : Env := ksEnv "__init__" siS s.heap.objs.size fI (.ref cda) cc
  refine ks_wpAt_execs_cons ?_
  refine ks_wpAt_Expr_any ?_
  refine ks_wpAt_MethodCall ?_ (mc_eq hpos rfl)
  refine ks_wpAt_super_base rfl rfl rfl rfl (X₁ _ _ ho) rfl rfl rfl (X₁ _ _ hcda) rfl hvs hfile T.gP ?_
  refine ks_loadName_global rfl rfl (loadGlobal_builtin (hG.keeps k) T.gS (hB.keeps k) hS ⟨rfl, ?_⟩)
  refine wpAny_loadName_free rfl rfl rfl ⟨_, X₁ _ _ hcell, rfl⟩ ?_
  refine wpAny_loadName_local rfl rfl hn rfl ?_
  refine ks_wpAny_isType_cls (X₁ _ _ hC) rfl ⟨rfl, ?_⟩
  refine ks_wpAny_call_super (X₁ _ _ hC) rfl (k _ _ hx) rfl (fun c z => by cases z) (looks_subIn X₁ T.own) fun h₂ hso k₂ => ?_
  have hL : x < s.heap.objs.size := Heap.lt_size hx
  have z₁ : s.heap.objs.size < h₁.objs.size := hn.lt
  have K₀ : K.In (era s.heap x) := fun a o e => by rw [era_ne (ne e)]; exact X _ _ e
  have old : ∀ {h' : Heap}, (∀ b o, h₁.get? b = some o → h'.get? b = some o) → ∀ b o, (era s.heap x).get? b = some o → h'.get? b = some o := fun kk b o e => by
    by_cases c : b = x
    · subst c; rw [era_eq] at e; cases e
    · rw [era_ne c] at e; exact kk _ _ (k _ _ e)
  have F₂ : PyProof.Rows.Fr (era s.heap x) s.heap.objs.size h₂ _ := ⟨hn.keeps k₂, old k₂, Nat.le_of_eq era_sz⟩
  have gone : ∀ b, s.heap.objs.size ≤ b → (era s.heap x).get? b = none := fun b hb => by
    cases e : (era s.heap x).get? b with
    | none => rfl
    | some o => exact absurd (Heap.lt_size e) (by rw [era_sz]; exact Nat.not_lt_of_le hb)
  have N₂ : News (era s.heap x) s.heap.objs.size h₂ [(h₁.objs.size, ks_superObj C x C), (x, excO C t0)] := fun p hp => by
    rcases List.mem_cons.mp hp with rfl | hp
    · exact ⟨hso, Nat.ne_of_gt z₁, gone _ (Nat.le_of_lt z₁)⟩
    · rcases List.mem_cons.mp hp with rfl | hp
      · exact ⟨k₂ _ _ (k _ _ hx), Nat.ne_of_lt hL, era_eq⟩
      · cases hp
  have hcl : clsIn K C = some { name := nm, bases := bs, mro := .ref C :: bm, ns := N, qualname := qn, hasDict := true, slotNames := sn, subclasses := sub, abstract := ab, collection := col, hasDel := false } := by unfold clsIn; rw [hC] <;> rfl
  refine kxs_method kxs_ValueError F₂ K₀ N₂ List.mem_cons_self (ox := excO C t0) (odx := none) ⟨k₂ _ _ (k _ _ hx), rfl, rfl, trivial⟩ T.st ?si T.ve rfl fun u h₃ F₃ N₃ lt₃ => ?_
  case si =>
    unfold ks_superIn
    rw [hcl]
    show alongIn K _ (List.drop 1 (List.dropWhile (fun x => x != Value.ref C) (Value.ref C :: bm))) = _
    rw [show List.drop 1 (List.dropWhile (fun x => x != Value.ref C) (Value.ref C :: bm)) = bm from by simp [List.dropWhile]]; exact hal
  refine kxs_callWith1 N₃ List.mem_cons_self (spliced_more ?_)
  have fits : ∀ y : Str, y.length ≤ 100000 → (Str.empty ++ pre ++ y).length ≤ sizeLine := fun y hy => by
    rw [Str.empty_append, Str.length_append]
    exact Nat.le_trans (Nat.add_le_add T.pl hy) (by decide)
  refine wpAny_JoinedStr ?_
  refine wpAny_Constant_str ?_
  refine ⟨_, _, rfl, ?len, ?_⟩
  case len => exact Nat.le_trans (Nat.le_of_eq (by rw [Str.empty_append])) (Nat.le_trans T.pl (by decide))
  refine wpAny_FormattedValue_plain (wpAny_Name (wpAny_loadName_local rfl rfl F₃.ns rfl ?_) rfl)
  refine hv _ _ _ _ ?un F₃.keep fun y ty tk hy => ⟨_, _, rfl, ?len2, ?len3, ?_⟩
  case un => first | (show A.units + 3 + 2 < cLine; omega) | (simp only [PySem.Around.deeper_units]; omega)
  case len2 => exact fits y hy
  case len3 => exact fits y hy
  refine spliced_none ⟨N₃ _ List.mem_cons_self |>.1, ?_⟩
  refine kxs_call (t := t0) (dv := none) (c2 := .none) F₃ K₀ N₃ F.excBase_ValueError T.iniC List.mem_cons_self (.tail ?n1 (.tail ?n2 (.head ?n3))) (by exact (by decide : 1 ≤ sizeLine)) fun t' h₄ F₄ N₄ lt₄ => ?_
  case n3 => exact fun p hp => nomatch hp
  case n1 => exact Nat.ne_of_gt (lt₃ (x, excO C t0) (List.mem_cons_of_mem _ List.mem_cons_self))
  case n2 => exact fun z => absurd hL (by rw [← z]; exact Nat.not_lt_of_le (Nat.le_of_lt z₁))
  have X₄ : K.In h₄ := K₀.keeps F₄.keep
  have hx₄ : h₄.get? x = some (excO C t') := (N₄ (x, excO C t') (by simp)).1
  refine wpAt_of ?_
  refine wpAny_execs_cons (plainObj_wpAny_Assign_Attribute ?_)
  refine wpAny_Name (wpAny_loadName_local rfl rfl F₄.ns rfl ?_) rfl
  refine wpAny_Name (wpAny_loadName_local rfl rfl F₄.ns rfl ?_) rfl
  refine set_plain X₄ (ox := excO C t') (od := none) ⟨hx₄, rfl, rfl, trivial⟩ T.sa ?_
  refine exc_osa X₄ hx₄ hcl (show refsVE (.ref C :: bm) = true from hbm) rfl T.noN (fun h₅ tk₅ dx k₅ dn dne hx₅ hn₅ => ?_)
  refine wpAny_execs_nil (hq h₅ _ dx t' (fun b o hb e => k₅ b o hb (F₄.keep b o (by rw [era_ne hb]; exact e))) hx₅ (Nat.le_trans (Nat.le_of_lt F₄.ns.lt) dn) dne hn₅)
theorem sup_made (T : SupTxt P K mg C fI cc cda qual pre) {v : Value} (X : K.In s.heap) (hlim : s.heap.NoLimit) (hG : s.heap.Ns mainGlobals mg) (hB : s.heap.Ns builtinsNs mb) (hS : mb "super" = some (.type "super"))
    (hroom : A.depth + 1 < recursionLimit) (hun : A.units + 100 < cLine) (hv : Fmt P w s.heap v)
    (hq : ∀ h' tk e dx t1, (∀ b o, s.heap.get? b = some o → h'.get? b = some o) → s.heap.objs.size ≤ e → h'.get? e = some { cls := .ref C, dict := some dx, data := .fields #[.ref t1, .none, .none, .none, .bool false, .none] } → s.heap.objs.size ≤ dx → dx ≠ e → (h'.Ns1 dx fun y => if y = "spot" then some v else none) → R (.ok (.ret (.ref e))) { s with heap := h', toks := tk }) :
    codeAny (model P w) A (.call (.ref C) ⟨[v], []⟩) R s := by
  obtain ⟨nm, qn, N, bs, bm, sn, sub, ab, col, dd, k0, k1, k2, k3, k5, hC, hbm, hal⟩ := T.cls
  obtain ⟨hp, g, dr, tk, os⟩ := s
  have k : ∀ b o, hp.get? b = some o → ((hp.push (kdv_tup [v])).push (excO C hp.objs.size)).get? b = some o := fun b o e => Heap.get?_push_of_some _ (Heap.get?_push_of_some _ e)
  have hget : ((hp.push (kdv_tup [v])).push (excO C hp.objs.size)).get? (hp.objs.size + 1) = some (excO C hp.objs.size) := by heap_get
  have hnx : K.lookup (hp.objs.size + 1) = none := by
    cases e : K.lookup (hp.objs.size + 1) with
    | none => rfl
    | some o => exact absurd (Nat.lt_of_succ_lt (Heap.lt_size (X _ _ e))) (Nat.lt_irrefl _)
  refine call_own F.excBase_ValueError (fun X => refsVE_contains X bm hbm) (X _ _ hC) (looks_findIn X T.iC) (fun self => bind_fn X self T.tC) (by exact (by decide : 1 ≤ sizeLine)) ?_
  have hv' : Fmt P w (era ((hp.push (kdv_tup [v])).push (excO C hp.objs.size)) (hp.objs.size + 1)) v := fun A E s Q uu kk qq => hv A E s Q uu (fun b o e => kk b o (by rw [era_ne (Nat.ne_of_lt (Nat.lt_succ_of_lt (Heap.lt_size e)))]; exact k b o e)) qq
  refine sup_init (s := ⟨(hp.push (kdv_tup [v])).push (excO C hp.objs.size), g, dr, tk, os⟩) T (X.keeps k) (hlim.keeps k) (hG.keeps k) (hB.keeps k) hS hget hnx hroom (by first | omega | (rw [L2.make_units]; omega)) hv' fun h' tk' dx t1 k' hx dn dne hns => ?_
  have e2 : hp.objs.size + 1 + 1 ≤ dx := by rw [Heap.size_push, Heap.size_push] at dn; exact dn
  exact ⟨rfl, hq h' tk' (hp.objs.size + 1) dx t1 (fun b o e => k' b o (Nat.ne_of_lt (Nat.lt_succ_of_lt (Heap.lt_size e))) (k b o e)) (Nat.le_succ _) hx (Nat.le_trans (Nat.le_trans (Nat.le_succ _) (Nat.le_succ _)) e2) dne hns⟩
end
open L2
section
variable {X : L2.Cx} {C fI cc cda : Addr} {qual pre x : Str}
theorem pmk_sup {okv : Hp → V → Prop} {a : PySem.Expr} {ta : TA} {p pos : Pos} {k : Nat} (T : SupTxt X.prog X.K X.mg C fI cc cda qual pre) (hr : Room (k + 1) X.A) (gC : X.mg x = some (.ref C)) (kC : keepIn X.K (.ref C) = true) (rC : Raises X (.ref C))
    (hf : ∀ (pins : List (Addr × Obj)) (σ : L2.St) (H : Hp) (s : Shared) v u, L2.Inv X pins σ H s → okv H v → RelV v u → Fmt X.prog X.w s.heap u) (ha : PA X [a] ta) (hg : Gl X x := by rfl) (hd : (x == ("__debug__" : Str)) = false := by decide)
    (he : starEach (a :: []) X.env = (false, eval a X.env) :: starEach [] X.env := by rfl) (hpl : (backTo pos (starEach [] X.env)).any (·.1) = false := by rfl) :
    PMk X (.Call (.Name x p) [a] [] pos) (ON.tMkH C "spot" okv ta) := by
  intro pins s σ H Q I h
  refine wpAny_Call_Name_kw (ld_glob I hg gC ?_ hd)
  refine PySem.W.callWith_K (h₀ := X.base) I.ok.mod.kin kC (thn (ha.run pos pins s σ H _ I h) fun us s1 hh => ?_) he hpl
  obtain ⟨vs, H1, I1, r1, v, ev, hok, q1⟩ := hh
  subst ev
  refine ⟨I1.kIn, ?_⟩
  cases r1 with
  | cons rv rn =>
    rename_i v' us'
    cases rn
    show wpAny _ _ (call (.ref C) [v']) _ _ _
    have hlim := I1.nolimit
    obtain ⟨mb, hB, hbl⟩ := I1.ok.mod.blt
    have base : ∀ b o, X.base.get? b = some o → s1.heap.get? b = some o := fun b o e => (I1.bs b o e).1
    have hG := I1.ok.mod.glob.keeps base
    have hB' := hB.keeps base
    have hS : mb "super" = some (.type "super") := by rw [hbl _ (by decide)]; rfl
    have hF := hf _ _ H1 s1 v v' I1 hok rv
    obtain ⟨hp, g, dr, tk, os⟩ := s1
    refine wpAny_call (sup_made T I1.kIn hlim hG hB' hS (by have := hr.dp; omega) (by have := hr.un; omega) hF fun h' tk' e d t1 keep newe hoe newd dne hns => ?_)
    show MkP X pins σ Q (.ref e) ⟨h', g, dr, tk', os⟩
    have ge : (era h' e).get? e = none := era_eq
    have old : ∀ b o, hp.get? b = some o → (era h' e).get? b = some o := fun b o q => (era_ne (Nat.ne_of_lt (Nat.lt_of_lt_of_le (Heap.lt_size q) newe))).trans (keep b o q)
    have ob : ObjOk X.prog X.w (upd H1 d (.xd [(("spot" : Str), v)])) (era h' e) d (.xd [(("spot" : Str), v)]) :=
      ⟨_, hns.at (fun o q => (era_ne dne).trans q), fun f => by
        by_cases hw : f = "spot"
        · subst hw
          rw [if_pos rfl, show List.lookup ("spot" : Str) [(("spot" : Str), v)] = some v from by simp [List.lookup]]
          exact rv
        · have qw : (f == ("spot" : Str)) = false := by simpa using hw
          have q2 : List.lookup f [(("spot" : Str), v)] = none := by simp [List.lookup, qw]
          rw [if_neg hw, q2]
          trivial⟩
    have J : L2.Inv X pins σ (upd H1 d (.xd [(("spot" : Str), v)])) ⟨era h' e, g, dr, tk', os⟩ := I1.laid (t' := tk') old newd ob
    refine ⟨e, _, _, ⟨era h' e, g, dr, tk', os⟩, _, .ref C, some d, rfl, J, fun b o q => ?_, ge, hoe, ⟨rfl, rfl⟩, rfl, rfl, ?_, rfl, I1.bare, rC, q1 d (I1.hok.fresh newd)⟩
    · by_cases hb : b = e
      · have q' : (era h' e).get? b = some o := q
        rw [hb, ge] at q'; cases q'
      · exact (era_ne hb).symm.trans q
    · rw [upd_ne (Ne.symm dne)]
      exact I1.hok.fresh newe
end
end ON.F_spot
namespace ON.F_row
open ON
open PySem PySem.W PySem.Calls PyProof.Rows PySem.HandSPX
def siA (p1 p2 : Pos) : Arguments := { posonlyargs := [], args := [{ arg := "self", annotation := none, pos := p1 }, { arg := "row", annotation := none, pos := p2 }], vararg := none, kwonlyargs := [], kw_defaults := [], kwarg := none, defaults := [] }
def siB (pre : Str) (q : Nat → Pos) : List Stmt := [
  .Expr (.Call (.Attribute (.Call (.Name "super" (q 0)) [] [] (q 1)) "__init__" (q 2)) [.JoinedStr [.Constant (.str pre) 0 (q 3), .FormattedValue (.Name "row" (q 4)) (-1) none (q 5)] (q 6)] [] (q 7)) (q 8),
  .Assign [.Attribute (.Name "self" (q 9)) "row" (q 10)] (.Name "row" (q 11)) (q 12)]
def siS : Scope := { kind := .function, names := [(PySem.Str.ofString "self", .local), (PySem.Str.ofString "row", .local), (PySem.Str.ofString "__class__", .free), (PySem.Str.ofString "super", .globalImplicit)], isGenerator := false, isCoroutine := false, more := [] }
/-- a heap without x -/
def era (h : Heap) (x : Addr) : Heap := { h with objs := h.objs.setIfInBounds x ⟨.none, none, .freed, #[]⟩ }
theorem era_ne {h : Heap} {x b : Addr} (n : b ≠ x) : (era h x).get? b = h.get? b := by
  unfold Heap.get? era
  rw [Array.getElem?_setIfInBounds_ne (Ne.symm n)]
theorem era_eq {h : Heap} {x : Addr} : (era h x).get? x = none := by
  unfold Heap.get? era
  by_cases c : x < h.objs.size
  · rw [Array.getElem?_setIfInBounds_self_of_lt c]
  · rw [Array.getElem?_eq_none (by rw [Array.size_setIfInBounds]; exact Nat.le_of_not_lt c)]
theorem era_sz {h : Heap} {x : Addr} : (era h x).objs.size = h.objs.size := by unfold era; exact Array.size_setIfInBounds
/-- whether a call's receiver is looked up plainly -/
def plOf (o : PySem.Expr) (env : Env) : Sem Bool := do
      let __do_lift ← importBound o env
      pure (__do_lift.getD true)
theorem mc_eq {o a : PySem.Expr} {name : Str} {apos pos : Pos} {env : Env} (h : (apos.endLine == pos.line) = true) (ha : starEach [a] env = [(false, eval a env)]) :
    eval ((o.Attribute name apos).Call [a] [] pos) env = (do
            let ov ← attributeBase o name env (eval o env)
            standAt apos.atName
            let __x ← holding [ov] (getMethod ov name (plOf o env))
            (match __x with
              | (f, first) => callWith pos f first (backTo pos (starEach [a] env)) [])) := by
  rw [arm_eval_Call]
  have hp : methodCallPos true o env apos pos = pure pos := by
    unfold methodCallPos
    rw [h]; rfl
  have hf : methodCallForm ([a].length + ([] : List Keyword).length) (backTo pos (starEach [a] env)) (backToKw pos (keywordEach [] env)) = true := by
    rw [ha]; rfl
  unfold methodCall
  rw [hf]
  simp only [hp]
  rfl
/-- what can stand in the braces -/
def Fmt (P : Program) (w : World) (h : Heap) (v : Value) : Prop := ∀ (A : Around) (E : Value → Shared → Prop) (s : Shared) (Q : Value → Shared → Prop), A.units + 2 < cLine → (∀ b o, h.get? b = some o → s.heap.get? b = some o) → (∀ y t tk, y.length ≤ 100000 → Q (.str y t) { s with toks := tk }) → wpAny (model P w) A (formatField v Str.empty) Q E s
structure SupTxt (P : Program) (K : Frag) (mg : Str → Option Value) (C fI cc cda : Addr) (qual pre : Str) : Prop where
  cls : ∃ nm q N bs bm sn sub ab col dd k0 k1 k2 k3 k5, K.lookup C = some (excClassObj nm q C N bs bm true sn sub ab col dd k0 k1 k2 k3 k5 "ValueError.__new__") ∧ refsVE bm = true ∧ alongIn K "__init__" bm = some (some (.builtin "ValueError.__init__"))
  iniC : excInitIn K C [.type "ValueError", .type "Exception", .type "BaseException", .type "object"] "ValueError.__new__" = true
  sa : findIn K (.ref C) "__setattr__" = some (some (.builtin "object.__setattr__"))
  noN : findIn K (.ref C) "row" = some none
  iC : findIn K (.ref C) "__init__" = some (some (.ref fI))
  tC : typeIn K (.ref fI) = some (.type "function")
  own : subIn K (.ref C) (.ref C) = some true
  ve : subIn K (.ref C) (.type "ValueError") = some true
  st : nsIn K cStatics "thirdparty.any" = some none
  gS : mg "super" = none
  gP : (P.main.scope.names.lookup (PySem.Str.ofString "super")).isSome = false
  pl : pre.length ≤ 1000
  cel : ∃ cl cld csl, K.lookup cc = some ⟨cl, cld, .cell (some (.ref C)), csl⟩
  fn : ∃ (oc : Value) (od : Option Addr) (doc pm : Value) (an : Option Addr) (ct : Value) (osl : Array (Option Value)) (p1 p2 : Pos) (q : Nat → Pos), ((q 2).endLine == (q 7).line) = true ∧
    K.lookup fI = some ⟨oc, od, .func (ksFn "__init__" qual (siA p1 p2) (siB pre q) siS .none .none doc pm an (.ref cda) ct cc), osl⟩ ∧ codeIn K (.ref cda) qual = true
  cda : ∃ ccl cdd ccs vs file tf, K.lookup cda = some ⟨ccl, cdd, .fields vs, ccs⟩ ∧ vs[2]? = some (.str file tf) ∧ (P.main.file == file) = true
section
variable {P : Program} {w : World} {A : Around} {E : Value → Shared → Prop} {R : Result → Shared → Prop} {s : Shared} {K : Frag} {mg mb : Str → Option Value} {C fI cc cda : Addr} {qual pre : Str}
theorem wpAt_of {α : Type} {M : Model} {c : Code} {t : Sem α} {Q : α → Shared → Prop} (h : wpAny M A t Q E s) : PySem.wpAt M A c t Q E s := fun Γ p _ hi => h Γ p hi
theorem sup_init (T : SupTxt P K mg C fI cc cda qual pre) {x t0 : Addr} {v : Value} (X : K.In s.heap) (hlim : s.heap.NoLimit) (hG : s.heap.Ns mainGlobals mg) (hB : s.heap.Ns builtinsNs mb) (hS : mb "super" = some (.type "super"))
    (hx : s.heap.get? x = some (excO C t0)) (hnx : K.lookup x = none) (hroom : A.depth < recursionLimit) (hun : A.units + 50 < cLine) (hv : Fmt P w (era s.heap x) v)
    (hq : ∀ h' tk dx t1, (∀ b o, b ≠ x → s.heap.get? b = some o → h'.get? b = some o) → h'.get? x = some { cls := .ref C, dict := some dx, data := .fields #[.ref t1, .none, .none, .none, .bool false, .none] } → s.heap.objs.size ≤ dx → dx ≠ x → (h'.Ns1 dx fun y => if y = "row" then some v else none) → R (.ok (.ret .none)) { s with heap := h', toks := tk }) :
    codeAny (model P w) A (.call (.ref fI) ⟨[.ref x, v], []⟩) R s := by
  obtain ⟨oc, od, doc, pm, an, ct, osl, p1, p2, q, hpos, ho, hcd⟩ := T.fn
  obtain ⟨nm, qn, N, bs, bm, sn, sub, ab, col, dd, k0, k1, k2, k3, k5, hC, hbm, hal⟩ := T.cls
  obtain ⟨cl, cld, csl, hcell⟩ := T.cel
  obtain ⟨ccl, cdd, ccs, vs, file, tf, hcda, hvs, hfile⟩ := T.cda
  refine ks_codeAny_call_defAt (binds := [("self", .ref x), ("row", v)]) hroom (X _ _ ho) rfl hlim ?code rfl (BindsTo.of_eq (by first | rfl | with_unfolding_all rfl)) ?nc ?nl (fun h₁ hn k => ?_) rfl rfl rfl
  case code => exact codeRec_of X hcd
  case nc => exact (by decide : ∀ y ∈ siS.names, y.2 ≠ .cell)
  case nl =>
    intro y hy
    rcases List.mem_cons.mp hy with rfl | hy
    · rfl
    · rcases List.mem_cons.mp hy with rfl | hy
      · rfl
      · cases hy
  have X₁ : K.In h₁ := X.keeps k
  have ne : ∀ {a : Addr} {o : Obj}, K.lookup a = some o → a ≠ x := fun e z => by rw [z, hnx] at e; cases e
  let env : Env := ksEnv "__init__" siS s.heap.objs.size fI (.ref cda) cc
  refine ks_wpAt_execs_cons ?_
  refine ks_wpAt_Expr_any ?_
  refine ks_wpAt_MethodCall ?_ (mc_eq hpos rfl)
  refine ks_wpAt_super_base rfl rfl rfl rfl (X₁ _ _ ho) rfl rfl rfl (X₁ _ _ hcda) rfl hvs hfile T.gP ?_
  refine ks_loadName_global rfl rfl (loadGlobal_builtin (hG.keeps k) T.gS (hB.keeps k) hS ⟨rfl, ?_⟩)
  refine wpAny_loadName_free rfl rfl rfl ⟨_, X₁ _ _ hcell, rfl⟩ ?_
  refine wpAny_loadName_local rfl rfl hn rfl ?_
  refine ks_wpAny_isType_cls (X₁ _ _ hC) rfl ⟨rfl, ?_⟩
  refine ks_wpAny_call_super (X₁ _ _ hC) rfl (k _ _ hx) rfl (fun c z => by cases z) (looks_subIn X₁ T.own) fun h₂ hso k₂ => ?_
  have hL : x < s.heap.objs.size := Heap.lt_size hx
  have z₁ : s.heap.objs.size < h₁.objs.size := hn.lt
  have K₀ : K.In (era s.heap x) := fun a o e => by rw [era_ne (ne e)]; exact X _ _ e
  have old : ∀ {h' : Heap}, (∀ b o, h₁.get? b = some o → h'.get? b = some o) → ∀ b o, (era s.heap x).get? b = some o → h'.get? b = some o := fun kk b o e => by
    by_cases c : b = x
    · subst c; rw [era_eq] at e; cases e
    · rw [era_ne c] at e; exact kk _ _ (k _ _ e)
  have F₂ : PyProof.Rows.Fr (era s.heap x) s.heap.objs.size h₂ _ := ⟨hn.keeps k₂, old k₂, Nat.le_of_eq era_sz⟩
  have gone : ∀ b, s.heap.objs.size ≤ b → (era s.heap x).get? b = none := fun b hb => by
    cases e : (era s.heap x).get? b with
    | none => rfl
    | some o => exact absurd (Heap.lt_size e) (by rw [era_sz]; exact Nat.not_lt_of_le hb)
  have N₂ : News (era s.heap x) s.heap.objs.size h₂ [(h₁.objs.size, ks_superObj C x C), (x, excO C t0)] := fun p hp => by
    rcases List.mem_cons.mp hp with rfl | hp
    · exact ⟨hso, Nat.ne_of_gt z₁, gone _ (Nat.le_of_lt z₁)⟩
    · rcases List.mem_cons.mp hp with rfl | hp
      · exact ⟨k₂ _ _ (k _ _ hx), Nat.ne_of_lt hL, era_eq⟩
      · cases hp
  have hcl : clsIn K C = some { name := nm, bases := bs, mro := .ref C :: bm, ns := N, qualname := qn, hasDict := true, slotNames := sn, subclasses := sub, abstract := ab, collection := col, hasDel := false } := by unfold clsIn; rw [hC] <;> rfl
  refine kxs_method kxs_ValueError F₂ K₀ N₂ List.mem_cons_self (ox := excO C t0) (odx := none) ⟨k₂ _ _ (k _ _ hx), rfl, rfl, trivial⟩ T.st ?si T.ve rfl fun u h₃ F₃ N₃ lt₃ => ?_
  case si =>
    unfold ks_superIn
    rw [hcl]
    show alongIn K _ (List.drop 1 (List.dropWhile (fun x => x != Value.ref C) (Value.ref C :: bm))) = _
    rw [show List.drop 1 (List.dropWhile (fun x => x != Value.ref C) (Value.ref C :: bm)) = bm from by simp [List.dropWhile]]; exact hal
  refine kxs_callWith1 N₃ List.mem_cons_self (spliced_more ?_)
  have fits : ∀ y : Str, y.length ≤ 100000 → (Str.empty ++ pre ++ y).length ≤ sizeLine := fun y hy => by
    rw [Str.empty_append, Str.length_append]
    exact Nat.le_trans (Nat.add_le_add T.pl hy) (by decide)
  refine wpAny_JoinedStr ?_
  refine wpAny_Constant_str ?_
  refine ⟨_, _, rfl, ?len, ?_⟩
  case len => exact Nat.le_trans (Nat.le_of_eq (by rw [Str.empty_append])) (Nat.le_trans T.pl (by decide))
  refine wpAny_FormattedValue_plain (wpAny_Name (wpAny_loadName_local rfl rfl F₃.ns rfl ?_) rfl)
  refine hv _ _ _ _ ?un F₃.keep fun y ty tk hy => ⟨_, _, rfl, ?len2, ?len3, ?_⟩
  case un => first | (show A.units + 3 + 2 < cLine; omega) | (simp only [PySem.Around.deeper_units]; omega)
  case len2 => exact fits y hy
  case len3 => exact fits y hy
  refine spliced_none ⟨N₃ _ List.mem_cons_self |>.1, ?_⟩
  refine kxs_call (t := t0) (dv := none) (c2 := .none) F₃ K₀ N₃ F.excBase_ValueError T.iniC List.mem_cons_self (.tail ?n1 (.tail ?n2 (.head ?n3))) (by exact (by decide : 1 ≤ sizeLine)) fun t' h₄ F₄ N₄ lt₄ => ?_
  case n3 => exact fun p hp => nomatch hp
  case n1 => exact Nat.ne_of_gt (lt₃ (x, excO C t0) (List.mem_cons_of_mem _ List.mem_cons_self))
  case n2 => exact fun z => absurd hL (by rw [← z]; exact Nat.not_lt_of_le (Nat.le_of_lt z₁))
  have X₄ : K.In h₄ := K₀.keeps F₄.keep
  have hx₄ : h₄.get? x = some (excO C t') := (N₄ (x, excO C t') (by simp)).1
  refine wpAt_of ?_
  refine wpAny_execs_cons (plainObj_wpAny_Assign_Attribute ?_)
  refine wpAny_Name (wpAny_loadName_local rfl rfl F₄.ns rfl ?_) rfl
  refine wpAny_Name (wpAny_loadName_local rfl rfl F₄.ns rfl ?_) rfl
  refine set_plain X₄ (ox := excO C t') (od := none) ⟨hx₄, rfl, rfl, trivial⟩ T.sa ?_
  refine exc_osa X₄ hx₄ hcl (show refsVE (.ref C :: bm) = true from hbm) rfl T.noN (fun h₅ tk₅ dx k₅ dn dne hx₅ hn₅ => ?_)
  refine wpAny_execs_nil (hq h₅ _ dx t' (fun b o hb e => k₅ b o hb (F₄.keep b o (by rw [era_ne hb]; exact e))) hx₅ (Nat.le_trans (Nat.le_of_lt F₄.ns.lt) dn) dne hn₅)
theorem sup_made (T : SupTxt P K mg C fI cc cda qual pre) {v : Value} (X : K.In s.heap) (hlim : s.heap.NoLimit) (hG : s.heap.Ns mainGlobals mg) (hB : s.heap.Ns builtinsNs mb) (hS : mb "super" = some (.type "super"))
    (hroom : A.depth + 1 < recursionLimit) (hun : A.units + 100 < cLine) (hv : Fmt P w s.heap v)
    (hq : ∀ h' tk e dx t1, (∀ b o, s.heap.get? b = some o → h'.get? b = some o) → s.heap.objs.size ≤ e → h'.get? e = some { cls := .ref C, dict := some dx, data := .fields #[.ref t1, .none, .none, .none, .bool false, .none] } → s.heap.objs.size ≤ dx → dx ≠ e → (h'.Ns1 dx fun y => if y = "row" then some v else none) → R (.ok (.ret (.ref e))) { s with heap := h', toks := tk }) :
    codeAny (model P w) A (.call (.ref C) ⟨[v], []⟩) R s := by
  obtain ⟨nm, qn, N, bs, bm, sn, sub, ab, col, dd, k0, k1, k2, k3, k5, hC, hbm, hal⟩ := T.cls
  obtain ⟨hp, g, dr, tk, os⟩ := s
  have k : ∀ b o, hp.get? b = some o → ((hp.push (kdv_tup [v])).push (excO C hp.objs.size)).get? b = some o := fun b o e => Heap.get?_push_of_some _ (Heap.get?_push_of_some _ e)
  have hget : ((hp.push (kdv_tup [v])).push (excO C hp.objs.size)).get? (hp.objs.size + 1) = some (excO C hp.objs.size) := by heap_get
  have hnx : K.lookup (hp.objs.size + 1) = none := by
    cases e : K.lookup (hp.objs.size + 1) with
    | none => rfl
    | some o => exact absurd (Nat.lt_of_succ_lt (Heap.lt_size (X _ _ e))) (Nat.lt_irrefl _)
  refine call_own F.excBase_ValueError (fun X => refsVE_contains X bm hbm) (X _ _ hC) (looks_findIn X T.iC) (fun self => bind_fn X self T.tC) (by exact (by decide : 1 ≤ sizeLine)) ?_
  have hv' : Fmt P w (era ((hp.push (kdv_tup [v])).push (excO C hp.objs.size)) (hp.objs.size + 1)) v := fun A E s Q uu kk qq => hv A E s Q uu (fun b o e => kk b o (by rw [era_ne (Nat.ne_of_lt (Nat.lt_succ_of_lt (Heap.lt_size e)))]; exact k b o e)) qq
  refine sup_init (s := ⟨(hp.push (kdv_tup [v])).push (excO C hp.objs.size), g, dr, tk, os⟩) T (X.keeps k) (hlim.keeps k) (hG.keeps k) (hB.keeps k) hS hget hnx hroom (by first | omega | (rw [L2.make_units]; omega)) hv' fun h' tk' dx t1 k' hx dn dne hns => ?_
  have e2 : hp.objs.size + 1 + 1 ≤ dx := by rw [Heap.size_push, Heap.size_push] at dn; exact dn
  exact ⟨rfl, hq h' tk' (hp.objs.size + 1) dx t1 (fun b o e => k' b o (Nat.ne_of_lt (Nat.lt_succ_of_lt (Heap.lt_size e))) (k b o e)) (Nat.le_succ _) hx (Nat.le_trans (Nat.le_trans (Nat.le_succ _) (Nat.le_succ _)) e2) dne hns⟩
end
open L2
section
variable {X : L2.Cx} {C fI cc cda : Addr} {qual pre x : Str}
theorem pmk_sup {okv : Hp → V → Prop} {a : PySem.Expr} {ta : TA} {p pos : Pos} {k : Nat} (T : SupTxt X.prog X.K X.mg C fI cc cda qual pre) (hr : Room (k + 1) X.A) (gC : X.mg x = some (.ref C)) (kC : keepIn X.K (.ref C) = true) (rC : Raises X (.ref C))
    (hf : ∀ (pins : List (Addr × Obj)) (σ : L2.St) (H : Hp) (s : Shared) v u, L2.Inv X pins σ H s → okv H v → RelV v u → Fmt X.prog X.w s.heap u) (ha : PA X [a] ta) (hg : Gl X x := by rfl) (hd : (x == ("__debug__" : Str)) = false := by decide)
    (he : starEach (a :: []) X.env = (false, eval a X.env) :: starEach [] X.env := by rfl) (hpl : (backTo pos (starEach [] X.env)).any (·.1) = false := by rfl) :
    PMk X (.Call (.Name x p) [a] [] pos) (ON.tMkH C "row" okv ta) := by
  intro pins s σ H Q I h
  refine wpAny_Call_Name_kw (ld_glob I hg gC ?_ hd)
  refine PySem.W.callWith_K (h₀ := X.base) I.ok.mod.kin kC (thn (ha.run pos pins s σ H _ I h) fun us s1 hh => ?_) he hpl
  obtain ⟨vs, H1, I1, r1, v, ev, hok, q1⟩ := hh
  subst ev
  refine ⟨I1.kIn, ?_⟩
  cases r1 with
  | cons rv rn =>
    rename_i v' us'
    cases rn
    show wpAny _ _ (call (.ref C) [v']) _ _ _
    have hlim := I1.nolimit
    obtain ⟨mb, hB, hbl⟩ := I1.ok.mod.blt
    have base : ∀ b o, X.base.get? b = some o → s1.heap.get? b = some o := fun b o e => (I1.bs b o e).1
    have hG := I1.ok.mod.glob.keeps base
    have hB' := hB.keeps base
    have hS : mb "super" = some (.type "super") := by rw [hbl _ (by decide)]; rfl
    have hF := hf _ _ H1 s1 v v' I1 hok rv
    obtain ⟨hp, g, dr, tk, os⟩ := s1
    refine wpAny_call (sup_made T I1.kIn hlim hG hB' hS (by have := hr.dp; omega) (by have := hr.un; omega) hF fun h' tk' e d t1 keep newe hoe newd dne hns => ?_)
    show MkP X pins σ Q (.ref e) ⟨h', g, dr, tk', os⟩
    have ge : (era h' e).get? e = none := era_eq
    have old : ∀ b o, hp.get? b = some o → (era h' e).get? b = some o := fun b o q => (era_ne (Nat.ne_of_lt (Nat.lt_of_lt_of_le (Heap.lt_size q) newe))).trans (keep b o q)
    have ob : ObjOk X.prog X.w (upd H1 d (.xd [(("row" : Str), v)])) (era h' e) d (.xd [(("row" : Str), v)]) :=
      ⟨_, hns.at (fun o q => (era_ne dne).trans q), fun f => by
        by_cases hw : f = "row"
        · subst hw
          rw [if_pos rfl, show List.lookup ("row" : Str) [(("row" : Str), v)] = some v from by simp [List.lookup]]
          exact rv
        · have qw : (f == ("row" : Str)) = false := by simpa using hw
          have q2 : List.lookup f [(("row" : Str), v)] = none := by simp [List.lookup, qw]
          rw [if_neg hw, q2]
          trivial⟩
    have J : L2.Inv X pins σ (upd H1 d (.xd [(("row" : Str), v)])) ⟨era h' e, g, dr, tk', os⟩ := I1.laid (t' := tk') old newd ob
    refine ⟨e, _, _, ⟨era h' e, g, dr, tk', os⟩, _, .ref C, some d, rfl, J, fun b o q => ?_, ge, hoe, ⟨rfl, rfl⟩, rfl, rfl, ?_, rfl, I1.bare, rC, q1 d (I1.hok.fresh newd)⟩
    · by_cases hb : b = e
      · have q' : (era h' e).get? b = some o := q
        rw [hb, ge] at q'; cases q'
      · exact (era_ne hb).symm.trans q
    · rw [upd_ne (Ne.symm dne)]
      exact I1.hok.fresh newe
end
end ON.F_row
namespace ON.F_round
open ON
open PySem PySem.W PySem.Calls PyProof.Rows PySem.HandSPX
def siA (p1 p2 : Pos) : Arguments := { posonlyargs := [], args := [{ arg := "self", annotation := none, pos := p1 }, { arg := "round_of", annotation := none, pos := p2 }], vararg := none, kwonlyargs := [], kw_defaults := [], kwarg := none, defaults := [] }
def siB (pre : Str) (q : Nat → Pos) : List Stmt := [
  .Expr (.Call (.Attribute (.Call (.Name "super" (q 0)) [] [] (q 1)) "__init__" (q 2)) [.JoinedStr [.Constant (.str pre) 0 (q 3), .FormattedValue (.Name "round_of" (q 4)) (-1) none (q 5)] (q 6)] [] (q 7)) (q 8),
  .Assign [.Attribute (.Name "self" (q 9)) "round_of" (q 10)] (.Name "round_of" (q 11)) (q 12)]
def siS : Scope := { kind := .function, names := [(PySem.Str.ofString "self", .local), (PySem.Str.ofString "round_of", .local), (PySem.Str.ofString "__class__", .free), (PySem.Str.ofString "super", .globalImplicit)], isGenerator := false, isCoroutine := false, more := [] }
/-- a heap without x -/
def era (h : Heap) (x : Addr) : Heap := { h with objs := h.objs.setIfInBounds x ⟨.none, none, .freed, #[]⟩ }
theorem era_ne {h : Heap} {x b : Addr} (n : b ≠ x) : (era h x).get? b = h.get? b := by
  unfold Heap.get? era
  rw [Array.getElem?_setIfInBounds_ne (Ne.symm n)]
theorem era_eq {h : Heap} {x : Addr} : (era h x).get? x = none := by
  unfold Heap.get? era
  by_cases c : x < h.objs.size
  · rw [Array.getElem?_setIfInBounds_self_of_lt c]
  · rw [Array.getElem?_eq_none (by rw [Array.size_setIfInBounds]; exact Nat.le_of_not_lt c)]
theorem era_sz {h : Heap} {x : Addr} : (era h x).objs.size = h.objs.size := by unfold era; exact Array.size_setIfInBounds
/-- whether a call's receiver is looked up plainly -/
def plOf (o : PySem.Expr) (env : Env) : Sem Bool := do
      let __do_lift ← importBound o env
      pure (__do_lift.getD true)
theorem mc_eq {o a : PySem.Expr} {name : Str} {apos pos : Pos} {env : Env} (h : (apos.endLine == pos.line) = true) (ha : starEach [a] env = [(false, eval a env)]) :
    eval ((o.Attribute name apos).Call [a] [] pos) env = (do
            let ov ← attributeBase o name env (eval o env)
            standAt apos.atName
            let __x ← holding [ov] (getMethod ov name (plOf o env))
            (match __x with
              | (f, first) => callWith pos f first (backTo pos (starEach [a] env)) [])) := by
  rw [arm_eval_Call]
  have hp : methodCallPos true o env apos pos = pure pos := by
    unfold methodCallPos
    rw [h]; rfl
  have hf : methodCallForm ([a].length + ([] : List Keyword).length) (backTo pos (starEach [a] env)) (backToKw pos (keywordEach [] env)) = true := by
    rw [ha]; rfl
  unfold methodCall
  rw [hf]
  simp only [hp]
  rfl
/-- what can stand in the braces -/
def Fmt (P : Program) (w : World) (h : Heap) (v : Value) : Prop := ∀ (A : Around) (E : Value → Shared → Prop) (s : Shared) (Q : Value → Shared → Prop), A.units + 2 < cLine → (∀ b o, h.get? b = some o → s.heap.get? b = some o) → (∀ y t tk, y.length ≤ 100000 → Q (.str y t) { s with toks := tk }) → wpAny (model P w) A (formatField v Str.empty) Q E s
structure SupTxt (P : Program) (K : Frag) (mg : Str → Option Value) (C fI cc cda : Addr) (qual pre : Str) : Prop where
  cls : ∃ nm q N bs bm sn sub ab col dd k0 k1 k2 k3 k5, K.lookup C = some (excClassObj nm q C N bs bm true sn sub ab col dd k0 k1 k2 k3 k5 "ValueError.__new__") ∧ refsVE bm = true ∧ alongIn K "__init__" bm = some (some (.builtin "ValueError.__init__"))
  iniC : excInitIn K C [.type "ValueError", .type "Exception", .type "BaseException", .type "object"] "ValueError.__new__" = true
  sa : findIn K (.ref C) "__setattr__" = some (some (.builtin "object.__setattr__"))
  noN : findIn K (.ref C) "round_of" = some none
  iC : findIn K (.ref C) "__init__" = some (some (.ref fI))
  tC : typeIn K (.ref fI) = some (.type "function")
  own : subIn K (.ref C) (.ref C) = some true
  ve : subIn K (.ref C) (.type "ValueError") = some true
  st : nsIn K cStatics "thirdparty.any" = some none
  gS : mg "super" = none
  gP : (P.main.scope.names.lookup (PySem.Str.ofString "super")).isSome = false
  pl : pre.length ≤ 1000
  cel : ∃ cl cld csl, K.lookup cc = some ⟨cl, cld, .cell (some (.ref C)), csl⟩
  fn : ∃ (oc : Value) (od : Option Addr) (doc pm : Value) (an : Option Addr) (ct : Value) (osl : Array (Option Value)) (p1 p2 : Pos) (q : Nat → Pos), ((q 2).endLine == (q 7).line) = true ∧
    K.lookup fI = some ⟨oc, od, .func (ksFn "__init__" qual (siA p1 p2) (siB pre q) siS .none .none doc pm an (.ref cda) ct cc), osl⟩ ∧ codeIn K (.ref cda) qual = true
  cda : ∃ ccl cdd ccs vs file tf, K.lookup cda = some ⟨ccl, cdd, .fields vs, ccs⟩ ∧ vs[2]? = some (.str file tf) ∧ (P.main.file == file) = true
section
variable {P : Program} {w : World} {A : Around} {E : Value → Shared → Prop} {R : Result → Shared → Prop} {s : Shared} {K : Frag} {mg mb : Str → Option Value} {C fI cc cda : Addr} {qual pre : Str}
theorem wpAt_of {α : Type} {M : Model} {c : Code} {t : Sem α} {Q : α → Shared → Prop} (h : wpAny M A t Q E s) : PySem.wpAt M A c t Q E s := fun Γ p _ hi => h Γ p hi
theorem sup_init (T : SupTxt P K mg C fI cc cda qual pre) {x t0 : Addr} {v : Value} (X : K.In s.heap) (hlim : s.heap.NoLimit) (hG : s.heap.Ns mainGlobals mg) (hB : s.heap.Ns builtinsNs mb) (hS : mb "super" = some (.type "super"))
    (hx : s.heap.get? x = some (excO C t0)) (hnx : K.lookup x = none) (hroom : A.depth < recursionLimit) (hun : A.units + 50 < cLine) (hv : Fmt P w (era s.heap x) v)
    (hq : ∀ h' tk dx t1, (∀ b o, b ≠ x → s.heap.get? b = some o → h'.get? b = some o) → h'.get? x = some { cls := .ref C, dict := some dx, data := .fields #[.ref t1, .none, .none, .none, .bool false, .none] } → s.heap.objs.size ≤ dx → dx ≠ x → (h'.Ns1 dx fun y => if y = "round_of" then some v else none) → R (.ok (.ret .none)) { s with heap := h', toks := tk }) :
    codeAny (model P w) A (.call (.ref fI) ⟨[.ref x, v], []⟩) R s := by
  obtain ⟨oc, od, doc, pm, an, ct, osl, p1, p2, q, hpos, ho, hcd⟩ := T.fn
  obtain ⟨nm, qn, N, bs, bm, sn, sub, ab, col, dd, k0, k1, k2, k3, k5, hC, hbm, hal⟩ := T.cls
  obtain ⟨cl, cld, csl, hcell⟩ := T.cel
  obtain ⟨ccl, cdd, ccs, vs, file, tf, hcda, hvs, hfile⟩ := T.cda
  refine ks_codeAny_call_defAt (binds := [("self", .ref x), ("round_of", v)]) hroom (X _ _ ho) rfl hlim ?code rfl (BindsTo.of_eq (by first | rfl | with_unfolding_all rfl)) ?nc ?nl (fun h₁ hn k => ?_) rfl rfl rfl
  case code => exact codeRec_of X hcd
  case nc => exact (by decide : ∀ y ∈ siS.names, y.2 ≠ .cell)
  case nl =>
    intro y hy
    rcases List.mem_cons.mp hy with rfl | hy
    · rfl
    · rcases List.mem_cons.mp hy with rfl | hy
      · rfl
      · cases hy
  have X₁ : K.In h₁ := X.keeps k
  have ne : ∀ {a : Addr} {o : Obj}, K.lookup a = some o → a ≠ x := fun e z => by rw [z, hnx] at e; cases e
  let env : Env := ksEnv "__init__" siS s.heap.objs.size fI (.ref cda) cc
  refine ks_wpAt_execs_cons ?_
  refine ks_wpAt_Expr_any ?_
  refine ks_wpAt_MethodCall ?_ (mc_eq hpos rfl)
  refine ks_wpAt_super_base rfl rfl rfl rfl (X₁ _ _ ho) rfl rfl rfl (X₁ _ _ hcda) rfl hvs hfile T.gP ?_
  refine ks_loadName_global rfl rfl (loadGlobal_builtin (hG.keeps k) T.gS (hB.keeps k) hS ⟨rfl, ?_⟩)
  refine wpAny_loadName_free rfl rfl rfl ⟨_, X₁ _ _ hcell, rfl⟩ ?_
  refine wpAny_loadName_local rfl rfl hn rfl ?_
  refine ks_wpAny_isType_cls (X₁ _ _ hC) rfl ⟨rfl, ?_⟩
  refine ks_wpAny_call_super (X₁ _ _ hC) rfl (k _ _ hx) rfl (fun c z => by cases z) (looks_subIn X₁ T.own) fun h₂ hso k₂ => ?_
  have hL : x < s.heap.objs.size := Heap.lt_size hx
  have z₁ : s.heap.objs.size < h₁.objs.size := hn.lt
  have K₀ : K.In (era s.heap x) := fun a o e => by rw [era_ne (ne e)]; exact X _ _ e
  have old : ∀ {h' : Heap}, (∀ b o, h₁.get? b = some o → h'.get? b = some o) → ∀ b o, (era s.heap x).get? b = some o → h'.get? b = some o := fun kk b o e => by
    by_cases c : b = x
    · subst c; rw [era_eq] at e; cases e
    · rw [era_ne c] at e; exact kk _ _ (k _ _ e)
  have F₂ : PyProof.Rows.Fr (era s.heap x) s.heap.objs.size h₂ _ := ⟨hn.keeps k₂, old k₂, Nat.le_of_eq era_sz⟩
  have gone : ∀ b, s.heap.objs.size ≤ b → (era s.heap x).get? b = none := fun b hb => by
    cases e : (era s.heap x).get? b with
    | none => rfl
    | some o => exact absurd (Heap.lt_size e) (by rw [era_sz]; exact Nat.not_lt_of_le hb)
  have N₂ : News (era s.heap x) s.heap.objs.size h₂ [(h₁.objs.size, ks_superObj C x C), (x, excO C t0)] := fun p hp => by
    rcases List.mem_cons.mp hp with rfl | hp
    · exact ⟨hso, Nat.ne_of_gt z₁, gone _ (Nat.le_of_lt z₁)⟩
    · rcases List.mem_cons.mp hp with rfl | hp
      · exact ⟨k₂ _ _ (k _ _ hx), Nat.ne_of_lt hL, era_eq⟩
      · cases hp
  have hcl : clsIn K C = some { name := nm, bases := bs, mro := .ref C :: bm, ns := N, qualname := qn, hasDict := true, slotNames := sn, subclasses := sub, abstract := ab, collection := col, hasDel := false } := by unfold clsIn; rw [hC] <;> rfl
  refine kxs_method kxs_ValueError F₂ K₀ N₂ List.mem_cons_self (ox := excO C t0) (odx := none) ⟨k₂ _ _ (k _ _ hx), rfl, rfl, trivial⟩ T.st ?si T.ve rfl fun u h₃ F₃ N₃ lt₃ => ?_
  case si =>
    unfold ks_superIn
    rw [hcl]
    show alongIn K _ (List.drop 1 (List.dropWhile (fun x => x != Value.ref C) (Value.ref C :: bm))) = _
    rw [show List.drop 1 (List.dropWhile (fun x => x != Value.ref C) (Value.ref C :: bm)) = bm from by simp [List.dropWhile]]; exact hal
  refine kxs_callWith1 N₃ List.mem_cons_self (spliced_more ?_)
  have fits : ∀ y : Str, y.length ≤ 100000 → (Str.empty ++ pre ++ y).length ≤ sizeLine := fun y hy => by
    rw [Str.empty_append, Str.length_append]
    exact Nat.le_trans (Nat.add_le_add T.pl hy) (by decide)
  refine wpAny_JoinedStr ?_
  refine wpAny_Constant_str ?_
  refine ⟨_, _, rfl, ?len, ?_⟩
  case len => exact Nat.le_trans (Nat.le_of_eq (by rw [Str.empty_append])) (Nat.le_trans T.pl (by decide))
  refine wpAny_FormattedValue_plain (wpAny_Name (wpAny_loadName_local rfl rfl F₃.ns rfl ?_) rfl)
  refine hv _ _ _ _ ?un F₃.keep fun y ty tk hy => ⟨_, _, rfl, ?len2, ?len3, ?_⟩
  case un => first | (show A.units + 3 + 2 < cLine; omega) | (simp only [PySem.Around.deeper_units]; omega)
  case len2 => exact fits y hy
  case len3 => exact fits y hy
  refine spliced_none ⟨N₃ _ List.mem_cons_self |>.1, ?_⟩
  refine kxs_call (t := t0) (dv := none) (c2 := .none) F₃ K₀ N₃ F.excBase_ValueError T.iniC List.mem_cons_self (.tail ?n1 (.tail ?n2 (.head ?n3))) (by exact (by decide : 1 ≤ sizeLine)) fun t' h₄ F₄ N₄ lt₄ => ?_
  case n3 => exact fun p hp => nomatch hp
  case n1 => exact Nat.ne_of_gt (lt₃ (x, excO C t0) (List.mem_cons_of_mem _ List.mem_cons_self))
  case n2 => exact fun z => absurd hL (by rw [← z]; exact Nat.not_lt_of_le (Nat.le_of_lt z₁))
  have X₄ : K.In h₄ := K₀.keeps F₄.keep
  have hx₄ : h₄.get? x = some (excO C t') := (N₄ (x, excO C t') (by simp)).1
  refine wpAt_of ?_
  refine wpAny_execs_cons (plainObj_wpAny_Assign_Attribute ?_)
  refine wpAny_Name (wpAny_loadName_local rfl rfl F₄.ns rfl ?_) rfl
  refine wpAny_Name (wpAny_loadName_local rfl rfl F₄.ns rfl ?_) rfl
  refine set_plain X₄ (ox := excO C t') (od := none) ⟨hx₄, rfl, rfl, trivial⟩ T.sa ?_
  refine exc_osa X₄ hx₄ hcl (show refsVE (.ref C :: bm) = true from hbm) rfl T.noN (fun h₅ tk₅ dx k₅ dn dne hx₅ hn₅ => ?_)
  refine wpAny_execs_nil (hq h₅ _ dx t' (fun b o hb e => k₅ b o hb (F₄.keep b o (by rw [era_ne hb]; exact e))) hx₅ (Nat.le_trans (Nat.le_of_lt F₄.ns.lt) dn) dne hn₅)
theorem sup_made (T : SupTxt P K mg C fI cc cda qual pre) {v : Value} (X : K.In s.heap) (hlim : s.heap.NoLimit) (hG : s.heap.Ns mainGlobals mg) (hB : s.heap.Ns builtinsNs mb) (hS : mb "super" = some (.type "super"))
    (hroom : A.depth + 1 < recursionLimit) (hun : A.units + 100 < cLine) (hv : Fmt P w s.heap v)
    (hq : ∀ h' tk e dx t1, (∀ b o, s.heap.get? b = some o → h'.get? b = some o) → s.heap.objs.size ≤ e → h'.get? e = some { cls := .ref C, dict := some dx, data := .fields #[.ref t1, .none, .none, .none, .bool false, .none] } → s.heap.objs.size ≤ dx → dx ≠ e → (h'.Ns1 dx fun y => if y = "round_of" then some v else none) → R (.ok (.ret (.ref e))) { s with heap := h', toks := tk }) :
    codeAny (model P w) A (.call (.ref C) ⟨[v], []⟩) R s := by
  obtain ⟨nm, qn, N, bs, bm, sn, sub, ab, col, dd, k0, k1, k2, k3, k5, hC, hbm, hal⟩ := T.cls
  obtain ⟨hp, g, dr, tk, os⟩ := s
  have k : ∀ b o, hp.get? b = some o → ((hp.push (kdv_tup [v])).push (excO C hp.objs.size)).get? b = some o := fun b o e => Heap.get?_push_of_some _ (Heap.get?_push_of_some _ e)
  have hget : ((hp.push (kdv_tup [v])).push (excO C hp.objs.size)).get? (hp.objs.size + 1) = some (excO C hp.objs.size) := by heap_get
  have hnx : K.lookup (hp.objs.size + 1) = none := by
    cases e : K.lookup (hp.objs.size + 1) with
    | none => rfl
    | some o => exact absurd (Nat.lt_of_succ_lt (Heap.lt_size (X _ _ e))) (Nat.lt_irrefl _)
  refine call_own F.excBase_ValueError (fun X => refsVE_contains X bm hbm) (X _ _ hC) (looks_findIn X T.iC) (fun self => bind_fn X self T.tC) (by exact (by decide : 1 ≤ sizeLine)) ?_
  have hv' : Fmt P w (era ((hp.push (kdv_tup [v])).push (excO C hp.objs.size)) (hp.objs.size + 1)) v := fun A E s Q uu kk qq => hv A E s Q uu (fun b o e => kk b o (by rw [era_ne (Nat.ne_of_lt (Nat.lt_succ_of_lt (Heap.lt_size e)))]; exact k b o e)) qq
  refine sup_init (s := ⟨(hp.push (kdv_tup [v])).push (excO C hp.objs.size), g, dr, tk, os⟩) T (X.keeps k) (hlim.keeps k) (hG.keeps k) (hB.keeps k) hS hget hnx hroom (by first | omega | (rw [L2.make_units]; omega)) hv' fun h' tk' dx t1 k' hx dn dne hns => ?_
  have e2 : hp.objs.size + 1 + 1 ≤ dx := by rw [Heap.size_push, Heap.size_push] at dn; exact dn
  exact ⟨rfl, hq h' tk' (hp.objs.size + 1) dx t1 (fun b o e => k' b o (Nat.ne_of_lt (Nat.lt_succ_of_lt (Heap.lt_size e))) (k b o e)) (Nat.le_succ _) hx (Nat.le_trans (Nat.le_trans (Nat.le_succ _) (Nat.le_succ _)) e2) dne hns⟩
end
open L2
section
variable {X : L2.Cx} {C fI cc cda : Addr} {qual pre x : Str}
theorem pmk_sup {okv : Hp → V → Prop} {a : PySem.Expr} {ta : TA} {p pos : Pos} {k : Nat} (T : SupTxt X.prog X.K X.mg C fI cc cda qual pre) (hr : Room (k + 1) X.A) (gC : X.mg x = some (.ref C)) (kC : keepIn X.K (.ref C) = true) (rC : Raises X (.ref C))
    (hf : ∀ (pins : List (Addr × Obj)) (σ : L2.St) (H : Hp) (s : Shared) v u, L2.Inv X pins σ H s → okv H v → RelV v u → Fmt X.prog X.w s.heap u) (ha : PA X [a] ta) (hg : Gl X x := by rfl) (hd : (x == ("__debug__" : Str)) = false := by decide)
    (he : starEach (a :: []) X.env = (false, eval a X.env) :: starEach [] X.env := by rfl) (hpl : (backTo pos (starEach [] X.env)).any (·.1) = false := by rfl) :
    PMk X (.Call (.Name x p) [a] [] pos) (ON.tMkH C "round_of" okv ta) := by
  intro pins s σ H Q I h
  refine wpAny_Call_Name_kw (ld_glob I hg gC ?_ hd)
  refine PySem.W.callWith_K (h₀ := X.base) I.ok.mod.kin kC (thn (ha.run pos pins s σ H _ I h) fun us s1 hh => ?_) he hpl
  obtain ⟨vs, H1, I1, r1, v, ev, hok, q1⟩ := hh
  subst ev
  refine ⟨I1.kIn, ?_⟩
  cases r1 with
  | cons rv rn =>
    rename_i v' us'
    cases rn
    show wpAny _ _ (call (.ref C) [v']) _ _ _
    have hlim := I1.nolimit
    obtain ⟨mb, hB, hbl⟩ := I1.ok.mod.blt
    have base : ∀ b o, X.base.get? b = some o → s1.heap.get? b = some o := fun b o e => (I1.bs b o e).1
    have hG := I1.ok.mod.glob.keeps base
    have hB' := hB.keeps base
    have hS : mb "super" = some (.type "super") := by rw [hbl _ (by decide)]; rfl
    have hF := hf _ _ H1 s1 v v' I1 hok rv
    obtain ⟨hp, g, dr, tk, os⟩ := s1
    refine wpAny_call (sup_made T I1.kIn hlim hG hB' hS (by have := hr.dp; omega) (by have := hr.un; omega) hF fun h' tk' e d t1 keep newe hoe newd dne hns => ?_)
    show MkP X pins σ Q (.ref e) ⟨h', g, dr, tk', os⟩
    have ge : (era h' e).get? e = none := era_eq
    have old : ∀ b o, hp.get? b = some o → (era h' e).get? b = some o := fun b o q => (era_ne (Nat.ne_of_lt (Nat.lt_of_lt_of_le (Heap.lt_size q) newe))).trans (keep b o q)
    have ob : ObjOk X.prog X.w (upd H1 d (.xd [(("round_of" : Str), v)])) (era h' e) d (.xd [(("round_of" : Str), v)]) :=
      ⟨_, hns.at (fun o q => (era_ne dne).trans q), fun f => by
        by_cases hw : f = "round_of"
        · subst hw
          rw [if_pos rfl, show List.lookup ("round_of" : Str) [(("round_of" : Str), v)] = some v from by simp [List.lookup]]
          exact rv
        · have qw : (f == ("round_of" : Str)) = false := by simpa using hw
          have q2 : List.lookup f [(("round_of" : Str), v)] = none := by simp [List.lookup, qw]
          rw [if_neg hw, q2]
          trivial⟩
    have J : L2.Inv X pins σ (upd H1 d (.xd [(("round_of" : Str), v)])) ⟨era h' e, g, dr, tk', os⟩ := I1.laid (t' := tk') old newd ob
    refine ⟨e, _, _, ⟨era h' e, g, dr, tk', os⟩, _, .ref C, some d, rfl, J, fun b o q => ?_, ge, hoe, ⟨rfl, rfl⟩, rfl, rfl, ?_, rfl, I1.bare, rC, q1 d (I1.hok.fresh newd)⟩
    · by_cases hb : b = e
      · have q' : (era h' e).get? b = some o := q
        rw [hb, ge] at q'; cases q'
      · exact (era_ne hb).symm.trans q
    · rw [upd_ne (Ne.symm dne)]
      exact I1.hok.fresh newe
end
end ON.F_round
namespace ON
open PySem PySem.Spec PyProof.Rows L2
/-! ### two numbers in the braces -/
def okII (p : Int × Int) : Prop := p.1.natAbs < 10 ^ 40 ∧ p.2.natAbs < 10 ^ 40
instance : DecidablePred okII := fun p => by unfold okII; exact inferInstance
def isII (K : PySem.W.Frag) (H : Hp) (v : V) : Prop := ∃ a i j, v = .ref a ∧ SqT K H a [.int i, .int j] ∧ okII (i, j)
theorem ho_isII {K : PySem.W.Frag} : ∀ (a : Int × Int) (B H : Hp) (v : V), okII a → Gr B H → Rp K B v (enc a) → isII K H v := fun a B H v h g r => by
  obtain ⟨p, vs, rfl, hp, hs⟩ := Rp.tup_inv r
  cases hs with | cons h1 hs => cases hs with | cons h2 hs =>
    cases hs
    rw [Rp.int_inv h1, Rp.int_inv h2] at hp
    exact ⟨p, a.1, a.2, rfl, g.sqT hp, h⟩
theorem len40 {i : Int} (h : i.natAbs < 10 ^ 40) : (Str.ofString (toString i)).length ≤ 41 := by
  rw [PySem.ofString_length]; exact int_text_length_le10 (by decide) h
theorem log40 {i : Int} (h : i.natAbs < 10 ^ 40) : i.natAbs.log2 < 1920 := PySem.Flt.log2_lt_of (by decide) (Nat.lt_trans h (by decide))
theorem fmt_isII {X : Cx} : ∀ (pins : List (Addr × Obj)) (σ : L2.St) (H : Hp) (s : Shared) (v : V) (u : Value), Inv X pins σ H s → isII X.K H v → RelV v u → F_spot.Fmt X.prog X.w s.heap u := fun pins σ H s v u I hi r => by
  obtain ⟨a, i, j, rfl, ht, hl⟩ := hi
  cases r
  intro A E s2 Q hu hk q
  obtain ⟨its, rv, ⟨o, ho, hc, n, hd⟩, _⟩ := I.tuple ht
  cases rv with | cons r1 rv => cases rv with | cons r2 rv =>
    cases rv
    obtain ⟨t1, rfl⟩ := r1
    obtain ⟨t2, rfl⟩ := r2
    have l1 : (Str.ofString (toString i)).length ≤ 41 := len40 hl.1
    have l2 : (Str.ofString (toString j)).length ≤ 41 := len40 hl.2
    have hT := fmt_text [Str.ofString (toString i), Str.ofString (toString j)]
    rw [piled_cons, piled_cons, piled_nil] at hT
    refine fmt_tuple hu (hk _ _ ho) hc hd (.cons (ReprIs.int t1 (log40 hl.1)) (.cons (ReprIs.int t2 (log40 hl.2)) .nil)) (Nat.le_trans hT (Nat.le_trans (show _ ≤ 1000 by omega) (by decide))) fun m u tk hm => q m u tk ?_
    have hm2 := Nat.le_trans hm (Nat.add_le_add_right hT 5)
    omega
end ON

set_option Elab.async false
set_option linter.all false
set_option maxRecDepth 100000
set_option maxHeartbeats 400000
/-! N25: append, what follows bound. -/
namespace ON
open PySem PySem.Spec PyProof.Rows L2
section
variable {K : PySem.W.Frag} {m : Type → Type} [Mn m] {α β γ τ τ' l ρ : Type} {sd sd' : List SD} {ta tb te : TE} [Rt ρ] {W : Wr} {post : τ → List SD} {postL : l → List SD} {ts tu : TS}
theorem es_pb {z : α} {f : α → m (Fl τ l ρ)} (h : EvS K W ts sd post postL (f z)) : EvS K W ts sd post postL (Mn.bnd (Mn.pur z) f) := fun F σ B H k R r k' e D q => by
  obtain ⟨a, k1, e1, e2⟩ := bnd_some e
  obtain ⟨rfl, rfl⟩ := pur_some e1
  exact h F σ B H _ R r k' e2 D q
theorem es_appP [Enc α] {i : Nat} {xs : List α} {y : m α} {f : List α → m (Fl τ l ρ)} (hi : sd[i]? = some (.own (.lst .dat) (enc xs))) (h : EvM K te sd y) (hf : ∀ zs, EvS K W tu (sd.set i (.own (.lst .dat) (enc zs))) post postL (f zs)) :
    EvS K W (tSeq (tDrop (tBM K "list" rAppend (tVar i) (tCons te tNil))) tu) sd post postL (Mn.bnd y fun a => gd (xs.length < 100000) (Mn.bnd (Mn.pur (xs ++ [a])) f)) := es_appG (f := fun zs => Mn.bnd (Mn.pur zs) f) hi h fun zs => es_pb (hf zs)
theorem es_appNilP [Enc α] {i : Nat} {xss : List (List α)} {f : List (List α) → m (Fl τ l ρ)} (hi : sd[i]? = some (.own (.lst (.lst .dat)) (enc xss))) (hf : ∀ ys, EvS K W tu (sd.set i (.own (.lst (.lst .dat)) (enc ys))) post postL (f ys)) :
    EvS K W (tSeq (tDrop (tBM K "list" rAppend (tVar i) (tCons (tLst tNil) tNil))) tu) sd post postL (gd (xss.length < 100000) (Mn.bnd (Mn.pur (xss ++ [[]])) f)) :=
  es_appNil (f := fun ys => Mn.bnd (Mn.pur ys) f) hi fun ys => es_pb (hf ys)
end
end ON

set_option Elab.async false
set_option linter.all false
set_option maxRecDepth 100000
set_option maxHeartbeats 400000
/-! N26: a tuple of anything. -/
namespace ON
open PySem PySem.Spec PyProof.Rows L2
def anL : List D → Option (List An)
  | [] => some []
  | d :: ds => if h : tyN d ≠ "" then (anL ds).map (fun r => ⟨d, h⟩ :: r) else none
theorem anL_ok : ∀ (ds : List D) (as : List An), anL ds = some as → as.map enc = ds
  | [], _, h => by cases h; rfl
  | d :: ds, as, h => by
    rw [anL] at h
    by_cases c : tyN d ≠ ""
    · rw [dif_pos c] at h
      cases e : anL ds with
      | none => rw [e] at h; cases h
      | some r =>
        rw [e] at h; cases h
        rw [List.map_cons, anL_ok ds r e]; rfl
    · rw [dif_neg c] at h; cases h
instance : Dec An (Tl An) := ⟨fun a => match a.d with | .tup ds => (anL ds).map Tl.mk | _ => none⟩
theorem dec_anT : ∀ (a : An) b, (Dec.dec a : Option (Tl An)) = some b → enc a = enc b := fun a b e => by
  obtain ⟨d, h⟩ := a
  cases d with
  | tup ds =>
    cases e2 : anL ds with
    | none =>
      have : (Dec.dec (⟨.tup ds, h⟩ : An) : Option (Tl An)) = (anL ds).map Tl.mk := rfl
      rw [this, e2] at e; cases e
    | some r =>
      have : (Dec.dec (⟨.tup ds, h⟩ : An) : Option (Tl An)) = (anL ds).map Tl.mk := rfl
      rw [this, e2] at e; cases e
      show D.tup ds = D.tup (r.map enc)
      rw [anL_ok ds r e2]
  | _ => cases e
end ON

set_option Elab.async false
set_option linter.all false
set_option maxRecDepth 100000
set_option maxHeartbeats 400000
/-! N27: a raising def called where it doesn't raise. -/
namespace ON
open PySem PySem.Spec PyProof.Rows L2
def okO {α : Type} : Option (Xr α) → Option α
  | some (.ok a) => some a
  | _ => none
theorem okO_some {α : Type} {x : Option (Xr α)} {a : α} (h : okO x = some a) : x = some (.ok a) := by
  cases x with
  | none => cases h
  | some r => cases r with
    | ok b => cases h; rfl
    | er e => cases h
theorem noX {P : Program} {w : World} {K : PySem.W.Frag} {mg : Str → Option Value} {base : Heap} {k n : Nat} {f : Addr} {fd : FuncData} {ps : List Str} {s : Sh} {pre : List D → D ⊕ Er → Prop} (F : FnOk P w K mg base (L2.CX P w) k f fd ps (spX K n s pre)) :
    FnOk P w K mg base CX0 k f fd ps (spP K n s fun ds r => pre ds (.inl r)) := by
  have conv : ∀ vs H Q E, spP K n s (fun ds r => pre ds (.inl r)) vs H Q E → spX K n s pre vs H Q E0 := fun vs H Q E h => by
    obtain ⟨B, ds, r, hp, hn, g, rs, q⟩ := h
    exact ⟨B, ds, .inl r, hp, hn, g, rs, fun d e => by cases e; exact q, fun e z => by cases z⟩
  refine ⟨fun vs H Q E h => F.len _ _ _ _ (conv vs H Q E h), fun A outer s0 H args us vs Q E hr e0 hb r hs => ?_⟩
  refine codeAny_mono (F.run A outer s0 H args us vs Q E0 hr e0 hb r (conv vs H Q E hs)) fun r s' h => ?_
  cases r with
  | ok fl => cases fl <;> exact h
  | error e =>
    obtain ⟨_, _, _, _, _, _, _, _, _, _, _, _, z⟩ := h
    exact z.elim
end ON

set_option Elab.async false
set_option linter.all false
set_option maxRecDepth 100000
set_option maxHeartbeats 2000000
/-! N28: zip of a list and a tuple (printed by gen28.py out of NZ and N5) -/
namespace ON
open PySem PySem.Spec PyProof.Rows L2
def ItW (K : PySem.W.Frag) (a b : Addr) : It :=
  ⟨fun i H => ∃ (xs ys : List V) (x y : V), SqL K H a xs ∧ SqT K H b ys ∧ xs[i]? = some x ∧ ys[i]? = some y,
   fun i H v H' => ∃ T x y, v = .ref T ∧ H T = none ∧ H' = upd H T (.tup [x, y]) ∧ (∀ xs, SqL K H a xs → xs[i]? = some x) ∧ (∀ ys, SqT K H b ys → ys[i]? = some y),
   fun i H => ∃ xs ys : List V, SqL K H a xs ∧ SqT K H b ys ∧ (xs.length = i ∨ ys.length = i) ∧ i ≤ xs.length ∧ i ≤ ys.length⟩
def StW (a b z TI TO i1 i2 : Addr) (i : Nat) (h : Heap) : Prop := IsZip h z TI TO .none ∧ IsPair h TI (.ref i1) (.ref i2) ∧ (∃ x y, IsPair h TO x y) ∧ h.IsListIter i1 a i ∧ h.IsTupleIter i2 b i
theorem turnW {P : Program} {w : World} {K : PySem.W.Frag} {es : List Expr} {kk : Nat} {tp : Pos} {a b z TI TO i1 i2 : Addr} (D : ZipApart z TI TO i1 i2 a b) :
    Turn P w K (.Tuple es kk tp) (ItW K a b) [z, TI, TO, i1, i2] z (StW a b z TI TO i1 i2) where
  mem := by simp
  obj := fun i h st c hc => by
    obtain ⟨hz, hI, ⟨x, y, hO⟩, ⟨o1, q1, _, d1⟩, ⟨o2, q2, _, d2⟩⟩ := st
    rcases five hc with rfl | rfl | rfl | rfl | rfl
    · exact ⟨_, hz, fun v q => nomatch q⟩
    · exact ⟨_, hI, fun v q => nomatch q⟩
    · exact ⟨_, hO, fun v q => nomatch q⟩
    · exact ⟨o1, q1, fun v q => by rw [d1] at q; cases q⟩
    · exact ⟨o2, q2, fun v q => by rw [d2] at q; cases q⟩
  keep := fun i h h' st k => by
    obtain ⟨hz, hI, ⟨x, y, hO⟩, n1, n2⟩ := st
    exact ⟨k z (by simp) _ hz, k TI (by simp) _ hI, ⟨x, y, k TO (by simp) _ hO⟩, n1.at fun o q => k i1 (by simp) o q, n2.at fun o q => k i2 (by simp) o q⟩
  item := by
    intro X hP hw hK hc i pins s σ H E I hf st hg
    subst hP hw hK
    obtain ⟨hz, hI, ⟨x0, y0, hO⟩, n1, n2⟩ := st
    obtain ⟨xs, ys, x, y, hqx, hqy, hx, hy⟩ := hg
    obtain ⟨ws, rv, p1, _⟩ := I.list hqx
    obtain ⟨ws2, rv2, p2, _⟩ := I.tuple hqy
    obtain ⟨u, hu, ru⟩ := rv.get hx
    obtain ⟨u2, hu2, ru2⟩ := rv2.get hy
    have zl : z < s.heap.objs.size := Heap.lt_size hz
    have hh : X.A.in1.handled = none := I.ok.hd hc
    refine wpAny_pyNext_zipD2_item (n1 := ws.toArray.size) (n2 := ws2.toArray.size) (sep_of D) (Draws.list hh i1 a D.l1i1 ws.toArray) (Draws.tuple hh i2 b D.l2i2 ws2.toArray) hz hI hO ⟨n1, p1.isList⟩ ⟨n2, p2⟩ ?_ ?_ ?_
    · have := (List.getElem?_eq_some_iff.mp hu).1; simpa using this
    · have := (List.getElem?_eq_some_iff.mp hu2).1; simpa using this
    intro v1 v2 h' tk e1 e2 z' O' st1 st2 hT hsz hk
    have ev1 : v1 = u := by
      have q : ws[i]? = some v1 := by simpa using e1
      rw [hu] at q; exact (Option.some.inj q).symm
    have ev2 : v2 = u2 := by
      have q : ws2[i]? = some v2 := by simpa using e2
      rw [hu2] at q; exact (Option.some.inj q).symm
    subst ev1 ev2
    refine ⟨_, rfl, wpAny_letOwnedTupleGo_zip (s := { s with heap := h', toks := tk }) z' fun h2 z2 sb => ?_⟩
    have T2 : h2.get? s.heap.objs.size = some { cls := .type "tuple", data := .seq #[v1, v2] } := (sb.2 _ (Nat.ne_of_gt zl)).trans hT
    have new : ObjOk X.prog X.w (upd H s.heap.objs.size (.tup [x, y])) h2 s.heap.objs.size (.tup [x, y]) := ⟨by show 2 ≤ sizeLine; decide, [v1, v2], .cons ru (.cons ru2 .nil), ⟨_, T2, rfl, _, rfl⟩⟩
    have lt : ∀ c ∈ [z, TI, TO, i1, i2], c < s.heap.objs.size := fun c hc => by
      rcases five hc with rfl | rfl | rfl | rfl | rfl
      · exact zl
      · exact Heap.lt_size hI
      · exact Heap.lt_size hO
      · obtain ⟨_, q, _⟩ := n1; exact Heap.lt_size q
      · obtain ⟨_, q, _⟩ := n2; exact Heap.lt_size q
    have I1 : Inv X pins σ (upd H s.heap.objs.size (.tup [x, y])) { s with heap := h2, toks := tk } := I.turnedNew (t' := tk) (ch := [z, TI, TO, i1, i2]) (fun c o hn q =>
      (sb.2 c (fun r => hn (by simp [r]))).trans (hk c o (fun r => hn (by simp [r])) (fun r => hn (by simp [r])) (fun r => hn (by simp [r])) (fun r => hn (by simp [r])) q)) hf (Nat.le_refl _) new
    refine ⟨.ref s.heap.objs.size, _, I1, rfl, ⟨_, x, y, rfl, I.hok.fresh (Nat.le_refl _), rfl, fun l hl => by rw [I.list_inj hl hqx]; exact hx, fun l hl => by rw [I.tuple_inj hl hqy]; exact hy⟩, ⟨z2, ?_, ⟨v1, v2, ?_⟩, ?_, ?_⟩, fun c hcm => ?_⟩
    · exact (sb.2 _ D.TIz).trans (hk _ _ D.TIz D.TITO D.TIi1 D.TIi2 hI)
    · exact (sb.2 _ D.TOz).trans O'
    · exact st1.1.at fun o q => (sb.2 _ D.i1z).trans q
    · exact st2.1.at fun o q => (sb.2 _ D.i2z).trans q
    · rw [upd_ne (Nat.ne_of_lt (lt c hcm))]
      exact (hf c hcm).1
  done := by
    intro X hP hw hK hc i pins s σ H E I hf st hg
    subst hP hw hK
    obtain ⟨hz, hI, ⟨x0, y0, hO⟩, n1, n2⟩ := st
    obtain ⟨xs, ys, hqx, hqy, he, l1, l2⟩ := hg
    obtain ⟨ws, rv, p1, _⟩ := I.list hqx
    obtain ⟨ws2, rv2, p2, _⟩ := I.tuple hqy
    have hh : X.A.in1.handled = none := I.ok.hd hc
    have s1 : ws.toArray.size = xs.length := by rw [List.size_toArray]; exact rv.length.symm
    have s2 : ws2.toArray.size = ys.length := by rw [List.size_toArray]; exact rv2.length.symm
    refine wpAny_pyNext_zipD2_end (n1 := ws.toArray.size) (n2 := ws2.toArray.size) (sep_of D) (Draws.list hh i1 a D.l1i1 ws.toArray) (Draws.tuple hh i2 b D.l2i2 ws2.toArray) hz hI hO ⟨n1, p1.isList⟩ ⟨n2, p2⟩ (by omega) (by omega) (by omega) fun h' tk hk => ?_
    exact ⟨rfl, I.turnedL (t' := tk) (ch := [z, TI, TO, i1, i2]) (fun c o hn q => hk c o (fun r => hn (by simp [r])) (fun r => hn (by simp [r])) (fun r => hn (by simp [r])) (fun r => hn (by simp [r])) q) hf⟩
  self := fun A i s Q E st h => wpAny_pyIter_zip st.1 h
def iZipW (K : PySem.W.Frag) (ta : TA) : TI := fun σ H R => ta σ H fun vs H1 => ∃ a b xs ys, vs = [.ref a, .ref b] ∧ SqL K H1 a xs ∧ SqT K H1 b ys ∧ R (ItW K a b) H1
theorem pi_zipW {X : Cx} {e e2 : Expr} {ta : TA} {p pos tpos : Pos} {elts : List Expr} {kk : Nat} (hg : Gl X "zip") (hm : X.mg "zip" = none) (ha : PA X [e, e2] ta)
    (hs : starEach [e, e2] X.env = (false, eval e X.env) :: starEach [e2] X.env := by rfl) (hpl : (backTo pos (starEach [e2] X.env)).any (·.1) = false := by rfl) :
    PI X (.Tuple elts kk tpos) (.Call (.Name "zip" p) [e, e2] [] pos) (iZipW X.K ta) := by
  refine ⟨fun pins s σ H R I h => ?_⟩
  refine Call_ (ld_blt I hg hm PyProof.Rows.boot_zip (PyProof.Rows.callWith_type1 (thn (ha.run pos pins s σ H _ I h) fun us s1 q0 => ?_) hs hpl))
  obtain ⟨vs, H1, I1, r1, a, b, xs, ys, rfl, hqx, hqy, q⟩ := q0
  cases r1 with
  | cons r rr =>
    cases rr with
    | cons r' rr =>
      cases rr
      cases r
      cases r'
      obtain ⟨ws, rv, p1, _⟩ := I1.list hqx
      obtain ⟨ws2, rv2, p2, _⟩ := I1.tuple hqy
      obtain ⟨o1, ho1, _⟩ := id p2
      have lt1 : a < s1.heap.objs.size := p1.lt
      have lt2 : b < s1.heap.objs.size := Heap.lt_size ho1
      refine zip_begins2 (begins_list a ws.toArray) (begins_tuple b ws2.toArray) p1.isList p2 fun h' hz hI hO g1 g2 hsz hk => wpAny_pyIter_zip hz ?_
      have fresh : ∀ c, c ∈ [s1.heap.objs.size + 4, s1.heap.objs.size + 2, s1.heap.objs.size + 3, s1.heap.objs.size, s1.heap.objs.size + 1] → FpOk X pins H1 c := fun c hcm => by
        have le : s1.heap.objs.size ≤ c := by
          rcases five hcm with rfl | rfl | rfl | rfl | rfl
          · exact Nat.le_add_right _ _
          · exact Nat.le_add_right _ _
          · exact Nat.le_add_right _ _
          · exact Nat.le_refl _
          · exact Nat.le_add_right _ _
        exact I1.fpOk le (I1.hok.fresh le)
      have I2 : Inv X pins σ H1 { s1 with heap := h' } := I1.kept (t' := s1.toks) hk
      exact ⟨_, _, _, _, H1, rfl, I2, turnW (PySem.W.ktu_apart s1.heap.objs.size a b lt1 lt2), ⟨hz, hI, ⟨_, _, hO⟩, ⟨_, g1, rfl, rfl⟩, ⟨_, g2, rfl, rfl⟩⟩, fresh, q⟩
section
variable {K : PySem.W.Frag} {m : Type → Type} [Mn m] {α β : Type} {sd : List SD}
theorem src_zipW [Enc α] [Enc β] {p q : Addr} {vs ws : List V} {xs : List α} {ys : List β} {B : Hp} (h : SqL K B p vs) (r : Rps K B vs (xs.map enc)) (h2 : SqT K B q ws) (r2 : Rps K B ws (ys.map enc)) : Src K (ItW K p q) B (xs.zip ys) := by
  have hl : vs.length = xs.length := by rw [r.len, List.length_map]
  have hl2 : ws.length = ys.length := by rw [r2.len, List.length_map]
  have hz : (xs.zip ys).length = min xs.length ys.length := List.length_zip
  refine ⟨fun i C H g g2 hi => ?_, fun i C H g g2 hi => ?_, fun i C H x H' a g g2 y hi => ?_⟩
  · exact ⟨vs, ws, vs[i]'(by omega), ws[i]'(by omega), (g.trans g2).sqL h, (g.trans g2).sqT h2, List.getElem?_eq_getElem (by omega), List.getElem?_eq_getElem (by omega)⟩
  · exact ⟨vs, ws, (g.trans g2).sqL h, (g.trans g2).sqT h2, by omega, by omega, by omega⟩
  · obtain ⟨T, y1, y2, rfl, nT, rfl, f1, f2⟩ := y
    have hx := f1 vs ((g.trans g2).sqL h)
    have hy := f2 ws ((g.trans g2).sqT h2)
    obtain ⟨a, b⟩ := a
    obtain ⟨ha, hb⟩ := List.getElem?_zip_eq_some.mp hi
    obtain ⟨v, hv, rv⟩ := r.get (i := i) (d := enc a) (by rw [List.getElem?_map, ha] <;> rfl)
    obtain ⟨w, hw, rw'⟩ := r2.get (i := i) (d := enc b) (by rw [List.getElem?_map, hb] <;> rfl)
    rw [hx] at hv; cases hv
    rw [hy] at hw; cases hw
    have gT : Gr C (upd C T (.tup [y1, y2])) := Gr.new (g2.back nT)
    refine ⟨upd C T (.tup [y1, y2]), fun F σ sd k R => (R.data nT).1, gT, Gr.new nT, fun p e => ?_, fun p o e eb => ?_, ?_⟩
    · by_cases c : p = T
      · subst c; exact nT
      · rw [upd_ne c] at e; exact e
    · rw [upd_ne (ne_of_none e nT)]; exact eb
    · exact .tup (.inl (.inl upd_same)) (.cons ((rv.gr g).gr gT) (.cons ((rw'.gr g).gr gT) .nil))
theorem ei_zipW [Enc α] [Enc β] {tr : TA} {x : m (List α × Tl β)} (h : EvA K tr sd x (fun a => [enc a.1, enc a.2])) : EvI K (iZipW K tr) sd (Mn.bnd x fun p => Mn.pur (p.1.zip p.2.l)) := fun F σ B H k R xs k' e Q q => by
  obtain ⟨n, k1, e1, e2⟩ := bnd_some e
  obtain ⟨rfl, rfl⟩ := pur_some e2
  refine h F σ B H k R n _ e1 _ fun vs B1 H1 R1 g1 r1 => ?_
  cases r1 with | cons h hs => cases hs with | cons h2 hs =>
    cases hs
    obtain ⟨p, vs, rfl, hp, hs⟩ := Rp.lst_inv h
    obtain ⟨p2, vs2, rfl, hp2, hs2⟩ := Rp.tup_inv h2
    exact ⟨p, p2, vs, vs2, rfl, SqL.of (R1.bh _ _ hp), R1.bh.sqT hp2, q _ B1 H1 R1 g1 (src_zipW (SqL.of hp) hs hp2 hs2)⟩

end
end ON

set_option Elab.async false
set_option linter.all false
set_option maxRecDepth 100000
set_option maxHeartbeats 400000
/-! N29: list(x), x a list or a tuple. -/
namespace ON
open PySem PySem.Spec PyProof.Rows L2
section
variable {K : PySem.W.Frag} {m : Type → Type} [Mn m] {α β : Type} {sd : List SD} {te : TE}
def rListOf (K : PySem.W.Frag) : List V → Hp → VK → Prop := fun xs H Q => ∃ p ys, xs = [.ref p] ∧ (SqL K H p ys ∨ SqT K H p ys) ∧ ∀ l, H l = none → Q (.ref l) (upd H l (.lst ys))
theorem cr_listOf {X : Cx} : CallR X (.type "list") (rListOf X.K) := call_list_of
theorem ef_listL [Enc α] {x : m (List α)} (h : EvM K te sd x) : EvF K (.lst .dat) (tCB (rListOf K) (tCons te tNil)) sd x := fun F σ B H k R a k' e Q q =>
  h F σ B H k R a k' e _ fun v B1 H1 R1 g1 r1 => by
    obtain ⟨p, vs, rfl, hp, hs⟩ := Rp.lst_inv r1
    exact ⟨p, vs, rfl, .inl (SqL.of (R1.bh _ _ hp)), fun l hl => q _ B1 _ (R1.newL hl hs) g1⟩
theorem ef_listT [Enc α] {x : m (Tl α)} (h : EvM K te sd x) : EvF K (.lst .dat) (tCB (rListOf K) (tCons te tNil)) sd (Mn.bnd x fun t => Mn.pur t.l) := fun F σ B H k R a k' e Q q => by
  obtain ⟨t, k1, e1, e2⟩ := bnd_some e
  obtain ⟨rfl, rfl⟩ := pur_some e2
  exact h F σ B H k R t _ e1 _ fun v B1 H1 R1 g1 r1 => by
    obtain ⟨p, vs, rfl, hp, hs⟩ := Rp.tup_inv r1
    exact ⟨p, vs, rfl, .inr (R1.bh.sqT hp), fun l hl => q _ B1 _ (R1.newL hl hs) g1⟩
end
end ON

set_option Elab.async false
set_option linter.all false
set_option maxRecDepth 100000
set_option maxHeartbeats 400000
/-! N30: a dict of the top, out of the facts of its text. -/
namespace ON
open PySem PySem.Spec PyProof.Rows L2
theorem dic_keys {P : Params} : ∀ {l : List DictEntry} {ks : List Str}, l.map He.keyOf = He.keysIn P ks → ∀ e ∈ l, ∃ x t, e.key = .str x t ∧ x ∈ ks
  | [], _, _, _, h => nomatch h
  | e :: r, [], h, _, _ => by cases h
  | e :: r, k :: ks, h, e', he => by
    have h1 : He.keyOf e :: r.map He.keyOf = some (k, PyData.keyHash P k) :: He.keysIn P ks := h
    injection h1 with h2 h3
    rcases List.mem_cons.mp he with rfl | he
    · unfold He.keyOf at h2
      split at h2
      · rename_i x t q
        obtain ⟨h5, h6⟩ := Prod.mk.inj (Option.some.inj h2)
        exact ⟨x, t, q, by rw [h5]; exact .head _⟩
      · cases h2
    · obtain ⟨x, t, q, m⟩ := dic_keys h3 e' he
      exact ⟨x, t, q, .tail _ m⟩
theorem nsNo {K : PySem.W.Frag} {w : World} {a : Addr} {ks : List Str} (h : He.dicW K a = some (He.keysIn w.params ks)) (z : Str) (hz : z ∉ ks) : PySem.W.nsIn K a z = some none := by
  obtain ⟨es, n, D⟩ := He.dicW_ok h
  have hk : es.toList.map He.keyOf = He.keysIn w.params ks := by
    unfold He.dicW at h
    rw [D.at_] at h
    simp only [decide_true, Bool.true_and] at h
    split at h
    · exact Option.some.inj h
    · cases h
  have keys := dic_keys hk
  unfold PySem.W.nsIn
  rw [D.at_]
  dsimp only
  have e1 : es.toList.find? (fun e => e.key.isStr z) = none := List.find?_eq_none.mpr fun e he => by
    obtain ⟨x, t, q, m⟩ := keys e he
    rw [q]
    intro c
    have : x = z := by
      have c2 : (x == z) = true := c
      simpa using c2
    exact hz (this ▸ m)
  have e2 : es.toList.any (·.refKey) = false := List.any_eq_false.mpr fun e he => by
    obtain ⟨x, t, q, m⟩ := keys e he
    unfold DictEntry.refKey
    rw [q]; simp
  rw [e1, e2]; rfl
theorem look_mem {α : Type} : ∀ {l : List (Str × α)} {z : Str} {a : α}, l.lookup z = some a → (z, a) ∈ l
  | [], _, _, h => by cases h
  | (k, b) :: r, z, a, h => by
    rw [List.lookup_cons] at h
    by_cases c : z = k
    · subst c
      simp at h
      subst h; exact .head _
    · have : (z == k) = false := by simpa using c
      rw [this] at h
      exact .tail _ (look_mem h)
theorem look_no {α : Type} : ∀ {l : List (Str × α)} {z : Str}, l.lookup z = none → z ∉ l.map Prod.fst
  | [], _, _ => by simp
  | (k, b) :: r, z, h => by
    rw [List.lookup_cons] at h
    by_cases c : z = k
    · subst c; simp at h
    · have : (z == k) = false := by simpa using c
      rw [this] at h
      have ih := look_no h
      rw [List.map_cons, List.mem_cons]
      rintro (q | q)
      · exact c q
      · exact ih q
theorem ktab {K : PySem.W.Frag} {w : World} {d : Addr} {α : Type} [Enc α] {c : Dc Str α} (h : He.dicW K d = some (He.keysIn w.params (c.l.map Prod.fst))) (hy : ∀ p ∈ c.l, ∃ u v, PySem.W.nsIn K d p.1 = some (some u) ∧ RelV v u ∧ ∀ B, Rp K B v (enc p.2)) : KTab K w d c where
  kd := He.dicW_ok h
  no z e := nsNo h z (look_no e)
  yes z a e := hy (z, a) (look_mem e)
end ON

set_option Elab.async false
set_option linter.all false
set_option maxRecDepth 100000
set_option maxHeartbeats 1000000
/-! N31: the names of a state, all but one sign of each out of four. -/
namespace ON
open PySem PySem.Spec PyProof.Rows L2
def qz (c : Nat) : Bool := decide (c = 113 ∨ c = 122 ∨ c = 106 ∨ c = 118)
/-- of the four signs alone -/
def Qz (y : Str) : Prop := y.cps.toList.all qz = true
instance (y : Str) : Decidable (Qz y) := by unfold Qz; exact inferInstance
/-- all but one of the four signs -/
def Few (y : Str) : Prop := y.cps.toList.countP (fun c => !qz c) ≤ 1
instance (y : Str) : Decidable (Few y) := by unfold Few; exact inferInstance
theorem Qz.none {y : Str} (h : Qz y) : y.cps.toList.countP (fun c => !qz c) = 0 := by
  rw [List.countP_eq_zero]
  intro c hc
  have := List.all_eq_true.mp h c hc
  rw [this]; simp
theorem Few.mk {a x b : Str} (ha : Qz a) (hx : x.length = 1) (hb : Qz b) : Few (a ++ x ++ b) := by
  unfold Few
  have e : (a ++ x ++ b).cps.toList = a.cps.toList ++ x.cps.toList ++ b.cps.toList := by
    show (a.cps ++ x.cps ++ b.cps).toList = _
    simp
  rw [e, List.countP_append, List.countP_append, ha.none, hb.none]
  have := List.countP_le_length (p := fun c => !qz c) (l := x.cps.toList)
  have l1 : x.cps.toList.length = 1 := hx
  omega
theorem Qz.join {ys : List Str} (h : ∀ y ∈ ys, Qz y) : Qz (Txt.join ("" : Str) ys) := by
  unfold Qz
  rw [join_l]
  refine joinL_all _ _ fun p hp => ?_
  obtain ⟨y, hy, rfl⟩ := List.mem_map.mp hp
  exact h y hy
theorem Qz.cut {x : Str} {lo hi : Option Int} (h : Qz x) : Qz (cutT x lo hi) := cut_all h
theorem bg_W3 (c : List Int) (hc : c.length ≤ 1000) : W (bgM bg2 bg3 bg4 c) 0 fun ns k => 0 ≤ k ∧ k ≤ 100 ∧ ns.length = 24 ∧ ∀ y ∈ ns, 1 ≤ y.length ∧ y.length ≤ 8 ∧ Low y ∧ Few y := by
  have sz : 100000 < sizeLine := by decide
  unfold bgM
  refine W.bnd ?_
  unfold bg2
  refine W.bnd (W.bnd (W.bnd (W.bnd (W.pur (W.nx hc (by decide) (by decide) fun n n0 n1 => ?_)))))
  refine W.gd (by omega) (W.pur ?_)
  have hl := upTo_len 0 1 n.toNat
  refine W.gd (by rw [hl]; omega) (W.compL (Q := fun y : Str => y.length = 1 ∧ Low y ∧ Qz y) 1 _ _ (fun k x k0 k1 _ => ?_) (by decide) (by decide) fun ys k' h1 h2 h3 h4 => ?_)
  · refine W.bnd (W.pur (W.bnd (W.bnd (W.pur (W.nx hc (by rw [hl] at k1; omega) (by decide) fun r r0 r1 => ?_)))))
    refine W.gd (by decide) (W.bnd ?_)
    have hr : ∃ z, atI (Array.toList (Str.cps ("qzjv" : Str))) r = some z ∧ Low (sgn z) ∧ Qz (sgn z) := by
      have : r = 0 ∨ r = 1 ∨ r = 2 ∨ r = 3 := by omega
      rcases this with rfl | rfl | rfl | rfl <;> exact ⟨_, rfl, by decide +kernel, by decide +kernel⟩
    obtain ⟨z, hz, hlow⟩ := hr
    exact W.lift hz (W.pur ⟨⟨rfl, hlow⟩, by omega, by omega⟩)
  rw [hl] at h1 h4
  have hs := sum_ones ys fun y hy => (h2 y hy).1
  have hlw : Low (Txt.join ("" : Str) ys) := Low.join fun y hy => (h2 y hy).2.1
  have hqz : Qz (Txt.join ("" : Str) ys) := Qz.join fun y hy => (h2 y hy).2.2
  have e0 : Str.length ("" : Str) = 0 := rfl
  refine W.gd (by rw [e0]; omega) (W.pur (W.bnd ?_))
  have hj := join_len ys
  unfold bg3
  refine W.bnd (W.bnd (W.bnd (W.pur (W.gd (by omega) (W.pur (W.bnd (W.pur (W.pur (W.nx hc (by omega) (by omega) fun a a0 a1 => ?_)))))))))
  unfold bg4
  refine W.bnd (W.bnd (W.pur (W.pur (W.gd (by decide) (W.compL (Q := fun y : Str => 1 ≤ y.length ∧ y.length ≤ 8 ∧ Low y ∧ Few y) 20 _ _ (fun k x k0 k1 hx => ?_) (by omega) (by omega) fun ns k2 g1 g2 g3 g4 => ?_)))))
  · have hx1 : x.length = 1 ∧ Low x := by
      have key : ∀ x ∈ List.map sgn (Array.toList (Str.cps ("mcxgtaqerbvkdunhspjfwlio" : Str))), x.length = 1 ∧ Low x := by decide +kernel
      exact key x hx
    obtain ⟨hx1, hxl⟩ := hx1
    have cl : ∀ lo hi, (cutT (Txt.join ("" : Str) ys) lo hi).length ≤ (Txt.join ("" : Str) ys).length := fun lo hi => by
      unfold cutT cutS Str.length
      rw [List.size_toArray, List.length_take, List.length_drop, Array.length_toList]
      omega
    have c1 := cl none (some a)
    have c2 := cl (some a) none
    have q1 : (Txt.join ("" : Str) ys).length ≤ sizeLine := by omega
    have q2 : (cutT (Txt.join ("" : Str) ys) none (some a)).length + x.length ≤ sizeLine := by omega
    have q3 : (cutT (Txt.join ("" : Str) ys) none (some a) ++ x).length + (cutT (Txt.join ("" : Str) ys) (some a) none).length ≤ sizeLine := by rw [Str.length_append]; omega
    simp only [pbS, gd_y q1, gd_y q2, gd_y q3]
    have c3 := cut_two (Txt.join ("" : Str) ys) a a0
    have hjl : (Txt.join ("" : Str) ys).length ≤ 7 := by omega
    exact W.pur ⟨⟨by rw [Str.length_append, Str.length_append]; omega, by rw [Str.length_append, Str.length_append]; omega, (hlw.cut.app hxl).app hlw.cut, Few.mk hqz.cut hx1 hqz.cut⟩, by omega, by omega⟩
  · have e24 : (List.map sgn (Array.toList (Str.cps ("mcxgtaqerbvkdunhspjfwlio" : Str)))).length = 24 := rfl
    rw [e24] at g1 g4
    exact ⟨by omega, by omega, g1, g2⟩
theorem W.begun3 {ρ : Type} [Enc ρ] {c : List Int} {f : List Str → Sm (Fl Empty Empty ρ)} {k : Int} {P : Fl Empty Empty ρ → Int → Prop} (hc : c.length ≤ 1000) (h : ∀ ns k, 0 ≤ k → k ≤ 100 → ns.length = 24 → (∀ y ∈ ns, 1 ≤ y.length ∧ y.length ≤ 8 ∧ Low y ∧ Few y) → W (f ns) k P) : W (ON.begun bgF c f) k P := by
  obtain ⟨ns, k0, e, h1, h2, h3, h4⟩ := bg_W3 c hc
  obtain ⟨a, k', e2, p⟩ := h ns k0 h1 h2 h3 h4
  refine ⟨a, k', ?_, p⟩
  unfold ON.begun bgF
  rw [if_pos hc, e]
  exact e2
end ON

set_option Elab.async false
set_option linter.all false
set_option maxRecDepth 100000
set_option maxHeartbeats 1000000
/-! N32: small things for the mathematics of drawing functions. -/
namespace ON
open PySem PySem.Spec PyProof.Rows L2
section
variable {α β τ l ρ : Type}
theorem atNn (xs : List α) (n : Nat) (h : n < xs.length) : atI xs (n : Int) = xs[n]? := by
  unfold atI ixN
  rw [if_pos (by omega), if_pos (by omega)]; rfl
theorem at_mem (xs : List α) (r : Int) (h0 : 0 ≤ r) (h1 : r < xs.length) : ∃ x, atI xs r = some x ∧ x ∈ xs := by
  obtain ⟨n, rfl⟩ : ∃ n : Nat, r = (n : Int) := ⟨r.toNat, by omega⟩
  rw [atNn xs n (by omega)]
  exact ⟨xs[n]'(by omega), List.getElem?_eq_getElem _, List.getElem_mem _⟩
theorem lsome (a : α) : (lift (some a) : Sm α) = Mn.pur a := by unfold ON.lift; rfl
theorem sum_le (n : Nat) : ∀ ys : List Str, (∀ y ∈ ys, y.length ≤ n) → (ys.map Str.length).sum ≤ n * ys.length
  | [], _ => Nat.zero_le _
  | y :: ys, h => by
    rw [List.map_cons, List.sum_cons, List.length_cons, Nat.mul_succ]
    have := sum_le n ys fun z hz => h z (.tail _ hz)
    have := h y (.head _)
    omega
theorem strOk_l {x : Str} (h : PyData.strOk x = true) : x.cps.toList.all (· < 0x110000) = true := by
  rw [Array.all_toList]; exact h
theorem cutL_mem {xs : List α} {lo hi : Option Int} {y : α} (h : y ∈ cutL xs lo hi) : y ∈ xs := by
  unfold cutL at h
  exact List.mem_of_mem_drop (List.mem_of_mem_take h)
theorem cutL_len (xs : List α) (lo hi : Option Int) : (cutL xs lo hi).length ≤ xs.length := by
  unfold cutL
  rw [List.length_take, List.length_drop]; omega
theorem rg_ok12 : ∀ n : Nat, n < 64 → Rg3 0 (n : Int) 12 := by decide +kernel
variable {k : Int}
/-- a loop that goes through, the elements by their places -/
theorem W.forLi {body : τ → α → Sm (Fl τ τ ρ)} {P : Fl τ l ρ → Int → Prop} (I : Nat → τ → Int → Prop) (xs : List α) (t : τ) (h0 : I 0 t k) (hb : ∀ j t k x, xs[j]? = some x → I j t k → W (body t x) k fun r k' => ∃ t', r = .nx t' ∧ I (j + 1) t' k') (he : ∀ t k, I xs.length t k → P (.nx t) k) : W (ON.forL body xs t) k P := by
  have key : ∀ (ys : List α) (i : Nat) (t : τ) (k : Int), I i t k → (∀ j t k x, ys[j]? = some x → I (i + j) t k → W (body t x) k fun r k' => ∃ t', r = .nx t' ∧ I (i + j + 1) t' k') → (∀ t k, I (i + ys.length) t k → P (.nx t) k) → W (ON.forL body ys t) k P := by
    intro ys
    induction ys with
    | nil => intro i t k it _ h; rw [forL_nil]; exact W.pur (h t k it)
    | cons x ys ih =>
      intro i t k it hb h
      rw [forL_cons]
      refine W.bnd ((hb 0 t k x rfl it).mono fun r k' hr => ?_)
      obtain ⟨t', rfl, it'⟩ := hr
      refine ih (i + 1) t' k' it' (fun j t k y hy h2 => ?_) fun t k h2 => h t k (by rw [List.length_cons, show i + (ys.length + 1) = i + 1 + ys.length by omega]; exact h2)
      have z := hb (j + 1) t k y hy (by rw [show i + (j + 1) = i + 1 + j by omega]; exact h2)
      rw [show i + (j + 1) + 1 = i + 1 + j + 1 by omega] at z
      exact z
  refine key xs 0 t k h0 (fun j t k x hx it => ?_) fun t k it => ?_
  · rw [Nat.zero_add] at it ⊢; exact hb j t k x hx it
  · rw [Nat.zero_add] at it; exact he t k it
/-- an element of range and its place -/
theorem upTo_zip {xs : List α} {x : Int × α} {j : Nat} (h : (List.zip (upTo 0 xs.length 1) xs)[j]? = some x) : x.1 = (j : Int) ∧ xs[j]? = some x.2 := by
  rw [List.getElem?_zip_eq_some] at h
  obtain ⟨h1, h2⟩ := h
  obtain ⟨h3, h4⟩ := upTo_get h1
  exact ⟨by rw [h4]; omega, h2⟩
end
end ON

set_option Elab.async false
set_option linter.all false
set_option maxRecDepth 100000
set_option maxHeartbeats 400000
/-! N33: f-strings of any parts, abs. -/
namespace ON
open PySem PySem.Spec PyProof.Rows L2
section
variable {K : PySem.W.Frag} {m : Type → Type} [Mn m] {α β : Type} {sd : List SD} {te : TE}
/-- texts one behind the other -/
def jsT : List (m Str) → Str → m Str
  | [], acc => Mn.pur acc
  | x :: xs, acc => Mn.bnd x fun y => gd ((acc ++ y).length ≤ sizeLine) (jsT xs (acc ++ y))
inductive EvJs (K : PySem.W.Frag) (sd : List SD) : List TE → List (m Str) → Prop
  | nil : EvJs K sd [] []
  | cons {t : TE} {ts : List TE} {x : m Str} {xs : List (m Str)} (h : EvM K t sd x) (r : EvJs K sd ts xs) : EvJs K sd (t :: ts) (x :: xs)
theorem em_fmtS {x : m Str} (h : EvM K te sd x) : EvM K (tFmt te) sd (Mn.bnd x fun y => gd (y.length ≤ sizeLine) (Mn.pur y)) := fun F σ B H k R b k' e Q q => by
  obtain ⟨a, k1, e1, e2⟩ := bnd_some e
  obtain ⟨hg, e3⟩ := gd_some e2
  obtain ⟨rfl, rfl⟩ := pur_some e3
  exact h F σ B H k R _ _ e1 _ fun v B1 H1 R1 g1 r1 => .inl ⟨_, Rp.str_inv r1, hg, q _ B1 H1 R1 g1 (.str _)⟩
theorem em_fmtI {x : m Int} (h : EvM K te sd x) : EvM K (tFmt te) sd (Mn.bnd x fun i => gd (Nat.log2 (Int.natAbs i) < 1920) (Mn.pur (strI i))) := fun F σ B H k R b k' e Q q => by
  obtain ⟨a, k1, e1, e2⟩ := bnd_some e
  obtain ⟨hg, e3⟩ := gd_some e2
  obtain ⟨rfl, rfl⟩ := pur_some e3
  exact h F σ B H k R _ _ e1 _ fun v B1 H1 R1 g1 r1 => .inr ⟨_, Rp.int_inv r1, hg, q _ B1 H1 R1 g1 (.str _)⟩
theorem em_jsA {ts : List TE} {xs : List (m Str)} (h : EvJs K sd ts xs) : ∀ (acc : Str) (F : Fr) (σ : L2.St) (B H : Hp) (k : Int), Rel K F σ B H sd k → ∀ (a : Str) (k' : Int), Mn.run (jsT xs acc) k = some (a, k') →
    ∀ Q : Str → Hp → Prop, (∀ B' H', Rel K F σ B' H' sd k' → Gr B B' → Q a H') → tJs ts acc σ H Q := by
  induction h with
  | nil =>
    intro acc F σ B H k R a k' e Q q
    rw [jsT] at e
    obtain ⟨rfl, rfl⟩ := pur_some e
    exact q B H R (Gr.refl B)
  | cons h r ih =>
    intro acc F σ B H k R a k' e Q q
    rw [jsT] at e
    obtain ⟨y, k1, e1, e2⟩ := bnd_some e
    obtain ⟨hg, e3⟩ := gd_some e2
    refine h F σ B H k R y k1 e1 _ fun v B1 H1 R1 g1 r1 => ?_
    exact ⟨y, Rp.str_inv r1, hg, ih _ F σ B1 H1 k1 R1 a k' e3 Q fun B' H' R' g' => q B' H' R' (g1.trans g')⟩
theorem em_js {ts : List TE} {xs : List (m Str)} (h : EvJs K sd ts xs) : EvM K (fun σ H Q => tJs ts Str.empty σ H fun out H1 => Q (.str out) H1) sd (jsT xs Str.empty) := fun F σ B H k R a k' e Q q =>
  em_jsA h Str.empty F σ B H k R a k' e _ fun B' H' R' g' => q _ B' H' R' g' (.str _)
/-! ### a tuple's texts put together -/
theorem em_joinP {x : m (Str × Str)} {c : Str} (h : EvM K te sd x) : EvM K (tBM K "str" (rJoin K) (tC (.str c)) (tCons te tNil)) sd (Mn.bnd x fun p => gd ((List.map Str.length [p.1, p.2]).sum + List.length [p.1, p.2] * c.length ≤ 16777216) (Mn.pur (Txt.join c [p.1, p.2]))) := fun F σ B H k R b k' e Q q => by
  obtain ⟨ys, k1, e1, e2⟩ := bnd_some e
  obtain ⟨hg, e3⟩ := gd_some e2
  obtain ⟨rfl, rfl⟩ := pur_some e3
  refine ⟨rfl, h F σ B H k R ys _ e1 _ fun v B1 H1 R1 gr1 r1 => ?_⟩
  obtain ⟨p, vs, rfl, hp, hs⟩ := Rp.tup_inv r1
  have z := Rps.strs (ns := [ys.1, ys.2]) hs
  subst z
  exact ⟨c, p, [ys.1, ys.2], rfl, rfl, .inr (R1.bh.sqT hp), hg, q _ B1 H1 R1 gr1 (.str _)⟩
/-! ### six unpacked -/
theorem eg_t6 {α β γ δ ε ζ : Type} [Enc α] [Enc β] [Enc γ] [Enc δ] [Enc ε] [Enc ζ] {i j n o u v : Nat} {p : T6 α β γ δ ε ζ} : EvG K (gTup K 6 (gCons (gName i) (gCons (gName j) (gCons (gName n) (gCons (gName o) (gCons (gName u) (gCons (gName v) gNil))))))) sd p ((((((sd.set i (.dat (enc p.a))).set j (.dat (enc p.b))).set n (.dat (enc p.c))).set o (.dat (enc p.d))).set u (.dat (enc p.e))).set v (.dat (enc p.f))) [i, j, n, o, u, v] := fun F σ B H k w R r Q q => by
  obtain ⟨a, xs, rfl, hp, hs⟩ := Rp.tup_inv r
  cases hs with | cons h1 hs => cases hs with | cons h2 hs => cases hs with | cons h3 hs => cases hs with | cons h4 hs => cases hs with | cons h5 hs => cases hs with | cons h6 hs =>
    cases hs
    refine ⟨a, _, rfl, R.bh.sqT hp, rfl, _, _, rfl, _, _, rfl, _, _, rfl, _, _, rfl, _, _, rfl, _, _, rfl, rfl, ?_⟩
    refine q _ ((((((R.setDat h1).setDat h2).setDat h3).setDat h4).setDat h5).setDat h6) fun vs h => ?_
    rw [wipe_set (h v (by simp)), wipe_set (h u (by simp)), wipe_set (h o (by simp)), wipe_set (h n (by simp)), wipe_set (h j (by simp)), wipe_set (h i (by simp))]
/-! ### abs -/
def absI (i : Int) : Int := if i < 0 then -i else i
def rAbs : List V → Hp → VK → Prop := fun xs H Q => ∃ i, xs = [.int i] ∧ Q (.int (absI i)) H
theorem cr_abs {X : Cx} : CallR X (.builtin "abs") rAbs := call_abs
theorem em_abs {x : m Int} (h : EvM K te sd x) : EvM K (tCB rAbs (tCons te tNil)) sd (Mn.bnd x fun i => Mn.pur (absI i)) := em_cb1 h fun F σ B H k a v R r b k' e Q q => by
  obtain ⟨rfl, rfl⟩ := pur_some e
  exact ⟨a, by rw [Rp.int_inv r], q _ B H R (Gr.refl B) (.int _)⟩
end
end ON
namespace ON
open PySem PySem.Spec PyProof.Rows L2
/-! ### == of pairs that may be missing, of six -/
section
open PyData
instance {α β : Type} [Enc α] [Enc β] [EqD α] [EqD β] : EqD (Option (α × β)) where
  dec := inferInstance
  ok o := match o with | Option.some p => EqD.ok p | Option.none => true
  dp := EqD.dp (α × β)
  pl o := by cases o with | none => rfl | some p => exact EqD.pl p
  lay o h := by cases o with | none => rfl | some p => exact EqD.lay p h
  dep o := by cases o with | none => exact Nat.zero_le _ | some p => exact EqD.dep p
  eq o u := by
    cases o with
    | none => cases u with
      | none => rfl
      | some q => rfl
    | some p => cases u with
      | none => rfl
      | some q =>
        show PyData.eqv (enc p).py (enc q).py = _
        rw [EqD.eq p q]
        by_cases h : p = q
        · subst h; simp
        · simp [h]
instance {α β γ δ ε ζ : Type} [Enc α] [Enc β] [Enc γ] [Enc δ] [Enc ε] [Enc ζ] [EqD α] [EqD β] [EqD γ] [EqD δ] [EqD ε] [EqD ζ] : EqD (T6 α β γ δ ε ζ) where
  dec := inferInstance
  ok p := EqD.ok p.a && EqD.ok p.b && EqD.ok p.c && EqD.ok p.d && EqD.ok p.e && EqD.ok p.f
  dp := max (max (max (max (max (EqD.dp α) (EqD.dp β)) (EqD.dp γ)) (EqD.dp δ)) (EqD.dp ε)) (EqD.dp ζ) + 1
  pl p := by show D.pl (.tup [enc p.a, enc p.b, enc p.c, enc p.d, enc p.e, enc p.f]) = true; simp [D.pl, D.pls, EqD.pl]
  lay p h := by
    rw [Bool.and_eq_true, Bool.and_eq_true, Bool.and_eq_true, Bool.and_eq_true, Bool.and_eq_true] at h
    show canLay0 (.tuple (D.pys [enc p.a, enc p.b, enc p.c, enc p.d, enc p.e, enc p.f])) = true
    simp [D.pys, canLay0, canLayAll0, EqD.lay p.a h.1.1.1.1.1, EqD.lay p.b h.1.1.1.1.2, EqD.lay p.c h.1.1.1.2, EqD.lay p.d h.1.1.2, EqD.lay p.e h.1.2, EqD.lay p.f h.2]
  dep p := by
    show depth (.tuple (D.pys [enc p.a, enc p.b, enc p.c, enc p.d, enc p.e, enc p.f])) ≤ _
    have h1 := EqD.dep p.a
    have h2 := EqD.dep p.b
    have h3 := EqD.dep p.c
    have h4 := EqD.dep p.d
    have h5 := EqD.dep p.e
    have h6 := EqD.dep p.f
    simp only [D.pys, depth, depthAll]; omega
  eq p q := by
    show PyData.eqv (.tuple (D.pys [enc p.a, enc p.b, enc p.c, enc p.d, enc p.e, enc p.f])) (.tuple (D.pys [enc q.a, enc q.b, enc q.c, enc q.d, enc q.e, enc q.f])) = _
    simp only [D.pys, PyData.eqv, eqvAll, EqD.eq, Bool.and_true]
    obtain ⟨a, b, c, u, v, w⟩ := p
    obtain ⟨d, e, f, x, y, z⟩ := q
    simp only [T6.mk.injEq, Bool.decide_and]
end
/-! ### f-strings of texts -/
theorem jsT_all : ∀ (ys : List Str) (acc : Str), acc.length + (ys.map Str.length).sum ≤ sizeLine → jsT (ys.map some) acc = some (ys.foldl (fun a b => a ++ b) acc)
  | [], acc, _ => by rw [List.map_nil, jsT, pur_opt]; rfl
  | y :: ys, acc, h => by
    rw [List.map_cons, List.sum_cons] at h
    rw [List.map_cons, jsT, sbO, gd_y (by rw [Str.length_append]; omega), jsT_all ys _ (by rw [Str.length_append]; omega)]
    rfl
theorem foldS_l : ∀ (ys : List Str) (acc : Str), (ys.foldl (fun a b => a ++ b) acc).cps.toList = acc.cps.toList ++ (ys.map fun y => y.cps.toList).flatten
  | [], acc => by simp
  | y :: ys, acc => by
    rw [List.foldl_cons, foldS_l ys, List.map_cons, List.flatten_cons]
    have : (acc ++ y).cps.toList = acc.cps.toList ++ y.cps.toList := by
      show (acc.cps ++ y.cps).toList = _
      simp
    rw [this, List.append_assoc]
end ON

set_option Elab.async false
set_option linter.all false
set_option maxRecDepth 100000
set_option maxHeartbeats 1000000
namespace K05
open PySem PySem.Spec PyProof.Rows L2 ON
def c_PRIMES : (Tl Int) := ⟨[2, 3, 5, 7]⟩
def c_TOLD_WORDS : (Tl Str) := ⟨["note", "held", "pure", "home", "step", "bend", "weight"]⟩
def c_SHAPES : (Dc Str (Tl Str)) := ⟨[("note", ⟨["note", "NAME", "NAME", "BEAT", "BEAT"]⟩), ("held", ⟨["held", "NAME", "NAME", "bend", "BEND", "weight", "WEIGHT"]⟩), ("pure", ⟨["pure", "NAME", "NAME", "PART", "/", "PART", "bend", "BEND", "weight", "WEIGHT"]⟩), ("step", ⟨["step", "NAME", "NAME", "PART", "/", "PART", "bend", "BEND", "weight", "WEIGHT"]⟩), ("home", ⟨["home", "NAME", "NAME"]⟩)]⟩
def c_ENDS : (Dc Str (Tl Int)) := ⟨[("note", ⟨[5]⟩), ("held", ⟨[3, 5, 7]⟩), ("pure", ⟨[6, 8, 10]⟩), ("step", ⟨[6, 8, 10]⟩), ("home", ⟨[3]⟩)]⟩
def c_BOUNDS : (Dc Str (Int × Int)) := ⟨[("BEAT", (0, 9999)), ("PART", (1, 9999)), ("BEND", (0, 9999)), ("WEIGHT", (1, 9))]⟩
def c_TIE_WORDS : (Tl Str) := ⟨["held", "pure", "step"]⟩
def mb_is_all_of (p0 : Str) (p1 : Str) : Option (Fl Empty Empty Bool) := (Mn.bnd (Mn.bnd (Mn.bnd (Mn.bnd (Mn.pur p0) fun w_2 => Mn.pur (List.map sgn (Array.toList (Str.cps w_2)))) fun w_6 => gd (List.length w_6 ≤ 100000) (compL (fun (a_3 : Str) => (Mn.pur true)) (fun (a_3 : Str) => (Mn.bnd (Mn.pur a_3) fun x_4 => Mn.bnd (Mn.pur p1) fun y_5 => Mn.pur (inStr x_4 y_5))) w_6)) fun u_7 => Mn.pur (List.all u_7 id)) fun r_1 => Mn.pur (.rt r_1))
def m_is_all_of (p0 : Str) (p1 : Str) : Option Bool := fin (mb_is_all_of p0 p1)
def mb_is_letters (p0 : Str) : Option (Fl Empty Empty Bool) := (Mn.bnd (Mn.bnd (Mn.bnd (Mn.pur (1 : Int)) fun x_10 => Mn.bnd (Mn.bnd (Mn.pur p0) fun u_9 => gd (u_9.length ≤ sizeLine) (Mn.pur ((Str.length u_9 : Nat) : Int))) fun y_11 => Mn.bnd (Mn.pur (decide (x_10 ≤ y_11))) fun w_13 => cnd w_13 (Mn.bnd (Mn.pur (8 : Int)) fun z_12 => Mn.pur (decide (y_11 ≤ z_12))) (Mn.pur false)) fun b_17 => cnd b_17 (Mn.bnd (Mn.bnd (Mn.pur p0) fun x_15 => Mn.bnd (Mn.pur ("abcdefghijklmnopqrstuvwxyz" : Str)) fun y_16 => Mn.pur (x_15, y_16)) fun p_14 => lift (m_is_all_of p_14.1 p_14.2)) (Mn.pur false)) fun r_8 => Mn.pur (.rt r_8))
def m_is_letters (p0 : Str) : Option Bool := fin (mb_is_letters p0)
def mb_is_number (p0 : Str) : Option (Fl Empty Empty Bool) := (andThen (Mn.bnd (Mn.bnd (Mn.bnd (Mn.bnd (Mn.pur (1 : Int)) fun x_19 => Mn.bnd (Mn.bnd (Mn.pur p0) fun u_18 => gd (u_18.length ≤ sizeLine) (Mn.pur ((Str.length u_18 : Nat) : Int))) fun y_20 => Mn.bnd (Mn.pur (decide (x_19 ≤ y_20))) fun w_22 => cnd w_22 (Mn.bnd (Mn.pur (5 : Int)) fun z_21 => Mn.pur (decide (y_20 ≤ z_21))) (Mn.pur false)) fun b_23 => Mn.pur (!b_23)) fun b_28 => cnd b_28 (Mn.pur true) (Mn.bnd (Mn.bnd (Mn.bnd (Mn.pur p0) fun x_25 => Mn.bnd (Mn.pur ("0123456789" : Str)) fun y_26 => Mn.pur (x_25, y_26)) fun p_24 => lift (m_is_all_of p_24.1 p_24.2)) fun b_27 => Mn.pur (!b_27))) fun b_29 => cnd b_29 (Mn.bnd (Mn.pur false) fun r_31 => Mn.pur (.rt r_31)) (Mn.pur (.nx ())) : Option (Fl (Unit) Empty Bool)) fun t_30 => (Mn.bnd (Mn.bnd (Mn.bnd (Mn.pur p0) fun x_33 => Mn.bnd (Mn.pur ("0" : Str)) fun y_34 => Mn.pur (decide (x_33 = y_34))) fun b_40 => cnd b_40 (Mn.pur true) (Mn.bnd (Mn.bnd (Mn.pur p0) fun x_35 => Mn.bnd (Mn.pur (0 : Int)) fun y_36 => gd (x_35.length ≤ sizeLine) (Mn.bnd (lift (atI (Array.toList (Str.cps x_35)) y_36)) fun c_37 => Mn.pur (sgn c_37))) fun x_38 => Mn.bnd (Mn.pur ("0" : Str)) fun y_39 => Mn.pur (!decide (x_38 = y_39)))) fun r_32 => Mn.pur (.rt r_32)))
def m_is_number (p0 : Str) : Option Bool := fin (mb_is_number p0)
def mb_is_word (p0 : Str) : Option (Fl Empty Empty Bool) := (Mn.bnd (Mn.bnd (Mn.bnd (Mn.pur p0) fun x_42 => Mn.bnd (Mn.pur ("/" : Str)) fun y_43 => Mn.pur (decide (x_42 = y_43))) fun b_47 => cnd b_47 (Mn.pur true) (Mn.bnd (Mn.bnd (Mn.pur p0) fun p_44 => lift (m_is_letters p_44)) fun b_46 => cnd b_46 (Mn.pur true) (Mn.bnd (Mn.pur p0) fun p_45 => lift (m_is_number p_45)))) fun r_41 => Mn.pur (.rt r_41))
def m_is_word (p0 : Str) : Option Bool := fin (mb_is_word p0)
def mb_side_by_side (p0 : Str) (p1 : Int) (p2 : Str) : Option (Fl Empty Empty Str) := (Mn.bnd (Mn.pur p1) fun end_48 => (andThen (whl (fun (t_49 : Int) => ((Mn.bnd (Mn.bnd (Mn.pur t_49) fun x_51 => Mn.bnd (Mn.bnd (Mn.pur p0) fun u_50 => gd (u_50.length ≤ sizeLine) (Mn.pur ((Str.length u_50 : Nat) : Int))) fun y_52 => Mn.pur (decide (x_51 < y_52))) fun b_58 => cnd b_58 (Mn.bnd (Mn.bnd (Mn.pur p0) fun x_53 => Mn.bnd (Mn.pur t_49) fun y_54 => gd (x_53.length ≤ sizeLine) (Mn.bnd (lift (atI (Array.toList (Str.cps x_53)) y_54)) fun c_55 => Mn.pur (sgn c_55))) fun x_56 => Mn.bnd (Mn.pur p2) fun y_57 => Mn.pur (inStr x_56 y_57)) (Mn.pur false)) : Option Bool)) (fun (t_49 : Int) => ((Mn.bnd (Mn.bnd (Mn.pur (1 : Int)) fun y_59 => Mn.pur (t_49 + y_59)) fun end_60 => (Mn.pur (.nx end_60))) : Option (Fl (Int) (Int) Str))) FU end_48 : Option (Fl (Int) Empty Str)) fun t_49 => (Mn.bnd (Mn.bnd (Mn.pur p0) fun x_64 => Mn.bnd (Mn.bnd (Mn.pur p1) fun i_62 => Mn.pur (some i_62)) fun l_65 => Mn.bnd (Mn.bnd (Mn.pur t_49) fun i_63 => Mn.pur (some i_63)) fun h_66 => gd (x_64.length ≤ sizeLine) (Mn.pur (cutT x_64 l_65 h_66))) fun r_61 => Mn.pur (.rt r_61))))
def m_side_by_side (p0 : Str) (p1 : Int) (p2 : Str) : Option Str := fin (mb_side_by_side p0 p1 p2)
def mb_piece_at (p0 : Str) (p1 : Int) : Option (Fl Empty Empty Str) := (andThen (Mn.bnd (Mn.bnd (Mn.bnd (Mn.bnd (Mn.pur ("abcdefghijklmnopqrstuvwxyz" : Str)) fun x_71 => Mn.bnd (Mn.bnd (Mn.pur ("0123456789" : Str)) fun x_69 => Mn.bnd (Mn.pur ([] : List Str)) fun y_70 => Mn.pur (x_69 :: y_70)) fun y_72 => Mn.pur (x_71 :: y_72)) fun l_73 => gd (List.length l_73 ≤ 1000) (Mn.pur (⟨l_73⟩ : (Tl Str)))) fun w_74 => Mn.pur (Tl.l w_74)) fun w_94 => forL (fun (t_75 : Unit) (a_76 : Str) => ((andThen (Mn.bnd (Mn.bnd (Mn.bnd (Mn.pur p0) fun x_77 => Mn.bnd (Mn.pur p1) fun y_78 => gd (x_77.length ≤ sizeLine) (Mn.bnd (lift (atI (Array.toList (Str.cps x_77)) y_78)) fun c_79 => Mn.pur (sgn c_79))) fun x_80 => Mn.bnd (Mn.pur a_76) fun y_81 => Mn.pur (inStr x_80 y_81)) fun b_82 => cnd b_82 (Mn.bnd (Mn.bnd (Mn.bnd (Mn.pur p0) fun x_88 => Mn.bnd (Mn.bnd (Mn.pur p1) fun x_86 => Mn.bnd (Mn.pur a_76) fun y_87 => Mn.pur (x_86, y_87)) fun y_89 => Mn.pur (x_88, y_89)) fun p_85 => lift (m_side_by_side p_85.1 p_85.2.1 p_85.2.2)) fun r_84 => Mn.pur (.rt r_84)) (Mn.pur (.nx ())) : Option (Fl (Unit) (Unit) Str)) fun t_83 => (Mn.pur (.nx ()))) : Option (Fl (Unit) (Unit) Str))) w_94 () : Option (Fl (Unit) Empty Str)) fun t_75 => (Mn.bnd (Mn.bnd (Mn.pur p0) fun x_91 => Mn.bnd (Mn.pur p1) fun y_92 => gd (x_91.length ≤ sizeLine) (Mn.bnd (lift (atI (Array.toList (Str.cps x_91)) y_92)) fun c_93 => Mn.pur (sgn c_93))) fun r_90 => Mn.pur (.rt r_90)))
def m_piece_at (p0 : Str) (p1 : Int) : Option Str := fin (mb_piece_at p0 p1)
def mb_is_name (p0 : Str) : Option (Fl Empty Empty Bool) := (Mn.bnd (Mn.bnd (Mn.bnd (Mn.pur p0) fun p_96 => lift (m_is_letters p_96)) fun b_99 => cnd b_99 (Mn.bnd (Mn.pur p0) fun x_97 => Mn.bnd (Mn.pur c_TOLD_WORDS) fun y_98 => Mn.pur (!decide (x_97 ∈ y_98.l))) (Mn.pur false)) fun r_95 => Mn.pur (.rt r_95))
def m_is_name (p0 : Str) : Option Bool := fin (mb_is_name p0)
def mb_text_words (p0 : An) : Option (Fl Empty Empty (Xr (Fw (.lst (.lst .dat)) (List (List Str))))) := (andThen (Mn.bnd (Mn.bnd (Mn.bnd (Mn.bnd (Mn.pur p0) fun i_100 => Mn.pur (kit "str" (enc i_100))) fun b_101 => Mn.pur (!b_101)) fun b_106 => cnd b_106 (Mn.pur true) (Mn.bnd (Mn.bnd (Mn.bnd (Mn.pur p0) fun k_102 => lift (Dec.dec k_102 : Option Str)) fun u_103 => gd (u_103.length ≤ sizeLine) (Mn.pur ((Str.length u_103 : Nat) : Int))) fun x_104 => Mn.bnd (Mn.pur (8000 : Int)) fun y_105 => Mn.pur (decide (y_105 < x_104)))) fun b_107 => cnd b_107 (Mn.bnd (Mn.bnd (Mn.pur (0 : Int)) fun k_110 => gd (okI k_110) (Mn.pur (⟨"BadSign", some ("spot", enc k_110)⟩ : Er))) fun r_109 => Mn.pur (.rt (.er r_109))) (Mn.pur (.nx ())) : Option (Fl (Unit) Empty (Xr (Fw (.lst (.lst .dat)) (List (List Str)))))) fun t_108 => (Mn.bnd (Mn.bnd (Mn.bnd (Mn.pur ([] : List Str)) fun l_112 => gd (List.length l_112 ≤ 1000) (Mn.pur l_112)) fun l_113 => Mn.pur [l_113]) fun rows_111 => (Mn.bnd (Mn.pur (0 : Int)) fun at_114 => (andThen (whl (fun (t_115 : (List (List Str)) × Int) => ((Mn.bnd (Mn.pur t_115.2) fun x_118 => Mn.bnd (Mn.bnd (Mn.bnd (Mn.pur p0) fun k_116 => lift (Dec.dec k_116 : Option Str)) fun u_117 => gd (u_117.length ≤ sizeLine) (Mn.pur ((Str.length u_117 : Nat) : Int))) fun y_119 => Mn.pur (decide (x_118 < y_119))) : Option Bool)) (fun (t_115 : (List (List Str)) × Int) => ((Mn.bnd (Mn.bnd (Mn.bnd (Mn.bnd (Mn.pur p0) fun k_122 => lift (Dec.dec k_122 : Option Str)) fun x_123 => Mn.bnd (Mn.pur t_115.2) fun y_124 => Mn.pur (x_123, y_124)) fun p_121 => lift (m_piece_at p_121.1 p_121.2)) fun piece_120 => (andThen (Mn.bnd (Mn.bnd (Mn.pur piece_120) fun x_125 => Mn.bnd (Mn.pur ("\n" : Str)) fun y_126 => Mn.pur (decide (x_125 = y_126))) fun b_127 => cnd b_127 (gd (List.length t_115.1 < 100000) (Mn.bnd (Mn.pur (t_115.1 ++ [[]])) fun zs_130 => (Mn.pur (.nx zs_130)))) (andThen (Mn.bnd (Mn.bnd (Mn.pur piece_120) fun x_131 => Mn.bnd (Mn.pur (" " : Str)) fun y_132 => Mn.pur (!decide (x_131 = y_132))) fun b_133 => cnd b_133 (andThen (Mn.bnd (Mn.bnd (Mn.bnd (Mn.pur piece_120) fun p_135 => lift (m_is_word p_135)) fun b_136 => Mn.pur (!b_136)) fun b_137 => cnd b_137 (Mn.bnd (Mn.bnd (Mn.pur t_115.2) fun k_140 => gd (okI k_140) (Mn.pur (⟨"BadSign", some ("spot", enc k_140)⟩ : Er))) fun r_139 => Mn.pur (.rt (.er r_139))) (Mn.pur (.nx ())) : Option (Fl (Unit) ((List (List Str)) × Int) (Xr (Fw (.lst (.lst .dat)) (List (List Str)))))) fun t_138 => (Mn.bnd (Mn.bnd (Mn.pur (1 : Int)) fun x_141 => Mn.pur (-x_141)) fun y_143 => Mn.bnd (Mn.pur piece_120) fun x_142 => Mn.bnd (lift (appI t_115.1 y_143 x_142)) fun zs_144 => (Mn.pur (.nx zs_144)))) (Mn.pur (.nx t_115.1)) : Option (Fl ((List (List Str))) ((List (List Str)) × Int) (Xr (Fw (.lst (.lst .dat)) (List (List Str)))))) fun t_134 => (Mn.pur (.nx t_134))) : Option (Fl ((List (List Str))) ((List (List Str)) × Int) (Xr (Fw (.lst (.lst .dat)) (List (List Str)))))) fun t_128 => (Mn.bnd (Mn.bnd (Mn.bnd (Mn.pur piece_120) fun u_145 => gd (u_145.length ≤ sizeLine) (Mn.pur ((Str.length u_145 : Nat) : Int))) fun y_146 => Mn.pur (t_115.2 + y_146)) fun at_147 => (Mn.pur (.nx (t_128, at_147)))))) : Option (Fl ((List (List Str)) × Int) ((List (List Str)) × Int) (Xr (Fw (.lst (.lst .dat)) (List (List Str))))))) FU (rows_111, at_114) : Option (Fl ((List (List Str)) × Int) Empty (Xr (Fw (.lst (.lst .dat)) (List (List Str)))))) fun t_115 => (Mn.pur (.rt (.ok ⟨t_115.1⟩)))))))
def m_text_words (p0 : An) : Option (Xr (List (List Str))) := (fin (mb_text_words p0)).map Xr.unF
def mb_how_often (p0 : Int) (p1 : Int) : Option (Fl Empty Empty Int) := (Mn.bnd (Mn.pur (0 : Int)) fun many_148 => (andThen (whl (fun (t_149 : Int × Int) => ((Mn.bnd (Mn.bnd (Mn.pur t_149.1) fun x_150 => Mn.bnd (Mn.pur (1 : Int)) fun y_151 => Mn.pur (decide (y_151 < x_150))) fun b_156 => cnd b_156 (Mn.bnd (Mn.bnd (Mn.pur t_149.1) fun x_152 => Mn.bnd (Mn.pur p1) fun y_153 => gd (0 < y_153) (Mn.pur (x_152 % y_153))) fun x_154 => Mn.bnd (Mn.pur (0 : Int)) fun y_155 => Mn.pur (decide (x_154 = y_155))) (Mn.pur false)) : Option Bool)) (fun (t_149 : Int × Int) => ((Mn.bnd (Mn.bnd (Mn.pur p1) fun y_157 => gd (ON.DivOk y_157) (Mn.pur (t_149.1 / y_157))) fun number_158 => (Mn.bnd (Mn.bnd (Mn.pur (1 : Int)) fun y_159 => Mn.pur (t_149.2 + y_159)) fun many_160 => (Mn.pur (.nx (number_158, many_160))))) : Option (Fl (Int × Int) (Int × Int) Int))) FU (p0, many_148) : Option (Fl (Int × Int) Empty Int)) fun t_149 => (Mn.bnd (Mn.pur t_149.2) fun r_161 => Mn.pur (.rt r_161))))
def m_how_often (p0 : Int) (p1 : Int) : Option Int := fin (mb_how_often p0 p1)
def mb_raised (p0 : Int) (p1 : Int) : Option (Fl Empty Empty Int) := (Mn.bnd (Mn.pur (1 : Int)) fun out_162 => (andThen (whl (fun (t_163 : Int × Int × Int) => ((Mn.bnd (Mn.pur t_163.2.1) fun x_164 => Mn.bnd (Mn.pur (0 : Int)) fun y_165 => Mn.pur (decide (y_165 < x_164))) : Option Bool)) (fun (t_163 : Int × Int × Int) => ((andThen (Mn.bnd (Mn.bnd (Mn.bnd (Mn.pur t_163.2.1) fun x_166 => Mn.bnd (Mn.pur (2 : Int)) fun y_167 => gd (0 < y_167) (Mn.pur (x_166 % y_167))) fun x_168 => Mn.bnd (Mn.pur (1 : Int)) fun y_169 => Mn.pur (decide (x_168 = y_169))) fun b_170 => cnd b_170 (Mn.bnd (Mn.bnd (Mn.pur t_163.1) fun y_172 => gd (ON.MulOk t_163.2.2 y_172) (Mn.pur (t_163.2.2 * y_172))) fun out_173 => (Mn.pur (.nx out_173))) (Mn.pur (.nx t_163.2.2)) : Option (Fl (Int) (Int × Int × Int) Int)) fun t_171 => (Mn.bnd (Mn.bnd (Mn.pur t_163.1) fun y_174 => gd (ON.MulOk t_163.1 y_174) (Mn.pur (t_163.1 * y_174))) fun prime_175 => (Mn.bnd (Mn.bnd (Mn.pur (2 : Int)) fun y_176 => gd (ON.DivOk y_176) (Mn.pur (t_163.2.1 / y_176))) fun many_177 => (Mn.pur (.nx (prime_175, many_177, t_171)))))) : Option (Fl (Int × Int × Int) (Int × Int × Int) Int))) FU (p0, p1, out_162) : Option (Fl (Int × Int × Int) Empty Int)) fun t_163 => (Mn.bnd (Mn.pur t_163.2.2) fun r_178 => Mn.pur (.rt r_178))))
def m_raised (p0 : Int) (p1 : Int) : Option Int := fin (mb_raised p0 p1)
def mb_ratio_of (p0 : Int) (p1 : Int) : Option (Fl Empty Empty (Tl Int)) := (Mn.bnd (Mn.bnd (Mn.bnd (Mn.bnd (Mn.pur c_PRIMES) fun w_180 => Mn.pur (Tl.l w_180)) fun w_190 => gd (List.length w_190 ≤ 100000) (compL (fun (a_181 : Int) => (Mn.pur true)) (fun (a_181 : Int) => (Mn.bnd (Mn.bnd (Mn.bnd (Mn.pur p0) fun x_183 => Mn.bnd (Mn.pur a_181) fun y_184 => Mn.pur (x_183, y_184)) fun p_182 => lift (m_how_often p_182.1 p_182.2)) fun x_188 => Mn.bnd (Mn.bnd (Mn.bnd (Mn.pur p1) fun x_186 => Mn.bnd (Mn.pur a_181) fun y_187 => Mn.pur (x_186, y_187)) fun p_185 => lift (m_how_often p_185.1 p_185.2)) fun y_189 => Mn.pur (x_188 - y_189))) w_190)) fun u_191 => Mn.pur (⟨u_191⟩ : (Tl Int))) fun r_179 => Mn.pur (.rt r_179))
def m_ratio_of (p0 : Int) (p1 : Int) : Option (Tl Int) := fin (mb_ratio_of p0 p1)
def mb_fraction (p0 : (Tl Int)) : Option (Fl Empty Empty (Int × Int)) := (Mn.bnd (Mn.pur (1 : Int)) fun p_192 => (Mn.bnd (Mn.pur (1 : Int)) fun q_193 => (andThen (Mn.bnd (Mn.bnd (Mn.bnd (Mn.pur p0) fun x_194 => Mn.bnd (Mn.pur c_PRIMES) fun y_195 => Mn.pur (x_194, y_195)) fun z_196 => Mn.pur (List.zip (Tl.l z_196.1) (Tl.l z_196.2))) fun w_221 => forL (fun (t_197 : Int × Int) (a_198 : (Int × Int)) => ((Mn.bnd (Mn.bnd (Mn.bnd (Mn.bnd (Mn.pur a_198.2) fun x_204 => Mn.bnd (Mn.bnd (Mn.bnd (Mn.pur a_198.1) fun x_201 => Mn.bnd (Mn.pur (0 : Int)) fun y_202 => Mn.pur (x_201, y_202)) fun p_203 => Mn.pur (max p_203.1 p_203.2)) fun y_205 => Mn.pur (x_204, y_205)) fun p_199 => lift (m_raised p_199.1 p_199.2)) fun y_206 => gd (ON.MulOk t_197.1 y_206) (Mn.pur (t_197.1 * y_206))) fun p_207 => (Mn.bnd (Mn.bnd (Mn.bnd (Mn.bnd (Mn.pur a_198.2) fun x_214 => Mn.bnd (Mn.bnd (Mn.bnd (Mn.bnd (Mn.pur a_198.1) fun x_209 => Mn.pur (-x_209)) fun x_211 => Mn.bnd (Mn.pur (0 : Int)) fun y_212 => Mn.pur (x_211, y_212)) fun p_213 => Mn.pur (max p_213.1 p_213.2)) fun y_215 => Mn.pur (x_214, y_215)) fun p_208 => lift (m_raised p_208.1 p_208.2)) fun y_216 => gd (ON.MulOk t_197.2 y_216) (Mn.pur (t_197.2 * y_216))) fun q_217 => (Mn.pur (.nx (p_207, q_217))))) : Option (Fl (Int × Int) (Int × Int) (Int × Int)))) w_221 (p_192, q_193) : Option (Fl (Int × Int) Empty (Int × Int))) fun t_197 => (Mn.bnd (Mn.bnd (Mn.pur t_197.1) fun x_219 => Mn.bnd (Mn.pur t_197.2) fun y_220 => Mn.pur (x_219, y_220)) fun r_218 => Mn.pur (.rt r_218)))))
def m_fraction (p0 : (Tl Int)) : Option (Int × Int) := fin (mb_fraction p0)
def mb_figures (p0 : Int) : Option (Fl Empty Empty Str) := (Mn.bnd (Mn.bnd (Mn.pur ([] : List Str)) fun l_223 => gd (List.length l_223 ≤ 1000) (Mn.pur l_223)) fun pieces_222 => (andThen (whl (fun (t_224 : Int × (List Str)) => ((Mn.bnd (Mn.pur t_224.1) fun x_227 => Mn.bnd (Mn.bnd (Mn.pur (10 : Int)) fun x_225 => Mn.bnd (Mn.pur (60 : Int)) fun y_226 => gd (ON.PowOk x_225 y_226) (Mn.pur (x_225 ^ Int.toNat y_226))) fun y_228 => Mn.pur (decide (y_228 ≤ x_227))) : Option Bool)) (fun (t_224 : Int × (List Str)) => ((Mn.bnd (Mn.bnd (Mn.bnd (Mn.bnd (Mn.pur t_224.1) fun x_232 => Mn.bnd (Mn.bnd (Mn.pur (10 : Int)) fun x_230 => Mn.bnd (Mn.pur (60 : Int)) fun y_231 => gd (ON.PowOk x_230 y_231) (Mn.pur (x_230 ^ Int.toNat y_231))) fun y_233 => gd (0 < y_233) (Mn.pur (x_232 % y_233))) fun u_234 => gd (Nat.log2 (Int.natAbs u_234) < 1920) (Mn.pur (strI u_234))) fun z_235 => Mn.pur (Txt.zfill z_235 (60 : Int))) fun e_229 => gd (List.length t_224.2 < 100000) (Mn.bnd (Mn.pur (t_224.2 ++ [e_229])) fun zs_236 => (Mn.bnd (Mn.bnd (Mn.bnd (Mn.pur (10 : Int)) fun x_237 => Mn.bnd (Mn.pur (60 : Int)) fun y_238 => gd (ON.PowOk x_237 y_238) (Mn.pur (x_237 ^ Int.toNat y_238))) fun y_239 => gd (ON.DivOk y_239) (Mn.pur (t_224.1 / y_239))) fun number_240 => (Mn.pur (.nx (number_240, zs_236)))))) : Option (Fl (Int × (List Str)) (Int × (List Str)) Str))) FU (p0, pieces_222) : Option (Fl (Int × (List Str)) Empty Str)) fun t_224 => (Mn.bnd (Mn.bnd (Mn.pur t_224.1) fun u_242 => gd (Nat.log2 (Int.natAbs u_242) < 1920) (Mn.pur (strI u_242))) fun e_241 => gd (List.length t_224.2 < 100000) (Mn.bnd (Mn.pur (t_224.2 ++ [e_241])) fun zs_243 => (Mn.bnd (Mn.bnd (Mn.bnd (Mn.pur zs_243) fun x_246 => Mn.pur (List.reverse x_246)) fun j_247 => gd ((List.map Str.length j_247).sum + List.length j_247 * Str.length ("" : Str) ≤ 16777216) (Mn.pur (Txt.join ("" : Str) j_247))) fun r_244 => Mn.pur (.rt r_244))))))
def m_figures (p0 : Int) : Option Str := fin (mb_figures p0)
def mb_ratio_text (p0 : (Tl Int)) : Option (Fl Empty Empty Str) := (Mn.bnd (Mn.bnd (Mn.pur p0) fun p_248 => lift (m_fraction p_248)) fun p_249 => (Mn.bnd (Mn.bnd (Mn.bnd (Mn.pur p_249.1) fun p_251 => lift (m_figures p_251)) fun x_253 => Mn.bnd (Mn.bnd (Mn.pur p_249.2) fun p_252 => lift (m_figures p_252)) fun y_254 => gd (x_253.length ≤ sizeLine ∧ y_254.length ≤ sizeLine ∧ (Str.empty ++ x_253).length ≤ sizeLine ∧ (Str.empty ++ x_253 ++ (" / " : Str)).length ≤ sizeLine ∧ (Str.empty ++ x_253 ++ (" / " : Str) ++ y_254).length ≤ sizeLine) (Mn.pur (Str.empty ++ x_253 ++ (" / " : Str) ++ y_254))) fun r_250 => Mn.pur (.rt r_250)))
def m_ratio_text (p0 : (Tl Int)) : Option Str := fin (mb_ratio_text p0)
def mb_is_product (p0 : Int) : Option (Fl Empty Empty Bool) := (Mn.bnd (Mn.bnd (Mn.bnd (Mn.bnd (Mn.bnd (Mn.pur p0) fun x_262 => Mn.bnd (Mn.pur (1 : Int)) fun y_263 => Mn.pur (x_262, y_263)) fun p_261 => lift (m_ratio_of p_261.1 p_261.2)) fun p_260 => lift (m_fraction p_260)) fun x_266 => Mn.bnd (Mn.bnd (Mn.pur p0) fun x_264 => Mn.bnd (Mn.pur (1 : Int)) fun y_265 => Mn.pur (x_264, y_265)) fun y_267 => gd (Shp (enc x_266) = true ∧ Shp (enc y_267) = true) (Mn.pur (deqv (enc x_266) (enc y_267)))) fun r_255 => Mn.pur (.rt r_255))
def m_is_product (p0 : Int) : Option Bool := fin (mb_is_product p0)
def mb_is_bounded (p0 : Int) (p1 : Str) : Option (Fl Empty Empty Bool) := (Mn.bnd (Mn.bnd (Mn.pur p1) fun y_268 => lift (List.lookup y_268 c_BOUNDS.l)) fun p_269 => (Mn.bnd (Mn.bnd (Mn.bnd (Mn.pur p_269.1) fun x_271 => Mn.bnd (Mn.pur p0) fun y_272 => Mn.bnd (Mn.pur (decide (x_271 ≤ y_272))) fun w_274 => cnd w_274 (Mn.bnd (Mn.pur p_269.2) fun z_273 => Mn.pur (decide (y_272 ≤ z_273))) (Mn.pur false)) fun b_279 => cnd b_279 (Mn.bnd (Mn.bnd (Mn.pur p1) fun x_275 => Mn.bnd (Mn.pur ("PART" : Str)) fun y_276 => Mn.pur (!decide (x_275 = y_276))) fun b_278 => cnd b_278 (Mn.pur true) (Mn.bnd (Mn.pur p0) fun p_277 => lift (m_is_product p_277))) (Mn.pur false)) fun r_270 => Mn.pur (.rt r_270)))
def m_is_bounded (p0 : Int) (p1 : Str) : Option Bool := fin (mb_is_bounded p0 p1)
def mb_fits (p0 : Str) (p1 : Str) : Option (Fl Empty Empty Bool) := (andThen (Mn.bnd (Mn.bnd (Mn.pur p1) fun x_280 => Mn.bnd (Mn.pur ("NAME" : Str)) fun y_281 => Mn.pur (decide (x_280 = y_281))) fun b_282 => cnd b_282 (Mn.bnd (Mn.bnd (Mn.pur p0) fun p_285 => lift (m_is_name p_285)) fun r_284 => Mn.pur (.rt r_284)) (Mn.pur (.nx ())) : Option (Fl (Unit) Empty Bool)) fun t_283 => (andThen (Mn.bnd (Mn.bnd (Mn.pur p1) fun x_286 => Mn.pur ((List.lookup x_286 c_BOUNDS.l).isSome)) fun b_287 => cnd b_287 (Mn.bnd (Mn.bnd (Mn.bnd (Mn.pur p0) fun p_290 => lift (m_is_number p_290)) fun b_295 => cnd b_295 (Mn.bnd (Mn.bnd (Mn.bnd (Mn.pur p0) fun u_292 => gd (u_292.length ≤ 640) (lift (intT u_292))) fun x_293 => Mn.bnd (Mn.pur p1) fun y_294 => Mn.pur (x_293, y_294)) fun p_291 => lift (m_is_bounded p_291.1 p_291.2)) (Mn.pur false)) fun r_289 => Mn.pur (.rt r_289)) (Mn.pur (.nx ())) : Option (Fl (Unit) Empty Bool)) fun t_288 => (Mn.bnd (Mn.bnd (Mn.pur p0) fun x_297 => Mn.bnd (Mn.pur p1) fun y_298 => Mn.pur (decide (x_297 = y_298))) fun r_296 => Mn.pur (.rt r_296))))
def m_fits (p0 : Str) (p1 : Str) : Option Bool := fin (mb_fits p0 p1)
def mb_wrong_word (p0 : (List Str)) : Option (Fl Empty Empty (Option Int)) := (andThen (Mn.bnd (Mn.bnd (Mn.bnd (Mn.pur p0) fun x_299 => Mn.bnd (Mn.pur (0 : Int)) fun y_300 => lift (atI x_299 y_300)) fun x_301 => Mn.pur (!(List.lookup x_301 c_SHAPES.l).isSome)) fun b_302 => cnd b_302 (Mn.bnd (Mn.bnd (Mn.pur (0 : Int)) fun k_305 => Mn.pur (some k_305 : (Option Int))) fun r_304 => Mn.pur (.rt r_304)) (Mn.pur (.nx ())) : Option (Fl (Unit) Empty (Option Int))) fun t_303 => (Mn.bnd (Mn.bnd (Mn.bnd (Mn.pur p0) fun x_307 => Mn.bnd (Mn.pur (0 : Int)) fun y_308 => lift (atI x_307 y_308)) fun y_309 => lift (List.lookup y_309 c_SHAPES.l)) fun shape_306 => (andThen (Mn.bnd (Mn.bnd (Mn.pur p0) fun z_310 => Mn.pur (List.zip (upTo 0 (List.length z_310) 1) z_310)) fun w_338 => forL (fun (t_311 : Unit) (a_312 : (Int × Str)) => ((andThen (Mn.bnd (Mn.bnd (Mn.bnd (Mn.pur a_312.1) fun x_314 => Mn.bnd (Mn.bnd (Mn.pur shape_306) fun u_313 => Mn.pur ((List.length (Tl.l u_313) : Nat) : Int)) fun y_315 => Mn.pur (decide (x_314 = y_315))) fun b_322 => cnd b_322 (Mn.pur true) (Mn.bnd (Mn.bnd (Mn.bnd (Mn.pur a_312.2) fun x_319 => Mn.bnd (Mn.bnd (Mn.pur shape_306) fun x_317 => Mn.bnd (Mn.pur a_312.1) fun y_318 => lift (atI (Tl.l x_317) y_318)) fun y_320 => Mn.pur (x_319, y_320)) fun p_316 => lift (m_fits p_316.1 p_316.2)) fun b_321 => Mn.pur (!b_321))) fun b_323 => cnd b_323 (Mn.bnd (Mn.bnd (Mn.pur a_312.1) fun k_326 => Mn.pur (some k_326 : (Option Int))) fun r_325 => Mn.pur (.rt r_325)) (Mn.pur (.nx ())) : Option (Fl (Unit) (Unit) (Option Int))) fun t_324 => (Mn.pur (.nx ()))) : Option (Fl (Unit) (Unit) (Option Int)))) w_338 () : Option (Fl (Unit) Empty (Option Int))) fun t_311 => (Mn.bnd (Mn.bnd (Mn.bnd (Mn.bnd (Mn.pur p0) fun u_328 => Mn.pur ((List.length u_328 : Nat) : Int)) fun x_332 => Mn.bnd (Mn.bnd (Mn.bnd (Mn.pur p0) fun x_329 => Mn.bnd (Mn.pur (0 : Int)) fun y_330 => lift (atI x_329 y_330)) fun y_331 => lift (List.lookup y_331 c_ENDS.l)) fun y_333 => Mn.pur (decide (x_332 ∈ y_333.l))) fun b_337 => cnd b_337 (Mn.bnd (Mn.pur ()) fun k_334 => Mn.pur (none : (Option Int))) (Mn.bnd (Mn.bnd (Mn.pur p0) fun u_335 => Mn.pur ((List.length u_335 : Nat) : Int)) fun k_336 => Mn.pur (some k_336 : (Option Int)))) fun r_327 => Mn.pur (.rt r_327)))))
def m_wrong_word (p0 : (List Str)) : Option (Option Int) := fin (mb_wrong_word p0)
def mb_need_row (p0 : (List Str)) (p1 : Int) : Option (Fl Unit Empty (Xr Unit)) := (Mn.bnd (Mn.bnd (Mn.pur p0) fun p_340 => lift (m_wrong_word p_340)) fun at_339 => (andThen (Mn.bnd (Mn.bnd (Mn.pur at_339) fun x_341 => Mn.pur x_341.isSome) fun b_342 => cnd b_342 (Mn.bnd (Mn.bnd (Mn.bnd (Mn.pur p1) fun x_345 => Mn.bnd (Mn.bnd (Mn.pur at_339) fun k_344 => lift (id k_344)) fun y_346 => Mn.pur (x_345, y_346)) fun k_348 => gd (okII k_348) (Mn.pur (⟨"BadText", some ("spot", enc k_348)⟩ : Er))) fun r_347 => Mn.pur (.rt (.er r_347))) (Mn.pur (.nx ())) : Option (Fl (Unit) Empty (Xr Unit))) fun t_343 => (Mn.pur (.nx ()))))
def m_need_row (p0 : (List Str)) (p1 : Int) : Option (Xr Unit) := finN (mb_need_row p0 p1)
def mb_number_behind (p0 : (List Str)) (p1 : Str) (p2 : Int) : Option (Fl Empty Empty Int) := (andThen (Mn.bnd (Mn.bnd (Mn.pur p1) fun x_349 => Mn.bnd (Mn.pur p0) fun y_350 => Mn.pur (decide (x_349 ∈ y_350))) fun b_351 => cnd b_351 (Mn.bnd (Mn.bnd (Mn.bnd (Mn.pur p0) fun x_359 => Mn.bnd (Mn.bnd (Mn.bnd (Mn.pur p0) fun x_354 => Mn.bnd (Mn.pur p1) fun y_355 => Mn.bnd (lift (idxS x_354 y_355)) fun j_356 => Mn.pur ((j_356 : Nat) : Int)) fun x_357 => Mn.bnd (Mn.pur (1 : Int)) fun y_358 => Mn.pur (x_357 + y_358)) fun y_360 => lift (atI x_359 y_360)) fun u_361 => gd (u_361.length ≤ 640) (lift (intT u_361))) fun r_353 => Mn.pur (.rt r_353)) (Mn.pur (.nx ())) : Option (Fl (Unit) Empty Int)) fun t_352 => (Mn.bnd (Mn.pur p2) fun r_362 => Mn.pur (.rt r_362)))
def m_number_behind (p0 : (List Str)) (p1 : Str) (p2 : Int) : Option Int := fin (mb_number_behind p0 p1 p2)
def mb_told_note (p0 : (List Str)) : Option (Fl Empty Empty (T4 Str Str Int Int)) := (Mn.bnd (Mn.bnd (Mn.bnd (Mn.bnd (Mn.pur p0) fun x_364 => Mn.bnd (Mn.pur (1 : Int)) fun y_365 => lift (atI x_364 y_365)) fun x_378 => Mn.bnd (Mn.bnd (Mn.bnd (Mn.pur p0) fun x_366 => Mn.bnd (Mn.pur (2 : Int)) fun y_367 => lift (atI x_366 y_367)) fun x_376 => Mn.bnd (Mn.bnd (Mn.bnd (Mn.bnd (Mn.pur p0) fun x_368 => Mn.bnd (Mn.pur (3 : Int)) fun y_369 => lift (atI x_368 y_369)) fun u_370 => gd (u_370.length ≤ 640) (lift (intT u_370))) fun x_374 => Mn.bnd (Mn.bnd (Mn.bnd (Mn.pur p0) fun x_371 => Mn.bnd (Mn.pur (4 : Int)) fun y_372 => lift (atI x_371 y_372)) fun u_373 => gd (u_373.length ≤ 640) (lift (intT u_373))) fun y_375 => Mn.pur (x_374, y_375)) fun y_377 => Mn.pur (x_376, y_377)) fun y_379 => Mn.pur (x_378, y_379)) fun t_380 => Mn.pur (⟨t_380.1, t_380.2.1, t_380.2.2.1, t_380.2.2.2⟩ : (T4 Str Str Int Int))) fun r_363 => Mn.pur (.rt r_363))
def m_told_note (p0 : (List Str)) : Option (T4 Str Str Int Int) := fin (mb_told_note p0)
def mb_told_tie (p0 : (List Str)) : Option (Fl Empty Empty (T6 Str Str Str (Tl Int) Int Int)) := (Mn.bnd (Mn.bnd (Mn.bnd (Mn.pur p0) fun x_382 => Mn.bnd (Mn.pur (none : Option Int)) fun l_383 => Mn.bnd (Mn.bnd (Mn.pur (3 : Int)) fun i_381 => Mn.pur (some i_381)) fun h_384 => Mn.pur (cutL x_382 l_383 h_384)) fun y_386 => lift (l3 y_386)) fun p_385 => (Mn.bnd (Mn.bnd (Mn.bnd (Mn.pur (0 : Int)) fun x_394 => Mn.bnd (Mn.bnd (Mn.pur (0 : Int)) fun x_392 => Mn.bnd (Mn.bnd (Mn.pur (0 : Int)) fun x_390 => Mn.bnd (Mn.bnd (Mn.pur (0 : Int)) fun x_388 => Mn.bnd (Mn.pur ([] : List Int)) fun y_389 => Mn.pur (x_388 :: y_389)) fun y_391 => Mn.pur (x_390 :: y_391)) fun y_393 => Mn.pur (x_392 :: y_393)) fun y_395 => Mn.pur (x_394 :: y_395)) fun l_396 => gd (List.length l_396 ≤ 1000) (Mn.pur (⟨l_396⟩ : (Tl Int)))) fun ratio_387 => (andThen (Mn.bnd (Mn.bnd (Mn.pur p_385.a) fun x_397 => Mn.bnd (Mn.pur ("held" : Str)) fun y_398 => Mn.pur (!decide (x_397 = y_398))) fun b_399 => cnd b_399 (Mn.bnd (Mn.bnd (Mn.bnd (Mn.bnd (Mn.bnd (Mn.pur p0) fun x_403 => Mn.bnd (Mn.pur (3 : Int)) fun y_404 => lift (atI x_403 y_404)) fun u_405 => gd (u_405.length ≤ 640) (lift (intT u_405))) fun x_409 => Mn.bnd (Mn.bnd (Mn.bnd (Mn.pur p0) fun x_406 => Mn.bnd (Mn.pur (5 : Int)) fun y_407 => lift (atI x_406 y_407)) fun u_408 => gd (u_408.length ≤ 640) (lift (intT u_408))) fun y_410 => Mn.pur (x_409, y_410)) fun p_402 => lift (m_ratio_of p_402.1 p_402.2)) fun ratio_401 => (Mn.pur (.nx ratio_401))) (Mn.pur (.nx ratio_387)) : Option (Fl ((Tl Int)) Empty (T6 Str Str Str (Tl Int) Int Int))) fun t_400 => (Mn.bnd (Mn.bnd (Mn.bnd (Mn.pur p0) fun x_415 => Mn.bnd (Mn.bnd (Mn.pur ("bend" : Str)) fun x_413 => Mn.bnd (Mn.pur (50 : Int)) fun y_414 => Mn.pur (x_413, y_414)) fun y_416 => Mn.pur (x_415, y_416)) fun p_412 => lift (m_number_behind p_412.1 p_412.2.1 p_412.2.2)) fun bend_411 => (Mn.bnd (Mn.bnd (Mn.bnd (Mn.pur p0) fun x_421 => Mn.bnd (Mn.bnd (Mn.pur ("weight" : Str)) fun x_419 => Mn.bnd (Mn.pur (1 : Int)) fun y_420 => Mn.pur (x_419, y_420)) fun y_422 => Mn.pur (x_421, y_422)) fun p_418 => lift (m_number_behind p_418.1 p_418.2.1 p_418.2.2)) fun weight_417 => (Mn.bnd (Mn.bnd (Mn.bnd (Mn.pur p_385.a) fun x_432 => Mn.bnd (Mn.bnd (Mn.pur p_385.b) fun x_430 => Mn.bnd (Mn.bnd (Mn.pur p_385.c) fun x_428 => Mn.bnd (Mn.bnd (Mn.pur t_400) fun x_426 => Mn.bnd (Mn.bnd (Mn.pur bend_411) fun x_424 => Mn.bnd (Mn.pur weight_417) fun y_425 => Mn.pur (x_424, y_425)) fun y_427 => Mn.pur (x_426, y_427)) fun y_429 => Mn.pur (x_428, y_429)) fun y_431 => Mn.pur (x_430, y_431)) fun y_433 => Mn.pur (x_432, y_433)) fun t_434 => Mn.pur (⟨t_434.1, t_434.2.1, t_434.2.2.1, t_434.2.2.2.1, t_434.2.2.2.2.1, t_434.2.2.2.2.2⟩ : (T6 Str Str Str (Tl Int) Int Int))) fun r_423 => Mn.pur (.rt r_423)))))))
def m_told_tie (p0 : (List Str)) : Option (T6 Str Str Str (Tl Int) Int Int) := fin (mb_told_tie p0)
def mb_read (p0 : Str) : Option (Fl Empty Empty (Xr (T3 (Tl (T4 Str Str Int Int)) (Tl (T6 Str Str Str (Tl Int) Int Int)) (Option (Str × Str))))) := (xbnd (Mn.bnd (Mn.bnd (Mn.pur p0) fun k_436 => Mn.pur (An.of k_436)) fun p_437 => lift (m_text_words p_437)) fun rows_435 => (andThen (Mn.bnd (Mn.bnd (Mn.pur rows_435) fun z_438 => Mn.pur (List.zip (upTo 0 (List.length z_438) 1) z_438)) fun w_499 => forL (fun (t_439 : Unit) (a_440 : (Int × (List Str))) => ((andThen (Mn.bnd (Mn.bnd (Mn.pur a_440.2) fun x_441 => Mn.pur (!List.isEmpty x_441)) fun b_442 => cnd b_442 (xbnd (Mn.bnd (Mn.bnd (Mn.pur a_440.2) fun x_444 => Mn.bnd (Mn.pur a_440.1) fun y_445 => Mn.pur (x_444, y_445)) fun p_446 => lift (m_need_row p_446.1 p_446.2)) fun u_447 => (Mn.pur (.nx ()))) (Mn.pur (.nx ())) : Option (Fl (Unit) (Unit) (Xr (T3 (Tl (T4 Str Str Int Int)) (Tl (T6 Str Str Str (Tl Int) Int Int)) (Option (Str × Str)))))) fun t_443 => (Mn.pur (.nx ()))) : Option (Fl (Unit) (Unit) (Xr (T3 (Tl (T4 Str Str Int Int)) (Tl (T6 Str Str Str (Tl Int) Int Int)) (Option (Str × Str))))))) w_499 () : Option (Fl (Unit) Empty (Xr (T3 (Tl (T4 Str Str Int Int)) (Tl (T6 Str Str Str (Tl Int) Int Int)) (Option (Str × Str)))))) fun t_439 => (Mn.bnd (Mn.bnd (Mn.pur rows_435) fun w_452 => gd (List.length w_452 ≤ 100000) (compL (fun (a_450 : (List Str)) => (Mn.bnd (Mn.pur a_450) fun x_451 => Mn.pur (!List.isEmpty x_451))) (fun (a_450 : (List Str)) => (Mn.pur a_450)) w_452)) fun filled_448 => (Mn.bnd (Mn.bnd (Mn.pur filled_448) fun w_461 => gd (List.length w_461 ≤ 100000) (compL (fun (a_455 : (List Str)) => (Mn.bnd (Mn.bnd (Mn.pur a_455) fun x_457 => Mn.bnd (Mn.pur (0 : Int)) fun y_458 => lift (atI x_457 y_458)) fun x_459 => Mn.bnd (Mn.pur ("note" : Str)) fun y_460 => Mn.pur (decide (x_459 = y_460)))) (fun (a_455 : (List Str)) => (Mn.bnd (Mn.pur a_455) fun p_456 => lift (m_told_note p_456))) w_461)) fun notes_453 => (Mn.bnd (Mn.bnd (Mn.pur filled_448) fun w_470 => gd (List.length w_470 ≤ 100000) (compL (fun (a_464 : (List Str)) => (Mn.bnd (Mn.bnd (Mn.pur a_464) fun x_466 => Mn.bnd (Mn.pur (0 : Int)) fun y_467 => lift (atI x_466 y_467)) fun x_468 => Mn.bnd (Mn.pur c_TIE_WORDS) fun y_469 => Mn.pur (decide (x_468 ∈ y_469.l)))) (fun (a_464 : (List Str)) => (Mn.bnd (Mn.pur a_464) fun p_465 => lift (m_told_tie p_465))) w_470)) fun ties_462 => (Mn.bnd (Mn.bnd (Mn.pur filled_448) fun w_484 => gd (List.length w_484 ≤ 100000) (compL (fun (a_473 : (List Str)) => (Mn.bnd (Mn.bnd (Mn.pur a_473) fun x_480 => Mn.bnd (Mn.pur (0 : Int)) fun y_481 => lift (atI x_480 y_481)) fun x_482 => Mn.bnd (Mn.pur ("home" : Str)) fun y_483 => Mn.pur (decide (x_482 = y_483)))) (fun (a_473 : (List Str)) => (Mn.bnd (Mn.bnd (Mn.pur a_473) fun x_474 => Mn.bnd (Mn.pur (1 : Int)) fun y_475 => lift (atI x_474 y_475)) fun x_478 => Mn.bnd (Mn.bnd (Mn.pur a_473) fun x_476 => Mn.bnd (Mn.pur (2 : Int)) fun y_477 => lift (atI x_476 y_477)) fun y_479 => Mn.pur (x_478, y_479))) w_484)) fun homes_471 => (Mn.bnd (Mn.bnd (Mn.bnd (Mn.bnd (Mn.pur notes_453) fun u_486 => Mn.pur (⟨u_486⟩ : (Tl (T4 Str Str Int Int)))) fun x_496 => Mn.bnd (Mn.bnd (Mn.bnd (Mn.pur ties_462) fun u_487 => Mn.pur (⟨u_487⟩ : (Tl (T6 Str Str Str (Tl Int) Int Int)))) fun x_494 => Mn.bnd (Mn.bnd (Mn.bnd (Mn.pur homes_471) fun x_488 => Mn.pur (!List.isEmpty x_488)) fun b_493 => cnd b_493 (Mn.bnd (Mn.bnd (Mn.pur homes_471) fun x_489 => Mn.bnd (Mn.pur (0 : Int)) fun y_490 => lift (atI x_489 y_490)) fun k_491 => Mn.pur (some k_491 : (Option (Str × Str)))) (Mn.bnd (Mn.pur ()) fun k_492 => Mn.pur (none : (Option (Str × Str))))) fun y_495 => Mn.pur (x_494, y_495)) fun y_497 => Mn.pur (x_496, y_497)) fun t_498 => Mn.pur (⟨t_498.1, t_498.2.1, t_498.2.2⟩ : (T3 (Tl (T4 Str Str Int Int)) (Tl (T6 Str Str Str (Tl Int) Int Int)) (Option (Str × Str))))) fun r_485 => Mn.pur (.rt (.ok r_485)))))))))
def m_read (p0 : Str) : Option (Xr (T3 (Tl (T4 Str Str Int Int)) (Tl (T6 Str Str Str (Tl Int) Int Int)) (Option (Str × Str)))) := fin (mb_read p0)
def mb_note_row (p0 : (T4 Str Str Int Int)) : Option (Fl Empty Empty Str) := (Mn.bnd (Mn.pur p0) fun p_500 => (Mn.bnd (jsT [(Mn.pur ("note " : Str)), (Mn.bnd (Mn.pur p_500.a) fun y_502 => gd (y_502.length ≤ sizeLine) (Mn.pur y_502)), (Mn.pur (" " : Str)), (Mn.bnd (Mn.pur p_500.b) fun y_503 => gd (y_503.length ≤ sizeLine) (Mn.pur y_503)), (Mn.pur (" " : Str)), (Mn.bnd (Mn.pur p_500.c) fun y_504 => gd (Nat.log2 (Int.natAbs y_504) < 1920) (Mn.pur (strI y_504))), (Mn.pur (" " : Str)), (Mn.bnd (Mn.pur p_500.d) fun y_505 => gd (Nat.log2 (Int.natAbs y_505) < 1920) (Mn.pur (strI y_505)))] Str.empty) fun r_501 => Mn.pur (.rt r_501)))
def m_note_row (p0 : (T4 Str Str Int Int)) : Option Str := fin (mb_note_row p0)
def mb_tie_row (p0 : (T6 Str Str Str (Tl Int) Int Int)) : Option (Fl Empty Empty Str) := (Mn.bnd (Mn.pur p0) fun p_506 => (Mn.bnd (Mn.bnd (Mn.bnd (Mn.pur p_506.a) fun x_512 => Mn.bnd (Mn.bnd (Mn.pur p_506.b) fun x_510 => Mn.bnd (Mn.bnd (Mn.pur p_506.c) fun x_508 => Mn.bnd (Mn.pur ([] : List Str)) fun y_509 => Mn.pur (x_508 :: y_509)) fun y_511 => Mn.pur (x_510 :: y_511)) fun y_513 => Mn.pur (x_512 :: y_513)) fun l_514 => gd (List.length l_514 ≤ 1000) (Mn.pur l_514)) fun words_507 => (andThen (Mn.bnd (Mn.bnd (Mn.pur p_506.a) fun x_515 => Mn.bnd (Mn.pur ("held" : Str)) fun y_516 => Mn.pur (!decide (x_515 = y_516))) fun b_517 => cnd b_517 (Mn.bnd (Mn.bnd (Mn.pur p_506.d) fun p_520 => lift (m_ratio_text p_520)) fun e_519 => gd (List.length words_507 < 100000) (Mn.bnd (Mn.pur (words_507 ++ [e_519])) fun zs_521 => (Mn.pur (.nx zs_521)))) (Mn.pur (.nx words_507)) : Option (Fl ((List Str)) Empty Str)) fun t_518 => (andThen (Mn.bnd (Mn.bnd (Mn.bnd (Mn.pur p_506.e) fun x_522 => Mn.bnd (Mn.pur (50 : Int)) fun y_523 => Mn.pur (!decide (x_522 = y_523))) fun b_526 => cnd b_526 (Mn.pur true) (Mn.bnd (Mn.pur p_506.f) fun x_524 => Mn.bnd (Mn.pur (1 : Int)) fun y_525 => Mn.pur (!decide (x_524 = y_525)))) fun b_527 => cnd b_527 (Mn.bnd (jsT [(Mn.pur ("bend " : Str)), (Mn.bnd (Mn.pur p_506.e) fun y_530 => gd (Nat.log2 (Int.natAbs y_530) < 1920) (Mn.pur (strI y_530)))] Str.empty) fun e_529 => gd (List.length t_518 < 100000) (Mn.bnd (Mn.pur (t_518 ++ [e_529])) fun zs_531 => (Mn.pur (.nx zs_531)))) (Mn.pur (.nx t_518)) : Option (Fl ((List Str)) Empty Str)) fun t_528 => (andThen (Mn.bnd (Mn.bnd (Mn.pur p_506.f) fun x_532 => Mn.bnd (Mn.pur (1 : Int)) fun y_533 => Mn.pur (!decide (x_532 = y_533))) fun b_534 => cnd b_534 (Mn.bnd (jsT [(Mn.pur ("weight " : Str)), (Mn.bnd (Mn.pur p_506.f) fun y_537 => gd (Nat.log2 (Int.natAbs y_537) < 1920) (Mn.pur (strI y_537)))] Str.empty) fun e_536 => gd (List.length t_528 < 100000) (Mn.bnd (Mn.pur (t_528 ++ [e_536])) fun zs_538 => (Mn.pur (.nx zs_538)))) (Mn.pur (.nx t_528)) : Option (Fl ((List Str)) Empty Str)) fun t_535 => (Mn.bnd (Mn.bnd (Mn.pur t_535) fun j_540 => gd ((List.map Str.length j_540).sum + List.length j_540 * Str.length (" " : Str) ≤ 16777216) (Mn.pur (Txt.join (" " : Str) j_540))) fun r_539 => Mn.pur (.rt r_539)))))))
def m_tie_row (p0 : (T6 Str Str Str (Tl Int) Int Int)) : Option Str := fin (mb_tie_row p0)
def mb_written (p0 : (T3 (Tl (T4 Str Str Int Int)) (Tl (T6 Str Str Str (Tl Int) Int Int)) (Option (Str × Str)))) : Option (Fl Empty Empty Str) := (Mn.bnd (Mn.pur p0) fun p_541 => (Mn.bnd (Mn.bnd (Mn.bnd (Mn.bnd (Mn.pur p_541.a) fun w_543 => Mn.pur (Tl.l w_543)) fun w_546 => gd (List.length w_546 ≤ 100000) (compL (fun (a_544 : (T4 Str Str Int Int)) => (Mn.pur true)) (fun (a_544 : (T4 Str Str Int Int)) => (Mn.bnd (Mn.pur a_544) fun p_545 => lift (m_note_row p_545))) w_546)) fun x_551 => Mn.bnd (Mn.bnd (Mn.bnd (Mn.pur p_541.b) fun w_547 => Mn.pur (Tl.l w_547)) fun w_550 => gd (List.length w_550 ≤ 100000) (compL (fun (a_548 : (T6 Str Str Str (Tl Int) Int Int)) => (Mn.pur true)) (fun (a_548 : (T6 Str Str Str (Tl Int) Int Int)) => (Mn.bnd (Mn.pur a_548) fun p_549 => lift (m_tie_row p_549))) w_550)) fun y_552 => gd (List.length x_551 + List.length y_552 ≤ sizeLine) (Mn.pur (x_551 ++ y_552))) fun rows_542 => (andThen (Mn.bnd (Mn.bnd (Mn.pur p_541.c) fun x_553 => Mn.pur x_553.isSome) fun b_554 => cnd b_554 (Mn.bnd (jsT [(Mn.pur ("home " : Str)), (Mn.bnd (Mn.bnd (Mn.bnd (Mn.pur p_541.c) fun k_557 => lift (id k_557)) fun x_558 => Mn.pur x_558.1) fun y_559 => gd (y_559.length ≤ sizeLine) (Mn.pur y_559)), (Mn.pur (" " : Str)), (Mn.bnd (Mn.bnd (Mn.bnd (Mn.pur p_541.c) fun k_560 => lift (id k_560)) fun x_561 => Mn.pur x_561.2) fun y_562 => gd (y_562.length ≤ sizeLine) (Mn.pur y_562))] Str.empty) fun e_556 => gd (List.length rows_542 < 100000) (Mn.bnd (Mn.pur (rows_542 ++ [e_556])) fun zs_563 => (Mn.pur (.nx zs_563)))) (Mn.pur (.nx rows_542)) : Option (Fl ((List Str)) Empty Str)) fun t_555 => (Mn.bnd (Mn.bnd (Mn.pur t_555) fun j_565 => gd ((List.map Str.length j_565).sum + List.length j_565 * Str.length ("\n" : Str) ≤ 16777216) (Mn.pur (Txt.join ("\n" : Str) j_565))) fun r_564 => Mn.pur (.rt r_564)))))
def m_written (p0 : (T3 (Tl (T4 Str Str Int Int)) (Tl (T6 Str Str Str (Tl Int) Int Int)) (Option (Str × Str)))) : Option Str := fin (mb_written p0)
-- bg2 (Mn.bnd (Mn.bnd (Mn.bnd (Mn.bnd (Mn.pur (8 : Int)) fun p_566 => m__law_next c none p_566) fun n_567 => gd (-(2 ^ 62) ≤ n_567 ∧ n_567 < 2 ^ 62) (Mn.pur (upTo 0 (Int.toNat n_567) 1))) fun w_573 => gd (List.length w_573 ≤ 100000) (compL (fun (a_568 : Int) => (Mn.pur true)) (fun (a_568 : Int) => (Mn.bnd (Mn.pur ("qzjv" : Str)) fun x_570 => Mn.bnd (Mn.bnd (Mn.pur (4 : Int)) fun p_569 => m__law_next c none p_569) fun y_571 => gd (x_570.length ≤ sizeLine) (Mn.bnd (lift (atI (Array.toList (Str.cps x_570)) y_571)) fun c_572 => Mn.pur (sgn c_572)))) w_573)) fun j_574 => gd ((List.map Str.length j_574).sum + List.length j_574 * Str.length ("" : Str) ≤ 16777216) (Mn.pur (Txt.join ("" : Str) j_574)))
-- bg3 (Mn.bnd (Mn.bnd (Mn.bnd (Mn.pur r) fun u_576 => gd (u_576.length ≤ sizeLine) (Mn.pur ((Str.length u_576 : Nat) : Int))) fun x_577 => Mn.bnd (Mn.pur (1 : Int)) fun y_578 => Mn.pur (x_577 + y_578)) fun p_575 => m__law_next c none p_575)
-- bg4 (Mn.bnd (Mn.bnd (Mn.pur ("mcxgtaqerbvkdunhspjfwlio" : Str)) fun w_579 => Mn.pur (List.map sgn (Array.toList (Str.cps w_579)))) fun w_593 => gd (List.length w_593 ≤ 100000) (compL (fun (a_580 : Str) => (Mn.pur true)) (fun (a_580 : Str) => (Mn.bnd (Mn.bnd (Mn.bnd (Mn.pur r) fun x_582 => Mn.bnd (Mn.pur (none : Option Int)) fun l_583 => Mn.bnd (Mn.bnd (Mn.pur a) fun i_581 => Mn.pur (some i_581)) fun h_584 => gd (x_582.length ≤ sizeLine) (Mn.pur (cutT x_582 l_583 h_584))) fun x_585 => Mn.bnd (Mn.pur a_580) fun y_586 => gd (x_585.length + y_586.length ≤ sizeLine) (Mn.pur (x_585 ++ y_586))) fun x_591 => Mn.bnd (Mn.bnd (Mn.pur r) fun x_588 => Mn.bnd (Mn.bnd (Mn.pur a) fun i_587 => Mn.pur (some i_587)) fun l_589 => Mn.bnd (Mn.pur (none : Option Int)) fun h_590 => gd (x_588.length ≤ sizeLine) (Mn.pur (cutT x_588 l_589 h_590))) fun y_592 => gd (x_591.length + y_592.length ≤ sizeLine) (Mn.pur (x_591 ++ y_592)))) w_593))
def mb__law_part (cl : List Int) (nm : Option (List Str)) : Sm (Fl Empty Empty Int) := (Mn.bnd (Mn.pur (1 : Int)) fun found_594 => (andThen (Mn.bnd (Mn.bnd (Mn.bnd (Mn.pur (10 : Int)) fun p_595 => m__law_next cl nm p_595) fun n_596 => gd (-(2 ^ 62) ≤ n_596 ∧ n_596 < 2 ^ 62) (Mn.pur (upTo 0 (Int.toNat n_596) 1))) fun w_621 => forL (fun (t_597 : Int) (a_598 : Int) => ((Mn.bnd (Mn.bnd (Mn.bnd (Mn.bnd (Mn.pur (2 : Int)) fun x_606 => Mn.bnd (Mn.bnd (Mn.pur (3 : Int)) fun x_604 => Mn.bnd (Mn.bnd (Mn.pur (5 : Int)) fun x_602 => Mn.bnd (Mn.bnd (Mn.pur (7 : Int)) fun x_600 => Mn.bnd (Mn.pur ([] : List Int)) fun y_601 => Mn.pur (x_600 :: y_601)) fun y_603 => Mn.pur (x_602 :: y_603)) fun y_605 => Mn.pur (x_604 :: y_605)) fun y_607 => Mn.pur (x_606 :: y_607)) fun l_608 => gd (List.length l_608 ≤ 1000) (Mn.pur l_608)) fun x_610 => Mn.bnd (Mn.bnd (Mn.pur (4 : Int)) fun p_609 => m__law_next cl nm p_609) fun y_611 => lift (atI x_610 y_611)) fun prime_599 => (Mn.bnd (Mn.bnd (Mn.bnd (Mn.bnd (Mn.pur t_597) fun x_613 => Mn.bnd (Mn.pur prime_599) fun y_614 => gd (ON.MulOk x_613 y_614) (Mn.pur (x_613 * y_614))) fun x_615 => Mn.bnd (Mn.pur (9999 : Int)) fun y_616 => Mn.pur (decide (x_615 ≤ y_616))) fun b_619 => cnd b_619 (Mn.bnd (Mn.pur t_597) fun x_617 => Mn.bnd (Mn.pur prime_599) fun y_618 => gd (ON.MulOk x_617 y_618) (Mn.pur (x_617 * y_618))) (Mn.pur t_597)) fun found_612 => (Mn.pur (.nx found_612)))) : Sm (Fl (Int) (Int) Int))) w_621 found_594 : Sm (Fl (Int) Empty Int)) fun t_597 => (Mn.bnd (Mn.pur t_597) fun r_620 => Mn.pur (.rt r_620))))
def m__law_part (cl : List Int) (nm : Option (List Str)) : Sm Int := finS (mb__law_part cl nm)
def mb__law_often (p0 : Int) : Option (Fl Empty Empty (List Int)) := (Mn.bnd (Mn.bnd (Mn.pur ([] : List Int)) fun l_623 => gd (List.length l_623 ≤ 1000) (Mn.pur l_623)) fun found_622 => (andThen (Mn.bnd (Mn.bnd (Mn.bnd (Mn.bnd (Mn.pur (2 : Int)) fun x_637 => Mn.bnd (Mn.bnd (Mn.pur (3 : Int)) fun x_635 => Mn.bnd (Mn.bnd (Mn.pur (5 : Int)) fun x_633 => Mn.bnd (Mn.bnd (Mn.pur (7 : Int)) fun x_631 => Mn.bnd (Mn.pur ([] : List Int)) fun y_632 => Mn.pur (x_631 :: y_632)) fun y_634 => Mn.pur (x_633 :: y_634)) fun y_636 => Mn.pur (x_635 :: y_636)) fun y_638 => Mn.pur (x_637 :: y_638)) fun l_639 => gd (List.length l_639 ≤ 1000) (Mn.pur (⟨l_639⟩ : (Tl Int)))) fun w_640 => Mn.pur (Tl.l w_640)) fun w_659 => forL (fun (t_641 : (List Int)) (a_642 : Int) => ((Mn.bnd (Mn.pur (0 : Int)) fun many_643 => (Mn.bnd (Mn.pur a_642) fun great_644 => (andThen (whl (fun (t_645 : Int × Int) => ((Mn.bnd (Mn.bnd (Mn.pur p0) fun x_646 => Mn.bnd (Mn.pur t_645.2) fun y_647 => gd (0 < y_647) (Mn.pur (x_646 % y_647))) fun x_648 => Mn.bnd (Mn.pur (0 : Int)) fun y_649 => Mn.pur (decide (x_648 = y_649))) : Option Bool)) (fun (t_645 : Int × Int) => ((Mn.bnd (Mn.bnd (Mn.pur t_645.1) fun x_651 => Mn.bnd (Mn.pur (1 : Int)) fun y_652 => Mn.pur (x_651 + y_652)) fun many_650 => (Mn.bnd (Mn.bnd (Mn.pur t_645.2) fun x_654 => Mn.bnd (Mn.pur a_642) fun y_655 => gd (ON.MulOk x_654 y_655) (Mn.pur (x_654 * y_655))) fun great_653 => (Mn.pur (.nx (many_650, great_653))))) : Option (Fl (Int × Int) (Int × Int) (List Int)))) FU (many_643, great_644) : Option (Fl (Int × Int) ((List Int)) (List Int))) fun t_645 => (Mn.bnd (Mn.pur t_645.1) fun e_656 => gd (List.length t_641 < 100000) (Mn.bnd (Mn.pur (t_641 ++ [e_656])) fun zs_657 => (Mn.pur (.nx zs_657))))))) : Option (Fl ((List Int)) ((List Int)) (List Int)))) w_659 found_622 : Option (Fl ((List Int)) Empty (List Int))) fun t_641 => (Mn.bnd (Mn.pur t_641) fun r_658 => Mn.pur (.rt r_658))))
def m__law_often (p0 : Int) : Option (List Int) := fin (mb__law_often p0)
def mb__law_ratio (p0 : Int) (p1 : Int) : Option (Fl Empty Empty (Tl Int)) := (Mn.bnd (Mn.bnd (Mn.bnd (Mn.bnd (Mn.bnd (Mn.bnd (Mn.pur p0) fun p_661 => lift (m__law_often p_661)) fun x_663 => Mn.bnd (Mn.bnd (Mn.pur p1) fun p_662 => lift (m__law_often p_662)) fun y_664 => Mn.pur (x_663, y_664)) fun z_665 => Mn.pur (List.zip z_665.1 z_665.2)) fun w_669 => gd (List.length w_669 ≤ 100000) (compL (fun (a_666 : (Int × Int)) => (Mn.pur true)) (fun (a_666 : (Int × Int)) => (Mn.bnd (Mn.pur a_666.1) fun x_667 => Mn.bnd (Mn.pur a_666.2) fun y_668 => Mn.pur (x_667 - y_668))) w_669)) fun u_670 => Mn.pur (⟨u_670⟩ : (Tl Int))) fun r_660 => Mn.pur (.rt r_660))
def m__law_ratio (p0 : Int) (p1 : Int) : Option (Tl Int) := fin (mb__law_ratio p0 p1)
def mb__law_tie (cl : List Int) (nm : Option (List Str)) (p0 : (List Str)) : Sm (Fl Empty Empty ((T6 Str Str Str (Tl Int) Int Int) × (List Str))) := (Mn.bnd (Mn.bnd (Mn.bnd (Mn.bnd (Mn.pur ("held" : Str)) fun x_676 => Mn.bnd (Mn.bnd (Mn.pur ("pure" : Str)) fun x_674 => Mn.bnd (Mn.bnd (Mn.pur ("step" : Str)) fun x_672 => Mn.bnd (Mn.pur ([] : List Str)) fun y_673 => Mn.pur (x_672 :: y_673)) fun y_675 => Mn.pur (x_674 :: y_675)) fun y_677 => Mn.pur (x_676 :: y_677)) fun l_678 => gd (List.length l_678 ≤ 1000) (Mn.pur l_678)) fun x_680 => Mn.bnd (Mn.bnd (Mn.pur (3 : Int)) fun p_679 => m__law_next cl nm p_679) fun y_681 => lift (atI x_680 y_681)) fun word_671 => (Mn.bnd (Mn.bnd (Mn.bnd (Mn.pur p0) fun x_684 => Mn.bnd (Mn.bnd (Mn.bnd (Mn.pur p0) fun u_683 => Mn.pur ((List.length u_683 : Nat) : Int)) fun p_682 => m__law_next cl nm p_682) fun y_685 => lift (atI x_684 y_685)) fun x_690 => Mn.bnd (Mn.bnd (Mn.pur p0) fun x_688 => Mn.bnd (Mn.bnd (Mn.bnd (Mn.pur p0) fun u_687 => Mn.pur ((List.length u_687 : Nat) : Int)) fun p_686 => m__law_next cl nm p_686) fun y_689 => lift (atI x_688 y_689)) fun y_691 => Mn.pur (x_690, y_691)) fun p_692 => (Mn.bnd (Mn.bnd (Mn.bnd (Mn.pur word_671) fun x_698 => Mn.bnd (Mn.bnd (Mn.pur p_692.1) fun x_696 => Mn.bnd (Mn.bnd (Mn.pur p_692.2) fun x_694 => Mn.bnd (Mn.pur ([] : List Str)) fun y_695 => Mn.pur (x_694 :: y_695)) fun y_697 => Mn.pur (x_696 :: y_697)) fun y_699 => Mn.pur (x_698 :: y_699)) fun l_700 => gd (List.length l_700 ≤ 1000) (Mn.pur l_700)) fun words_693 => (Mn.bnd (Mn.bnd (Mn.bnd (Mn.pur (0 : Int)) fun x_708 => Mn.bnd (Mn.bnd (Mn.pur (0 : Int)) fun x_706 => Mn.bnd (Mn.bnd (Mn.pur (0 : Int)) fun x_704 => Mn.bnd (Mn.bnd (Mn.pur (0 : Int)) fun x_702 => Mn.bnd (Mn.pur ([] : List Int)) fun y_703 => Mn.pur (x_702 :: y_703)) fun y_705 => Mn.pur (x_704 :: y_705)) fun y_707 => Mn.pur (x_706 :: y_707)) fun y_709 => Mn.pur (x_708 :: y_709)) fun l_710 => gd (List.length l_710 ≤ 1000) (Mn.pur (⟨l_710⟩ : (Tl Int)))) fun ratiohere_701 => (andThen (Mn.bnd (Mn.bnd (Mn.pur word_671) fun x_711 => Mn.bnd (Mn.pur ("held" : Str)) fun y_712 => Mn.pur (!decide (x_711 = y_712))) fun b_713 => cnd b_713 (Mn.bnd (Mn.bnd (Mn.bnd (Mn.pur ()) fun (p_715 : Unit) => m__law_part cl nm ) fun x_717 => Mn.bnd (Mn.bnd (Mn.pur ()) fun (p_716 : Unit) => m__law_part cl nm ) fun y_718 => Mn.pur (x_717, y_718)) fun p_719 => (Mn.bnd (Mn.bnd (Mn.bnd (Mn.pur p_719.1) fun x_722 => Mn.bnd (Mn.pur p_719.2) fun y_723 => Mn.pur (x_722, y_723)) fun p_721 => lift (m__law_ratio p_721.1 p_721.2)) fun ratiohere_720 => (Mn.bnd (Mn.bnd (Mn.pur words_693) fun x_736 => Mn.bnd (Mn.bnd (Mn.bnd (Mn.bnd (Mn.pur p_719.1) fun u_727 => gd (Nat.log2 (Int.natAbs u_727) < 1920) (Mn.pur (strI u_727))) fun x_733 => Mn.bnd (Mn.bnd (Mn.pur ("/" : Str)) fun x_731 => Mn.bnd (Mn.bnd (Mn.bnd (Mn.pur p_719.2) fun u_728 => gd (Nat.log2 (Int.natAbs u_728) < 1920) (Mn.pur (strI u_728))) fun x_729 => Mn.bnd (Mn.pur ([] : List Str)) fun y_730 => Mn.pur (x_729 :: y_730)) fun y_732 => Mn.pur (x_731 :: y_732)) fun y_734 => Mn.pur (x_733 :: y_734)) fun l_735 => gd (List.length l_735 ≤ 1000) (Mn.pur l_735)) fun y_737 => gd (List.length x_736 + List.length y_737 ≤ sizeLine) (Mn.pur (x_736 ++ y_737))) fun words_724 => (Mn.pur (.nx (words_724, ratiohere_720)))))) (Mn.pur (.nx (words_693, ratiohere_701))) : Sm (Fl ((List Str) × (Tl Int)) Empty ((T6 Str Str Str (Tl Int) Int Int) × (List Str)))) fun t_714 => (Mn.bnd (Mn.bnd (Mn.bnd (Mn.bnd (Mn.pur (50 : Int)) fun x_747 => Mn.bnd (Mn.bnd (Mn.bnd (Mn.pur (10000 : Int)) fun p_740 => m__law_next cl nm p_740) fun x_745 => Mn.bnd (Mn.bnd (Mn.pur (0 : Int)) fun x_743 => Mn.bnd (Mn.bnd (Mn.pur (9999 : Int)) fun x_741 => Mn.bnd (Mn.pur ([] : List Int)) fun y_742 => Mn.pur (x_741 :: y_742)) fun y_744 => Mn.pur (x_743 :: y_744)) fun y_746 => Mn.pur (x_745 :: y_746)) fun y_748 => Mn.pur (x_747 :: y_748)) fun l_749 => gd (List.length l_749 ≤ 1000) (Mn.pur l_749)) fun x_751 => Mn.bnd (Mn.bnd (Mn.pur (4 : Int)) fun p_750 => m__law_next cl nm p_750) fun y_752 => lift (atI x_751 y_752)) fun bend_738 => (Mn.bnd (Mn.bnd (Mn.pur (1 : Int)) fun x_755 => Mn.bnd (Mn.bnd (Mn.pur (9 : Int)) fun p_754 => m__law_next cl nm p_754) fun y_756 => Mn.pur (x_755 + y_756)) fun weight_753 => (Mn.bnd (Mn.bnd (Mn.pur (4 : Int)) fun p_758 => m__law_next cl nm p_758) fun way_757 => (andThen (Mn.bnd (Mn.bnd (Mn.pur way_757) fun x_759 => Mn.bnd (Mn.pur (0 : Int)) fun y_760 => Mn.pur (decide (x_759 = y_760))) fun b_761 => cnd b_761 (Mn.bnd (Mn.bnd (Mn.bnd (Mn.bnd (Mn.pur word_671) fun x_772 => Mn.bnd (Mn.bnd (Mn.pur p_692.1) fun x_770 => Mn.bnd (Mn.bnd (Mn.pur p_692.2) fun x_768 => Mn.bnd (Mn.bnd (Mn.pur t_714.2) fun x_766 => Mn.bnd (Mn.bnd (Mn.pur (50 : Int)) fun x_764 => Mn.bnd (Mn.pur (1 : Int)) fun y_765 => Mn.pur (x_764, y_765)) fun y_767 => Mn.pur (x_766, y_767)) fun y_769 => Mn.pur (x_768, y_769)) fun y_771 => Mn.pur (x_770, y_771)) fun y_773 => Mn.pur (x_772, y_773)) fun t_774 => Mn.pur (⟨t_774.1, t_774.2.1, t_774.2.2.1, t_774.2.2.2.1, t_774.2.2.2.2.1, t_774.2.2.2.2.2⟩ : (T6 Str Str Str (Tl Int) Int Int))) fun x_775 => Mn.bnd (Mn.pur t_714.1) fun y_776 => Mn.pur (x_775, y_776)) fun r_763 => Mn.pur (.rt r_763)) (Mn.pur (.nx ())) : Sm (Fl (Unit) Empty ((T6 Str Str Str (Tl Int) Int Int) × (List Str)))) fun t_762 => (andThen (Mn.bnd (Mn.bnd (Mn.pur way_757) fun x_777 => Mn.bnd (Mn.pur (1 : Int)) fun y_778 => Mn.pur (decide (x_777 = y_778))) fun b_779 => cnd b_779 (Mn.bnd (Mn.bnd (Mn.bnd (Mn.bnd (Mn.pur word_671) fun x_790 => Mn.bnd (Mn.bnd (Mn.pur p_692.1) fun x_788 => Mn.bnd (Mn.bnd (Mn.pur p_692.2) fun x_786 => Mn.bnd (Mn.bnd (Mn.pur t_714.2) fun x_784 => Mn.bnd (Mn.bnd (Mn.pur bend_738) fun x_782 => Mn.bnd (Mn.pur (1 : Int)) fun y_783 => Mn.pur (x_782, y_783)) fun y_785 => Mn.pur (x_784, y_785)) fun y_787 => Mn.pur (x_786, y_787)) fun y_789 => Mn.pur (x_788, y_789)) fun y_791 => Mn.pur (x_790, y_791)) fun t_792 => Mn.pur (⟨t_792.1, t_792.2.1, t_792.2.2.1, t_792.2.2.2.1, t_792.2.2.2.2.1, t_792.2.2.2.2.2⟩ : (T6 Str Str Str (Tl Int) Int Int))) fun x_802 => Mn.bnd (Mn.bnd (Mn.pur t_714.1) fun x_800 => Mn.bnd (Mn.bnd (Mn.bnd (Mn.pur ("bend" : Str)) fun x_797 => Mn.bnd (Mn.bnd (Mn.bnd (Mn.pur bend_738) fun u_794 => gd (Nat.log2 (Int.natAbs u_794) < 1920) (Mn.pur (strI u_794))) fun x_795 => Mn.bnd (Mn.pur ([] : List Str)) fun y_796 => Mn.pur (x_795 :: y_796)) fun y_798 => Mn.pur (x_797 :: y_798)) fun l_799 => gd (List.length l_799 ≤ 1000) (Mn.pur l_799)) fun y_801 => gd (List.length x_800 + List.length y_801 ≤ sizeLine) (Mn.pur (x_800 ++ y_801))) fun y_803 => Mn.pur (x_802, y_803)) fun r_781 => Mn.pur (.rt r_781)) (Mn.pur (.nx ())) : Sm (Fl (Unit) Empty ((T6 Str Str Str (Tl Int) Int Int) × (List Str)))) fun t_780 => (Mn.bnd (Mn.bnd (Mn.bnd (Mn.bnd (Mn.pur word_671) fun x_813 => Mn.bnd (Mn.bnd (Mn.pur p_692.1) fun x_811 => Mn.bnd (Mn.bnd (Mn.pur p_692.2) fun x_809 => Mn.bnd (Mn.bnd (Mn.pur t_714.2) fun x_807 => Mn.bnd (Mn.bnd (Mn.pur bend_738) fun x_805 => Mn.bnd (Mn.pur weight_753) fun y_806 => Mn.pur (x_805, y_806)) fun y_808 => Mn.pur (x_807, y_808)) fun y_810 => Mn.pur (x_809, y_810)) fun y_812 => Mn.pur (x_811, y_812)) fun y_814 => Mn.pur (x_813, y_814)) fun t_815 => Mn.pur (⟨t_815.1, t_815.2.1, t_815.2.2.1, t_815.2.2.2.1, t_815.2.2.2.2.1, t_815.2.2.2.2.2⟩ : (T6 Str Str Str (Tl Int) Int Int))) fun x_831 => Mn.bnd (Mn.bnd (Mn.pur t_714.1) fun x_829 => Mn.bnd (Mn.bnd (Mn.bnd (Mn.pur ("bend" : Str)) fun x_826 => Mn.bnd (Mn.bnd (Mn.bnd (Mn.pur bend_738) fun u_818 => gd (Nat.log2 (Int.natAbs u_818) < 1920) (Mn.pur (strI u_818))) fun x_824 => Mn.bnd (Mn.bnd (Mn.pur ("weight" : Str)) fun x_822 => Mn.bnd (Mn.bnd (Mn.bnd (Mn.pur weight_753) fun u_819 => gd (Nat.log2 (Int.natAbs u_819) < 1920) (Mn.pur (strI u_819))) fun x_820 => Mn.bnd (Mn.pur ([] : List Str)) fun y_821 => Mn.pur (x_820 :: y_821)) fun y_823 => Mn.pur (x_822 :: y_823)) fun y_825 => Mn.pur (x_824 :: y_825)) fun y_827 => Mn.pur (x_826 :: y_827)) fun l_828 => gd (List.length l_828 ≤ 1000) (Mn.pur l_828)) fun y_830 => gd (List.length x_829 + List.length y_830 ≤ sizeLine) (Mn.pur (x_829 ++ y_830))) fun y_832 => Mn.pur (x_831, y_832)) fun r_804 => Mn.pur (.rt r_804))))))))))))
def m__law_tie (cl : List Int) (nm : Option (List Str)) (p0 : (List Str)) : Sm ((T6 Str Str Str (Tl Int) Int Int) × (List Str)) := finS (mb__law_tie cl nm p0)
def mb__law_song (cl : List Int) (nm : List Str) (p0 : Int) : Sm (Fl Empty Empty ((T3 (Tl (T4 Str Str Int Int)) (Tl (T6 Str Str Str (Tl Int) Int Int)) (Option (Str × Str))) × (List (List Str)))) := (Mn.bnd (Mn.pur nm) fun some_833 => (Mn.bnd (Mn.bnd (Mn.pur ([] : List (T4 Str Str Int Int))) fun l_835 => gd (List.length l_835 ≤ 1000) (Mn.pur l_835)) fun notes_834 => (Mn.bnd (Mn.bnd (Mn.pur ([] : List (T6 Str Str Str (Tl Int) Int Int))) fun l_837 => gd (List.length l_837 ≤ 1000) (Mn.pur l_837)) fun ties_836 => (Mn.bnd (Mn.bnd (Mn.pur ([] : List (Option (Str × Str)))) fun l_839 => gd (List.length l_839 ≤ 1000) (Mn.pur l_839)) fun homes_838 => (Mn.bnd (Mn.bnd (Mn.pur ([] : List (List Str))) fun l_841 => gd (List.length l_841 ≤ 1000) (Mn.pur l_841)) fun rows_840 => (andThen (Mn.bnd (Mn.bnd (Mn.bnd (Mn.pur p0) fun p_842 => m__law_next cl (some nm) p_842) fun n_843 => gd (-(2 ^ 62) ≤ n_843 ∧ n_843 < 2 ^ 62) (Mn.pur (upTo 0 (Int.toNat n_843) 1))) fun w_956 => forL (fun (t_844 : (List (T4 Str Str Int Int)) × (List (T6 Str Str Str (Tl Int) Int Int)) × (List (Option (Str × Str))) × (List (List Str))) (a_845 : Int) => ((Mn.bnd (Mn.bnd (Mn.pur (7 : Int)) fun p_847 => m__law_next cl (some nm) p_847) fun way_846 => (andThen (Mn.bnd (Mn.bnd (Mn.pur way_846) fun x_848 => Mn.bnd (Mn.pur (3 : Int)) fun y_849 => Mn.pur (decide (x_848 < y_849))) fun b_850 => cnd b_850 (Mn.bnd (Mn.bnd (Mn.bnd (Mn.bnd (Mn.pur some_833) fun x_854 => Mn.bnd (Mn.bnd (Mn.pur (24 : Int)) fun p_853 => m__law_next cl (some nm) p_853) fun y_855 => lift (atI x_854 y_855)) fun x_862 => Mn.bnd (Mn.bnd (Mn.bnd (Mn.pur some_833) fun x_857 => Mn.bnd (Mn.bnd (Mn.pur (24 : Int)) fun p_856 => m__law_next cl (some nm) p_856) fun y_858 => lift (atI x_857 y_858)) fun x_860 => Mn.bnd (Mn.bnd (Mn.pur (10000 : Int)) fun p_859 => m__law_next cl (some nm) p_859) fun y_861 => Mn.pur (x_860, y_861)) fun y_863 => Mn.pur (x_862, y_863)) fun t_864 => Mn.pur (⟨t_864.1, t_864.2.1, t_864.2.2⟩ : (T3 Str Str Int))) fun note_852 => (Mn.bnd (Mn.bnd (Mn.pur note_852) fun x_879 => Mn.bnd (Mn.bnd (Mn.bnd (Mn.bnd (Mn.bnd (Mn.bnd (Mn.pur (10000 : Int)) fun p_867 => m__law_next cl (some nm) p_867) fun x_872 => Mn.bnd (Mn.bnd (Mn.pur (9999 : Int)) fun x_870 => Mn.bnd (Mn.bnd (Mn.pur (0 : Int)) fun x_868 => Mn.bnd (Mn.pur ([] : List Int)) fun y_869 => Mn.pur (x_868 :: y_869)) fun y_871 => Mn.pur (x_870 :: y_871)) fun y_873 => Mn.pur (x_872 :: y_873)) fun l_874 => gd (List.length l_874 ≤ 1000) (Mn.pur l_874)) fun x_876 => Mn.bnd (Mn.bnd (Mn.pur (3 : Int)) fun p_875 => m__law_next cl (some nm) p_875) fun y_877 => lift (atI x_876 y_877)) fun t_878 => Mn.pur (⟨t_878⟩ : (T1 Int))) fun y_880 => Mn.pur (⟨x_879.a, x_879.b, x_879.c, y_880.a⟩ : (T4 Str Str Int Int))) fun note_865 => (Mn.bnd (Mn.pur note_865) fun e_881 => gd (List.length t_844.1 < 100000) (Mn.bnd (Mn.pur (t_844.1 ++ [e_881])) fun zs_882 => (Mn.bnd (Mn.bnd (Mn.bnd (Mn.pur ("note" : Str)) fun x_898 => Mn.bnd (Mn.bnd (Mn.bnd (Mn.pur note_865) fun x_884 => Mn.pur x_884.a) fun x_896 => Mn.bnd (Mn.bnd (Mn.bnd (Mn.pur note_865) fun x_885 => Mn.pur x_885.b) fun x_894 => Mn.bnd (Mn.bnd (Mn.bnd (Mn.bnd (Mn.pur note_865) fun x_886 => Mn.pur x_886.c) fun u_887 => gd (Nat.log2 (Int.natAbs u_887) < 1920) (Mn.pur (strI u_887))) fun x_892 => Mn.bnd (Mn.bnd (Mn.bnd (Mn.bnd (Mn.pur note_865) fun x_888 => Mn.pur x_888.d) fun u_889 => gd (Nat.log2 (Int.natAbs u_889) < 1920) (Mn.pur (strI u_889))) fun x_890 => Mn.bnd (Mn.pur ([] : List Str)) fun y_891 => Mn.pur (x_890 :: y_891)) fun y_893 => Mn.pur (x_892 :: y_893)) fun y_895 => Mn.pur (x_894 :: y_895)) fun y_897 => Mn.pur (x_896 :: y_897)) fun y_899 => Mn.pur (x_898 :: y_899)) fun l_900 => gd (List.length l_900 ≤ 1000) (Mn.pur l_900)) fun e_883 => gd (List.length t_844.2.2.2 < 100000) (Mn.bnd (Mn.pur (t_844.2.2.2 ++ [e_883])) fun zs_901 => (Mn.pur (.nx (zs_882, t_844.2.1, t_844.2.2.1, zs_901))))))))) (andThen (Mn.bnd (Mn.bnd (Mn.pur way_846) fun x_902 => Mn.bnd (Mn.pur (6 : Int)) fun y_903 => Mn.pur (decide (x_902 < y_903))) fun b_904 => cnd b_904 (Mn.bnd (Mn.bnd (Mn.pur some_833) fun p_906 => m__law_tie cl (some nm) p_906) fun p_907 => (Mn.bnd (Mn.pur p_907.1) fun e_908 => gd (List.length t_844.2.1 < 100000) (Mn.bnd (Mn.pur (t_844.2.1 ++ [e_908])) fun zs_909 => (Mn.bnd (Mn.pur p_907.2) fun e_910 => gd (List.length t_844.2.2.2 < 100000) (Mn.bnd (Mn.pur (t_844.2.2.2 ++ [e_910])) fun zs_911 => (Mn.pur (.nx (zs_909, t_844.2.2.1, zs_911)))))))) (Mn.bnd (Mn.bnd (Mn.bnd (Mn.pur some_833) fun x_914 => Mn.bnd (Mn.bnd (Mn.pur (24 : Int)) fun p_913 => m__law_next cl (some nm) p_913) fun y_915 => lift (atI x_914 y_915)) fun x_919 => Mn.bnd (Mn.bnd (Mn.pur some_833) fun x_917 => Mn.bnd (Mn.bnd (Mn.pur (24 : Int)) fun p_916 => m__law_next cl (some nm) p_916) fun y_918 => lift (atI x_917 y_918)) fun y_920 => Mn.pur (x_919, y_920)) fun home_912 => (Mn.bnd (Mn.bnd (Mn.pur home_912) fun k_922 => Mn.pur (some k_922 : (Option (Str × Str)))) fun e_921 => gd (List.length t_844.2.2.1 < 100000) (Mn.bnd (Mn.pur (t_844.2.2.1 ++ [e_921])) fun zs_923 => (Mn.bnd (Mn.bnd (Mn.bnd (Mn.pur ("home" : Str)) fun x_931 => Mn.bnd (Mn.bnd (Mn.bnd (Mn.pur home_912) fun x_925 => Mn.pur x_925.1) fun x_929 => Mn.bnd (Mn.bnd (Mn.bnd (Mn.pur home_912) fun x_926 => Mn.pur x_926.2) fun x_927 => Mn.bnd (Mn.pur ([] : List Str)) fun y_928 => Mn.pur (x_927 :: y_928)) fun y_930 => Mn.pur (x_929 :: y_930)) fun y_932 => Mn.pur (x_931 :: y_932)) fun l_933 => gd (List.length l_933 ≤ 1000) (Mn.pur l_933)) fun e_924 => gd (List.length t_844.2.2.2 < 100000) (Mn.bnd (Mn.pur (t_844.2.2.2 ++ [e_924])) fun zs_934 => (Mn.pur (.nx (t_844.2.1, zs_923, zs_934)))))))) : Sm (Fl ((List (T6 Str Str Str (Tl Int) Int Int)) × (List (Option (Str × Str))) × (List (List Str))) ((List (T4 Str Str Int Int)) × (List (T6 Str Str Str (Tl Int) Int Int)) × (List (Option (Str × Str))) × (List (List Str))) ((T3 (Tl (T4 Str Str Int Int)) (Tl (T6 Str Str Str (Tl Int) Int Int)) (Option (Str × Str))) × (List (List Str))))) fun t_905 => (Mn.pur (.nx (t_844.1, t_905.1, t_905.2.1, t_905.2.2)))) : Sm (Fl ((List (T4 Str Str Int Int)) × (List (T6 Str Str Str (Tl Int) Int Int)) × (List (Option (Str × Str))) × (List (List Str))) ((List (T4 Str Str Int Int)) × (List (T6 Str Str Str (Tl Int) Int Int)) × (List (Option (Str × Str))) × (List (List Str))) ((T3 (Tl (T4 Str Str Int Int)) (Tl (T6 Str Str Str (Tl Int) Int Int)) (Option (Str × Str))) × (List (List Str))))) fun t_851 => (Mn.pur (.nx (t_851.1, t_851.2.1, t_851.2.2.1, t_851.2.2.2))))) : Sm (Fl ((List (T4 Str Str Int Int)) × (List (T6 Str Str Str (Tl Int) Int Int)) × (List (Option (Str × Str))) × (List (List Str))) ((List (T4 Str Str Int Int)) × (List (T6 Str Str Str (Tl Int) Int Int)) × (List (Option (Str × Str))) × (List (List Str))) ((T3 (Tl (T4 Str Str Int Int)) (Tl (T6 Str Str Str (Tl Int) Int Int)) (Option (Str × Str))) × (List (List Str)))))) w_956 (notes_834, ties_836, homes_838, rows_840) : Sm (Fl ((List (T4 Str Str Int Int)) × (List (T6 Str Str Str (Tl Int) Int Int)) × (List (Option (Str × Str))) × (List (List Str))) Empty ((T3 (Tl (T4 Str Str Int Int)) (Tl (T6 Str Str Str (Tl Int) Int Int)) (Option (Str × Str))) × (List (List Str))))) fun t_844 => (Mn.bnd (Mn.bnd (Mn.bnd (Mn.bnd (Mn.bnd (Mn.pur t_844.1) fun u_936 => Mn.pur (⟨u_936⟩ : (Tl (T4 Str Str Int Int)))) fun x_951 => Mn.bnd (Mn.bnd (Mn.bnd (Mn.pur t_844.2.1) fun u_937 => Mn.pur (⟨u_937⟩ : (Tl (T6 Str Str Str (Tl Int) Int Int)))) fun x_949 => Mn.bnd (Mn.bnd (Mn.bnd (Mn.pur t_844.2.2.1) fun x_945 => Mn.bnd (Mn.bnd (Mn.bnd (Mn.bnd (Mn.pur ()) fun k_941 => Mn.pur (none : (Option (Str × Str)))) fun x_942 => Mn.bnd (Mn.pur ([] : List (Option (Str × Str)))) fun y_943 => Mn.pur (x_942 :: y_943)) fun l_944 => gd (List.length l_944 ≤ 1000) (Mn.pur l_944)) fun y_946 => gd (List.length x_945 + List.length y_946 ≤ sizeLine) (Mn.pur (x_945 ++ y_946))) fun x_947 => Mn.bnd (Mn.pur (0 : Int)) fun y_948 => lift (atI x_947 y_948)) fun y_950 => Mn.pur (x_949, y_950)) fun y_952 => Mn.pur (x_951, y_952)) fun t_953 => Mn.pur (⟨t_953.1, t_953.2.1, t_953.2.2⟩ : (T3 (Tl (T4 Str Str Int Int)) (Tl (T6 Str Str Str (Tl Int) Int Int)) (Option (Str × Str))))) fun x_954 => Mn.bnd (Mn.pur t_844.2.2.2) fun y_955 => Mn.pur (x_954, y_955)) fun r_935 => Mn.pur (.rt r_935))))))))
def m__law_song (cl : List Int) (nn : Option (List Str)) (p0 : Int) : Sm ((T3 (Tl (T4 Str Str Int Int)) (Tl (T6 Str Str Str (Tl Int) Int Int)) (Option (Str × Str))) × (List (List Str))) := match nn with | some nm => finS (mb__law_song cl nm p0) | none => fun _ => none
def mb__law_sort (p0 : Str) : Option (Fl Empty Empty Int) := (Mn.bnd (Mn.bnd (Mn.bnd (Mn.bnd (Mn.pur p0) fun x_958 => Mn.bnd (Mn.pur ("0123456789" : Str)) fun y_959 => Mn.pur (inStr x_958 y_959)) fun u_960 => Mn.pur (if u_960 then (1 : Int) else 0)) fun x_966 => Mn.bnd (Mn.bnd (Mn.pur (2 : Int)) fun x_964 => Mn.bnd (Mn.bnd (Mn.bnd (Mn.pur p0) fun x_961 => Mn.bnd (Mn.pur ("/" : Str)) fun y_962 => Mn.pur (decide (x_961 = y_962))) fun u_963 => Mn.pur (if u_963 then (1 : Int) else 0)) fun y_965 => gd (ON.MulOk x_964 y_965) (Mn.pur (x_964 * y_965))) fun y_967 => Mn.pur (x_966 + y_967)) fun r_957 => Mn.pur (.rt r_957))
def m__law_sort (p0 : Str) : Option Int := fin (mb__law_sort p0)
def mb__law_row_text (cl : List Int) (nm : Option (List Str)) (p0 : (List Str)) : Sm (Fl Empty Empty Str) := (Mn.bnd (Mn.bnd (Mn.pur (" " : Str)) fun x_979 => Mn.bnd (Mn.bnd (Mn.bnd (Mn.bnd (Mn.pur (0 : Int)) fun x_973 => Mn.bnd (Mn.bnd (Mn.pur (0 : Int)) fun x_971 => Mn.bnd (Mn.bnd (Mn.pur (3 : Int)) fun x_969 => Mn.bnd (Mn.pur ([] : List Int)) fun y_970 => Mn.pur (x_969 :: y_970)) fun y_972 => Mn.pur (x_971 :: y_972)) fun y_974 => Mn.pur (x_973 :: y_974)) fun l_975 => gd (List.length l_975 ≤ 1000) (Mn.pur l_975)) fun x_977 => Mn.bnd (Mn.bnd (Mn.pur (3 : Int)) fun p_976 => m__law_next cl nm p_976) fun y_978 => lift (atI x_977 y_978)) fun y_980 => gd (y_980 < 2 ^ 62 ∧ -(2 ^ 62) < y_980 ∧ x_979.length * Int.toNat y_980 ≤ 1000000) (Mn.pur (repS x_979 y_980))) fun found_968 => (andThen (Mn.bnd (Mn.bnd (Mn.pur p0) fun z_981 => Mn.pur (List.zip (upTo 0 (List.length z_981) 1) z_981)) fun w_1041 => forL (fun (t_982 : Str) (a_983 : (Int × Str)) => ((andThen (Mn.bnd (Mn.bnd (Mn.pur a_983.1) fun x_984 => Mn.bnd (Mn.pur (0 : Int)) fun y_985 => Mn.pur (decide (y_985 < x_984))) fun b_986 => cnd b_986 (Mn.bnd (Mn.bnd (Mn.bnd (Mn.bnd (Mn.bnd (Mn.bnd (Mn.bnd (Mn.pur p0) fun x_992 => Mn.bnd (Mn.bnd (Mn.pur a_983.1) fun x_990 => Mn.bnd (Mn.pur (1 : Int)) fun y_991 => Mn.pur (x_990 - y_991)) fun y_993 => lift (atI x_992 y_993)) fun x_995 => Mn.bnd (Mn.bnd (Mn.pur (1 : Int)) fun x_994 => Mn.pur (-x_994)) fun y_996 => gd (x_995.length ≤ sizeLine) (Mn.bnd (lift (atI (Array.toList (Str.cps x_995)) y_996)) fun c_997 => Mn.pur (sgn c_997))) fun p_989 => lift (m__law_sort p_989)) fun x_1002 => Mn.bnd (Mn.bnd (Mn.bnd (Mn.pur a_983.2) fun x_999 => Mn.bnd (Mn.pur (0 : Int)) fun y_1000 => gd (x_999.length ≤ sizeLine) (Mn.bnd (lift (atI (Array.toList (Str.cps x_999)) y_1000)) fun c_1001 => Mn.pur (sgn c_1001))) fun p_998 => lift (m__law_sort p_998)) fun y_1003 => Mn.pur (decide (x_1002 = y_1003))) fun b_1006 => cnd b_1006 (Mn.bnd (Mn.pur a_983.2) fun x_1004 => Mn.bnd (Mn.pur ("/" : Str)) fun y_1005 => Mn.pur (!decide (x_1004 = y_1005))) (Mn.pur false)) fun u_1007 => Mn.pur (if u_1007 then (1 : Int) else 0)) fun least_988 => (Mn.bnd (Mn.bnd (Mn.pur t_982) fun x_1021 => Mn.bnd (Mn.bnd (Mn.pur (" " : Str)) fun x_1019 => Mn.bnd (Mn.bnd (Mn.bnd (Mn.bnd (Mn.pur (1 : Int)) fun x_1013 => Mn.bnd (Mn.bnd (Mn.pur least_988) fun x_1011 => Mn.bnd (Mn.bnd (Mn.pur (2 : Int)) fun x_1009 => Mn.bnd (Mn.pur ([] : List Int)) fun y_1010 => Mn.pur (x_1009 :: y_1010)) fun y_1012 => Mn.pur (x_1011 :: y_1012)) fun y_1014 => Mn.pur (x_1013 :: y_1014)) fun l_1015 => gd (List.length l_1015 ≤ 1000) (Mn.pur l_1015)) fun x_1017 => Mn.bnd (Mn.bnd (Mn.pur (3 : Int)) fun p_1016 => m__law_next cl nm p_1016) fun y_1018 => lift (atI x_1017 y_1018)) fun y_1020 => gd (y_1020 < 2 ^ 62 ∧ -(2 ^ 62) < y_1020 ∧ x_1019.length * Int.toNat y_1020 ≤ 1000000) (Mn.pur (repS x_1019 y_1020))) fun y_1022 => gd (x_1021.length + y_1022.length ≤ sizeLine) (Mn.pur (x_1021 ++ y_1022))) fun found_1008 => (Mn.pur (.nx found_1008)))) (Mn.pur (.nx t_982)) : Sm (Fl (Str) (Str) Str)) fun t_987 => (Mn.bnd (Mn.bnd (Mn.pur t_987) fun x_1024 => Mn.bnd (Mn.pur a_983.2) fun y_1025 => gd (x_1024.length + y_1025.length ≤ sizeLine) (Mn.pur (x_1024 ++ y_1025))) fun found_1023 => (Mn.pur (.nx found_1023)))) : Sm (Fl (Str) (Str) Str))) w_1041 found_968 : Sm (Fl (Str) Empty Str)) fun t_982 => (Mn.bnd (Mn.bnd (Mn.pur t_982) fun x_1039 => Mn.bnd (Mn.bnd (Mn.pur (" " : Str)) fun x_1037 => Mn.bnd (Mn.bnd (Mn.bnd (Mn.bnd (Mn.pur (0 : Int)) fun x_1031 => Mn.bnd (Mn.bnd (Mn.pur (0 : Int)) fun x_1029 => Mn.bnd (Mn.bnd (Mn.pur (1 : Int)) fun x_1027 => Mn.bnd (Mn.pur ([] : List Int)) fun y_1028 => Mn.pur (x_1027 :: y_1028)) fun y_1030 => Mn.pur (x_1029 :: y_1030)) fun y_1032 => Mn.pur (x_1031 :: y_1032)) fun l_1033 => gd (List.length l_1033 ≤ 1000) (Mn.pur l_1033)) fun x_1035 => Mn.bnd (Mn.bnd (Mn.pur (3 : Int)) fun p_1034 => m__law_next cl nm p_1034) fun y_1036 => lift (atI x_1035 y_1036)) fun y_1038 => gd (y_1038 < 2 ^ 62 ∧ -(2 ^ 62) < y_1038 ∧ x_1037.length * Int.toNat y_1038 ≤ 1000000) (Mn.pur (repS x_1037 y_1038))) fun y_1040 => gd (x_1039.length + y_1040.length ≤ sizeLine) (Mn.pur (x_1039 ++ y_1040))) fun r_1026 => Mn.pur (.rt r_1026))))
def m__law_row_text (cl : List Int) (nm : Option (List Str)) (p0 : (List Str)) : Sm Str := finS (mb__law_row_text cl nm p0)
def mb__law_text (cl : List Int) (nm : Option (List Str)) (p0 : (List (List Str))) : Sm (Fl Empty Empty (Str × (List Int))) := (Mn.bnd (Mn.bnd (Mn.pur ([] : List Str)) fun l_1043 => gd (List.length l_1043 ≤ 1000) (Mn.pur l_1043)) fun lines_1042 => (Mn.bnd (Mn.bnd (Mn.pur ([] : List Int)) fun l_1045 => gd (List.length l_1045 ≤ 1000) (Mn.pur l_1045)) fun places_1044 => (andThen (Mn.bnd (Mn.pur p0) fun w_1087 => forL (fun (t_1047 : (List Str) × (List Int)) (a_1048 : (List Str)) => ((Mn.bnd (Mn.bnd (Mn.pur t_1047.1) fun x_1066 => Mn.bnd (Mn.bnd (Mn.bnd (Mn.bnd (Mn.bnd (Mn.pur ("" : Str)) fun x_1052 => Mn.bnd (Mn.bnd (Mn.pur ("  " : Str)) fun x_1050 => Mn.bnd (Mn.pur ([] : List Str)) fun y_1051 => Mn.pur (x_1050 :: y_1051)) fun y_1053 => Mn.pur (x_1052 :: y_1053)) fun l_1054 => gd (List.length l_1054 ≤ 1000) (Mn.pur l_1054)) fun x_1057 => Mn.bnd (Mn.pur (none : Option Int)) fun l_1058 => Mn.bnd (Mn.bnd (Mn.bnd (Mn.pur (3 : Int)) fun p_1055 => m__law_next cl nm p_1055) fun i_1056 => Mn.pur (some i_1056)) fun h_1059 => Mn.pur (cutL x_1057 l_1058 h_1059)) fun x_1064 => Mn.bnd (Mn.bnd (Mn.bnd (Mn.bnd (Mn.pur (4 : Int)) fun p_1060 => m__law_next cl nm p_1060) fun x_1061 => Mn.bnd (Mn.pur (1 : Int)) fun y_1062 => Mn.pur (decide (x_1061 = y_1062))) fun u_1063 => Mn.pur (if u_1063 then (1 : Int) else 0)) fun y_1065 => gd (-(2 ^ 63) ≤ y_1065 ∧ y_1065 < 2 ^ 63 ∧ List.length x_1064 * Int.toNat y_1065 ≤ 100000) (Mn.pur (repL x_1064 y_1065))) fun y_1067 => gd (List.length x_1066 + List.length y_1067 ≤ sizeLine) (Mn.pur (x_1066 ++ y_1067))) fun lines_1049 => (Mn.bnd (Mn.bnd (Mn.pur lines_1049) fun u_1069 => Mn.pur ((List.length u_1069 : Nat) : Int)) fun e_1068 => gd (List.length t_1047.2 < 100000) (Mn.bnd (Mn.pur (t_1047.2 ++ [e_1068])) fun zs_1070 => (Mn.bnd (Mn.bnd (Mn.pur a_1048) fun p_1072 => m__law_row_text cl nm p_1072) fun e_1071 => gd (List.length lines_1049 < 100000) (Mn.bnd (Mn.pur (lines_1049 ++ [e_1071])) fun zs_1073 => (Mn.pur (.nx (zs_1073, zs_1070)))))))) : Sm (Fl ((List Str) × (List Int)) ((List Str) × (List Int)) (Str × (List Int))))) w_1087 (lines_1042, places_1044) : Sm (Fl ((List Str) × (List Int)) Empty (Str × (List Int)))) fun t_1047 => (Mn.bnd (Mn.bnd (Mn.pur t_1047.1) fun x_1081 => Mn.bnd (Mn.bnd (Mn.bnd (Mn.bnd (Mn.pur ("" : Str)) fun x_1075 => Mn.bnd (Mn.pur ([] : List Str)) fun y_1076 => Mn.pur (x_1075 :: y_1076)) fun l_1077 => gd (List.length l_1077 ≤ 1000) (Mn.pur l_1077)) fun x_1079 => Mn.bnd (Mn.bnd (Mn.pur (2 : Int)) fun p_1078 => m__law_next cl nm p_1078) fun y_1080 => gd (-(2 ^ 63) ≤ y_1080 ∧ y_1080 < 2 ^ 63 ∧ List.length x_1079 * Int.toNat y_1080 ≤ 100000) (Mn.pur (repL x_1079 y_1080))) fun y_1082 => gd (List.length x_1081 + List.length y_1082 ≤ sizeLine) (Mn.pur (x_1081 ++ y_1082))) fun lines_1074 => (Mn.bnd (Mn.bnd (Mn.bnd (Mn.pur lines_1074) fun j_1084 => gd ((List.map Str.length j_1084).sum + List.length j_1084 * Str.length ("\n" : Str) ≤ 16777216) (Mn.pur (Txt.join ("\n" : Str) j_1084))) fun x_1085 => Mn.bnd (Mn.pur t_1047.2) fun y_1086 => Mn.pur (x_1085, y_1086)) fun r_1083 => Mn.pur (.rt r_1083))))))
def m__law_text (cl : List Int) (nm : Option (List Str)) (p0 : (List (List Str))) : Sm (Str × (List Int)) := finS (mb__law_text cl nm p0)
def mb__law_shown (p0 : (Tl Int)) : Option (Fl Empty Empty Str) := (Mn.bnd (Mn.bnd (Mn.bnd (Mn.pur (1 : Int)) fun x_1091 => Mn.bnd (Mn.bnd (Mn.pur (1 : Int)) fun x_1089 => Mn.bnd (Mn.pur ([] : List Int)) fun y_1090 => Mn.pur (x_1089 :: y_1090)) fun y_1092 => Mn.pur (x_1091 :: y_1092)) fun l_1093 => gd (List.length l_1093 ≤ 1000) (Mn.pur l_1093)) fun found_1088 => (andThen (Mn.bnd (Mn.bnd (Mn.bnd (Mn.pur p0) fun x_1102 => Mn.bnd (Mn.bnd (Mn.bnd (Mn.bnd (Mn.pur (2 : Int)) fun x_1098 => Mn.bnd (Mn.bnd (Mn.pur (3 : Int)) fun x_1096 => Mn.bnd (Mn.bnd (Mn.pur (5 : Int)) fun x_1094 => Mn.bnd (Mn.pur (7 : Int)) fun y_1095 => Mn.pur (x_1094, y_1095)) fun y_1097 => Mn.pur (x_1096, y_1097)) fun y_1099 => Mn.pur (x_1098, y_1099)) fun t_1100 => Mn.pur (⟨t_1100.1, t_1100.2.1, t_1100.2.2.1, t_1100.2.2.2⟩ : (T4 Int Int Int Int))) fun k_1101 => Mn.pur (⟨[k_1101.a, k_1101.b, k_1101.c, k_1101.d]⟩ : (Tl Int))) fun y_1103 => Mn.pur (x_1102, y_1103)) fun z_1104 => Mn.pur (List.zip (Tl.l z_1104.1) (Tl.l z_1104.2))) fun w_1133 => forL (fun (t_1105 : (List Int)) (a_1106 : (Int × Int)) => ((andThen (Mn.bnd (Mn.bnd (Mn.bnd (Mn.pur a_1106.1) fun u_1107 => Mn.pur (absI u_1107)) fun n_1108 => gd (-(2 ^ 62) ≤ n_1108 ∧ n_1108 < 2 ^ 62) (Mn.pur (upTo 0 (Int.toNat n_1108) 1))) fun w_1123 => forL (fun (t_1109 : (List Int)) (a_1110 : Int) => ((Mn.bnd (Mn.bnd (Mn.bnd (Mn.bnd (Mn.bnd (Mn.pur a_1106.1) fun x_1111 => Mn.bnd (Mn.pur (0 : Int)) fun y_1112 => Mn.pur (decide (x_1111 < y_1112))) fun u_1113 => Mn.pur (if u_1113 then (1 : Int) else 0)) fun y_1114 => lift (atI t_1109 y_1114)) fun x_1115 => Mn.bnd (Mn.pur a_1106.2) fun y_1116 => gd (ON.MulOk x_1115 y_1116) (Mn.pur (x_1115 * y_1116))) fun x_1120 => Mn.bnd (Mn.bnd (Mn.bnd (Mn.pur a_1106.1) fun x_1117 => Mn.bnd (Mn.pur (0 : Int)) fun y_1118 => Mn.pur (decide (x_1117 < y_1118))) fun u_1119 => Mn.pur (if u_1119 then (1 : Int) else 0)) fun y_1121 => Mn.bnd (lift (setI t_1109 y_1121 x_1120)) fun found_1122 => (Mn.pur (.nx found_1122))) : Option (Fl ((List Int)) ((List Int)) Str))) w_1123 t_1105 : Option (Fl ((List Int)) ((List Int)) Str)) fun t_1109 => (Mn.pur (.nx t_1109))) : Option (Fl ((List Int)) ((List Int)) Str))) w_1133 found_1088 : Option (Fl ((List Int)) Empty Str)) fun t_1105 => (Mn.bnd (Mn.bnd (Mn.bnd (Mn.bnd (Mn.bnd (Mn.pur (0 : Int)) fun y_1125 => lift (atI t_1105 y_1125)) fun u_1126 => gd (Nat.log2 (Int.natAbs u_1126) < 1920) (Mn.pur (strI u_1126))) fun x_1127 => Mn.bnd (Mn.pur (" / " : Str)) fun y_1128 => gd (x_1127.length + y_1128.length ≤ sizeLine) (Mn.pur (x_1127 ++ y_1128))) fun x_1131 => Mn.bnd (Mn.bnd (Mn.bnd (Mn.pur (1 : Int)) fun y_1129 => lift (atI t_1105 y_1129)) fun u_1130 => gd (Nat.log2 (Int.natAbs u_1130) < 1920) (Mn.pur (strI u_1130))) fun y_1132 => gd (x_1131.length + y_1132.length ≤ sizeLine) (Mn.pur (x_1131 ++ y_1132))) fun r_1124 => Mn.pur (.rt r_1124))))
def m__law_shown (p0 : (Tl Int)) : Option Str := fin (mb__law_shown p0)
def mb__law_written (p0 : (T3 (Tl (T4 Str Str Int Int)) (Tl (T6 Str Str Str (Tl Int) Int Int)) (Option (Str × Str)))) : Option (Fl Empty Empty Str) := (Mn.bnd (Mn.bnd (Mn.bnd (Mn.bnd (Mn.pur p0) fun x_1135 => Mn.pur x_1135.a) fun w_1136 => Mn.pur (Tl.l w_1136)) fun w_1162 => gd (List.length w_1162 ≤ 100000) (compL (fun (a_1137 : (T4 Str Str Int Int)) => (Mn.pur true)) (fun (a_1137 : (T4 Str Str Int Int)) => (Mn.bnd (Mn.bnd (Mn.bnd (Mn.pur ("note" : Str)) fun x_1158 => Mn.bnd (Mn.bnd (Mn.bnd (Mn.pur a_1137) fun x_1144 => Mn.pur x_1144.a) fun x_1156 => Mn.bnd (Mn.bnd (Mn.bnd (Mn.pur a_1137) fun x_1145 => Mn.pur x_1145.b) fun x_1154 => Mn.bnd (Mn.bnd (Mn.bnd (Mn.bnd (Mn.pur a_1137) fun x_1146 => Mn.pur x_1146.c) fun u_1147 => gd (Nat.log2 (Int.natAbs u_1147) < 1920) (Mn.pur (strI u_1147))) fun x_1152 => Mn.bnd (Mn.bnd (Mn.bnd (Mn.bnd (Mn.pur a_1137) fun x_1148 => Mn.pur x_1148.d) fun u_1149 => gd (Nat.log2 (Int.natAbs u_1149) < 1920) (Mn.pur (strI u_1149))) fun x_1150 => Mn.bnd (Mn.pur ([] : List Str)) fun y_1151 => Mn.pur (x_1150 :: y_1151)) fun y_1153 => Mn.pur (x_1152 :: y_1153)) fun y_1155 => Mn.pur (x_1154 :: y_1155)) fun y_1157 => Mn.pur (x_1156 :: y_1157)) fun y_1159 => Mn.pur (x_1158 :: y_1159)) fun l_1160 => gd (List.length l_1160 ≤ 1000) (Mn.pur l_1160)) fun j_1161 => gd ((List.map Str.length j_1161).sum + List.length j_1161 * Str.length (" " : Str) ≤ 16777216) (Mn.pur (Txt.join (" " : Str) j_1161)))) w_1162)) fun rows_1134 => (andThen (Mn.bnd (Mn.bnd (Mn.bnd (Mn.pur p0) fun x_1163 => Mn.pur x_1163.b) fun w_1164 => Mn.pur (Tl.l w_1164)) fun w_1227 => forL (fun (t_1165 : (List Str)) (a_1166 : (T6 Str Str Str (Tl Int) Int Int)) => ((Mn.bnd (Mn.bnd (Mn.bnd (Mn.bnd (Mn.bnd (Mn.pur a_1166.a) fun x_1168 => Mn.bnd (Mn.pur (" " : Str)) fun y_1169 => gd (x_1168.length + y_1169.length ≤ sizeLine) (Mn.pur (x_1168 ++ y_1169))) fun x_1170 => Mn.bnd (Mn.pur a_1166.b) fun y_1171 => gd (x_1170.length + y_1171.length ≤ sizeLine) (Mn.pur (x_1170 ++ y_1171))) fun x_1172 => Mn.bnd (Mn.pur (" " : Str)) fun y_1173 => gd (x_1172.length + y_1173.length ≤ sizeLine) (Mn.pur (x_1172 ++ y_1173))) fun x_1174 => Mn.bnd (Mn.pur a_1166.c) fun y_1175 => gd (x_1174.length + y_1175.length ≤ sizeLine) (Mn.pur (x_1174 ++ y_1175))) fun row_1167 => (andThen (Mn.bnd (Mn.bnd (Mn.pur a_1166.a) fun x_1176 => Mn.bnd (Mn.pur ("held" : Str)) fun y_1177 => Mn.pur (!decide (x_1176 = y_1177))) fun b_1178 => cnd b_1178 (Mn.bnd (Mn.bnd (Mn.bnd (Mn.pur row_1167) fun x_1181 => Mn.bnd (Mn.pur (" " : Str)) fun y_1182 => gd (x_1181.length + y_1182.length ≤ sizeLine) (Mn.pur (x_1181 ++ y_1182))) fun x_1184 => Mn.bnd (Mn.bnd (Mn.pur a_1166.d) fun p_1183 => lift (m__law_shown p_1183)) fun y_1185 => gd (x_1184.length + y_1185.length ≤ sizeLine) (Mn.pur (x_1184 ++ y_1185))) fun row_1180 => (Mn.pur (.nx row_1180))) (Mn.pur (.nx row_1167)) : Option (Fl (Str) ((List Str)) Str)) fun t_1179 => (andThen (Mn.bnd (Mn.bnd (Mn.bnd (Mn.pur a_1166.e) fun x_1188 => Mn.bnd (Mn.pur a_1166.f) fun y_1189 => Mn.pur (x_1188, y_1189)) fun x_1192 => Mn.bnd (Mn.bnd (Mn.pur (50 : Int)) fun x_1190 => Mn.bnd (Mn.pur (1 : Int)) fun y_1191 => Mn.pur (x_1190, y_1191)) fun y_1193 => gd (Shp (enc x_1192) = true ∧ Shp (enc y_1193) = true) (Mn.pur (!deqv (enc x_1192) (enc y_1193)))) fun b_1194 => cnd b_1194 (Mn.bnd (Mn.bnd (Mn.bnd (Mn.pur t_1179) fun x_1197 => Mn.bnd (Mn.pur (" bend " : Str)) fun y_1198 => gd (x_1197.length + y_1198.length ≤ sizeLine) (Mn.pur (x_1197 ++ y_1198))) fun x_1200 => Mn.bnd (Mn.bnd (Mn.pur a_1166.e) fun u_1199 => gd (Nat.log2 (Int.natAbs u_1199) < 1920) (Mn.pur (strI u_1199))) fun y_1201 => gd (x_1200.length + y_1201.length ≤ sizeLine) (Mn.pur (x_1200 ++ y_1201))) fun row_1196 => (Mn.pur (.nx row_1196))) (Mn.pur (.nx t_1179)) : Option (Fl (Str) ((List Str)) Str)) fun t_1195 => (Mn.bnd (Mn.bnd (Mn.pur t_1195) fun x_1211 => Mn.bnd (Mn.bnd (Mn.bnd (Mn.pur (" weight " : Str)) fun x_1204 => Mn.bnd (Mn.bnd (Mn.pur a_1166.f) fun u_1203 => gd (Nat.log2 (Int.natAbs u_1203) < 1920) (Mn.pur (strI u_1203))) fun y_1205 => gd (x_1204.length + y_1205.length ≤ sizeLine) (Mn.pur (x_1204 ++ y_1205))) fun x_1209 => Mn.bnd (Mn.bnd (Mn.bnd (Mn.pur a_1166.f) fun x_1206 => Mn.bnd (Mn.pur (1 : Int)) fun y_1207 => Mn.pur (!decide (x_1206 = y_1207))) fun u_1208 => Mn.pur (if u_1208 then (1 : Int) else 0)) fun y_1210 => gd (y_1210 < 2 ^ 62 ∧ -(2 ^ 62) < y_1210 ∧ x_1209.length * Int.toNat y_1210 ≤ 1000000) (Mn.pur (repS x_1209 y_1210))) fun y_1212 => gd (x_1211.length + y_1212.length ≤ sizeLine) (Mn.pur (x_1211 ++ y_1212))) fun e_1202 => gd (List.length t_1165 < 100000) (Mn.bnd (Mn.pur (t_1165 ++ [e_1202])) fun zs_1213 => (Mn.pur (.nx zs_1213))))))) : Option (Fl ((List Str)) ((List Str)) Str))) w_1227 rows_1134 : Option (Fl ((List Str)) Empty Str)) fun t_1165 => (andThen (Mn.bnd (Mn.bnd (Mn.bnd (Mn.pur p0) fun x_1214 => Mn.pur x_1214.c) fun x_1215 => Mn.pur x_1215.isSome) fun b_1216 => cnd b_1216 (Mn.bnd (Mn.bnd (Mn.pur ("home " : Str)) fun x_1222 => Mn.bnd (Mn.bnd (Mn.bnd (Mn.bnd (Mn.pur p0) fun x_1219 => Mn.pur x_1219.c) fun k_1221 => lift (id k_1221)) fun j_1220 => gd ((List.map Str.length [j_1220.1, j_1220.2]).sum + List.length [j_1220.1, j_1220.2] * Str.length (" " : Str) ≤ 16777216) (Mn.pur (Txt.join (" " : Str) [j_1220.1, j_1220.2]))) fun y_1223 => gd (x_1222.length + y_1223.length ≤ sizeLine) (Mn.pur (x_1222 ++ y_1223))) fun e_1218 => gd (List.length t_1165 < 100000) (Mn.bnd (Mn.pur (t_1165 ++ [e_1218])) fun zs_1224 => (Mn.pur (.nx zs_1224)))) (Mn.pur (.nx t_1165)) : Option (Fl ((List Str)) Empty Str)) fun t_1217 => (Mn.bnd (Mn.bnd (Mn.pur t_1217) fun j_1226 => gd ((List.map Str.length j_1226).sum + List.length j_1226 * Str.length ("\n" : Str) ≤ 16777216) (Mn.pur (Txt.join ("\n" : Str) j_1226))) fun r_1225 => Mn.pur (.rt r_1225)))))
def m__law_written (p0 : (T3 (Tl (T4 Str Str Int Int)) (Tl (T6 Str Str Str (Tl Int) Int Int)) (Option (Str × Str)))) : Option Str := fin (mb__law_written p0)
def mb__law_step (p0 : (List Int)) : Sm (Fl Empty Empty Bool) := (begun bgF (Cells.cells p0) fun nm_1228 => (Mn.bnd (Mn.bnd (Mn.bnd (Mn.bnd (Mn.bnd (Mn.pur (3 : Int)) fun x_1234 => Mn.bnd (Mn.bnd (Mn.pur (12 : Int)) fun x_1232 => Mn.bnd (Mn.bnd (Mn.pur (61 : Int)) fun x_1230 => Mn.bnd (Mn.pur ([] : List Int)) fun y_1231 => Mn.pur (x_1230 :: y_1231)) fun y_1233 => Mn.pur (x_1232 :: y_1233)) fun y_1235 => Mn.pur (x_1234 :: y_1235)) fun l_1236 => gd (List.length l_1236 ≤ 1000) (Mn.pur l_1236)) fun x_1238 => Mn.bnd (Mn.bnd (Mn.pur (3 : Int)) fun p_1237 => m__law_next (Cells.cells p0) (some nm_1228) p_1237) fun y_1239 => lift (atI x_1238 y_1239)) fun p_1229 => m__law_song (Cells.cells p0) (some nm_1228) p_1229) fun p_1240 => (Mn.bnd (Mn.bnd (Mn.pur p_1240.2) fun p_1241 => m__law_text (Cells.cells p0) (some nm_1228) p_1241) fun p_1242 => (Mn.bnd (Mn.bnd (Mn.pur p_1242.1) fun p_1244 => lift (okO (m_read p_1244))) fun told_1243 => (Mn.bnd (Mn.bnd (Mn.pur told_1243) fun p_1246 => lift (m_written p_1246)) fun found_1245 => (andThen (Mn.bnd (Mn.bnd (Mn.bnd (Mn.pur told_1243) fun x_1247 => Mn.bnd (Mn.pur p_1240.1) fun y_1248 => gd (Shp (enc x_1247) = true ∧ Shp (enc y_1248) = true) (Mn.pur (!deqv (enc x_1247) (enc y_1248)))) fun b_1255 => cnd b_1255 (Mn.pur true) (Mn.bnd (Mn.bnd (Mn.bnd (Mn.pur found_1245) fun i_1249 => Mn.pur (kit "str" (enc i_1249))) fun b_1250 => Mn.pur (!b_1250)) fun b_1254 => cnd b_1254 (Mn.pur true) (Mn.bnd (Mn.pur found_1245) fun x_1252 => Mn.bnd (Mn.bnd (Mn.pur p_1240.1) fun p_1251 => lift (m__law_written p_1251)) fun y_1253 => Mn.pur (!decide (x_1252 = y_1253))))) fun b_1256 => cnd b_1256 (Mn.bnd (Mn.pur false) fun r_1258 => Mn.pur (.rt r_1258)) (Mn.pur (.nx ())) : Sm (Fl (Unit) Empty Bool)) fun t_1257 => (Mn.bnd (Mn.bnd (Mn.pur found_1245) fun p_1260 => lift (okO (m_read p_1260))) fun again_1259 => (andThen (Mn.bnd (Mn.bnd (Mn.bnd (Mn.pur again_1259) fun x_1261 => Mn.bnd (Mn.pur p_1240.1) fun y_1262 => gd (Shp (enc x_1261) = true ∧ Shp (enc y_1262) = true) (Mn.pur (!deqv (enc x_1261) (enc y_1262)))) fun b_1270 => cnd b_1270 (Mn.pur true) (Mn.bnd (Mn.bnd (Mn.bnd (Mn.pur again_1259) fun p_1263 => lift (m_written p_1263)) fun x_1264 => Mn.bnd (Mn.pur found_1245) fun y_1265 => Mn.pur (!decide (x_1264 = y_1265))) fun b_1269 => cnd b_1269 (Mn.pur true) (Mn.bnd (Mn.bnd (Mn.pur p_1242.1) fun p_1266 => lift (okO (m_read p_1266))) fun x_1267 => Mn.bnd (Mn.pur told_1243) fun y_1268 => gd (Shp (enc x_1267) = true ∧ Shp (enc y_1268) = true) (Mn.pur (!deqv (enc x_1267) (enc y_1268)))))) fun b_1271 => cnd b_1271 (Mn.bnd (Mn.pur false) fun r_1273 => Mn.pur (.rt r_1273)) (Mn.pur (.nx ())) : Sm (Fl (Unit) Empty Bool)) fun t_1272 => (Mn.bnd (Mn.bnd (Mn.bnd (Mn.bnd (Mn.pur p_1240.1) fun p_1275 => lift (m_written p_1275)) fun x_1276 => Mn.bnd (Mn.pur found_1245) fun y_1277 => Mn.pur (decide (x_1276 = y_1277))) fun b_1289 => cnd b_1289 (Mn.bnd (Mn.bnd (Mn.bnd (Mn.bnd (Mn.bnd (Mn.pur ([] : List (T4 Str Str Int Int))) fun l_1279 => gd (List.length l_1279 ≤ 1000) (Mn.pur (⟨l_1279⟩ : (Tl (T4 Str Str Int Int))))) fun x_1284 => Mn.bnd (Mn.bnd (Mn.bnd (Mn.pur ([] : List (T6 Str Str Str (Tl Int) Int Int))) fun l_1280 => gd (List.length l_1280 ≤ 1000) (Mn.pur (⟨l_1280⟩ : (Tl (T6 Str Str Str (Tl Int) Int Int))))) fun x_1282 => Mn.bnd (Mn.bnd (Mn.pur ()) fun k_1281 => Mn.pur (none : (Option (Str × Str)))) fun y_1283 => Mn.pur (x_1282, y_1283)) fun y_1285 => Mn.pur (x_1284, y_1285)) fun t_1286 => Mn.pur (⟨t_1286.1, t_1286.2.1, t_1286.2.2⟩ : (T3 (Tl (T4 Str Str Int Int)) (Tl (T6 Str Str Str (Tl Int) Int Int)) (Option (Str × Str))))) fun p_1278 => lift (m_written p_1278)) fun x_1287 => Mn.bnd (Mn.pur ("" : Str)) fun y_1288 => Mn.pur (decide (x_1287 = y_1288))) (Mn.pur false)) fun r_1274 => Mn.pur (.rt r_1274))))))))))
def m__law_step (p0 : (List Int)) : Option Bool := fin0 (mb__law_step p0)
def mb_law (p0 : Sc) : Option (Fl Empty Empty Bool) := (andThen (Mn.bnd (Mn.bnd (Mn.bnd (Mn.pur (0 : Int)) fun x_1297 => Mn.bnd (Mn.bnd (Mn.bnd (Mn.bnd (Mn.pur (1 : Int)) fun x_1292 => Mn.bnd (Mn.bnd (Mn.pur p0) fun u_1291 => Mn.pur ((List.length (Sc.ns u_1291) : Nat) : Int)) fun y_1293 => Mn.pur (x_1292, y_1293)) fun p_1294 => Mn.pur (max p_1294.1 p_1294.2)) fun x_1295 => Mn.bnd (Mn.pur (12 : Int)) fun y_1296 => Mn.pur (x_1295, y_1296)) fun y_1298 => Mn.pur (x_1297, y_1298)) fun n_1299 => gd (Rg3 n_1299.1 n_1299.2.1 n_1299.2.2) (Mn.pur (upTo n_1299.1 (rg3 n_1299.1 n_1299.2.1 n_1299.2.2) n_1299.2.2))) fun w_1315 => forL (fun (t_1300 : Unit) (a_1301 : Int) => ((andThen (Mn.bnd (Mn.bnd (Mn.bnd (Mn.bnd (Mn.pur p0) fun x_1307 => Mn.bnd (Mn.bnd (Mn.pur a_1301) fun i_1303 => Mn.pur (some i_1303)) fun l_1308 => Mn.bnd (Mn.bnd (Mn.bnd (Mn.pur a_1301) fun x_1304 => Mn.bnd (Mn.pur (12 : Int)) fun y_1305 => Mn.pur (x_1304 + y_1305)) fun i_1306 => Mn.pur (some i_1306)) fun h_1309 => Mn.pur (cutL (Sc.ns x_1307) l_1308 h_1309)) fun p_1302 => lift (m__law_step p_1302)) fun b_1310 => Mn.pur (!b_1310)) fun b_1311 => cnd b_1311 (Mn.bnd (Mn.pur false) fun r_1313 => Mn.pur (.rt r_1313)) (Mn.pur (.nx ())) : Option (Fl (Unit) (Unit) Bool)) fun t_1312 => (Mn.pur (.nx ()))) : Option (Fl (Unit) (Unit) Bool))) w_1315 () : Option (Fl (Unit) Empty Bool)) fun t_1300 => (Mn.bnd (Mn.pur true) fun r_1314 => Mn.pur (.rt r_1314)))
def m_law (p0 : Sc) : Option Bool := fin (mb_law p0)
end K05

set_option Elab.async false
set_option linter.all false
set_option maxRecDepth 100000
set_option maxHeartbeats 1000000
namespace K05
open PySem PySem.Spec PyProof.Rows L2 ON
open PyData (strOk)
/-! ### texts as lists of signs -/
def T (l : List Nat) : Str := ⟨l.toArray⟩
theorem T_l (l : List Nat) : (T l).cps.toList = l := rfl
theorem T_len (l : List Nat) : (T l).length = l.length := by show l.toArray.size = _; simp
theorem T_eta (t : Str) : T t.cps.toList = t := by cases t; simp [T]
theorem T_app (a b : List Nat) : T (a ++ b) = T a ++ T b := by
  show (⟨(a ++ b).toArray⟩ : Str) = ⟨a.toArray ++ b.toArray⟩
  simp
theorem T_inj {a b : List Nat} : T a = T b ↔ a = b := ⟨fun h => by have := congrArg (fun s : Str => s.cps.toList) h; exact this, fun h => by rw [h]⟩
theorem sgn_T (c : Nat) : sgn c = T [c] := rfl
theorem T_ok (l : List Nat) (h : l.all (· < 0x110000) = true) : strOk (T l) = true := by
  show l.toArray.all _ = true
  rw [List.all_toArray]; exact h
/-! ### kinds of signs -/
abbrev LT : Str := "abcdefghijklmnopqrstuvwxyz"
abbrev FG : Str := "0123456789"
def Lb (c : Nat) : Bool := decide (c ∈ LT.cps.toList)
def Gb (c : Nat) : Bool := decide (c ∈ FG.cps.toList)
theorem inL (c : Nat) : inStr (sgn c) LT = Lb c := PySem.StrLaws.found_one LT c
theorem inG (c : Nat) : inStr (sgn c) FG = Gb c := PySem.StrLaws.found_one FG c
theorem LG {c : Nat} (h : Lb c = true) : Gb c = false := by
  have key : ∀ c ∈ LT.cps.toList, Gb c = false := by decide +kernel
  exact key c (of_decide_eq_true h)
theorem GL {c : Nat} (h : Gb c = true) : Lb c = false := by
  cases e : Lb c with
  | false => rfl
  | true => rw [LG e] at h; cases h
def cl (c : Nat) : Option Bool := if Lb c then some true else if Gb c then some false else none
theorem cl_t {c : Nat} : cl c = some true ↔ Lb c = true := by
  unfold cl
  cases Lb c <;> cases Gb c <;> simp
theorem cl_f {c : Nat} : cl c = some false ↔ Gb c = true := by
  unfold cl
  cases h : Lb c <;> cases g : Gb c <;> simp
  rw [LG h] at g; cases g
theorem cl_n {c : Nat} : cl c = none ↔ Lb c = false ∧ Gb c = false := by
  unfold cl
  cases Lb c <;> cases Gb c <;> simp
def go : Option (List Nat × Bool) → List Nat → List (List Nat)
  | none, [] => []
  | some u, [] => [u.1]
  | none, c :: r => match cl c with
    | some k => go (some ([c], k)) r
    | none => [c] :: go none r
  | some u, c :: r => if cl c = some u.2 then go (some (u.1 ++ [c], u.2)) r else u.1 :: (match cl c with
    | some k => go (some ([c], k)) r
    | none => [c] :: go none r)
theorem go_some (u : List Nat) (k : Bool) : ∀ cs : List Nat, go (some (u, k)) cs = (u ++ cs.takeWhile (fun c => decide (cl c = some k))) :: go none (cs.dropWhile (fun c => decide (cl c = some k))) := by
  intro cs
  induction cs generalizing u with
  | nil => simp [go]
  | cons c r ih =>
    rw [go]
    by_cases h : cl c = some k
    · simp only [h, if_true, List.takeWhile_cons, List.dropWhile_cons, decide_true]
      rw [ih]
      simp
    · simp only [h, if_false, List.takeWhile_cons, List.dropWhile_cons, decide_false, Bool.false_eq_true]
      rw [List.append_nil, go]
/-- the piece at the start -/
def pc : List Nat → List Nat
  | [] => []
  | c :: r => match cl c with
    | some k => c :: r.takeWhile (fun c => decide (cl c = some k))
    | none => [c]
theorem dropWhile_drop (p : Nat → Bool) : ∀ l : List Nat, l.dropWhile p = l.drop (l.takeWhile p).length
  | [] => rfl
  | c :: r => by
    rw [List.dropWhile_cons, List.takeWhile_cons]
    cases h : p c with
    | false => rfl
    | true => simp only [if_true, List.length_cons, List.drop_succ_cons]; exact dropWhile_drop p r
theorem go_pc (c : Nat) (r : List Nat) : go none (c :: r) = pc (c :: r) :: go none ((c :: r).drop (pc (c :: r)).length) := by
  rw [go, pc]
  cases h : cl c with
  | none => rfl
  | some k =>
    show go (some ([c], k)) r = _
    rw [go_some, dropWhile_drop]
    rfl
theorem pc_pos (c : Nat) (r : List Nat) : 1 ≤ (pc (c :: r)).length := by
  rw [pc]
  cases cl c <;> simp
theorem pc_pre (cs : List Nat) : pc cs = cs.take (pc cs).length := by
  cases cs with
  | nil => rfl
  | cons c r =>
    rw [pc]
    cases cl c with
    | none => rfl
    | some k =>
      show c :: _ = (c :: r).take (c :: _).length
      rw [List.length_cons, List.take_succ_cons]
      congr 1
      have : ∀ l : List Nat, l.takeWhile (fun c => decide (cl c = some k)) = l.take (l.takeWhile (fun c => decide (cl c = some k))).length := fun l => by
        induction l with
        | nil => rfl
        | cons x l ih =>
          rw [List.takeWhile_cons]
          cases h : decide (cl x = some k) with
          | false => rfl
          | true => simp only [if_true, List.length_cons, List.take_succ_cons]; rw [← ih]
      exact this r
/-- what pieces are -/
def Pc (p : List Nat) : Prop := (∃ c, p = [c] ∧ cl c = none) ∨ (p ≠ [] ∧ ∃ k, ∀ c ∈ p, cl c = some k)
theorem pc_ok (c : Nat) (r : List Nat) : Pc (pc (c :: r)) := by
  rw [pc]
  cases h : cl c with
  | none => exact .inl ⟨c, rfl, h⟩
  | some k =>
    refine .inr ⟨by simp, k, fun x hx => ?_⟩
    rcases List.mem_cons.mp hx with rfl | hx
    · exact h
    · have key : ∀ l : List Nat, x ∈ l.takeWhile (fun c => decide (cl c = some k)) → cl x = some k := fun l => by
        induction l with
        | nil => intro hx; cases hx
        | cons y l ih =>
          rw [List.takeWhile_cons]
          cases h : decide (cl y = some k) with
          | false => intro hx; cases hx
          | true =>
            intro hx
            simp only [if_true] at hx
            rcases List.mem_cons.mp hx with rfl | hx
            · exact of_decide_eq_true h
            · exact ih hx
      exact key r hx
theorem go_ok : ∀ (n : Nat) (cs : List Nat), cs.length ≤ n → ∀ p ∈ go none cs, Pc p ∧ p.length ≤ n ∧ ∀ c ∈ p, c ∈ cs := by
  intro n
  induction n with
  | zero =>
    intro cs h p hp
    cases cs with
    | nil => cases hp
    | cons c r => cases h
  | succ n ih =>
    intro cs h p hp
    cases cs with
    | nil => cases hp
    | cons c r =>
      rw [go_pc] at hp
      have h1 := pc_pos c r
      have hl : (pc (c :: r)).length ≤ (c :: r).length := by
        have := congrArg List.length (pc_pre (c :: r))
        rw [List.length_take] at this; omega
      rcases List.mem_cons.mp hp with rfl | hp
      · refine ⟨pc_ok c r, by omega, fun x hx => ?_⟩
        rw [pc_pre] at hx
        exact List.mem_of_mem_take hx
      · obtain ⟨a, b, d⟩ := ih _ (by rw [List.length_drop]; omega) p hp
        exact ⟨a, by omega, fun x hx => List.mem_of_mem_drop (d x hx)⟩
end K05

set_option Elab.async false
set_option linter.all false
set_option maxRecDepth 100000
set_option maxHeartbeats 1000000
namespace K05
open PySem PySem.Spec PyProof.Rows L2 ON
open PyData (strOk)
theorem szl {n : Nat} (h : n ≤ 100000) : n ≤ sizeLine := Nat.le_trans h (by decide)
theorem fr {ρ : Type} [Enc ρ] (r : ρ) : fin (some (.rt r) : Option (Fl Empty Empty ρ)) = some r := rfl
theorem all_of (l : List Nat) (S : Str) (h : l.length ≤ 100000) : m_is_all_of (T l) S = some (l.all fun c => inStr (sgn c) S) := by
  unfold m_is_all_of mb_is_all_of
  have e : List.length (List.map sgn (Array.toList (Str.cps (T l)))) ≤ 100000 := by rw [List.length_map, T_l]; exact h
  simp only [pur_opt, sbO, gd_y e]
  rw [compL_map (f := fun a => inStr a S) _ (fun x _ => ⟨rfl, rfl⟩), sbO, sbO, fr, T_l, List.map_map, List.all_map]
  rfl
theorem all_L (l : List Nat) (h : l.length ≤ 100000) : m_is_all_of (T l) "abcdefghijklmnopqrstuvwxyz" = some (l.all Lb) := by
  rw [all_of l _ h]; congr 1; congr 1; funext c; exact inL c
theorem all_G (l : List Nat) (h : l.length ≤ 100000) : m_is_all_of (T l) "0123456789" = some (l.all Gb) := by
  rw [all_of l _ h]; congr 1; congr 1; funext c; exact inG c
theorem letters_eq (l : List Nat) (h : l.length ≤ 100000) : m_is_letters (T l) = some (decide (1 ≤ l.length) && (decide (l.length ≤ 8) && l.all Lb)) := by
  unfold m_is_letters mb_is_letters
  have g : l.length ≤ sizeLine := szl h
  simp only [pur_opt, sbO, gd_y g, liftO, all_L l h, T_len]
  have e1 : decide ((1 : Int) ≤ (l.length : Int)) = decide (1 ≤ l.length) := decide_eq_decide.mpr (by omega)
  have e2 : decide ((l.length : Int) ≤ (8 : Int)) = decide (l.length ≤ 8) := decide_eq_decide.mpr (by omega)
  rw [e1, e2]
  cases decide (1 ≤ l.length) <;> cases decide (l.length ≤ 8) <;> simp only [cnd_t, cnd_f, sbO, fr, Bool.true_and, Bool.false_and]
theorem at0 (c : Nat) (r : List Nat) : atI (Array.toList (Str.cps (T (c :: r)))) 0 = some c := by
  rw [T_l]; unfold atI ixN
  rw [if_pos (by decide), if_pos (by rw [List.length_cons]; omega)]; rfl
theorem number_eq (l : List Nat) (h : l.length ≤ 100000) : m_is_number (T l) = some (decide (1 ≤ l.length) && (decide (l.length ≤ 5) && (l.all Gb && (decide (l = [48]) || decide (l.head? ≠ some 48))))) := by
  unfold m_is_number mb_is_number
  have g : l.length ≤ sizeLine := szl h
  simp only [pur_opt, sbO, gd_y g, liftO, all_G l h, T_len]
  have e1 : decide ((1 : Int) ≤ (l.length : Int)) = decide (1 ≤ l.length) := decide_eq_decide.mpr (by omega)
  have e2 : decide ((l.length : Int) ≤ (5 : Int)) = decide (l.length ≤ 5) := decide_eq_decide.mpr (by omega)
  rw [e1, e2]
  have e3 : decide (T l = ("0" : Str)) = decide (l = [48]) := decide_eq_decide.mpr (by rw [show ("0" : Str) = T [48] from rfl, T_inj])
  rw [e3]
  cases l with
  | nil => simp [cnd_t, cnd_f, sbO, fr, andThen_rt]
  | cons c r =>
    rw [at0]
    have e4 : (decide (sgn c = ("0" : Str))) = decide (c = 48) := decide_eq_decide.mpr (by rw [show ("0" : Str) = T [48] from rfl, sgn_T, T_inj]; simp)
    simp only [sbO, e4]
    cases h1 : decide (1 ≤ (c :: r).length) <;> cases h2 : decide ((c :: r).length ≤ 5) <;> cases h3 : (c :: r).all Gb <;> cases h4 : decide (c :: r = [48]) <;> cases h5 : decide (c = 48) <;>
      simp only [cnd_t, cnd_f, sbO, fr, andThen_rt, andThen_nx, Bool.not_true, Bool.not_false, Bool.true_and, Bool.false_and, Bool.true_or, Bool.false_or, List.head?_cons, ne_eq, Option.some.injEq, decide_not, h5]
/-- whether a piece is a word -/
def isw (p : List Nat) : Bool := decide (p = [47]) || ((decide (1 ≤ p.length) && (decide (p.length ≤ 8) && p.all Lb)) || (decide (1 ≤ p.length) && (decide (p.length ≤ 5) && (p.all Gb && (decide (p = [48]) || decide (p.head? ≠ some 48))))))
theorem word_eq (l : List Nat) (h : l.length ≤ 100000) : m_is_word (T l) = some (isw l) := by
  unfold m_is_word mb_is_word isw
  simp only [pur_opt, sbO, liftO, letters_eq l h, number_eq l h]
  have e3 : decide (T l = ("/" : Str)) = decide (l = [47]) := decide_eq_decide.mpr (by rw [show ("/" : Str) = T [47] from rfl, T_inj])
  rw [e3]
  cases decide (l = [47]) <;> cases (decide (1 ≤ l.length) && (decide (l.length ≤ 8) && l.all Lb)) <;> simp only [cnd_t, cnd_f, sbO, fr, Bool.true_or, Bool.false_or]
end K05

set_option Elab.async false
set_option linter.all false
set_option maxRecDepth 100000
set_option maxHeartbeats 1000000
namespace K05
open PySem PySem.Spec PyProof.Rows L2 ON
open PyData (strOk)
theorem tw_take (p : Nat → Bool) : ∀ l : List Nat, l.takeWhile p = l.take (l.takeWhile p).length
  | [] => rfl
  | c :: r => by
    rw [List.takeWhile_cons]
    cases h : p c with
    | false => rfl
    | true => simp only [if_true, List.length_cons, List.take_succ_cons]; rw [← tw_take p r]
theorem tw_le (p : Nat → Bool) : ∀ l : List Nat, (l.takeWhile p).length ≤ l.length
  | [] => Nat.le_refl _
  | c :: r => by
    rw [List.takeWhile_cons]
    cases h : p c with
    | false => exact Nat.zero_le _
    | true => simp only [if_true, List.length_cons]; have := tw_le p r; omega
theorem tw_spec (p : Nat → Bool) : ∀ (l : List Nat) (i : Nat), i ≤ (l.takeWhile p).length → (match l[i]? with | some c => p c | none => false) = decide (i < (l.takeWhile p).length)
  | [], i, h => by
    have : i = 0 := Nat.le_zero.mp h
    subst this; rfl
  | c :: r, i, h => by
    rw [List.takeWhile_cons] at h ⊢
    cases e : p c with
    | false =>
      rw [e] at h
      have : i = 0 := Nat.le_zero.mp h
      subst this
      simp [e]
    | true =>
      rw [e] at h
      simp only [if_true, List.length_cons] at h ⊢
      cases i with
      | zero => simp [e]
      | succ i =>
        rw [List.getElem?_cons_succ, tw_spec p r i (by omega)]
        exact decide_eq_decide.mpr (by omega)
theorem atN {α : Type} (l : List α) (n : Nat) (h : n < l.length) : atI l (n : Int) = l[n]? := by
  unfold atI ixN
  rw [if_pos (by omega), if_pos (by omega)]; rfl
theorem cut_eq (t : List Nat) (a i : Nat) (h : a + i ≤ t.length) : cutT (T t) (some (a : Int)) (some ((a + i : Nat) : Int)) = T ((t.drop a).take i) := by
  unfold cutT cutS
  rw [HT.sIx_nat, HT.sIx_nat, T_len, T_l, Nat.min_eq_left (show a ≤ t.length by omega)]
  rw [show min (a + i) t.length = a + i from Nat.min_eq_left h, Nat.add_sub_cancel_left]; rfl
theorem whl_cnt {ρ l : Type} {c : Int → Option Bool} {b : Int → Option (Fl Int Int ρ)} (a m : Nat) (hc : ∀ i, i ≤ m → c ((a + i : Nat) : Int) = some (decide (i < m))) (hb : ∀ i, i < m → b ((a + i : Nat) : Int) = some (.nx ((a + (i + 1) : Nat) : Int))) :
    ∀ (n i : Nat) (e : Int), e = ((a + i : Nat) : Int) → i ≤ m → m - i < n → (whl c b n e : Option (Fl Int l ρ)) = some (.nx ((a + m : Nat) : Int)) := by
  intro n
  induction n with
  | zero => intro i e _ _ h; omega
  | succ n ih =>
    intro i e he hi h
    subst he
    by_cases hm : i < m
    · rw [whl_go (by rw [hc i hi, decide_eq_true hm]) (hb i hm)]
      exact ih (i + 1) _ rfl hm (by omega)
    · have : i = m := by omega
      subst this
      exact whl_end (by rw [hc i hi, decide_eq_false hm])
theorem side_eq (t : List Nat) (a : Nat) (S : Str) (q : Nat → Bool) (hq : ∀ c, inStr (sgn c) S = q c) (ha : a ≤ t.length) (hl : t.length ≤ 100000) : m_side_by_side (T t) (a : Int) S = some (T ((t.drop a).takeWhile q)) := by
  unfold m_side_by_side mb_side_by_side
  have g : t.length ≤ sizeLine := szl hl
  have hw := tw_le q (t.drop a)
  have h2 := hw
  rw [List.length_drop] at hw
  have fu : (List.takeWhile q (List.drop a t)).length - 0 < FU := by unfold FU; omega
  rw [pbO, whl_cnt a ((t.drop a).takeWhile q).length (fun i hi => ?hc) (fun i hi => ?hb) FU 0 (a : Int) rfl (Nat.zero_le _) fu, andThen_nx]
  case hb =>
    simp only [pur_opt, sbO]
    congr 2
  case hc =>
    rw [← tw_spec q (t.drop a) i hi]
    simp only [pur_opt, sbO, T_len, gd_y g, liftO, T_l]
    by_cases h : a + i < t.length
    · rw [show decide (((a + i : Nat) : Int) < ((t.length : Nat) : Int)) = true from decide_eq_true (by omega), cnd_t, atN t (a + i) h, List.getElem?_drop, List.getElem?_eq_getElem h, sbO, sbO, hq]
    · rw [show decide (((a + i : Nat) : Int) < ((t.length : Nat) : Int)) = false from decide_eq_false (by omega), cnd_f, List.getElem?_drop, List.getElem?_eq_none (by omega)]
  simp only [pur_opt, sbO, T_len, gd_y g]
  rw [cut_eq t a _ (by omega), ← tw_take, fr]
theorem piece_eq (t : List Nat) (a : Nat) (c : Nat) (r : List Nat) (h : t.drop a = c :: r) (hl : t.length ≤ 100000) : m_piece_at (T t) (a : Int) = some (T (pc (c :: r))) := by
  have la : a < t.length := by
    have := congrArg List.length h
    rw [List.length_drop, List.length_cons] at this; omega
  have g : t.length ≤ sizeLine := szl hl
  have ec : t[a]? = some c := by
    have : (t.drop a)[0]? = some c := by rw [h]; rfl
    rwa [List.getElem?_drop, Nat.add_zero] at this
  have sL := side_eq t a "abcdefghijklmnopqrstuvwxyz" Lb inL (by omega) hl
  have sG := side_eq t a "0123456789" Gb inG (by omega) hl
  unfold m_piece_at mb_piece_at
  simp only [pur_opt, sbO, gd_y (show ([("abcdefghijklmnopqrstuvwxyz" : Str), "0123456789"] : List Str).length ≤ 1000 by decide), forL_cons, forL_nil, T_len, gd_y g, liftO, T_l, atN t a la, ec, sL, sG]
  rw [show inStr (sgn c) ("0123456789" : Str) = Gb c from inG c, show inStr (sgn c) ("abcdefghijklmnopqrstuvwxyz" : Str) = Lb c from inL c]
  rw [pc, h]
  cases hL : Lb c with
  | true =>
    rw [cl_t.mpr hL]
    simp only [cnd_t, andThen_rt, sbO, fr, List.takeWhile_cons, hL, if_true]
    congr 4
    funext x
    cases hx : Lb x with
    | true => exact (decide_eq_true (cl_t.mpr hx)).symm
    | false => exact (decide_eq_false fun z => by rw [cl_t.mp z] at hx; cases hx).symm
  | false =>
    cases hG : Gb c with
    | true =>
      rw [cl_f.mpr hG]
      simp only [cnd_t, cnd_f, andThen_rt, andThen_nx, sbO, fr, List.takeWhile_cons, hG, if_true]
      congr 4
      funext x
      cases hx : Gb x with
      | true => exact (decide_eq_true (cl_f.mpr hx)).symm
      | false => exact (decide_eq_false fun z => by rw [cl_f.mp z] at hx; cases hx).symm
    | false =>
      rw [cl_n.mpr ⟨hL, hG⟩]
      simp only [cnd_t, cnd_f, andThen_rt, andThen_nx, sbO, fr]
      rfl
end K05

set_option Elab.async false
set_option linter.all false
set_option maxRecDepth 100000
set_option maxHeartbeats 1000000
namespace K05
open PySem PySem.Spec PyProof.Rows L2 ON
open PyData (strOk)
theorem ixL {n : Nat} : ixN (n + 1) (-1) = some n := by
  unfold ixN
  rw [if_neg (by decide), if_pos (by omega)]
  congr 1; omega
theorem atL {α : Type} (F : List α) (x : α) : atI (F ++ [x]) (-1) = some x := by
  unfold atI
  rw [List.length_append, List.length_singleton, ixL]
  show (F ++ [x])[F.length]? = some x
  rw [List.getElem?_append_right (Nat.le_refl _), Nat.sub_self]; rfl
theorem setL_ (F : List Str) (x y : Str) : setI (F ++ [x]) (-1) y = some (F ++ [y]) := by
  rw [setI_eq, List.length_append, List.length_singleton, ixL]
  show some ((F ++ [x]).set F.length y) = _
  rw [List.set_append_right _ _ (Nat.le_refl _), Nat.sub_self]; rfl
theorem appL (F : List (List Str)) (xs : List Str) (y : Str) (h : xs.length < 100000) : appI (F ++ [xs]) (-1) y = some (F ++ [xs ++ [y]]) := by
  rw [appI_eq, List.length_append, List.length_singleton, ixL]
  show ((F ++ [xs])[F.length]?).bind _ = _
  rw [List.getElem?_append_right (Nat.le_refl _), Nat.sub_self]
  show (if xs.length < 100000 then some ((F ++ [xs]).set F.length (xs ++ [y])) else none) = _
  rw [if_pos h, List.set_append_right _ _ (Nat.le_refl _), Nat.sub_self]; rfl
end K05

set_option Elab.async false
set_option linter.all false
set_option maxRecDepth 100000
set_option maxHeartbeats 1000000
namespace K05
open PySem PySem.Spec PyProof.Rows L2 ON
open PyData (strOk)
def st1 (R : List (List Str)) (row : List Str) (p : List Nat) : Option (List (List Str) × List Str) := if p = [10] then some (R ++ [row], []) else if p = [32] then some (R, row) else if isw p = true then some (R, row ++ [T p]) else none
theorem st1_sz {R : List (List Str)} {row : List Str} {p : List Nat} {q : List (List Str) × List Str} (h : st1 R row p = some q) : q.1.length ≤ R.length + 1 ∧ q.2.length ≤ row.length + 1 := by
  unfold st1 at h
  split at h
  · cases h; simp
  · split at h
    · cases h; simp
    · split at h
      · cases h; simp
      · cases h
def due : List (List Nat) → List (List Str) → List Str → Int → Int ⊕ List (List Str)
  | [], R, row, _ => .inr (R ++ [row])
  | p :: ps, R, row, a => match st1 R row p with
    | some q => due ps q.1 q.2 (a + (p.length : Int))
    | none => .inl a
abbrev RL := List (List Str) × Int
theorem whl_rt {τ l ρ : Type} {c : τ → Option Bool} {b : τ → Option (Fl τ τ ρ)} {n : Nat} {t : τ} {r : ρ} (h : c t = some true) (hb : b t = some (.rt r)) : (whl c b (n + 1) t : Option (Fl τ l ρ)) = some (.rt r) := by
  rw [whl_succ, h, sbO]; show Mn.bnd (b t) _ = _; rw [hb, sbO]; exact pur_opt _
abbrev XW := Xr (Fw (.lst (.lst .dat)) (List (List Str)))
def bad (n : Int) : Er := ⟨"BadSign", some ("spot", .int n)⟩
theorem andThen_words {l τ' : Type} (t : List Nat) {c : RL → Option Bool} {b : RL → Option (Fl RL RL XW)} {f : RL → Option (Fl τ' l XW)} (hf : ∀ rows a, f (rows, a) = some (.rt (.ok ⟨rows⟩)))
    (hc : ∀ rows (a : Nat), c (rows, (a : Int)) = some (decide (a < t.length)))
    (hb : ∀ R row (a : Nat) x r, t.drop a = x :: r → R.length < 99999 → row.length < 99999 → b (R ++ [row], (a : Int)) = some (match st1 R row (pc (x :: r)) with | some q => .nx (q.1 ++ [q.2], (a : Int) + ((pc (x :: r)).length : Int)) | none => .rt (.er (bad a)))) :
    ∀ (n a : Nat) R row, t.length - a < n → a ≤ t.length → R.length + (t.length - a) < 99999 → row.length + (t.length - a) < 99999 → andThen (whl c b n (R ++ [row], (a : Int))) f = some (.rt (match due (go none (t.drop a)) R row a with | .inl m => .er (bad m) | .inr rows => .ok ⟨rows⟩)) := by
  intro n
  induction n with
  | zero => intro a R row h; omega
  | succ n ih =>
    intro a R row h h0 h1 h2
    cases e : t.drop a with
    | nil =>
      have : t.length ≤ a := List.drop_eq_nil_iff.mp e
      rw [whl_end (by rw [hc, decide_eq_false (by omega)]), andThen_nx, hf]; rfl
    | cons x r =>
      have la : a < t.length := by
        have := congrArg List.length e
        rw [List.length_drop, List.length_cons] at this; omega
      have hp := pc_pos x r
      have hle : (pc (x :: r)).length ≤ t.length - a := by
        have := congrArg List.length (pc_pre (x :: r))
        rw [List.length_take, ← e, List.length_drop] at this
        rw [← e]; omega
      rw [go_pc, due]
      have hb' := hb R row a x r e (by omega) (by omega)
      cases e2 : st1 R row (pc (x :: r)) with
      | none =>
        rw [e2] at hb'
        rw [whl_rt (by rw [hc, decide_eq_true la]) hb', andThen_rt]
      | some q =>
        rw [e2] at hb'
        obtain ⟨s1, s2⟩ := st1_sz e2
        rw [whl_go (by rw [hc, decide_eq_true la]) hb']
        have z := ih (a + (pc (x :: r)).length) q.1 q.2 (by omega) (by omega) (by omega) (by omega)
        rw [Int.natCast_add] at z
        rw [z, ← List.drop_drop, e]
theorem okN (n : Nat) (h : n ≤ 9000) : okI (n : Int) := by
  show Nat.log2 n < 1920
  by_cases c : n = 0
  · subst c; decide
  · exact (Nat.log2_lt c).mpr (Nat.lt_of_lt_of_le (show n < 2 ^ 14 by omega) (Nat.pow_le_pow_right (by decide) (by decide)))
theorem words_eq (t : List Nat) (h : t.length ≤ 8000) : m_text_words (An.of (T t)) = some (match due (go none t) [] [] 0 with | .inl m => .er (bad m) | .inr rows => .ok rows) := by
  unfold m_text_words mb_text_words
  have hk : kit "str" (enc (An.of (T t))) = true := rfl
  have hd : (Dec.dec (An.of (T t)) : Option Str) = some (T t) := rfl
  have g : t.length ≤ sizeLine := szl (by omega)
  have hs : ([] : List Str).length ≤ 1000 := by decide
  simp only [pur_opt, sbO, gd_y hs, liftO, hk, hd, Bool.not_true, cnd_f, T_len, gd_y g, decide_eq_false (show ¬ ((8000 : Int) < (t.length : Int)) by omega), andThen_nx]
  have fu : t.length - 0 < FU := by unfold FU; omega
  rw [show (([[]] : List (List Str)), (0 : Int)) = (([] : List (List Str)) ++ [[]], ((0 : Nat) : Int)) from rfl,
    andThen_words t (fun rows a => rfl) (fun rows a => ?hc) (fun R row a x r e h1 h2 => ?hb) FU 0 [] [] fu (Nat.zero_le _) (by show 0 + _ < _; omega) (by show 0 + _ < _; omega)]
  case hc => exact congrArg some (decide_eq_decide.mpr (by omega))
  case hb =>
    have hl : (pc (x :: r)).length ≤ 100000 := by
      have := congrArg List.length (pc_pre (x :: r))
      rw [List.length_take, ← e, List.length_drop] at this
      rw [← e]; omega
    have g1 : (pc (x :: r)).length ≤ sizeLine := szl hl
    have ga : okI (a : Int) := okN a (by
      have := congrArg List.length e
      rw [List.length_drop, List.length_cons] at this; omega)
    generalize hpp : pc (x :: r) = p at *
    have e1 : decide (T p = ("\n" : Str)) = decide (p = [10]) := decide_eq_decide.mpr (by rw [show ("\n" : Str) = T [10] from rfl, T_inj])
    have e2 : decide (T p = (" " : Str)) = decide (p = [32]) := decide_eq_decide.mpr (by rw [show (" " : Str) = T [32] from rfl, T_inj])
    have g2 : (R ++ [row]).length < 100000 := by rw [List.length_append, List.length_singleton]; omega
    have pe := piece_eq t a x r e (by omega)
    rw [hpp] at pe
    simp only [pe, e1, e2, T_len, gd_y g1, gd_y g2, gd_y ga, word_eq p hl, sbO, appL R row (T p) (by omega)]
    unfold st1
    by_cases c1 : p = [10]
    · simp only [c1, decide_true, cnd_t, andThen_nx, if_true]
    · by_cases c2 : p = [32]
      · simp only [if_neg c1, decide_eq_false c1, cnd_f, if_pos c2, decide_eq_true c2, Bool.not_true, andThen_nx]
      · cases c3 : isw p with
        | true => simp only [if_neg c1, decide_eq_false c1, cnd_f, cnd_t, if_neg c2, decide_eq_false c2, Bool.not_false, Bool.not_true, andThen_nx, if_true]
        | false =>
          simp only [if_neg c1, decide_eq_false c1, cnd_f, cnd_t, if_neg c2, decide_eq_false c2, Bool.not_false, Bool.not_true, andThen_nx, andThen_rt, Bool.false_eq_true, if_false]
          rfl
  show (fin (some (.rt _))).map Xr.unF = _
  rw [List.drop_zero]
  cases due (go none t) [] [] ((0 : Nat) : Int) with
  | inl m => rfl
  | inr rows => rfl
end K05

set_option Elab.async false
set_option linter.all false
set_option maxRecDepth 100000
set_option maxHeartbeats 1000000
namespace K05
open PySem PySem.Spec PyProof.Rows L2 ON
theorem small_div {p : Int} (h : 2 ≤ p ∧ p ≤ 7) : ON.DivOk p := ⟨by omega, log2_small (by omega)⟩
theorem how_often_eq {p : Int} (hp : 2 ≤ p ∧ p ≤ 7) (e : Nat) (m : Int) (hm : 0 < m) (hd : m % p ≠ 0) (he : e < 100000) : m_how_often (p ^ e * m) p = some (e : Int) := by
  unfold m_how_often mb_how_often
  rw [pbO]
  have pp : ∀ e : Nat, 0 < p ^ e := fun e => Int.pow_pos (by omega)
  have ex : ∀ (e : Nat) (k : Int) (e' : Nat), True := fun _ _ _ => trivial
  -- the state: what is left is p ^ j * m
  rw [whl_inv (I := fun t => ∃ j : Nat, j ≤ e ∧ t = (p ^ j * m, ((e : Int) - j))) (mu := fun t => (e - t.2).toNat) (fin := fun _ => (m, (e : Int)))]
  · rw [andThen_nx, pbO, pur_opt]; rfl
  · rintro t ⟨j, hj, rfl⟩ hc
    have hj0 : j ≠ 0 := fun z => by
      subst z
      simp only [pbO, bnd_opt, pur_opt, Option.bind_some, Int.pow_zero, Int.one_mul] at hc
      by_cases h1 : 1 < m
      · rw [decide_eq_true h1] at hc
        simp only [cnd_t, gd_y (show (0 : Int) < p by omega), pur_opt, Option.bind_some, Option.some.injEq, decide_eq_true_eq] at hc
        exact hd hc
      · rw [decide_eq_false h1] at hc
        simp [cnd_f] at hc
    obtain ⟨i, rfl⟩ : ∃ i, j = i + 1 := ⟨j - 1, by omega⟩
    have dv : p ^ (i + 1) * m / p = p ^ i * m := by
      rw [Int.pow_succ, Int.mul_comm (p ^ i) p, Int.mul_assoc]
      exact Int.mul_ediv_cancel_left _ (by omega)
    refine ⟨(p ^ i * m, (e : Int) - i), ?_, ⟨i, by omega, rfl⟩, ?_, rfl⟩
    · simp only [pbO, gd_y (small_div hp)]
      rw [dv, pur_opt]
      congr 3; omega
    · show ((e : Int) - (e - i)).toNat < ((e : Int) - (e - (i + 1 : Nat))).toNat
      omega
  · rintro t ⟨j, hj, rfl⟩
    simp only [pbO, bnd_opt, pur_opt, Option.bind_some]
    by_cases h0 : j = 0
    · subst h0
      right
      refine ⟨?_, by simp⟩
      rw [Int.pow_zero, Int.one_mul]
      by_cases h1 : 1 < m
      · rw [decide_eq_true h1]
        simp only [cnd_t, gd_y (show (0 : Int) < p by omega), pur_opt, Option.bind_some, decide_eq_false hd]
      · rw [decide_eq_false h1]; rfl
    · left
      obtain ⟨i, rfl⟩ : ∃ i, j = i + 1 := ⟨j - 1, by omega⟩
      have hs : p ^ (i + 1) * m = p * (p ^ i * m) := by rw [Int.pow_succ, Int.mul_comm (p ^ i) p, Int.mul_assoc]
      have g1 : 1 < p ^ (i + 1) * m := by
        rw [hs]
        have h2 : 0 < p ^ i * m := Int.mul_pos (pp i) hm
        have h3 : p * 1 ≤ p * (p ^ i * m) := Int.mul_le_mul_of_nonneg_left (by omega) (by omega)
        omega
      rw [decide_eq_true g1]
      have g2 : p ^ (i + 1) * m % p = 0 := by rw [hs]; exact Int.mul_emod_right _ _
      simp only [cnd_t, gd_y (show (0 : Int) < p by omega), pur_opt, Option.bind_some, g2]
      rfl
  · exact ⟨e, Nat.le_refl _, by simp⟩
  · show ((e : Int) - 0).toNat < FU
    have : FU = 1000000000 := rfl
    rw [this]; omega
/-! ### numbers of 2s, 3s, 5s and 7s -/
def sm (a b c d : Nat) : Int := 2 ^ a * (3 ^ b * (5 ^ c * 7 ^ d))
theorem nz_mul {p : Int} (hp : p = 2 ∨ p = 3 ∨ p = 5 ∨ p = 7) {x y : Int} (hx : x % p ≠ 0) (hy : y % p ≠ 0) : x * y % p ≠ 0 := by
  rw [Int.mul_emod]
  have h1 := Int.emod_nonneg x (show p ≠ 0 by omega)
  have h2 := Int.emod_lt_of_pos x (show 0 < p by omega)
  have h3 := Int.emod_nonneg y (show p ≠ 0 by omega)
  have h4 := Int.emod_lt_of_pos y (show 0 < p by omega)
  generalize x % p = u at *
  generalize y % p = v at *
  rcases hp with rfl | rfl | rfl | rfl
  · have e1 : u = 1 := by omega
    have e2 : v = 1 := by omega
    subst e1 e2; decide
  · have e1 : u = 1 ∨ u = 2 := by omega
    have e2 : v = 1 ∨ v = 2 := by omega
    rcases e1 with rfl | rfl <;> rcases e2 with rfl | rfl <;> decide
  · have e1 : u = 1 ∨ u = 2 ∨ u = 3 ∨ u = 4 := by omega
    have e2 : v = 1 ∨ v = 2 ∨ v = 3 ∨ v = 4 := by omega
    rcases e1 with rfl | rfl | rfl | rfl <;> rcases e2 with rfl | rfl | rfl | rfl <;> decide
  · have e1 : u = 1 ∨ u = 2 ∨ u = 3 ∨ u = 4 ∨ u = 5 ∨ u = 6 := by omega
    have e2 : v = 1 ∨ v = 2 ∨ v = 3 ∨ v = 4 ∨ v = 5 ∨ v = 6 := by omega
    rcases e1 with rfl | rfl | rfl | rfl | rfl | rfl <;> rcases e2 with rfl | rfl | rfl | rfl | rfl | rfl <;> decide
theorem nz_pow {p q : Int} (hp : p = 2 ∨ p = 3 ∨ p = 5 ∨ p = 7) (hq : q % p ≠ 0) : ∀ n : Nat, q ^ n % p ≠ 0
  | 0 => by rw [Int.pow_zero]; rcases hp with rfl | rfl | rfl | rfl <;> decide
  | n + 1 => by rw [Int.pow_succ]; exact nz_mul hp (nz_pow hp hq n) hq
theorem pw_pos {q : Int} (h : 0 < q) (n : Nat) : 0 < q ^ n := Int.pow_pos h
theorem sm2 (a b c d : Nat) : ∃ m, sm a b c d = 2 ^ a * m ∧ 0 < m ∧ m % 2 ≠ 0 ∧ m = sm 0 b c d := ⟨sm 0 b c d, by unfold sm; rw [Int.pow_zero, Int.one_mul], by
  unfold sm; rw [Int.pow_zero, Int.one_mul]; exact Int.mul_pos (pw_pos (by decide) _) (Int.mul_pos (pw_pos (by decide) _) (pw_pos (by decide) _)), by
  unfold sm; rw [Int.pow_zero, Int.one_mul]; exact nz_mul (by decide) (nz_pow (by decide) (by decide) _) (nz_mul (by decide) (nz_pow (by decide) (by decide) _) (nz_pow (by decide) (by decide) _)), rfl⟩
theorem sm3 (a b c d : Nat) : ∃ m, sm a b c d = 3 ^ b * m ∧ 0 < m ∧ m % 3 ≠ 0 ∧ m = sm a 0 c d := ⟨sm a 0 c d, by unfold sm; rw [Int.pow_zero, Int.one_mul]; ac_rfl, by
  unfold sm; rw [Int.pow_zero, Int.one_mul]; exact Int.mul_pos (pw_pos (by decide) _) (Int.mul_pos (pw_pos (by decide) _) (pw_pos (by decide) _)), by
  unfold sm; rw [Int.pow_zero, Int.one_mul]; exact nz_mul (by decide) (nz_pow (by decide) (by decide) _) (nz_mul (by decide) (nz_pow (by decide) (by decide) _) (nz_pow (by decide) (by decide) _)), rfl⟩
theorem sm5 (a b c d : Nat) : ∃ m, sm a b c d = 5 ^ c * m ∧ 0 < m ∧ m % 5 ≠ 0 ∧ m = sm a b 0 d := ⟨sm a b 0 d, by unfold sm; rw [Int.pow_zero, Int.one_mul]; ac_rfl, by
  unfold sm; rw [Int.pow_zero, Int.one_mul]; exact Int.mul_pos (pw_pos (by decide) _) (Int.mul_pos (pw_pos (by decide) _) (pw_pos (by decide) _)), by
  unfold sm; rw [Int.pow_zero, Int.one_mul]; exact nz_mul (by decide) (nz_pow (by decide) (by decide) _) (nz_mul (by decide) (nz_pow (by decide) (by decide) _) (nz_pow (by decide) (by decide) _)), rfl⟩
theorem sm7 (a b c d : Nat) : ∃ m, sm a b c d = 7 ^ d * m ∧ 0 < m ∧ m % 7 ≠ 0 ∧ m = sm a b c 0 := ⟨sm a b c 0, by unfold sm; rw [Int.pow_zero, Int.mul_one]; ac_rfl, by
  unfold sm; rw [Int.pow_zero, Int.mul_one]; exact Int.mul_pos (pw_pos (by decide) _) (Int.mul_pos (pw_pos (by decide) _) (pw_pos (by decide) _)), by
  unfold sm; rw [Int.pow_zero, Int.mul_one]; exact nz_mul (by decide) (nz_pow (by decide) (by decide) _) (nz_mul (by decide) (nz_pow (by decide) (by decide) _) (nz_pow (by decide) (by decide) _)), rfl⟩
theorem sm_pos (a b c d : Nat) : 0 < sm a b c d := Int.mul_pos (pw_pos (by decide) _) (Int.mul_pos (pw_pos (by decide) _) (Int.mul_pos (pw_pos (by decide) _) (pw_pos (by decide) _)))
theorem sm_mul (a b c d a' b' c' d' : Nat) : sm a b c d * sm a' b' c' d' = sm (a + a') (b + b') (c + c') (d + d') := by
  unfold sm; rw [Int.pow_add, Int.pow_add, Int.pow_add, Int.pow_add]; ac_rfl
theorem ho2 {a b c d : Nat} (h : a < 100000) : m_how_often (sm a b c d) 2 = some (a : Int) := by
  obtain ⟨m, e, h1, h2, _⟩ := sm2 a b c d
  rw [e]; exact how_often_eq (by decide) a m h1 h2 h
theorem ho3 {a b c d : Nat} (h : b < 100000) : m_how_often (sm a b c d) 3 = some (b : Int) := by
  obtain ⟨m, e, h1, h2, _⟩ := sm3 a b c d
  rw [e]; exact how_often_eq (by decide) b m h1 h2 h
theorem ho5 {a b c d : Nat} (h : c < 100000) : m_how_often (sm a b c d) 5 = some (c : Int) := by
  obtain ⟨m, e, h1, h2, _⟩ := sm5 a b c d
  rw [e]; exact how_often_eq (by decide) c m h1 h2 h
theorem ho7 {a b c d : Nat} (h : d < 100000) : m_how_often (sm a b c d) 7 = some (d : Int) := by
  obtain ⟨m, e, h1, h2, _⟩ := sm7 a b c d
  rw [e]; exact how_often_eq (by decide) d m h1 h2 h
/-- an exponent vector -/
abbrev Rt (w x y z : Int) : Tl Int := ⟨[w, x, y, z]⟩
theorem ratio_of_eq {a b c d a' b' c' d' : Nat} (h : a + b + c + d < 100000) (h' : a' + b' + c' + d' < 100000) : m_ratio_of (sm a b c d) (sm a' b' c' d') = some (Rt (a - a') (b - b') (c - c') (d - d')) := by
  unfold m_ratio_of mb_ratio_of
  simp only [pbO, c_PRIMES, gd_y (show ([2, 3, 5, 7] : List Int).length ≤ 100000 by decide), compL_cons, compL_nil, liftO, ho2 (show a < 100000 by omega), ho3 (show b < 100000 by omega), ho5 (show c < 100000 by omega), ho7 (show d < 100000 by omega),
    ho2 (show a' < 100000 by omega), ho3 (show b' < 100000 by omega), ho5 (show c' < 100000 by omega), ho7 (show d' < 100000 by omega), sbO, pur_opt]
  rfl
/-! ### powers -/
theorem nat_pow_lt {q : Int} (h : 2 ≤ q ∧ q ≤ 7) (n : Nat) : (q ^ n).natAbs < 2 ^ (3 * n + 1) := by
  rw [Int.natAbs_pow, Nat.pow_succ, Nat.pow_mul]
  have h1 : q.natAbs ^ n ≤ (2 ^ 3) ^ n := Nat.pow_le_pow_left (by omega) n
  have h2 : 0 < (2 ^ 3) ^ n := Nat.pow_pos (by decide)
  omega
theorem le_abs {x y : Int} {b : Nat} (h0 : 0 < x) (h : x ≤ y) (hb : y.natAbs < b) : x.natAbs < b := by omega
theorem mul_ok3 {i j : Int} {a b : Nat} (ha : i.natAbs < 2 ^ a) (hb : j.natAbs < 2 ^ b) (h0 : 0 < a) (h1 : 0 < b) (h : a + b ≤ 1000000) : ON.MulOk i j := .inr (wide_mul ha hb h0 h1 h)
theorem sq_pow (P : Int) : ∀ n : Nat, (P * P) ^ n = P ^ (n + n)
  | 0 => by simp
  | n + 1 => by
    rw [Int.pow_succ, sq_pow P n, show n + 1 + (n + 1) = n + n + 1 + 1 by omega, Int.pow_succ, Int.pow_succ]; ac_rfl
theorem raised_eq {q : Int} (hq : 2 ≤ q ∧ q ≤ 7) {n : Nat} (hn : n ≤ 5000) : m_raised q (n : Int) = some (q ^ n) := by
  unfold m_raised mb_raised
  rw [pbO]
  have hb := nat_pow_lt hq n
  rw [andThen_whl (I := fun t => ∃ (P o : Int) (k : Nat), t = (P, (k : Int), o) ∧ 0 < P ∧ 0 < o ∧ o * P ^ k = q ^ n ∧ k ≤ n) (mu := fun t => t.2.1.toNat) (r := some (.rt (q ^ n)))]
  · rfl
  · exact ⟨q, 1, n, rfl, by omega, by decide, by rw [Int.one_mul], Nat.le_refl _⟩
  · show ((n : Int)).toNat < FU
    have : FU = 1000000000 := rfl
    rw [this]; omega
  · rintro t ⟨P, o, k, rfl, hP, ho, hk, hkn⟩ hc
    have k1 : 1 ≤ k := by
      simp only [pbO, sbO, pur_opt, Option.some.injEq, decide_eq_true_eq] at hc
      omega
    have pk : 0 < P ^ k := Int.pow_pos hP
    have hPle : P ≤ q ^ n := by
      obtain ⟨j, rfl⟩ : ∃ j, k = j + 1 := ⟨k - 1, by omega⟩
      have pj : 0 < P ^ j := Int.pow_pos hP
      have h1 : P * 1 ≤ P * (P ^ j * o) := Int.mul_le_mul_of_nonneg_left (by have := Int.mul_pos pj ho; omega) (by omega)
      have h2 : P * (P ^ j * o) = q ^ n := by rw [← hk, Int.pow_succ]; ac_rfl
      omega
    have hole : o ≤ q ^ n := by
      have h1 : o * 1 ≤ o * P ^ k := Int.mul_le_mul_of_nonneg_left (by omega) (by omega)
      omega
    have bP := le_abs hP hPle hb
    have bo := le_abs ho hole hb
    have g1 : ON.MulOk o P := mul_ok3 bo bP (by omega) (by omega) (by omega)
    have g2 : ON.MulOk P P := mul_ok3 bP bP (by omega) (by omega) (by omega)
    have g3 : ON.DivOk 2 := small_div (by decide)
    have hdiv : ((k : Int) / 2) = ((k / 2 : Nat) : Int) := by omega
    by_cases odd : k % 2 = 1
    · refine ⟨(P * P, ((k / 2 : Nat) : Int), o * P), ?_, ⟨P * P, o * P, k / 2, rfl, Int.mul_pos hP hP, Int.mul_pos ho hP, ?_, by omega⟩, ?_⟩
      · have e : (k : Int) % 2 = 1 := by omega
        simp only [pbO, sbO, gd_y (show (0 : Int) < 2 by decide), e, decide_true, cnd_t, gd_y g1, gd_y g2, gd_y g3, hdiv, pur_opt, andThen_nx]
      · have ek : k = k / 2 + k / 2 + 1 := by omega
        rw [sq_pow, ← hk]
        conv => rhs; rw [ek, Int.pow_succ]
        ac_rfl
      · show ((k / 2 : Nat) : Int).toNat < ((k : Nat) : Int).toNat
        omega
    · refine ⟨(P * P, ((k / 2 : Nat) : Int), o), ?_, ⟨P * P, o, k / 2, rfl, Int.mul_pos hP hP, ho, ?_, by omega⟩, ?_⟩
      · have e : (k : Int) % 2 ≠ 1 := by omega
        simp only [pbO, sbO, gd_y (show (0 : Int) < 2 by decide), decide_eq_false e, cnd_f, gd_y g2, gd_y g3, hdiv, pur_opt, andThen_nx]
      · have ek : k = k / 2 + k / 2 := by omega
        rw [sq_pow, ← hk]
        conv => rhs; rw [ek]
      · show ((k / 2 : Nat) : Int).toNat < ((k : Nat) : Int).toNat
        omega
  · rintro t ⟨P, o, k, rfl, hP, ho, hk, hkn⟩
    simp only [pbO, sbO, pur_opt, Option.some.injEq]
    by_cases z : (0 : Int) < k
    · left; exact decide_eq_true z
    · right; exact decide_eq_false z
  · rintro t ⟨P, o, k, rfl, hP, ho, hk, hkn⟩ e2
    have k0 : k = 0 := by
      simp only [pbO, sbO, pur_opt, Option.some.injEq, decide_eq_false_iff_not] at e2
      omega
    subst k0
    rw [Int.pow_zero, Int.mul_one] at hk
    rw [pbO, pur_opt, hk]
theorem max0 (w : Int) : max w 0 = (w.toNat : Int) := by rw [Int.max_def]; split <;> omega
theorem fraction_eq {w x y z : Int} (h : w.natAbs ≤ 3000 ∧ x.natAbs ≤ 3000 ∧ y.natAbs ≤ 3000 ∧ z.natAbs ≤ 3000) : m_fraction (Rt w x y z) = some (sm w.toNat x.toNat y.toNat z.toNat, sm (-w).toNat (-x).toNat (-y).toNat (-z).toNat) := by
  unfold m_fraction mb_fraction
  have r : ∀ {q v : Int}, (2 ≤ q ∧ q ≤ 7) → v.natAbs ≤ 3000 → m_raised q (v.toNat : Int) = some (q ^ v.toNat) := fun hq hv => raised_eq hq (by omega)
  have b : ∀ {q v : Int}, (2 ≤ q ∧ q ≤ 7) → v.natAbs ≤ 3000 → (q ^ v.toNat).natAbs < 2 ^ 9001 := fun hq hv => Nat.lt_of_lt_of_le (nat_pow_lt hq _) (Nat.pow_le_pow_right (by decide) (by omega))
  have b0 : (1 : Int).natAbs < 2 ^ 1 := by decide
  have n1 : ∀ {v : Int}, v.natAbs ≤ 3000 → (-v).natAbs ≤ 3000 := fun h => by omega
  have q2 : (2 : Int) ≤ 2 ∧ (2 : Int) ≤ 7 := by decide
  have q3 : (2 : Int) ≤ 3 ∧ (3 : Int) ≤ 7 := by decide
  have q5 : (2 : Int) ≤ 5 ∧ (5 : Int) ≤ 7 := by decide
  have q7 : (2 : Int) ≤ 7 ∧ (7 : Int) ≤ 7 := by decide
  obtain ⟨h1, h2, h3, h4⟩ := h
  have c1 := wide_lt b0 (b q2 h1)
  have c2 := wide_lt c1 (b q3 h2)
  have c3 := wide_lt c2 (b q5 h3)
  have d1 := wide_lt b0 (b q2 (n1 h1))
  have d2 := wide_lt d1 (b q3 (n1 h2))
  have d3 := wide_lt d2 (b q5 (n1 h3))
  simp only [pbO, c_PRIMES, List.zip_cons_cons, List.zip_nil_right, forL_cons, forL_nil, max0, liftO, r q2 h1, r q3 h2, r q5 h3, r q7 h4, r q2 (n1 h1), r q3 (n1 h2), r q5 (n1 h3), r q7 (n1 h4), sbO, pur_opt,
    gd_y (mul_ok3 b0 (b q2 h1) (by decide) (by decide) (by decide)), gd_y (mul_ok3 c1 (b q3 h2) (by decide) (by decide) (by decide)), gd_y (mul_ok3 c2 (b q5 h3) (by decide) (by decide) (by decide)), gd_y (mul_ok3 c3 (b q7 h4) (by decide) (by decide) (by decide)),
    gd_y (mul_ok3 b0 (b q2 (n1 h1)) (by decide) (by decide) (by decide)), gd_y (mul_ok3 d1 (b q3 (n1 h2)) (by decide) (by decide) (by decide)), gd_y (mul_ok3 d2 (b q5 (n1 h3)) (by decide) (by decide) (by decide)), gd_y (mul_ok3 d3 (b q7 (n1 h4)) (by decide) (by decide) (by decide)), andThen_nx]
  show some (_, _) = _
  unfold sm
  simp only [Int.one_mul, Int.mul_assoc]
theorem not_dvd {p m : Int} (hp : 0 < p) (hm : m % p ≠ 0) (e : Nat) : p ^ e * m % p ^ (e + 1) ≠ 0 := by
  rw [Int.pow_succ, Int.mul_emod_mul_of_pos _ _ (pw_pos hp e)]
  intro z
  rcases Int.mul_eq_zero.mp z with h | h
  · have := pw_pos hp e; omega
  · exact hm h
theorem is_dvd {p m : Int} {e j : Nat} (h : j < e) : p ^ e * m % p ^ (j + 1) = 0 := by
  have : p ^ e = p ^ (j + 1) * p ^ (e - (j + 1)) := by rw [← Int.pow_add]; congr 1; omega
  rw [this, Int.mul_assoc]
  exact Int.mul_emod_right _ _
end K05


set_option Elab.async false
set_option linter.all false
set_option maxRecDepth 100000
set_option maxHeartbeats 1000000
namespace K05
open PySem PySem.Spec PyProof.Rows L2 ON
open PyData (strOk)
/-! ### what is read of signs: words that go on, and rows behind -/
def Rd (cs : List Nat) (xs : List Str) (rs : List (List Str)) : Prop := ∀ R row a, due (go none cs) R row a = .inr (R ++ (row ++ xs) :: rs)
theorem Rd.nil : Rd [] [] [] := fun R row a => by rw [go, due, List.append_nil]
theorem go_one {c : Nat} (h : cl c = none) (cs : List Nat) : go none (c :: cs) = [c] :: go none cs := by rw [go, h]
theorem cl32 : cl 32 = none := by decide +kernel
theorem cl10 : cl 10 = none := by decide +kernel
theorem cl47 : cl 47 = none := by decide +kernel
theorem Rd.blank {cs : List Nat} {xs : List Str} {rs : List (List Str)} (h : Rd cs xs rs) : Rd (32 :: cs) xs rs := fun R row a => by
  rw [go_one cl32, due, show st1 R row [32] = some (R, row) from rfl]
  exact h R row _
theorem Rd.nl {cs : List Nat} {xs : List Str} {rs : List (List Str)} (h : Rd cs xs rs) : Rd (10 :: cs) [] (xs :: rs) := fun R row a => by
  rw [go_one cl10, due, show st1 R row [10] = some (R ++ [row], []) from rfl]
  show due _ (R ++ [row]) [] _ = _
  rw [h]; simp
/-- a word, and the sort of its signs -/
def Wd (w : List Nat) (k : Option Bool) : Prop := isw w = true ∧ ((k = none ∧ w = [47]) ∨ ∃ b, k = some b ∧ w ≠ [] ∧ ∀ c ∈ w, cl c = some b)
theorem Wd.ne {w : List Nat} {k : Option Bool} (h : Wd w k) : w ≠ [] := by
  rcases h.2 with ⟨_, rfl⟩ | ⟨_, _, h, _⟩
  · simp
  · exact h
theorem Wd.no {w : List Nat} {k : Option Bool} (h : Wd w k) : w ≠ [10] ∧ w ≠ [32] := by
  rcases h.2 with ⟨_, rfl⟩ | ⟨b, _, _, h⟩
  · decide
  · constructor
    · intro e; subst e; have := h 10 (.head _); rw [cl10] at this; cases this
    · intro e; subst e; have := h 32 (.head _); rw [cl32] at this; cases this
def Sep (k : Option Bool) (cs : List Nat) : Prop := k = none ∨ ∀ c r, cs = c :: r → cl c ≠ k
theorem go_wd {w : List Nat} {k : Option Bool} (hw : Wd w k) {cs : List Nat} (hs : Sep k cs) : go none (w ++ cs) = w :: go none cs := by
  rcases hw.2 with ⟨_, rfl⟩ | ⟨b, rfl, hne, hc⟩
  · exact go_one cl47 cs
  · cases w with
    | nil => exact absurd rfl hne
    | cons c r =>
      have h0 : cl c = some b := hc c (.head _)
      have hr : ∀ x ∈ r, decide (cl x = some b) = true := fun x hx => decide_eq_true (hc x (.tail _ hx))
      have hs2 : cs.takeWhile (fun c => decide (cl c = some b)) = [] ∧ cs.dropWhile (fun c => decide (cl c = some b)) = cs := by
        cases cs with
        | nil => exact ⟨rfl, rfl⟩
        | cons x y =>
          rcases hs with hs | hs
          · cases hs
          · have z : decide (cl x = some b) = false := decide_eq_false (hs x y rfl)
            rw [List.takeWhile_cons, List.dropWhile_cons, z]; exact ⟨rfl, rfl⟩
      show go none (c :: (r ++ cs)) = _
      rw [go, h0]
      show go (some ([c], b)) (r ++ cs) = _
      rw [go_some, List.takeWhile_append_of_pos hr, List.dropWhile_append_of_pos hr, hs2.1, hs2.2, List.append_nil]
      rfl
theorem Rd.word {w : List Nat} {k : Option Bool} (hw : Wd w k) {cs : List Nat} {xs : List Str} {rs : List (List Str)} (hs : Sep k cs) (h : Rd cs xs rs) : Rd (w ++ cs) (T w :: xs) rs := fun R row a => by
  have e : st1 R row w = some (R, row ++ [T w]) := by
    unfold st1
    rw [if_neg hw.no.1, if_neg hw.no.2, if_pos hw.1]
  rw [go_wd hw hs, due, e]
  show due _ R (row ++ [T w]) _ = _
  rw [h, List.append_assoc]; rfl
/-- a text written so far, its words, the sort of its end -/
def Ct (t : List Nat) (ws : List Str) (e : Option Bool) : Prop := ∀ cs xs rs, Rd cs xs rs → Sep e cs → Rd (t ++ cs) (ws ++ xs) rs
def bl (n : Nat) : List Nat := List.replicate n 32
theorem Rd.bl {cs : List Nat} {xs : List Str} {rs : List (List Str)} (h : Rd cs xs rs) : ∀ n, Rd (bl n ++ cs) xs rs
  | 0 => h
  | n + 1 => by
    show Rd (32 :: (K05.bl n ++ cs)) xs rs
    exact (Rd.bl h n).blank
theorem Ct.start (n : Nat) : Ct (bl n) [] none := fun cs xs rs h _ => h.bl n
theorem Ct.gap {t : List Nat} {ws : List Str} {e : Option Bool} (h : Ct t ws e) (n : Nat) : Ct (t ++ bl (n + 1)) ws none := fun cs xs rs hr _ => by
  rw [List.append_assoc]
  refine h _ xs rs (hr.bl (n + 1)) ?_
  cases e with
  | none => exact .inl rfl
  | some b =>
    refine .inr fun c r hc => ?_
    cases hc
    rw [cl32]; simp
theorem Ct.word {t : List Nat} {ws : List Str} {e : Option Bool} (h : Ct t ws e) {w : List Nat} {k : Option Bool} (hw : Wd w k) (hs : Sep e w) : Ct (t ++ w) (ws ++ [T w]) k := fun cs xs rs hr hk => by
  rw [List.append_assoc, List.append_assoc]
  refine h _ _ rs (Rd.word hw hk hr) ?_
  rcases hs with hs | hs
  · exact .inl hs
  · refine .inr fun c r hc => ?_
    have := hw.ne
    cases w with
    | nil => exact absurd rfl this
    | cons x y => cases hc; exact hs _ _ rfl
/-- a line -/
def Ln (t : List Nat) (ws : List Str) : Prop := ∀ cs xs rs, Rd cs xs rs → (cs = [] ∨ ∃ r, cs = 10 :: r) → Rd (t ++ cs) (ws ++ xs) rs
theorem Ct.line {t : List Nat} {ws : List Str} {e : Option Bool} (h : Ct t ws e) : Ln t ws := fun cs xs rs hr hc => by
  refine h cs xs rs hr ?_
  cases e with
  | none => exact .inl rfl
  | some b =>
    refine .inr fun c r z => ?_
    rcases hc with hc | ⟨y, hc⟩
    · rw [hc] at z; cases z
    · rw [hc] at z; cases z; rw [cl10]; simp
theorem Ct.ends {t : List Nat} {ws : List Str} {e : Option Bool} (h : Ct t ws e) (n : Nat) : Ln (t ++ bl n) ws := by
  cases n with
  | zero => rw [show bl 0 = [] from rfl, List.append_nil]; exact h.line
  | succ n => exact (h.gap n).line
def rowsOf : List (Str × List Str) → List (List Str)
  | [] => [[]]
  | p :: ps => p.2 :: ps.map (·.2)
theorem join_rd : ∀ ps : List (Str × List Str), (∀ p ∈ ps, Ln p.1.cps.toList p.2) → ∃ xs rs, rowsOf ps = xs :: rs ∧ Rd (TL.joinL [10] (ps.map fun p => p.1.cps.toList)) xs rs
  | [], _ => ⟨[], [], rfl, Rd.nil⟩
  | [p], h => by
    refine ⟨p.2, [], rfl, ?_⟩
    have := h p (.head _) [] [] [] Rd.nil (.inl rfl)
    rw [List.append_nil, List.append_nil] at this
    exact this
  | p :: q :: ps, h => by
    obtain ⟨xs, rs, e, hr⟩ := join_rd (q :: ps) fun z hz => h z (.tail _ hz)
    refine ⟨p.2, xs :: rs, by rw [← e]; rfl, ?_⟩
    have := h p (.head _) _ _ _ hr.nl (.inr ⟨_, rfl⟩)
    rw [List.append_nil] at this
    simpa [TL.joinL] using this
theorem joinNl_l (ys : List Str) : (Txt.join ("\n" : Str) ys).cps.toList = TL.joinL [10] (ys.map fun y => y.cps.toList) := by rw [TL.join_eq]; exact TL.tl_join ("\n" : Str) ys
theorem joinNl_len : ∀ ps : List (List Nat), (TL.joinL [10] ps).length ≤ (ps.map fun p => p.length + 1).sum
  | [] => Nat.le_refl _
  | [p] => by simp [TL.joinL]
  | p :: q :: r => by
    have := joinNl_len (q :: r)
    rw [TL.joinL, List.length_append, List.length_append, List.map_cons, List.sum_cons]
    simp only [List.length_singleton]
    omega
/-- the words of a text of lines -/
theorem words_of (ps : List (Str × List Str)) (h : ∀ p ∈ ps, Ln p.1.cps.toList p.2) (hl : (ps.map fun p => p.1.length + 1).sum ≤ 8000) : m_text_words (An.of (Txt.join ("\n" : Str) (ps.map (·.1)))) = some (.ok (rowsOf ps)) := by
  have e : Txt.join ("\n" : Str) (ps.map (·.1)) = T (TL.joinL [10] (ps.map fun p => p.1.cps.toList)) := by
    rw [← T_eta (Txt.join _ _), joinNl_l, List.map_map]; rfl
  have hl2 : (TL.joinL [10] (ps.map fun p => p.1.cps.toList)).length ≤ 8000 := by
    refine Nat.le_trans (joinNl_len _) ?_
    rw [List.map_map]
    refine Nat.le_trans (Nat.le_of_eq ?_) hl
    congr 1
  obtain ⟨xs, rs, e2, hr⟩ := join_rd ps h
  rw [e, words_eq _ hl2, hr [] [] 0, e2]; rfl
end K05

set_option Elab.async false
set_option linter.all false
set_option maxRecDepth 100000
set_option maxHeartbeats 1000000
namespace K05
open PySem PySem.Spec PyProof.Rows L2 ON
open PyData (strOk)
/-! ### numbers written -/
theorem strI_l (n : Nat) : strI (n : Int) = T (TL.numL n) := by
  rw [← T_eta (strI (n : Int))]
  congr 1
  exact TL.tl_num n
theorem num_head : ∀ n : Nat, (TL.numL n).head? = some 48 → n = 0 := by
  intro n
  induction n using Nat.strongRecOn with
  | _ n ih =>
    intro h
    by_cases c : n < 10
    · rw [TL.numL_lt c] at h
      simp only [List.head?_cons, Option.some.injEq] at h
      omega
    · rw [TL.numL_step (by omega)] at h
      have hne := TL.numL_ne (n / 10)
      have h2 : (TL.numL (n / 10)).head? = some 48 := by
        cases e : TL.numL (n / 10) with
        | nil => exact absurd e hne
        | cons x y => rw [e] at h; exact h
      have := ih (n / 10) (by omega) h2
      omega
theorem Gb_fig : ∀ c, 48 ≤ c ∧ c ≤ 57 → Gb c = true := by
  intro c h
  have key : ∀ c, c < 58 → 48 ≤ c → Gb c = true := by decide +kernel
  exact key c (by omega) h.1
theorem num_G (n : Nat) : (TL.numL n).all Gb = true := List.all_eq_true.mpr fun c hc => Gb_fig c (TL.numL_digits n c hc)
theorem num_len {n : Nat} (h : n < 100000) : 1 ≤ (TL.numL n).length ∧ (TL.numL n).length ≤ 5 := by
  have h1 := TL.numL_ne n
  have h2 := TL.numL_len (n := n) (k := 5) (by decide) h
  refine ⟨?_, h2⟩
  cases e : TL.numL n with
  | nil => exact absurd e h1
  | cons x y => simp
theorem num_b {n : Nat} (h : n < 100000) : (decide (1 ≤ (TL.numL n).length) && (decide ((TL.numL n).length ≤ 5) && ((TL.numL n).all Gb && (decide (TL.numL n = [48]) || decide ((TL.numL n).head? ≠ some 48))))) = true := by
  obtain ⟨h1, h2⟩ := num_len h
  rw [decide_eq_true h1, decide_eq_true h2, num_G]
  by_cases c : n = 0
  · subst c
    have : TL.numL 0 = [48] := TL.numL_lt (by decide)
    rw [this]; rfl
  · have : (TL.numL n).head? ≠ some 48 := fun z => c (num_head n z)
    rw [decide_eq_true this, Bool.or_true]; rfl
theorem num_is {n : Nat} (h : n < 100000) : m_is_number (strI (n : Int)) = some true := by
  rw [strI_l, number_eq _ (by have := (num_len h).2; omega), num_b h]
theorem num_wd {n : Nat} (h : n < 100000) : Wd (TL.numL n) (some false) := by
  refine ⟨?_, .inr ⟨false, rfl, TL.numL_ne n, fun c hc => cl_f.mpr (List.all_eq_true.mp (num_G n) c hc)⟩⟩
  unfold isw
  rw [num_b h, Bool.or_true, Bool.or_true]
theorem num_int {n : Nat} (h : n < 100000) : intT (strI (n : Int)) = some (n : Int) := PySem.W.KIN.num_reads (n := (n : Int)) (by omega) (by omega)
theorem num_le {n : Nat} (h : n < 100000) : (strI (n : Int)).length ≤ 5 := by
  rw [strI_l, T_len]; exact (num_len h).2
/-! ### names -/
structure Nm (a : Str) : Prop where
  l1 : 1 ≤ a.length
  l8 : a.length ≤ 8
  lb : a.cps.toList.all Lb = true
  no : a ∉ c_TOLD_WORDS.l
theorem Lb_low : ∀ c, 97 ≤ c ∧ c ≤ 122 → Lb c = true := by
  intro c h
  have key : ∀ c, c < 123 → 97 ≤ c → Lb c = true := by decide +kernel
  exact key c (by omega) h.1
theorem Nm.mk2 {y : Str} (h1 : 1 ≤ y.length) (h8 : y.length ≤ 8) (hl : Low y) (hf : Few y) : Nm y := by
  refine ⟨h1, h8, List.all_eq_true.mpr fun c hc => Lb_low c (of_decide_eq_true (List.all_eq_true.mp hl c hc)), fun hm => ?_⟩
  have key : ∀ x ∈ c_TOLD_WORDS.l, ¬ Few x := by decide +kernel
  exact key y hm hf
theorem Nm.is {a : Str} (h : Nm a) : m_is_name a = some true := by
  have hl : a.cps.toList.length ≤ 8 := h.l8
  have hl1 : 1 ≤ a.cps.toList.length := h.l1
  have e : m_is_letters a = some true := by
    rw [← T_eta a, letters_eq _ (by omega), h.lb, decide_eq_true hl, decide_eq_true hl1]; rfl
  unfold m_is_name mb_is_name
  simp only [pur_opt, sbO, liftO, e, cnd_t, decide_eq_false h.no]
  rfl
theorem Nm.wd {a : Str} (h : Nm a) : Wd a.cps.toList (some true) := by
  have hl : a.cps.toList.length ≤ 8 := h.l8
  have hl1 : 1 ≤ a.cps.toList.length := h.l1
  refine ⟨?_, .inr ⟨true, rfl, fun z => ?_, fun c hc => cl_t.mpr (List.all_eq_true.mp h.lb c hc)⟩⟩
  · unfold isw
    rw [h.lb, decide_eq_true hl, decide_eq_true hl1]
    simp
  · rw [z] at hl1; cases hl1
theorem Nm.ne {a x : Str} (h : Nm a) (hx : x ∈ c_TOLD_WORDS.l) : x ≠ a := fun e => h.no (e ▸ hx)
theorem num_ne {x : Str} (n : Nat) (hx : x.cps.toList.all Gb = false) : x ≠ strI (n : Int) := fun e => by
  subst e
  rw [strI_l, T_l, num_G] at hx; cases hx
/-! ### what a row's word may be -/
theorem fits_name {w : Str} (h : Nm w) : m_fits w "NAME" = some true := by
  unfold m_fits mb_fits
  simp only [pur_opt, sbO, liftO, h.is, decide_true, cnd_t, andThen_rt]; rfl
theorem bounded_eq {n : Int} {k : Str} {lo hi : Int} (hk : List.lookup k c_BOUNDS.l = some (lo, hi)) (h : lo ≤ n ∧ n ≤ hi) (hp : k = "PART" → m_is_product n = some true) : m_is_bounded n k = some true := by
  unfold m_is_bounded mb_is_bounded
  simp only [pur_opt, sbO, liftO, hk, decide_eq_true h.1, decide_eq_true h.2, cnd_t]
  by_cases c : k = "PART"
  · rw [hp c, decide_eq_true c]; simp only [Bool.not_true, cnd_f, sbO, fr]
  · rw [decide_eq_false c]; simp only [Bool.not_false, cnd_t, sbO, fr]
theorem fits_num {w k : Str} {n lo hi : Int} (h0 : k ≠ "NAME") (hk : List.lookup k c_BOUNDS.l = some (lo, hi)) (h1 : m_is_number w = some true) (h2 : intT w = some n) (h3 : w.length ≤ 640) (h : lo ≤ n ∧ n ≤ hi) (hp : k = "PART" → m_is_product n = some true) : m_fits w k = some true := by
  unfold m_fits mb_fits
  simp only [pur_opt, sbO, liftO, decide_eq_false h0, cnd_f, andThen_nx, hk, Option.isSome_some, cnd_t, h1, gd_y h3, h2, bounded_eq hk h hp, andThen_rt]
  rfl
theorem fits_word {w : Str} (h0 : w ≠ "NAME") (hk : List.lookup w c_BOUNDS.l = none) : m_fits w w = some true := by
  unfold m_fits mb_fits
  simp only [pur_opt, sbO, liftO, decide_eq_false h0, cnd_f, andThen_nx, hk, Option.isSome_none, decide_true]
  rfl
theorem ratio_one {a b c d : Nat} (h : a + b + c + d < 100) : m_ratio_of (sm a b c d) 1 = some (Rt a b c d) := by
  have := ratio_of_eq (a := a) (b := b) (c := c) (d := d) (a' := 0) (b' := 0) (c' := 0) (d' := 0) (by omega) (by decide)
  simpa [sm] using this
theorem product_eq {a b c d : Nat} (h : a + b + c + d < 100) : m_is_product (sm a b c d) = some true := by
  unfold m_is_product mb_is_product
  have e := fraction_eq (w := a) (x := b) (y := c) (z := d) (by omega)
  have e2 : m_fraction (Rt a b c d) = some (sm a b c d, 1) := by
    rw [e]
    simp [sm]
  have sh : Shp (enc (sm a b c d, (1 : Int))) = true := EqD.shp (sm a b c d, (1 : Int)) rfl
  simp only [pur_opt, sbO, liftO, ratio_one h, e2, gd_y (And.intro sh sh), EqD.deqv, decide_true]
  rfl
/-! ### rows that stand -/
def Fits : List Str → List Str → Prop
  | [], _ => True
  | _ :: _, [] => False
  | w :: ws, k :: ks => m_fits w k = some true ∧ Fits ws ks
theorem Fits.get : ∀ {ws ks : List Str} (i : Nat) (w : Str), Fits ws ks → ws[i]? = some w → ∃ k, ks[i]? = some k ∧ m_fits w k = some true
  | [], _, i, w, _, h => by cases h
  | _ :: _, [], _, _, h, _ => h.elim
  | x :: ws, k :: ks, 0, w, h, e => by cases e; exact ⟨k, rfl, h.1⟩
  | x :: ws, k :: ks, i + 1, w, h, e => Fits.get (ws := ws) (ks := ks) i w h.2 e
theorem zip_mem {r : List Str} {x : Int × Str} (h : x ∈ List.zip (upTo 0 r.length 1) r) : ∃ i : Nat, i < r.length ∧ x.1 = (i : Int) ∧ r[i]? = some x.2 := by
  obtain ⟨i, hi, e⟩ := List.getElem_of_mem h
  have e2 : (List.zip (upTo 0 r.length 1) r)[i]? = some x := by rw [List.getElem?_eq_getElem hi, e]
  rw [List.getElem?_zip_eq_some] at e2
  obtain ⟨h1, h2⟩ := e2
  obtain ⟨h3, h4⟩ := upTo_get h1
  exact ⟨i, h3, by rw [h4]; omega, h2⟩
theorem wrong_none {r : List Str} {w0 : Str} {shape : Tl Str} {ends : Tl Int} (h0 : atI r 0 = some w0) (hs : List.lookup w0 c_SHAPES.l = some shape) (he : List.lookup w0 c_ENDS.l = some ends) (hm : ((r.length : Nat) : Int) ∈ ends.l) (hf : Fits r shape.l) : m_wrong_word r = some none := by
  unfold m_wrong_word mb_wrong_word
  simp only [pur_opt, sbO, liftO, h0, hs, he, Option.isSome_some, Bool.not_true, cnd_f, andThen_nx]
  rw [forL_all (f := fun _ _ => ()) _ _ (fun _ => True) trivial (fun u x _ hx => ⟨?hb, trivial⟩), andThen_nx, decide_eq_true hm]
  · simp only [cnd_t, sbO, fr]
  case hb =>
    obtain ⟨i, hi, e1, e2⟩ := zip_mem hx
    obtain ⟨k, hk, fk⟩ := hf.get i _ e2
    have hl : i < shape.l.length := (List.getElem?_eq_some_iff.mp hk).1
    have e3 : decide (x.1 = ((shape.l.length : Nat) : Int)) = false := decide_eq_false (by omega)
    rw [e3, e1, atN _ i hl, hk]
    simp only [cnd_f, sbO, fk, Bool.not_true, andThen_nx]
/-! ### number behind -/
theorem idxS_app {mark : Str} : ∀ (pre rest : List Str), mark ∉ pre → idxS (pre ++ mark :: rest) mark = some pre.length
  | [], rest, _ => by rw [List.nil_append, idxS, if_pos rfl]; rfl
  | x :: pre, rest, h => by
    rw [List.cons_append, idxS, if_neg (fun z : x = mark => h (by rw [z]; exact .head _)), idxS_app pre rest fun z => h (.tail _ z)]; rfl
theorem behind_yes {pre rest : List Str} {mark x : Str} {n d : Int} (hm : mark ∉ pre) (hx : intT x = some n) (hl : x.length ≤ 640) : m_number_behind (pre ++ mark :: x :: rest) mark d = some n := by
  unfold m_number_behind mb_number_behind
  have h1 : mark ∈ pre ++ mark :: x :: rest := List.mem_append.mpr (.inr (.head _))
  have h2 : atI (pre ++ mark :: x :: rest) ((pre.length : Nat) + 1 : Int) = some x := by
    have e := atN (pre ++ mark :: x :: rest) (pre.length + 1) (by rw [List.length_append, List.length_cons, List.length_cons]; omega)
    rw [List.getElem?_append_right (by omega), show pre.length + 1 - pre.length = 1 by omega] at e
    exact e
  simp only [pur_opt, sbO, liftO, decide_eq_true h1, cnd_t, idxS_app pre _ hm, h2, gd_y hl, hx, andThen_rt]
  rfl
theorem behind_no {r : List Str} {mark : Str} {d : Int} (hm : mark ∉ r) : m_number_behind r mark d = some d := by
  unfold m_number_behind mb_number_behind
  simp only [pur_opt, sbO, liftO, decide_eq_false hm, cnd_f, andThen_nx]
  rfl
end K05

set_option Elab.async false
set_option linter.all false
set_option maxRecDepth 100000
set_option maxHeartbeats 1000000
namespace K05
open PySem PySem.Spec PyProof.Rows L2 ON
open PyData (strOk)
abbrev Nt := T4 Str Str Int Int
abbrev Ti := T6 Str Str Str (Tl Int) Int Int
/-! ### the three sorts of rows, and what they tell -/
def NoteRow (r : List Str) (n : Nt) : Prop := ∃ (a b : Str) (x y : Nat), Nm a ∧ Nm b ∧ x ≤ 9999 ∧ y ≤ 9999 ∧ r = [("note" : Str), a, b, strI (x : Int), strI (y : Int)] ∧ n = ⟨a, b, (x : Int), (y : Int)⟩
def HomeRow (r : List Str) (h : Str × Str) : Prop := ∃ a b : Str, Nm a ∧ Nm b ∧ r = [("home" : Str), a, b] ∧ h = (a, b)
/-- a product -/
def Prd (n : Nat) (a b c d : Nat) : Prop := (n : Int) = sm a b c d ∧ a + b + c + d < 100 ∧ 1 ≤ n ∧ n ≤ 9999
def Head (w a b : Str) (hd : List Str) (ra : Tl Int) : Prop := (w = "held" ∧ hd = [w, a, b] ∧ ra = ⟨[0, 0, 0, 0]⟩) ∨ ((w = "pure" ∨ w = "step") ∧ ∃ p q a1 b1 c1 d1 a2 b2 c2 d2 : Nat, Prd p a1 b1 c1 d1 ∧ Prd q a2 b2 c2 d2 ∧ hd = [w, a, b, strI (p : Int), "/", strI (q : Int)] ∧ ra = Rt (a1 - a2) (b1 - b2) (c1 - c2) (d1 - d2))
def Tail (tl : List Str) (bd wt : Int) : Prop := (tl = [] ∧ bd = 50 ∧ wt = 1) ∨ ∃ x : Nat, x ≤ 9999 ∧ bd = (x : Int) ∧ ((tl = [("bend" : Str), strI (x : Int)] ∧ wt = 1) ∨ ∃ y : Nat, 1 ≤ y ∧ y ≤ 9 ∧ wt = (y : Int) ∧ tl = [("bend" : Str), strI (x : Int), "weight", strI (y : Int)])
def TieRow (r : List Str) (t : Ti) : Prop := ∃ (w a b : Str) (hd tl : List Str) (ra : Tl Int) (bd wt : Int), Nm a ∧ Nm b ∧ Head w a b hd ra ∧ Tail tl bd wt ∧ r = hd ++ tl ∧ t = ⟨w, a, b, ra, bd, wt⟩
theorem lk_beat : List.lookup ("BEAT" : Str) c_BOUNDS.l = some (0, 9999) := by decide +kernel
theorem lk_part : List.lookup ("PART" : Str) c_BOUNDS.l = some (1, 9999) := by decide +kernel
theorem lk_bend : List.lookup ("BEND" : Str) c_BOUNDS.l = some (0, 9999) := by decide +kernel
theorem lk_weight : List.lookup ("WEIGHT" : Str) c_BOUNDS.l = some (1, 9) := by decide +kernel
theorem fits_beat {x : Nat} (h : x ≤ 9999) : m_fits (strI (x : Int)) "BEAT" = some true :=
  fits_num (by decide +kernel) lk_beat (num_is (by omega)) (num_int (by omega)) (Nat.le_trans (num_le (by omega)) (by decide)) (by omega) fun h => absurd h (by decide +kernel)
theorem fits_bend {x : Nat} (h : x ≤ 9999) : m_fits (strI (x : Int)) "BEND" = some true :=
  fits_num (by decide +kernel) lk_bend (num_is (by omega)) (num_int (by omega)) (Nat.le_trans (num_le (by omega)) (by decide)) (by omega) fun h => absurd h (by decide +kernel)
theorem fits_weight {x : Nat} (h0 : 1 ≤ x) (h : x ≤ 9) : m_fits (strI (x : Int)) "WEIGHT" = some true :=
  fits_num (by decide +kernel) lk_weight (num_is (by omega)) (num_int (by omega)) (Nat.le_trans (num_le (by omega)) (by decide)) (by omega) fun h => absurd h (by decide +kernel)
theorem fits_part {n a b c d : Nat} (h : Prd n a b c d) : m_fits (strI (n : Int)) "PART" = some true := by
  obtain ⟨e, h1, h2, h3⟩ := h
  refine fits_num (by decide +kernel) lk_part (num_is (by omega)) (num_int (by omega)) (Nat.le_trans (num_le (by omega)) (by decide)) (by omega) fun _ => ?_
  rw [e]; exact product_eq h1
theorem fw_note : m_fits "note" "note" = some true := fits_word (by decide +kernel) (by decide +kernel)
theorem fw_held : m_fits "held" "held" = some true := fits_word (by decide +kernel) (by decide +kernel)
theorem fw_pure : m_fits "pure" "pure" = some true := fits_word (by decide +kernel) (by decide +kernel)
theorem fw_step : m_fits "step" "step" = some true := fits_word (by decide +kernel) (by decide +kernel)
theorem fw_home : m_fits "home" "home" = some true := fits_word (by decide +kernel) (by decide +kernel)
theorem fw_bend : m_fits "bend" "bend" = some true := fits_word (by decide +kernel) (by decide +kernel)
theorem fw_weight : m_fits "weight" "weight" = some true := fits_word (by decide +kernel) (by decide +kernel)
theorem fw_mark : m_fits "/" "/" = some true := fits_word (by decide +kernel) (by decide +kernel)
theorem lkS_note : List.lookup ("note" : Str) c_SHAPES.l = some ⟨["note", "NAME", "NAME", "BEAT", "BEAT"]⟩ := rfl
theorem lkS_held : List.lookup ("held" : Str) c_SHAPES.l = some ⟨["held", "NAME", "NAME", "bend", "BEND", "weight", "WEIGHT"]⟩ := rfl
theorem lkS_pure : List.lookup ("pure" : Str) c_SHAPES.l = some ⟨["pure", "NAME", "NAME", "PART", "/", "PART", "bend", "BEND", "weight", "WEIGHT"]⟩ := rfl
theorem lkS_step : List.lookup ("step" : Str) c_SHAPES.l = some ⟨["step", "NAME", "NAME", "PART", "/", "PART", "bend", "BEND", "weight", "WEIGHT"]⟩ := rfl
theorem lkS_home : List.lookup ("home" : Str) c_SHAPES.l = some ⟨["home", "NAME", "NAME"]⟩ := rfl
theorem lkE_note : List.lookup ("note" : Str) c_ENDS.l = some ⟨[5]⟩ := rfl
theorem lkE_held : List.lookup ("held" : Str) c_ENDS.l = some ⟨[3, 5, 7]⟩ := rfl
theorem lkE_pure : List.lookup ("pure" : Str) c_ENDS.l = some ⟨[6, 8, 10]⟩ := rfl
theorem lkE_step : List.lookup ("step" : Str) c_ENDS.l = some ⟨[6, 8, 10]⟩ := rfl
theorem lkE_home : List.lookup ("home" : Str) c_ENDS.l = some ⟨[3]⟩ := rfl
theorem NoteRow.wrong {r : List Str} {n : Nt} (h : NoteRow r n) : m_wrong_word r = some none := by
  obtain ⟨a, b, x, y, ha, hb, hx, hy, rfl, rfl⟩ := h
  exact wrong_none (w0 := "note") rfl lkS_note lkE_note (.head _) ⟨fw_note, fits_name ha, fits_name hb, fits_beat hx, fits_beat hy, trivial⟩
theorem HomeRow.wrong {r : List Str} {n : Str × Str} (h : HomeRow r n) : m_wrong_word r = some none := by
  obtain ⟨a, b, ha, hb, rfl, rfl⟩ := h
  exact wrong_none (w0 := "home") rfl lkS_home lkE_home (.head _) ⟨fw_home, fits_name ha, fits_name hb, trivial⟩
theorem TieRow.wrong {r : List Str} {t : Ti} (h : TieRow r t) : m_wrong_word r = some none := by
  obtain ⟨w, a, b, hd, tl, ra, bd, wt, ha, hb, h1, h2, rfl, rfl⟩ := h
  have fa := fits_name ha
  have fb := fits_name hb
  rcases h1 with ⟨rfl, rfl, rfl⟩ | ⟨hw, p, q, a1, b1, c1, d1, a2, b2, c2, d2, hp, hq, rfl, rfl⟩
  · rcases h2 with ⟨rfl, rfl, rfl⟩ | ⟨x, hx, rfl, ⟨rfl, rfl⟩ | ⟨y, y1, y9, rfl, rfl⟩⟩
    · exact wrong_none (w0 := "held") rfl lkS_held lkE_held (.head _) ⟨fw_held, fa, fb, trivial⟩
    · exact wrong_none (w0 := "held") rfl lkS_held lkE_held (.tail _ (.head _)) ⟨fw_held, fa, fb, fw_bend, fits_bend hx, trivial⟩
    · exact wrong_none (w0 := "held") rfl lkS_held lkE_held (.tail _ (.tail _ (.head _))) ⟨fw_held, fa, fb, fw_bend, fits_bend hx, fw_weight, fits_weight y1 y9, trivial⟩
  · have fp := fits_part hp
    have fq := fits_part hq
    rcases hw with rfl | rfl
    · rcases h2 with ⟨rfl, rfl, rfl⟩ | ⟨x, hx, rfl, ⟨rfl, rfl⟩ | ⟨y, y1, y9, rfl, rfl⟩⟩
      · exact wrong_none (w0 := "pure") rfl lkS_pure lkE_pure (.head _) ⟨fw_pure, fa, fb, fp, fw_mark, fq, trivial⟩
      · exact wrong_none (w0 := "pure") rfl lkS_pure lkE_pure (.tail _ (.head _)) ⟨fw_pure, fa, fb, fp, fw_mark, fq, fw_bend, fits_bend hx, trivial⟩
      · exact wrong_none (w0 := "pure") rfl lkS_pure lkE_pure (.tail _ (.tail _ (.head _))) ⟨fw_pure, fa, fb, fp, fw_mark, fq, fw_bend, fits_bend hx, fw_weight, fits_weight y1 y9, trivial⟩
    · rcases h2 with ⟨rfl, rfl, rfl⟩ | ⟨x, hx, rfl, ⟨rfl, rfl⟩ | ⟨y, y1, y9, rfl, rfl⟩⟩
      · exact wrong_none (w0 := "step") rfl lkS_step lkE_step (.head _) ⟨fw_step, fa, fb, fp, fw_mark, fq, trivial⟩
      · exact wrong_none (w0 := "step") rfl lkS_step lkE_step (.tail _ (.head _)) ⟨fw_step, fa, fb, fp, fw_mark, fq, fw_bend, fits_bend hx, trivial⟩
      · exact wrong_none (w0 := "step") rfl lkS_step lkE_step (.tail _ (.tail _ (.head _))) ⟨fw_step, fa, fb, fp, fw_mark, fq, fw_bend, fits_bend hx, fw_weight, fits_weight y1 y9, trivial⟩
/-! ### what they tell -/
theorem NoteRow.told {r : List Str} {n : Nt} (h : NoteRow r n) : m_told_note r = some n := by
  obtain ⟨a, b, x, y, ha, hb, hx, hy, rfl, rfl⟩ := h
  have e1 : atI [("note" : Str), a, b, strI (x : Int), strI (y : Int)] 1 = some a := rfl
  have e2 : atI [("note" : Str), a, b, strI (x : Int), strI (y : Int)] 2 = some b := rfl
  have e3 : atI [("note" : Str), a, b, strI (x : Int), strI (y : Int)] 3 = some (strI (x : Int)) := rfl
  have e4 : atI [("note" : Str), a, b, strI (x : Int), strI (y : Int)] 4 = some (strI (y : Int)) := rfl
  have l1 : (strI (x : Int)).length ≤ 640 := Nat.le_trans (num_le (by omega)) (by decide)
  have l2 : (strI (y : Int)).length ≤ 640 := Nat.le_trans (num_le (by omega)) (by decide)
  unfold m_told_note mb_told_note
  simp only [pur_opt, sbO, liftO, e1, e2, e3, e4, gd_y l1, gd_y l2, num_int (show x < 100000 by omega), num_int (show y < 100000 by omega)]
  rfl
theorem cut3 (w a b : Str) (rest : List Str) : cutL (w :: a :: b :: rest) none (some 3) = [w, a, b] := by
  unfold cutL
  rw [show (3 : Int) = ((3 : Nat) : Int) from rfl, HT.sIx_nat, HT.sIx_none]
  rw [Nat.min_eq_left (show 3 ≤ (w :: a :: b :: rest).length by simp), Nat.sub_zero]; rfl
theorem told_tie_eq {w a b : Str} {rest : List Str} {ra : Tl Int} {bd wt : Int} (hr : (w = "held" ∧ ra = ⟨[0, 0, 0, 0]⟩) ∨ (w ≠ "held" ∧ ∃ (x y : Str) (p q : Int), atI (w :: a :: b :: rest) 3 = some x ∧ atI (w :: a :: b :: rest) 5 = some y ∧ intT x = some p ∧ intT y = some q ∧ x.length ≤ 640 ∧ y.length ≤ 640 ∧ m_ratio_of p q = some ra))
    (h1 : m_number_behind (w :: a :: b :: rest) "bend" 50 = some bd) (h2 : m_number_behind (w :: a :: b :: rest) "weight" 1 = some wt) : m_told_tie (w :: a :: b :: rest) = some ⟨w, a, b, ra, bd, wt⟩ := by
  have e3 : l3 [w, a, b] = some ⟨w, a, b⟩ := rfl
  unfold m_told_tie mb_told_tie
  rcases hr with ⟨rfl, rfl⟩ | ⟨hw, x, y, p, q, i1, i2, i3, i4, i5, i6, i7⟩
  · simp only [pur_opt, sbO, liftO, cut3, e3, gd_y (show ([0, 0, 0, 0] : List Int).length ≤ 1000 by decide), decide_true, Bool.not_true, cnd_f, andThen_nx, h1, h2]
    rfl
  · simp only [pur_opt, sbO, liftO, cut3, e3, gd_y (show ([0, 0, 0, 0] : List Int).length ≤ 1000 by decide), decide_eq_false hw, Bool.not_false, cnd_t, i1, i2, gd_y i5, gd_y i6, i3, i4, i7, andThen_nx, h1, h2]
    rfl
theorem num_no {n : Nat} {x : Str} (hx : x ∈ c_TOLD_WORDS.l) : x ≠ strI (n : Int) := by
  have key : ∀ x ∈ c_TOLD_WORDS.l, x.cps.toList.all Gb = false := by decide +kernel
  exact num_ne n (key x hx)
theorem inT_bend : ("bend" : Str) ∈ c_TOLD_WORDS.l := by decide +kernel
theorem inT_weight : ("weight" : Str) ∈ c_TOLD_WORDS.l := by decide +kernel
theorem mem3 {x w a b : Str} (h1 : x ≠ w) (h2 : x ≠ a) (h3 : x ≠ b) : x ∉ [w, a, b] := by simp [h1, h2, h3]
theorem Head.no {w a b : Str} {hd : List Str} {ra : Tl Int} (h : Head w a b hd ra) (ha : Nm a) (hb : Nm b) : ("bend" : Str) ∉ hd ∧ ("weight" : Str) ∉ hd := by
  have k1 : ∀ w ∈ (["held", "pure", "step", "/"] : List Str), ("bend" : Str) ≠ w ∧ ("weight" : Str) ≠ w := by decide +kernel
  have m1 := k1 "/" (by decide +kernel)
  rcases h with ⟨rfl, rfl, rfl⟩ | ⟨hw, p, q, a1, b1, c1, d1, a2, b2, c2, d2, hp, hq, rfl, rfl⟩
  · have w1 := k1 "held" (by decide +kernel)
    exact ⟨mem3 w1.1 (ha.ne inT_bend) (hb.ne inT_bend), mem3 w1.2 (ha.ne inT_weight) (hb.ne inT_weight)⟩
  · have w1 : ("bend" : Str) ≠ w ∧ ("weight" : Str) ≠ w := by
      rcases hw with rfl | rfl
      · exact k1 "pure" (by decide +kernel)
      · exact k1 "step" (by decide +kernel)
    constructor
    · simp [w1.1, ha.ne inT_bend, hb.ne inT_bend, m1.1, num_no (n := p) inT_bend, num_no (n := q) inT_bend]
    · simp [w1.2, ha.ne inT_weight, hb.ne inT_weight, m1.2, num_no (n := p) inT_weight, num_no (n := q) inT_weight]
theorem Tail.behind {hd tl : List Str} {bd wt : Int} (h : Tail tl bd wt) (h1 : ("bend" : Str) ∉ hd) (h2 : ("weight" : Str) ∉ hd) : m_number_behind (hd ++ tl) "bend" 50 = some bd ∧ m_number_behind (hd ++ tl) "weight" 1 = some wt := by
  have wb : ("weight" : Str) ≠ "bend" := by decide +kernel
  rcases h with ⟨rfl, rfl, rfl⟩ | ⟨x, hx, rfl, ⟨rfl, rfl⟩ | ⟨y, y1, y9, rfl, rfl⟩⟩
  · rw [List.append_nil]
    exact ⟨behind_no h1, behind_no h2⟩
  · exact ⟨behind_yes h1 (num_int (by omega)) (Nat.le_trans (num_le (by omega)) (by decide)), behind_no (by simp [h2, wb, num_no (n := x) inT_weight])⟩
  · refine ⟨behind_yes h1 (num_int (by omega)) (Nat.le_trans (num_le (by omega)) (by decide)), ?_⟩
    have e : hd ++ [("bend" : Str), strI (x : Int), "weight", strI (y : Int)] = (hd ++ [("bend" : Str), strI (x : Int)]) ++ ("weight" : Str) :: strI (y : Int) :: [] := by simp
    rw [e]
    exact behind_yes (by simp [h2, wb, num_no (n := x) inT_weight]) (num_int (by omega)) (Nat.le_trans (num_le (by omega)) (by decide))
theorem TieRow.told {r : List Str} {t : Ti} (h : TieRow r t) : m_told_tie r = some t := by
  obtain ⟨w, a, b, hd, tl, ra, bd, wt, ha, hb, h1, h2, rfl, rfl⟩ := h
  obtain ⟨n1, n2⟩ := h1.no ha hb
  obtain ⟨b1, b2⟩ := h2.behind n1 n2
  rcases h1 with ⟨rfl, rfl, rfl⟩ | ⟨hw, p, q, a1, b1', c1, d1, a2, b2', c2, d2, hp, hq, rfl, rfl⟩
  · exact told_tie_eq (rest := tl) (.inl ⟨rfl, rfl⟩) b1 b2
  · have hw2 : w ≠ "held" := by rcases hw with rfl | rfl <;> decide +kernel
    obtain ⟨p1, p2, p3, p4⟩ := hp
    obtain ⟨q1, q2, q3, q4⟩ := hq
    refine told_tie_eq (rest := strI (p : Int) :: "/" :: strI (q : Int) :: tl) (.inr ⟨hw2, strI (p : Int), strI (q : Int), p, q, ?_, ?_, num_int (by omega), num_int (by omega), Nat.le_trans (num_le (by omega)) (by decide), Nat.le_trans (num_le (by omega)) (by decide), ?_⟩) b1 b2
    · exact atN _ 3 (by simp only [List.length_cons]; omega)
    · exact atN _ 5 (by simp only [List.length_cons]; omega)
    · rw [p1, q1]; exact ratio_of_eq (by omega) (by omega)
end K05

set_option Elab.async false
set_option linter.all false
set_option maxRecDepth 100000
set_option maxHeartbeats 1000000
namespace K05
open PySem PySem.Spec PyProof.Rows L2 ON
open PyData (strOk)
theorem xbnd_ok {α τ l ρ : Type} (a : α) (f : α → Option (Fl τ l (Xr ρ))) : xbnd (some (.ok a)) f = f a := by unfold xbnd; rw [sbO]
theorem Nm.ok {a : Str} (h : Nm a) : strOk a = true := by
  show a.cps.all _ = true
  rw [← Array.all_toList, List.all_eq_true]
  intro c hc
  have h1 := List.all_eq_true.mp h.lb c hc
  have key : ∀ c ∈ LT.cps.toList, c < 0x110000 := by decide +kernel
  exact decide_eq_true (key c (of_decide_eq_true h1))
/-! ### a song's rows -/
inductive RS : List (List Str) → List Nt → List Ti → List (Str × Str) → Prop
  | nil : RS [] [] [] []
  | note {rs ns ts hs r n} : RS rs ns ts hs → NoteRow r n → RS (rs ++ [r]) (ns ++ [n]) ts hs
  | tie {rs ns ts hs r t} : RS rs ns ts hs → TieRow r t → RS (rs ++ [r]) ns (ts ++ [t]) hs
  | home {rs ns ts hs r h} : RS rs ns ts hs → HomeRow r h → RS (rs ++ [r]) ns ts (hs ++ [h])
theorem compL_app {α β : Type} (p : α → Option Bool) (g : α → Option β) : ∀ xs ys : List α, compL p g (xs ++ ys) = (compL p g xs).bind fun a => (compL p g ys).map (a ++ ·)
  | [], ys => by
    rw [List.nil_append, compL_nil, pur_opt]
    show _ = (compL p g ys).map ([] ++ ·)
    cases compL p g ys <;> rfl
  | x :: xs, ys => by
    rw [List.cons_append, compL_cons, compL_cons]
    simp only [bnd_opt, pur_opt, compL_app p g xs ys]
    cases p x with
    | none => rfl
    | some b =>
      cases b with
      | false => rfl
      | true =>
        cases g x with
        | none => rfl
        | some y =>
          cases compL p g xs with
          | none => rfl
          | some a =>
            cases compL p g ys with
            | none => rfl
            | some c => rfl
theorem compL_one_t {α β : Type} {p : α → Option Bool} {g : α → Option β} {x : α} {y : β} (h1 : p x = some true) (h2 : g x = some y) : compL p g [x] = some [y] := by
  rw [compL_cons, h1, sbO]
  show Mn.bnd (g x) _ = _
  rw [h2, sbO, compL_nil, pur_opt, sbO, pur_opt]
theorem compL_one_f {α β : Type} {p : α → Option Bool} {g : α → Option β} {x : α} (h1 : p x = some false) : compL p g [x] = some [] := by
  rw [compL_cons, h1, sbO]
  show compL p g [] = _
  rw [compL_nil, pur_opt]
theorem compL_at {α β : Type} {p : α → Option Bool} {g : α → Option β} {xs : List α} {x : α} {as : List β} (h : compL p g xs = some as) {y : β} (h1 : p x = some true) (h2 : g x = some y) : compL p g (xs ++ [x]) = some (as ++ [y]) := by
  rw [compL_app, h, compL_one_t h1 h2]; rfl
theorem compL_af {α β : Type} {p : α → Option Bool} {g : α → Option β} {xs : List α} {x : α} {as : List β} (h : compL p g xs = some as) (h1 : p x = some false) : compL p g (xs ++ [x]) = some as := by
  rw [compL_app, h, compL_one_f h1]
  show some (as ++ []) = _
  rw [List.append_nil]
theorem RS.notes {rs ns ts hs} (h : RS rs ns ts hs) {p : List Str → Option Bool} {g : List Str → Option Nt} (h1 : ∀ r n, NoteRow r n → p r = some true ∧ g r = some n) (h2 : ∀ r n, TieRow r n → p r = some false) (h3 : ∀ r n, HomeRow r n → p r = some false) : compL p g rs = some ns := by
  induction h with
  | nil => rw [compL_nil, pur_opt]
  | note _ z ih => exact compL_at ih (h1 _ _ z).1 (h1 _ _ z).2
  | tie _ z ih => exact compL_af ih (h2 _ _ z)
  | home _ z ih => exact compL_af ih (h3 _ _ z)
theorem RS.ties {rs ns ts hs} (h : RS rs ns ts hs) {p : List Str → Option Bool} {g : List Str → Option Ti} (h1 : ∀ r n, NoteRow r n → p r = some false) (h2 : ∀ r n, TieRow r n → p r = some true ∧ g r = some n) (h3 : ∀ r n, HomeRow r n → p r = some false) : compL p g rs = some ts := by
  induction h with
  | nil => rw [compL_nil, pur_opt]
  | note _ z ih => exact compL_af ih (h1 _ _ z)
  | tie _ z ih => exact compL_at ih (h2 _ _ z).1 (h2 _ _ z).2
  | home _ z ih => exact compL_af ih (h3 _ _ z)
theorem RS.homes {rs ns ts hs} (h : RS rs ns ts hs) {p : List Str → Option Bool} {g : List Str → Option (Str × Str)} (h1 : ∀ r n, NoteRow r n → p r = some false) (h2 : ∀ r n, TieRow r n → p r = some false) (h3 : ∀ r n, HomeRow r n → p r = some true ∧ g r = some n) : compL p g rs = some hs := by
  induction h with
  | nil => rw [compL_nil, pur_opt]
  | note _ z ih => exact compL_af ih (h1 _ _ z)
  | tie _ z ih => exact compL_af ih (h2 _ _ z)
  | home _ z ih => exact compL_at ih (h3 _ _ z).1 (h3 _ _ z).2
/-- the rows of the ties, with them -/
theorem RS.pairs {rs ns ts hs} (h : RS rs ns ts hs) {p : List Str → Option Bool} {g : List Str → Option (List Str)} (h1 : ∀ r n, NoteRow r n → p r = some false) (h2 : ∀ r n, TieRow r n → p r = some true ∧ g r = some r) (h3 : ∀ r n, HomeRow r n → p r = some false) : ∃ told, compL p g rs = some told ∧ told.length = ts.length ∧ ∀ z ∈ List.zip told ts, TieRow z.1 z.2 := by
  induction h with
  | nil => exact ⟨[], by rw [compL_nil, pur_opt], rfl, fun _ z => nomatch z⟩
  | note _ z ih =>
    obtain ⟨told, e, l, i⟩ := ih
    exact ⟨told, compL_af e (h1 _ _ z), l, i⟩
  | tie _ z ih =>
    obtain ⟨told, e, l, i⟩ := ih
    refine ⟨_, compL_at e (h2 _ _ z).1 (h2 _ _ z).2, by rw [List.length_append, List.length_append, l]; rfl, fun y hy => ?_⟩
    rw [List.zip_append l] at hy
    rcases List.mem_append.mp hy with hy | hy
    · exact i y hy
    · rw [List.zip_cons_cons, List.zip_nil_right] at hy
      rw [List.mem_singleton.mp hy]; exact z
  | home _ z ih =>
    obtain ⟨told, e, l, i⟩ := ih
    exact ⟨told, compL_af e (h3 _ _ z), l, i⟩
theorem RS.len {rs ns ts hs} (h : RS rs ns ts hs) : ns.length ≤ rs.length ∧ ts.length ≤ rs.length ∧ hs.length ≤ rs.length := by
  induction h with
  | nil => simp
  | _ _ _ ih => simp only [List.length_append, List.length_singleton]; omega
theorem RS.row {rs ns ts hs} (h : RS rs ns ts hs) : ∀ r ∈ rs, m_wrong_word r = some none := by
  induction h with
  | nil => exact fun _ h => nomatch h
  | note _ z ih => exact fun r hr => by rcases List.mem_append.mp hr with hr | hr; · exact ih r hr
                                        · rw [List.mem_singleton.mp hr]; exact z.wrong
  | tie _ z ih => exact fun r hr => by rcases List.mem_append.mp hr with hr | hr; · exact ih r hr
                                       · rw [List.mem_singleton.mp hr]; exact z.wrong
  | home _ z ih => exact fun r hr => by rcases List.mem_append.mp hr with hr | hr; · exact ih r hr
                                        · rw [List.mem_singleton.mp hr]; exact z.wrong
abbrev Sg := T3 (Tl Nt) (Tl Ti) (Option (Str × Str))
/-! ### read -/
theorem need_eq {r : List Str} (h : m_wrong_word r = some none) (i : Int) : m_need_row r i = some (.ok ()) := by
  unfold m_need_row mb_need_row
  simp only [pur_opt, sbO, liftO, h, Option.isSome_none, cnd_f, andThen_nx]
  rfl
theorem at_0 {α : Type} (x : α) (xs : List α) : atI (x :: xs) 0 = some x := atN (x :: xs) 0 (by rw [List.length_cons]; omega)
theorem note_0 {r : List Str} {n : Nt} (h : NoteRow r n) : atI r 0 = some ("note" : Str) := by
  obtain ⟨a, b, x, y, ha, hb, hx, hy, rfl, rfl⟩ := h; rfl
theorem home_0 {r : List Str} {n : Str × Str} (h : HomeRow r n) : atI r 0 = some ("home" : Str) ∧ atI r 1 = some n.1 ∧ atI r 2 = some n.2 := by
  obtain ⟨a, b, ha, hb, rfl, rfl⟩ := h; exact ⟨rfl, rfl, rfl⟩
theorem tie_0 {r : List Str} {t : Ti} (h : TieRow r t) : ∃ w : Str, (w = "held" ∨ w = "pure" ∨ w = "step") ∧ atI r 0 = some w := by
  obtain ⟨w, a, b, hd, tl, ra, bd, wt, ha, hb, h1, h2, rfl, rfl⟩ := h
  rcases h1 with ⟨rfl, rfl, rfl⟩ | ⟨hw, p, q, a1, b1', c1, d1, a2, b2', c2, d2, hp, hq, rfl, rfl⟩
  · exact ⟨_, .inl rfl, at_0 _ _⟩
  · exact ⟨w, .inr hw, at_0 _ _⟩
theorem tie_word {w : Str} (h : w = "held" ∨ w = "pure" ∨ w = "step") : w ≠ "note" ∧ w ≠ "home" ∧ w ∈ c_TIE_WORDS.l := by
  rcases h with rfl | rfl | rfl <;> decide +kernel
theorem compL_filter {α : Type} {p : α → Option Bool} {g : α → Option α} {q : α → Bool} : ∀ xs : List α, (∀ x ∈ xs, p x = some (q x) ∧ g x = some x) → compL p g xs = some (xs.filter q)
  | [], _ => by rw [compL_nil, pur_opt]; rfl
  | x :: xs, h => by
    obtain ⟨h1, h2⟩ := h x (.head _)
    have ih := compL_filter xs fun y hy => h y (.tail _ hy)
    rw [compL_cons, h1, sbO, List.filter_cons]
    cases q x with
    | false => exact ih
    | true =>
      show Mn.bnd (g x) _ = _
      rw [h2, sbO, ih, sbO, pur_opt]; rfl
theorem read_eq {x : Str} {rows : List (List Str)} {rs ns ts hs} (hw : m_text_words (An.of x) = some (.ok rows)) (h : RS rs ns ts hs) (hf : rows.filter (fun r => !r.isEmpty) = rs) (hl : rows.length ≤ 100000) : m_read x = some (.ok (⟨⟨ns⟩, ⟨ts⟩, hs.head?⟩ : Sg)) := by
  have hl2 : rs.length ≤ 100000 := by
    rw [← hf]; exact Nat.le_trans (List.length_filter_le _ _) hl
  have hn : ∀ r ∈ rows, r.isEmpty = false → m_wrong_word r = some none := fun r hr he => h.row r (by rw [← hf]; exact List.mem_filter.mpr ⟨hr, by rw [he]; rfl⟩)
  unfold m_read mb_read
  simp only [pur_opt, sbO, liftO, hw, xbnd_ok]
  rw [forL_all (f := fun _ _ => ()) _ _ (fun _ => True) trivial (fun u z _ hz => ⟨?hb, trivial⟩), andThen_nx]
  case hb =>
    obtain ⟨i, hi, e1, e2⟩ : ∃ i : Nat, i < rows.length ∧ z.1 = (i : Int) ∧ rows[i]? = some z.2 := by
      obtain ⟨i, hi, e⟩ := List.getElem_of_mem hz
      have e2 : (List.zip (upTo 0 rows.length 1) rows)[i]? = some z := by rw [List.getElem?_eq_getElem hi, e]
      rw [List.getElem?_zip_eq_some] at e2
      obtain ⟨h1, h2⟩ := e2
      obtain ⟨h3, h4⟩ := upTo_get h1
      exact ⟨i, h3, by rw [h4]; omega, h2⟩
    have hm : z.2 ∈ rows := List.mem_of_getElem? e2
    cases c : z.2.isEmpty with
    | true => simp only [Bool.not_true, cnd_f, andThen_nx]
    | false => simp only [Bool.not_false, cnd_t, need_eq (hn _ hm c), xbnd_ok, andThen_nx]
  simp only [gd_y hl]
  rw [compL_filter (q := fun r => !r.isEmpty) rows (fun r _ => ⟨rfl, rfl⟩), sbO, hf]
  simp only [gd_y hl2]
  rw [h.notes (fun r n hr => ⟨by simp only [note_0 hr, sbO, decide_true], hr.told⟩) (fun r t hr => ?t1) (fun r t hr => by simp only [(home_0 hr).1, sbO]; decide +kernel), sbO,
    h.ties (fun r t hr => by simp only [note_0 hr, sbO]; decide +kernel) (fun r t hr => ⟨?t2, hr.told⟩) (fun r t hr => by simp only [(home_0 hr).1, sbO]; decide +kernel), sbO,
    h.homes (fun r t hr => by simp only [note_0 hr, sbO]; decide +kernel) (fun r t hr => ?t3) (fun r t hr => ⟨by simp only [(home_0 hr).1, sbO, decide_true], by simp only [home_0 hr, sbO]⟩), sbO]
  case t1 =>
    obtain ⟨w, hw, e0⟩ := tie_0 hr
    simp only [e0, sbO, decide_eq_false (tie_word hw).1]
  case t2 =>
    obtain ⟨w, hw, e0⟩ := tie_0 hr
    simp only [e0, sbO, decide_eq_true (tie_word hw).2.2]
  case t3 =>
    obtain ⟨w, hw, e0⟩ := tie_0 hr
    simp only [e0, sbO, decide_eq_false (tie_word hw).2.1]
  cases hs with
  | nil =>
    simp only [List.isEmpty_nil, Bool.not_true, cnd_f, sbO]
    rfl
  | cons z zs =>
    have e0 : atI (z :: zs) 0 = some z := at_0 _ _
    simp only [List.isEmpty_cons, Bool.not_false, cnd_t, e0, sbO]
    rfl
end K05

set_option Elab.async false
set_option linter.all false
set_option maxRecDepth 100000
set_option maxHeartbeats 1000000
namespace K05
open PySem PySem.Spec PyProof.Rows L2 ON
open PyData (strOk)
/-! ### how often, by the law; ratios -/
theorem often_turn {p P : Int} (hp : 2 ≤ p ∧ p ≤ 7) {e : Nat} {m : Int} (hP : P = p ^ e * m) (he : e < 100000) (hm : m % p ≠ 0)
    {c1 : Int × Int → Option Bool} {b1 : Int × Int → Option (Fl (Int × Int) (Int × Int) (List Int))} {τ : Type}
    (h1 : ∀ j g, 0 < g → c1 (j, g) = some (decide (P % g = 0))) (h2 : ∀ j g, b1 (j, g) = some (.nx (j + 1, g * p)))
    {k2 : Int × Int → Option (Fl τ (List Int) (List Int))} {r : Option (Fl τ (List Int) (List Int))} (hk : ∀ g, k2 ((e : Int), g) = r) :
    (andThen (whl c1 b1 FU (0, p) : Option (Fl (Int × Int) (List Int) (List Int))) k2) = r := by
  subst hP
  have hF : FU = 1000000000 := rfl
  have pp : ∀ n : Nat, 0 < p ^ n := fun n => pw_pos (by omega) n
  rw [andThen_whl (I := fun t => ∃ j : Nat, j ≤ e ∧ t = ((j : Int), p ^ (j + 1))) (mu := fun t => (e - t.1).toNat) (r := r)]
  · exact ⟨0, Nat.zero_le _, by rw [Int.pow_succ, Int.pow_zero, Int.one_mul]; rfl⟩
  · show ((e : Int) - 0).toNat < FU
    rw [hF]; omega
  · rintro t ⟨j, hj, rfl⟩ hc
    rw [h1 _ _ (pp _)] at hc
    have hlt : j < e := by
      refine Nat.lt_of_le_of_ne hj fun z => ?_
      subst z
      simp only [Option.some.injEq, decide_eq_true_eq] at hc
      exact not_dvd (by omega) hm j hc
    refine ⟨(((j + 1 : Nat) : Int), p ^ (j + 1 + 1)), ?_, ⟨j + 1, hlt, rfl⟩, ?_⟩
    · rw [h2, Int.pow_succ p (j + 1)]; rfl
    · show ((e : Int) - ((j + 1 : Nat) : Int)).toNat < ((e : Int) - (j : Int)).toNat
      omega
  · rintro t ⟨j, hj, rfl⟩
    rw [h1 _ _ (pp _)]
    cases decide (p ^ e * m % p ^ (j + 1) = 0) <;> simp
  rintro t ⟨j, hj, rfl⟩ hc
  rw [h1 _ _ (pp _)] at hc
  have hje : j = e := by
    refine Nat.le_antisymm hj (Nat.le_of_not_lt fun z => ?_)
    rw [is_dvd z] at hc
    simp at hc
  subst hje
  exact hk _
theorem often_eq {a b c d : Nat} (h : a + b + c + d < 100000) : m__law_often (sm a b c d) = some [(a : Int), (b : Int), (c : Int), (d : Int)] := by
  unfold m__law_often mb__law_often
  obtain ⟨m2, e2, _, n2, _⟩ := sm2 a b c d
  obtain ⟨m3, e3, _, n3, _⟩ := sm3 a b c d
  obtain ⟨m5, e5, _, n5, _⟩ := sm5 a b c d
  obtain ⟨m7, e7, _, n7, _⟩ := sm7 a b c d
  have mk : ∀ {g p : Int}, (2 ≤ p ∧ p ≤ 7) → ON.MulOk g p := fun hp => mul_ok2 (by omega)
  have q2 : (2 : Int) ≤ 2 ∧ (2 : Int) ≤ 7 := by decide
  have q3 : (2 : Int) ≤ 3 ∧ (3 : Int) ≤ 7 := by decide
  have q5 : (2 : Int) ≤ 5 ∧ (5 : Int) ≤ 7 := by decide
  have q7 : (2 : Int) ≤ 7 ∧ (7 : Int) ≤ 7 := by decide
  simp only [pur_opt, sbO, gd_y (show ([] : List Int).length ≤ 1000 by decide), gd_y (show ([2, 3, 5, 7] : List Int).length ≤ 1000 by decide), forL_cons, forL_nil]
  rw [often_turn (r := some (.nx [(a : Int)])) q2 e2 (by omega) n2 (fun j g hg => by simp only [gd_y hg, sbO]) (fun j g => by simp only [gd_y (mk q2), sbO]) (fun g => by simp only [gd_y (show ([] : List Int).length < 100000 by decide), sbO, List.nil_append]), sbO]
  simp only []
  rw [often_turn (r := some (.nx [(a : Int), (b : Int)])) q3 e3 (by omega) n3 (fun j g hg => by simp only [gd_y hg, sbO]) (fun j g => by simp only [gd_y (mk q3), sbO]) (fun g => by simp only [gd_y (show ([(a : Int)] : List Int).length < 100000 by simp), sbO, List.cons_append, List.nil_append]), sbO]
  simp only []
  rw [often_turn (r := some (.nx [(a : Int), (b : Int), (c : Int)])) q5 e5 (by omega) n5 (fun j g hg => by simp only [gd_y hg, sbO]) (fun j g => by simp only [gd_y (mk q5), sbO]) (fun g => by simp only [gd_y (show ([(a : Int), (b : Int)] : List Int).length < 100000 by simp), sbO, List.cons_append, List.nil_append]), sbO]
  simp only []
  rw [often_turn (r := some (.nx [(a : Int), (b : Int), (c : Int), (d : Int)])) q7 e7 (by omega) n7 (fun j g hg => by simp only [gd_y hg, sbO]) (fun j g => by simp only [gd_y (mk q7), sbO]) (fun g => by simp only [gd_y (show ([(a : Int), (b : Int), (c : Int)] : List Int).length < 100000 by simp), sbO, List.cons_append, List.nil_append]), sbO]
  simp only [andThen_nx]
  rfl
theorem law_ratio_eq {a b c d a' b' c' d' : Nat} (h : a + b + c + d < 100000) (h' : a' + b' + c' + d' < 100000) : m__law_ratio (sm a b c d) (sm a' b' c' d') = some (Rt (a - a') (b - b') (c - c') (d - d')) := by
  unfold m__law_ratio mb__law_ratio
  simp only [pur_opt, sbO, liftO, often_eq h, often_eq h', List.zip_cons_cons, List.zip_nil_right, compL_cons, compL_nil]
  rw [gd_y (by simp), sbO, sbO]; rfl
/-! ### what is drawn -/
section
variable {cl : List Int} {nm : Option (List Str)} {k : Int}
theorem part_W {P : Int → Int → Prop} (hc : cl.length ≤ 1000) (hk : 0 ≤ k ∧ k < 1000000000) (h : ∀ (n a b c d : Nat) k', Prd n a b c d → k ≤ k' → k' ≤ k + 10 → P (n : Int) k') : W (m__law_part cl nm) k P := by
  unfold m__law_part
  refine W.finS ?_
  unfold mb__law_part
  simp only [pbS, gd_y (show ([2, 3, 5, 7] : List Int).length ≤ 1000 by decide)]
  refine W.andThen (W.bnd (W.bnd (W.nx hc (by omega) (by decide) fun n n0 n1 => ?_)))
  refine W.gd (by omega) (W.pur ?_)
  have hl := upTo_len 0 1 n.toNat
  refine W.forL (I := fun i t k' => (∃ a b c d : Nat, t = sm a b c d ∧ a + b + c + d ≤ i ∧ 1 ≤ t ∧ t ≤ 9999) ∧ k' = k + 1 + i) _ 0 _ _ ⟨⟨0, 0, 0, 0, rfl, Nat.le_refl _, by decide, by decide⟩, by omega⟩ (fun i t k' x _ hi it hx => ?_) (fun t k' it => ?_)
  · obtain ⟨⟨a, b, c, d, e, hs, t1, t2⟩, rfl⟩ := it
    rw [hl] at hi
    refine W.bnd (W.bnd (W.nx hc (by omega) (by decide) fun r r0 r1 => ?_))
    obtain ⟨p, e1, m1⟩ := at_mem ([2, 3, 5, 7] : List Int) r r0 r1
    refine W.lift e1 ?_
    have hp : p = 2 ∨ p = 3 ∨ p = 5 ∨ p = 7 := by simpa using m1
    have mk : ON.MulOk t p := mul_ok2 (by omega)
    simp only [gd_y mk, pbS]
    have hx : ∃ a' b' c' d' : Nat, t * p = sm a' b' c' d' ∧ a' + b' + c' + d' ≤ i + 1 := by
      rcases hp with rfl | rfl | rfl | rfl
      · exact ⟨a + 1, b, c, d, by rw [e, show (2 : Int) = sm 1 0 0 0 from rfl, sm_mul]; rfl, by omega⟩
      · exact ⟨a, b + 1, c, d, by rw [e, show (3 : Int) = sm 0 1 0 0 from rfl, sm_mul]; rfl, by omega⟩
      · exact ⟨a, b, c + 1, d, by rw [e, show (5 : Int) = sm 0 0 1 0 from rfl, sm_mul]; rfl, by omega⟩
      · exact ⟨a, b, c, d + 1, by rw [e, show (7 : Int) = sm 0 0 0 1 from rfl, sm_mul]; rfl, by omega⟩
    by_cases c9 : t * p ≤ 9999
    · rw [decide_eq_true c9, cnd_t]
      obtain ⟨a', b', c', d', e2, h2⟩ := hx
      have pos : 1 ≤ t * p := by rw [e2]; have := sm_pos a' b' c' d'; omega
      simp only [pbS]
      exact W.pur ⟨_, rfl, ⟨a', b', c', d', e2, h2, pos, c9⟩, by omega⟩
    · rw [decide_eq_false c9, cnd_f]
      simp only [pbS]
      exact W.pur ⟨_, rfl, ⟨a, b, c, d, e, by omega, t1, t2⟩, by omega⟩
  · obtain ⟨⟨a, b, c, d, e, hs, t1, t2⟩, rfl⟩ := it
    rw [hl] at *
    refine W.pur ⟨t, rfl, ?_⟩
    have := h t.toNat a b c d (k + 1 + ((0 + n.toNat : Nat) : Int)) ⟨by rw [Int.toNat_of_nonneg (by omega)]; exact e, by omega, by omega, by omega⟩ (by omega) (by omega)
    rwa [Int.toNat_of_nonneg (by omega)] at this
theorem log_ok {n : Nat} (h : n < 100000) : Nat.log2 (Int.natAbs (n : Int)) < 1920 := by
  rw [Int.natAbs_natCast]
  exact PySem.Flt.log2_lt_of (by decide) (Nat.lt_of_lt_of_le (show n < 2 ^ 17 by omega) (Nat.pow_le_pow_right (by decide) (by decide)))
theorem tie_W {some_ : List Str} {P : Ti × List Str → Int → Prop} (hc : cl.length ≤ 1000) (hk : 0 ≤ k ∧ k < 1000000) (hs : some_.length = 24) (hn : ∀ y ∈ some_, Nm y) (h : ∀ t r k', TieRow r t → k ≤ k' → k' ≤ k + 50 → P (t, r) k') : W (m__law_tie cl nm some_) k P := by
  unfold m__law_tie
  refine W.finS ?_
  unfold mb__law_tie
  have l3 : ∀ a b c : Str, ([a, b, c] : List Str).length ≤ 1000 := fun a b c => by simp
  have l4 : ∀ a b c d : Int, ([a, b, c, d] : List Int).length ≤ 1000 := fun a b c d => by simp
  simp only [pbS, gd_y (l3 _ _ _), gd_y (l4 _ _ _ _)]
  refine W.bnd (W.bnd (W.nx hc (by omega) (by decide) fun r r0 r1 => ?_))
  obtain ⟨w, e1, m1⟩ := at_mem (["held", "pure", "step"] : List Str) r r0 r1
  refine W.lift e1 ?_
  refine W.bnd (W.bnd (W.bnd (W.nx hc (by omega) (by omega) fun i i0 i1 => ?_)))
  obtain ⟨a, e2, m2⟩ := at_mem some_ i i0 i1
  refine W.lift e2 ?_
  refine W.bnd (W.bnd (W.nx hc (by omega) (by omega) fun j j0 j1 => ?_))
  obtain ⟨b, e3, m3⟩ := at_mem some_ j j0 j1
  refine W.lift e3 (W.pur ?_)
  have ha := hn a m2
  have hb := hn b m3
  refine W.andThen (W.mono (P := fun f k' => ∃ hd ra, f = .nx (hd, ra) ∧ Head w a b hd ra ∧ hd.length ≤ 6 ∧ k + 3 ≤ k' ∧ k' ≤ k + 23) ?_ fun f k' hf => ?_)
  · by_cases c : w = "held"
    · rw [decide_eq_true c, Bool.not_true, cnd_f]
      exact W.pur ⟨_, _, rfl, .inl ⟨c, rfl, rfl⟩, by simp, by omega, by omega⟩
    · rw [decide_eq_false c, Bool.not_false, cnd_t]
      have hw : w = "pure" ∨ w = "step" := by
        rcases List.mem_cons.mp m1 with m | m
        · exact absurd m c
        rcases List.mem_cons.mp m with m | m
        · exact .inl m
        rcases List.mem_cons.mp m with m | m
        · exact .inr m
        cases m
      refine W.bnd (W.bnd (part_W hc (by omega) fun p a1 b1 c1 d1 k1 hp g1 g2 => ?_))
      refine W.bnd (part_W hc (by omega) fun q a2 b2 c2 d2 k2 hq g3 g4 => W.pur ?_)
      have er : m__law_ratio (p : Int) (q : Int) = some (Rt (a1 - a2) (b1 - b2) (c1 - c2) (d1 - d2)) := by
        rw [hp.1, hq.1]
        have := hp.2.1
        have := hq.2.1
        exact law_ratio_eq (by omega) (by omega)
      have lp := log_ok (n := p) (by have := hp.2.2.2; omega)
      have lq := log_ok (n := q) (by have := hq.2.2.2; omega)
      have ls : ([w, a, b] : List Str).length + ([strI (p : Int), "/", strI (q : Int)] : List Str).length ≤ sizeLine := szl (by simp)
      simp only [er, lsome, pbS, gd_y lp, gd_y lq, gd_y (l3 _ _ _), gd_y ls]
      exact W.pur ⟨_, _, rfl, .inr ⟨hw, p, q, a1, b1, c1, d1, a2, b2, c2, d2, hp, hq, rfl, rfl⟩, by simp, by omega, by omega⟩
  obtain ⟨hd, ra, rfl, hh, hl, g1, g2⟩ := hf
  simp only []
  refine W.bnd (W.bnd (W.bnd (W.bnd (W.bnd (W.nx hc (by omega) (by decide) fun x x0 x1 => W.pur (W.pur (W.gd (l4 _ _ _ _) (W.pur ?_))))))))
  refine W.bnd (W.nx hc (by omega) (by decide) fun y y0 y1 => ?_)
  obtain ⟨bd, e4, m4⟩ := at_mem ([50, x, 0, 9999] : List Int) y y0 y1
  refine W.lift e4 ?_
  have hbd : ∃ z : Nat, bd = (z : Int) ∧ z ≤ 9999 := by
    refine ⟨bd.toNat, ?_, ?_⟩ <;> (simp only [List.mem_cons, List.not_mem_nil, or_false] at m4; omega)
  obtain ⟨z, rfl, hz⟩ := hbd
  refine W.bnd (W.bnd (W.nx hc (by omega) (by decide) fun v v0 v1 => W.pur ?_))
  have hwt : ∃ u : Nat, 1 + v = (u : Int) ∧ 1 ≤ u ∧ u ≤ 9 := ⟨(1 + v).toNat, by omega, by omega, by omega⟩
  obtain ⟨u, eu, u1, u9⟩ := hwt
  rw [eu]
  refine W.bnd (W.nx hc (by omega) (by decide) fun s s0 s1 => ?_)
  by_cases c0 : s = 0
  · rw [decide_eq_true c0, cnd_t]
    refine W.andThen (W.pur ⟨_, rfl, h _ _ _ ⟨w, a, b, hd, [], ra, 50, 1, ha, hb, hh, .inl ⟨rfl, rfl, rfl⟩, (List.append_nil _).symm, rfl⟩ (by omega) (by omega)⟩)
  rw [decide_eq_false c0, cnd_f]
  have lz := log_ok (n := z) (by omega)
  have lu := log_ok (n := u) (by omega)
  refine W.andThen (W.pur ?_)
  by_cases c1 : s = 1
  · rw [decide_eq_true c1, cnd_t]
    have ls : hd.length + (["bend", strI (z : Int)] : List Str).length ≤ sizeLine := szl (by simp; omega)
    simp only [pbS, gd_y lz, gd_y (show (["bend", strI (z : Int)] : List Str).length ≤ 1000 by simp), gd_y ls]
    refine W.andThen (W.pur ⟨_, rfl, h _ _ _ ⟨w, a, b, hd, _, ra, _, 1, ha, hb, hh, .inr ⟨z, hz, rfl, .inl ⟨rfl, rfl⟩⟩, rfl, rfl⟩ (by omega) (by omega)⟩)
  · rw [decide_eq_false c1, cnd_f]
    have ls : hd.length + (["bend", strI (z : Int), "weight", strI (u : Int)] : List Str).length ≤ sizeLine := szl (by simp; omega)
    refine W.andThen (W.pur ?_)
    simp only [pbS, gd_y lz, gd_y lu, gd_y (show (["bend", strI (z : Int), "weight", strI (u : Int)] : List Str).length ≤ 1000 by simp), gd_y ls]
    exact W.pur ⟨_, rfl, h _ _ _ ⟨w, a, b, hd, _, ra, _, _, ha, hb, hh, .inr ⟨z, hz, rfl, .inr ⟨u, u1, u9, rfl, rfl⟩⟩, rfl, rfl⟩ (by omega) (by omega)⟩
end
end K05

set_option Elab.async false
set_option linter.all false
set_option maxRecDepth 100000
set_option maxHeartbeats 1000000
namespace K05
open PySem PySem.Spec PyProof.Rows L2 ON
open PyData (strOk)
theorem app_l (a b : Str) : (a ++ b).cps.toList = a.cps.toList ++ b.cps.toList := by
  show (a.cps ++ b.cps).toList = _
  simp
theorem rep_bl : ∀ n : Nat, n ≤ 3 → (repS (" " : Str) (n : Int)).cps.toList = bl n := by decide +kernel
def srt : Option Bool → Int
  | some true => 0
  | some false => 1
  | none => 2
theorem srt_inj {a b : Option Bool} (h : srt a = srt b) : a = b := by
  rcases a with _ | (_ | _) <;> rcases b with _ | (_ | _) <;> first | rfl | (exact absurd h (by decide))
theorem sort_eq {w : List Nat} {k : Option Bool} (hw : Wd w k) {c : Nat} (hc : c ∈ w) : m__law_sort (sgn c) = some (srt k) := by
  have e4 : decide (sgn c = ("/" : Str)) = decide (c = 47) := decide_eq_decide.mpr (by rw [show ("/" : Str) = T [47] from rfl, sgn_T, T_inj]; simp)
  have g0 : ON.MulOk 2 0 := mul_ok2 (by decide)
  have g1 : ON.MulOk 2 1 := mul_ok2 (by decide)
  unfold m__law_sort mb__law_sort
  simp only [pur_opt, sbO, e4]
  rw [show inStr (sgn c) ("0123456789" : Str) = Gb c from inG c]
  rcases hw.2 with ⟨rfl, rfl⟩ | ⟨b, rfl, _, h⟩
  · rw [List.mem_singleton.mp hc]
    have : Gb 47 = false := by decide +kernel
    rw [this, decide_eq_true rfl]
    simp only [if_true, Bool.false_eq_true, if_false, gd_y g1, sbO]
    rfl
  · have hcl := h c hc
    have n47 : decide (c = 47) = false := decide_eq_false fun z => by subst z; rw [cl47] at hcl; cases hcl
    rw [n47]
    cases b with
    | true =>
      rw [LG (cl_t.mp hcl)]
      simp only [Bool.false_eq_true, if_false, gd_y g0, sbO]
      rfl
    | false =>
      rw [cl_f.mp hcl]
      simp only [if_true, Bool.false_eq_true, if_false, gd_y g0, sbO]
      rfl
theorem sep_of {e k : Option Bool} {w : List Nat} (hw : Wd w k) (h : e ≠ k ∨ w = [47]) : Sep e w := by
  cases e with
  | none => exact .inl rfl
  | some b =>
    refine .inr fun c r hc => ?_
    have m47 : w = [47] → cl c ≠ some b := fun z => by
      rw [z] at hc; cases hc; rw [cl47]; simp
    rcases h with h | h
    · rcases hw.2 with ⟨rfl, z⟩ | ⟨b', rfl, _, hh⟩
      · exact m47 z
      · rw [hh c (by rw [hc]; exact .head _)]
        exact fun z => h z.symm
    · exact m47 h
theorem at_last {α : Type} {l : List α} (h : l ≠ []) : ∃ c, atI l (-1) = some c ∧ c ∈ l := by
  have e : l = l.dropLast ++ [l.getLast h] := (List.dropLast_concat_getLast h).symm
  refine ⟨l.getLast h, ?_, List.getLast_mem h⟩
  conv => lhs; rw [e]
  exact atL _ _
theorem at_first {α : Type} {l : List α} (h : l ≠ []) : ∃ c, atI l 0 = some c ∧ c ∈ l := by
  cases l with
  | nil => exact absurd rfl h
  | cons x y => exact ⟨x, at_0 x y, .head _⟩
/-! ### a row's words -/
def Wk (x : Str) : Prop := x.length ≤ 8 ∧ ∃ k, Wd x.cps.toList k
structure RowB (r : List Str) : Prop where
  w : ∀ x ∈ r, Wk x
  l1 : 1 ≤ r.length
  l10 : r.length ≤ 10
theorem Nm.wk {a : Str} (h : Nm a) : Wk a := ⟨h.l8, _, h.wd⟩
theorem num_wk {n : Nat} (h : n < 100000) : Wk (strI (n : Int)) := ⟨Nat.le_trans (num_le h) (by decide), some false, by rw [strI_l]; exact num_wd h⟩
theorem told_wk : ∀ x ∈ c_TOLD_WORDS.l, Wk x := fun x hx => by
  have key : ∀ x ∈ c_TOLD_WORDS.l, x.length ≤ 8 ∧ isw x.cps.toList = true ∧ x.cps.toList ≠ [] ∧ ∀ c ∈ x.cps.toList, cl c = some true := by decide +kernel
  obtain ⟨h1, h2, h3, h4⟩ := key x hx
  exact ⟨h1, some true, h2, .inr ⟨true, rfl, h3, h4⟩⟩
theorem mark_wk : Wk "/" := ⟨by decide, none, by decide +kernel, .inl ⟨rfl, rfl⟩⟩
theorem tw (x : Str) (h : x ∈ c_TOLD_WORDS.l := by decide +kernel) : Wk x := told_wk x h
theorem NoteRow.rb {r : List Str} {n : Nt} (h : NoteRow r n) : RowB r := by
  obtain ⟨a, b, x, y, ha, hb, hx, hy, rfl, rfl⟩ := h
  refine ⟨fun z hz => ?_, by simp, by simp⟩
  simp only [List.mem_cons, List.not_mem_nil, or_false] at hz
  rcases hz with rfl | rfl | rfl | rfl | rfl
  · exact tw _
  · exact ha.wk
  · exact hb.wk
  · exact num_wk (by omega)
  · exact num_wk (by omega)
theorem HomeRow.rb {r : List Str} {n : Str × Str} (h : HomeRow r n) : RowB r := by
  obtain ⟨a, b, ha, hb, rfl, rfl⟩ := h
  refine ⟨fun z hz => ?_, by simp, by simp⟩
  simp only [List.mem_cons, List.not_mem_nil, or_false] at hz
  rcases hz with rfl | rfl | rfl
  · exact tw _
  · exact ha.wk
  · exact hb.wk
theorem Head.rb {w a b : Str} {hd : List Str} {ra : Tl Int} (h : Head w a b hd ra) (ha : Nm a) (hb : Nm b) : (∀ x ∈ hd, Wk x) ∧ 1 ≤ hd.length ∧ hd.length ≤ 6 := by
  rcases h with ⟨rfl, rfl, rfl⟩ | ⟨hw, p, q, a1, b1, c1, d1, a2, b2, c2, d2, hp, hq, rfl, rfl⟩
  · refine ⟨fun z hz => ?_, by simp, by simp⟩
    simp only [List.mem_cons, List.not_mem_nil, or_false] at hz
    rcases hz with rfl | rfl | rfl
    · exact tw _
    · exact ha.wk
    · exact hb.wk
  · refine ⟨fun z hz => ?_, by simp, by simp⟩
    simp only [List.mem_cons, List.not_mem_nil, or_false] at hz
    have := hp.2.2.2
    have := hq.2.2.2
    rcases hz with rfl | rfl | rfl | rfl | rfl | rfl
    · rcases hw with rfl | rfl <;> exact tw _
    · exact ha.wk
    · exact hb.wk
    · exact num_wk (by omega)
    · exact mark_wk
    · exact num_wk (by omega)
theorem Tail.rb {tl : List Str} {bd wt : Int} (h : Tail tl bd wt) : (∀ x ∈ tl, Wk x) ∧ tl.length ≤ 4 := by
  rcases h with ⟨rfl, rfl, rfl⟩ | ⟨x, hx, rfl, ⟨rfl, rfl⟩ | ⟨y, y1, y9, rfl, rfl⟩⟩
  · exact ⟨fun z hz => (nomatch hz), by simp⟩
  · refine ⟨fun z hz => ?_, by simp⟩
    simp only [List.mem_cons, List.not_mem_nil, or_false] at hz
    rcases hz with rfl | rfl
    · exact tw _
    · exact num_wk (by omega)
  · refine ⟨fun z hz => ?_, by simp⟩
    simp only [List.mem_cons, List.not_mem_nil, or_false] at hz
    rcases hz with rfl | rfl | rfl | rfl
    · exact tw _
    · exact num_wk (by omega)
    · exact tw _
    · exact num_wk (by omega)
theorem TieRow.rb {r : List Str} {t : Ti} (h : TieRow r t) : RowB r := by
  obtain ⟨w, a, b, hd, tl, ra, bd, wt, ha, hb, h1, h2, rfl, rfl⟩ := h
  obtain ⟨a1, a2, a3⟩ := h1.rb ha hb
  obtain ⟨b1, b2⟩ := h2.rb
  refine ⟨fun x hx => ?_, by rw [List.length_append]; omega, by rw [List.length_append]; omega⟩
  rcases List.mem_append.mp hx with hx | hx
  · exact a1 x hx
  · exact b1 x hx
theorem RS.rb {rs ns ts hs} (h : RS rs ns ts hs) : ∀ r ∈ rs, RowB r := by
  induction h with
  | nil => exact fun _ h => nomatch h
  | note _ z ih => exact fun r hr => by rcases List.mem_append.mp hr with hr | hr; · exact ih r hr
                                        · rw [List.mem_singleton.mp hr]; exact z.rb
  | tie _ z ih => exact fun r hr => by rcases List.mem_append.mp hr with hr | hr; · exact ih r hr
                                       · rw [List.mem_singleton.mp hr]; exact z.rb
  | home _ z ih => exact fun r hr => by rcases List.mem_append.mp hr with hr | hr; · exact ih r hr
                                        · rw [List.mem_singleton.mp hr]; exact z.rb
section
variable {cl : List Int} {nm : Option (List Str)} {k : Int}
theorem row_text_W {ws : List Str} {P : Str → Int → Prop} (hc : cl.length ≤ 1000) (hk : 0 ≤ k ∧ k < 1000000) (hr : RowB ws) (h : ∀ t k', Ln t.cps.toList ws → t.length ≤ 104 → k ≤ k' → k' ≤ k + 20 → P t k') : W (m__law_row_text cl nm ws) k P := by
  have l3 : ∀ a b c : Int, ([a, b, c] : List Int).length ≤ 1000 := fun a b c => by simp
  have sp : (" " : Str).length = 1 := rfl
  have l10 := hr.l10
  unfold m__law_row_text
  refine W.finS ?_
  unfold mb__law_row_text
  simp only [pbS, gd_y (l3 _ _ _)]
  refine W.bnd (W.bnd (W.bnd (W.nx hc (by omega) (by decide) fun r r0 r1 => ?_)))
  obtain ⟨n, e1, m1⟩ := at_mem ([0, 0, 3] : List Int) r r0 r1
  refine W.lift e1 ?_
  obtain ⟨n, rfl, hn⟩ : ∃ z : Nat, n = (z : Int) ∧ z ≤ 3 := ⟨n.toNat, by simp only [List.mem_cons, List.not_mem_nil, or_false] at m1; omega, by simp only [List.mem_cons, List.not_mem_nil, or_false] at m1; omega⟩
  refine W.gd ⟨by omega, by omega, by rw [sp]; omega⟩ (W.pur ?_)
  have rl := rep_bl n hn
  have rn : (repS (" " : Str) (n : Int)).length = n := by rw [repS_len, sp]; omega
  generalize repS (" " : Str) (n : Int) = t0 at rl rn
  refine W.andThen (W.forLi (I := fun i t k' => (∃ e, Ct t.cps.toList (ws.take i) e ∧ (∀ j, i = j + 1 → ∃ x, ws[j]? = some x ∧ Wd x.cps.toList e) ∧ (i = 0 → e = none)) ∧ t.length ≤ 3 + 10 * i ∧ k + 1 ≤ k' ∧ k' ≤ k + 1 + i) _ _ ⟨⟨none, by rw [rl]; exact Ct.start n, fun j hj => (nomatch hj), fun _ => rfl⟩, by omega, by omega, by omega⟩ (fun j t k' x hx it => ?_) (fun t k' it => ?_))
  · obtain ⟨⟨e, ct, hpv, he0⟩, tl, k1, k2⟩ := it
    obtain ⟨x1, x2⟩ := upTo_zip hx
    have hj : j < ws.length := (List.getElem?_eq_some_iff.mp x2).1
    have hm : x.2 ∈ ws := List.mem_of_getElem? x2
    obtain ⟨x8, kx, wx⟩ := hr.w _ hm
    have tk : ws.take (j + 1) = ws.take j ++ [x.2] := by rw [List.take_succ, x2]; rfl
    have g8 : x.2.length ≤ sizeLine := szl (by omega)
    cases j with
    | zero =>
      rw [x1, decide_eq_false (by decide), cnd_f]
      refine W.andThen (W.pur ?_)
      have ga : t.length + x.2.length ≤ sizeLine := szl (by omega)
      simp only [gd_y ga, pbS]
      refine W.pur ⟨_, rfl, ⟨kx, ?_, fun j hj => ?_, fun z => (nomatch z)⟩, by rw [Str.length_append]; omega, by omega, by omega⟩
      · rw [tk, app_l]
        have := ct.word wx (.inl (he0 rfl))
        rwa [T_eta] at this
      · cases hj; exact ⟨_, x2, wx⟩
    | succ j =>
      obtain ⟨pw, p2, wp⟩ := hpv j rfl
      have pm : pw ∈ ws := List.mem_of_getElem? p2
      have p8 : pw.length ≤ sizeLine := szl (by have := (hr.w _ pm).1; omega)
      have ep : atI ws (x.1 - 1) = some pw := by
        rw [x1, show ((j + 1 : Nat) : Int) - 1 = (j : Int) by omega, atN ws j (by omega), p2]
      obtain ⟨c1, ec1, mc1⟩ := at_last wp.ne
      obtain ⟨c2, ec2, mc2⟩ := at_first wx.ne
      have dx : decide (x.2 = ("/" : Str)) = decide (x.2.cps.toList = [47]) := decide_eq_decide.mpr (by
        rw [show ("/" : Str) = T [47] from rfl]
        constructor
        · intro z; rw [z]; rfl
        · intro z; rw [← T_eta x.2, z])
      rw [decide_eq_true (show (0 : Int) < x.1 by omega), cnd_t]
      simp only [ep, lsome, pbS, gd_y p8, ec1, sort_eq wp mc1, gd_y g8, ec2, sort_eq wx mc2, dx]
      have key : ∀ (f : Int → Sm (Fl Str Str Str)) (Q : Fl Str Str Str → Int → Prop), (∀ l : Nat, l ≤ 1 → (l = 0 → Sep e x.2.cps.toList) → W (f (l : Int)) k' Q) → W (Mn.bnd (Mn.bnd (cnd (decide (srt e = srt kx)) (Mn.pur (!decide (x.2.cps.toList = [47]))) (Mn.pur false)) fun u => Mn.pur (if u = true then (1 : Int) else 0)) f) k' Q := fun f Q hf => by
        by_cases d1 : srt e = srt kx
        · rw [decide_eq_true d1, cnd_t]
          by_cases d2 : x.2.cps.toList = [47]
          · simp only [pbS, decide_eq_true d2, Bool.not_true, Bool.false_eq_true, if_false]
            exact hf 0 (by decide) fun _ => sep_of wx (.inr d2)
          · simp only [pbS, decide_eq_false d2, Bool.not_false, if_true]
            exact hf 1 (by decide) fun z => (nomatch z)
        · rw [decide_eq_false d1, cnd_f]
          simp only [pbS, Bool.false_eq_true, if_false]
          exact hf 0 (by decide) fun _ => sep_of wx (.inl fun z => d1 (by rw [z]))
      refine W.andThen (key _ _ fun l l1 hs => ?_)
      refine W.bnd (W.bnd (W.bnd (W.bnd (W.nx hc (by omega) (by decide) fun s s0 s1 => ?_))))
      obtain ⟨g, e3, m3⟩ := at_mem ([1, (l : Int), 2] : List Int) s s0 s1
      refine W.lift e3 ?_
      have hg : ∃ z : Nat, g = (z : Int) ∧ z ≤ 2 ∧ (z = 0 → l = 0) := ⟨g.toNat, by simp only [List.mem_cons, List.not_mem_nil, or_false] at m3; omega, by simp only [List.mem_cons, List.not_mem_nil, or_false] at m3; omega, by simp only [List.mem_cons, List.not_mem_nil, or_false] at m3; omega⟩
      obtain ⟨z, rfl, z2, zl⟩ := hg
      refine W.gd ⟨by omega, by omega, by rw [sp]; omega⟩ (W.pur ?_)
      have rl2 := rep_bl z (by omega)
      have rn2 : (repS (" " : Str) (z : Int)).length = z := by rw [repS_len, sp]; omega
      generalize repS (" " : Str) (z : Int) = t1 at rl2 rn2
      refine W.gd (szl (by omega)) (W.pur (W.pur ?_))
      have ga : (t ++ t1).length + x.2.length ≤ sizeLine := szl (by rw [Str.length_append]; omega)
      simp only [gd_y ga, pbS]
      refine W.pur ⟨_, rfl, ⟨kx, ?_, fun j hj => ?_, fun z => (nomatch z)⟩, by rw [Str.length_append, Str.length_append]; omega, by omega, by omega⟩
      · rw [tk, app_l, app_l, rl2]
        cases z with
        | zero =>
          rw [show bl 0 = [] from rfl, List.append_nil]
          have := ct.word wx (hs (zl rfl))
          rwa [T_eta] at this
        | succ z =>
          have := (ct.gap z).word wx (.inl rfl)
          rwa [T_eta] at this
      · cases hj; exact ⟨_, x2, wx⟩
  · obtain ⟨⟨e, ct, hpv, he0⟩, tl, k1, k2⟩ := it
    have hl : (List.zip (upTo 0 ws.length 1) ws).length = ws.length := by rw [List.length_zip, upTo_len, Nat.min_self]
    rw [hl] at ct tl k2
    rw [List.take_length] at ct
    refine W.bnd (W.bnd (W.bnd (W.bnd (W.nx hc (by omega) (by decide) fun s s0 s1 => ?_))))
    obtain ⟨g, e3, m3⟩ := at_mem ([0, 0, 1] : List Int) s s0 s1
    refine W.lift e3 ?_
    have hg : ∃ z : Nat, g = (z : Int) ∧ z ≤ 1 := ⟨g.toNat, by simp only [List.mem_cons, List.not_mem_nil, or_false] at m3; omega, by simp only [List.mem_cons, List.not_mem_nil, or_false] at m3; omega⟩
    obtain ⟨z, rfl, z2⟩ := hg
    refine W.gd ⟨by omega, by omega, by rw [sp]; omega⟩ (W.pur ?_)
    have rl2 := rep_bl z (by omega)
    have rn2 : (repS (" " : Str) (z : Int)).length = z := by rw [repS_len, sp]; omega
    generalize repS (" " : Str) (z : Int) = t1 at rl2 rn2
    refine W.gd (szl (by omega)) (W.pur (W.pur ⟨_, rfl, h _ _ ?_ (by rw [Str.length_append]; omega) (by omega) (by omega)⟩))
    rw [app_l, rl2]
    exact ct.ends z
end
end K05

set_option Elab.async false
set_option linter.all false
set_option maxRecDepth 100000
set_option maxHeartbeats 1000000
namespace K05
open PySem PySem.Spec PyProof.Rows L2 ON
open PyData (strOk)
section
variable {cl : List Int} {k : Int}
theorem song_W {nm : List Str} {most : Int} {P : Sg × List (List Str) → Int → Prop} (hc : cl.length ≤ 1000) (hk : 0 ≤ k ∧ k < 1000) (hs : nm.length = 24) (hn : ∀ y ∈ nm, Nm y) (hm : 0 < most ∧ most ≤ 61) (h : ∀ rs ns ts hs k', RS rs ns ts hs → rs.length ≤ 60 → k ≤ k' → k' ≤ k + 5000 → P (⟨⟨ns⟩, ⟨ts⟩, hs.head?⟩, rs) k') : W (m__law_song cl (some nm) most) k P := by
  show W (finS (mb__law_song cl nm most)) k P
  refine W.finS ?_
  unfold mb__law_song
  have l3 : ∀ a b c : Int, ([a, b, c] : List Int).length ≤ 1000 := fun a b c => by simp
  simp only [pbS, gd_y (show ([] : List Nt).length ≤ 1000 by decide), gd_y (show ([] : List Ti).length ≤ 1000 by decide), gd_y (show ([] : List (Option (Str × Str))).length ≤ 1000 by decide), gd_y (show ([] : List (List Str)).length ≤ 1000 by decide)]
  refine W.andThen (W.bnd (W.bnd (W.nx hc (by omega) hm.1 fun n n0 n1 => ?_)))
  refine W.gd (by omega) (W.pur ?_)
  have hl := upTo_len 0 1 n.toNat
  have nx24 : ∀ {k : Int} {f : Str → Sm (Fl (List Nt × List Ti × List (Option (Str × Str)) × List (List Str)) (List Nt × List Ti × List (Option (Str × Str)) × List (List Str)) (Sg × List (List Str)))} {Q : Fl (List Nt × List Ti × List (Option (Str × Str)) × List (List Str)) (List Nt × List Ti × List (Option (Str × Str)) × List (List Str)) (Sg × List (List Str)) → Int → Prop}, True := trivial
  refine W.forL (I := fun i t k' => ∃ rs ns ts hs, t = (ns, ts, hs.map some, rs) ∧ RS rs ns ts hs ∧ rs.length = i ∧ k ≤ k' ∧ k' ≤ k + 1 + 60 * i) _ 0 _ _ ⟨[], [], [], [], rfl, .nil, rfl, by omega, by omega⟩ (fun i t k' x _ hi it hx => ?_) (fun t k' it => ?_)
  · obtain ⟨rs, ns, ts, hs2, rfl, hR, hL, k1, k2⟩ := it
    rw [hl] at hi
    obtain ⟨l1, l2, l4⟩ := hR.len
    have g1 : ns.length < 100000 := by omega
    have g2 : ts.length < 100000 := by omega
    have g3 : (hs2.map some).length < 100000 := by rw [List.length_map]; omega
    have g4 : rs.length < 100000 := by omega
    simp only []
    refine W.bnd (W.nx hc (by omega) (by decide) fun way w0 w1 => ?_)
    by_cases c3 : way < 3
    · rw [decide_eq_true c3, cnd_t]
      refine W.andThen (W.bnd (W.bnd (W.bnd (W.bnd (W.nx hc (by omega) (by decide) fun i i0 i1 => ?_)))))
      obtain ⟨a, e1, m1⟩ := at_mem nm i i0 (by omega)
      refine W.lift e1 (W.bnd (W.bnd (W.bnd (W.nx hc (by omega) (by decide) fun j j0 j1 => ?_))))
      obtain ⟨b, e2, m2⟩ := at_mem nm j j0 (by omega)
      refine W.lift e2 (W.bnd (W.nx hc (by omega) (by decide) fun u u0 u1 => W.pur (W.pur (W.pur ?_))))
      refine W.bnd (W.bnd (W.bnd (W.bnd (W.bnd (W.bnd (W.nx hc (by omega) (by decide) fun v v0 v1 => W.pur (W.gd (l3 _ _ _) (W.pur ?_))))))))
      refine W.bnd (W.nx hc (by omega) (by decide) fun s s0 s1 => ?_)
      obtain ⟨y, e3, m3⟩ := at_mem ([v, 9999, 0] : List Int) s s0 s1
      refine W.lift e3 (W.pur (W.pur ?_))
      obtain ⟨u', rfl, hu⟩ : ∃ z : Nat, u = (z : Int) ∧ z ≤ 9999 := ⟨u.toNat, by omega, by omega⟩
      obtain ⟨y', rfl, hy⟩ : ∃ z : Nat, y = (z : Int) ∧ z ≤ 9999 := ⟨y.toNat, by simp only [List.mem_cons, List.not_mem_nil, or_false] at m3; omega, by simp only [List.mem_cons, List.not_mem_nil, or_false] at m3; omega⟩
      have q1 := log_ok (n := u') (by omega)
      have q2 := log_ok (n := y') (by omega)
      simp only [gd_y g1, gd_y g4, pbS, gd_y q1, gd_y q2, gd_y (show ([("note" : Str), a, b, strI (u' : Int), strI (y' : Int)] : List Str).length ≤ 1000 by simp)]
      refine W.pur (W.pur ⟨_, rfl, _, _, _, _, rfl, .note hR ⟨a, b, u', y', hn a m1, hn b m2, hu, hy, rfl, rfl⟩, by rw [List.length_append, hL]; rfl, by omega, by omega⟩)
    · rw [decide_eq_false c3, cnd_f]
      by_cases c6 : way < 6
      · rw [decide_eq_true c6, cnd_t]
        refine W.andThen (W.andThen (W.bnd (tie_W hc (by omega) hs hn fun t r k3 ht k4 k5 => ?_)))
        simp only [gd_y g2, gd_y g4, pbS]
        exact W.pur (W.pur (W.pur ⟨_, rfl, _, _, _, _, rfl, .tie hR ht, by rw [List.length_append, hL]; rfl, by omega, by omega⟩))
      · rw [decide_eq_false c6, cnd_f]
        refine W.andThen (W.andThen (W.bnd (W.bnd (W.bnd (W.nx hc (by omega) (by decide) fun i i0 i1 => ?_)))))
        obtain ⟨a, e1, m1⟩ := at_mem nm i i0 (by omega)
        refine W.lift e1 (W.bnd (W.bnd (W.nx hc (by omega) (by decide) fun j j0 j1 => ?_)))
        obtain ⟨b, e2, m2⟩ := at_mem nm j j0 (by omega)
        refine W.lift e2 (W.pur ?_)
        simp only [gd_y g3, gd_y g4, pbS, gd_y (show ([("home" : Str), a, b] : List Str).length ≤ 1000 by simp)]
        refine W.pur (W.pur (W.pur ⟨_, rfl, _, _, _, _, ?_, .home hR (h := (a, b)) ⟨a, b, hn a m1, hn b m2, rfl, rfl⟩, by rw [List.length_append, hL]; rfl, by omega, by omega⟩))
        rw [List.map_append]; rfl
  · obtain ⟨rs, ns, ts, hs2, rfl, hR, hL, k1, k2⟩ := it
    rw [hl] at *
    obtain ⟨l1, l2, l4⟩ := hR.len
    have ga : (hs2.map some).length + ([none] : List (Option (Str × Str))).length ≤ sizeLine := szl (by rw [List.length_map]; simp; omega)
    have e0 : atI (hs2.map some ++ [none]) 0 = some hs2.head? := by
      cases hs2 with
      | nil => exact at_0 _ _
      | cons x xs => exact at_0 _ _
    simp only [gd_y ga, pbS, gd_y (show ([none] : List (Option (Str × Str))).length ≤ 1000 by decide), e0, lsome]
    exact W.pur ⟨_, rfl, h _ _ _ _ _ hR (by omega) (by omega) (by omega)⟩
/-! ### the text -/
theorem Wk.ok {x : Str} (h : Wk x) : strOk x = true := by
  obtain ⟨_, k, _, h2⟩ := h
  show x.cps.all _ = true
  rw [← Array.all_toList, List.all_eq_true]
  intro c hc
  have key : ∀ c ∈ LT.cps.toList, c < 0x110000 := by decide +kernel
  have key2 : ∀ c ∈ FG.cps.toList, c < 0x110000 := by decide +kernel
  rcases h2 with ⟨_, z⟩ | ⟨b, rfl, _, z⟩
  · rw [z] at hc
    rw [List.mem_singleton.mp hc]; rfl
  · have := z c hc
    cases b with
    | true => exact decide_eq_true (key c (of_decide_eq_true (cl_t.mp this)))
    | false => exact decide_eq_true (key2 c (of_decide_eq_true (cl_f.mp this)))
theorem extra_ok : ∀ a : Nat, a < 3 → ∀ j : Nat, j < 2 → (repL (cutL ["", "  "] none (some (a : Int))) (j : Int) : List Str).length ≤ 2 ∧ (cutL ["", "  "] none (some (a : Int)) : List Str).length ≤ 2 ∧ ∀ e ∈ (repL (cutL ["", "  "] none (some (a : Int))) (j : Int) : List Str), e = "" ∨ e = "  " := by decide +kernel
theorem extra_ln {e : Str} (h : e = "" ∨ e = "  ") : Ln e.cps.toList [] ∧ e.length ≤ 2 := by
  rcases h with rfl | rfl
  · exact ⟨(Ct.start 0).line, by decide⟩
  · exact ⟨(Ct.start 2).line, by decide⟩
def ne (r : List Str) : Bool := !r.isEmpty
/-- lines so far -/
structure Lines (ls : List Str) (rs : List (List Str)) (m n : Nat) (ps : List (Str × List Str)) : Prop where
  e : ls = ps.map (·.1)
  ln : ∀ p ∈ ps, Ln p.1.cps.toList p.2
  f : (ps.map (·.2)).filter ne = rs
  s : (ps.map fun p => p.1.length + 1).sum ≤ m
  l : ps.length ≤ n
theorem sum_add (ps qs : List (Str × List Str)) : ((ps ++ qs).map fun p => p.1.length + 1).sum = (ps.map fun p => p.1.length + 1).sum + (qs.map fun p => p.1.length + 1).sum := by
  rw [List.map_append, List.sum_append]
theorem Lines.extra {ls rs m n ps} (h : Lines ls rs m n ps) {es : List Str} (hl : es.length ≤ 2) (he : ∀ e ∈ es, e = "" ∨ e = "  ") : Lines (ls ++ es) rs (m + 6) (n + 2) (ps ++ es.map fun e => (e, [])) := by
  refine ⟨?_, fun p hp => ?_, ?_, ?_, ?_⟩
  · rw [h.e, List.map_append, List.map_map]
    congr 1
    exact (List.map_id es).symm
  · rcases List.mem_append.mp hp with hp | hp
    · exact h.ln p hp
    · obtain ⟨e, hm, rfl⟩ := List.mem_map.mp hp
      exact (extra_ln (he e hm)).1
  · rw [List.map_append, List.filter_append, h.f, List.map_map]
    have : (es.map ((fun p : Str × List Str => p.2) ∘ fun e => (e, ([] : List Str)))).filter ne = [] := by
      rw [List.filter_eq_nil_iff]
      intro r hr
      obtain ⟨e, _, rfl⟩ := List.mem_map.mp hr
      show ¬ ne [] = true
      decide
    rw [this, List.append_nil]
  · rw [sum_add]
    have key : ∀ es : List Str, (∀ e ∈ es, e = "" ∨ e = "  ") → ((es.map fun e => (e, ([] : List Str))).map fun p => p.1.length + 1).sum ≤ 3 * es.length := by
      intro es
      induction es with
      | nil => intro _; exact Nat.le_refl _
      | cons x xs ih =>
        intro hh
        have := ih fun e he => hh e (.tail _ he)
        have h2 := (extra_ln (hh x (.head _))).2
        rw [List.map_cons, List.map_cons, List.sum_cons, List.length_cons]
        simp only
        omega
    have := key es he
    have := h.s
    omega
  · rw [List.length_append, List.length_map]
    have := h.l
    omega
theorem Lines.row {ls rs m n ps} (h : Lines ls rs m n ps) {x : Str} {r : List Str} (hx : Ln x.cps.toList r) (hr : 1 ≤ r.length) (hl : x.length ≤ 104) : Lines (ls ++ [x]) (rs ++ [r]) (m + 105) (n + 1) (ps ++ [(x, r)]) := by
  refine ⟨?_, fun p hp => ?_, ?_, ?_, ?_⟩
  · rw [h.e, List.map_append]; rfl
  · rcases List.mem_append.mp hp with hp | hp
    · exact h.ln p hp
    · rw [List.mem_singleton.mp hp]; exact hx
  · rw [List.map_append, List.filter_append, h.f]
    have : ne r = true := by
      cases r with
      | nil => cases hr
      | cons _ _ => rfl
    show rs ++ List.filter ne [r] = _
    rw [List.filter_cons, this]; rfl
  · rw [sum_add]
    have := h.s
    simp only [List.map_cons, List.map_nil, List.sum_cons, List.sum_nil]
    omega
  · rw [List.length_append, List.length_singleton]
    have := h.l
    omega
theorem rowsOf_f {ps : List (Str × List Str)} : (rowsOf ps).filter ne = (ps.map (·.2)).filter ne := by
  cases ps with
  | nil => rfl
  | cons p ps => rfl
theorem rowsOf_l {ps : List (Str × List Str)} : (rowsOf ps).length ≤ ps.length + 1 := by
  cases ps with
  | nil => exact Nat.le_refl _
  | cons p ps => show (p.2 :: ps.map (·.2)).length ≤ _; rw [List.length_cons, List.length_map, List.length_cons]; omega
theorem sum_lt (ps : List (Str × List Str)) : ((ps.map (·.1)).map Str.length).sum + (ps.map (·.1)).length ≤ (ps.map fun p => p.1.length + 1).sum := by
  induction ps with
  | nil => exact Nat.le_refl _
  | cons p ps ih =>
    rw [List.map_cons, List.map_cons, List.map_cons, List.sum_cons, List.sum_cons, List.length_cons]
    omega
theorem text_W {nm : Option (List Str)} {rs : List (List Str)} {P : Str × List Int → Int → Prop} (hc : cl.length ≤ 1000) (hk : 0 ≤ k ∧ k < 100000) (hr : ∀ r ∈ rs, RowB r) (hl : rs.length ≤ 60) (h : ∀ x pl rows k', m_text_words (An.of x) = some (.ok rows) → rows.filter ne = rs → rows.length ≤ 100000 → k ≤ k' → k' ≤ k + 3000 → P (x, pl) k') : W (m__law_text cl nm rs) k P := by
  unfold m__law_text
  refine W.finS ?_
  unfold mb__law_text
  simp only [pbS, gd_y (show ([] : List Str).length ≤ 1000 by decide), gd_y (show ([] : List Int).length ≤ 1000 by decide)]
  refine W.andThen (W.forLi (I := fun i t k' => ∃ ps, Lines t.1 (rs.take i) (111 * i) (3 * i) ps ∧ t.2.length = i ∧ k ≤ k' ∧ k' ≤ k + 30 * i) _ _ ⟨[], ⟨rfl, fun _ h => (nomatch h), rfl, Nat.le_refl _, Nat.le_refl _⟩, rfl, by omega, by omega⟩ (fun i t k' r hx it => ?_) (fun t k' it => ?_))
  · obtain ⟨ps, hL, hp, k1, k2⟩ := it
    have hi : i < rs.length := (List.getElem?_eq_some_iff.mp hx).1
    have rb := hr r (List.mem_of_getElem? hx)
    refine W.bnd (W.bnd (W.bnd (W.bnd (W.gd (by exact (by decide : 2 ≤ 1000)) (W.pur ?_)))))
    refine W.bnd (W.bnd (W.nx hc (by omega) (by decide) fun a a0 a1 => W.pur (W.pur ?_)))
    refine W.bnd (W.bnd (W.bnd (W.nx hc (by omega) (by decide) fun b b0 b1 => W.pur (W.pur ?_))))
    obtain ⟨a', rfl⟩ : ∃ z : Nat, a = (z : Int) := ⟨a.toNat, by omega⟩
    have hy : ∃ j : Nat, (if decide (b = 1) = true then (1 : Int) else 0) = (j : Int) ∧ j < 2 := by
      by_cases c : b = 1
      · exact ⟨1, by rw [decide_eq_true c]; rfl, by decide⟩
      · exact ⟨0, by rw [decide_eq_false c]; rfl, by decide⟩
    obtain ⟨j, ej, lj⟩ := hy
    rw [ej]
    obtain ⟨x1, x2, x3⟩ := extra_ok a' (by omega) j lj
    have tl : t.1.length = ps.length := by rw [hL.e, List.length_map]
    have pl := hL.l
    have x4 : (cutL ["", "  "] none (some (a' : Int)) : List Str).length * Int.toNat (j : Int) ≤ 100000 := by
      rw [Int.toNat_natCast]
      have : (cutL ["", "  "] none (some (a' : Int)) : List Str).length * j ≤ 2 * 2 := Nat.mul_le_mul x2 (by omega)
      omega
    refine W.gd ⟨by omega, by omega, x4⟩ (W.pur ?_)
    refine W.gd (szl (by omega)) (W.pur ?_)
    have hL2 := hL.extra x1 x3
    have tl2 : (t.1 ++ (repL (cutL ["", "  "] none (some (a' : Int))) (j : Int) : List Str)).length ≤ 200 := by rw [List.length_append]; omega
    generalize t.1 ++ (repL (cutL ["", "  "] none (some (a' : Int))) (j : Int) : List Str) = ls at hL2 tl2
    simp only [gd_y (show t.2.length < 100000 by omega), gd_y (show ls.length < 100000 by omega), pbS]
    refine W.bnd (row_text_W hc (by omega) rb fun x k3 hx2 lx k4 k5 => ?_)
    have hL3 := hL2.row hx2 rb.l1 lx
    have tk : rs.take (i + 1) = rs.take i ++ [r] := by rw [List.take_succ, hx]; rfl
    exact W.pur ⟨_, rfl, _, ⟨hL3.e, hL3.ln, by rw [tk]; exact hL3.f, by have := hL3.s; omega, by have := hL3.l; omega⟩, by rw [List.length_append, hp]; rfl, by omega, by omega⟩
  · obtain ⟨ps, hL, hp, k1, k2⟩ := it
    rw [List.take_length] at hL
    refine W.bnd (W.bnd (W.bnd (W.gd (by exact (by decide : 1 ≤ 1000)) (W.pur ?_))))
    refine W.bnd (W.nx hc (by omega) (by decide) fun a a0 a1 => ?_)
    have hy : ∃ j : Nat, a = (j : Int) ∧ j < 2 := ⟨a.toNat, by omega, by omega⟩
    obtain ⟨j, rfl, lj⟩ := hy
    have ex : (repL ([""] : List Str) (j : Int)).length ≤ 2 ∧ ∀ e ∈ repL ([""] : List Str) (j : Int), e = "" ∨ e = "  " := by
      have key : ∀ j : Nat, j < 2 → (repL ([""] : List Str) (j : Int)).length ≤ 2 ∧ ∀ e ∈ repL ([""] : List Str) (j : Int), e = "" ∨ e = "  " := by decide +kernel
      exact key j lj
    have tl : t.1.length = ps.length := by rw [hL.e, List.length_map]
    have pl := hL.l
    refine W.gd ⟨by omega, by omega, by rw [Int.toNat_natCast]; show 1 * j ≤ _; omega⟩ (W.pur ?_)
    refine W.gd (szl (by omega)) (W.pur ?_)
    have hL2 := hL.extra ex.1 ex.2
    generalize t.1 ++ repL ([""] : List Str) (j : Int) = ls at hL2
    generalize ps ++ (repL ([""] : List Str) (j : Int)).map (fun e => (e, ([] : List Str))) = qs at hL2
    have s1 := sum_lt qs
    have s2 := hL2.s
    have nl : Str.length ("\n" : Str) = 1 := rfl
    have ge := hL2.e
    subst ge
    refine W.bnd (W.bnd (W.gd (by rw [nl]; omega) (W.pur (W.pur (W.pur ⟨_, rfl, h _ _ _ _ (words_of qs hL2.ln (by omega)) (by rw [rowsOf_f]; exact hL2.f) (by have := rowsOf_l (ps := qs); have := hL2.l; omega) (by omega) (by omega)⟩)))))
end
end K05

set_option Elab.async false
set_option linter.all false
set_option maxRecDepth 100000
set_option maxHeartbeats 1000000
namespace K05
open PySem PySem.Spec PyProof.Rows L2 ON
open PyData (strOk)
theorem str_len {n : Nat} (h : n < 10 ^ 60) : (strI (n : Int)).length ≤ 60 := by
  have e := PySem.W.KIN.signs_num n
  have h2 := PyProof.Rows.digits10_le (k := 60) (by decide) h
  have e2 : (strI (n : Int)).cps.toList.length = (Nat.toDigits 10 n).length := by
    show (PySem.Str.ofString (toString ((n : Nat) : Int))).cps.toList.length = _
    rw [e, List.length_map]
  show (strI (n : Int)).cps.size ≤ 60
  rw [← Array.length_toList, e2]; exact h2
theorem log_small {n : Nat} (h : n < 10 ^ 60) : ((n : Int).natAbs).log2 < 1920 := by
  rw [Int.natAbs_natCast]
  exact PySem.Flt.log2_lt_of (by decide) (Nat.lt_trans h (by decide))
theorem figures_eq {n : Nat} (h : n < 10 ^ 60) : m_figures (n : Int) = some (strI (n : Int)) := by
  have hl := str_len h
  have hlt : ¬ ((10 : Int) ^ Int.toNat 60 ≤ (n : Int)) := by
    have e : (10 : Int) ^ Int.toNat 60 = ((10 ^ 60 : Nat) : Int) := by decide
    rw [e]; omega
  have hF : FU = 999999999 + 1 := rfl
  unfold m_figures mb_figures
  simp only [pur_opt, sbO, gd_y (show ([] : List Str).length ≤ 1000 by decide), gd_y (show ON.PowOk 10 60 by decide)]
  rw [hF, whl_end (by simp only [decide_eq_false hlt]), andThen_nx]
  simp only [gd_y (log_small h), sbO, gd_y (show ([] : List Str).length < 100000 by decide)]
  rw [gd_y (by
    simp only [List.nil_append, List.reverse_cons, List.reverse_nil, List.map_cons, List.map_nil, List.sum_cons, List.sum_nil, List.length_cons, List.length_nil]
    have z : Str.length ("" : Str) = 0 := rfl
    rw [z]; omega), sbO]
  have z : Txt.join ("" : Str) ([] ++ [strI (n : Int)]).reverse = strI (n : Int) := rfl
  rw [z]; rfl
/-! ### rows of words, a blank between -/
def spw (ws : List Str) : List Nat := TL.joinL [32] (ws.map fun y => y.cps.toList)
theorem joinSp (ws : List Str) : Txt.join (" " : Str) ws = T (spw ws) := by
  rw [← T_eta (Txt.join _ _)]
  congr 1
  rw [TL.join_eq]; exact TL.tl_join (" " : Str) ws
theorem joinNl (ls : List (List Nat)) : Txt.join ("\n" : Str) (ls.map T) = T (TL.joinL [10] ls) := by
  rw [← T_eta (Txt.join _ _), joinNl_l, List.map_map]
  congr 2
  exact List.map_id ls
theorem joinL_len (s : Nat) : ∀ ps : List (List Nat), (TL.joinL [s] ps).length ≤ (ps.map fun p => p.length + 1).sum
  | [] => Nat.le_refl _
  | [p] => by simp [TL.joinL]
  | p :: q :: r => by
    have := joinL_len s (q :: r)
    rw [TL.joinL, List.length_append, List.length_append, List.map_cons, List.sum_cons]
    simp only [List.length_singleton]
    omega
theorem spw_ln : ∀ (ws : List Str) (w : Str), (∀ x ∈ w :: ws, Wk x) → Ln (spw (w :: ws)) (w :: ws)
  | [], w, h => by
    obtain ⟨_, k, hk⟩ := h w (.head _)
    intro cs xs rs hr hc
    have hs : Sep k cs := by
      cases k with
      | none => exact .inl rfl
      | some b =>
        refine .inr fun c r z => ?_
        rcases hc with hc | ⟨y, hc⟩
        · rw [hc] at z; cases z
        · rw [hc] at z; cases z; rw [cl10]; simp
    have := Rd.word hk hs hr
    rw [T_eta] at this
    exact this
  | v :: ws, w, h => by
    obtain ⟨_, k, hk⟩ := h w (.head _)
    have ih := spw_ln ws v fun x hx => h x (.tail _ hx)
    intro cs xs rs hr hc
    have hb := (ih cs xs rs hr hc).blank
    have hs : Sep k (32 :: (spw (v :: ws) ++ cs)) := by
      cases k with
      | none => exact .inl rfl
      | some b => exact .inr fun c r z => by cases z; rw [cl32]; simp
    have := Rd.word hk hs hb
    rw [T_eta] at this
    have e : spw (w :: v :: ws) ++ cs = w.cps.toList ++ 32 :: (spw (v :: ws) ++ cs) := by
      show TL.joinL [32] (w.cps.toList :: v.cps.toList :: ws.map _) ++ cs = _
      rw [TL.joinL, List.append_assoc, List.append_assoc]; rfl
    rw [e]
    exact this
theorem RowB.ln {r : List Str} (h : RowB r) : Ln (spw r) r := by
  cases r with
  | nil => have := h.l1; cases this
  | cons x y => exact spw_ln y x h.w
theorem RowB.spl {r : List Str} (h : RowB r) : (spw r).length ≤ 90 := by
  refine Nat.le_trans (joinL_len 32 _) ?_
  have key : ∀ ws : List Str, (∀ x ∈ ws, Wk x) → ((ws.map fun y => y.cps.toList).map fun p => p.length + 1).sum ≤ 9 * ws.length := by
    intro ws
    induction ws with
    | nil => intro _; exact Nat.le_refl _
    | cons x xs ih =>
      intro hh
      have i1 := ih fun e he => hh e (.tail _ he)
      have i2 : x.cps.toList.length ≤ 8 := (hh x (.head _)).1
      rw [List.map_cons, List.map_cons, List.sum_cons, List.length_cons]
      omega
  have := key r h.w
  have := h.l10
  omega
/-! ### a song as it is written -/
def frc (ra : Tl Int) : Int × Int := match ra.l with
  | [x, y, z, u] => (sm x.toNat y.toNat z.toNat u.toNat, sm (-x).toNat (-y).toNat (-z).toNat (-u).toNat)
  | _ => (1, 1)
def nw (n : Nt) : List Str := [("note" : Str), n.a, n.b, strI n.c, strI n.d]
def hw (h : Str × Str) : List Str := [("home" : Str), h.1, h.2]
def cwH (t : Ti) : List Str := if t.a = "held" then [t.a, t.b, t.c] else [t.a, t.b, t.c, strI (frc t.d).1, "/", strI (frc t.d).2]
def cwT (bd wt : Int) : List Str := if bd = 50 ∧ wt = 1 then [] else [("bend" : Str), strI bd] ++ (if wt = 1 then [] else [("weight" : Str), strI wt])
def cw (t : Ti) : List Str := cwH t ++ cwT t.e t.f
theorem sm_le {a b c d a' b' c' d' : Nat} (h1 : a' ≤ a) (h2 : b' ≤ b) (h3 : c' ≤ c) (h4 : d' ≤ d) : sm a' b' c' d' ≤ sm a b c d := by
  have e := sm_mul a' b' c' d' (a - a') (b - b') (c - c') (d - d')
  rw [show a' + (a - a') = a by omega, show b' + (b - b') = b by omega, show c' + (c - c') = c by omega, show d' + (d - d') = d by omega] at e
  have p1 := sm_pos a' b' c' d'
  have p2 := sm_pos (a - a') (b - b') (c - c') (d - d')
  rw [← e]
  have := Int.mul_le_mul_of_nonneg_left (show 1 ≤ sm (a - a') (b - b') (c - c') (d - d') by omega) (show 0 ≤ sm a' b' c' d' by omega)
  omega
/-- a ratio made lesser -/
theorem Prd.less {n a b c d a' b' c' d' : Nat} (h : Prd n a b c d) (h1 : a' ≤ a) (h2 : b' ≤ b) (h3 : c' ≤ c) (h4 : d' ≤ d) : Prd (sm a' b' c' d').toNat a' b' c' d' := by
  obtain ⟨e, g1, g2, g3⟩ := h
  have p := sm_pos a' b' c' d'
  have l := sm_le h1 h2 h3 h4
  exact ⟨by rw [Int.toNat_of_nonneg (by omega)], by omega, by omega, by omega⟩
theorem TieRow.canon {r : List Str} {t : Ti} (h : TieRow r t) : TieRow (cw t) t := by
  obtain ⟨w, a, b, hd, tl, ra, bd, wt, ha, hb, h1, h2, rfl, rfl⟩ := h
  refine ⟨w, a, b, cwH ⟨w, a, b, ra, bd, wt⟩, cwT bd wt, ra, bd, wt, ha, hb, ?_, ?_, rfl, rfl⟩
  · rcases h1 with ⟨rfl, rfl, rfl⟩ | ⟨hw, p, q, a1, b1, c1, d1, a2, b2, c2, d2, hp, hq, rfl, rfl⟩
    · exact .inl ⟨rfl, if_pos rfl, rfl⟩
    · have hw2 : w ≠ "held" := by rcases hw with rfl | rfl <;> decide +kernel
      have f1 : (sm ((a1 : Int) - a2).toNat ((b1 : Int) - b2).toNat ((c1 : Int) - c2).toNat ((d1 : Int) - d2).toNat) = sm (a1 - a2) (b1 - b2) (c1 - c2) (d1 - d2) := by
        congr 1 <;> omega
      have f2 : (sm (-((a1 : Int) - a2)).toNat (-((b1 : Int) - b2)).toNat (-((c1 : Int) - c2)).toNat (-((d1 : Int) - d2)).toNat) = sm (a2 - a1) (b2 - b1) (c2 - c1) (d2 - d1) := by
        congr 1 <;> omega
      have P1 := hp.less (Nat.sub_le a1 a2) (Nat.sub_le b1 b2) (Nat.sub_le c1 c2) (Nat.sub_le d1 d2)
      have P2 := hq.less (Nat.sub_le a2 a1) (Nat.sub_le b2 b1) (Nat.sub_le c2 c1) (Nat.sub_le d2 d1)
      refine .inr ⟨hw, _, _, _, _, _, _, _, _, _, _, P1, P2, ?_, ?_⟩
      · unfold cwH
        rw [if_neg hw2]
        show [w, a, b, strI (sm _ _ _ _), "/", strI (sm _ _ _ _)] = _
        rw [f1, f2, P1.1, P2.1]
      · have key : ∀ x y : Nat, (x : Int) - y = ((x - y : Nat) : Int) - ((y - x : Nat) : Int) := fun x y => by omega
        show Rt _ _ _ _ = Rt _ _ _ _
        rw [key a1 a2, key b1 b2, key c1 c2, key d1 d2]
  · rcases h2 with ⟨rfl, rfl, rfl⟩ | ⟨x, hx, rfl, ⟨rfl, rfl⟩ | ⟨y, y1, y9, rfl, rfl⟩⟩
    · exact .inl ⟨if_pos ⟨rfl, rfl⟩, rfl, rfl⟩
    · by_cases c : (x : Int) = 50
      · exact .inl ⟨if_pos ⟨c, rfl⟩, c, rfl⟩
      · refine .inr ⟨x, hx, rfl, .inl ⟨?_, rfl⟩⟩
        unfold cwT
        rw [if_neg (fun z => c z.1), if_pos rfl]; rfl
    · by_cases c : (y : Int) = 1
      · rw [c]
        by_cases c2 : (x : Int) = 50
        · exact .inl ⟨if_pos ⟨c2, rfl⟩, c2, rfl⟩
        · refine .inr ⟨x, hx, rfl, .inl ⟨?_, rfl⟩⟩
          unfold cwT
          rw [if_neg (fun z => c2 z.1), if_pos rfl]; rfl
      · refine .inr ⟨x, hx, rfl, .inr ⟨y, y1, y9, rfl, ?_⟩⟩
        unfold cwT
        rw [if_neg (fun z => c z.2), if_neg c]; rfl
theorem NoteRow.canon {r : List Str} {n : Nt} (h : NoteRow r n) : NoteRow (nw n) n := by
  obtain ⟨a, b, x, y, ha, hb, hx, hy, rfl, rfl⟩ := h
  exact ⟨a, b, x, y, ha, hb, hx, hy, rfl, rfl⟩
theorem HomeRow.canon {r : List Str} {n : Str × Str} (h : HomeRow r n) : HomeRow (hw n) n := by
  obtain ⟨a, b, ha, hb, rfl, rfl⟩ := h
  exact ⟨a, b, ha, hb, rfl, rfl⟩
/-- told things that rows may tell -/
structure Told (ns : List Nt) (ts : List Ti) (h : Option (Str × Str)) : Prop where
  n : ∀ x ∈ ns, NoteRow (nw x) x
  t : ∀ x ∈ ts, TieRow (cw x) x
  h : ∀ x, h = some x → HomeRow (hw x) x
theorem RS.told {rs ns ts hs} (h : RS rs ns ts hs) : Told ns ts hs.head? := by
  have key : (∀ x ∈ ns, NoteRow (nw x) x) ∧ (∀ x ∈ ts, TieRow (cw x) x) ∧ (∀ x ∈ hs, HomeRow (hw x) x) := by
    induction h with
    | nil => exact ⟨fun _ h => (nomatch h), fun _ h => (nomatch h), fun _ h => (nomatch h)⟩
    | note _ z ih =>
      refine ⟨fun x hx => ?_, ih.2.1, ih.2.2⟩
      rcases List.mem_append.mp hx with hx | hx
      · exact ih.1 x hx
      · rw [List.mem_singleton.mp hx]; exact z.canon
    | tie _ z ih =>
      refine ⟨ih.1, fun x hx => ?_, ih.2.2⟩
      rcases List.mem_append.mp hx with hx | hx
      · exact ih.2.1 x hx
      · rw [List.mem_singleton.mp hx]; exact z.canon
    | home _ z ih =>
      refine ⟨ih.1, ih.2.1, fun x hx => ?_⟩
      rcases List.mem_append.mp hx with hx | hx
      · exact ih.2.2 x hx
      · rw [List.mem_singleton.mp hx]; exact z.canon
  exact ⟨key.1, key.2.1, fun x hx => key.2.2 x (List.mem_of_mem_head? hx)⟩
def rowsW (ns : List Nt) (ts : List Ti) (h : Option (Str × Str)) : List (List Str) := ns.map nw ++ ts.map cw ++ (h.toList.map hw)
theorem RS.addN {ts : List Ti} {hs : List (Str × Str)} : ∀ (ns : List Nt) (rs : List (List Str)) (n0 : List Nt), RS rs n0 ts hs → (∀ x ∈ ns, NoteRow (nw x) x) → RS (rs ++ ns.map nw) (n0 ++ ns) ts hs
  | [], rs, n0, h, _ => by rw [List.map_nil, List.append_nil, List.append_nil]; exact h
  | x :: ns, rs, n0, h, hx => by
    have := RS.addN ns (rs ++ [nw x]) (n0 ++ [x]) (.note h (hx x (.head _))) fun z hz => hx z (.tail _ hz)
    rw [List.append_assoc, List.append_assoc] at this
    exact this
theorem RS.addT {ns : List Nt} {hs : List (Str × Str)} : ∀ (ts : List Ti) (rs : List (List Str)) (t0 : List Ti), RS rs ns t0 hs → (∀ x ∈ ts, TieRow (cw x) x) → RS (rs ++ ts.map cw) ns (t0 ++ ts) hs
  | [], rs, n0, h, _ => by rw [List.map_nil, List.append_nil, List.append_nil]; exact h
  | x :: ns, rs, n0, h, hx => by
    have := RS.addT ns (rs ++ [cw x]) (n0 ++ [x]) (.tie h (hx x (.head _))) fun z hz => hx z (.tail _ hz)
    rw [List.append_assoc, List.append_assoc] at this
    exact this
theorem Told.rs {ns ts h} (H : Told ns ts h) : RS (rowsW ns ts h) ns ts h.toList := by
  have a := RS.addN ns [] [] .nil H.n
  have b := RS.addT ts _ [] a H.t
  rw [List.nil_append] at b
  unfold rowsW
  cases h with
  | none => rw [Option.toList, List.map_nil, List.append_nil]; exact b
  | some x => exact .home b (H.h x rfl)
def textW (ns : List Nt) (ts : List Ti) (h : Option (Str × Str)) : Str := T (TL.joinL [10] ((rowsW ns ts h).map spw))
theorem Told.read {ns ts h} (H : Told ns ts h) (hl : (rowsW ns ts h).length ≤ 80) : m_read (textW ns ts h) = some (.ok (⟨⟨ns⟩, ⟨ts⟩, h⟩ : Sg)) := by
  have R := H.rs
  have ps_e : (rowsW ns ts h).map spw = ((rowsW ns ts h).map fun r => (T (spw r), r)).map fun p : Str × List Str => p.1.cps.toList := by
    rw [List.map_map]; rfl
  have e : textW ns ts h = Txt.join ("\n" : Str) (((rowsW ns ts h).map fun r => (T (spw r), r)).map (·.1)) := by
    unfold textW
    rw [← joinNl, List.map_map, List.map_map]; rfl
  have w := words_of ((rowsW ns ts h).map fun r => (T (spw r), r)) (fun p hp => by
      obtain ⟨r, hr, rfl⟩ := List.mem_map.mp hp
      exact (R.rb r hr).ln) (by
      rw [List.map_map]
      have key : ∀ rs : List (List Str), (∀ r ∈ rs, RowB r) → (rs.map ((fun p : Str × List Str => p.1.length + 1) ∘ fun r => (T (spw r), r))).sum ≤ 91 * rs.length := by
        intro rs
        induction rs with
        | nil => intro _; exact Nat.le_refl _
        | cons x xs ih =>
          intro hh
          have i1 := ih fun e he => hh e (.tail _ he)
          have i2 := (hh x (.head _)).spl
          rw [List.map_cons, List.sum_cons, List.length_cons]
          simp only [Function.comp, T_len] at i1 ⊢
          omega
      have := key _ R.rb
      omega)
  rw [← e] at w
  have hf : (rowsOf ((rowsW ns ts h).map fun r => (T (spw r), r))).filter ne = rowsW ns ts h := by
    rw [rowsOf_f, List.map_map, List.filter_eq_self.mpr]
    · show (rowsW ns ts h).map (fun r => r) = _
      exact List.map_id _
    · intro r hr
      obtain ⟨x, hx, rfl⟩ := List.mem_map.mp hr
      have := (R.rb x hx).l1
      show ne x = true
      cases x with
      | nil => cases this
      | cons _ _ => rfl
  have z := read_eq w R hf (by have := rowsOf_l (ps := (rowsW ns ts h).map fun r => (T (spw r), r)); rw [List.length_map] at this; omega)
  rw [z]
  cases h <;> rfl
end K05

set_option Elab.async false
set_option linter.all false
set_option maxRecDepth 100000
set_option maxHeartbeats 1000000
namespace K05
open PySem PySem.Spec PyProof.Rows L2 ON
open PyData (strOk)
/-! ### ratios shown -/
theorem mul_left {l : Type} {p : Int} {body : List Int → Int → Option (Fl (List Int) (List Int) Str)} (hb : ∀ x y a, body [x, y] a = some (.nx [x * p, y])) : ∀ (xs : List Int) (x y : Int), (forL body xs [x, y] : Option (Fl (List Int) l Str)) = some (.nx [x * p ^ xs.length, y])
  | [], x, y => by rw [forL_nil, pur_opt, List.length_nil, Int.pow_zero, Int.mul_one]
  | a :: xs, x, y => by
    rw [forL_cons, hb, sbO]
    show forL body xs [x * p, y] = _
    rw [mul_left hb xs, List.length_cons, Int.pow_succ, Int.mul_assoc, Int.mul_comm p]
theorem mul_right {l : Type} {p : Int} {body : List Int → Int → Option (Fl (List Int) (List Int) Str)} (hb : ∀ x y a, body [x, y] a = some (.nx [x, y * p])) : ∀ (xs : List Int) (x y : Int), (forL body xs [x, y] : Option (Fl (List Int) l Str)) = some (.nx [x, y * p ^ xs.length])
  | [], x, y => by rw [forL_nil, pur_opt, List.length_nil, Int.pow_zero, Int.mul_one]
  | a :: xs, x, y => by
    rw [forL_cons, hb, sbO]
    show forL body xs [x, y * p] = _
    rw [mul_right hb xs, List.length_cons, Int.pow_succ, Int.mul_assoc, Int.mul_comm p]
theorem shown_turn {e p x y : Int} (he : e.natAbs ≤ 3000) {body : List Int → Int → Option (Fl (List Int) (List Int) Str)} (hb : ∀ x y a, body [x, y] a = some (.nx (if e < 0 then [x, y * p] else [x * p, y]))) :
    (andThen (Mn.bnd (gd (-(2 ^ 62) ≤ absI e ∧ absI e < 2 ^ 62) (some (upTo 0 (Int.toNat (absI e)) 1)) : Option (List Int)) fun w => (forL body w [x, y] : Option (Fl (List Int) (List Int) Str))) fun t => (some (.nx t) : Option (Fl (List Int) (List Int) Str))) = some (.nx [x * p ^ e.toNat, y * p ^ (-e).toNat]) := by
  have ha : absI e = (e.natAbs : Int) := by unfold absI; split <;> omega
  rw [gd_y (by rw [ha]; omega), sbO]
  by_cases c : e < 0
  · have z1 : e.toNat = 0 := by omega
    have z2 : (absI e).toNat = (-e).toNat := by rw [ha]; omega
    rw [mul_right (p := p) (fun x y a => by rw [hb, if_pos c]), upTo_len, andThen_nx, z1, z2, Int.pow_zero, Int.mul_one]
  · have z1 : (-e).toNat = 0 := by omega
    have z2 : (absI e).toNat = e.toNat := by rw [ha]; omega
    rw [mul_left (p := p) (fun x y a => by rw [hb, if_neg c]), upTo_len, andThen_nx, z1, z2, Int.pow_zero, Int.mul_one]
theorem at1 {α : Type} (x y : α) : atI [x, y] 1 = some y := atN [x, y] 1 (by simp)
theorem set0 (x y z : Int) : setI [x, y] 0 z = some [z, y] := by
  rw [setI_eq]
  have : ixN [x, y].length 0 = some 0 := by unfold ixN; rw [if_pos (by decide), if_pos (by simp)]; rfl
  rw [this]; rfl
theorem set1 (x y z : Int) : setI [x, y] 1 z = some [x, z] := by
  rw [setI_eq]
  have : ixN [x, y].length 1 = some 1 := by unfold ixN; rw [if_pos (by decide), if_pos (by simp)]; rfl
  rw [this]; rfl
theorem mulP {g p : Int} (hp : 2 ≤ p ∧ p ≤ 7) : ON.MulOk g p := mul_ok2 (by omega)
theorem strI_len {n : Nat} (h : n < 100000) : (strI (n : Int)).length ≤ 5 := num_le h
theorem shown_eq {e1 e2 e3 e4 : Int} {P Q : Nat} (h1 : e1.natAbs ≤ 3000) (h2 : e2.natAbs ≤ 3000) (h3 : e3.natAbs ≤ 3000) (h4 : e4.natAbs ≤ 3000) (hP : (P : Int) = sm e1.toNat e2.toNat e3.toNat e4.toNat) (hQ : (Q : Int) = sm (-e1).toNat (-e2).toNat (-e3).toNat (-e4).toNat) (lP : P < 100000) (lQ : Q < 100000) : m__law_shown (Rt e1 e2 e3 e4) = some (strI (P : Int) ++ (" / " : Str) ++ strI (Q : Int)) := by
  have q2 : (2 : Int) ≤ 2 ∧ (2 : Int) ≤ 7 := by decide
  have q3 : (2 : Int) ≤ 3 ∧ (3 : Int) ≤ 7 := by decide
  have q5 : (2 : Int) ≤ 5 ∧ (5 : Int) ≤ 7 := by decide
  have q7 : (2 : Int) ≤ 7 ∧ (7 : Int) ≤ 7 := by decide
  unfold m__law_shown mb__law_shown
  simp only [pur_opt, sbO, gd_y (show ([1, 1] : List Int).length ≤ 1000 by decide), List.zip_cons_cons, List.zip_nil_right, forL_cons, forL_nil, liftO]
  have hb : ∀ {p e : Int}, (2 ≤ p ∧ p ≤ 7) → ∀ (x y a : Int), (Mn.bnd (Mn.bnd (atI [x, y] (if decide (e < 0) = true then (1 : Int) else 0)) fun x_1115 => gd (ON.MulOk x_1115 p) (some (x_1115 * p))) fun x_1120 => Mn.bnd (setI [x, y] (if decide (e < 0) = true then (1 : Int) else 0) x_1120) fun f => (some (.nx f) : Option (Fl (List Int) (List Int) Str))) = some (.nx (if e < 0 then [x, y * p] else [x * p, y])) := by
    intro p e hp x y a
    by_cases c : e < 0
    · rw [decide_eq_true c, if_pos rfl, at1, sbO, gd_y (mulP hp), sbO, set1, sbO, if_pos c]
    · rw [decide_eq_false c, if_neg (by decide), at_0, sbO, gd_y (mulP hp), sbO, set0, sbO, if_neg c]
  rw [shown_turn (p := 2) h1 (fun x y a => hb q2 x y a), sbO]
  simp only []
  rw [shown_turn (p := 3) h2 (fun x y a => hb q3 x y a), sbO]
  simp only []
  rw [shown_turn (p := 5) h3 (fun x y a => hb q5 x y a), sbO]
  simp only []
  rw [shown_turn (p := 7) h4 (fun x y a => hb q7 x y a), sbO]
  simp only [andThen_nx, at_0, at1, sbO]
  have eP : 1 * 2 ^ e1.toNat * 3 ^ e2.toNat * 5 ^ e3.toNat * 7 ^ e4.toNat = (P : Int) := by
    rw [hP]; unfold sm; simp only [Int.one_mul, Int.mul_assoc]
  have eQ : 1 * 2 ^ (-e1).toNat * 3 ^ (-e2).toNat * 5 ^ (-e3).toNat * 7 ^ (-e4).toNat = (Q : Int) := by
    rw [hQ]; unfold sm; simp only [Int.one_mul, Int.mul_assoc]
  have s1 := strI_len lP
  have s2 := strI_len lQ
  have s3 : (" / " : Str).length = 3 := rfl
  rw [eP, eQ]
  simp only [gd_y (log_ok lP), gd_y (log_ok lQ), sbO, gd_y (show (strI (P : Int)).length + (" / " : Str).length ≤ sizeLine from szl (by omega)), gd_y (show (strI (P : Int) ++ (" / " : Str)).length + (strI (Q : Int)).length ≤ sizeLine from szl (by rw [Str.length_append]; omega)), fr]
theorem ratio_text_eq {ra : Tl Int} {P Q : Nat} (h : m_fraction ra = some ((P : Int), (Q : Int))) (lP : P < 100000) (lQ : Q < 100000) : m_ratio_text ra = some (strI (P : Int) ++ (" / " : Str) ++ strI (Q : Int)) := by
  have s1 := strI_len lP
  have s2 := strI_len lQ
  have s3 : (" / " : Str).length = 3 := rfl
  have f1 : m_figures (P : Int) = some (strI (P : Int)) := figures_eq (Nat.lt_trans lP (by decide))
  have f2 : m_figures (Q : Int) = some (strI (Q : Int)) := figures_eq (Nat.lt_trans lQ (by decide))
  unfold m_ratio_text mb_ratio_text
  simp only [pur_opt, sbO, liftO, h, f1, f2]
  have e0 : ∀ x : Str, Str.empty ++ x = x := fun x => Str.empty_append x
  rw [e0, gd_y ⟨szl (by omega), szl (by omega), szl (by omega), szl (by rw [Str.length_append]; omega), szl (by rw [Str.length_append, Str.length_append]; omega)⟩, sbO, fr]
/-- a tie's ratio, both ways -/
theorem Head.shown {w a b : Str} {hd : List Str} {ra : Tl Int} (h : Head w a b hd ra) (hw : w ≠ "held") : ∃ P Q : Nat, frc ra = ((P : Int), (Q : Int)) ∧ P ≤ 9999 ∧ Q ≤ 9999 ∧ m_ratio_text ra = some (strI (P : Int) ++ (" / " : Str) ++ strI (Q : Int)) ∧ m__law_shown ra = some (strI (P : Int) ++ (" / " : Str) ++ strI (Q : Int)) := by
  rcases h with ⟨e, _⟩ | ⟨_, p, q, a1, b1, c1, d1, a2, b2, c2, d2, hp, hq, _, rfl⟩
  · exact absurd e hw
  · have f1 : (sm ((a1 : Int) - a2).toNat ((b1 : Int) - b2).toNat ((c1 : Int) - c2).toNat ((d1 : Int) - d2).toNat) = sm (a1 - a2) (b1 - b2) (c1 - c2) (d1 - d2) := by
      congr 1 <;> omega
    have f2 : (sm (-((a1 : Int) - a2)).toNat (-((b1 : Int) - b2)).toNat (-((c1 : Int) - c2)).toNat (-((d1 : Int) - d2)).toNat) = sm (a2 - a1) (b2 - b1) (c2 - c1) (d2 - d1) := by
      congr 1 <;> omega
    have P1 := hp.less (Nat.sub_le a1 a2) (Nat.sub_le b1 b2) (Nat.sub_le c1 c2) (Nat.sub_le d1 d2)
    have P2 := hq.less (Nat.sub_le a2 a1) (Nat.sub_le b2 b1) (Nat.sub_le c2 c1) (Nat.sub_le d2 d1)
    have s1 := hp.2.1
    have s2 := hq.2.1
    have l1 := P1.2.2.2
    have l2 := P2.2.2.2
    have g1 := P1.1
    have g2 := P2.1
    have fe := fraction_eq (w := (a1 : Int) - a2) (x := (b1 : Int) - b2) (y := (c1 : Int) - c2) (z := (d1 : Int) - d2) (by omega)
    rw [f1, f2, ← g1, ← g2] at fe
    refine ⟨_, _, ?_, l1, l2, ratio_text_eq fe (by omega) (by omega), shown_eq (by omega) (by omega) (by omega) (by omega) (g1.trans f1.symm) (g2.trans f2.symm) (by omega) (by omega)⟩
    show (sm _ _ _ _, sm _ _ _ _) = _
    rw [f1, f2]
    exact congr (congrArg Prod.mk g1.symm) g2.symm
/-! ### rows written -/
theorem l_note : ("note " : Str).cps.toList = ("note" : Str).cps.toList ++ [32] := rfl
theorem l_home : ("home " : Str).cps.toList = ("home" : Str).cps.toList ++ [32] := rfl
theorem l_bend : ("bend " : Str).cps.toList = ("bend" : Str).cps.toList ++ [32] := rfl
theorem l_weight : ("weight " : Str).cps.toList = ("weight" : Str).cps.toList ++ [32] := rfl
theorem l_bend2 : (" bend " : Str).cps.toList = 32 :: (("bend" : Str).cps.toList ++ [32]) := rfl
theorem l_weight2 : (" weight " : Str).cps.toList = 32 :: (("weight" : Str).cps.toList ++ [32]) := rfl
theorem l_sp : (" " : Str).cps.toList = [32] := rfl
theorem l_over : (" / " : Str).cps.toList = 32 :: (("/" : Str).cps.toList ++ [32]) := rfl
theorem l_em : Str.empty.cps.toList = [] := rfl
theorem str_ext {a b : Str} (h : a.cps.toList = b.cps.toList) : a = b := by rw [← T_eta a, ← T_eta b, h]
theorem emp_len : Str.empty.length = 0 := rfl
theorem note_row_eq {r : List Str} {n : Nt} (h : NoteRow r n) : m_note_row n = some (T (spw (nw n))) := by
  obtain ⟨a, b, x, y, ha, hb, hx, hy, rfl, rfl⟩ := h
  have a8 := ha.l8
  have b8 := hb.l8
  have x5 := strI_len (n := x) (by omega)
  have y5 := strI_len (n := y) (by omega)
  unfold m_note_row mb_note_row
  simp only [pur_opt, sbO, gd_y (show a.length ≤ sizeLine from szl (by omega)), gd_y (show b.length ≤ sizeLine from szl (by omega)), gd_y (log_ok (n := x) (by omega)), gd_y (log_ok (n := y) (by omega))]
  rw [show ([some ("note " : Str), some a, some (" " : Str), some b, some (" " : Str), some (strI (x : Int)), some (" " : Str), some (strI (y : Int))] : List (Option Str)) = ([("note " : Str), a, " ", b, " ", strI (x : Int), " ", strI (y : Int)] : List Str).map some from rfl,
    jsT_all _ _ (szl (by
      simp only [List.map_cons, List.map_nil, List.sum_cons, List.sum_nil, emp_len]
      have e1 : ("note " : Str).length = 5 := rfl
      have e2 : (" " : Str).length = 1 := rfl
      omega)), sbO, fr]
  congr 1
  refine str_ext ?_
  rw [foldS_l, T_l]
  simp [spw, nw, TL.joinL, l_note, l_sp, l_em]
theorem cwT_len (t : Ti) : (cw t).length ≤ 10 := by
  unfold cw cwH cwT
  rw [List.length_append]
  have h1 : (if t.a = "held" then [t.a, t.b, t.c] else [t.a, t.b, t.c, strI (frc t.d).1, "/", strI (frc t.d).2] : List Str).length ≤ 6 := by split <;> simp
  have h2 : (if t.e = 50 ∧ t.f = 1 then [] else [("bend" : Str), strI t.e] ++ (if t.f = 1 then [] else [("weight" : Str), strI t.f]) : List Str).length ≤ 4 := by
    split
    · simp
    · rw [List.length_append]
      split <;> simp
  omega
/-- numbers of a tie -/
theorem Tail.nums {tl : List Str} {bd wt : Int} (h : Tail tl bd wt) : ∃ x y : Nat, bd = (x : Int) ∧ wt = (y : Int) ∧ x ≤ 9999 ∧ y ≤ 9 := by
  rcases h with ⟨rfl, rfl, rfl⟩ | ⟨x, hx, rfl, ⟨rfl, rfl⟩ | ⟨y, y1, y9, rfl, rfl⟩⟩
  · exact ⟨50, 1, rfl, rfl, by decide, by decide⟩
  · exact ⟨x, 1, rfl, rfl, hx, by decide⟩
  · exact ⟨x, y, rfl, rfl, hx, y9⟩
theorem word_len {w a b : Str} {hd : List Str} {ra : Tl Int} (h : Head w a b hd ra) : w.length ≤ 4 := by
  rcases h with ⟨rfl, _⟩ | ⟨rfl | rfl, _⟩ <;> decide
theorem joinSp_g {ws : List Str} {n : Nat} (h : (ws.map Str.length).sum ≤ n) (hn : n ≤ 1000) (hl : ws.length ≤ 1000) : (List.map Str.length ws).sum + ws.length * Str.length (" " : Str) ≤ 16777216 := by
  have e2 : (" " : Str).length = 1 := rfl
  rw [e2]; omega
theorem js2 {s x : Str} (h : s.length + x.length ≤ 100) : jsT [some s, some x] Str.empty = some (s ++ x) := by
  rw [show ([some s, some x] : List (Option Str)) = ([s, x] : List Str).map some from rfl, jsT_all _ _ (szl (by simp only [List.map_cons, List.map_nil, List.sum_cons, List.sum_nil, emp_len]; omega))]
  show some (Str.empty ++ s ++ x) = _
  rw [show Str.empty ++ s = s from Str.empty_append s]
theorem tie_row_eq {r : List Str} {t : Ti} (h : TieRow r t) : m_tie_row t = some (T (spw (cw t))) := by
  obtain ⟨w, a, b, hd, tl, ra, bd, wt, ha, hb, h1, h2, rfl, rfl⟩ := h
  obtain ⟨x, y, rfl, rfl, hx, hy⟩ := h2.nums
  have a8 := ha.l8
  have b8 := hb.l8
  have w4 := word_len h1
  have x5 := strI_len (n := x) (by omega)
  have y5 := strI_len (n := y) (by omega)
  have lb : ("bend " : Str).length = 5 := rfl
  have lw : ("weight " : Str).length = 7 := rfl
  have l3 : ∀ a b c : Str, ([a, b, c] : List Str).length ≤ 1000 := fun a b c => by simp
  have j1 := js2 (s := "bend ") (x := strI (x : Int)) (by omega)
  have j2 := js2 (s := "weight ") (x := strI (y : Int)) (by omega)
  -- the first words, as they are put together
  have H : ∃ hd' : List Str, (hd'.map Str.length).sum ≤ 60 ∧ 1 ≤ hd'.length ∧ hd'.length ≤ 4 ∧ (∀ tl' : List Str, spw (hd' ++ tl') = spw (cwH ⟨w, a, b, ra, (x : Int), (y : Int)⟩ ++ tl')) ∧ ∀ (f : List Str → Option (Fl Empty Empty Str)), andThen (cnd (!decide (w = "held")) (Mn.bnd (m_ratio_text ra) fun e => gd (([w, a, b] : List Str).length < 100000) (some (.nx ([w, a, b] ++ [e]) : Fl (List Str) Empty Str))) (some (.nx [w, a, b]))) f = f hd' := by
    by_cases c : w = "held"
    · refine ⟨[w, a, b], by simp; omega, by simp, by simp, fun tl' => ?_, fun f => ?_⟩
      · unfold cwH; rw [if_pos c]
      · rw [decide_eq_true c, Bool.not_true, cnd_f, andThen_nx]
    · obtain ⟨P, Q, e1, e2, e3, e4, _⟩ := h1.shown c
      have p5 := strI_len (n := P) (by omega)
      have q5 := strI_len (n := Q) (by omega)
      have lo : (" / " : Str).length = 3 := rfl
      refine ⟨[w, a, b, strI (P : Int) ++ (" / " : Str) ++ strI (Q : Int)], ?_, by simp, by simp, fun tl' => ?_, fun f => ?_⟩
      · simp only [List.map_cons, List.map_nil, List.sum_cons, List.sum_nil, Str.length_append]; omega
      · unfold cwH
        rw [if_neg c, e1]
        cases tl' with
        | nil => simp [spw, TL.joinL, app_l, l_over]
        | cons z zs => simp [spw, TL.joinL, app_l, l_over]
      · rw [decide_eq_false c, Bool.not_false, cnd_t, e4, sbO, gd_y (by simp), andThen_nx]; rfl
  obtain ⟨hd', s1, l1, l4, hs, hf⟩ := H
  unfold m_tie_row mb_tie_row
  simp only [pur_opt, sbO, liftO, gd_y (l3 _ _ _), gd_y (log_ok (n := x) (by omega)), gd_y (log_ok (n := y) (by omega)), j1, j2]
  rw [hf]
  have cwe : cw ⟨w, a, b, ra, (x : Int), (y : Int)⟩ = cwH ⟨w, a, b, ra, (x : Int), (y : Int)⟩ ++ cwT (x : Int) (y : Int) := rfl
  have fin_ : ∀ tl' : List Str, (tl'.map Str.length).sum ≤ 60 → tl'.length ≤ 4 → spw (hd' ++ tl') = spw (cw ⟨w, a, b, ra, (x : Int), (y : Int)⟩) → fin (Mn.bnd (gd ((List.map Str.length (hd' ++ tl')).sum + (hd' ++ tl').length * Str.length (" " : Str) ≤ 16777216) (some (Txt.join (" " : Str) (hd' ++ tl')))) fun r => (some (.rt r) : Option (Fl Empty Empty Str))) = some (T (spw (cw ⟨w, a, b, ra, (x : Int), (y : Int)⟩))) := fun tl' g1 g2 g3 => by
    rw [gd_y (joinSp_g (n := 120) (by rw [List.map_append, List.sum_append]; omega) (by decide) (by rw [List.length_append]; omega)), sbO, joinSp, g3, fr]
  have sb : ∀ z : Nat, z < 100000 → ∀ zs : List Str, spw (cwH ⟨w, a, b, ra, (x : Int), (y : Int)⟩ ++ (("bend " : Str) ++ strI (z : Int)) :: zs) = spw (cwH ⟨w, a, b, ra, (x : Int), (y : Int)⟩ ++ ("bend" : Str) :: strI (z : Int) :: zs) := fun z hz zs => by
    unfold cwH
    split <;> cases zs <;> simp [spw, TL.joinL, app_l, l_bend]
  by_cases c1 : (y : Int) = 1
  · by_cases c2 : (x : Int) = 50
    · rw [decide_eq_true c2, Bool.not_true, cnd_f, decide_eq_true c1, Bool.not_true, sbO, cnd_f, andThen_nx, cnd_f, andThen_nx]
      have := fin_ [] (by simp) (by simp) (by rw [hs, cwe]; unfold cwT; rw [if_pos ⟨c2, c1⟩])
      rwa [List.append_nil] at this
    · rw [decide_eq_false c2, Bool.not_false, cnd_t, sbO, cnd_t, gd_y (by omega), andThen_nx, decide_eq_true c1, Bool.not_true, cnd_f, andThen_nx]
      refine fin_ [("bend " : Str) ++ strI (x : Int)] (by simp only [List.map_cons, List.map_nil, List.sum_cons, List.sum_nil, Str.length_append]; omega) (by simp) ?_
      rw [hs, cwe, sb x (by omega)]; unfold cwT; rw [if_neg (fun z => c2 z.1), if_pos c1]; rfl
  · have e : (cnd (!decide ((x : Int) = 50)) (some true) (some (!decide ((y : Int) = 1))) : Option Bool) = some true := by
      rw [decide_eq_false c1]
      cases decide ((x : Int) = 50) <;> rfl
    rw [e, sbO, cnd_t, gd_y (by omega), andThen_nx, decide_eq_false c1, Bool.not_false, cnd_t, gd_y (by rw [List.length_append]; simp; omega), andThen_nx, List.append_assoc]
    refine fin_ [("bend " : Str) ++ strI (x : Int), ("weight " : Str) ++ strI (y : Int)] (by simp only [List.map_cons, List.map_nil, List.sum_cons, List.sum_nil, Str.length_append]; omega) (by simp) ?_
    rw [hs, sb x (by omega), cwe]
    unfold cwT
    rw [if_neg (fun z => c1 z.2), if_neg c1]
    unfold cwH
    split <;> simp [spw, TL.joinL, app_l, l_weight]
end K05

set_option Elab.async false
set_option linter.all false
set_option maxRecDepth 100000
set_option maxHeartbeats 1000000
namespace K05
open PySem PySem.Spec PyProof.Rows L2 ON
open PyData (strOk)
def rT (r : List Str) : Str := T (spw r)
theorem rowsT (ns : List Nt) (ts : List Ti) (h : Option (Str × Str)) : ((rowsW ns ts h).map spw).map T = ns.map (fun n => T (spw (nw n))) ++ ts.map (fun t => T (spw (cw t))) ++ h.toList.map (fun x => T (spw (hw x))) := by
  unfold rowsW
  simp only [List.map_append, List.map_map]
  rfl
theorem home_eq {r : List Str} {x : Str × Str} (h : HomeRow r x) : jsT [some ("home " : Str), some x.1, some (" " : Str), some x.2] Str.empty = some (T (spw (hw x))) ∧ x.1.length ≤ 8 ∧ x.2.length ≤ 8 := by
  obtain ⟨a, b, ha, hb, rfl, rfl⟩ := h
  have a8 := ha.l8
  have b8 := hb.l8
  refine ⟨?_, a8, b8⟩
  rw [show ([some ("home " : Str), some (a, b).1, some (" " : Str), some (a, b).2] : List (Option Str)) = ([("home " : Str), a, " ", b] : List Str).map some from rfl,
    jsT_all _ _ (szl (by
      simp only [List.map_cons, List.map_nil, List.sum_cons, List.sum_nil, emp_len]
      have e1 : ("home " : Str).length = 5 := rfl
      have e2 : (" " : Str).length = 1 := rfl
      omega))]
  congr 1
  refine str_ext ?_
  rw [foldS_l, T_l]
  simp [spw, hw, TL.joinL, l_home, l_sp, l_em]
theorem join_g {ns ts h} (H : Told ns ts h) (hl : (rowsW ns ts h).length ≤ 80) : (List.map Str.length (((rowsW ns ts h).map spw).map T)).sum + (((rowsW ns ts h).map spw).map T).length * Str.length ("\n" : Str) ≤ 16777216 := by
  have nl : Str.length ("\n" : Str) = 1 := rfl
  have key : ∀ rs : List (List Str), (∀ r ∈ rs, RowB r) → (List.map Str.length ((rs.map spw).map T)).sum ≤ 90 * rs.length := by
    intro rs
    induction rs with
    | nil => intro _; exact Nat.le_refl _
    | cons x xs ih =>
      intro hh
      have i1 := ih fun e he => hh e (.tail _ he)
      have i2 := (hh x (.head _)).spl
      rw [List.map_cons, List.map_cons, List.map_cons, List.sum_cons, List.length_cons, T_len]
      omega
  have := key _ H.rs.rb
  rw [nl, List.length_map, List.length_map]
  omega
theorem written_eq {ns ts h} (H : Told ns ts h) (hl : (rowsW ns ts h).length ≤ 80) : m_written (⟨⟨ns⟩, ⟨ts⟩, h⟩ : Sg) = some (textW ns ts h) := by
  have e1 : (rowsW ns ts h).length = ns.length + ts.length + h.toList.length := by
    unfold rowsW
    simp only [List.length_append, List.length_map]
  unfold m_written mb_written
  simp only [pur_opt, sbO, liftO]
  rw [gd_y (by omega), compL_map (f := fun n => T (spw (nw n))) ns (fun n hn => ⟨rfl, note_row_eq (H.n n hn)⟩), sbO, gd_y (by omega), compL_map (f := fun t => T (spw (cw t))) ts (fun t ht => ⟨rfl, tie_row_eq (H.t t ht)⟩), sbO,
    gd_y (szl (by rw [List.length_map, List.length_map]; omega)), sbO]
  have g := join_g H hl
  have r := rowsT ns ts h
  cases h with
  | none =>
    have r2 : ns.map (fun n => T (spw (nw n))) ++ ts.map (fun t => T (spw (cw t))) = ((rowsW ns ts none).map spw).map T := by
      rw [r, Option.toList, List.map_nil, List.append_nil]
    simp only [Option.isSome_none, cnd_f, andThen_nx]
    rw [r2, gd_y g, sbO, fr, joinNl]; rfl
  | some x =>
    obtain ⟨j, a8, b8⟩ := home_eq (H.h x rfl)
    have r2 : ns.map (fun n => T (spw (nw n))) ++ ts.map (fun t => T (spw (cw t))) ++ [T (spw (hw x))] = ((rowsW ns ts (some x)).map spw).map T := by
      rw [r]; rfl
    simp only [Option.isSome_some, cnd_t, id, sbO, gd_y (show x.1.length ≤ sizeLine from szl (by omega)), gd_y (show x.2.length ≤ sizeLine from szl (by omega)), j]
    rw [gd_y (by rw [List.length_append, List.length_map, List.length_map]; omega), andThen_nx, r2, gd_y g, sbO, fr, joinNl]; rfl
/-! ### written by the law -/
theorem spw_app : ∀ (hd : List Str) (z : Str) (zs : List Str), hd ≠ [] → spw (hd ++ z :: zs) = spw hd ++ 32 :: spw (z :: zs)
  | [], _, _, h => absurd rfl h
  | [x], z, zs, _ => by
    show TL.joinL [32] (x.cps.toList :: z.cps.toList :: zs.map _) = _
    rw [TL.joinL]; rfl
  | x :: y :: hd, z, zs, _ => by
    have := spw_app (y :: hd) z zs (by simp)
    show TL.joinL [32] (x.cps.toList :: y.cps.toList :: (hd ++ z :: zs).map _) = TL.joinL [32] (x.cps.toList :: y.cps.toList :: hd.map _) ++ _
    rw [TL.joinL, TL.joinL]
    show x.cps.toList ++ ([32] ++ spw (y :: hd ++ z :: zs)) = x.cps.toList ++ ([32] ++ spw (y :: hd)) ++ _
    rw [this]; simp
theorem forL_snoc {α β l ρ : Type} {body : List β → α → Option (Fl (List β) (List β) ρ)} (f : α → β) (N : Nat) : ∀ (ts : List α) (rows : List β), rows.length + ts.length ≤ N → (∀ rows t, t ∈ ts → rows.length < N → body rows t = some (.nx (rows ++ [f t]))) → (forL body ts rows : Option (Fl (List β) l ρ)) = some (.nx (rows ++ ts.map f))
  | [], rows, _, _ => by rw [forL_nil, pur_opt, List.map_nil, List.append_nil]
  | t :: ts, rows, h, hb => by
    rw [List.length_cons] at h
    rw [forL_cons, hb rows t (.head _) (by omega), sbO]
    show forL body ts (rows ++ [f t]) = _
    rw [forL_snoc f N ts _ (by rw [List.length_append, List.length_singleton]; omega) fun r x hx hr => hb r x (.tail _ hx) hr, List.append_assoc]; rfl
theorem rep0 (a : Str) : repS a 0 = (T [] : Str) := rfl
theorem rep1 (a : Str) : repS a 1 = a := by
  refine str_ext ?_
  show ((List.replicate 1 a.cps).foldl (fun x y => x ++ y) #[]).toList = _
  simp
theorem gda {a b : Str} (h : a.length + b.length ≤ 1000) {x : Option Str} : gd (a.length + b.length ≤ sizeLine) x = x := gd_y (szl (by omega)) x
theorem law_written_eq {ns ts h} (H : Told ns ts h) (hl : (rowsW ns ts h).length ≤ 80) : m__law_written (⟨⟨ns⟩, ⟨ts⟩, h⟩ : Sg) = some (textW ns ts h) := by
  have e1 : (rowsW ns ts h).length = ns.length + ts.length + h.toList.length := by
    unfold rowsW
    simp only [List.length_append, List.length_map]
  have l5 : ∀ a b c d e : Str, ([a, b, c, d, e] : List Str).length ≤ 1000 := fun a b c d e => by simp
  have esp : (" " : Str).length = 1 := rfl
  have ebe : (" bend " : Str).length = 6 := rfl
  have ewe : (" weight " : Str).length = 8 := rfl
  have eho : ("home " : Str).length = 5 := rfl
  have eno : ("note" : Str).length = 4 := rfl
  unfold m__law_written mb__law_written
  simp only [pur_opt, sbO, liftO, gd_y (l5 _ _ _ _ _)]
  rw [gd_y (by omega), compL_map (f := fun n => T (spw (nw n))) ns (fun n hn => ⟨rfl, ?hn⟩), sbO]
  case hn =>
    obtain ⟨a, b, x, y, ha, hb, hx, hy, _, rfl⟩ := H.n n hn
    have a8 := ha.l8
    have b8 := hb.l8
    have x5 := strI_len (n := x) (by omega)
    have y5 := strI_len (n := y) (by omega)
    simp only [gd_y (log_ok (n := x) (by omega)), gd_y (log_ok (n := y) (by omega)), sbO]
    rw [gd_y (l5 _ _ _ _ _), sbO, gd_y (joinSp_g (n := 100) (by simp only [List.map_cons, List.map_nil, List.sum_cons, List.sum_nil]; omega) (by decide) (by simp)), joinSp]; rfl
  rw [forL_snoc (fun t => T (spw (cw t))) 1000 ts _ (by rw [List.length_map]; omega) (fun rows t ht hr => ?hb), andThen_nx]
  case hb =>
    have htr := H.t t ht
    obtain ⟨w, a, b, hd, tl, ra, bd, wt, ha, hb, h1, h2, hcw, rfl⟩ := htr
    obtain ⟨x, y, rfl, rfl, hx, hy⟩ := h2.nums
    have a8 := ha.l8
    have b8 := hb.l8
    have w4 := word_len h1
    have x5 := strI_len (n := x) (by omega)
    have y5 := strI_len (n := y) (by omega)
    have cwe : cw ⟨w, a, b, ra, (x : Int), (y : Int)⟩ = cwH ⟨w, a, b, ra, (x : Int), (y : Int)⟩ ++ cwT (x : Int) (y : Int) := rfl
    have cne : cwH ⟨w, a, b, ra, (x : Int), (y : Int)⟩ ≠ [] := by unfold cwH; split <;> simp
    dsimp only
    rw [gda (by omega), sbO, gda (by rw [Str.length_append]; omega), sbO, gda (by simp only [Str.length_append]; omega), sbO, gda (by simp only [Str.length_append]; omega), sbO]
    have r0l : (w ++ (" " : Str) ++ a ++ (" " : Str) ++ b).length ≤ 22 := by simp only [Str.length_append]; omega
    have Hd : ∃ hd' : Str, hd'.length ≤ 50 ∧ hd'.cps.toList = spw (cwH ⟨w, a, b, ra, (x : Int), (y : Int)⟩) ∧ ∀ (f : Str → Option (Fl (List Str) (List Str) Str)), andThen (cnd (!decide (w = "held")) (Mn.bnd (Mn.bnd (gd ((w ++ (" " : Str) ++ a ++ (" " : Str) ++ b).length + (" " : Str).length ≤ sizeLine) (some (w ++ (" " : Str) ++ a ++ (" " : Str) ++ b ++ (" " : Str)))) fun x => Mn.bnd (m__law_shown ra) fun y => gd (x.length + y.length ≤ sizeLine) (some (x ++ y))) fun row => (some (.nx row) : Option (Fl Str (List Str) Str))) (some (.nx (w ++ (" " : Str) ++ a ++ (" " : Str) ++ b)))) f = f hd' := by
      by_cases c : w = "held"
      · refine ⟨w ++ (" " : Str) ++ a ++ (" " : Str) ++ b, by omega, ?_, fun f => by rw [decide_eq_true c, Bool.not_true, cnd_f, andThen_nx]⟩
        unfold cwH
        rw [if_pos c]
        simp [spw, TL.joinL, app_l, l_sp]
      · obtain ⟨P, Q, e1, e2, e3, _, e4⟩ := h1.shown c
        have p5 := strI_len (n := P) (by omega)
        have q5 := strI_len (n := Q) (by omega)
        have lo : (" / " : Str).length = 3 := rfl
        refine ⟨w ++ (" " : Str) ++ a ++ (" " : Str) ++ b ++ (" " : Str) ++ (strI (P : Int) ++ (" / " : Str) ++ strI (Q : Int)), by simp only [Str.length_append]; omega, ?_, fun f => ?_⟩
        · unfold cwH
          rw [if_neg c, e1]
          simp [spw, TL.joinL, app_l, l_sp, l_over]
        · rw [decide_eq_false c, Bool.not_false, cnd_t, gda (by omega), sbO, e4, sbO, gda (by simp only [Str.length_append]; omega), sbO, andThen_nx]
    obtain ⟨hd', lh, eh, hf⟩ := Hd
    rw [hf]
    have sh : ∀ p : Int × Int, Shp (enc p) = true := fun p => EqD.shp p rfl
    have dq : ∀ p q : Int × Int, deqv (enc p) (enc q) = decide (p = q) := fun p q => EqD.deqv p q
    simp only [gd_y (And.intro (sh _) (sh _)), dq, sbO, gd_y (log_ok (n := x) (by omega)), gd_y (log_ok (n := y) (by omega))]
    rw [gda (a := (" weight " : Str)) (by omega)]
    by_cases c1 : (y : Int) = 1
    · have rw1 : (if (!decide ((y : Int) = 1)) = true then (1 : Int) else 0) = 0 := by rw [decide_eq_true c1]; rfl
      by_cases c2 : (x : Int) = 50
      · have d : decide (((x : Int), (y : Int)) = (50, 1)) = true := decide_eq_true (by rw [c1, c2])
        rw [d, Bool.not_true, cnd_f, andThen_nx, sbO, rw1, gd_y ⟨by decide, by decide, by simp⟩, rep0, sbO, gd_y (szl (by rw [T_len]; simp; omega)), sbO, gd_y (by omega)]
        congr 4
        refine str_ext ?_
        rw [app_l, T_l, T_l, List.append_nil, eh, cwe]
        unfold cwT
        rw [if_pos ⟨c2, c1⟩, List.append_nil]
      · have d : decide (((x : Int), (y : Int)) = (50, 1)) = false := decide_eq_false fun z => c2 (congrArg Prod.fst z)
        rw [d, Bool.not_false, cnd_t, gda (by omega), sbO, gda (by rw [Str.length_append]; omega), sbO, andThen_nx, sbO, rw1, gd_y ⟨by decide, by decide, by simp⟩, rep0, sbO, gd_y (szl (by rw [T_len]; simp only [Str.length_append, List.length_nil]; omega)), sbO, gd_y (by omega)]
        congr 4
        refine str_ext ?_
        rw [app_l, T_l, T_l, List.append_nil, cwe]
        unfold cwT
        rw [if_neg (fun z => c2 z.1), if_pos c1]
        show _ = spw (_ ++ ("bend" : Str) :: [strI (x : Int)])
        rw [spw_app _ _ _ cne, ← eh]
        simp [spw, TL.joinL, app_l, l_bend2]
    · have rw1 : (if (!decide ((y : Int) = 1)) = true then (1 : Int) else 0) = 1 := by rw [decide_eq_false c1]; rfl
      have d : decide (((x : Int), (y : Int)) = (50, 1)) = false := decide_eq_false fun z => c1 (congrArg Prod.snd z)
      rw [d, Bool.not_false, cnd_t, gda (by omega), sbO, gda (by rw [Str.length_append]; omega), sbO, andThen_nx, sbO, rw1, gd_y ⟨by decide, by decide, by rw [Str.length_append]; show _ * 1 ≤ _; omega⟩, rep1, sbO, gd_y (szl (by simp only [Str.length_append]; omega)), sbO, gd_y (by omega)]
      congr 4
      refine str_ext ?_
      rw [T_l, cwe]
      unfold cwT
      rw [if_neg (fun z => c1 z.2), if_neg c1]
      show _ = spw (_ ++ ("bend" : Str) :: [strI (x : Int), "weight", strI (y : Int)])
      rw [spw_app _ _ _ cne, ← eh]
      simp [spw, TL.joinL, app_l, l_bend2, l_weight2]
  have g := join_g H hl
  have r := rowsT ns ts h
  cases h with
  | none =>
    have r2 : ns.map (fun n => T (spw (nw n))) ++ ts.map (fun t => T (spw (cw t))) = ((rowsW ns ts none).map spw).map T := by
      rw [r, Option.toList, List.map_nil, List.append_nil]
    simp only [Option.isSome_none, cnd_f, andThen_nx]
    rw [r2, gd_y g, sbO, fr, joinNl]; rfl
  | some x =>
    have hx := H.h x rfl
    obtain ⟨j, a8, b8⟩ := home_eq hx
    have r2 : ns.map (fun n => T (spw (nw n))) ++ ts.map (fun t => T (spw (cw t))) ++ [T (spw (hw x))] = ((rowsW ns ts (some x)).map spw).map T := by
      rw [r]; rfl
    have eh : ("home " : Str) ++ Txt.join (" " : Str) [x.1, x.2] = T (spw (hw x)) := by
      refine str_ext ?_
      rw [joinSp, app_l, T_l, T_l]
      simp [spw, hw, TL.joinL, l_home]
    have lj : (Txt.join (" " : Str) [x.1, x.2]).length ≤ 20 := by
      rw [joinSp, T_len]
      show (TL.joinL [32] [x.1.cps.toList, x.2.cps.toList]).length ≤ 20
      have a8' : x.1.cps.toList.length ≤ 8 := a8
      have b8' : x.2.cps.toList.length ≤ 8 := b8
      simp only [TL.joinL, List.length_append, List.length_singleton]
      omega
    simp only [Option.isSome_some, cnd_t, id, sbO]
    rw [gd_y (joinSp_g (ws := [x.1, x.2]) (n := 100) (by simp only [List.map_cons, List.map_nil, List.sum_cons, List.sum_nil]; omega) (by decide) (by simp)), sbO, gda (by omega), sbO, eh,
      gd_y (by rw [List.length_append, List.length_map, List.length_map]; omega), andThen_nx, r2, gd_y g, sbO, fr, joinNl]; rfl
end K05

set_option Elab.async false
set_option linter.all false
set_option maxRecDepth 100000
set_option maxHeartbeats 1000000
namespace K05
open PySem PySem.Spec PyProof.Rows L2 ON
open PyData (strOk)
theorem RS.len2 {rs ns ts hs} (h : RS rs ns ts hs) : ns.length + ts.length + hs.length = rs.length := by
  induction h with
  | nil => rfl
  | _ _ _ ih => simp only [List.length_append, List.length_singleton]; omega
theorem NoteRow.okE {r : List Str} {n : Nt} (h : NoteRow r n) : EqD.ok n = true := by
  obtain ⟨a, b, x, y, ha, hb, hx, hy, rfl, rfl⟩ := h
  show (strOk a && strOk b && true && true) = true
  rw [ha.ok, hb.ok]; rfl
theorem HomeRow.okE {r : List Str} {n : Str × Str} (h : HomeRow r n) : EqD.ok n = true := by
  obtain ⟨a, b, ha, hb, rfl, rfl⟩ := h
  show (strOk a && strOk b) = true
  rw [ha.ok, hb.ok]; rfl
theorem TieRow.okE {r : List Str} {t : Ti} (h : TieRow r t) : EqD.ok t = true := by
  obtain ⟨w, a, b, hd, tl, ra, bd, wt, ha, hb, h1, h2, rfl, rfl⟩ := h
  have ow : strOk w = true := by
    rcases h1 with ⟨rfl, _⟩ | ⟨rfl | rfl, _⟩ <;> decide +kernel
  show (strOk w && strOk a && strOk b && ra.l.all (fun _ => true) && true && true) = true
  rw [ow, ha.ok, hb.ok, List.all_eq_true.mpr fun _ _ => rfl]; rfl
theorem Told.ok {ns ts h} (H : Told ns ts h) : EqD.ok (⟨⟨ns⟩, ⟨ts⟩, h⟩ : Sg) = true := by
  show (ns.all EqD.ok && ts.all EqD.ok && EqD.ok h) = true
  rw [List.all_eq_true.mpr fun n hn => (H.n n hn).okE, List.all_eq_true.mpr fun t ht => (H.t t ht).okE]
  cases h with
  | none => rfl
  | some x => exact (H.h x rfl).okE
theorem Told.nil : Told [] [] none := ⟨fun _ h => (nomatch h), fun _ h => (nomatch h), fun _ h => (nomatch h)⟩
theorem textW_nil : textW [] [] none = ("" : Str) := rfl
theorem step_eq (p0 : List Int) (hc : p0.length ≤ 1000) : m__law_step p0 = some true := by
  unfold m__law_step
  refine fin0_of ?_
  unfold mb__law_step
  have hc2 : (Cells.cells p0 : List Int).length ≤ 1000 := hc
  generalize (Cells.cells p0 : List Int) = cl at hc2
  refine W.begun3 hc2 fun nm k k0 k1 hn hnm => ?_
  have gnm : ∀ y ∈ nm, Nm y := fun y hy => Nm.mk2 (hnm y hy).1 (hnm y hy).2.1 (hnm y hy).2.2.1 (hnm y hy).2.2.2
  have l3 : ∀ a b c : Int, ([a, b, c] : List Int).length ≤ 1000 := fun a b c => by simp
  simp only [pbS, gd_y (l3 _ _ _), gd_y (show ([] : List Nt).length ≤ 1000 by decide), gd_y (show ([] : List Ti).length ≤ 1000 by decide)]
  refine W.bnd (W.bnd (W.bnd (W.nx hc2 (by omega) (by decide) fun a a0 a1 => ?_)))
  obtain ⟨most, e1, m1⟩ := at_mem ([3, 12, 61] : List Int) a a0 a1
  have hm : 0 < most ∧ most ≤ 61 := by
    have key : ∀ x ∈ ([3, 12, 61] : List Int), 0 < x ∧ x ≤ 61 := by decide
    exact key most m1
  refine W.lift e1 (song_W hc2 (by omega) hn gnm hm fun rs ns ts hs k2 hR hl k3 k4 => ?_)
  refine W.bnd (text_W hc2 (by omega) hR.rb hl fun x pl rows k5 hw hf hl2 k6 k7 => ?_)
  have H := hR.told
  have hrl : (rowsW ns ts hs.head?).length ≤ 80 := by
    have := hR.len2
    unfold rowsW
    simp only [List.length_append, List.length_map]
    have : hs.head?.toList.length ≤ 1 := by cases hs.head? <;> simp
    omega
  have er := read_eq hw hR hf hl2
  have eo : okO (m_read x) = some (⟨⟨ns⟩, ⟨ts⟩, hs.head?⟩ : Sg) := by rw [er]; rfl
  have ew := written_eq H hrl
  have el := law_written_eq H hrl
  have e2 : okO (m_read (textW ns ts hs.head?)) = some (⟨⟨ns⟩, ⟨ts⟩, hs.head?⟩ : Sg) := by rw [H.read hrl]; rfl
  have en : m_written (⟨⟨[]⟩, ⟨[]⟩, none⟩ : Sg) = some ("" : Str) := by rw [written_eq Told.nil (by decide), textW_nil]
  have sh : Shp (enc (⟨⟨ns⟩, ⟨ts⟩, hs.head?⟩ : Sg)) = true := EqD.shp _ H.ok
  have dq : deqv (enc (⟨⟨ns⟩, ⟨ts⟩, hs.head?⟩ : Sg)) (enc (⟨⟨ns⟩, ⟨ts⟩, hs.head?⟩ : Sg)) = true := (EqD.deqv _ _).trans (decide_eq_true rfl)
  have ks : ∀ s : Str, kit "str" (enc s) = true := fun _ => rfl
  simp only [eo, lsome, pbS, ew, gd_y (And.intro sh sh), dq, Bool.not_true, cnd_f, ks, el, decide_true]
  refine W.andThen (W.pur ?_)
  simp only [e2, lsome, pbS, gd_y (And.intro sh sh), dq, Bool.not_true, cnd_f, ew, decide_true]
  refine W.andThen (W.pur ?_)
  simp only [cnd_t, en, lsome, pbS, decide_true]
  exact W.pur rfl
theorem law_true (s : Sc) (h : s.ns.length ≤ 63) : m_law s = some true := by
  unfold m_law
  have g : Rg3 0 (max 1 ((s.ns.length : Nat) : Int)) 12 := by
    have e : max 1 ((s.ns.length : Nat) : Int) = ((max 1 s.ns.length : Nat) : Int) := by omega
    rw [e]; exact rg_ok12 _ (by omega)
  have cl : ∀ lo hi, (cutL s.ns lo hi).length ≤ 1000 := fun lo hi => by
    have := cutL_len s.ns lo hi
    omega
  unfold mb_law
  simp only [pur_opt, sbO, liftO, gd_y g]
  rw [forL_all (f := fun _ _ => ()) _ _ (fun _ => True) trivial (fun u x _ _ => ⟨?hb, trivial⟩), andThen_nx, fr]
  case hb =>
    rw [step_eq _ (cl _ _)]
    simp only [sbO, Bool.not_true, cnd_f, andThen_nx]
end K05

set_option Elab.async false
set_option linter.all false
set_option maxRecDepth 100000
set_option maxHeartbeats 1000000
namespace K05
open PySem PySem.Spec PyProof.Rows L2 ON
def topS (i : Nat) : Stmt := PySem.Challenge.pw_choirtrue_k05_whole_written_and_read.main.body.getD i (.Pass ⟨0, 0, 0, 0⟩)
abbrev s_is_all_of : Stmt := topS 27
theorem sc_is_all_of : FnScope ["piece", "signs", "sign"] ["piece", "signs"] (defScope s_is_all_of) := ⟨rfl, rfl, rfl, by decide +kernel, rfl, by decide +kernel, by decide +kernel⟩
abbrev s_is_letters : Stmt := topS 25
theorem sc_is_letters : FnScope ["piece"] ["piece"] (defScope s_is_letters) := ⟨rfl, rfl, rfl, by decide +kernel, rfl, by decide +kernel, by decide +kernel⟩
abbrev s_is_number : Stmt := topS 26
theorem sc_is_number : FnScope ["piece"] ["piece"] (defScope s_is_number) := ⟨rfl, rfl, rfl, by decide +kernel, rfl, by decide +kernel, by decide +kernel⟩
abbrev s_is_word : Stmt := topS 24
theorem sc_is_word : FnScope ["piece"] ["piece"] (defScope s_is_word) := ⟨rfl, rfl, rfl, by decide +kernel, rfl, by decide +kernel, by decide +kernel⟩
abbrev s_side_by_side : Stmt := topS 23
theorem sc_side_by_side : FnScope ["text", "at", "signs", "end"] ["text", "at", "signs"] (defScope s_side_by_side) := ⟨rfl, rfl, rfl, by decide +kernel, rfl, by decide +kernel, by decide +kernel⟩
abbrev s_piece_at : Stmt := topS 22
theorem sc_piece_at : FnScope ["text", "at", "signs"] ["text", "at"] (defScope s_piece_at) := ⟨rfl, rfl, rfl, by decide +kernel, rfl, by decide +kernel, by decide +kernel⟩
abbrev s_is_name : Stmt := topS 21
theorem sc_is_name : FnScope ["word"] ["word"] (defScope s_is_name) := ⟨rfl, rfl, rfl, by decide +kernel, rfl, by decide +kernel, by decide +kernel⟩
abbrev s_text_words : Stmt := topS 20
theorem sc_text_words : FnScope ["text", "rows", "at", "piece"] ["text"] (defScope s_text_words) := ⟨rfl, rfl, rfl, by decide +kernel, rfl, by decide +kernel, by decide +kernel⟩
abbrev s_how_often : Stmt := topS 6
theorem sc_how_often : FnScope ["number", "prime", "many"] ["number", "prime"] (defScope s_how_often) := ⟨rfl, rfl, rfl, by decide +kernel, rfl, by decide +kernel, by decide +kernel⟩
abbrev s_raised : Stmt := topS 7
theorem sc_raised : FnScope ["prime", "many", "out"] ["prime", "many"] (defScope s_raised) := ⟨rfl, rfl, rfl, by decide +kernel, rfl, by decide +kernel, by decide +kernel⟩
abbrev s_ratio_of : Stmt := topS 2
theorem sc_ratio_of : FnScope ["p", "q", "prime"] ["p", "q"] (defScope s_ratio_of) := ⟨rfl, rfl, rfl, by decide +kernel, rfl, by decide +kernel, by decide +kernel⟩
abbrev s_fraction : Stmt := topS 3
theorem sc_fraction : FnScope ["one", "p", "q", "often", "prime"] ["one"] (defScope s_fraction) := ⟨rfl, rfl, rfl, by decide +kernel, rfl, by decide +kernel, by decide +kernel⟩
abbrev s_figures : Stmt := topS 8
theorem sc_figures : FnScope ["number", "pieces"] ["number"] (defScope s_figures) := ⟨rfl, rfl, rfl, by decide +kernel, rfl, by decide +kernel, by decide +kernel⟩
abbrev s_ratio_text : Stmt := topS 4
theorem sc_ratio_text : FnScope ["one", "p", "q"] ["one"] (defScope s_ratio_text) := ⟨rfl, rfl, rfl, by decide +kernel, rfl, by decide +kernel, by decide +kernel⟩
abbrev s_is_product : Stmt := topS 5
theorem sc_is_product : FnScope ["number"] ["number"] (defScope s_is_product) := ⟨rfl, rfl, rfl, by decide +kernel, rfl, by decide +kernel, by decide +kernel⟩
abbrev s_is_bounded : Stmt := topS 39
theorem sc_is_bounded : FnScope ["number", "kind", "low", "high"] ["number", "kind"] (defScope s_is_bounded) := ⟨rfl, rfl, rfl, by decide +kernel, rfl, by decide +kernel, by decide +kernel⟩
abbrev s_fits : Stmt := topS 38
theorem sc_fits : FnScope ["word", "kind"] ["word", "kind"] (defScope s_fits) := ⟨rfl, rfl, rfl, by decide +kernel, rfl, by decide +kernel, by decide +kernel⟩
abbrev s_wrong_word : Stmt := topS 37
theorem sc_wrong_word : FnScope ["words", "shape", "at", "word"] ["words"] (defScope s_wrong_word) := ⟨rfl, rfl, rfl, by decide +kernel, rfl, by decide +kernel, by decide +kernel⟩
abbrev s_need_row : Stmt := topS 36
theorem sc_need_row : FnScope ["words", "number", "at"] ["words", "number"] (defScope s_need_row) := ⟨rfl, rfl, rfl, by decide +kernel, rfl, by decide +kernel, by decide +kernel⟩
abbrev s_number_behind : Stmt := topS 42
theorem sc_number_behind : FnScope ["words", "mark", "unwritten"] ["words", "mark", "unwritten"] (defScope s_number_behind) := ⟨rfl, rfl, rfl, by decide +kernel, rfl, by decide +kernel, by decide +kernel⟩
abbrev s_told_note : Stmt := topS 40
theorem sc_told_note : FnScope ["words"] ["words"] (defScope s_told_note) := ⟨rfl, rfl, rfl, by decide +kernel, rfl, by decide +kernel, by decide +kernel⟩
abbrev s_told_tie : Stmt := topS 41
theorem sc_told_tie : FnScope ["words", "ratio", "bend", "weight", "word", "one", "other"] ["words"] (defScope s_told_tie) := ⟨rfl, rfl, rfl, by decide +kernel, rfl, by decide +kernel, by decide +kernel⟩
abbrev s_read : Stmt := topS 35
theorem sc_read : FnScope ["text", "rows", "filled", "notes", "ties", "homes", "number", "words"] ["text"] (defScope s_read) := ⟨rfl, rfl, rfl, by decide +kernel, rfl, by decide +kernel, by decide +kernel⟩
abbrev s_note_row : Stmt := topS 45
theorem sc_note_row : FnScope ["note", "name", "voice", "start", "end"] ["note"] (defScope s_note_row) := ⟨rfl, rfl, rfl, by decide +kernel, rfl, by decide +kernel, by decide +kernel⟩
abbrev s_tie_row : Stmt := topS 46
theorem sc_tie_row : FnScope ["tie", "words", "word", "one", "other", "ratio", "bend", "weight"] ["tie"] (defScope s_tie_row) := ⟨rfl, rfl, rfl, by decide +kernel, rfl, by decide +kernel, by decide +kernel⟩
abbrev s_written : Stmt := topS 44
theorem sc_written : FnScope ["song", "rows", "notes", "ties", "home", "note", "tie"] ["song"] (defScope s_written) := ⟨rfl, rfl, rfl, by decide +kernel, rfl, by decide +kernel, by decide +kernel⟩
abbrev s__law_next : Stmt := topS 48
theorem sc__law_next : FnScope ["_law_state", "_law_many", "_law_k", "_law_cells", "_law_base"] ["_law_state", "_law_many"] (defScope s__law_next) := ⟨rfl, rfl, rfl, by decide +kernel, rfl, by decide +kernel, by decide +kernel⟩
abbrev s__law_begun : Stmt := topS 49
theorem sc__law_begun : FnScope ["_law_cells", "_law_state", "_law_rest", "_law_at", "_law_sign", "_law_k"] ["_law_cells"] (defScope s__law_begun) := ⟨rfl, rfl, rfl, by decide +kernel, rfl, by decide +kernel, by decide +kernel⟩
abbrev s__law_part : Stmt := topS 50
theorem sc__law_part : FnScope ["_law_state", "_law_found", "_law_turn", "_law_prime"] ["_law_state"] (defScope s__law_part) := ⟨rfl, rfl, rfl, by decide +kernel, rfl, by decide +kernel, by decide +kernel⟩
abbrev s__law_often : Stmt := topS 51
theorem sc__law_often : FnScope ["_law_number", "_law_found", "_law_prime", "_law_many", "_law_great"] ["_law_number"] (defScope s__law_often) := ⟨rfl, rfl, rfl, by decide +kernel, rfl, by decide +kernel, by decide +kernel⟩
abbrev s__law_ratio : Stmt := topS 52
theorem sc__law_ratio : FnScope ["_law_p", "_law_q", "_law_one", "_law_other"] ["_law_p", "_law_q"] (defScope s__law_ratio) := ⟨rfl, rfl, rfl, by decide +kernel, rfl, by decide +kernel, by decide +kernel⟩
abbrev s__law_tie : Stmt := topS 53
theorem sc__law_tie : FnScope ["_law_state", "_law_some", "_law_word", "_law_words", "_law_ratio_here", "_law_bend", "_law_weight", "_law_way", "_law_one", "_law_other", "_law_p", "_law_q"] ["_law_state", "_law_some"] (defScope s__law_tie) := ⟨rfl, rfl, rfl, by decide +kernel, rfl, by decide +kernel, by decide +kernel⟩
abbrev s__law_song : Stmt := topS 54
theorem sc__law_song : FnScope ["_law_state", "_law_most", "_law_some", "_law_notes", "_law_ties", "_law_homes", "_law_rows", "_law_k", "_law_way", "_law_note", "_law_home", "_law_tie_here", "_law_words"] ["_law_state", "_law_most"] (defScope s__law_song) := ⟨rfl, rfl, rfl, by decide +kernel, rfl, by decide +kernel, by decide +kernel⟩
abbrev s__law_sort : Stmt := topS 55
theorem sc__law_sort : FnScope ["_law_sign"] ["_law_sign"] (defScope s__law_sort) := ⟨rfl, rfl, rfl, by decide +kernel, rfl, by decide +kernel, by decide +kernel⟩
abbrev s__law_row_text : Stmt := topS 56
theorem sc__law_row_text : FnScope ["_law_state", "_law_words", "_law_found", "_law_k", "_law_word", "_law_least"] ["_law_state", "_law_words"] (defScope s__law_row_text) := ⟨rfl, rfl, rfl, by decide +kernel, rfl, by decide +kernel, by decide +kernel⟩
abbrev s__law_text : Stmt := topS 57
theorem sc__law_text : FnScope ["_law_state", "_law_rows", "_law_lines", "_law_places", "_law_words"] ["_law_state", "_law_rows"] (defScope s__law_text) := ⟨rfl, rfl, rfl, by decide +kernel, rfl, by decide +kernel, by decide +kernel⟩
abbrev s__law_shown : Stmt := topS 58
theorem sc__law_shown : FnScope ["_law_ratio_here", "_law_found", "_law_many", "_law_prime", "_law_turn"] ["_law_ratio_here"] (defScope s__law_shown) := ⟨rfl, rfl, rfl, by decide +kernel, rfl, by decide +kernel, by decide +kernel⟩
abbrev s__law_written : Stmt := topS 59
theorem sc__law_written : FnScope ["_law_song_here", "_law_rows", "_law_word", "_law_one", "_law_other", "_law_ratio_here", "_law_bend", "_law_weight", "_law_row", "_law_note"] ["_law_song_here"] (defScope s__law_written) := ⟨rfl, rfl, rfl, by decide +kernel, rfl, by decide +kernel, by decide +kernel⟩
abbrev s__law_step : Stmt := topS 60
theorem sc__law_step : FnScope ["_law_cells", "_law_state", "_law_told", "_law_found", "_law_again", "_law_song_here", "_law_rows", "_law_text_here", "_law_places"] ["_law_cells"] (defScope s__law_step) := ⟨rfl, rfl, rfl, by decide +kernel, rfl, by decide +kernel, by decide +kernel⟩
abbrev s_law : Stmt := topS 61
theorem sc_law : FnScope ["_law_script", "_law_first"] ["_law_script"] (defScope s_law) := ⟨rfl, rfl, rfl, by decide +kernel, rfl, by decide +kernel, by decide +kernel⟩
abbrev pr_is_all_of (ds : List D) (r : D) : Prop := ∃ (p0 : Str) (p1 : Str) (x : Bool), ds = [enc p0, enc p1] ∧ m_is_all_of p0 p1 = some x ∧ r = enc x
abbrev pr_is_letters (ds : List D) (r : D) : Prop := ∃ (p0 : Str) (x : Bool), ds = [enc p0] ∧ m_is_letters p0 = some x ∧ r = enc x
abbrev pr_is_number (ds : List D) (r : D) : Prop := ∃ (p0 : Str) (x : Bool), ds = [enc p0] ∧ m_is_number p0 = some x ∧ r = enc x
abbrev pr_is_word (ds : List D) (r : D) : Prop := ∃ (p0 : Str) (x : Bool), ds = [enc p0] ∧ m_is_word p0 = some x ∧ r = enc x
abbrev pr_side_by_side (ds : List D) (r : D) : Prop := ∃ (p0 : Str) (p1 : Int) (p2 : Str) (x : Str), ds = [enc p0, enc p1, enc p2] ∧ m_side_by_side p0 p1 p2 = some x ∧ r = enc x
abbrev pr_piece_at (ds : List D) (r : D) : Prop := ∃ (p0 : Str) (p1 : Int) (x : Str), ds = [enc p0, enc p1] ∧ m_piece_at p0 p1 = some x ∧ r = enc x
abbrev pr_is_name (ds : List D) (r : D) : Prop := ∃ (p0 : Str) (x : Bool), ds = [enc p0] ∧ m_is_name p0 = some x ∧ r = enc x
abbrev pr_text_words (ds : List D) (r : D ⊕ Er) : Prop := ∃ (p0 : An) (x : Xr (List (List Str))), ds = [enc p0] ∧ m_text_words p0 = some x ∧ r = xenc x
abbrev pr_how_often (ds : List D) (r : D) : Prop := ∃ (p0 : Int) (p1 : Int) (x : Int), ds = [enc p0, enc p1] ∧ m_how_often p0 p1 = some x ∧ r = enc x
abbrev pr_raised (ds : List D) (r : D) : Prop := ∃ (p0 : Int) (p1 : Int) (x : Int), ds = [enc p0, enc p1] ∧ m_raised p0 p1 = some x ∧ r = enc x
abbrev pr_ratio_of (ds : List D) (r : D) : Prop := ∃ (p0 : Int) (p1 : Int) (x : (Tl Int)), ds = [enc p0, enc p1] ∧ m_ratio_of p0 p1 = some x ∧ r = enc x
abbrev pr_fraction (ds : List D) (r : D) : Prop := ∃ (p0 : (Tl Int)) (x : (Int × Int)), ds = [enc p0] ∧ m_fraction p0 = some x ∧ r = enc x
abbrev pr_figures (ds : List D) (r : D) : Prop := ∃ (p0 : Int) (x : Str), ds = [enc p0] ∧ m_figures p0 = some x ∧ r = enc x
abbrev pr_ratio_text (ds : List D) (r : D) : Prop := ∃ (p0 : (Tl Int)) (x : Str), ds = [enc p0] ∧ m_ratio_text p0 = some x ∧ r = enc x
abbrev pr_is_product (ds : List D) (r : D) : Prop := ∃ (p0 : Int) (x : Bool), ds = [enc p0] ∧ m_is_product p0 = some x ∧ r = enc x
abbrev pr_is_bounded (ds : List D) (r : D) : Prop := ∃ (p0 : Int) (p1 : Str) (x : Bool), ds = [enc p0, enc p1] ∧ m_is_bounded p0 p1 = some x ∧ r = enc x
abbrev pr_fits (ds : List D) (r : D) : Prop := ∃ (p0 : Str) (p1 : Str) (x : Bool), ds = [enc p0, enc p1] ∧ m_fits p0 p1 = some x ∧ r = enc x
abbrev pr_wrong_word (ds : List D) (r : D) : Prop := ∃ (p0 : (List Str)) (x : (Option Int)), ds = [enc p0] ∧ m_wrong_word p0 = some x ∧ r = enc x
abbrev pr_need_row (ds : List D) (r : D ⊕ Er) : Prop := ∃ (p0 : (List Str)) (p1 : Int) (x : Xr Unit), ds = [enc p0, enc p1] ∧ m_need_row p0 p1 = some x ∧ r = xenc x
abbrev pr_number_behind (ds : List D) (r : D) : Prop := ∃ (p0 : (List Str)) (p1 : Str) (p2 : Int) (x : Int), ds = [enc p0, enc p1, enc p2] ∧ m_number_behind p0 p1 p2 = some x ∧ r = enc x
abbrev pr_told_note (ds : List D) (r : D) : Prop := ∃ (p0 : (List Str)) (x : (T4 Str Str Int Int)), ds = [enc p0] ∧ m_told_note p0 = some x ∧ r = enc x
abbrev pr_told_tie (ds : List D) (r : D) : Prop := ∃ (p0 : (List Str)) (x : (T6 Str Str Str (Tl Int) Int Int)), ds = [enc p0] ∧ m_told_tie p0 = some x ∧ r = enc x
abbrev pr_read (ds : List D) (r : D ⊕ Er) : Prop := ∃ (p0 : Str) (x : Xr (T3 (Tl (T4 Str Str Int Int)) (Tl (T6 Str Str Str (Tl Int) Int Int)) (Option (Str × Str)))), ds = [enc p0] ∧ m_read p0 = some x ∧ r = xenc x
abbrev pr_note_row (ds : List D) (r : D) : Prop := ∃ (p0 : (T4 Str Str Int Int)) (x : Str), ds = [enc p0] ∧ m_note_row p0 = some x ∧ r = enc x
abbrev pr_tie_row (ds : List D) (r : D) : Prop := ∃ (p0 : (T6 Str Str Str (Tl Int) Int Int)) (x : Str), ds = [enc p0] ∧ m_tie_row p0 = some x ∧ r = enc x
abbrev pr_written (ds : List D) (r : D) : Prop := ∃ (p0 : (T3 (Tl (T4 Str Str Int Int)) (Tl (T6 Str Str Str (Tl Int) Int Int)) (Option (Str × Str)))) (x : Str), ds = [enc p0] ∧ m_written p0 = some x ∧ r = enc x
abbrev pr__law_part (q : SK) (ds : List (Option D)) (k : Int) (r : D) (k2 : Int) : Prop := ∃ (cl : List Int) (nm : Option (List Str)) (x : Int), q = .run cl nm ∧ ds = [none] ∧ m__law_part cl nm k = some (x, k2) ∧ r = enc x
abbrev pr__law_often (ds : List D) (r : D) : Prop := ∃ (p0 : Int) (x : (List Int)), ds = [enc p0] ∧ m__law_often p0 = some x ∧ r = enc x
abbrev pr__law_ratio (ds : List D) (r : D) : Prop := ∃ (p0 : Int) (p1 : Int) (x : (Tl Int)), ds = [enc p0, enc p1] ∧ m__law_ratio p0 p1 = some x ∧ r = enc x
abbrev pr__law_tie (q : SK) (ds : List (Option D)) (k : Int) (r : D) (k2 : Int) : Prop := ∃ (cl : List Int) (nm : Option (List Str)) (p0 : (List Str)) (x : ((T6 Str Str Str (Tl Int) Int Int) × (List Str))), q = .run cl nm ∧ ds = [none, some (enc p0)] ∧ m__law_tie cl nm p0 k = some (x, k2) ∧ r = enc x
abbrev pr__law_song (q : SK) (ds : List (Option D)) (k : Int) (r : D) (k2 : Int) : Prop := ∃ (cl : List Int) (nm : Option (List Str)) (p0 : Int) (x : ((T3 (Tl (T4 Str Str Int Int)) (Tl (T6 Str Str Str (Tl Int) Int Int)) (Option (Str × Str))) × (List (List Str)))), q = .run cl nm ∧ ds = [none, some (enc p0)] ∧ m__law_song cl nm p0 k = some (x, k2) ∧ r = enc x
abbrev pr__law_sort (ds : List D) (r : D) : Prop := ∃ (p0 : Str) (x : Int), ds = [enc p0] ∧ m__law_sort p0 = some x ∧ r = enc x
abbrev pr__law_row_text (q : SK) (ds : List (Option D)) (k : Int) (r : D) (k2 : Int) : Prop := ∃ (cl : List Int) (nm : Option (List Str)) (p0 : (List Str)) (x : Str), q = .run cl nm ∧ ds = [none, some (enc p0)] ∧ m__law_row_text cl nm p0 k = some (x, k2) ∧ r = enc x
abbrev pr__law_text (q : SK) (ds : List (Option D)) (k : Int) (r : D) (k2 : Int) : Prop := ∃ (cl : List Int) (nm : Option (List Str)) (p0 : (List (List Str))) (x : (Str × (List Int))), q = .run cl nm ∧ ds = [none, some (enc p0)] ∧ m__law_text cl nm p0 k = some (x, k2) ∧ r = enc x
abbrev pr__law_shown (ds : List D) (r : D) : Prop := ∃ (p0 : (Tl Int)) (x : Str), ds = [enc p0] ∧ m__law_shown p0 = some x ∧ r = enc x
abbrev pr__law_written (ds : List D) (r : D) : Prop := ∃ (p0 : (T3 (Tl (T4 Str Str Int Int)) (Tl (T6 Str Str Str (Tl Int) Int Int)) (Option (Str × Str)))) (x : Str), ds = [enc p0] ∧ m__law_written p0 = some x ∧ r = enc x
abbrev pr__law_step (ds : List D) (r : D) : Prop := ∃ (p0 : (List Int)) (x : Bool), ds = [enc p0] ∧ m__law_step p0 = some x ∧ r = enc x
abbrev pr_law (ds : List D) (r : D) : Prop := ∃ (p0 : Sc) (x : Bool), ds = [enc p0] ∧ m_law p0 = some x ∧ r = enc x
/-- what the top has left -/
structure Tx (P : Program) (w : World) (K : PySem.W.Frag) (mg : Str → Option Value) : Prop where
  d_is_all_of : ∃ f fd, Fun K "is_all_of" "is_all_of" s_is_all_of f fd ∧ mg "is_all_of" = some (.ref f) ∧ Binds K fd ["piece", "signs"] []
  d_is_letters : ∃ f fd, Fun K "is_letters" "is_letters" s_is_letters f fd ∧ mg "is_letters" = some (.ref f) ∧ Binds K fd ["piece"] []
  d_is_number : ∃ f fd, Fun K "is_number" "is_number" s_is_number f fd ∧ mg "is_number" = some (.ref f) ∧ Binds K fd ["piece"] []
  d_is_word : ∃ f fd, Fun K "is_word" "is_word" s_is_word f fd ∧ mg "is_word" = some (.ref f) ∧ Binds K fd ["piece"] []
  d_side_by_side : ∃ f fd, Fun K "side_by_side" "side_by_side" s_side_by_side f fd ∧ mg "side_by_side" = some (.ref f) ∧ Binds K fd ["text", "at", "signs"] []
  d_piece_at : ∃ f fd, Fun K "piece_at" "piece_at" s_piece_at f fd ∧ mg "piece_at" = some (.ref f) ∧ Binds K fd ["text", "at"] []
  d_is_name : ∃ f fd, Fun K "is_name" "is_name" s_is_name f fd ∧ mg "is_name" = some (.ref f) ∧ Binds K fd ["word"] []
  d_text_words : ∃ f fd, Fun K "text_words" "text_words" s_text_words f fd ∧ mg "text_words" = some (.ref f) ∧ Binds K fd ["text"] []
  d_how_often : ∃ f fd, Fun K "how_often" "how_often" s_how_often f fd ∧ mg "how_often" = some (.ref f) ∧ Binds K fd ["number", "prime"] []
  d_raised : ∃ f fd, Fun K "raised" "raised" s_raised f fd ∧ mg "raised" = some (.ref f) ∧ Binds K fd ["prime", "many"] []
  d_ratio_of : ∃ f fd, Fun K "ratio_of" "ratio_of" s_ratio_of f fd ∧ mg "ratio_of" = some (.ref f) ∧ Binds K fd ["p", "q"] []
  d_fraction : ∃ f fd, Fun K "fraction" "fraction" s_fraction f fd ∧ mg "fraction" = some (.ref f) ∧ Binds K fd ["one"] []
  d_figures : ∃ f fd, Fun K "figures" "figures" s_figures f fd ∧ mg "figures" = some (.ref f) ∧ Binds K fd ["number"] []
  d_ratio_text : ∃ f fd, Fun K "ratio_text" "ratio_text" s_ratio_text f fd ∧ mg "ratio_text" = some (.ref f) ∧ Binds K fd ["one"] []
  d_is_product : ∃ f fd, Fun K "is_product" "is_product" s_is_product f fd ∧ mg "is_product" = some (.ref f) ∧ Binds K fd ["number"] []
  d_is_bounded : ∃ f fd, Fun K "is_bounded" "is_bounded" s_is_bounded f fd ∧ mg "is_bounded" = some (.ref f) ∧ Binds K fd ["number", "kind"] []
  d_fits : ∃ f fd, Fun K "fits" "fits" s_fits f fd ∧ mg "fits" = some (.ref f) ∧ Binds K fd ["word", "kind"] []
  d_wrong_word : ∃ f fd, Fun K "wrong_word" "wrong_word" s_wrong_word f fd ∧ mg "wrong_word" = some (.ref f) ∧ Binds K fd ["words"] []
  d_need_row : ∃ f fd, Fun K "need_row" "need_row" s_need_row f fd ∧ mg "need_row" = some (.ref f) ∧ Binds K fd ["words", "number"] []
  d_number_behind : ∃ f fd, Fun K "number_behind" "number_behind" s_number_behind f fd ∧ mg "number_behind" = some (.ref f) ∧ Binds K fd ["words", "mark", "unwritten"] []
  d_told_note : ∃ f fd, Fun K "told_note" "told_note" s_told_note f fd ∧ mg "told_note" = some (.ref f) ∧ Binds K fd ["words"] []
  d_told_tie : ∃ f fd, Fun K "told_tie" "told_tie" s_told_tie f fd ∧ mg "told_tie" = some (.ref f) ∧ Binds K fd ["words"] []
  d_read : ∃ f fd, Fun K "read" "read" s_read f fd ∧ mg "read" = some (.ref f) ∧ Binds K fd ["text"] []
  d_note_row : ∃ f fd, Fun K "note_row" "note_row" s_note_row f fd ∧ mg "note_row" = some (.ref f) ∧ Binds K fd ["note"] []
  d_tie_row : ∃ f fd, Fun K "tie_row" "tie_row" s_tie_row f fd ∧ mg "tie_row" = some (.ref f) ∧ Binds K fd ["tie"] []
  d_written : ∃ f fd, Fun K "written" "written" s_written f fd ∧ mg "written" = some (.ref f) ∧ Binds K fd ["song"] []
  d__law_next : ∃ f fd, Fun K "_law_next" "_law_next" s__law_next f fd ∧ mg "_law_next" = some (.ref f) ∧ Binds K fd ["_law_state", "_law_many"] []
  d__law_begun : ∃ f fd, Fun K "_law_begun" "_law_begun" s__law_begun f fd ∧ mg "_law_begun" = some (.ref f) ∧ Binds K fd ["_law_cells"] []
  d__law_part : ∃ f fd, Fun K "_law_part" "_law_part" s__law_part f fd ∧ mg "_law_part" = some (.ref f) ∧ Binds K fd ["_law_state"] []
  d__law_often : ∃ f fd, Fun K "_law_often" "_law_often" s__law_often f fd ∧ mg "_law_often" = some (.ref f) ∧ Binds K fd ["_law_number"] []
  d__law_ratio : ∃ f fd, Fun K "_law_ratio" "_law_ratio" s__law_ratio f fd ∧ mg "_law_ratio" = some (.ref f) ∧ Binds K fd ["_law_p", "_law_q"] []
  d__law_tie : ∃ f fd, Fun K "_law_tie" "_law_tie" s__law_tie f fd ∧ mg "_law_tie" = some (.ref f) ∧ Binds K fd ["_law_state", "_law_some"] []
  d__law_song : ∃ f fd, Fun K "_law_song" "_law_song" s__law_song f fd ∧ mg "_law_song" = some (.ref f) ∧ Binds K fd ["_law_state", "_law_most"] []
  d__law_sort : ∃ f fd, Fun K "_law_sort" "_law_sort" s__law_sort f fd ∧ mg "_law_sort" = some (.ref f) ∧ Binds K fd ["_law_sign"] []
  d__law_row_text : ∃ f fd, Fun K "_law_row_text" "_law_row_text" s__law_row_text f fd ∧ mg "_law_row_text" = some (.ref f) ∧ Binds K fd ["_law_state", "_law_words"] []
  d__law_text : ∃ f fd, Fun K "_law_text" "_law_text" s__law_text f fd ∧ mg "_law_text" = some (.ref f) ∧ Binds K fd ["_law_state", "_law_rows"] []
  d__law_shown : ∃ f fd, Fun K "_law_shown" "_law_shown" s__law_shown f fd ∧ mg "_law_shown" = some (.ref f) ∧ Binds K fd ["_law_ratio_here"] []
  d__law_written : ∃ f fd, Fun K "_law_written" "_law_written" s__law_written f fd ∧ mg "_law_written" = some (.ref f) ∧ Binds K fd ["_law_song_here"] []
  d__law_step : ∃ f fd, Fun K "_law_step" "_law_step" s__law_step f fd ∧ mg "_law_step" = some (.ref f) ∧ Binds K fd ["_law_cells"] []
  d_law : ∃ f fd, Fun K "law" "law" s_law f fd ∧ mg "law" = some (.ref f) ∧ Binds K fd ["_law_script"] []
  m_PRIMES : ∃ a, mg "PRIMES" = some (.ref a) ∧ ∀ B, Rp K B (.ref a) (enc c_PRIMES)
  m_LETTERS : ∃ t, mg "LETTERS" = some (.str "abcdefghijklmnopqrstuvwxyz" t)
  m_FIGURES : ∃ t, mg "FIGURES" = some (.str "0123456789" t)
  m_TOLD_WORDS : ∃ a, mg "TOLD_WORDS" = some (.ref a) ∧ ∀ B, Rp K B (.ref a) (enc c_TOLD_WORDS)
  m_MOST_SIGNS : ∃ t, mg "MOST_SIGNS" = some (.int 8000 t)
  m_MOST_LETTERS : ∃ t, mg "MOST_LETTERS" = some (.int 8 t)
  m_MOST_FIGURES : ∃ t, mg "MOST_FIGURES" = some (.int 5 t)
  m_SHAPES : ∃ d, mg "SHAPES" = some (.ref d) ∧ KTab K w d c_SHAPES
  m_ENDS : ∃ d, mg "ENDS" = some (.ref d) ∧ KTab K w d c_ENDS
  m_BOUNDS : ∃ d, mg "BOUNDS" = some (.ref d) ∧ KTab K w d c_BOUNDS
  m_TIE_WORDS : ∃ a, mg "TIE_WORDS" = some (.ref a) ∧ ∀ B, Rp K B (.ref a) (enc c_TIE_WORDS)
  m_BEND_UNWRITTEN : ∃ t, mg "BEND_UNWRITTEN" = some (.int 50 t)
  m_WEIGHT_UNWRITTEN : ∃ t, mg "WEIGHT_UNWRITTEN" = some (.int 1 t)
  b_abs : mg "abs" = none
  b_all : mg "all" = none
  b_enumerate : mg "enumerate" = none
  b_int : mg "int" = none
  b_isinstance : mg "isinstance" = none
  b_len : mg "len" = none
  b_max : mg "max" = none
  b_range : mg "range" = none
  b_str : mg "str" = none
  b_tuple : mg "tuple" = none
  b_zip : mg "zip" = none
  e_BadSign : ∃ C fI cc cda qual, ErrC P K mg "BadSign" "spot" C ∧ SupTxt P K mg C fI cc cda qual "no word at sign "
  e_BadText : ∃ C fI cc cda qual, ErrC P K mg "BadText" "spot" C ∧ F_spot.SupTxt P K mg C fI cc cda qual "no row goes on so: row and word "
section
variable {P : Program} {w : World} {K : PySem.W.Frag} {mg : Str → Option Value} {base : Heap}
theorem same_BadSign (T : Tx P w K mg) {C : Addr} (h : PySem.W.nsIn K mainGlobals "BadSign" = some (some (.ref C))) : ErrC P K mg "BadSign" "spot" C := by
  obtain ⟨C2, _, _, _, _, EC, _⟩ := T.e_BadSign
  have z := EC.ns
  rw [h] at z; cases z
  exact EC
theorem same_BadText (T : Tx P w K mg) {C : Addr} (h : PySem.W.nsIn K mainGlobals "BadText" = some (some (.ref C))) : ErrC P K mg "BadText" "spot" C := by
  obtain ⟨C2, _, _, _, _, EC, _⟩ := T.e_BadText
  have z := EC.ns
  rw [h] at z; cases z
  exact EC
theorem ok_is_all_of (T : Tx P w K mg) {f : Addr} {fd : FuncData} (F : Fun K "is_all_of" "is_all_of" s_is_all_of f fd) : FnOk P w K mg base CX0 1 f fd ["piece", "signs"] (spP K 2 .dat pr_is_all_of) := by
  have sc := sc_is_all_of
  refine F.ok sc (fun vs H Q E h => by obtain ⟨_, _, _, _, hl, _⟩ := h; exact hl) (fun cdv A outer s H vs Q E hr h => ?_)
  refine ⟨_, (pss_cons (ps_ret (pe_callB (r := rAll K) (cr_all rfl) (by rfl) T.b_all (by decide +kernel) (pa_cons (pe_lc (own := [("sign", 2)]) (g := gName 2) rfl sc.nd (pi_str (pv 0)) (blkOk_by (N := ["piece", "signs", "sign"]) (sc := defScope s_is_all_of) (by decide +kernel)) (fun _ _ _ _ _ => (pg_name (i := 2) sc.nd rfl (by first | exact Or.inl rfl | exact Or.inr rfl))) (fun _ _ _ _ _ => pts_nil) (fun _ _ _ _ _ => (by exact (pe_cmpR or_inStr (pv 2) (pv 1) (by rfl))))) pa_nil))) pss_nil), ?_⟩
  refine fin_pure h fun ds r hp => ?_
  obtain ⟨p0, p1, x, rfl, hm, rfl⟩ := hp
  refine ⟨_, inferInstance, mb_is_all_of p0 p1, x, W0, ?_, fin_some hm, rfl⟩
  show EvS K W0 _ [.dat (enc (p0 : Str)), .dat (enc (p1 : Str)), .un] noEnd noEnd (mb_is_all_of p0 p1)
  exact (by exact (es_retS (em_all (em_ofF (ef_lc (vs := [2]) (is := [2]) (sd1 := fun (a_3 : Str) => [.dat (enc (p0 : Str)), .dat (enc (p1 : Str)), .dat (enc (a_3 : Str))]) (ei_str (em_var rfl)) (fun _ => eg_name) (by decide) (fun a_3 => eb_yes) (fun a_3 => (em_op (em_var rfl) (em_var rfl) fun _ _ => om_inS)) (fun a_3 => (.same (.same (.un .nil)))) (noOwn_by rfl))))))
theorem ok_is_letters (T : Tx P w K mg) {f : Addr} {fd : FuncData} (F : Fun K "is_letters" "is_letters" s_is_letters f fd) : FnOk P w K mg base CX0 2 f fd ["piece"] (spP K 1 .dat pr_is_letters) := by
  obtain ⟨f_is_all_of, fd_is_all_of, F_is_all_of, mg_is_all_of, b_is_all_of⟩ := T.d_is_all_of
  have G_is_all_of := ok_is_all_of (P := P) (w := w) (base := base) T F_is_all_of
  have sc := sc_is_letters
  refine F.ok sc (fun vs H Q E h => by obtain ⟨_, _, _, _, hl, _⟩ := h; exact hl) (fun cdv A outer s H vs Q E hr h => ?_)
  refine ⟨_, (pss_cons (ps_ret (pe_and (pe_chain op_le op_le pe_int (pe_callB (r := ON.rLen K) cr_lenU (by rfl) T.b_len (by decide +kernel) (pa_cons (pv 0) pa_nil)) (pe_glob (v := .int 8) rfl (T.m_MOST_LETTERS).choose_spec ⟨_, rfl⟩)) (pe_one (pe_call G_is_all_of (hr.mono (by decide)) (by rfl) mg_is_all_of F_is_all_of.kp b_is_all_of .nil pass0 (pa_cons (pv 0) (pa_cons (pe_glob (v := .str "abcdefghijklmnopqrstuvwxyz") rfl (T.m_LETTERS).choose_spec ⟨_, rfl⟩) pa_nil)))))) pss_nil), ?_⟩
  refine fin_pure h fun ds r hp => ?_
  obtain ⟨p0, x, rfl, hm, rfl⟩ := hp
  refine ⟨_, inferInstance, mb_is_letters p0, x, W0, ?_, fin_some hm, rfl⟩
  show EvS K W0 _ [.dat (enc (p0 : Str))] noEnd noEnd (mb_is_letters p0)
  exact (by exact (es_retS (em_and (em_chain em_int (em_lenS (em_var rfl)) em_int (fun _ _ => om_B0) fun _ _ => om_B0) (em_call (dvs := []) (dds := []) (f := fun p_14 => m_is_all_of p_14.1 p_14.2) (ea_cons (em_var rfl) (ea_1 em_str)) (fun _ => .nil) (fun _ => rfl) fun b r h => ⟨b.1, b.2, r, rfl, h, rfl⟩))))
theorem ok_is_number (T : Tx P w K mg) {f : Addr} {fd : FuncData} (F : Fun K "is_number" "is_number" s_is_number f fd) : FnOk P w K mg base CX0 2 f fd ["piece"] (spP K 1 .dat pr_is_number) := by
  obtain ⟨f_is_all_of, fd_is_all_of, F_is_all_of, mg_is_all_of, b_is_all_of⟩ := T.d_is_all_of
  have G_is_all_of := ok_is_all_of (P := P) (w := w) (base := base) T F_is_all_of
  have sc := sc_is_number
  refine F.ok sc (fun vs H Q E h => by obtain ⟨_, _, _, _, hl, _⟩ := h; exact hl) (fun cdv A outer s H vs Q E hr h => ?_)
  refine ⟨_, (pss_cons (ps_if (PW.pt (pw_or (pt_not (pt_chain op_le op_le pe_int (pe_callB (r := ON.rLen K) cr_lenU (by rfl) T.b_len (by decide +kernel) (pa_cons (pv 0) pa_nil)) (pe_glob (v := .int 5) rfl (T.m_MOST_FIGURES).choose_spec ⟨_, rfl⟩))) (pw_or1 (pt_not (pt_val (pe_call G_is_all_of (hr.mono (by decide)) (by rfl) mg_is_all_of F_is_all_of.kp b_is_all_of .nil pass0 (pa_cons (pv 0) (pa_cons (pe_glob (v := .str "0123456789") rfl (T.m_FIGURES).choose_spec ⟨_, rfl⟩) pa_nil)))))))) (pss_cons (ps_ret pe_bl) pss_nil) pss_nil) (pss_cons (ps_ret (pe_or (pe_cmpR op_eq (pv 0) pe_str (nomark _)) (pe_one (pe_cmpR op_ne (pe_ix ix_str (pv 0) pe_int (fun _ _ => rfl)) pe_str (nomark _))))) pss_nil)), ?_⟩
  refine fin_pure h fun ds r hp => ?_
  obtain ⟨p0, x, rfl, hm, rfl⟩ := hp
  refine ⟨_, inferInstance, mb_is_number p0, x, W0, ?_, fin_some hm, rfl⟩
  show EvS K W0 _ [.dat (enc (p0 : Str))] noEnd noEnd (mb_is_number p0)
  exact (by exact (es_seq (mid := (fun (t_30 : Unit) => [.dat (enc (p0 : Str))])) (es_if (eb_or (eb_not (eb_T (em_chain em_int (em_lenS (em_var rfl)) em_int (fun _ _ => om_B0) fun _ _ => om_B0))) (eb_not (eb_B (em_call (dvs := []) (dds := []) (f := fun p_24 => m_is_all_of p_24.1 p_24.2) (ea_cons (em_var rfl) (ea_1 em_str)) (fun _ => .nil) (fun _ => rfl) fun b r h => ⟨b.1, b.2, r, rfl, h, rfl⟩)))) (by exact (es_retS em_bl)) (by exact es_next (.same .nil))) fun t_30 => (by exact (es_retS (em_or (em_op (em_var rfl) em_str fun _ _ => om_eqS) (em_op (em_op (em_var rfl) em_int fun _ _ => om_ixS) em_str fun _ _ => om_neS))))))
theorem ok_is_word (T : Tx P w K mg) {f : Addr} {fd : FuncData} (F : Fun K "is_word" "is_word" s_is_word f fd) : FnOk P w K mg base CX0 3 f fd ["piece"] (spP K 1 .dat pr_is_word) := by
  obtain ⟨f_is_letters, fd_is_letters, F_is_letters, mg_is_letters, b_is_letters⟩ := T.d_is_letters
  have G_is_letters := ok_is_letters (P := P) (w := w) (base := base) T F_is_letters
  obtain ⟨f_is_number, fd_is_number, F_is_number, mg_is_number, b_is_number⟩ := T.d_is_number
  have G_is_number := ok_is_number (P := P) (w := w) (base := base) T F_is_number
  have sc := sc_is_word
  refine F.ok sc (fun vs H Q E h => by obtain ⟨_, _, _, _, hl, _⟩ := h; exact hl) (fun cdv A outer s H vs Q E hr h => ?_)
  refine ⟨_, (pss_cons (ps_ret (pe_or (pe_cmpR op_eq (pv 0) pe_str (nomark _)) (pe_or (pe_call G_is_letters (hr.mono (by decide)) (by rfl) mg_is_letters F_is_letters.kp b_is_letters .nil pass0 (pa_cons (pv 0) pa_nil)) (pe_one (pe_call G_is_number (hr.mono (by decide)) (by rfl) mg_is_number F_is_number.kp b_is_number .nil pass0 (pa_cons (pv 0) pa_nil)))))) pss_nil), ?_⟩
  refine fin_pure h fun ds r hp => ?_
  obtain ⟨p0, x, rfl, hm, rfl⟩ := hp
  refine ⟨_, inferInstance, mb_is_word p0, x, W0, ?_, fin_some hm, rfl⟩
  show EvS K W0 _ [.dat (enc (p0 : Str))] noEnd noEnd (mb_is_word p0)
  exact (by exact (es_retS (em_or (em_op (em_var rfl) em_str fun _ _ => om_eqS) (em_or (em_call (dvs := []) (dds := []) (f := fun p_44 => m_is_letters p_44) (ea_1 (em_var rfl)) (fun _ => .nil) (fun _ => rfl) fun b r h => ⟨b, r, rfl, h, rfl⟩) (em_call (dvs := []) (dds := []) (f := fun p_45 => m_is_number p_45) (ea_1 (em_var rfl)) (fun _ => .nil) (fun _ => rfl) fun b r h => ⟨b, r, rfl, h, rfl⟩)))))
theorem ok_side_by_side (T : Tx P w K mg) {f : Addr} {fd : FuncData} (F : Fun K "side_by_side" "side_by_side" s_side_by_side f fd) : FnOk P w K mg base CX0 1 f fd ["text", "at", "signs"] (spP K 3 .dat pr_side_by_side) := by
  have sc := sc_side_by_side
  refine F.ok sc (fun vs H Q E h => by obtain ⟨_, _, _, _, hl, _⟩ := h; exact hl) (fun cdv A outer s H vs Q E hr h => ?_)
  refine ⟨_, (pss_cons (ps_set (i := 3) sc.nd rfl (by first | exact Or.inl rfl | exact Or.inr rfl) (pv 1)) (pss_cons (ps_while PassesOwn.never (PW.pt (pw_and (pt_cmpR op_lt (pv 3) (pe_callB (r := ON.rLen K) cr_lenU (by rfl) T.b_len (by decide +kernel) (pa_cons (pv 0) pa_nil)) (nomark _)) (pw_and1 (pt_cmpR or_inStr (pe_ix ix_str (pv 0) (pv 3) (fun _ _ => rfl)) (pv 2) (by rfl))))) (pss_cons (ps_aug (i := 3) sc.nd rfl (by first | exact Or.inl rfl | exact Or.inr rfl) pe_int iop_add) pss_nil)) (pss_cons (ps_ret (pe_slice sl_str (pv 0) (po_some (pv 1)) (po_some (pv 3)))) pss_nil))), ?_⟩
  refine fin_pure h fun ds r hp => ?_
  obtain ⟨p0, p1, p2, x, rfl, hm, rfl⟩ := hp
  refine ⟨_, inferInstance, mb_side_by_side p0 p1 p2, x, W0, ?_, fin_some hm, rfl⟩
  show EvS K W0 _ [.dat (enc (p0 : Str)), .dat (enc (p1 : Int)), .dat (enc (p2 : Str)), .un] noEnd noEnd (mb_side_by_side p0 p1 p2)
  exact (by exact (es_set (em_var rfl) fun end_48 => (by exact (es_seq (mid := (fun (t_49 : Int) => [.dat (enc (p0 : Str)), .dat (enc (p1 : Int)), .dat (enc (p2 : Str)), .dat (enc (t_49 : Int))])) (es_while (inv := (fun (t_49 : Int) => [.dat (enc (p0 : Str)), .dat (enc (p1 : Int)), .dat (enc (p2 : Str)), .dat (enc (t_49 : Int))])) (t0 := end_48) (c := (fun (t_49 : Int) => ((Mn.bnd (Mn.bnd (Mn.pur t_49) fun x_51 => Mn.bnd (Mn.bnd (Mn.pur p0) fun u_50 => gd (u_50.length ≤ sizeLine) (Mn.pur ((Str.length u_50 : Nat) : Int))) fun y_52 => Mn.pur (decide (x_51 < y_52))) fun b_58 => cnd b_58 (Mn.bnd (Mn.bnd (Mn.pur p0) fun x_53 => Mn.bnd (Mn.pur t_49) fun y_54 => gd (x_53.length ≤ sizeLine) (Mn.bnd (lift (atI (Array.toList (Str.cps x_53)) y_54)) fun c_55 => Mn.pur (sgn c_55))) fun x_56 => Mn.bnd (Mn.pur p2) fun y_57 => Mn.pur (inStr x_56 y_57)) (Mn.pur false)) : Option Bool))) (body := (fun (t_49 : Int) => ((Mn.bnd (Mn.bnd (Mn.pur (1 : Int)) fun y_59 => Mn.pur (t_49 + y_59)) fun end_60 => (Mn.pur (.nx end_60))) : Option (Fl (Int) (Int) Str)))) (n := FU) (.same (.same (.same (.same .nil)))) (fun t_49 => (eb_and (eb_T (em_op (em_var rfl) (em_lenS (em_var rfl)) fun _ _ => om_B0)) (eb_T (em_op (em_op (em_var rfl) (em_var rfl) fun _ _ => om_ixS) (em_var rfl) fun _ _ => om_inS)))) fun t_49 => (by exact (es_aug (a := t_49) rfl em_int (fun _ => om_I0) fun end_60 => (by exact es_next (.same (.same (.same (.same .nil)))))))) fun t_49 => (by exact (es_retS (em_sliceS (em_var rfl) (eo_some (em_var rfl)) (eo_some (em_var rfl)))))))))
theorem ok_piece_at (T : Tx P w K mg) {f : Addr} {fd : FuncData} (F : Fun K "piece_at" "piece_at" s_piece_at f fd) : FnOk P w K mg base CX0 2 f fd ["text", "at"] (spP K 2 .dat pr_piece_at) := by
  obtain ⟨f_side_by_side, fd_side_by_side, F_side_by_side, mg_side_by_side, b_side_by_side⟩ := T.d_side_by_side
  have G_side_by_side := ok_side_by_side (P := P) (w := w) (base := base) T F_side_by_side
  have sc := sc_piece_at
  refine F.ok sc (fun vs H Q E h => by obtain ⟨_, _, _, _, hl, _⟩ := h; exact hl) (fun cdv A outer s H vs Q E hr h => ?_)
  refine ⟨_, (pss_cons (ps_for PassesOwn.never rfl (pi_tup (pe_tup (pa_cons (pe_glob (v := .str "abcdefghijklmnopqrstuvwxyz") rfl (T.m_LETTERS).choose_spec ⟨_, rfl⟩) (pa_cons (pe_glob (v := .str "0123456789") rfl (T.m_FIGURES).choose_spec ⟨_, rfl⟩) pa_nil)))) (pg_name (i := 2) sc.nd rfl (by first | exact Or.inl rfl | exact Or.inr rfl)) (pss_cons (ps_if (pt_cmpR or_inStr (pe_ix ix_str (pv 0) (pv 1) (fun _ _ => rfl)) (pv 2) (by rfl)) (pss_cons (ps_ret (pe_call G_side_by_side (hr.mono (by decide)) (by rfl) mg_side_by_side F_side_by_side.kp b_side_by_side .nil pass0 (pa_cons (pv 0) (pa_cons (pv 1) (pa_cons (pv 2) pa_nil))))) pss_nil) pss_nil) pss_nil)) (pss_cons (ps_ret (pe_ix ix_str (pv 0) (pv 1) (fun _ _ => rfl))) pss_nil)), ?_⟩
  refine fin_pure h fun ds r hp => ?_
  obtain ⟨p0, p1, x, rfl, hm, rfl⟩ := hp
  refine ⟨_, inferInstance, mb_piece_at p0 p1, x, W0, ?_, fin_some hm, rfl⟩
  show EvS K W0 _ [.dat (enc (p0 : Str)), .dat (enc (p1 : Int)), .un] noEnd noEnd (mb_piece_at p0 p1)
  exact (by exact (es_seq (mid := (fun (t_75 : Unit) => [.dat (enc (p0 : Str)), .dat (enc (p1 : Int)), .un])) (es_for (inv := (fun (t_75 : Unit) => [.dat (enc (p0 : Str)), .dat (enc (p1 : Int)), .un])) (t0 := ()) (sd1 := fun (t_75 : Unit) (a_76 : Str) => [.dat (enc (p0 : Str)), .dat (enc (p1 : Int)), .dat (enc (a_76 : Str))]) (body := (fun (t_75 : Unit) (a_76 : Str) => ((andThen (Mn.bnd (Mn.bnd (Mn.bnd (Mn.pur p0) fun x_77 => Mn.bnd (Mn.pur p1) fun y_78 => gd (x_77.length ≤ sizeLine) (Mn.bnd (lift (atI (Array.toList (Str.cps x_77)) y_78)) fun c_79 => Mn.pur (sgn c_79))) fun x_80 => Mn.bnd (Mn.pur a_76) fun y_81 => Mn.pur (inStr x_80 y_81)) fun b_82 => cnd b_82 (Mn.bnd (Mn.bnd (Mn.bnd (Mn.pur p0) fun x_88 => Mn.bnd (Mn.bnd (Mn.pur p1) fun x_86 => Mn.bnd (Mn.pur a_76) fun y_87 => Mn.pur (x_86, y_87)) fun y_89 => Mn.pur (x_88, y_89)) fun p_85 => lift (m_side_by_side p_85.1 p_85.2.1 p_85.2.2)) fun r_84 => Mn.pur (.rt r_84)) (Mn.pur (.nx ())) : Option (Fl (Unit) (Unit) Str)) fun t_83 => (Mn.pur (.nx ()))) : Option (Fl (Unit) (Unit) Str)))) (ei_tup (em_tupTl (el_cons em_str (el_cons em_str el_nil)))) (.same (.same (.same .nil))) (fun _ _ => eg_name) fun t_75 a_76 => (by exact (es_seq (mid := (fun (t_83 : Unit) => [.dat (enc (p0 : Str)), .dat (enc (p1 : Int)), .dat (enc (a_76 : Str))])) (es_if (eb_T (em_op (em_op (em_var rfl) (em_var rfl) fun _ _ => om_ixS) (em_var rfl) fun _ _ => om_inS)) (by exact (es_retS (em_call (dvs := []) (dds := []) (f := fun p_85 => m_side_by_side p_85.1 p_85.2.1 p_85.2.2) (ea_cons (em_var rfl) (ea_cons (em_var rfl) (ea_1 (em_var rfl)))) (fun _ => .nil) (fun _ => rfl) fun b r h => ⟨b.1, b.2.1, b.2.2, r, rfl, h, rfl⟩))) (by exact es_next (.same (.same (.same .nil))))) fun t_83 => (by exact es_next (.same (.same (.un .nil))))))) fun t_75 => (by exact (es_retS (em_op (em_var rfl) (em_var rfl) fun _ _ => om_ixS)))))
theorem ok_is_name (T : Tx P w K mg) {f : Addr} {fd : FuncData} (F : Fun K "is_name" "is_name" s_is_name f fd) : FnOk P w K mg base CX0 3 f fd ["word"] (spP K 1 .dat pr_is_name) := by
  obtain ⟨f_is_letters, fd_is_letters, F_is_letters, mg_is_letters, b_is_letters⟩ := T.d_is_letters
  have G_is_letters := ok_is_letters (P := P) (w := w) (base := base) T F_is_letters
  obtain ⟨a_TOLD_WORDS, m_TOLD_WORDS, k_TOLD_WORDS⟩ := T.m_TOLD_WORDS
  have sc := sc_is_name
  refine F.ok sc (fun vs H Q E h => by obtain ⟨_, _, _, _, hl, _⟩ := h; exact hl) (fun cdv A outer s H vs Q E hr h => ?_)
  refine ⟨_, (pss_cons (ps_ret (pe_and (pe_call G_is_letters (hr.mono (by decide)) (by rfl) mg_is_letters F_is_letters.kp b_is_letters .nil pass0 (pa_cons (pv 0) pa_nil)) (pe_one (pe_cmpR (r := rIn K true) op_notIn_seq (pv 0) (pe_glob (v := .ref a_TOLD_WORDS) rfl m_TOLD_WORDS rfl) (by rfl))))) pss_nil), ?_⟩
  refine fin_pure h fun ds r hp => ?_
  obtain ⟨p0, x, rfl, hm, rfl⟩ := hp
  refine ⟨_, inferInstance, mb_is_name p0, x, W0, ?_, fin_some hm, rfl⟩
  show EvS K W0 _ [.dat (enc (p0 : Str))] noEnd noEnd (mb_is_name p0)
  exact (by exact (es_retS (em_and (em_call (dvs := []) (dds := []) (f := fun p_96 => m_is_letters p_96) (ea_1 (em_var rfl)) (fun _ => .nil) (fun _ => rfl) fun b r h => ⟨b, r, rfl, h, rfl⟩) (em_op (em_var rfl) (em_c k_TOLD_WORDS) fun _ _ => om_ninT))))
theorem ok_text_words (T : Tx P w K mg) {f : Addr} {fd : FuncData} (F : Fun K "text_words" "text_words" s_text_words f fd) : FnOk P w K mg base (L2.CX P w) 5 f fd ["text"] (spX K 1 (.lst (.lst .dat)) pr_text_words) := by
  obtain ⟨f_is_word, fd_is_word, F_is_word, mg_is_word, b_is_word⟩ := T.d_is_word
  have G_is_word := ok_is_word (P := P) (w := w) (base := base) T F_is_word
  obtain ⟨f_piece_at, fd_piece_at, F_piece_at, mg_piece_at, b_piece_at⟩ := T.d_piece_at
  have G_piece_at := ok_piece_at (P := P) (w := w) (base := base) T F_piece_at
  obtain ⟨C_BadSign, fI_BadSign, cc_BadSign, cda_BadSign, qual_BadSign, EC_BadSign, sup_BadSign⟩ := T.e_BadSign
  have sc := sc_text_words
  refine F.okX sc (fun vs H Q E h => by obtain ⟨_, _, _, _, hl, _⟩ := h; exact hl) (fun cdv A outer s H vs Q E hr h => ?_)
  have tk : Takes (cxOf (L2.CX P w) P w K mg base ["text", "rows", "at", "piece"] "text_words" (defScope s_text_words) f cdv A outer s H E) (fun cls d _ H => E cls d H) := takes_of rfl rfl rfl rfl
  refine ⟨_, (pss_cons (ps_if (PW.pt (pw_or (pt_not (pt_val (pe_callB (id := "isinstance") (r := rIsi K) call_isi (by rfl) T.b_isinstance PyProof.Rows.boot_isinstance (pa_cons (pv 0) (pa_cons (pe_bltn (v := .ty "str") (u := .type "str") rfl T.b_str PyProof.Rows.boot_str rfl) pa_nil))))) (pw_or1 (pt_cmpR op_gt (pe_callB (r := ON.rLen K) cr_lenU (by rfl) T.b_len (by decide +kernel) (pa_cons (pv 0) pa_nil)) (pe_glob (v := .int 8000) rfl (T.m_MOST_SIGNS).choose_spec ⟨_, rfl⟩) (nomark _))))) (pss_cons (ps_raise rfl tk (pmk_sup (k := 1) (okv := isI) sup_BadSign (hr.mono (by decide)) EC_BadSign.mg EC_BadSign.keep (EC_BadSign.raises rfl) (fmt_isI) (pa_cons pe_int pa_nil))) pss_nil) pss_nil) (pss_cons (ps_set (i := 1) sc.nd rfl (by first | exact Or.inl rfl | exact Or.inr rfl) (pe_lst (pa_cons (pe_lst pa_nil) pa_nil))) (pss_cons (ps_set (i := 2) sc.nd rfl (by first | exact Or.inl rfl | exact Or.inr rfl) pe_int) (pss_cons (ps_while (passes_of rfl) (pt_cmpR op_lt (pv 2) (pe_callB (r := ON.rLen K) cr_lenU (by rfl) T.b_len (by decide +kernel) (pa_cons (pv 0) pa_nil)) (nomark _)) (pss_cons (ps_set (i := 3) sc.nd rfl (by first | exact Or.inl rfl | exact Or.inr rfl) (pe_call G_piece_at (hr.mono (by decide)) (by rfl) mg_piece_at F_piece_at.kp b_piece_at .nil pass0 (pa_cons (pv 0) (pa_cons (pv 2) pa_nil)))) (pss_cons (ps_if (pt_cmpR op_eq (pv 3) pe_str (nomark _)) (pss_cons (ps_expr (pe_bm PySem.F.plainAttrs_list PySem.F.slot_list_append PySem.F.type_list_append mt_append (pv 1) (pa_cons (pe_lst pa_nil) pa_nil))) pss_nil) (pss_cons (ps_if (pt_cmpR op_ne (pv 3) pe_str (nomark _)) (pss_cons (ps_if (pt_not (pt_val (pe_call G_is_word (hr.mono (by decide)) (by rfl) mg_is_word F_is_word.kp b_is_word .nil pass0 (pa_cons (pv 3) pa_nil)))) (pss_cons (ps_raise rfl tk (pmk_sup (k := 1) (okv := isI) sup_BadSign (hr.mono (by decide)) EC_BadSign.mg EC_BadSign.keep (EC_BadSign.raises rfl) (fmt_isI) (pa_cons (pv 2) pa_nil))) pss_nil) pss_nil) (pss_cons (ps_expr (pe_bm PySem.F.plainAttrs_list PySem.F.slot_list_append PySem.F.type_list_append mt_append (pe_ix (r := rIxL K) ix_list (pv 1) (pe_un un_neg pe_int) (fun _ _ => rfl)) (pa_cons (pv 3) pa_nil))) pss_nil)) pss_nil) pss_nil)) (pss_cons (ps_aug (i := 2) sc.nd rfl (by first | exact Or.inl rfl | exact Or.inr rfl) (pe_callB (r := ON.rLen K) cr_lenU (by rfl) T.b_len (by decide +kernel) (pa_cons (pv 3) pa_nil)) iop_add) pss_nil)))) (pss_cons (ps_ret (pv 1)) pss_nil))))), ?_⟩
  refine fin_XF h fun ds r hp => ?_
  obtain ⟨p0, x, rfl, hm, rfl⟩ := hp
  refine ⟨_, inferInstance, mb_text_words p0, x, ?_, finXF_some hm, rfl⟩
  show EvS K ⟨fun cls d _ H => E cls d H, [.un, .un, .un, .un]⟩ _ [.dat (enc (p0 : An)), .un, .un, .un] noEnd noEnd (mb_text_words p0)
  exact (by exact (es_seq (mid := (fun (t_108 : Unit) => [.dat (enc (p0 : An)), .un, .un, .un])) (es_if (eb_or (eb_not (eb_B (em_isT (T := "str") (em_var rfl) (by decide +kernel)))) (eb_T (em_op (em_lenS (em_dec (fun x => (Dec.dec x : Option Str)) dec_anS (em_var rfl))) em_int fun _ _ => om_B0))) (by exact (es_raiseF (ek_mk (okd := okI) EC_BadSign.ns (ea_1 em_int) (ho_isI)) (.un (.same (.same (.same .nil)))))) (by exact es_next (.same (.same (.same (.same .nil)))))) fun t_108 => (by exact (es_setF (ef_lst1 (ef_lst el_nil)) fun rows_111 => (by exact (es_set em_int fun at_114 => (by exact (es_seq (mid := (fun (t_115 : (List (List Str)) × Int) => [.dat (enc (p0 : An)), .own (.lst (.lst .dat)) (enc (t_115.1 : (List (List Str)))), .dat (enc (t_115.2 : Int)), .un])) (es_while (inv := (fun (t_115 : (List (List Str)) × Int) => [.dat (enc (p0 : An)), .own (.lst (.lst .dat)) (enc (t_115.1 : (List (List Str)))), .dat (enc (t_115.2 : Int)), .un])) (t0 := (rows_111, at_114)) (c := (fun (t_115 : (List (List Str)) × Int) => ((Mn.bnd (Mn.pur t_115.2) fun x_118 => Mn.bnd (Mn.bnd (Mn.bnd (Mn.pur p0) fun k_116 => lift (Dec.dec k_116 : Option Str)) fun u_117 => gd (u_117.length ≤ sizeLine) (Mn.pur ((Str.length u_117 : Nat) : Int))) fun y_119 => Mn.pur (decide (x_118 < y_119))) : Option Bool))) (body := (fun (t_115 : (List (List Str)) × Int) => ((Mn.bnd (Mn.bnd (Mn.bnd (Mn.bnd (Mn.pur p0) fun k_122 => lift (Dec.dec k_122 : Option Str)) fun x_123 => Mn.bnd (Mn.pur t_115.2) fun y_124 => Mn.pur (x_123, y_124)) fun p_121 => lift (m_piece_at p_121.1 p_121.2)) fun piece_120 => (andThen (Mn.bnd (Mn.bnd (Mn.pur piece_120) fun x_125 => Mn.bnd (Mn.pur ("\n" : Str)) fun y_126 => Mn.pur (decide (x_125 = y_126))) fun b_127 => cnd b_127 (gd (List.length t_115.1 < 100000) (Mn.bnd (Mn.pur (t_115.1 ++ [[]])) fun zs_130 => (Mn.pur (.nx zs_130)))) (andThen (Mn.bnd (Mn.bnd (Mn.pur piece_120) fun x_131 => Mn.bnd (Mn.pur (" " : Str)) fun y_132 => Mn.pur (!decide (x_131 = y_132))) fun b_133 => cnd b_133 (andThen (Mn.bnd (Mn.bnd (Mn.bnd (Mn.pur piece_120) fun p_135 => lift (m_is_word p_135)) fun b_136 => Mn.pur (!b_136)) fun b_137 => cnd b_137 (Mn.bnd (Mn.bnd (Mn.pur t_115.2) fun k_140 => gd (okI k_140) (Mn.pur (⟨"BadSign", some ("spot", enc k_140)⟩ : Er))) fun r_139 => Mn.pur (.rt (.er r_139))) (Mn.pur (.nx ())) : Option (Fl (Unit) ((List (List Str)) × Int) (Xr (Fw (.lst (.lst .dat)) (List (List Str)))))) fun t_138 => (Mn.bnd (Mn.bnd (Mn.pur (1 : Int)) fun x_141 => Mn.pur (-x_141)) fun y_143 => Mn.bnd (Mn.pur piece_120) fun x_142 => Mn.bnd (lift (appI t_115.1 y_143 x_142)) fun zs_144 => (Mn.pur (.nx zs_144)))) (Mn.pur (.nx t_115.1)) : Option (Fl ((List (List Str))) ((List (List Str)) × Int) (Xr (Fw (.lst (.lst .dat)) (List (List Str)))))) fun t_134 => (Mn.pur (.nx t_134))) : Option (Fl ((List (List Str))) ((List (List Str)) × Int) (Xr (Fw (.lst (.lst .dat)) (List (List Str)))))) fun t_128 => (Mn.bnd (Mn.bnd (Mn.bnd (Mn.pur piece_120) fun u_145 => gd (u_145.length ≤ sizeLine) (Mn.pur ((Str.length u_145 : Nat) : Int))) fun y_146 => Mn.pur (t_115.2 + y_146)) fun at_147 => (Mn.pur (.nx (t_128, at_147)))))) : Option (Fl ((List (List Str)) × Int) ((List (List Str)) × Int) (Xr (Fw (.lst (.lst .dat)) (List (List Str)))))))) (n := FU) (.same (.same (.same (.same .nil)))) (fun t_115 => (eb_T (em_op (em_var rfl) (em_lenS (em_dec (fun x => (Dec.dec x : Option Str)) dec_anS (em_var rfl))) fun _ _ => om_B0))) fun t_115 => (by exact (es_set (em_call (dvs := []) (dds := []) (f := fun p_121 => m_piece_at p_121.1 p_121.2) (ea_cons (em_dec (fun x => (Dec.dec x : Option Str)) dec_anS (em_var rfl)) (ea_1 (em_var rfl))) (fun _ => .nil) (fun _ => rfl) fun b r h => ⟨b.1, b.2, r, rfl, h, rfl⟩) fun piece_120 => (by exact (es_seq (mid := (fun (t_128 : (List (List Str))) => [.dat (enc (p0 : An)), .own (.lst (.lst .dat)) (enc (t_128 : (List (List Str)))), .dat (enc (t_115.2 : Int)), .dat (enc (piece_120 : Str))])) (es_if (eb_T (em_op (em_var rfl) em_str fun _ _ => om_eqS)) (by exact (es_appNilP (xss := t_115.1) rfl fun zs_130 => (by exact es_next (.same (.same (.same (.same .nil))))))) (by exact (es_seq (mid := (fun (t_134 : (List (List Str))) => [.dat (enc (p0 : An)), .own (.lst (.lst .dat)) (enc (t_134 : (List (List Str)))), .dat (enc (t_115.2 : Int)), .dat (enc (piece_120 : Str))])) (es_if (eb_T (em_op (em_var rfl) em_str fun _ _ => om_neS)) (by exact (es_seq (mid := (fun (t_138 : Unit) => [.dat (enc (p0 : An)), .own (.lst (.lst .dat)) (enc (t_115.1 : (List (List Str)))), .dat (enc (t_115.2 : Int)), .dat (enc (piece_120 : Str))])) (es_if (eb_not (eb_B (em_call (dvs := []) (dds := []) (f := fun p_135 => m_is_word p_135) (ea_1 (em_var rfl)) (fun _ => .nil) (fun _ => rfl) fun b r h => ⟨b, r, rfl, h, rfl⟩))) (by exact (es_raiseF (ek_mk (okd := okI) EC_BadSign.ns (ea_1 (em_var rfl)) (ho_isI)) (.un (.un (.un (.un .nil)))))) (by exact es_next (.same (.same (.same (.same .nil)))))) fun t_138 => (by exact (es_appAt (xss := t_115.1) rfl (eh_U (em_neg em_int) (.same rfl (.un (.same rfl (.same rfl .nil))))) (eh_U (em_var rfl) (.same rfl (.un (.same rfl (.same rfl .nil))))) fun zs_144 => (by exact es_next (.same (.same (.same (.same .nil))))))))) (by exact es_next (.same (.same (.same (.same .nil)))))) fun t_134 => (by exact es_next (.same (.same (.same (.same .nil)))))))) fun t_128 => (by exact (es_aug (a := t_115.2) rfl (em_lenS (em_var rfl)) (fun _ => om_I0) fun at_147 => (by exact es_next (.same (.same (.same (.un .nil)))))))))))) fun t_115 => (by exact ((es_retVO (r := t_115.1) rfl)))))))))))
theorem ok_how_often (T : Tx P w K mg) {f : Addr} {fd : FuncData} (F : Fun K "how_often" "how_often" s_how_often f fd) : FnOk P w K mg base CX0 1 f fd ["number", "prime"] (spP K 2 .dat pr_how_often) := by
  have sc := sc_how_often
  refine F.ok sc (fun vs H Q E h => by obtain ⟨_, _, _, _, hl, _⟩ := h; exact hl) (fun cdv A outer s H vs Q E hr h => ?_)
  refine ⟨_, (pss_cons (ps_set (i := 2) sc.nd rfl (by first | exact Or.inl rfl | exact Or.inr rfl) pe_int) (pss_cons (ps_while PassesOwn.never (PW.pt (pw_and (pt_cmpR op_gt (pv 0) pe_int (nomark _)) (pw_and1 (pt_cmpR op_eq (pe_op op_mod (pv 0) (pv 1)) pe_int (nomark _))))) (pss_cons (ps_aug (i := 0) sc.nd rfl (by first | exact Or.inl rfl | exact Or.inr rfl) (pv 1) iop_fdivW) (pss_cons (ps_aug (i := 2) sc.nd rfl (by first | exact Or.inl rfl | exact Or.inr rfl) pe_int iop_add) pss_nil))) (pss_cons (ps_ret (pv 2)) pss_nil))), ?_⟩
  refine fin_pure h fun ds r hp => ?_
  obtain ⟨p0, p1, x, rfl, hm, rfl⟩ := hp
  refine ⟨_, inferInstance, mb_how_often p0 p1, x, W0, ?_, fin_some hm, rfl⟩
  show EvS K W0 _ [.dat (enc (p0 : Int)), .dat (enc (p1 : Int)), .un] noEnd noEnd (mb_how_often p0 p1)
  exact (by exact (es_set em_int fun many_148 => (by exact (es_seq (mid := (fun (t_149 : Int × Int) => [.dat (enc (t_149.1 : Int)), .dat (enc (p1 : Int)), .dat (enc (t_149.2 : Int))])) (es_while (inv := (fun (t_149 : Int × Int) => [.dat (enc (t_149.1 : Int)), .dat (enc (p1 : Int)), .dat (enc (t_149.2 : Int))])) (t0 := (p0, many_148)) (c := (fun (t_149 : Int × Int) => ((Mn.bnd (Mn.bnd (Mn.pur t_149.1) fun x_150 => Mn.bnd (Mn.pur (1 : Int)) fun y_151 => Mn.pur (decide (y_151 < x_150))) fun b_156 => cnd b_156 (Mn.bnd (Mn.bnd (Mn.pur t_149.1) fun x_152 => Mn.bnd (Mn.pur p1) fun y_153 => gd (0 < y_153) (Mn.pur (x_152 % y_153))) fun x_154 => Mn.bnd (Mn.pur (0 : Int)) fun y_155 => Mn.pur (decide (x_154 = y_155))) (Mn.pur false)) : Option Bool))) (body := (fun (t_149 : Int × Int) => ((Mn.bnd (Mn.bnd (Mn.pur p1) fun y_157 => gd (ON.DivOk y_157) (Mn.pur (t_149.1 / y_157))) fun number_158 => (Mn.bnd (Mn.bnd (Mn.pur (1 : Int)) fun y_159 => Mn.pur (t_149.2 + y_159)) fun many_160 => (Mn.pur (.nx (number_158, many_160))))) : Option (Fl (Int × Int) (Int × Int) Int)))) (n := FU) (.same (.same (.same .nil))) (fun t_149 => (eb_and (eb_T (em_op (em_var rfl) em_int fun _ _ => om_B0)) (eb_T (em_op (em_op (em_var rfl) (em_var rfl) fun _ _ => om_mod) em_int fun _ _ => om_eqI)))) fun t_149 => (by exact (es_aug (a := t_149.1) rfl (em_var rfl) (fun _ => om_fdiv) fun number_158 => (by exact (es_aug (a := t_149.2) rfl em_int (fun _ => om_I0) fun many_160 => (by exact es_next (.same (.same (.same .nil))))))))) fun t_149 => (by exact (es_retS (em_var rfl)))))))
theorem ok_raised (T : Tx P w K mg) {f : Addr} {fd : FuncData} (F : Fun K "raised" "raised" s_raised f fd) : FnOk P w K mg base CX0 1 f fd ["prime", "many"] (spP K 2 .dat pr_raised) := by
  have sc := sc_raised
  refine F.ok sc (fun vs H Q E h => by obtain ⟨_, _, _, _, hl, _⟩ := h; exact hl) (fun cdv A outer s H vs Q E hr h => ?_)
  refine ⟨_, (pss_cons (ps_set (i := 2) sc.nd rfl (by first | exact Or.inl rfl | exact Or.inr rfl) pe_int) (pss_cons (ps_while PassesOwn.never (pt_cmpR op_gt (pv 1) pe_int (nomark _)) (pss_cons (ps_if (pt_cmpR op_eq (pe_op op_mod (pv 1) pe_int) pe_int (nomark _)) (pss_cons (ps_aug (i := 2) sc.nd rfl (by first | exact Or.inl rfl | exact Or.inr rfl) (pv 0) iop_mulU) pss_nil) pss_nil) (pss_cons (ps_aug (i := 0) sc.nd rfl (by first | exact Or.inl rfl | exact Or.inr rfl) (pv 0) iop_mulU) (pss_cons (ps_aug (i := 1) sc.nd rfl (by first | exact Or.inl rfl | exact Or.inr rfl) pe_int iop_fdivW) pss_nil)))) (pss_cons (ps_ret (pv 2)) pss_nil))), ?_⟩
  refine fin_pure h fun ds r hp => ?_
  obtain ⟨p0, p1, x, rfl, hm, rfl⟩ := hp
  refine ⟨_, inferInstance, mb_raised p0 p1, x, W0, ?_, fin_some hm, rfl⟩
  show EvS K W0 _ [.dat (enc (p0 : Int)), .dat (enc (p1 : Int)), .un] noEnd noEnd (mb_raised p0 p1)
  exact (by exact (es_set em_int fun out_162 => (by exact (es_seq (mid := (fun (t_163 : Int × Int × Int) => [.dat (enc (t_163.1 : Int)), .dat (enc (t_163.2.1 : Int)), .dat (enc (t_163.2.2 : Int))])) (es_while (inv := (fun (t_163 : Int × Int × Int) => [.dat (enc (t_163.1 : Int)), .dat (enc (t_163.2.1 : Int)), .dat (enc (t_163.2.2 : Int))])) (t0 := (p0, p1, out_162)) (c := (fun (t_163 : Int × Int × Int) => ((Mn.bnd (Mn.pur t_163.2.1) fun x_164 => Mn.bnd (Mn.pur (0 : Int)) fun y_165 => Mn.pur (decide (y_165 < x_164))) : Option Bool))) (body := (fun (t_163 : Int × Int × Int) => ((andThen (Mn.bnd (Mn.bnd (Mn.bnd (Mn.pur t_163.2.1) fun x_166 => Mn.bnd (Mn.pur (2 : Int)) fun y_167 => gd (0 < y_167) (Mn.pur (x_166 % y_167))) fun x_168 => Mn.bnd (Mn.pur (1 : Int)) fun y_169 => Mn.pur (decide (x_168 = y_169))) fun b_170 => cnd b_170 (Mn.bnd (Mn.bnd (Mn.pur t_163.1) fun y_172 => gd (ON.MulOk t_163.2.2 y_172) (Mn.pur (t_163.2.2 * y_172))) fun out_173 => (Mn.pur (.nx out_173))) (Mn.pur (.nx t_163.2.2)) : Option (Fl (Int) (Int × Int × Int) Int)) fun t_171 => (Mn.bnd (Mn.bnd (Mn.pur t_163.1) fun y_174 => gd (ON.MulOk t_163.1 y_174) (Mn.pur (t_163.1 * y_174))) fun prime_175 => (Mn.bnd (Mn.bnd (Mn.pur (2 : Int)) fun y_176 => gd (ON.DivOk y_176) (Mn.pur (t_163.2.1 / y_176))) fun many_177 => (Mn.pur (.nx (prime_175, many_177, t_171)))))) : Option (Fl (Int × Int × Int) (Int × Int × Int) Int)))) (n := FU) (.same (.same (.same .nil))) (fun t_163 => (eb_T (em_op (em_var rfl) em_int fun _ _ => om_B0))) fun t_163 => (by exact (es_seq (mid := (fun (t_171 : Int) => [.dat (enc (t_163.1 : Int)), .dat (enc (t_163.2.1 : Int)), .dat (enc (t_171 : Int))])) (es_if (eb_T (em_op (em_op (em_var rfl) em_int fun _ _ => om_mod) em_int fun _ _ => om_eqI)) (by exact (es_aug (a := t_163.2.2) rfl (em_var rfl) (fun _ => om_mul) fun out_173 => (by exact es_next (.same (.same (.same .nil)))))) (by exact es_next (.same (.same (.same .nil))))) fun t_171 => (by exact (es_aug (a := t_163.1) rfl (em_var rfl) (fun _ => om_mul) fun prime_175 => (by exact (es_aug (a := t_163.2.1) rfl em_int (fun _ => om_fdiv) fun many_177 => (by exact es_next (.same (.same (.same .nil))))))))))) fun t_163 => (by exact (es_retS (em_var rfl)))))))
theorem ok_ratio_of (T : Tx P w K mg) {f : Addr} {fd : FuncData} (F : Fun K "ratio_of" "ratio_of" s_ratio_of f fd) : FnOk P w K mg base CX0 2 f fd ["p", "q"] (spP K 2 .dat pr_ratio_of) := by
  obtain ⟨f_how_often, fd_how_often, F_how_often, mg_how_often, b_how_often⟩ := T.d_how_often
  have G_how_often := ok_how_often (P := P) (w := w) (base := base) T F_how_often
  obtain ⟨a_PRIMES, m_PRIMES, k_PRIMES⟩ := T.m_PRIMES
  have sc := sc_ratio_of
  refine F.ok sc (fun vs H Q E h => by obtain ⟨_, _, _, _, hl, _⟩ := h; exact hl) (fun cdv A outer s H vs Q E hr h => ?_)
  refine ⟨_, (pss_cons (ps_ret (pe_callTy (r := rTupOf K) cr_tup (by rfl) T.b_tuple (by decide +kernel) (pa_cons (pe_lc (own := [("prime", 2)]) (g := gName 2) rfl sc.nd (pi_tup (pe_glob (v := .ref a_PRIMES) rfl m_PRIMES rfl)) (blkOk_by (N := ["p", "q", "prime"]) (sc := defScope s_ratio_of) (by decide +kernel)) (fun _ _ _ _ _ => (pg_name (i := 2) sc.nd rfl (by first | exact Or.inl rfl | exact Or.inr rfl))) (fun _ _ _ _ _ => pts_nil) (fun _ _ _ _ _ => (by exact (pe_op op_sub (pe_call G_how_often (hr.mono (by decide)) (by rfl) mg_how_often F_how_often.kp b_how_often .nil pass0 (pa_cons (pv 0) (pa_cons (pv 2) pa_nil))) (pe_call G_how_often (hr.mono (by decide)) (by rfl) mg_how_often F_how_often.kp b_how_often .nil pass0 (pa_cons (pv 1) (pa_cons (pv 2) pa_nil))))))) pa_nil))) pss_nil), ?_⟩
  refine fin_pure h fun ds r hp => ?_
  obtain ⟨p0, p1, x, rfl, hm, rfl⟩ := hp
  refine ⟨_, inferInstance, mb_ratio_of p0 p1, x, W0, ?_, fin_some hm, rfl⟩
  show EvS K W0 _ [.dat (enc (p0 : Int)), .dat (enc (p1 : Int)), .un] noEnd noEnd (mb_ratio_of p0 p1)
  exact (by exact (es_retS (em_tupL (em_ofF (ef_lc (vs := [2]) (is := [2]) (sd1 := fun (a_181 : Int) => [.dat (enc (p0 : Int)), .dat (enc (p1 : Int)), .dat (enc (a_181 : Int))]) (ei_tup (em_c k_PRIMES)) (fun _ => eg_name) (by decide) (fun a_181 => eb_yes) (fun a_181 => (em_op (em_call (dvs := []) (dds := []) (f := fun p_182 => m_how_often p_182.1 p_182.2) (ea_cons (em_var rfl) (ea_1 (em_var rfl))) (fun _ => .nil) (fun _ => rfl) fun b r h => ⟨b.1, b.2, r, rfl, h, rfl⟩) (em_call (dvs := []) (dds := []) (f := fun p_185 => m_how_often p_185.1 p_185.2) (ea_cons (em_var rfl) (ea_1 (em_var rfl))) (fun _ => .nil) (fun _ => rfl) fun b r h => ⟨b.1, b.2, r, rfl, h, rfl⟩) fun _ _ => om_I0)) (fun a_181 => (.same (.same (.un .nil)))) (noOwn_by rfl))))))
theorem ok_fraction (T : Tx P w K mg) {f : Addr} {fd : FuncData} (F : Fun K "fraction" "fraction" s_fraction f fd) : FnOk P w K mg base CX0 2 f fd ["one"] (spP K 1 .dat pr_fraction) := by
  obtain ⟨f_raised, fd_raised, F_raised, mg_raised, b_raised⟩ := T.d_raised
  have G_raised := ok_raised (P := P) (w := w) (base := base) T F_raised
  obtain ⟨a_PRIMES, m_PRIMES, k_PRIMES⟩ := T.m_PRIMES
  have sc := sc_fraction
  refine F.ok sc (fun vs H Q E h => by obtain ⟨_, _, _, _, hl, _⟩ := h; exact hl) (fun cdv A outer s H vs Q E hr h => ?_)
  refine ⟨_, (pss_cons (ps_set (i := 1) sc.nd rfl (by first | exact Or.inl rfl | exact Or.inr rfl) pe_int) (pss_cons (ps_set (i := 2) sc.nd rfl (by first | exact Or.inl rfl | exact Or.inr rfl) pe_int) (pss_cons (ps_for PassesOwn.never rfl (RZ.pi_zipA rfl T.b_zip (pa_cons (pv 0) (pa_cons (pe_glob (v := .ref a_PRIMES) rfl m_PRIMES rfl) pa_nil))) (pg_tup rfl (pgs_cons (pg_name (i := 3) sc.nd rfl (by first | exact Or.inl rfl | exact Or.inr rfl)) (pgs_cons (pg_name (i := 4) sc.nd rfl (by first | exact Or.inl rfl | exact Or.inr rfl)) pgs_nil))) (pss_cons (ps_aug (i := 1) sc.nd rfl (by first | exact Or.inl rfl | exact Or.inr rfl) (pe_call G_raised (hr.mono (by decide)) (by rfl) mg_raised F_raised.kp b_raised .nil pass0 (pa_cons (pv 4) (pa_cons (pe_callB (cr_maxU rfl) (by rfl) T.b_max (by decide +kernel) (pa_cons (pv 3) (pa_cons pe_int pa_nil))) pa_nil))) iop_mulU) (pss_cons (ps_aug (i := 2) sc.nd rfl (by first | exact Or.inl rfl | exact Or.inr rfl) (pe_call G_raised (hr.mono (by decide)) (by rfl) mg_raised F_raised.kp b_raised .nil pass0 (pa_cons (pv 4) (pa_cons (pe_callB (cr_maxU rfl) (by rfl) T.b_max (by decide +kernel) (pa_cons (pe_un un_neg (pv 3)) (pa_cons pe_int pa_nil))) pa_nil))) iop_mulU) pss_nil))) (pss_cons (ps_ret (pe_tup (pa_cons (pv 1) (pa_cons (pv 2) pa_nil)))) pss_nil)))), ?_⟩
  refine fin_pure h fun ds r hp => ?_
  obtain ⟨p0, x, rfl, hm, rfl⟩ := hp
  refine ⟨_, inferInstance, mb_fraction p0, x, W0, ?_, fin_some hm, rfl⟩
  show EvS K W0 _ [.dat (enc (p0 : (Tl Int))), .un, .un, .un, .un] noEnd noEnd (mb_fraction p0)
  exact (by exact (es_set em_int fun p_192 => (by exact (es_set em_int fun q_193 => (by exact (es_seq (mid := (fun (t_197 : Int × Int) => [.dat (enc (p0 : (Tl Int))), .dat (enc (t_197.1 : Int)), .dat (enc (t_197.2 : Int)), .un, .un])) (es_for (inv := (fun (t_197 : Int × Int) => [.dat (enc (p0 : (Tl Int))), .dat (enc (t_197.1 : Int)), .dat (enc (t_197.2 : Int)), .un, .un])) (t0 := (p_192, q_193)) (sd1 := fun (t_197 : Int × Int) (a_198 : (Int × Int)) => [.dat (enc (p0 : (Tl Int))), .dat (enc (t_197.1 : Int)), .dat (enc (t_197.2 : Int)), .dat (enc (a_198.1 : Int)), .dat (enc (a_198.2 : Int))]) (body := (fun (t_197 : Int × Int) (a_198 : (Int × Int)) => ((Mn.bnd (Mn.bnd (Mn.bnd (Mn.bnd (Mn.pur a_198.2) fun x_204 => Mn.bnd (Mn.bnd (Mn.bnd (Mn.pur a_198.1) fun x_201 => Mn.bnd (Mn.pur (0 : Int)) fun y_202 => Mn.pur (x_201, y_202)) fun p_203 => Mn.pur (max p_203.1 p_203.2)) fun y_205 => Mn.pur (x_204, y_205)) fun p_199 => lift (m_raised p_199.1 p_199.2)) fun y_206 => gd (ON.MulOk t_197.1 y_206) (Mn.pur (t_197.1 * y_206))) fun p_207 => (Mn.bnd (Mn.bnd (Mn.bnd (Mn.bnd (Mn.pur a_198.2) fun x_214 => Mn.bnd (Mn.bnd (Mn.bnd (Mn.bnd (Mn.pur a_198.1) fun x_209 => Mn.pur (-x_209)) fun x_211 => Mn.bnd (Mn.pur (0 : Int)) fun y_212 => Mn.pur (x_211, y_212)) fun p_213 => Mn.pur (max p_213.1 p_213.2)) fun y_215 => Mn.pur (x_214, y_215)) fun p_208 => lift (m_raised p_208.1 p_208.2)) fun y_216 => gd (ON.MulOk t_197.2 y_216) (Mn.pur (t_197.2 * y_216))) fun q_217 => (Mn.pur (.nx (p_207, q_217))))) : Option (Fl (Int × Int) (Int × Int) (Int × Int))))) (ei_zipT (ea_cons (em_var rfl) (ea_1 (em_c k_PRIMES)))) (.same (.same (.same (.same (.same .nil))))) (fun _ _ => eg_pair) fun t_197 a_198 => (by exact (es_aug (a := t_197.1) rfl (em_call (dvs := []) (dds := []) (f := fun p_199 => m_raised p_199.1 p_199.2) (ea_cons (em_var rfl) (ea_1 (em_max (ea_2 (em_var rfl) em_int)))) (fun _ => .nil) (fun _ => rfl) fun b r h => ⟨b.1, b.2, r, rfl, h, rfl⟩) (fun _ => om_mul) fun p_207 => (by exact (es_aug (a := t_197.2) rfl (em_call (dvs := []) (dds := []) (f := fun p_208 => m_raised p_208.1 p_208.2) (ea_cons (em_var rfl) (ea_1 (em_max (ea_2 (em_neg (em_var rfl)) em_int)))) (fun _ => .nil) (fun _ => rfl) fun b r h => ⟨b.1, b.2, r, rfl, h, rfl⟩) (fun _ => om_mul) fun q_217 => (by exact es_next (.same (.same (.same (.un (.un .nil))))))))))) fun t_197 => (by exact (es_retS (em_tup2 (em_var rfl) (em_var rfl))))))))))
theorem ok_figures (T : Tx P w K mg) {f : Addr} {fd : FuncData} (F : Fun K "figures" "figures" s_figures f fd) : FnOk P w K mg base CX0 1 f fd ["number"] (spP K 1 .dat pr_figures) := by
  have sc := sc_figures
  refine F.ok sc (fun vs H Q E h => by obtain ⟨_, _, _, _, hl, _⟩ := h; exact hl) (fun cdv A outer s H vs Q E hr h => ?_)
  refine ⟨_, (pss_cons (ps_set (i := 1) sc.nd rfl (by first | exact Or.inl rfl | exact Or.inr rfl) (pe_lst pa_nil)) (pss_cons (ps_while PassesOwn.never (pt_cmpR op_ge (pv 0) (pe_op op_pow pe_int pe_int) (nomark _)) (pss_cons (ps_expr (pe_bm PySem.F.plainAttrs_list PySem.F.slot_list_append PySem.F.type_list_append mt_append (pv 1) (pa_cons (pe_bm PySem.F.plainAttrs_str PySem.F.slot_str_zfill PySem.F.type_str_zfill mt_zfU (pe_callTy cr_strU (by rfl) T.b_str (by decide +kernel) (pa_cons (pe_op op_mod (pv 0) (pe_op op_pow pe_int pe_int)) pa_nil)) (pa_cons pe_int pa_nil)) pa_nil))) (pss_cons (ps_aug (i := 0) sc.nd rfl (by first | exact Or.inl rfl | exact Or.inr rfl) (pe_op op_pow pe_int pe_int) iop_fdivW) pss_nil))) (pss_cons (ps_expr (pe_bm PySem.F.plainAttrs_list PySem.F.slot_list_append PySem.F.type_list_append mt_append (pv 1) (pa_cons (pe_callTy cr_strU (by rfl) T.b_str (by decide +kernel) (pa_cons (pv 0) pa_nil)) pa_nil))) (pss_cons (ps_ret (show PE _ _ (tBM K "str" (rJoin K) _ _) from (pe_bm PySem.F.plainAttrs_str PySem.F.slot_str_join PySem.F.type_str_join mt_joinU pe_str (pa_cons (pe_revL (pv 1)) pa_nil)))) pss_nil)))), ?_⟩
  refine fin_pure h fun ds r hp => ?_
  obtain ⟨p0, x, rfl, hm, rfl⟩ := hp
  refine ⟨_, inferInstance, mb_figures p0, x, W0, ?_, fin_some hm, rfl⟩
  show EvS K W0 _ [.dat (enc (p0 : Int)), .un] noEnd noEnd (mb_figures p0)
  exact (by exact (es_setF (ef_lst el_nil) fun pieces_222 => (by exact (es_seq (mid := (fun (t_224 : Int × (List Str)) => [.dat (enc (t_224.1 : Int)), .own (.lst .dat) (enc (t_224.2 : (List Str)))])) (es_while (inv := (fun (t_224 : Int × (List Str)) => [.dat (enc (t_224.1 : Int)), .own (.lst .dat) (enc (t_224.2 : (List Str)))])) (t0 := (p0, pieces_222)) (c := (fun (t_224 : Int × (List Str)) => ((Mn.bnd (Mn.pur t_224.1) fun x_227 => Mn.bnd (Mn.bnd (Mn.pur (10 : Int)) fun x_225 => Mn.bnd (Mn.pur (60 : Int)) fun y_226 => gd (ON.PowOk x_225 y_226) (Mn.pur (x_225 ^ Int.toNat y_226))) fun y_228 => Mn.pur (decide (y_228 ≤ x_227))) : Option Bool))) (body := (fun (t_224 : Int × (List Str)) => ((Mn.bnd (Mn.bnd (Mn.bnd (Mn.bnd (Mn.pur t_224.1) fun x_232 => Mn.bnd (Mn.bnd (Mn.pur (10 : Int)) fun x_230 => Mn.bnd (Mn.pur (60 : Int)) fun y_231 => gd (ON.PowOk x_230 y_231) (Mn.pur (x_230 ^ Int.toNat y_231))) fun y_233 => gd (0 < y_233) (Mn.pur (x_232 % y_233))) fun u_234 => gd (Nat.log2 (Int.natAbs u_234) < 1920) (Mn.pur (strI u_234))) fun z_235 => Mn.pur (Txt.zfill z_235 (60 : Int))) fun e_229 => gd (List.length t_224.2 < 100000) (Mn.bnd (Mn.pur (t_224.2 ++ [e_229])) fun zs_236 => (Mn.bnd (Mn.bnd (Mn.bnd (Mn.pur (10 : Int)) fun x_237 => Mn.bnd (Mn.pur (60 : Int)) fun y_238 => gd (ON.PowOk x_237 y_238) (Mn.pur (x_237 ^ Int.toNat y_238))) fun y_239 => gd (ON.DivOk y_239) (Mn.pur (t_224.1 / y_239))) fun number_240 => (Mn.pur (.nx (number_240, zs_236)))))) : Option (Fl (Int × (List Str)) (Int × (List Str)) Str)))) (n := FU) (.same (.same .nil)) (fun t_224 => (eb_T (em_op (em_var rfl) (em_op em_int em_int fun _ _ => om_pow) fun _ _ => om_B0))) fun t_224 => (by exact (es_appP (xs := t_224.2) rfl (em_zfill (i := 60) (em_str1 (em_op (em_var rfl) (em_op em_int em_int fun _ _ => om_pow) fun _ _ => om_mod)) (by decide)) fun zs_236 => (by exact (es_aug (a := t_224.1) rfl (em_op em_int em_int fun _ _ => om_pow) (fun _ => om_fdiv) fun number_240 => (by exact es_next (.same (.same .nil)))))))) fun t_224 => (by exact (es_appP (xs := t_224.2) rfl (em_str1 (em_var rfl)) fun zs_243 => (by exact (es_retS (em_borrow (em_join (em_ofF (ef_rev (em_var rfl)))) (.same rfl (.fz rfl .nil)))))))))))
theorem ok_ratio_text (T : Tx P w K mg) {f : Addr} {fd : FuncData} (F : Fun K "ratio_text" "ratio_text" s_ratio_text f fd) : FnOk P w K mg base CX0 3 f fd ["one"] (spP K 1 .dat pr_ratio_text) := by
  obtain ⟨f_figures, fd_figures, F_figures, mg_figures, b_figures⟩ := T.d_figures
  have G_figures := ok_figures (P := P) (w := w) (base := base) T F_figures
  obtain ⟨f_fraction, fd_fraction, F_fraction, mg_fraction, b_fraction⟩ := T.d_fraction
  have G_fraction := ok_fraction (P := P) (w := w) (base := base) T F_fraction
  have sc := sc_ratio_text
  refine F.ok sc (fun vs H Q E h => by obtain ⟨_, _, _, _, hl, _⟩ := h; exact hl) (fun cdv A outer s H vs Q E hr h => ?_)
  refine ⟨_, (pss_cons (ps_asg (pe_call G_fraction (hr.mono (by decide)) (by rfl) mg_fraction F_fraction.kp b_fraction .nil pass0 (pa_cons (pv 0) pa_nil)) (pg_tup rfl (pgs_cons (pg_name (i := 1) sc.nd rfl (by first | exact Or.inl rfl | exact Or.inr rfl)) (pgs_cons (pg_name (i := 2) sc.nd rfl (by first | exact Or.inl rfl | exact Or.inr rfl)) pgs_nil)))) (pss_cons (ps_ret (pe_joined (.cons (pe_fmt (pe_call G_figures (hr.mono (by decide)) (by rfl) mg_figures F_figures.kp b_figures .nil pass0 (pa_cons (pv 1) pa_nil))) (.cons pe_str (.cons (pe_fmt (pe_call G_figures (hr.mono (by decide)) (by rfl) mg_figures F_figures.kp b_figures .nil pass0 (pa_cons (pv 2) pa_nil))) .nil))))) pss_nil)), ?_⟩
  refine fin_pure h fun ds r hp => ?_
  obtain ⟨p0, x, rfl, hm, rfl⟩ := hp
  refine ⟨_, inferInstance, mb_ratio_text p0, x, W0, ?_, fin_some hm, rfl⟩
  show EvS K W0 _ [.dat (enc (p0 : (Tl Int))), .un, .un] noEnd noEnd (mb_ratio_text p0)
  exact (by exact (es_tgt (em_call (dvs := []) (dds := []) (f := fun p_248 => m_fraction p_248) (ea_1 (em_var rfl)) (fun _ => .nil) (fun _ => rfl) fun b r h => ⟨b, r, rfl, h, rfl⟩) (fun _ => eg_pair) fun p_249 => (by exact (es_retS (em_fs2 (em_call (dvs := []) (dds := []) (f := fun p_251 => m_figures p_251) (ea_1 (em_var rfl)) (fun _ => .nil) (fun _ => rfl) fun b r h => ⟨b, r, rfl, h, rfl⟩) (em_call (dvs := []) (dds := []) (f := fun p_252 => m_figures p_252) (ea_1 (em_var rfl)) (fun _ => .nil) (fun _ => rfl) fun b r h => ⟨b, r, rfl, h, rfl⟩))))))
theorem ok_is_product (T : Tx P w K mg) {f : Addr} {fd : FuncData} (F : Fun K "is_product" "is_product" s_is_product f fd) : FnOk P w K mg base CX0 3 f fd ["number"] (spP K 1 .dat pr_is_product) := by
  obtain ⟨f_fraction, fd_fraction, F_fraction, mg_fraction, b_fraction⟩ := T.d_fraction
  have G_fraction := ok_fraction (P := P) (w := w) (base := base) T F_fraction
  obtain ⟨f_ratio_of, fd_ratio_of, F_ratio_of, mg_ratio_of, b_ratio_of⟩ := T.d_ratio_of
  have G_ratio_of := ok_ratio_of (P := P) (w := w) (base := base) T F_ratio_of
  have sc := sc_is_product
  refine F.ok sc (fun vs H Q E h => by obtain ⟨_, _, _, _, hl, _⟩ := h; exact hl) (fun cdv A outer s H vs Q E hr h => ?_)
  refine ⟨_, (pss_cons (ps_ret (pe_cmpR (r := rEqD K) (op_eqD (room64 hr)) (pe_call G_fraction (hr.mono (by decide)) (by rfl) mg_fraction F_fraction.kp b_fraction .nil pass0 (pa_cons (pe_call G_ratio_of (hr.mono (by decide)) (by rfl) mg_ratio_of F_ratio_of.kp b_ratio_of .nil pass0 (pa_cons (pv 0) (pa_cons pe_int pa_nil))) pa_nil)) (pe_tup (pa_cons (pv 0) (pa_cons pe_int pa_nil))) (nomark _))) pss_nil), ?_⟩
  refine fin_pure h fun ds r hp => ?_
  obtain ⟨p0, x, rfl, hm, rfl⟩ := hp
  refine ⟨_, inferInstance, mb_is_product p0, x, W0, ?_, fin_some hm, rfl⟩
  show EvS K W0 _ [.dat (enc (p0 : Int))] noEnd noEnd (mb_is_product p0)
  exact (by exact (es_retS (em_op (em_call (dvs := []) (dds := []) (f := fun p_260 => m_fraction p_260) (ea_1 (em_call (dvs := []) (dds := []) (f := fun p_261 => m_ratio_of p_261.1 p_261.2) (ea_cons (em_var rfl) (ea_1 em_int)) (fun _ => .nil) (fun _ => rfl) fun b r h => ⟨b.1, b.2, r, rfl, h, rfl⟩)) (fun _ => .nil) (fun _ => rfl) fun b r h => ⟨b, r, rfl, h, rfl⟩) (em_tup2 (em_var rfl) em_int) fun _ _ => om_eqD)))
theorem ok_is_bounded (T : Tx P w K mg) {f : Addr} {fd : FuncData} (F : Fun K "is_bounded" "is_bounded" s_is_bounded f fd) : FnOk P w K mg base CX0 4 f fd ["number", "kind"] (spP K 2 .dat pr_is_bounded) := by
  obtain ⟨f_is_product, fd_is_product, F_is_product, mg_is_product, b_is_product⟩ := T.d_is_product
  have G_is_product := ok_is_product (P := P) (w := w) (base := base) T F_is_product
  obtain ⟨a_BOUNDS, m_BOUNDS, k_BOUNDS⟩ := T.m_BOUNDS
  have sc := sc_is_bounded
  refine F.ok sc (fun vs H Q E h => by obtain ⟨_, _, _, _, hl, _⟩ := h; exact hl) (fun cdv A outer s H vs Q E hr h => ?_)
  refine ⟨_, (pss_cons (ps_asg (pe_ix (r := rIxD K w) ix_kdict (pe_glob (v := .ref a_BOUNDS) rfl m_BOUNDS rfl) (pv 1) (fun _ _ => rfl)) (pg_tup rfl (pgs_cons (pg_name (i := 2) sc.nd rfl (by first | exact Or.inl rfl | exact Or.inr rfl)) (pgs_cons (pg_name (i := 3) sc.nd rfl (by first | exact Or.inl rfl | exact Or.inr rfl)) pgs_nil)))) (pss_cons (ps_ret (pe_and (pe_chain op_le op_le (pv 2) (pv 0) (pv 3)) (pe_one (pe_or (pe_cmpR op_ne (pv 1) pe_str (nomark _)) (pe_one (pe_call G_is_product (hr.mono (by decide)) (by rfl) mg_is_product F_is_product.kp b_is_product .nil pass0 (pa_cons (pv 0) pa_nil))))))) pss_nil)), ?_⟩
  refine fin_pure h fun ds r hp => ?_
  obtain ⟨p0, p1, x, rfl, hm, rfl⟩ := hp
  refine ⟨_, inferInstance, mb_is_bounded p0 p1, x, W0, ?_, fin_some hm, rfl⟩
  show EvS K W0 _ [.dat (enc (p0 : Int)), .dat (enc (p1 : Str)), .un, .un] noEnd noEnd (mb_is_bounded p0 p1)
  exact (by exact (es_tgt (em_getK k_BOUNDS (em_var rfl)) (fun _ => eg_pair) fun p_269 => (by exact (es_retS (em_and (em_chain (em_var rfl) (em_var rfl) (em_var rfl) (fun _ _ => om_B0) fun _ _ => om_B0) (em_or (em_op (em_var rfl) em_str fun _ _ => om_neS) (em_call (dvs := []) (dds := []) (f := fun p_277 => m_is_product p_277) (ea_1 (em_var rfl)) (fun _ => .nil) (fun _ => rfl) fun b r h => ⟨b, r, rfl, h, rfl⟩)))))))
theorem ok_fits (T : Tx P w K mg) {f : Addr} {fd : FuncData} (F : Fun K "fits" "fits" s_fits f fd) : FnOk P w K mg base CX0 5 f fd ["word", "kind"] (spP K 2 .dat pr_fits) := by
  obtain ⟨f_is_bounded, fd_is_bounded, F_is_bounded, mg_is_bounded, b_is_bounded⟩ := T.d_is_bounded
  have G_is_bounded := ok_is_bounded (P := P) (w := w) (base := base) T F_is_bounded
  obtain ⟨f_is_name, fd_is_name, F_is_name, mg_is_name, b_is_name⟩ := T.d_is_name
  have G_is_name := ok_is_name (P := P) (w := w) (base := base) T F_is_name
  obtain ⟨f_is_number, fd_is_number, F_is_number, mg_is_number, b_is_number⟩ := T.d_is_number
  have G_is_number := ok_is_number (P := P) (w := w) (base := base) T F_is_number
  obtain ⟨a_BOUNDS, m_BOUNDS, k_BOUNDS⟩ := T.m_BOUNDS
  have sc := sc_fits
  refine F.ok sc (fun vs H Q E h => by obtain ⟨_, _, _, _, hl, _⟩ := h; exact hl) (fun cdv A outer s H vs Q E hr h => ?_)
  refine ⟨_, (pss_cons (ps_if (pt_cmpR op_eq (pv 1) pe_str (nomark _)) (pss_cons (ps_ret (pe_call G_is_name (hr.mono (by decide)) (by rfl) mg_is_name F_is_name.kp b_is_name .nil pass0 (pa_cons (pv 0) pa_nil))) pss_nil) pss_nil) (pss_cons (ps_if (pt_cmpR (r := rInK K a_BOUNDS) (or_inK k_BOUNDS) (pv 1) (pe_glob (v := .ref a_BOUNDS) rfl m_BOUNDS rfl) (by rfl)) (pss_cons (ps_ret (pe_and (pe_call G_is_number (hr.mono (by decide)) (by rfl) mg_is_number F_is_number.kp b_is_number .nil pass0 (pa_cons (pv 0) pa_nil)) (pe_one (pe_call G_is_bounded (hr.mono (by decide)) (by rfl) mg_is_bounded F_is_bounded.kp b_is_bounded .nil pass0 (pa_cons (pe_callTy cr_intT (by rfl) T.b_int (by decide +kernel) (pa_cons (pv 0) pa_nil)) (pa_cons (pv 1) pa_nil)))))) pss_nil) pss_nil) (pss_cons (ps_ret (pe_cmpR op_eq (pv 0) (pv 1) (nomark _))) pss_nil))), ?_⟩
  refine fin_pure h fun ds r hp => ?_
  obtain ⟨p0, p1, x, rfl, hm, rfl⟩ := hp
  refine ⟨_, inferInstance, mb_fits p0 p1, x, W0, ?_, fin_some hm, rfl⟩
  show EvS K W0 _ [.dat (enc (p0 : Str)), .dat (enc (p1 : Str))] noEnd noEnd (mb_fits p0 p1)
  exact (by exact (es_seq (mid := (fun (t_283 : Unit) => [.dat (enc (p0 : Str)), .dat (enc (p1 : Str))])) (es_if (eb_T (em_op (em_var rfl) em_str fun _ _ => om_eqS)) (by exact (es_retS (em_call (dvs := []) (dds := []) (f := fun p_285 => m_is_name p_285) (ea_1 (em_var rfl)) (fun _ => .nil) (fun _ => rfl) fun b r h => ⟨b, r, rfl, h, rfl⟩))) (by exact es_next (.same (.same .nil)))) fun t_283 => (by exact (es_seq (mid := (fun (t_288 : Unit) => [.dat (enc (p0 : Str)), .dat (enc (p1 : Str))])) (es_if (eb_T (em_inK k_BOUNDS (em_var rfl))) (by exact (es_retS (em_and (em_call (dvs := []) (dds := []) (f := fun p_290 => m_is_number p_290) (ea_1 (em_var rfl)) (fun _ => .nil) (fun _ => rfl) fun b r h => ⟨b, r, rfl, h, rfl⟩) (em_call (dvs := []) (dds := []) (f := fun p_291 => m_is_bounded p_291.1 p_291.2) (ea_cons (em_intT (em_var rfl)) (ea_1 (em_var rfl))) (fun _ => .nil) (fun _ => rfl) fun b r h => ⟨b.1, b.2, r, rfl, h, rfl⟩)))) (by exact es_next (.same (.same .nil)))) fun t_288 => (by exact (es_retS (em_op (em_var rfl) (em_var rfl) fun _ _ => om_eqS)))))))
theorem ok_wrong_word (T : Tx P w K mg) {f : Addr} {fd : FuncData} (F : Fun K "wrong_word" "wrong_word" s_wrong_word f fd) : FnOk P w K mg base CX0 6 f fd ["words"] (spP K 1 .dat pr_wrong_word) := by
  obtain ⟨f_fits, fd_fits, F_fits, mg_fits, b_fits⟩ := T.d_fits
  have G_fits := ok_fits (P := P) (w := w) (base := base) T F_fits
  obtain ⟨a_ENDS, m_ENDS, k_ENDS⟩ := T.m_ENDS
  obtain ⟨a_SHAPES, m_SHAPES, k_SHAPES⟩ := T.m_SHAPES
  have sc := sc_wrong_word
  refine F.ok sc (fun vs H Q E h => by obtain ⟨_, _, _, _, hl, _⟩ := h; exact hl) (fun cdv A outer s H vs Q E hr h => ?_)
  refine ⟨_, (pss_cons (ps_if (pt_cmpR (r := rNinK K a_SHAPES) (or_ninK k_SHAPES) (pe_ix (r := rIxL K) ix_list (pv 0) pe_int (fun _ _ => rfl)) (pe_glob (v := .ref a_SHAPES) rfl m_SHAPES rfl) (by rfl)) (pss_cons (ps_ret pe_int) pss_nil) pss_nil) (pss_cons (ps_set (i := 1) sc.nd rfl (by first | exact Or.inl rfl | exact Or.inr rfl) (pe_ix (r := rIxD K w) ix_kdict (pe_glob (v := .ref a_SHAPES) rfl m_SHAPES rfl) (pe_ix (r := rIxL K) ix_list (pv 0) pe_int (fun _ _ => rfl)) (fun _ _ => rfl))) (pss_cons (ps_for PassesOwn.never rfl (pi_enum rfl T.b_enumerate (pa_cons (pv 0) pa_nil)) (pg_tup rfl (pgs_cons (pg_name (i := 2) sc.nd rfl (by first | exact Or.inl rfl | exact Or.inr rfl)) (pgs_cons (pg_name (i := 3) sc.nd rfl (by first | exact Or.inl rfl | exact Or.inr rfl)) pgs_nil))) (pss_cons (ps_if (PW.pt (pw_or (pt_cmpR op_eq (pv 2) (pe_callB (r := ON.rLen K) cr_lenU (by rfl) T.b_len (by decide +kernel) (pa_cons (pv 1) pa_nil)) (nomark _)) (pw_or1 (pt_not (pt_val (pe_call G_fits (hr.mono (by decide)) (by rfl) mg_fits F_fits.kp b_fits .nil pass0 (pa_cons (pv 3) (pa_cons (pe_ix (r := rIxT K) ix_tup (pv 1) (pv 2) (fun _ _ => rfl)) pa_nil)))))))) (pss_cons (ps_ret (pv 2)) pss_nil) pss_nil) pss_nil)) (pss_cons (ps_ret (pe_ifExp (pt_cmpR (r := rIn K false) op_in_seq (pe_callB (r := ON.rLen K) cr_lenU (by rfl) T.b_len (by decide +kernel) (pa_cons (pv 0) pa_nil)) (pe_ix (r := rIxD K w) ix_kdict (pe_glob (v := .ref a_ENDS) rfl m_ENDS rfl) (pe_ix (r := rIxL K) ix_list (pv 0) pe_int (fun _ _ => rfl)) (fun _ _ => rfl)) (by rfl)) pe_non (pe_callB (r := ON.rLen K) cr_lenU (by rfl) T.b_len (by decide +kernel) (pa_cons (pv 0) pa_nil)))) pss_nil)))), ?_⟩
  refine fin_pure h fun ds r hp => ?_
  obtain ⟨p0, x, rfl, hm, rfl⟩ := hp
  refine ⟨_, inferInstance, mb_wrong_word p0, x, W0, ?_, fin_some hm, rfl⟩
  show EvS K W0 _ [.dat (enc (p0 : (List Str))), .un, .un, .un] noEnd noEnd (mb_wrong_word p0)
  exact (by exact (es_seq (mid := (fun (t_303 : Unit) => [.dat (enc (p0 : (List Str))), .un, .un, .un])) (es_if (eb_T (em_ninK k_SHAPES (em_op (em_var rfl) em_int fun _ _ => om_ixL))) (by exact (es_retS (em_as (fun (k_305 : Int) => (some k_305 : (Option Int))) (fun _ => rfl) em_int))) (by exact es_next (.same (.same (.same (.same .nil)))))) fun t_303 => (by exact (es_set (em_getK k_SHAPES (em_op (em_var rfl) em_int fun _ _ => om_ixL)) fun shape_306 => (by exact (es_seq (mid := (fun (t_311 : Unit) => [.dat (enc (p0 : (List Str))), .dat (enc (shape_306 : (Tl Str))), .un, .un])) (es_for (inv := (fun (t_311 : Unit) => [.dat (enc (p0 : (List Str))), .dat (enc (shape_306 : (Tl Str))), .un, .un])) (t0 := ()) (sd1 := fun (t_311 : Unit) (a_312 : (Int × Str)) => [.dat (enc (p0 : (List Str))), .dat (enc (shape_306 : (Tl Str))), .dat (enc (a_312.1 : Int)), .dat (enc (a_312.2 : Str))]) (body := (fun (t_311 : Unit) (a_312 : (Int × Str)) => ((andThen (Mn.bnd (Mn.bnd (Mn.bnd (Mn.pur a_312.1) fun x_314 => Mn.bnd (Mn.bnd (Mn.pur shape_306) fun u_313 => Mn.pur ((List.length (Tl.l u_313) : Nat) : Int)) fun y_315 => Mn.pur (decide (x_314 = y_315))) fun b_322 => cnd b_322 (Mn.pur true) (Mn.bnd (Mn.bnd (Mn.bnd (Mn.pur a_312.2) fun x_319 => Mn.bnd (Mn.bnd (Mn.pur shape_306) fun x_317 => Mn.bnd (Mn.pur a_312.1) fun y_318 => lift (atI (Tl.l x_317) y_318)) fun y_320 => Mn.pur (x_319, y_320)) fun p_316 => lift (m_fits p_316.1 p_316.2)) fun b_321 => Mn.pur (!b_321))) fun b_323 => cnd b_323 (Mn.bnd (Mn.bnd (Mn.pur a_312.1) fun k_326 => Mn.pur (some k_326 : (Option Int))) fun r_325 => Mn.pur (.rt r_325)) (Mn.pur (.nx ())) : Option (Fl (Unit) (Unit) (Option Int))) fun t_324 => (Mn.pur (.nx ()))) : Option (Fl (Unit) (Unit) (Option Int))))) (ei_enum (ea_1 (em_var rfl))) (.same (.same (.same (.same .nil)))) (fun _ _ => eg_pair) fun t_311 a_312 => (by exact (es_seq (mid := (fun (t_324 : Unit) => [.dat (enc (p0 : (List Str))), .dat (enc (shape_306 : (Tl Str))), .dat (enc (a_312.1 : Int)), .dat (enc (a_312.2 : Str))])) (es_if (eb_or (eb_T (em_op (em_var rfl) (em_lenT (em_var rfl)) fun _ _ => om_eqI)) (eb_not (eb_B (em_call (dvs := []) (dds := []) (f := fun p_316 => m_fits p_316.1 p_316.2) (ea_cons (em_var rfl) (ea_1 (em_op (em_var rfl) (em_var rfl) fun _ _ => om_ixT))) (fun _ => .nil) (fun _ => rfl) fun b r h => ⟨b.1, b.2, r, rfl, h, rfl⟩)))) (by exact (es_retS (em_as (fun (k_326 : Int) => (some k_326 : (Option Int))) (fun _ => rfl) (em_var rfl)))) (by exact es_next (.same (.same (.same (.same .nil)))))) fun t_324 => (by exact es_next (.same (.same (.un (.un .nil)))))))) fun t_311 => (by exact (es_retS (em_if (eb_T (em_op (em_lenL (em_var rfl)) (em_getK k_ENDS (em_op (em_var rfl) em_int fun _ _ => om_ixL)) fun _ _ => om_inTI)) (em_as (fun (k_334 : Unit) => (none : (Option Int))) (fun _ => rfl) em_non) (em_as (fun (k_336 : Int) => (some k_336 : (Option Int))) (fun _ => rfl) (em_lenL (em_var rfl))))))))))))
theorem ok_need_row (T : Tx P w K mg) {f : Addr} {fd : FuncData} (F : Fun K "need_row" "need_row" s_need_row f fd) : FnOk P w K mg base (L2.CX P w) 8 f fd ["words", "number"] (spX K 2 .dat pr_need_row) := by
  obtain ⟨f_wrong_word, fd_wrong_word, F_wrong_word, mg_wrong_word, b_wrong_word⟩ := T.d_wrong_word
  have G_wrong_word := ok_wrong_word (P := P) (w := w) (base := base) T F_wrong_word
  obtain ⟨C_BadText, fI_BadText, cc_BadText, cda_BadText, qual_BadText, EC_BadText, sup_BadText⟩ := T.e_BadText
  have sc := sc_need_row
  refine F.okX sc (fun vs H Q E h => by obtain ⟨_, _, _, _, hl, _⟩ := h; exact hl) (fun cdv A outer s H vs Q E hr h => ?_)
  have tk : Takes (cxOf (L2.CX P w) P w K mg base ["words", "number", "at"] "need_row" (defScope s_need_row) f cdv A outer s H E) (fun cls d _ H => E cls d H) := takes_of rfl rfl rfl rfl
  refine ⟨_, (pss_cons (ps_set (i := 2) sc.nd rfl (by first | exact Or.inl rfl | exact Or.inr rfl) (pe_call G_wrong_word (hr.mono (by decide)) (by rfl) mg_wrong_word F_wrong_word.kp b_wrong_word .nil pass0 (pa_cons (pv 0) pa_nil))) (pss_cons (ps_if (pt_cmpR or_notN (pv 2) pe_non (nomark _)) (pss_cons (ps_raise rfl tk (F_spot.pmk_sup (k := 1) (okv := (isII K)) sup_BadText (hr.mono (by decide)) EC_BadText.mg EC_BadText.keep (EC_BadText.raises rfl) (fmt_isII) (pa_cons (pe_tup (pa_cons (pv 1) (pa_cons (pv 2) pa_nil))) pa_nil))) pss_nil) pss_nil) pss_nil)), ?_⟩
  refine fin_XN h fun ds r hp => ?_
  obtain ⟨p0, p1, x, rfl, hm, rfl⟩ := hp
  refine ⟨mb_need_row p0 p1, x, ?_, hm, rfl⟩
  show EvS K ⟨fun cls d _ H => E cls d H, [.un, .un, .un]⟩ _ [.dat (enc (p0 : (List Str))), .dat (enc (p1 : Int)), .un] (fun _ => [.un, .un, .un]) noEnd (mb_need_row p0 p1)
  exact (by exact (es_set (em_call (dvs := []) (dds := []) (f := fun p_340 => m_wrong_word p_340) (ea_1 (em_var rfl)) (fun _ => .nil) (fun _ => rfl) fun b r h => ⟨b, r, rfl, h, rfl⟩) fun at_339 => (by exact (es_seq (mid := (fun (t_343 : Unit) => [.dat (enc (p0 : (List Str))), .dat (enc (p1 : Int)), .dat (enc (at_339 : (Option Int)))])) (es_if (eb_T (em_notN (em_var rfl) )) (by exact (es_raiseS (ek_mkH (okd := okII) EC_BadText.ns (ea_1 (em_tup2 (em_var rfl) (em_dec id dec_opt (em_var rfl)))) (ho_isII)) (.un (.un (.un .nil))))) (by exact es_next (.same (.same (.same .nil))))) fun t_343 => (by exact es_next (.un (.un (.un .nil))))))))
theorem ok_number_behind (T : Tx P w K mg) {f : Addr} {fd : FuncData} (F : Fun K "number_behind" "number_behind" s_number_behind f fd) : FnOk P w K mg base CX0 1 f fd ["words", "mark", "unwritten"] (spP K 3 .dat pr_number_behind) := by
  have sc := sc_number_behind
  refine F.ok sc (fun vs H Q E h => by obtain ⟨_, _, _, _, hl, _⟩ := h; exact hl) (fun cdv A outer s H vs Q E hr h => ?_)
  refine ⟨_, (pss_cons (ps_if (pt_cmpR (r := rIn K false) op_in_seq (pv 1) (pv 0) (by rfl)) (pss_cons (ps_ret (pe_callTy cr_intT (by rfl) T.b_int (by decide +kernel) (pa_cons (pe_ix (r := rIxL K) ix_list (pv 0) (pe_op op_add (pe_bm PySem.F.plainAttrs_list PySem.F.slot_list_index PySem.F.type_list_index mt_index (pv 0) (pa_cons (pv 1) pa_nil)) pe_int) (fun _ _ => rfl)) pa_nil))) pss_nil) pss_nil) (pss_cons (ps_ret (pv 2)) pss_nil)), ?_⟩
  refine fin_pure h fun ds r hp => ?_
  obtain ⟨p0, p1, p2, x, rfl, hm, rfl⟩ := hp
  refine ⟨_, inferInstance, mb_number_behind p0 p1 p2, x, W0, ?_, fin_some hm, rfl⟩
  show EvS K W0 _ [.dat (enc (p0 : (List Str))), .dat (enc (p1 : Str)), .dat (enc (p2 : Int))] noEnd noEnd (mb_number_behind p0 p1 p2)
  exact (by exact (es_seq (mid := (fun (t_352 : Unit) => [.dat (enc (p0 : (List Str))), .dat (enc (p1 : Str)), .dat (enc (p2 : Int))])) (es_if (eb_T (em_op (em_var rfl) (em_var rfl) fun _ _ => om_inL)) (by exact (es_retS (em_intT (em_op (em_var rfl) (em_op (em_indexL (em_var rfl) (em_var rfl)) em_int fun _ _ => om_I0) fun _ _ => om_ixL)))) (by exact es_next (.same (.same (.same .nil))))) fun t_352 => (by exact (es_retS (em_var rfl)))))
theorem ok_told_note (T : Tx P w K mg) {f : Addr} {fd : FuncData} (F : Fun K "told_note" "told_note" s_told_note f fd) : FnOk P w K mg base CX0 1 f fd ["words"] (spP K 1 .dat pr_told_note) := by
  have sc := sc_told_note
  refine F.ok sc (fun vs H Q E h => by obtain ⟨_, _, _, _, hl, _⟩ := h; exact hl) (fun cdv A outer s H vs Q E hr h => ?_)
  refine ⟨_, (pss_cons (ps_ret (pe_tup (pa_cons (pe_ix (r := rIxL K) ix_list (pv 0) pe_int (fun _ _ => rfl)) (pa_cons (pe_ix (r := rIxL K) ix_list (pv 0) pe_int (fun _ _ => rfl)) (pa_cons (pe_callTy cr_intT (by rfl) T.b_int (by decide +kernel) (pa_cons (pe_ix (r := rIxL K) ix_list (pv 0) pe_int (fun _ _ => rfl)) pa_nil)) (pa_cons (pe_callTy cr_intT (by rfl) T.b_int (by decide +kernel) (pa_cons (pe_ix (r := rIxL K) ix_list (pv 0) pe_int (fun _ _ => rfl)) pa_nil)) pa_nil)))))) pss_nil), ?_⟩
  refine fin_pure h fun ds r hp => ?_
  obtain ⟨p0, x, rfl, hm, rfl⟩ := hp
  refine ⟨_, inferInstance, mb_told_note p0, x, W0, ?_, fin_some hm, rfl⟩
  show EvS K W0 _ [.dat (enc (p0 : (List Str)))] noEnd noEnd (mb_told_note p0)
  exact (by exact (es_retS (em_tupN (fun t_380 => (⟨t_380.1, t_380.2.1, t_380.2.2.1, t_380.2.2.2⟩ : (T4 Str Str Int Int))) (ea_cons (em_op (em_var rfl) em_int fun _ _ => om_ixL) (ea_cons (em_op (em_var rfl) em_int fun _ _ => om_ixL) (ea_cons (em_intT (em_op (em_var rfl) em_int fun _ _ => om_ixL)) (ea_1 (em_intT (em_op (em_var rfl) em_int fun _ _ => om_ixL)))))) (fun _ => rfl) (n := 4) (fun _ => rfl))))
theorem ok_told_tie (T : Tx P w K mg) {f : Addr} {fd : FuncData} (F : Fun K "told_tie" "told_tie" s_told_tie f fd) : FnOk P w K mg base CX0 3 f fd ["words"] (spP K 1 .dat pr_told_tie) := by
  obtain ⟨f_number_behind, fd_number_behind, F_number_behind, mg_number_behind, b_number_behind⟩ := T.d_number_behind
  have G_number_behind := ok_number_behind (P := P) (w := w) (base := base) T F_number_behind
  obtain ⟨f_ratio_of, fd_ratio_of, F_ratio_of, mg_ratio_of, b_ratio_of⟩ := T.d_ratio_of
  have G_ratio_of := ok_ratio_of (P := P) (w := w) (base := base) T F_ratio_of
  have sc := sc_told_tie
  refine F.ok sc (fun vs H Q E h => by obtain ⟨_, _, _, _, hl, _⟩ := h; exact hl) (fun cdv A outer s H vs Q E hr h => ?_)
  refine ⟨_, (pss_cons (ps_asg (pe_slice (r := rSlL K) sl_list (pv 0) po_none (po_some pe_int)) (pg_unl rfl (pgs_cons (pg_name (i := 4) sc.nd rfl (by first | exact Or.inl rfl | exact Or.inr rfl)) (pgs_cons (pg_name (i := 5) sc.nd rfl (by first | exact Or.inl rfl | exact Or.inr rfl)) (pgs_cons (pg_name (i := 6) sc.nd rfl (by first | exact Or.inl rfl | exact Or.inr rfl)) pgs_nil))))) (pss_cons (ps_set (i := 1) sc.nd rfl (by first | exact Or.inl rfl | exact Or.inr rfl) (pe_tup (pa_cons pe_int (pa_cons pe_int (pa_cons pe_int (pa_cons pe_int pa_nil)))))) (pss_cons (ps_if (pt_cmpR op_ne (pv 4) pe_str (nomark _)) (pss_cons (ps_set (i := 1) sc.nd rfl (by first | exact Or.inl rfl | exact Or.inr rfl) (pe_call G_ratio_of (hr.mono (by decide)) (by rfl) mg_ratio_of F_ratio_of.kp b_ratio_of .nil pass0 (pa_cons (pe_callTy cr_intT (by rfl) T.b_int (by decide +kernel) (pa_cons (pe_ix (r := rIxL K) ix_list (pv 0) pe_int (fun _ _ => rfl)) pa_nil)) (pa_cons (pe_callTy cr_intT (by rfl) T.b_int (by decide +kernel) (pa_cons (pe_ix (r := rIxL K) ix_list (pv 0) pe_int (fun _ _ => rfl)) pa_nil)) pa_nil)))) pss_nil) pss_nil) (pss_cons (ps_set (i := 2) sc.nd rfl (by first | exact Or.inl rfl | exact Or.inr rfl) (pe_call G_number_behind (hr.mono (by decide)) (by rfl) mg_number_behind F_number_behind.kp b_number_behind .nil pass0 (pa_cons (pv 0) (pa_cons pe_str (pa_cons (pe_glob (v := .int 50) rfl (T.m_BEND_UNWRITTEN).choose_spec ⟨_, rfl⟩) pa_nil))))) (pss_cons (ps_set (i := 3) sc.nd rfl (by first | exact Or.inl rfl | exact Or.inr rfl) (pe_call G_number_behind (hr.mono (by decide)) (by rfl) mg_number_behind F_number_behind.kp b_number_behind .nil pass0 (pa_cons (pv 0) (pa_cons pe_str (pa_cons (pe_glob (v := .int 1) rfl (T.m_WEIGHT_UNWRITTEN).choose_spec ⟨_, rfl⟩) pa_nil))))) (pss_cons (ps_ret (pe_tup (pa_cons (pv 4) (pa_cons (pv 5) (pa_cons (pv 6) (pa_cons (pv 1) (pa_cons (pv 2) (pa_cons (pv 3) pa_nil)))))))) pss_nil)))))), ?_⟩
  refine fin_pure h fun ds r hp => ?_
  obtain ⟨p0, x, rfl, hm, rfl⟩ := hp
  refine ⟨_, inferInstance, mb_told_tie p0, x, W0, ?_, fin_some hm, rfl⟩
  show EvS K W0 _ [.dat (enc (p0 : (List Str))), .un, .un, .un, .un, .un, .un] noEnd noEnd (mb_told_tie p0)
  exact (by exact (es_tgt (em_dec l3 l3_ok (em_ofF (ef_slice (em_var rfl) eo_none (eo_some em_int)))) (fun _ => eg_l3) fun p_385 => (by exact (es_set (em_tupTl (el_cons em_int (el_cons em_int (el_cons em_int (el_cons em_int el_nil))))) fun ratio_387 => (by exact (es_seq (mid := (fun (t_400 : (Tl Int)) => [.dat (enc (p0 : (List Str))), .dat (enc (t_400 : (Tl Int))), .un, .un, .dat (enc (p_385.a : Str)), .dat (enc (p_385.b : Str)), .dat (enc (p_385.c : Str))])) (es_if (eb_T (em_op (em_var rfl) em_str fun _ _ => om_neS)) (by exact (es_set (em_call (dvs := []) (dds := []) (f := fun p_402 => m_ratio_of p_402.1 p_402.2) (ea_cons (em_intT (em_op (em_var rfl) em_int fun _ _ => om_ixL)) (ea_1 (em_intT (em_op (em_var rfl) em_int fun _ _ => om_ixL)))) (fun _ => .nil) (fun _ => rfl) fun b r h => ⟨b.1, b.2, r, rfl, h, rfl⟩) fun ratio_401 => (by exact es_next (.same (.same (.same (.same (.same (.same (.same .nil)))))))))) (by exact es_next (.same (.same (.same (.same (.same (.same (.same .nil))))))))) fun t_400 => (by exact (es_set (em_call (dvs := []) (dds := []) (f := fun p_412 => m_number_behind p_412.1 p_412.2.1 p_412.2.2) (ea_cons (em_var rfl) (ea_cons em_str (ea_1 em_int))) (fun _ => .nil) (fun _ => rfl) fun b r h => ⟨b.1, b.2.1, b.2.2, r, rfl, h, rfl⟩) fun bend_411 => (by exact (es_set (em_call (dvs := []) (dds := []) (f := fun p_418 => m_number_behind p_418.1 p_418.2.1 p_418.2.2) (ea_cons (em_var rfl) (ea_cons em_str (ea_1 em_int))) (fun _ => .nil) (fun _ => rfl) fun b r h => ⟨b.1, b.2.1, b.2.2, r, rfl, h, rfl⟩) fun weight_417 => (by exact (es_retS (em_tupN (fun t_434 => (⟨t_434.1, t_434.2.1, t_434.2.2.1, t_434.2.2.2.1, t_434.2.2.2.2.1, t_434.2.2.2.2.2⟩ : (T6 Str Str Str (Tl Int) Int Int))) (ea_cons (em_var rfl) (ea_cons (em_var rfl) (ea_cons (em_var rfl) (ea_cons (em_var rfl) (ea_cons (em_var rfl) (ea_1 (em_var rfl))))))) (fun _ => rfl) (n := 6) (fun _ => rfl))))))))))))))
theorem ok_read (T : Tx P w K mg) {f : Addr} {fd : FuncData} (F : Fun K "read" "read" s_read f fd) : FnOk P w K mg base (L2.CX P w) 10 f fd ["text"] (spX K 1 .dat pr_read) := by
  obtain ⟨f_need_row, fd_need_row, F_need_row, mg_need_row, b_need_row⟩ := T.d_need_row
  have G_need_row := ok_need_row (P := P) (w := w) (base := base) T F_need_row
  obtain ⟨f_text_words, fd_text_words, F_text_words, mg_text_words, b_text_words⟩ := T.d_text_words
  have G_text_words := ok_text_words (P := P) (w := w) (base := base) T F_text_words
  obtain ⟨f_told_note, fd_told_note, F_told_note, mg_told_note, b_told_note⟩ := T.d_told_note
  have G_told_note := ok_told_note (P := P) (w := w) (base := base) T F_told_note
  obtain ⟨f_told_tie, fd_told_tie, F_told_tie, mg_told_tie, b_told_tie⟩ := T.d_told_tie
  have G_told_tie := ok_told_tie (P := P) (w := w) (base := base) T F_told_tie
  obtain ⟨a_TIE_WORDS, m_TIE_WORDS, k_TIE_WORDS⟩ := T.m_TIE_WORDS
  have sc := sc_read
  refine F.okX sc (fun vs H Q E h => by obtain ⟨_, _, _, _, hl, _⟩ := h; exact hl) (fun cdv A outer s H vs Q E hr h => ?_)
  have tk : Takes (cxOf (L2.CX P w) P w K mg base ["text", "rows", "filled", "notes", "ties", "homes", "number", "words"] "read" (defScope s_read) f cdv A outer s H E) (fun cls d _ H => E cls d H) := takes_of rfl rfl rfl rfl
  refine ⟨_, (pss_cons (ps_set (i := 1) sc.nd rfl (by first | exact Or.inl rfl | exact Or.inr rfl) (pe_callS G_text_words (hr.mono (by decide)) (by rfl) mg_text_words F_text_words.kp b_text_words (fun σ => passAt tk σ) (pa_cons (pv 0) pa_nil))) (pss_cons (ps_for (passes_of rfl) rfl (pi_enum rfl T.b_enumerate (pa_cons (pv 1) pa_nil)) (pg_tup rfl (pgs_cons (pg_name (i := 6) sc.nd rfl (by first | exact Or.inl rfl | exact Or.inr rfl)) (pgs_cons (pg_name (i := 7) sc.nd rfl (by first | exact Or.inl rfl | exact Or.inr rfl)) pgs_nil))) (pss_cons (ps_if (pt_truK (K := K) rfl (pv 7)) (pss_cons (ps_expr (pe_callS G_need_row (hr.mono (by decide)) (by rfl) mg_need_row F_need_row.kp b_need_row (fun σ => passAt tk σ) (pa_cons (pv 7) (pa_cons (pv 6) pa_nil)))) pss_nil) pss_nil) pss_nil)) (pss_cons (ps_setLc (i := 2) (own := [("words", 7)]) (g := gName 7) rfl sc.nd rfl rfl (sw_true rfl rfl rfl (by decide +kernel)) (pi_list (pv 1)) (blkOk_by (N := ["text", "rows", "filled", "notes", "ties", "homes", "number", "words"]) (sc := defScope s_read) (by decide +kernel)) (fun _ _ _ _ _ => (pg_name (i := 7) sc.nd rfl (by first | exact Or.inl rfl | exact Or.inr rfl))) (fun _ _ _ _ _ => (pts_one (pt_truK (K := K) rfl (pv 7)))) (fun _ _ _ _ _ => (by exact (pv 7)))) (pss_cons (ps_setLc (i := 3) (own := [("words", 7)]) (g := gName 7) rfl sc.nd rfl rfl (sw_true rfl rfl rfl (by decide +kernel)) (pi_list (pv 2)) (blkOk_by (N := ["text", "rows", "filled", "notes", "ties", "homes", "number", "words"]) (sc := defScope s_read) (by decide +kernel)) (fun _ _ _ _ _ => (pg_name (i := 7) sc.nd rfl (by first | exact Or.inl rfl | exact Or.inr rfl))) (fun _ _ _ _ _ => (pts_one (pt_cmpR op_eq (pe_ix (r := rIxL K) ix_list (pv 7) pe_int (fun _ _ => rfl)) pe_str (nomark _)))) (fun _ _ _ _ _ => (by exact (pe_call G_told_note (hr.mono (by decide)) (by rfl) mg_told_note F_told_note.kp b_told_note .nil pass0 (pa_cons (pv 7) pa_nil))))) (pss_cons (ps_setLc (i := 4) (own := [("words", 7)]) (g := gName 7) rfl sc.nd rfl rfl (sw_true rfl rfl rfl (by decide +kernel)) (pi_list (pv 2)) (blkOk_by (N := ["text", "rows", "filled", "notes", "ties", "homes", "number", "words"]) (sc := defScope s_read) (by decide +kernel)) (fun _ _ _ _ _ => (pg_name (i := 7) sc.nd rfl (by first | exact Or.inl rfl | exact Or.inr rfl))) (fun _ _ _ _ _ => (pts_one (pt_cmpR (r := rIn K false) op_in_seq (pe_ix (r := rIxL K) ix_list (pv 7) pe_int (fun _ _ => rfl)) (pe_glob (v := .ref a_TIE_WORDS) rfl m_TIE_WORDS rfl) (by rfl)))) (fun _ _ _ _ _ => (by exact (pe_call G_told_tie (hr.mono (by decide)) (by rfl) mg_told_tie F_told_tie.kp b_told_tie .nil pass0 (pa_cons (pv 7) pa_nil))))) (pss_cons (ps_setLc (i := 5) (own := [("words", 7)]) (g := gName 7) rfl sc.nd rfl rfl (sw_true rfl rfl rfl (by decide +kernel)) (pi_list (pv 2)) (blkOk_by (N := ["text", "rows", "filled", "notes", "ties", "homes", "number", "words"]) (sc := defScope s_read) (by decide +kernel)) (fun _ _ _ _ _ => (pg_name (i := 7) sc.nd rfl (by first | exact Or.inl rfl | exact Or.inr rfl))) (fun _ _ _ _ _ => (pts_one (pt_cmpR op_eq (pe_ix (r := rIxL K) ix_list (pv 7) pe_int (fun _ _ => rfl)) pe_str (nomark _)))) (fun _ _ _ _ _ => (by exact (pe_tup (pa_cons (pe_ix (r := rIxL K) ix_list (pv 7) pe_int (fun _ _ => rfl)) (pa_cons (pe_ix (r := rIxL K) ix_list (pv 7) pe_int (fun _ _ => rfl)) pa_nil)))))) (pss_cons (ps_ret (pe_tup (pa_cons (pe_callTy (r := rTupOf K) cr_tup (by rfl) T.b_tuple (by decide +kernel) (pa_cons (pv 3) pa_nil)) (pa_cons (pe_callTy (r := rTupOf K) cr_tup (by rfl) T.b_tuple (by decide +kernel) (pa_cons (pv 4) pa_nil)) (pa_cons (pe_ifExp (pt_truK (K := K) rfl (pv 5)) (pe_ix (r := rIxL K) ix_list (pv 5) pe_int (fun _ _ => rfl)) pe_non) pa_nil))))) pss_nil))))))), ?_⟩
  refine fin_X h fun ds r hp => ?_
  obtain ⟨p0, x, rfl, hm, rfl⟩ := hp
  refine ⟨_, inferInstance, mb_read p0, x, ?_, fin_some hm, rfl⟩
  show EvS K ⟨fun cls d _ H => E cls d H, [.un, .un, .un, .un, .un, .un, .un, .un]⟩ _ [.dat (enc (p0 : Str)), .un, .un, .un, .un, .un, .un, .un] noEnd noEnd (mb_read p0)
  exact (by exact (es_setXF (s := (.lst (.lst .dat))) (ex_call (f := fun p_437 => m_text_words p_437) (ea_1 (em_as (fun (k_436 : Str) => (An.of k_436)) (fun _ => rfl) (em_var rfl))) (fun _ => rfl) fun b r h => ⟨b, r, rfl, h, rfl⟩) (.un (.same (.same (.same (.same (.same (.same (.same .nil)))))))) fun rows_435 => (by exact (es_frz (i := 1) rfl (es_seq (mid := (fun (t_439 : Unit) => [.dat (enc (p0 : Str)), .dat (enc (rows_435 : (List (List Str)))), .un, .un, .un, .un, .un, .un])) (es_for (inv := (fun (t_439 : Unit) => [.dat (enc (p0 : Str)), .dat (enc (rows_435 : (List (List Str)))), .un, .un, .un, .un, .un, .un])) (t0 := ()) (sd1 := fun (t_439 : Unit) (a_440 : (Int × (List Str))) => [.dat (enc (p0 : Str)), .dat (enc (rows_435 : (List (List Str)))), .un, .un, .un, .un, .dat (enc (a_440.1 : Int)), .dat (enc (a_440.2 : (List Str)))]) (body := (fun (t_439 : Unit) (a_440 : (Int × (List Str))) => ((andThen (Mn.bnd (Mn.bnd (Mn.pur a_440.2) fun x_441 => Mn.pur (!List.isEmpty x_441)) fun b_442 => cnd b_442 (xbnd (Mn.bnd (Mn.bnd (Mn.pur a_440.2) fun x_444 => Mn.bnd (Mn.pur a_440.1) fun y_445 => Mn.pur (x_444, y_445)) fun p_446 => lift (m_need_row p_446.1 p_446.2)) fun u_447 => (Mn.pur (.nx ()))) (Mn.pur (.nx ())) : Option (Fl (Unit) (Unit) (Xr (T3 (Tl (T4 Str Str Int Int)) (Tl (T6 Str Str Str (Tl Int) Int Int)) (Option (Str × Str)))))) fun t_443 => (Mn.pur (.nx ()))) : Option (Fl (Unit) (Unit) (Xr (T3 (Tl (T4 Str Str Int Int)) (Tl (T6 Str Str Str (Tl Int) Int Int)) (Option (Str × Str)))))))) (ei_enum (ea_1 (em_var rfl))) (.same (.same (.same (.same (.same (.same (.same (.same .nil)))))))) (fun _ _ => eg_pair) fun t_439 a_440 => (by exact (es_seq (mid := (fun (t_443 : Unit) => [.dat (enc (p0 : Str)), .dat (enc (rows_435 : (List (List Str)))), .un, .un, .un, .un, .dat (enc (a_440.1 : Int)), .dat (enc (a_440.2 : (List Str)))])) (es_if (eb_truL (em_var rfl)) (by exact (es_dropX (ex_call (f := fun p_446 => m_need_row p_446.1 p_446.2) (ea_cons (em_var rfl) (ea_1 (em_var rfl))) (fun _ => rfl) fun b r h => ⟨b.1, b.2, r, rfl, h, rfl⟩) (.un (.un (.same (.same (.same (.same (.un (.un .nil)))))))) fun u_447 => (by exact es_next (.same (.same (.same (.same (.same (.same (.same (.same .nil))))))))))) (by exact es_next (.same (.same (.same (.same (.same (.same (.same (.same .nil)))))))))) fun t_443 => (by exact es_next (.same (.same (.same (.same (.same (.same (.un (.un .nil)))))))))))) fun t_439 => (by exact (es_set (em_ofF (ef_lc (vs := [7]) (is := [7]) (sd1 := fun (a_450 : (List Str)) => [.dat (enc (p0 : Str)), .dat (enc (rows_435 : (List (List Str)))), .un, .un, .un, .un, .un, .dat (enc (a_450 : (List Str)))]) (ei_list (em_var rfl)) (fun _ => eg_name) (by decide) (fun a_450 => (eb_truL (em_var rfl))) (fun a_450 => (em_var rfl)) (fun a_450 => (.same (.same (.same (.same (.same (.same (.same (.un .nil))))))))) (noOwn_by rfl))) fun filled_448 => (by exact (es_set (em_ofF (ef_lc (vs := [7]) (is := [7]) (sd1 := fun (a_455 : (List Str)) => [.dat (enc (p0 : Str)), .dat (enc (rows_435 : (List (List Str)))), .dat (enc (filled_448 : (List (List Str)))), .un, .un, .un, .un, .dat (enc (a_455 : (List Str)))]) (ei_list (em_var rfl)) (fun _ => eg_name) (by decide) (fun a_455 => (eb_T (em_op (em_op (em_var rfl) em_int fun _ _ => om_ixL) em_str fun _ _ => om_eqS))) (fun a_455 => (em_call (dvs := []) (dds := []) (f := fun p_456 => m_told_note p_456) (ea_1 (em_var rfl)) (fun _ => .nil) (fun _ => rfl) fun b r h => ⟨b, r, rfl, h, rfl⟩)) (fun a_455 => (.same (.same (.same (.same (.same (.same (.same (.un .nil))))))))) (noOwn_by rfl))) fun notes_453 => (by exact (es_set (em_ofF (ef_lc (vs := [7]) (is := [7]) (sd1 := fun (a_464 : (List Str)) => [.dat (enc (p0 : Str)), .dat (enc (rows_435 : (List (List Str)))), .dat (enc (filled_448 : (List (List Str)))), .dat (enc (notes_453 : (List (T4 Str Str Int Int)))), .un, .un, .un, .dat (enc (a_464 : (List Str)))]) (ei_list (em_var rfl)) (fun _ => eg_name) (by decide) (fun a_464 => (eb_T (em_op (em_op (em_var rfl) em_int fun _ _ => om_ixL) (em_c k_TIE_WORDS) fun _ _ => om_inT))) (fun a_464 => (em_call (dvs := []) (dds := []) (f := fun p_465 => m_told_tie p_465) (ea_1 (em_var rfl)) (fun _ => .nil) (fun _ => rfl) fun b r h => ⟨b, r, rfl, h, rfl⟩)) (fun a_464 => (.same (.same (.same (.same (.same (.same (.same (.un .nil))))))))) (noOwn_by rfl))) fun ties_462 => (by exact (es_set (em_ofF (ef_lc (vs := [7]) (is := [7]) (sd1 := fun (a_473 : (List Str)) => [.dat (enc (p0 : Str)), .dat (enc (rows_435 : (List (List Str)))), .dat (enc (filled_448 : (List (List Str)))), .dat (enc (notes_453 : (List (T4 Str Str Int Int)))), .dat (enc (ties_462 : (List (T6 Str Str Str (Tl Int) Int Int)))), .un, .un, .dat (enc (a_473 : (List Str)))]) (ei_list (em_var rfl)) (fun _ => eg_name) (by decide) (fun a_473 => (eb_T (em_op (em_op (em_var rfl) em_int fun _ _ => om_ixL) em_str fun _ _ => om_eqS))) (fun a_473 => (em_tup2 (em_op (em_var rfl) em_int fun _ _ => om_ixL) (em_op (em_var rfl) em_int fun _ _ => om_ixL))) (fun a_473 => (.same (.same (.same (.same (.same (.same (.same (.un .nil))))))))) (noOwn_by rfl))) fun homes_471 => (by exact (es_retOS (em_tupN (fun t_498 => (⟨t_498.1, t_498.2.1, t_498.2.2⟩ : (T3 (Tl (T4 Str Str Int Int)) (Tl (T6 Str Str Str (Tl Int) Int Int)) (Option (Str × Str))))) (ea_cons (em_tupL (em_var rfl)) (ea_cons (em_tupL (em_var rfl)) (ea_1 (em_if (eb_truL (em_var rfl)) (em_as (fun (k_491 : (Str × Str)) => (some k_491 : (Option (Str × Str)))) (fun _ => rfl) (em_op (em_var rfl) em_int fun _ _ => om_ixL)) (em_as (fun (k_492 : Unit) => (none : (Option (Str × Str)))) (fun _ => rfl) em_non))))) (fun _ => rfl) (n := 3) (fun _ => rfl)))))))))))))))))
theorem ok_note_row (T : Tx P w K mg) {f : Addr} {fd : FuncData} (F : Fun K "note_row" "note_row" s_note_row f fd) : FnOk P w K mg base CX0 1 f fd ["note"] (spP K 1 .dat pr_note_row) := by
  have sc := sc_note_row
  refine F.ok sc (fun vs H Q E h => by obtain ⟨_, _, _, _, hl, _⟩ := h; exact hl) (fun cdv A outer s H vs Q E hr h => ?_)
  refine ⟨_, (pss_cons (ps_asg (pv 0) (pg_tup rfl (pgs_cons (pg_name (i := 1) sc.nd rfl (by first | exact Or.inl rfl | exact Or.inr rfl)) (pgs_cons (pg_name (i := 2) sc.nd rfl (by first | exact Or.inl rfl | exact Or.inr rfl)) (pgs_cons (pg_name (i := 3) sc.nd rfl (by first | exact Or.inl rfl | exact Or.inr rfl)) (pgs_cons (pg_name (i := 4) sc.nd rfl (by first | exact Or.inl rfl | exact Or.inr rfl)) pgs_nil)))))) (pss_cons (ps_ret (pe_joined (.cons pe_str (.cons (pe_fmt (pv 1)) (.cons pe_str (.cons (pe_fmt (pv 2)) (.cons pe_str (.cons (pe_fmt (pv 3)) (.cons pe_str (.cons (pe_fmt (pv 4)) .nil)))))))))) pss_nil)), ?_⟩
  refine fin_pure h fun ds r hp => ?_
  obtain ⟨p0, x, rfl, hm, rfl⟩ := hp
  refine ⟨_, inferInstance, mb_note_row p0, x, W0, ?_, fin_some hm, rfl⟩
  show EvS K W0 _ [.dat (enc (p0 : (T4 Str Str Int Int))), .un, .un, .un, .un] noEnd noEnd (mb_note_row p0)
  exact (by exact (es_tgt (em_var rfl) (fun _ => eg_t4) fun p_500 => (by exact (es_retS (em_js (.cons em_str (.cons (em_fmtS (em_var rfl)) (.cons em_str (.cons (em_fmtS (em_var rfl)) (.cons em_str (.cons (em_fmtI (em_var rfl)) (.cons em_str (.cons (em_fmtI (em_var rfl)) .nil)))))))))))))
theorem ok_tie_row (T : Tx P w K mg) {f : Addr} {fd : FuncData} (F : Fun K "tie_row" "tie_row" s_tie_row f fd) : FnOk P w K mg base CX0 4 f fd ["tie"] (spP K 1 .dat pr_tie_row) := by
  obtain ⟨f_ratio_text, fd_ratio_text, F_ratio_text, mg_ratio_text, b_ratio_text⟩ := T.d_ratio_text
  have G_ratio_text := ok_ratio_text (P := P) (w := w) (base := base) T F_ratio_text
  have sc := sc_tie_row
  refine F.ok sc (fun vs H Q E h => by obtain ⟨_, _, _, _, hl, _⟩ := h; exact hl) (fun cdv A outer s H vs Q E hr h => ?_)
  refine ⟨_, (pss_cons (ps_asg (pv 0) (pg_tup rfl (pgs_cons (pg_name (i := 2) sc.nd rfl (by first | exact Or.inl rfl | exact Or.inr rfl)) (pgs_cons (pg_name (i := 3) sc.nd rfl (by first | exact Or.inl rfl | exact Or.inr rfl)) (pgs_cons (pg_name (i := 4) sc.nd rfl (by first | exact Or.inl rfl | exact Or.inr rfl)) (pgs_cons (pg_name (i := 5) sc.nd rfl (by first | exact Or.inl rfl | exact Or.inr rfl)) (pgs_cons (pg_name (i := 6) sc.nd rfl (by first | exact Or.inl rfl | exact Or.inr rfl)) (pgs_cons (pg_name (i := 7) sc.nd rfl (by first | exact Or.inl rfl | exact Or.inr rfl)) pgs_nil)))))))) (pss_cons (ps_set (i := 1) sc.nd rfl (by first | exact Or.inl rfl | exact Or.inr rfl) (pe_lst (pa_cons (pv 2) (pa_cons (pv 3) (pa_cons (pv 4) pa_nil))))) (pss_cons (ps_if (pt_cmpR op_ne (pv 2) pe_str (nomark _)) (pss_cons (ps_expr (pe_bm PySem.F.plainAttrs_list PySem.F.slot_list_append PySem.F.type_list_append mt_append (pv 1) (pa_cons (pe_call G_ratio_text (hr.mono (by decide)) (by rfl) mg_ratio_text F_ratio_text.kp b_ratio_text .nil pass0 (pa_cons (pv 5) pa_nil)) pa_nil))) pss_nil) pss_nil) (pss_cons (ps_if (PW.pt (pw_or (pt_cmpR op_ne (pv 6) (pe_glob (v := .int 50) rfl (T.m_BEND_UNWRITTEN).choose_spec ⟨_, rfl⟩) (nomark _)) (pw_or1 (pt_cmpR op_ne (pv 7) (pe_glob (v := .int 1) rfl (T.m_WEIGHT_UNWRITTEN).choose_spec ⟨_, rfl⟩) (nomark _))))) (pss_cons (ps_expr (pe_bm PySem.F.plainAttrs_list PySem.F.slot_list_append PySem.F.type_list_append mt_append (pv 1) (pa_cons (pe_joined (.cons pe_str (.cons (pe_fmt (pv 6)) .nil))) pa_nil))) pss_nil) pss_nil) (pss_cons (ps_if (pt_cmpR op_ne (pv 7) (pe_glob (v := .int 1) rfl (T.m_WEIGHT_UNWRITTEN).choose_spec ⟨_, rfl⟩) (nomark _)) (pss_cons (ps_expr (pe_bm PySem.F.plainAttrs_list PySem.F.slot_list_append PySem.F.type_list_append mt_append (pv 1) (pa_cons (pe_joined (.cons pe_str (.cons (pe_fmt (pv 7)) .nil))) pa_nil))) pss_nil) pss_nil) (pss_cons (ps_ret (show PE _ _ (tBM K "str" (rJoin K) _ _) from (pe_bm PySem.F.plainAttrs_str PySem.F.slot_str_join PySem.F.type_str_join mt_joinU pe_str (pa_cons (pv 1) pa_nil)))) pss_nil)))))), ?_⟩
  refine fin_pure h fun ds r hp => ?_
  obtain ⟨p0, x, rfl, hm, rfl⟩ := hp
  refine ⟨_, inferInstance, mb_tie_row p0, x, W0, ?_, fin_some hm, rfl⟩
  show EvS K W0 _ [.dat (enc (p0 : (T6 Str Str Str (Tl Int) Int Int))), .un, .un, .un, .un, .un, .un, .un] noEnd noEnd (mb_tie_row p0)
  exact (by exact (es_tgt (em_var rfl) (fun _ => eg_t6) fun p_506 => (by exact (es_setF (ef_lst (el_cons (em_var rfl) (el_cons (em_var rfl) (el_cons (em_var rfl) el_nil)))) fun words_507 => (by exact (es_seq (mid := (fun (t_518 : (List Str)) => [.dat (enc (p0 : (T6 Str Str Str (Tl Int) Int Int))), .own (.lst .dat) (enc (t_518 : (List Str))), .dat (enc (p_506.a : Str)), .dat (enc (p_506.b : Str)), .dat (enc (p_506.c : Str)), .dat (enc (p_506.d : (Tl Int))), .dat (enc (p_506.e : Int)), .dat (enc (p_506.f : Int))])) (es_if (eb_T (em_op (em_var rfl) em_str fun _ _ => om_neS)) (by exact (es_appP (xs := words_507) rfl (em_call (dvs := []) (dds := []) (f := fun p_520 => m_ratio_text p_520) (ea_1 (em_var rfl)) (fun _ => .nil) (fun _ => rfl) fun b r h => ⟨b, r, rfl, h, rfl⟩) fun zs_521 => (by exact es_next (.same (.same (.same (.same (.same (.same (.same (.same .nil))))))))))) (by exact es_next (.same (.same (.same (.same (.same (.same (.same (.same .nil)))))))))) fun t_518 => (by exact (es_seq (mid := (fun (t_528 : (List Str)) => [.dat (enc (p0 : (T6 Str Str Str (Tl Int) Int Int))), .own (.lst .dat) (enc (t_528 : (List Str))), .dat (enc (p_506.a : Str)), .dat (enc (p_506.b : Str)), .dat (enc (p_506.c : Str)), .dat (enc (p_506.d : (Tl Int))), .dat (enc (p_506.e : Int)), .dat (enc (p_506.f : Int))])) (es_if (eb_or (eb_T (em_op (em_var rfl) em_int fun _ _ => om_neI)) (eb_T (em_op (em_var rfl) em_int fun _ _ => om_neI))) (by exact (es_appP (xs := t_518) rfl (em_js (.cons em_str (.cons (em_fmtI (em_var rfl)) .nil))) fun zs_531 => (by exact es_next (.same (.same (.same (.same (.same (.same (.same (.same .nil))))))))))) (by exact es_next (.same (.same (.same (.same (.same (.same (.same (.same .nil)))))))))) fun t_528 => (by exact (es_seq (mid := (fun (t_535 : (List Str)) => [.dat (enc (p0 : (T6 Str Str Str (Tl Int) Int Int))), .own (.lst .dat) (enc (t_535 : (List Str))), .dat (enc (p_506.a : Str)), .dat (enc (p_506.b : Str)), .dat (enc (p_506.c : Str)), .dat (enc (p_506.d : (Tl Int))), .dat (enc (p_506.e : Int)), .dat (enc (p_506.f : Int))])) (es_if (eb_T (em_op (em_var rfl) em_int fun _ _ => om_neI)) (by exact (es_appP (xs := t_528) rfl (em_js (.cons em_str (.cons (em_fmtI (em_var rfl)) .nil))) fun zs_538 => (by exact es_next (.same (.same (.same (.same (.same (.same (.same (.same .nil))))))))))) (by exact es_next (.same (.same (.same (.same (.same (.same (.same (.same .nil)))))))))) fun t_535 => (by exact (es_retS (em_borrow (em_join (em_var rfl)) (.same rfl (.fz rfl (.same rfl (.same rfl (.same rfl (.same rfl (.same rfl (.same rfl .nil)))))))))))))))))))))
theorem ok_written (T : Tx P w K mg) {f : Addr} {fd : FuncData} (F : Fun K "written" "written" s_written f fd) : FnOk P w K mg base CX0 5 f fd ["song"] (spP K 1 .dat pr_written) := by
  obtain ⟨f_note_row, fd_note_row, F_note_row, mg_note_row, b_note_row⟩ := T.d_note_row
  have G_note_row := ok_note_row (P := P) (w := w) (base := base) T F_note_row
  obtain ⟨f_tie_row, fd_tie_row, F_tie_row, mg_tie_row, b_tie_row⟩ := T.d_tie_row
  have G_tie_row := ok_tie_row (P := P) (w := w) (base := base) T F_tie_row
  have sc := sc_written
  refine F.ok sc (fun vs H Q E h => by obtain ⟨_, _, _, _, hl, _⟩ := h; exact hl) (fun cdv A outer s H vs Q E hr h => ?_)
  refine ⟨_, (pss_cons (ps_asg (pv 0) (pg_tup rfl (pgs_cons (pg_name (i := 2) sc.nd rfl (by first | exact Or.inl rfl | exact Or.inr rfl)) (pgs_cons (pg_name (i := 3) sc.nd rfl (by first | exact Or.inl rfl | exact Or.inr rfl)) (pgs_cons (pg_name (i := 4) sc.nd rfl (by first | exact Or.inl rfl | exact Or.inr rfl)) pgs_nil))))) (pss_cons (ps_set (i := 1) sc.nd rfl (by first | exact Or.inl rfl | exact Or.inr rfl) (pe_op op_cat (pe_lc (own := [("note", 5)]) (g := gName 5) rfl sc.nd (pi_tup (pv 2)) (blkOk_by (N := ["song", "rows", "notes", "ties", "home", "note", "tie"]) (sc := defScope s_written) (by decide +kernel)) (fun _ _ _ _ _ => (pg_name (i := 5) sc.nd rfl (by first | exact Or.inl rfl | exact Or.inr rfl))) (fun _ _ _ _ _ => pts_nil) (fun _ _ _ _ _ => (by exact (pe_call G_note_row (hr.mono (by decide)) (by rfl) mg_note_row F_note_row.kp b_note_row .nil pass0 (pa_cons (pv 5) pa_nil))))) (pe_lc (own := [("tie", 6)]) (g := gName 6) rfl sc.nd (pi_tup (pv 3)) (blkOk_by (N := ["song", "rows", "notes", "ties", "home", "note", "tie"]) (sc := defScope s_written) (by decide +kernel)) (fun _ _ _ _ _ => (pg_name (i := 6) sc.nd rfl (by first | exact Or.inl rfl | exact Or.inr rfl))) (fun _ _ _ _ _ => pts_nil) (fun _ _ _ _ _ => (by exact (pe_call G_tie_row (hr.mono (by decide)) (by rfl) mg_tie_row F_tie_row.kp b_tie_row .nil pass0 (pa_cons (pv 6) pa_nil))))))) (pss_cons (ps_if (pt_cmpR or_notN (pv 4) pe_non (nomark _)) (pss_cons (ps_expr (pe_bm PySem.F.plainAttrs_list PySem.F.slot_list_append PySem.F.type_list_append mt_append (pv 1) (pa_cons (pe_joined (.cons pe_str (.cons (pe_fmt (pe_ix (r := rIxT K) ix_tup (pv 4) pe_int (fun _ _ => rfl))) (.cons pe_str (.cons (pe_fmt (pe_ix (r := rIxT K) ix_tup (pv 4) pe_int (fun _ _ => rfl))) .nil))))) pa_nil))) pss_nil) pss_nil) (pss_cons (ps_ret (show PE _ _ (tBM K "str" (rJoin K) _ _) from (pe_bm PySem.F.plainAttrs_str PySem.F.slot_str_join PySem.F.type_str_join mt_joinU pe_str (pa_cons (pv 1) pa_nil)))) pss_nil)))), ?_⟩
  refine fin_pure h fun ds r hp => ?_
  obtain ⟨p0, x, rfl, hm, rfl⟩ := hp
  refine ⟨_, inferInstance, mb_written p0, x, W0, ?_, fin_some hm, rfl⟩
  show EvS K W0 _ [.dat (enc (p0 : (T3 (Tl (T4 Str Str Int Int)) (Tl (T6 Str Str Str (Tl Int) Int Int)) (Option (Str × Str))))), .un, .un, .un, .un, .un, .un] noEnd noEnd (mb_written p0)
  exact (by exact (es_tgt (em_var rfl) (fun _ => eg_t3) fun p_541 => (by exact (es_setF (ef_cat (em_ofF (ef_lc (vs := [5]) (is := [5]) (sd1 := fun (a_544 : (T4 Str Str Int Int)) => [.dat (enc (p0 : (T3 (Tl (T4 Str Str Int Int)) (Tl (T6 Str Str Str (Tl Int) Int Int)) (Option (Str × Str))))), .un, .dat (enc (p_541.a : (Tl (T4 Str Str Int Int)))), .dat (enc (p_541.b : (Tl (T6 Str Str Str (Tl Int) Int Int)))), .dat (enc (p_541.c : (Option (Str × Str)))), .dat (enc (a_544 : (T4 Str Str Int Int))), .un]) (ei_tup (em_var rfl)) (fun _ => eg_name) (by decide) (fun a_544 => eb_yes) (fun a_544 => (em_call (dvs := []) (dds := []) (f := fun p_545 => m_note_row p_545) (ea_1 (em_var rfl)) (fun _ => .nil) (fun _ => rfl) fun b r h => ⟨b, r, rfl, h, rfl⟩)) (fun a_544 => (.same (.same (.same (.same (.same (.un (.same .nil)))))))) (noOwn_by rfl))) (em_ofF (ef_lc (vs := [6]) (is := [6]) (sd1 := fun (a_548 : (T6 Str Str Str (Tl Int) Int Int)) => [.dat (enc (p0 : (T3 (Tl (T4 Str Str Int Int)) (Tl (T6 Str Str Str (Tl Int) Int Int)) (Option (Str × Str))))), .un, .dat (enc (p_541.a : (Tl (T4 Str Str Int Int)))), .dat (enc (p_541.b : (Tl (T6 Str Str Str (Tl Int) Int Int)))), .dat (enc (p_541.c : (Option (Str × Str)))), .un, .dat (enc (a_548 : (T6 Str Str Str (Tl Int) Int Int)))]) (ei_tup (em_var rfl)) (fun _ => eg_name) (by decide) (fun a_548 => eb_yes) (fun a_548 => (em_call (dvs := []) (dds := []) (f := fun p_549 => m_tie_row p_549) (ea_1 (em_var rfl)) (fun _ => .nil) (fun _ => rfl) fun b r h => ⟨b, r, rfl, h, rfl⟩)) (fun a_548 => (.same (.same (.same (.same (.same (.same (.un .nil)))))))) (noOwn_by rfl)))) fun rows_542 => (by exact (es_seq (mid := (fun (t_555 : (List Str)) => [.dat (enc (p0 : (T3 (Tl (T4 Str Str Int Int)) (Tl (T6 Str Str Str (Tl Int) Int Int)) (Option (Str × Str))))), .own (.lst .dat) (enc (t_555 : (List Str))), .dat (enc (p_541.a : (Tl (T4 Str Str Int Int)))), .dat (enc (p_541.b : (Tl (T6 Str Str Str (Tl Int) Int Int)))), .dat (enc (p_541.c : (Option (Str × Str)))), .un, .un])) (es_if (eb_T (em_notN (em_var rfl) )) (by exact (es_appP (xs := rows_542) rfl (em_js (.cons em_str (.cons (em_fmtS (em_fldT (i := 0) (fun (x_558 : (Str × Str)) => x_558.1) (em_dec id dec_opt (em_var rfl)) (fun _ => ⟨_, rfl, rfl⟩))) (.cons em_str (.cons (em_fmtS (em_fldT (i := 1) (fun (x_561 : (Str × Str)) => x_561.2) (em_dec id dec_opt (em_var rfl)) (fun _ => ⟨_, rfl, rfl⟩))) .nil))))) fun zs_563 => (by exact es_next (.same (.same (.same (.same (.same (.same (.same .nil)))))))))) (by exact es_next (.same (.same (.same (.same (.same (.same (.same .nil))))))))) fun t_555 => (by exact (es_retS (em_borrow (em_join (em_var rfl)) (.same rfl (.fz rfl (.same rfl (.same rfl (.same rfl (.same rfl (.same rfl .nil))))))))))))))))
theorem ok__law_next (T : Tx P w K mg) {f : Addr} {fd : FuncData} (F : Fun K "_law_next" "_law_next" s__law_next f fd) : FnOk P w K mg base CX0 1 f fd ["_law_state", "_law_many"] (spS K 2 .dat pr_next) := by
  have sc := sc__law_next
  refine F.ok sc (fun vs H Q E h => by obtain ⟨_, _, _, _, _, _, _, _, hl, _⟩ := h; exact hl) (fun cdv A outer s H vs Q E hr h => ?_)
  have hu := hu_of hr
  exact ⟨tNx K, (pss_cons (ps_dput hu (pv 0) pe_str (pe_op op_add (pe_dget hu (pv 0) pe_str (fun _ _ => rfl)) pe_int) rfl) (pss_cons (ps_set (i := 2) sc.nd rfl (by first | exact Or.inl rfl | exact Or.inr rfl) (pe_dget hu (pv 0) pe_str (fun _ _ => rfl))) (pss_cons (ps_set (i := 3) sc.nd rfl (by first | exact Or.inl rfl | exact Or.inr rfl) (pe_dget hu (pv 0) pe_str (fun _ _ => rfl))) (pss_cons (ps_set (i := 4) sc.nd rfl (by first | exact Or.inl rfl | exact Or.inr rfl) (pe_op op_add (pe_op op_mulU (pe_op op_mulU pe_int (pv 2)) (pv 2)) (pe_op op_mulU pe_int (pv 2)))) (pss_cons (ps_if (pt_cmpR (op_neD (room64 hr)) (pv 3) (pe_lst pa_nil) (nomark _)) (pss_cons (ps_set (i := 4) sc.nd rfl (by first | exact Or.inl rfl | exact Or.inr rfl) (pe_op op_add (pv 4) (pe_op op_mulU (pe_op op_mod (pe_ix ix_list (pv 3) (pe_op op_mod (pv 2) (pe_callB (r := ON.rLen K) cr_lenU (by rfl) T.b_len (by decide +kernel) (pa_cons (pv 3) pa_nil))) (fun _ _ => rfl)) pe_int) (pe_op op_add pe_int (pe_op op_fdivW (pv 2) (pe_callB (r := ON.rLen K) cr_lenU (by rfl) T.b_len (by decide +kernel) (pa_cons (pv 3) pa_nil))))))) pss_nil) pss_nil) (pss_cons (ps_ret (pe_op op_mod (pe_op op_fdivW (pe_op op_mod (pe_op op_mulU (pv 4) pe_int) pe_int) pe_int) (pv 1))) pss_nil)))))), run_next h⟩
theorem ok__law_begun (T : Tx P w K mg) {f : Addr} {fd : FuncData} (F : Fun K "_law_begun" "_law_begun" s__law_begun f fd) : FnOk P w K mg base CX0 2 f fd ["_law_cells"] (spB K okB) := by
  obtain ⟨f__law_next, fd__law_next, F__law_next, mg__law_next, b__law_next⟩ := T.d__law_next
  have G__law_next := ok__law_next (P := P) (w := w) (base := base) T F__law_next
  have sc := sc__law_begun
  refine F.ok sc (fun vs H Q E h => by obtain ⟨_, _, _, rfl, _⟩ := h; rfl) (fun cdv A outer s H vs Q E hr h => ?_)
  have hu := hu_of hr
  refine ⟨tBg _ _ _ 2 3, (pss_cons (ps_set (i := 1) sc.nd rfl (by first | exact Or.inl rfl | exact Or.inr rfl) (pe_disp (pps_cons pe_str (pv 0) (pps_cons pe_str pe_int pps_nil)) rfl rfl (by decide) (by decide))) (pss_cons (ps_set (i := 2) sc.nd rfl (by first | exact Or.inl rfl | exact Or.inr rfl) (show PE _ _ (tBM K "str" (rJoin K) _ _) from (pe_bm PySem.F.plainAttrs_str PySem.F.slot_str_join PySem.F.type_str_join mt_joinU pe_str (pa_cons (pe_lc (own := [("_law_k", 5)]) (g := gName 5) rfl sc.nd (pi_range1 rfl T.b_range (pa_cons (pe_call G__law_next (hr.mono (by decide)) (by rfl) mg__law_next F__law_next.kp b__law_next .nil pass0 (pa_cons (pv 1) (pa_cons pe_int pa_nil))) pa_nil)) (blkOk_by (N := ["_law_cells", "_law_state", "_law_rest", "_law_at", "_law_sign", "_law_k"]) (sc := defScope s__law_begun) (by decide +kernel)) (fun _ _ _ _ _ => (pg_name (i := 5) sc.nd rfl (by first | exact Or.inl rfl | exact Or.inr rfl))) (fun _ _ _ _ _ => pts_nil) (fun _ _ _ _ _ => (by exact (pe_ix ix_str pe_str (pe_call G__law_next (hr.mono (by decide)) (by rfl) mg__law_next F__law_next.kp b__law_next .nil pass0 (pa_cons (pv 1) (pa_cons pe_int pa_nil))) (fun _ _ => rfl))))) pa_nil)))) (pss_cons (ps_set (i := 3) sc.nd rfl (by first | exact Or.inl rfl | exact Or.inr rfl) (pe_call G__law_next (hr.mono (by decide)) (by rfl) mg__law_next F__law_next.kp b__law_next .nil pass0 (pa_cons (pv 1) (pa_cons (pe_op op_add (pe_callB (r := ON.rLen K) cr_lenU (by rfl) T.b_len (by decide +kernel) (pa_cons (pv 2) pa_nil)) pe_int) pa_nil)))) (pss_cons (ps_dput hu (pv 1) pe_str (pe_lc (own := [("_law_sign", 4)]) (g := gName 4) rfl sc.nd (pi_str pe_str) (blkOk_by (N := ["_law_cells", "_law_state", "_law_rest", "_law_at", "_law_sign", "_law_k"]) (sc := defScope s__law_begun) (by decide +kernel)) (fun _ _ _ _ _ => (pg_name (i := 4) sc.nd rfl (by first | exact Or.inl rfl | exact Or.inr rfl))) (fun _ _ _ _ _ => pts_nil) (fun _ _ _ _ _ => (by exact (pe_op op_add_str (pe_op op_add_str (pe_slice sl_str (pv 2) po_none (po_some (pv 3))) (pv 4)) (pe_slice sl_str (pv 2) (po_some (pv 3)) po_none))))) rfl) (pss_cons (ps_ret (pv 1)) pss_nil))))), run_begun (n := 4) rfl (by decide) (by decide) (x2 := bg2) (x3 := bg3) (x4 := bg4) (fun c => ?_) (fun c r => ?_) (fun c r a => ?_) bg_tot h⟩
  · exact (show EvM K _ (sdA 4 c) (bg2 c) from (em_join (em_ofF (ef_lc (vs := [5]) (is := [5]) (sd1 := fun (a_568 : Int) => [.un, .sr (.run c none), .un, .un, .un, .dat (enc (a_568 : Int))]) (ei_rng1 (ea_1 (em_draw (i := 1) (q := (.run c none)) (f := fun p_566 => m__law_next c none p_566) rfl (ea_st rfl (ea_dt1 em_int)) (fun _ => rfl) fun b k r k2 h => ⟨_, _, b, r, rfl, rfl, h, rfl⟩))) (fun _ => eg_name) (by decide) (fun a_568 => eb_yes) (fun a_568 => (em_op em_str (em_draw (i := 1) (q := (.run c none)) (f := fun p_569 => m__law_next c none p_569) rfl (ea_st rfl (ea_dt1 em_int)) (fun _ => rfl) fun b k r k2 h => ⟨_, _, b, r, rfl, rfl, h, rfl⟩) fun _ _ => om_ixS)) (fun a_568 => (.same (.same (.same (.same (.same (.un .nil))))))) (noOwn_by rfl)))))
  · exact (show EvM K _ ((sdA 4 c).set 2 (.dat (enc r))) (bg3 c r) from (em_draw (i := 1) (q := (.run c none)) (f := fun p_575 => m__law_next c none p_575) rfl (ea_st rfl (ea_dt1 (em_op (em_lenS (em_var rfl)) em_int fun _ _ => om_I0))) (fun _ => rfl) fun b k r k2 h => ⟨_, _, b, r, rfl, rfl, h, rfl⟩))
  · exact (show EvF K (.lst .dat) _ (((sdA 4 c).set 2 (.dat (enc r))).set 3 (.dat (enc a))) (bg4 c r a) from (ef_lc (vs := [4]) (is := [4]) (sd1 := fun (a_580 : Str) => [.un, .sr (.run c none), .dat (enc (r : Str)), .dat (enc (a : Int)), .dat (enc (a_580 : Str)), .un]) (ei_str em_str) (fun _ => eg_name) (by decide) (fun a_580 => eb_yes) (fun a_580 => (em_op (em_op (em_sliceS (em_var rfl) eo_none (eo_some (em_var rfl))) (em_var rfl) fun _ _ => om_catS) (em_sliceS (em_var rfl) (eo_some (em_var rfl)) eo_none) fun _ _ => om_catS)) (fun a_580 => (.same (.same (.same (.same (.un (.same .nil))))))) (noOwn_by rfl)))
theorem ok__law_part (T : Tx P w K mg) {f : Addr} {fd : FuncData} (F : Fun K "_law_part" "_law_part" s__law_part f fd) : FnOk P w K mg base CX0 2 f fd ["_law_state"] (spS K 1 .dat pr__law_part) := by
  obtain ⟨f__law_next, fd__law_next, F__law_next, mg__law_next, b__law_next⟩ := T.d__law_next
  have G__law_next := ok__law_next (P := P) (w := w) (base := base) T F__law_next
  have sc := sc__law_part
  refine F.ok sc (fun vs H Q E h => by obtain ⟨_, _, _, _, _, _, _, _, hl, _⟩ := h; exact hl) (fun cdv A outer s H vs Q E hr h => ?_)
  refine ⟨_, (pss_cons (ps_set (i := 1) sc.nd rfl (by first | exact Or.inl rfl | exact Or.inr rfl) pe_int) (pss_cons (ps_for PassesOwn.never rfl (pi_range1 rfl T.b_range (pa_cons (pe_call G__law_next (hr.mono (by decide)) (by rfl) mg__law_next F__law_next.kp b__law_next .nil pass0 (pa_cons (pv 0) (pa_cons pe_int pa_nil))) pa_nil)) (pg_name (i := 2) sc.nd rfl (by first | exact Or.inl rfl | exact Or.inr rfl)) (pss_cons (ps_set (i := 3) sc.nd rfl (by first | exact Or.inl rfl | exact Or.inr rfl) (pe_ix (r := rIxL K) ix_list (pe_lst (pa_cons pe_int (pa_cons pe_int (pa_cons pe_int (pa_cons pe_int pa_nil))))) (pe_call G__law_next (hr.mono (by decide)) (by rfl) mg__law_next F__law_next.kp b__law_next .nil pass0 (pa_cons (pv 0) (pa_cons pe_int pa_nil))) (fun _ _ => rfl))) (pss_cons (ps_set (i := 1) sc.nd rfl (by first | exact Or.inl rfl | exact Or.inr rfl) (pe_ifExp (pt_cmpR op_le (pe_op op_mulU (pv 1) (pv 3)) pe_int (nomark _)) (pe_op op_mulU (pv 1) (pv 3)) (pv 1))) pss_nil))) (pss_cons (ps_ret (pv 1)) pss_nil))), ?_⟩
  refine fin_draw h fun q ds k r k2 hp => ?_
  obtain ⟨cl, nm, x, rfl, rfl, hm, rfl⟩ := hp
  refine ⟨_, inferInstance, mb__law_part cl nm, x, W0, ?_, finS_some hm, rfl⟩
  show EvS K W0 _ [.sr (.run cl nm), .un, .un, .un] noEnd noEnd (mb__law_part cl nm)
  exact (by exact (es_set em_int fun found_594 => (by exact (es_seq (mid := (fun (t_597 : Int) => [.sr (.run cl nm), .dat (enc (t_597 : Int)), .un, .un])) (es_for (inv := (fun (t_597 : Int) => [.sr (.run cl nm), .dat (enc (t_597 : Int)), .un, .un])) (t0 := found_594) (sd1 := fun (t_597 : Int) (a_598 : Int) => [.sr (.run cl nm), .dat (enc (t_597 : Int)), .dat (enc (a_598 : Int)), .un]) (body := (fun (t_597 : Int) (a_598 : Int) => ((Mn.bnd (Mn.bnd (Mn.bnd (Mn.bnd (Mn.pur (2 : Int)) fun x_606 => Mn.bnd (Mn.bnd (Mn.pur (3 : Int)) fun x_604 => Mn.bnd (Mn.bnd (Mn.pur (5 : Int)) fun x_602 => Mn.bnd (Mn.bnd (Mn.pur (7 : Int)) fun x_600 => Mn.bnd (Mn.pur ([] : List Int)) fun y_601 => Mn.pur (x_600 :: y_601)) fun y_603 => Mn.pur (x_602 :: y_603)) fun y_605 => Mn.pur (x_604 :: y_605)) fun y_607 => Mn.pur (x_606 :: y_607)) fun l_608 => gd (List.length l_608 ≤ 1000) (Mn.pur l_608)) fun x_610 => Mn.bnd (Mn.bnd (Mn.pur (4 : Int)) fun p_609 => m__law_next cl nm p_609) fun y_611 => lift (atI x_610 y_611)) fun prime_599 => (Mn.bnd (Mn.bnd (Mn.bnd (Mn.bnd (Mn.pur t_597) fun x_613 => Mn.bnd (Mn.pur prime_599) fun y_614 => gd (ON.MulOk x_613 y_614) (Mn.pur (x_613 * y_614))) fun x_615 => Mn.bnd (Mn.pur (9999 : Int)) fun y_616 => Mn.pur (decide (x_615 ≤ y_616))) fun b_619 => cnd b_619 (Mn.bnd (Mn.pur t_597) fun x_617 => Mn.bnd (Mn.pur prime_599) fun y_618 => gd (ON.MulOk x_617 y_618) (Mn.pur (x_617 * y_618))) (Mn.pur t_597)) fun found_612 => (Mn.pur (.nx found_612)))) : Sm (Fl (Int) (Int) Int)))) (ei_rng1 (ea_1 (em_draw (i := 0) (q := (.run cl nm)) (f := fun p_595 => m__law_next cl nm p_595) rfl (ea_st rfl (ea_dt1 em_int)) (fun _ => rfl) fun b k r k2 h => ⟨_, _, b, r, rfl, rfl, h, rfl⟩))) (.same (.same (.same (.same .nil)))) (fun _ _ => eg_name) fun t_597 a_598 => (by exact (es_set (em_op (em_ofF (ef_lst (el_cons em_int (el_cons em_int (el_cons em_int (el_cons em_int el_nil)))))) (em_draw (i := 0) (q := (.run cl nm)) (f := fun p_609 => m__law_next cl nm p_609) rfl (ea_st rfl (ea_dt1 em_int)) (fun _ => rfl) fun b k r k2 h => ⟨_, _, b, r, rfl, rfl, h, rfl⟩) fun _ _ => om_ixL) fun prime_599 => (by exact (es_set (em_if (eb_T (em_op (em_op (em_var rfl) (em_var rfl) fun _ _ => om_mul) em_int fun _ _ => om_B0)) (em_op (em_var rfl) (em_var rfl) fun _ _ => om_mul) (em_var rfl)) fun found_612 => (by exact es_next (.same (.same (.un (.un .nil)))))))))) fun t_597 => (by exact (es_retS (em_var rfl)))))))
theorem ok__law_often (T : Tx P w K mg) {f : Addr} {fd : FuncData} (F : Fun K "_law_often" "_law_often" s__law_often f fd) : FnOk P w K mg base CX0 1 f fd ["_law_number"] (spP K 1 .dat pr__law_often) := by
  have sc := sc__law_often
  refine F.ok sc (fun vs H Q E h => by obtain ⟨_, _, _, _, hl, _⟩ := h; exact hl) (fun cdv A outer s H vs Q E hr h => ?_)
  refine ⟨_, (pss_cons (ps_set (i := 1) sc.nd rfl (by first | exact Or.inl rfl | exact Or.inr rfl) (pe_lst pa_nil)) (pss_cons (ps_for PassesOwn.never rfl (pi_tup (pe_tup (pa_cons pe_int (pa_cons pe_int (pa_cons pe_int (pa_cons pe_int pa_nil)))))) (pg_name (i := 2) sc.nd rfl (by first | exact Or.inl rfl | exact Or.inr rfl)) (pss_cons (ps_set (i := 3) sc.nd rfl (by first | exact Or.inl rfl | exact Or.inr rfl) pe_int) (pss_cons (ps_set (i := 4) sc.nd rfl (by first | exact Or.inl rfl | exact Or.inr rfl) (pv 2)) (pss_cons (ps_while PassesOwn.never (pt_cmpR op_eq (pe_op op_mod (pv 0) (pv 4)) pe_int (nomark _)) (pss_cons (ps_set (i := 3) sc.nd rfl (by first | exact Or.inl rfl | exact Or.inr rfl) (pe_op op_add (pv 3) pe_int)) (pss_cons (ps_set (i := 4) sc.nd rfl (by first | exact Or.inl rfl | exact Or.inr rfl) (pe_op op_mulU (pv 4) (pv 2))) pss_nil))) (pss_cons (ps_expr (pe_bm PySem.F.plainAttrs_list PySem.F.slot_list_append PySem.F.type_list_append mt_append (pv 1) (pa_cons (pv 3) pa_nil))) pss_nil))))) (pss_cons (ps_ret (pv 1)) pss_nil))), ?_⟩
  refine fin_pure h fun ds r hp => ?_
  obtain ⟨p0, x, rfl, hm, rfl⟩ := hp
  refine ⟨_, inferInstance, mb__law_often p0, x, W0, ?_, fin_some hm, rfl⟩
  show EvS K W0 _ [.dat (enc (p0 : Int)), .un, .un, .un, .un] noEnd noEnd (mb__law_often p0)
  exact (by exact (es_setF (ef_lst el_nil) fun found_622 => (by exact (es_seq (mid := (fun (t_641 : (List Int)) => [.dat (enc (p0 : Int)), .own (.lst .dat) (enc (t_641 : (List Int))), .un, .un, .un])) (es_for (inv := (fun (t_641 : (List Int)) => [.dat (enc (p0 : Int)), .own (.lst .dat) (enc (t_641 : (List Int))), .un, .un, .un])) (t0 := found_622) (sd1 := fun (t_641 : (List Int)) (a_642 : Int) => [.dat (enc (p0 : Int)), .own (.lst .dat) (enc (t_641 : (List Int))), .dat (enc (a_642 : Int)), .un, .un]) (body := (fun (t_641 : (List Int)) (a_642 : Int) => ((Mn.bnd (Mn.pur (0 : Int)) fun many_643 => (Mn.bnd (Mn.pur a_642) fun great_644 => (andThen (whl (fun (t_645 : Int × Int) => ((Mn.bnd (Mn.bnd (Mn.pur p0) fun x_646 => Mn.bnd (Mn.pur t_645.2) fun y_647 => gd (0 < y_647) (Mn.pur (x_646 % y_647))) fun x_648 => Mn.bnd (Mn.pur (0 : Int)) fun y_649 => Mn.pur (decide (x_648 = y_649))) : Option Bool)) (fun (t_645 : Int × Int) => ((Mn.bnd (Mn.bnd (Mn.pur t_645.1) fun x_651 => Mn.bnd (Mn.pur (1 : Int)) fun y_652 => Mn.pur (x_651 + y_652)) fun many_650 => (Mn.bnd (Mn.bnd (Mn.pur t_645.2) fun x_654 => Mn.bnd (Mn.pur a_642) fun y_655 => gd (ON.MulOk x_654 y_655) (Mn.pur (x_654 * y_655))) fun great_653 => (Mn.pur (.nx (many_650, great_653))))) : Option (Fl (Int × Int) (Int × Int) (List Int)))) FU (many_643, great_644) : Option (Fl (Int × Int) ((List Int)) (List Int))) fun t_645 => (Mn.bnd (Mn.pur t_645.1) fun e_656 => gd (List.length t_641 < 100000) (Mn.bnd (Mn.pur (t_641 ++ [e_656])) fun zs_657 => (Mn.pur (.nx zs_657))))))) : Option (Fl ((List Int)) ((List Int)) (List Int))))) (ei_tup (em_tupTl (el_cons em_int (el_cons em_int (el_cons em_int (el_cons em_int el_nil)))))) (.same (.same (.same (.same (.same .nil))))) (fun _ _ => eg_name) fun t_641 a_642 => (by exact (es_set em_int fun many_643 => (by exact (es_set (em_var rfl) fun great_644 => (by exact (es_seq (mid := (fun (t_645 : Int × Int) => [.dat (enc (p0 : Int)), .own (.lst .dat) (enc (t_641 : (List Int))), .dat (enc (a_642 : Int)), .dat (enc (t_645.1 : Int)), .dat (enc (t_645.2 : Int))])) (es_while (inv := (fun (t_645 : Int × Int) => [.dat (enc (p0 : Int)), .own (.lst .dat) (enc (t_641 : (List Int))), .dat (enc (a_642 : Int)), .dat (enc (t_645.1 : Int)), .dat (enc (t_645.2 : Int))])) (t0 := (many_643, great_644)) (c := (fun (t_645 : Int × Int) => ((Mn.bnd (Mn.bnd (Mn.pur p0) fun x_646 => Mn.bnd (Mn.pur t_645.2) fun y_647 => gd (0 < y_647) (Mn.pur (x_646 % y_647))) fun x_648 => Mn.bnd (Mn.pur (0 : Int)) fun y_649 => Mn.pur (decide (x_648 = y_649))) : Option Bool))) (body := (fun (t_645 : Int × Int) => ((Mn.bnd (Mn.bnd (Mn.pur t_645.1) fun x_651 => Mn.bnd (Mn.pur (1 : Int)) fun y_652 => Mn.pur (x_651 + y_652)) fun many_650 => (Mn.bnd (Mn.bnd (Mn.pur t_645.2) fun x_654 => Mn.bnd (Mn.pur a_642) fun y_655 => gd (ON.MulOk x_654 y_655) (Mn.pur (x_654 * y_655))) fun great_653 => (Mn.pur (.nx (many_650, great_653))))) : Option (Fl (Int × Int) (Int × Int) (List Int))))) (n := FU) (.same (.same (.same (.same (.same .nil))))) (fun t_645 => (eb_T (em_op (em_op (em_var rfl) (em_var rfl) fun _ _ => om_mod) em_int fun _ _ => om_eqI))) fun t_645 => (by exact (es_set (em_op (em_var rfl) em_int fun _ _ => om_I0) fun many_650 => (by exact (es_set (em_op (em_var rfl) (em_var rfl) fun _ _ => om_mul) fun great_653 => (by exact es_next (.same (.same (.same (.same (.same .nil))))))))))) fun t_645 => (by exact (es_appP (xs := t_641) rfl (em_var rfl) fun zs_657 => (by exact es_next (.same (.same (.un (.un (.un .nil))))))))))))))) fun t_641 => (by exact (es_frz (i := 1) rfl (es_retS (em_var rfl))))))))
theorem ok__law_ratio (T : Tx P w K mg) {f : Addr} {fd : FuncData} (F : Fun K "_law_ratio" "_law_ratio" s__law_ratio f fd) : FnOk P w K mg base CX0 2 f fd ["_law_p", "_law_q"] (spP K 2 .dat pr__law_ratio) := by
  obtain ⟨f__law_often, fd__law_often, F__law_often, mg__law_often, b__law_often⟩ := T.d__law_often
  have G__law_often := ok__law_often (P := P) (w := w) (base := base) T F__law_often
  have sc := sc__law_ratio
  refine F.ok sc (fun vs H Q E h => by obtain ⟨_, _, _, _, hl, _⟩ := h; exact hl) (fun cdv A outer s H vs Q E hr h => ?_)
  refine ⟨_, (pss_cons (ps_ret (pe_callTy (r := rTupOf K) cr_tup (by rfl) T.b_tuple (by decide +kernel) (pa_cons (pe_lc (own := [("_law_one", 2), ("_law_other", 3)]) (g := gTup K 2 (gCons (gName 2) (gCons (gName 3) gNil))) rfl sc.nd (RZ.pi_zipA rfl T.b_zip (pa_cons (pe_call G__law_often (hr.mono (by decide)) (by rfl) mg__law_often F__law_often.kp b__law_often .nil pass0 (pa_cons (pv 0) pa_nil)) (pa_cons (pe_call G__law_often (hr.mono (by decide)) (by rfl) mg__law_often F__law_often.kp b__law_often .nil pass0 (pa_cons (pv 1) pa_nil)) pa_nil))) (blkOk_by (N := ["_law_p", "_law_q", "_law_one", "_law_other"]) (sc := defScope s__law_ratio) (by decide +kernel)) (fun _ _ _ _ _ => (pg_tup rfl (pgs_cons (pg_name (i := 2) sc.nd rfl (by first | exact Or.inl rfl | exact Or.inr rfl)) (pgs_cons (pg_name (i := 3) sc.nd rfl (by first | exact Or.inl rfl | exact Or.inr rfl)) pgs_nil)))) (fun _ _ _ _ _ => pts_nil) (fun _ _ _ _ _ => (by exact (pe_op op_sub (pv 2) (pv 3))))) pa_nil))) pss_nil), ?_⟩
  refine fin_pure h fun ds r hp => ?_
  obtain ⟨p0, p1, x, rfl, hm, rfl⟩ := hp
  refine ⟨_, inferInstance, mb__law_ratio p0 p1, x, W0, ?_, fin_some hm, rfl⟩
  show EvS K W0 _ [.dat (enc (p0 : Int)), .dat (enc (p1 : Int)), .un, .un] noEnd noEnd (mb__law_ratio p0 p1)
  exact (by exact (es_retS (em_tupL (em_ofF (ef_lc (vs := [2, 3]) (is := [2, 3]) (sd1 := fun (a_666 : (Int × Int)) => [.dat (enc (p0 : Int)), .dat (enc (p1 : Int)), .dat (enc (a_666.1 : Int)), .dat (enc (a_666.2 : Int))]) (ei_zipL (ea_cons (em_call (dvs := []) (dds := []) (f := fun p_661 => m__law_often p_661) (ea_1 (em_var rfl)) (fun _ => .nil) (fun _ => rfl) fun b r h => ⟨b, r, rfl, h, rfl⟩) (ea_1 (em_call (dvs := []) (dds := []) (f := fun p_662 => m__law_often p_662) (ea_1 (em_var rfl)) (fun _ => .nil) (fun _ => rfl) fun b r h => ⟨b, r, rfl, h, rfl⟩)))) (fun _ => eg_pair) (by decide) (fun a_666 => eb_yes) (fun a_666 => (em_op (em_var rfl) (em_var rfl) fun _ _ => om_I0)) (fun a_666 => (.same (.same (.un (.un .nil))))) (noOwn_by rfl))))))
theorem ok__law_tie (T : Tx P w K mg) {f : Addr} {fd : FuncData} (F : Fun K "_law_tie" "_law_tie" s__law_tie f fd) : FnOk P w K mg base CX0 3 f fd ["_law_state", "_law_some"] (spS K 2 .dat pr__law_tie) := by
  obtain ⟨f__law_next, fd__law_next, F__law_next, mg__law_next, b__law_next⟩ := T.d__law_next
  have G__law_next := ok__law_next (P := P) (w := w) (base := base) T F__law_next
  obtain ⟨f__law_part, fd__law_part, F__law_part, mg__law_part, b__law_part⟩ := T.d__law_part
  have G__law_part := ok__law_part (P := P) (w := w) (base := base) T F__law_part
  obtain ⟨f__law_ratio, fd__law_ratio, F__law_ratio, mg__law_ratio, b__law_ratio⟩ := T.d__law_ratio
  have G__law_ratio := ok__law_ratio (P := P) (w := w) (base := base) T F__law_ratio
  have sc := sc__law_tie
  refine F.ok sc (fun vs H Q E h => by obtain ⟨_, _, _, _, _, _, _, _, hl, _⟩ := h; exact hl) (fun cdv A outer s H vs Q E hr h => ?_)
  refine ⟨_, (pss_cons (ps_set (i := 2) sc.nd rfl (by first | exact Or.inl rfl | exact Or.inr rfl) (pe_ix (r := rIxL K) ix_list (pe_lst (pa_cons pe_str (pa_cons pe_str (pa_cons pe_str pa_nil)))) (pe_call G__law_next (hr.mono (by decide)) (by rfl) mg__law_next F__law_next.kp b__law_next .nil pass0 (pa_cons (pv 0) (pa_cons pe_int pa_nil))) (fun _ _ => rfl))) (pss_cons (ps_par rfl sc.nd (i := 8) (j := 9) rfl rfl (by decide) rfl rfl (pa_cons (pe_ix (r := rIxL K) ix_list (pv 1) (pe_call G__law_next (hr.mono (by decide)) (by rfl) mg__law_next F__law_next.kp b__law_next .nil pass0 (pa_cons (pv 0) (pa_cons (pe_callB (r := ON.rLen K) cr_lenU (by rfl) T.b_len (by decide +kernel) (pa_cons (pv 1) pa_nil)) pa_nil))) (fun _ _ => rfl)) (pa_cons (pe_ix (r := rIxL K) ix_list (pv 1) (pe_call G__law_next (hr.mono (by decide)) (by rfl) mg__law_next F__law_next.kp b__law_next .nil pass0 (pa_cons (pv 0) (pa_cons (pe_callB (r := ON.rLen K) cr_lenU (by rfl) T.b_len (by decide +kernel) (pa_cons (pv 1) pa_nil)) pa_nil))) (fun _ _ => rfl)) pa_nil)) rfl) (pss_cons (ps_set (i := 3) sc.nd rfl (by first | exact Or.inl rfl | exact Or.inr rfl) (pe_lst (pa_cons (pv 2) (pa_cons (pv 8) (pa_cons (pv 9) pa_nil))))) (pss_cons (ps_set (i := 4) sc.nd rfl (by first | exact Or.inl rfl | exact Or.inr rfl) (pe_tup (pa_cons pe_int (pa_cons pe_int (pa_cons pe_int (pa_cons pe_int pa_nil)))))) (pss_cons (ps_if (pt_cmpR op_ne (pv 2) pe_str (nomark _)) (pss_cons (ps_par rfl sc.nd (i := 10) (j := 11) rfl rfl (by decide) rfl rfl (pa_cons (pe_call G__law_part (hr.mono (by decide)) (by rfl) mg__law_part F__law_part.kp b__law_part .nil pass0 (pa_cons (pv 0) pa_nil)) (pa_cons (pe_call G__law_part (hr.mono (by decide)) (by rfl) mg__law_part F__law_part.kp b__law_part .nil pass0 (pa_cons (pv 0) pa_nil)) pa_nil)) rfl) (pss_cons (ps_set (i := 4) sc.nd rfl (by first | exact Or.inl rfl | exact Or.inr rfl) (pe_call G__law_ratio (hr.mono (by decide)) (by rfl) mg__law_ratio F__law_ratio.kp b__law_ratio .nil pass0 (pa_cons (pv 10) (pa_cons (pv 11) pa_nil)))) (pss_cons (ps_set (i := 3) sc.nd rfl (by first | exact Or.inl rfl | exact Or.inr rfl) (pe_op op_cat (pv 3) (pe_lst (pa_cons (pe_callTy cr_strU (by rfl) T.b_str (by decide +kernel) (pa_cons (pv 10) pa_nil)) (pa_cons pe_str (pa_cons (pe_callTy cr_strU (by rfl) T.b_str (by decide +kernel) (pa_cons (pv 11) pa_nil)) pa_nil)))))) pss_nil))) pss_nil) (pss_cons (ps_set (i := 5) sc.nd rfl (by first | exact Or.inl rfl | exact Or.inr rfl) (pe_ix (r := rIxL K) ix_list (pe_lst (pa_cons pe_int (pa_cons (pe_call G__law_next (hr.mono (by decide)) (by rfl) mg__law_next F__law_next.kp b__law_next .nil pass0 (pa_cons (pv 0) (pa_cons pe_int pa_nil))) (pa_cons pe_int (pa_cons pe_int pa_nil))))) (pe_call G__law_next (hr.mono (by decide)) (by rfl) mg__law_next F__law_next.kp b__law_next .nil pass0 (pa_cons (pv 0) (pa_cons pe_int pa_nil))) (fun _ _ => rfl))) (pss_cons (ps_set (i := 6) sc.nd rfl (by first | exact Or.inl rfl | exact Or.inr rfl) (pe_op op_add pe_int (pe_call G__law_next (hr.mono (by decide)) (by rfl) mg__law_next F__law_next.kp b__law_next .nil pass0 (pa_cons (pv 0) (pa_cons pe_int pa_nil))))) (pss_cons (ps_set (i := 7) sc.nd rfl (by first | exact Or.inl rfl | exact Or.inr rfl) (pe_call G__law_next (hr.mono (by decide)) (by rfl) mg__law_next F__law_next.kp b__law_next .nil pass0 (pa_cons (pv 0) (pa_cons pe_int pa_nil)))) (pss_cons (ps_if (pt_cmpR op_eq (pv 7) pe_int (nomark _)) (pss_cons (ps_ret (pe_tup (pa_cons (pe_tup (pa_cons (pv 2) (pa_cons (pv 8) (pa_cons (pv 9) (pa_cons (pv 4) (pa_cons pe_int (pa_cons pe_int pa_nil))))))) (pa_cons (pv 3) pa_nil)))) pss_nil) pss_nil) (pss_cons (ps_if (pt_cmpR op_eq (pv 7) pe_int (nomark _)) (pss_cons (ps_ret (pe_tup (pa_cons (pe_tup (pa_cons (pv 2) (pa_cons (pv 8) (pa_cons (pv 9) (pa_cons (pv 4) (pa_cons (pv 5) (pa_cons pe_int pa_nil))))))) (pa_cons (pe_op op_cat (pv 3) (pe_lst (pa_cons pe_str (pa_cons (pe_callTy cr_strU (by rfl) T.b_str (by decide +kernel) (pa_cons (pv 5) pa_nil)) pa_nil)))) pa_nil)))) pss_nil) pss_nil) (pss_cons (ps_ret (pe_tup (pa_cons (pe_tup (pa_cons (pv 2) (pa_cons (pv 8) (pa_cons (pv 9) (pa_cons (pv 4) (pa_cons (pv 5) (pa_cons (pv 6) pa_nil))))))) (pa_cons (pe_op op_cat (pv 3) (pe_lst (pa_cons pe_str (pa_cons (pe_callTy cr_strU (by rfl) T.b_str (by decide +kernel) (pa_cons (pv 5) pa_nil)) (pa_cons pe_str (pa_cons (pe_callTy cr_strU (by rfl) T.b_str (by decide +kernel) (pa_cons (pv 6) pa_nil)) pa_nil)))))) pa_nil)))) pss_nil))))))))))), ?_⟩
  refine fin_draw h fun q ds k r k2 hp => ?_
  obtain ⟨cl, nm, p0, x, rfl, rfl, hm, rfl⟩ := hp
  refine ⟨_, inferInstance, mb__law_tie cl nm p0, x, W0, ?_, finS_some hm, rfl⟩
  show EvS K W0 _ [.sr (.run cl nm), .dat (enc (p0 : (List Str))), .un, .un, .un, .un, .un, .un, .un, .un, .un, .un] noEnd noEnd (mb__law_tie cl nm p0)
  exact (by exact (es_set (em_op (em_ofF (ef_lst (el_cons em_str (el_cons em_str (el_cons em_str el_nil))))) (em_draw (i := 0) (q := (.run cl nm)) (f := fun p_679 => m__law_next cl nm p_679) rfl (ea_st rfl (ea_dt1 em_int)) (fun _ => rfl) fun b k r k2 h => ⟨_, _, b, r, rfl, rfl, h, rfl⟩) fun _ _ => om_ixL) fun word_671 => (by exact (es_par (ea_cons (em_op (em_var rfl) (em_draw (i := 0) (q := (.run cl nm)) (f := fun p_682 => m__law_next cl nm p_682) rfl (ea_st rfl (ea_dt1 (em_lenL (em_var rfl)))) (fun _ => rfl) fun b k r k2 h => ⟨_, _, b, r, rfl, rfl, h, rfl⟩) fun _ _ => om_ixL) (ea_1 (em_op (em_var rfl) (em_draw (i := 0) (q := (.run cl nm)) (f := fun p_686 => m__law_next cl nm p_686) rfl (ea_st rfl (ea_dt1 (em_lenL (em_var rfl)))) (fun _ => rfl) fun b k r k2 h => ⟨_, _, b, r, rfl, rfl, h, rfl⟩) fun _ _ => om_ixL))) fun p_692 => (by exact (es_set (em_ofF (ef_lst (el_cons (em_var rfl) (el_cons (em_var rfl) (el_cons (em_var rfl) el_nil))))) fun words_693 => (by exact (es_set (em_tupTl (el_cons em_int (el_cons em_int (el_cons em_int (el_cons em_int el_nil))))) fun ratiohere_701 => (by exact (es_seq (mid := (fun (t_714 : (List Str) × (Tl Int)) => [.sr (.run cl nm), .dat (enc (p0 : (List Str))), .dat (enc (word_671 : Str)), .dat (enc (t_714.1 : (List Str))), .dat (enc (t_714.2 : (Tl Int))), .un, .un, .un, .dat (enc (p_692.1 : Str)), .dat (enc (p_692.2 : Str)), .un, .un])) (es_if (eb_T (em_op (em_var rfl) em_str fun _ _ => om_neS)) (by exact (es_par (ea_cons (em_draw (i := 0) (q := (.run cl nm)) (f := fun (p_715 : Unit) => m__law_part cl nm ) rfl (ea_st rfl ea_nilS) (fun _ => rfl) fun b k r k2 h => ⟨_, _, r, rfl, rfl, h, rfl⟩) (ea_1 (em_draw (i := 0) (q := (.run cl nm)) (f := fun (p_716 : Unit) => m__law_part cl nm ) rfl (ea_st rfl ea_nilS) (fun _ => rfl) fun b k r k2 h => ⟨_, _, r, rfl, rfl, h, rfl⟩))) fun p_719 => (by exact (es_set (em_call (dvs := []) (dds := []) (f := fun p_721 => m__law_ratio p_721.1 p_721.2) (ea_cons (em_var rfl) (ea_1 (em_var rfl))) (fun _ => .nil) (fun _ => rfl) fun b r h => ⟨b.1, b.2, r, rfl, h, rfl⟩) fun ratiohere_720 => (by exact (es_set (em_ofF (ef_cat (em_var rfl) (em_ofF (ef_lst (el_cons (em_str1 (em_var rfl)) (el_cons em_str (el_cons (em_str1 (em_var rfl)) el_nil))))))) fun words_724 => (by exact es_next (.same (.same (.same (.same (.same (.same (.same (.same (.same (.same (.un (.un .nil))))))))))))))))))) (by exact es_next (.same (.same (.same (.same (.same (.same (.same (.same (.same (.same (.same (.same .nil)))))))))))))) fun t_714 => (by exact (es_set (em_op (em_ofF (ef_lst (el_cons em_int (el_cons (em_draw (i := 0) (q := (.run cl nm)) (f := fun p_740 => m__law_next cl nm p_740) rfl (ea_st rfl (ea_dt1 em_int)) (fun _ => rfl) fun b k r k2 h => ⟨_, _, b, r, rfl, rfl, h, rfl⟩) (el_cons em_int (el_cons em_int el_nil)))))) (em_draw (i := 0) (q := (.run cl nm)) (f := fun p_750 => m__law_next cl nm p_750) rfl (ea_st rfl (ea_dt1 em_int)) (fun _ => rfl) fun b k r k2 h => ⟨_, _, b, r, rfl, rfl, h, rfl⟩) fun _ _ => om_ixL) fun bend_738 => (by exact (es_set (em_op em_int (em_draw (i := 0) (q := (.run cl nm)) (f := fun p_754 => m__law_next cl nm p_754) rfl (ea_st rfl (ea_dt1 em_int)) (fun _ => rfl) fun b k r k2 h => ⟨_, _, b, r, rfl, rfl, h, rfl⟩) fun _ _ => om_I0) fun weight_753 => (by exact (es_set (em_draw (i := 0) (q := (.run cl nm)) (f := fun p_758 => m__law_next cl nm p_758) rfl (ea_st rfl (ea_dt1 em_int)) (fun _ => rfl) fun b k r k2 h => ⟨_, _, b, r, rfl, rfl, h, rfl⟩) fun way_757 => (by exact (es_seq (mid := (fun (t_762 : Unit) => [.sr (.run cl nm), .dat (enc (p0 : (List Str))), .dat (enc (word_671 : Str)), .dat (enc (t_714.1 : (List Str))), .dat (enc (t_714.2 : (Tl Int))), .dat (enc (bend_738 : Int)), .dat (enc (weight_753 : Int)), .dat (enc (way_757 : Int)), .dat (enc (p_692.1 : Str)), .dat (enc (p_692.2 : Str)), .un, .un])) (es_if (eb_T (em_op (em_var rfl) em_int fun _ _ => om_eqI)) (by exact (es_retS (em_tup2 (em_tupN (fun t_774 => (⟨t_774.1, t_774.2.1, t_774.2.2.1, t_774.2.2.2.1, t_774.2.2.2.2.1, t_774.2.2.2.2.2⟩ : (T6 Str Str Str (Tl Int) Int Int))) (ea_cons (em_var rfl) (ea_cons (em_var rfl) (ea_cons (em_var rfl) (ea_cons (em_var rfl) (ea_cons em_int (ea_1 em_int)))))) (fun _ => rfl) (n := 6) (fun _ => rfl)) (em_var rfl)))) (by exact es_next (.same (.same (.same (.same (.same (.same (.same (.same (.same (.same (.same (.same .nil)))))))))))))) fun t_762 => (by exact (es_seq (mid := (fun (t_780 : Unit) => [.sr (.run cl nm), .dat (enc (p0 : (List Str))), .dat (enc (word_671 : Str)), .dat (enc (t_714.1 : (List Str))), .dat (enc (t_714.2 : (Tl Int))), .dat (enc (bend_738 : Int)), .dat (enc (weight_753 : Int)), .dat (enc (way_757 : Int)), .dat (enc (p_692.1 : Str)), .dat (enc (p_692.2 : Str)), .un, .un])) (es_if (eb_T (em_op (em_var rfl) em_int fun _ _ => om_eqI)) (by exact (es_retS (em_tup2 (em_tupN (fun t_792 => (⟨t_792.1, t_792.2.1, t_792.2.2.1, t_792.2.2.2.1, t_792.2.2.2.2.1, t_792.2.2.2.2.2⟩ : (T6 Str Str Str (Tl Int) Int Int))) (ea_cons (em_var rfl) (ea_cons (em_var rfl) (ea_cons (em_var rfl) (ea_cons (em_var rfl) (ea_cons (em_var rfl) (ea_1 em_int)))))) (fun _ => rfl) (n := 6) (fun _ => rfl)) (em_ofF (ef_cat (em_var rfl) (em_ofF (ef_lst (el_cons em_str (el_cons (em_str1 (em_var rfl)) el_nil))))))))) (by exact es_next (.same (.same (.same (.same (.same (.same (.same (.same (.same (.same (.same (.same .nil)))))))))))))) fun t_780 => (by exact (es_retS (em_tup2 (em_tupN (fun t_815 => (⟨t_815.1, t_815.2.1, t_815.2.2.1, t_815.2.2.2.1, t_815.2.2.2.2.1, t_815.2.2.2.2.2⟩ : (T6 Str Str Str (Tl Int) Int Int))) (ea_cons (em_var rfl) (ea_cons (em_var rfl) (ea_cons (em_var rfl) (ea_cons (em_var rfl) (ea_cons (em_var rfl) (ea_1 (em_var rfl))))))) (fun _ => rfl) (n := 6) (fun _ => rfl)) (em_ofF (ef_cat (em_var rfl) (em_ofF (ef_lst (el_cons em_str (el_cons (em_str1 (em_var rfl)) (el_cons em_str (el_cons (em_str1 (em_var rfl)) el_nil)))))))))))))))))))))))))))))))
theorem ok__law_song (T : Tx P w K mg) {f : Addr} {fd : FuncData} (F : Fun K "_law_song" "_law_song" s__law_song f fd) : FnOk P w K mg base CX0 4 f fd ["_law_state", "_law_most"] (spS K 2 .dat pr__law_song) := by
  obtain ⟨f__law_next, fd__law_next, F__law_next, mg__law_next, b__law_next⟩ := T.d__law_next
  have G__law_next := ok__law_next (P := P) (w := w) (base := base) T F__law_next
  obtain ⟨f__law_tie, fd__law_tie, F__law_tie, mg__law_tie, b__law_tie⟩ := T.d__law_tie
  have G__law_tie := ok__law_tie (P := P) (w := w) (base := base) T F__law_tie
  have sc := sc__law_song
  refine F.ok sc (fun vs H Q E h => by obtain ⟨_, _, _, _, _, _, _, _, hl, _⟩ := h; exact hl) (fun cdv A outer s H vs Q E hr h => ?_)
  refine ⟨_, (pss_cons (ps_set (i := 2) sc.nd rfl (by first | exact Or.inl rfl | exact Or.inr rfl) (pe_dget (hu_of hr) (pv 0) pe_str (fun _ _ => rfl))) (pss_cons (ps_set (i := 3) sc.nd rfl (by first | exact Or.inl rfl | exact Or.inr rfl) (pe_lst pa_nil)) (pss_cons (ps_set (i := 4) sc.nd rfl (by first | exact Or.inl rfl | exact Or.inr rfl) (pe_lst pa_nil)) (pss_cons (ps_set (i := 5) sc.nd rfl (by first | exact Or.inl rfl | exact Or.inr rfl) (pe_lst pa_nil)) (pss_cons (ps_set (i := 6) sc.nd rfl (by first | exact Or.inl rfl | exact Or.inr rfl) (pe_lst pa_nil)) (pss_cons (ps_for PassesOwn.never rfl (pi_range1 rfl T.b_range (pa_cons (pe_call G__law_next (hr.mono (by decide)) (by rfl) mg__law_next F__law_next.kp b__law_next .nil pass0 (pa_cons (pv 0) (pa_cons (pv 1) pa_nil))) pa_nil)) (pg_name (i := 7) sc.nd rfl (by first | exact Or.inl rfl | exact Or.inr rfl)) (pss_cons (ps_set (i := 8) sc.nd rfl (by first | exact Or.inl rfl | exact Or.inr rfl) (pe_call G__law_next (hr.mono (by decide)) (by rfl) mg__law_next F__law_next.kp b__law_next .nil pass0 (pa_cons (pv 0) (pa_cons pe_int pa_nil)))) (pss_cons (ps_if (pt_cmpR op_lt (pv 8) pe_int (nomark _)) (pss_cons (ps_set (i := 9) sc.nd rfl (by first | exact Or.inl rfl | exact Or.inr rfl) (pe_tup (pa_cons (pe_ix (r := rIxL K) ix_list (pv 2) (pe_call G__law_next (hr.mono (by decide)) (by rfl) mg__law_next F__law_next.kp b__law_next .nil pass0 (pa_cons (pv 0) (pa_cons pe_int pa_nil))) (fun _ _ => rfl)) (pa_cons (pe_ix (r := rIxL K) ix_list (pv 2) (pe_call G__law_next (hr.mono (by decide)) (by rfl) mg__law_next F__law_next.kp b__law_next .nil pass0 (pa_cons (pv 0) (pa_cons pe_int pa_nil))) (fun _ _ => rfl)) (pa_cons (pe_call G__law_next (hr.mono (by decide)) (by rfl) mg__law_next F__law_next.kp b__law_next .nil pass0 (pa_cons (pv 0) (pa_cons pe_int pa_nil))) pa_nil))))) (pss_cons (ps_set (i := 9) sc.nd rfl (by first | exact Or.inl rfl | exact Or.inr rfl) (pe_op op_catA (pv 9) (pe_tup (pa_cons (pe_ix (r := rIxL K) ix_list (pe_lst (pa_cons (pe_call G__law_next (hr.mono (by decide)) (by rfl) mg__law_next F__law_next.kp b__law_next .nil pass0 (pa_cons (pv 0) (pa_cons pe_int pa_nil))) (pa_cons pe_int (pa_cons pe_int pa_nil)))) (pe_call G__law_next (hr.mono (by decide)) (by rfl) mg__law_next F__law_next.kp b__law_next .nil pass0 (pa_cons (pv 0) (pa_cons pe_int pa_nil))) (fun _ _ => rfl)) pa_nil)))) (pss_cons (ps_expr (pe_bm PySem.F.plainAttrs_list PySem.F.slot_list_append PySem.F.type_list_append mt_append (pv 3) (pa_cons (pv 9) pa_nil))) (pss_cons (ps_expr (pe_bm PySem.F.plainAttrs_list PySem.F.slot_list_append PySem.F.type_list_append mt_append (pv 6) (pa_cons (pe_lst (pa_cons pe_str (pa_cons (pe_ix (r := rIxT K) ix_tup (pv 9) pe_int (fun _ _ => rfl)) (pa_cons (pe_ix (r := rIxT K) ix_tup (pv 9) pe_int (fun _ _ => rfl)) (pa_cons (pe_callTy cr_strU (by rfl) T.b_str (by decide +kernel) (pa_cons (pe_ix (r := rIxT K) ix_tup (pv 9) pe_int (fun _ _ => rfl)) pa_nil)) (pa_cons (pe_callTy cr_strU (by rfl) T.b_str (by decide +kernel) (pa_cons (pe_ix (r := rIxT K) ix_tup (pv 9) pe_int (fun _ _ => rfl)) pa_nil)) pa_nil)))))) pa_nil))) pss_nil)))) (pss_cons (ps_if (pt_cmpR op_lt (pv 8) pe_int (nomark _)) (pss_cons (ps_asg (pe_call G__law_tie (hr.mono (by decide)) (by rfl) mg__law_tie F__law_tie.kp b__law_tie .nil pass0 (pa_cons (pv 0) (pa_cons (pv 2) pa_nil))) (pg_tup rfl (pgs_cons (pg_name (i := 11) sc.nd rfl (by first | exact Or.inl rfl | exact Or.inr rfl)) (pgs_cons (pg_name (i := 12) sc.nd rfl (by first | exact Or.inl rfl | exact Or.inr rfl)) pgs_nil)))) (pss_cons (ps_expr (pe_bm PySem.F.plainAttrs_list PySem.F.slot_list_append PySem.F.type_list_append mt_append (pv 4) (pa_cons (pv 11) pa_nil))) (pss_cons (ps_expr (pe_bm PySem.F.plainAttrs_list PySem.F.slot_list_append PySem.F.type_list_append mt_append (pv 6) (pa_cons (pv 12) pa_nil))) pss_nil))) (pss_cons (ps_set (i := 10) sc.nd rfl (by first | exact Or.inl rfl | exact Or.inr rfl) (pe_tup (pa_cons (pe_ix (r := rIxL K) ix_list (pv 2) (pe_call G__law_next (hr.mono (by decide)) (by rfl) mg__law_next F__law_next.kp b__law_next .nil pass0 (pa_cons (pv 0) (pa_cons pe_int pa_nil))) (fun _ _ => rfl)) (pa_cons (pe_ix (r := rIxL K) ix_list (pv 2) (pe_call G__law_next (hr.mono (by decide)) (by rfl) mg__law_next F__law_next.kp b__law_next .nil pass0 (pa_cons (pv 0) (pa_cons pe_int pa_nil))) (fun _ _ => rfl)) pa_nil)))) (pss_cons (ps_expr (pe_bm PySem.F.plainAttrs_list PySem.F.slot_list_append PySem.F.type_list_append mt_append (pv 5) (pa_cons (pv 10) pa_nil))) (pss_cons (ps_expr (pe_bm PySem.F.plainAttrs_list PySem.F.slot_list_append PySem.F.type_list_append mt_append (pv 6) (pa_cons (pe_lst (pa_cons pe_str (pa_cons (pe_ix (r := rIxT K) ix_tup (pv 10) pe_int (fun _ _ => rfl)) (pa_cons (pe_ix (r := rIxT K) ix_tup (pv 10) pe_int (fun _ _ => rfl)) pa_nil)))) pa_nil))) pss_nil)))) pss_nil)) pss_nil))) (pss_cons (ps_ret (pe_tup (pa_cons (pe_tup (pa_cons (pe_callTy (r := rTupOf K) cr_tup (by rfl) T.b_tuple (by decide +kernel) (pa_cons (pv 3) pa_nil)) (pa_cons (pe_callTy (r := rTupOf K) cr_tup (by rfl) T.b_tuple (by decide +kernel) (pa_cons (pv 4) pa_nil)) (pa_cons (pe_ix (r := rIxL K) ix_list (pe_op op_cat (pv 5) (pe_lst (pa_cons pe_non pa_nil))) pe_int (fun _ _ => rfl)) pa_nil)))) (pa_cons (pv 6) pa_nil)))) pss_nil))))))), ?_⟩
  refine fin_draw h fun q ds k r k2 hp => ?_
  obtain ⟨cl, nm, p0, x, rfl, rfl, hm, rfl⟩ := hp
  cases nm with
  | none => cases hm
  | some nm =>
    refine ⟨_, inferInstance, mb__law_song cl nm p0, x, W0, ?_, finS_some hm, rfl⟩
    show EvS K W0 _ [.sr (.run cl (some nm)), .dat (enc (p0 : Int)), .un, .un, .un, .un, .un, .un, .un, .un, .un, .un, .un] noEnd noEnd (mb__law_song cl nm p0)
    exact (by exact (es_set (em_names rfl) fun some_833 => (by exact (es_setF (ef_lst el_nil) fun notes_834 => (by exact (es_setF (ef_lst el_nil) fun ties_836 => (by exact (es_setF (ef_lst el_nil) fun homes_838 => (by exact (es_setF (ef_lst el_nil) fun rows_840 => (by exact (es_seq (mid := (fun (t_844 : (List (T4 Str Str Int Int)) × (List (T6 Str Str Str (Tl Int) Int Int)) × (List (Option (Str × Str))) × (List (List Str))) => [.sr (.run cl (some nm)), .dat (enc (p0 : Int)), .dat (enc (some_833 : (List Str))), .own (.lst .dat) (enc (t_844.1 : (List (T4 Str Str Int Int)))), .own (.lst .dat) (enc (t_844.2.1 : (List (T6 Str Str Str (Tl Int) Int Int)))), .own (.lst .dat) (enc (t_844.2.2.1 : (List (Option (Str × Str))))), .own (.lst .dat) (enc (t_844.2.2.2 : (List (List Str)))), .un, .un, .un, .un, .un, .un])) (es_for (inv := (fun (t_844 : (List (T4 Str Str Int Int)) × (List (T6 Str Str Str (Tl Int) Int Int)) × (List (Option (Str × Str))) × (List (List Str))) => [.sr (.run cl (some nm)), .dat (enc (p0 : Int)), .dat (enc (some_833 : (List Str))), .own (.lst .dat) (enc (t_844.1 : (List (T4 Str Str Int Int)))), .own (.lst .dat) (enc (t_844.2.1 : (List (T6 Str Str Str (Tl Int) Int Int)))), .own (.lst .dat) (enc (t_844.2.2.1 : (List (Option (Str × Str))))), .own (.lst .dat) (enc (t_844.2.2.2 : (List (List Str)))), .un, .un, .un, .un, .un, .un])) (t0 := (notes_834, ties_836, homes_838, rows_840)) (sd1 := fun (t_844 : (List (T4 Str Str Int Int)) × (List (T6 Str Str Str (Tl Int) Int Int)) × (List (Option (Str × Str))) × (List (List Str))) (a_845 : Int) => [.sr (.run cl (some nm)), .dat (enc (p0 : Int)), .dat (enc (some_833 : (List Str))), .own (.lst .dat) (enc (t_844.1 : (List (T4 Str Str Int Int)))), .own (.lst .dat) (enc (t_844.2.1 : (List (T6 Str Str Str (Tl Int) Int Int)))), .own (.lst .dat) (enc (t_844.2.2.1 : (List (Option (Str × Str))))), .own (.lst .dat) (enc (t_844.2.2.2 : (List (List Str)))), .dat (enc (a_845 : Int)), .un, .un, .un, .un, .un]) (body := (fun (t_844 : (List (T4 Str Str Int Int)) × (List (T6 Str Str Str (Tl Int) Int Int)) × (List (Option (Str × Str))) × (List (List Str))) (a_845 : Int) => ((Mn.bnd (Mn.bnd (Mn.pur (7 : Int)) fun p_847 => m__law_next cl (some nm) p_847) fun way_846 => (andThen (Mn.bnd (Mn.bnd (Mn.pur way_846) fun x_848 => Mn.bnd (Mn.pur (3 : Int)) fun y_849 => Mn.pur (decide (x_848 < y_849))) fun b_850 => cnd b_850 (Mn.bnd (Mn.bnd (Mn.bnd (Mn.bnd (Mn.pur some_833) fun x_854 => Mn.bnd (Mn.bnd (Mn.pur (24 : Int)) fun p_853 => m__law_next cl (some nm) p_853) fun y_855 => lift (atI x_854 y_855)) fun x_862 => Mn.bnd (Mn.bnd (Mn.bnd (Mn.pur some_833) fun x_857 => Mn.bnd (Mn.bnd (Mn.pur (24 : Int)) fun p_856 => m__law_next cl (some nm) p_856) fun y_858 => lift (atI x_857 y_858)) fun x_860 => Mn.bnd (Mn.bnd (Mn.pur (10000 : Int)) fun p_859 => m__law_next cl (some nm) p_859) fun y_861 => Mn.pur (x_860, y_861)) fun y_863 => Mn.pur (x_862, y_863)) fun t_864 => Mn.pur (⟨t_864.1, t_864.2.1, t_864.2.2⟩ : (T3 Str Str Int))) fun note_852 => (Mn.bnd (Mn.bnd (Mn.pur note_852) fun x_879 => Mn.bnd (Mn.bnd (Mn.bnd (Mn.bnd (Mn.bnd (Mn.bnd (Mn.pur (10000 : Int)) fun p_867 => m__law_next cl (some nm) p_867) fun x_872 => Mn.bnd (Mn.bnd (Mn.pur (9999 : Int)) fun x_870 => Mn.bnd (Mn.bnd (Mn.pur (0 : Int)) fun x_868 => Mn.bnd (Mn.pur ([] : List Int)) fun y_869 => Mn.pur (x_868 :: y_869)) fun y_871 => Mn.pur (x_870 :: y_871)) fun y_873 => Mn.pur (x_872 :: y_873)) fun l_874 => gd (List.length l_874 ≤ 1000) (Mn.pur l_874)) fun x_876 => Mn.bnd (Mn.bnd (Mn.pur (3 : Int)) fun p_875 => m__law_next cl (some nm) p_875) fun y_877 => lift (atI x_876 y_877)) fun t_878 => Mn.pur (⟨t_878⟩ : (T1 Int))) fun y_880 => Mn.pur (⟨x_879.a, x_879.b, x_879.c, y_880.a⟩ : (T4 Str Str Int Int))) fun note_865 => (Mn.bnd (Mn.pur note_865) fun e_881 => gd (List.length t_844.1 < 100000) (Mn.bnd (Mn.pur (t_844.1 ++ [e_881])) fun zs_882 => (Mn.bnd (Mn.bnd (Mn.bnd (Mn.pur ("note" : Str)) fun x_898 => Mn.bnd (Mn.bnd (Mn.bnd (Mn.pur note_865) fun x_884 => Mn.pur x_884.a) fun x_896 => Mn.bnd (Mn.bnd (Mn.bnd (Mn.pur note_865) fun x_885 => Mn.pur x_885.b) fun x_894 => Mn.bnd (Mn.bnd (Mn.bnd (Mn.bnd (Mn.pur note_865) fun x_886 => Mn.pur x_886.c) fun u_887 => gd (Nat.log2 (Int.natAbs u_887) < 1920) (Mn.pur (strI u_887))) fun x_892 => Mn.bnd (Mn.bnd (Mn.bnd (Mn.bnd (Mn.pur note_865) fun x_888 => Mn.pur x_888.d) fun u_889 => gd (Nat.log2 (Int.natAbs u_889) < 1920) (Mn.pur (strI u_889))) fun x_890 => Mn.bnd (Mn.pur ([] : List Str)) fun y_891 => Mn.pur (x_890 :: y_891)) fun y_893 => Mn.pur (x_892 :: y_893)) fun y_895 => Mn.pur (x_894 :: y_895)) fun y_897 => Mn.pur (x_896 :: y_897)) fun y_899 => Mn.pur (x_898 :: y_899)) fun l_900 => gd (List.length l_900 ≤ 1000) (Mn.pur l_900)) fun e_883 => gd (List.length t_844.2.2.2 < 100000) (Mn.bnd (Mn.pur (t_844.2.2.2 ++ [e_883])) fun zs_901 => (Mn.pur (.nx (zs_882, t_844.2.1, t_844.2.2.1, zs_901))))))))) (andThen (Mn.bnd (Mn.bnd (Mn.pur way_846) fun x_902 => Mn.bnd (Mn.pur (6 : Int)) fun y_903 => Mn.pur (decide (x_902 < y_903))) fun b_904 => cnd b_904 (Mn.bnd (Mn.bnd (Mn.pur some_833) fun p_906 => m__law_tie cl (some nm) p_906) fun p_907 => (Mn.bnd (Mn.pur p_907.1) fun e_908 => gd (List.length t_844.2.1 < 100000) (Mn.bnd (Mn.pur (t_844.2.1 ++ [e_908])) fun zs_909 => (Mn.bnd (Mn.pur p_907.2) fun e_910 => gd (List.length t_844.2.2.2 < 100000) (Mn.bnd (Mn.pur (t_844.2.2.2 ++ [e_910])) fun zs_911 => (Mn.pur (.nx (zs_909, t_844.2.2.1, zs_911)))))))) (Mn.bnd (Mn.bnd (Mn.bnd (Mn.pur some_833) fun x_914 => Mn.bnd (Mn.bnd (Mn.pur (24 : Int)) fun p_913 => m__law_next cl (some nm) p_913) fun y_915 => lift (atI x_914 y_915)) fun x_919 => Mn.bnd (Mn.bnd (Mn.pur some_833) fun x_917 => Mn.bnd (Mn.bnd (Mn.pur (24 : Int)) fun p_916 => m__law_next cl (some nm) p_916) fun y_918 => lift (atI x_917 y_918)) fun y_920 => Mn.pur (x_919, y_920)) fun home_912 => (Mn.bnd (Mn.bnd (Mn.pur home_912) fun k_922 => Mn.pur (some k_922 : (Option (Str × Str)))) fun e_921 => gd (List.length t_844.2.2.1 < 100000) (Mn.bnd (Mn.pur (t_844.2.2.1 ++ [e_921])) fun zs_923 => (Mn.bnd (Mn.bnd (Mn.bnd (Mn.pur ("home" : Str)) fun x_931 => Mn.bnd (Mn.bnd (Mn.bnd (Mn.pur home_912) fun x_925 => Mn.pur x_925.1) fun x_929 => Mn.bnd (Mn.bnd (Mn.bnd (Mn.pur home_912) fun x_926 => Mn.pur x_926.2) fun x_927 => Mn.bnd (Mn.pur ([] : List Str)) fun y_928 => Mn.pur (x_927 :: y_928)) fun y_930 => Mn.pur (x_929 :: y_930)) fun y_932 => Mn.pur (x_931 :: y_932)) fun l_933 => gd (List.length l_933 ≤ 1000) (Mn.pur l_933)) fun e_924 => gd (List.length t_844.2.2.2 < 100000) (Mn.bnd (Mn.pur (t_844.2.2.2 ++ [e_924])) fun zs_934 => (Mn.pur (.nx (t_844.2.1, zs_923, zs_934)))))))) : Sm (Fl ((List (T6 Str Str Str (Tl Int) Int Int)) × (List (Option (Str × Str))) × (List (List Str))) ((List (T4 Str Str Int Int)) × (List (T6 Str Str Str (Tl Int) Int Int)) × (List (Option (Str × Str))) × (List (List Str))) ((T3 (Tl (T4 Str Str Int Int)) (Tl (T6 Str Str Str (Tl Int) Int Int)) (Option (Str × Str))) × (List (List Str))))) fun t_905 => (Mn.pur (.nx (t_844.1, t_905.1, t_905.2.1, t_905.2.2)))) : Sm (Fl ((List (T4 Str Str Int Int)) × (List (T6 Str Str Str (Tl Int) Int Int)) × (List (Option (Str × Str))) × (List (List Str))) ((List (T4 Str Str Int Int)) × (List (T6 Str Str Str (Tl Int) Int Int)) × (List (Option (Str × Str))) × (List (List Str))) ((T3 (Tl (T4 Str Str Int Int)) (Tl (T6 Str Str Str (Tl Int) Int Int)) (Option (Str × Str))) × (List (List Str))))) fun t_851 => (Mn.pur (.nx (t_851.1, t_851.2.1, t_851.2.2.1, t_851.2.2.2))))) : Sm (Fl ((List (T4 Str Str Int Int)) × (List (T6 Str Str Str (Tl Int) Int Int)) × (List (Option (Str × Str))) × (List (List Str))) ((List (T4 Str Str Int Int)) × (List (T6 Str Str Str (Tl Int) Int Int)) × (List (Option (Str × Str))) × (List (List Str))) ((T3 (Tl (T4 Str Str Int Int)) (Tl (T6 Str Str Str (Tl Int) Int Int)) (Option (Str × Str))) × (List (List Str))))))) (ei_rng1 (ea_1 (em_draw (i := 0) (q := (.run cl (some nm))) (f := fun p_842 => m__law_next cl (some nm) p_842) rfl (ea_st rfl (ea_dt1 (em_var rfl))) (fun _ => rfl) fun b k r k2 h => ⟨_, _, b, r, rfl, rfl, h, rfl⟩))) (.same (.same (.same (.same (.same (.same (.same (.same (.same (.same (.same (.same (.same .nil))))))))))))) (fun _ _ => eg_name) fun t_844 a_845 => (by exact (es_set (em_draw (i := 0) (q := (.run cl (some nm))) (f := fun p_847 => m__law_next cl (some nm) p_847) rfl (ea_st rfl (ea_dt1 em_int)) (fun _ => rfl) fun b k r k2 h => ⟨_, _, b, r, rfl, rfl, h, rfl⟩) fun way_846 => (by exact (es_seq (mid := (fun (t_851 : (List (T4 Str Str Int Int)) × (List (T6 Str Str Str (Tl Int) Int Int)) × (List (Option (Str × Str))) × (List (List Str))) => [.sr (.run cl (some nm)), .dat (enc (p0 : Int)), .dat (enc (some_833 : (List Str))), .own (.lst .dat) (enc (t_851.1 : (List (T4 Str Str Int Int)))), .own (.lst .dat) (enc (t_851.2.1 : (List (T6 Str Str Str (Tl Int) Int Int)))), .own (.lst .dat) (enc (t_851.2.2.1 : (List (Option (Str × Str))))), .own (.lst .dat) (enc (t_851.2.2.2 : (List (List Str)))), .dat (enc (a_845 : Int)), .dat (enc (way_846 : Int)), .un, .un, .un, .un])) (es_if (eb_T (em_op (em_var rfl) em_int fun _ _ => om_B0)) (by exact (es_set (em_tupN (fun t_864 => (⟨t_864.1, t_864.2.1, t_864.2.2⟩ : (T3 Str Str Int))) (ea_cons (em_op (em_var rfl) (em_draw (i := 0) (q := (.run cl (some nm))) (f := fun p_853 => m__law_next cl (some nm) p_853) rfl (ea_st rfl (ea_dt1 em_int)) (fun _ => rfl) fun b k r k2 h => ⟨_, _, b, r, rfl, rfl, h, rfl⟩) fun _ _ => om_ixL) (ea_cons (em_op (em_var rfl) (em_draw (i := 0) (q := (.run cl (some nm))) (f := fun p_856 => m__law_next cl (some nm) p_856) rfl (ea_st rfl (ea_dt1 em_int)) (fun _ => rfl) fun b k r k2 h => ⟨_, _, b, r, rfl, rfl, h, rfl⟩) fun _ _ => om_ixL) (ea_1 (em_draw (i := 0) (q := (.run cl (some nm))) (f := fun p_859 => m__law_next cl (some nm) p_859) rfl (ea_st rfl (ea_dt1 em_int)) (fun _ => rfl) fun b k r k2 h => ⟨_, _, b, r, rfl, rfl, h, rfl⟩)))) (fun _ => rfl) (n := 3) (fun _ => rfl)) fun note_852 => (by exact (es_set (em_catT (ga := fun (x_879 : (T3 Str Str Int)) => [enc x_879.a, enc x_879.b, enc x_879.c]) (gb := fun (y_880 : (T1 Int)) => [enc y_880.a]) (fun x_879 y_880 => (⟨x_879.a, x_879.b, x_879.c, y_880.a⟩ : (T4 Str Str Int Int))) (fun _ => rfl) (fun _ => rfl) (fun _ _ => rfl) (fun _ _ => by exact (by decide : 3 + 1 ≤ 1000)) (fun _ h => by cases h) (fun _ h => by cases h) (em_var rfl) (em_tupN (fun t_878 => (⟨t_878⟩ : (T1 Int))) (ea_1 (em_op (em_ofF (ef_lst (el_cons (em_draw (i := 0) (q := (.run cl (some nm))) (f := fun p_867 => m__law_next cl (some nm) p_867) rfl (ea_st rfl (ea_dt1 em_int)) (fun _ => rfl) fun b k r k2 h => ⟨_, _, b, r, rfl, rfl, h, rfl⟩) (el_cons em_int (el_cons em_int el_nil))))) (em_draw (i := 0) (q := (.run cl (some nm))) (f := fun p_875 => m__law_next cl (some nm) p_875) rfl (ea_st rfl (ea_dt1 em_int)) (fun _ => rfl) fun b k r k2 h => ⟨_, _, b, r, rfl, rfl, h, rfl⟩) fun _ _ => om_ixL)) (fun _ => rfl) (n := 1) (fun _ => rfl))) fun note_865 => (by exact (es_appP (xs := t_844.1) rfl (em_var rfl) fun zs_882 => (by exact (es_appP (xs := t_844.2.2.2) rfl (em_ofF (ef_lst (el_cons em_str (el_cons (em_fldT (i := 0) (fun (x_884 : (T4 Str Str Int Int)) => x_884.a) (em_var rfl) (fun _ => ⟨_, rfl, rfl⟩)) (el_cons (em_fldT (i := 1) (fun (x_885 : (T4 Str Str Int Int)) => x_885.b) (em_var rfl) (fun _ => ⟨_, rfl, rfl⟩)) (el_cons (em_str1 (em_fldT (i := 2) (fun (x_886 : (T4 Str Str Int Int)) => x_886.c) (em_var rfl) (fun _ => ⟨_, rfl, rfl⟩))) (el_cons (em_str1 (em_fldT (i := 3) (fun (x_888 : (T4 Str Str Int Int)) => x_888.d) (em_var rfl) (fun _ => ⟨_, rfl, rfl⟩))) el_nil))))))) fun zs_901 => (by exact es_next (.same (.same (.same (.same (.same (.same (.same (.same (.same (.un (.same (.same (.same .nil)))))))))))))))))))))) (by exact (es_seq (mid := (fun (t_905 : (List (T6 Str Str Str (Tl Int) Int Int)) × (List (Option (Str × Str))) × (List (List Str))) => [.sr (.run cl (some nm)), .dat (enc (p0 : Int)), .dat (enc (some_833 : (List Str))), .own (.lst .dat) (enc (t_844.1 : (List (T4 Str Str Int Int)))), .own (.lst .dat) (enc (t_905.1 : (List (T6 Str Str Str (Tl Int) Int Int)))), .own (.lst .dat) (enc (t_905.2.1 : (List (Option (Str × Str))))), .own (.lst .dat) (enc (t_905.2.2 : (List (List Str)))), .dat (enc (a_845 : Int)), .dat (enc (way_846 : Int)), .un, .un, .un, .un])) (es_if (eb_T (em_op (em_var rfl) em_int fun _ _ => om_B0)) (by exact (es_tgt (em_draw (i := 0) (q := (.run cl (some nm))) (f := fun p_906 => m__law_tie cl (some nm) p_906) rfl (ea_st rfl (ea_dt1 (em_var rfl))) (fun _ => rfl) fun b k r k2 h => ⟨_, _, b, r, rfl, rfl, h, rfl⟩) (fun _ => eg_pair) fun p_907 => (by exact (es_appP (xs := t_844.2.1) rfl (em_var rfl) fun zs_909 => (by exact (es_appP (xs := t_844.2.2.2) rfl (em_var rfl) fun zs_911 => (by exact es_next (.same (.same (.same (.same (.same (.same (.same (.same (.same (.same (.same (.un (.un .nil)))))))))))))))))))) (by exact (es_set (em_tup2 (em_op (em_var rfl) (em_draw (i := 0) (q := (.run cl (some nm))) (f := fun p_913 => m__law_next cl (some nm) p_913) rfl (ea_st rfl (ea_dt1 em_int)) (fun _ => rfl) fun b k r k2 h => ⟨_, _, b, r, rfl, rfl, h, rfl⟩) fun _ _ => om_ixL) (em_op (em_var rfl) (em_draw (i := 0) (q := (.run cl (some nm))) (f := fun p_916 => m__law_next cl (some nm) p_916) rfl (ea_st rfl (ea_dt1 em_int)) (fun _ => rfl) fun b k r k2 h => ⟨_, _, b, r, rfl, rfl, h, rfl⟩) fun _ _ => om_ixL)) fun home_912 => (by exact (es_appP (xs := t_844.2.2.1) rfl (em_as (fun (k_922 : (Str × Str)) => (some k_922 : (Option (Str × Str)))) (fun _ => rfl) (em_var rfl)) fun zs_923 => (by exact (es_appP (xs := t_844.2.2.2) rfl (em_ofF (ef_lst (el_cons em_str (el_cons (em_fldT (i := 0) (fun (x_925 : (Str × Str)) => x_925.1) (em_var rfl) (fun _ => ⟨_, rfl, rfl⟩)) (el_cons (em_fldT (i := 1) (fun (x_926 : (Str × Str)) => x_926.2) (em_var rfl) (fun _ => ⟨_, rfl, rfl⟩)) el_nil))))) fun zs_934 => (by exact es_next (.same (.same (.same (.same (.same (.same (.same (.same (.same (.same (.un (.same (.same .nil))))))))))))))))))))) fun t_905 => (by exact es_next (.same (.same (.same (.same (.same (.same (.same (.same (.same (.same (.same (.same (.same .nil))))))))))))))))) fun t_851 => (by exact es_next (.same (.same (.same (.same (.same (.same (.same (.un (.un (.same (.same (.same (.same .nil))))))))))))))))))) fun t_844 => (by exact (es_frz (i := 5) rfl (es_frz (i := 3) rfl (es_frz (i := 6) rfl (es_frz (i := 4) rfl (es_retS (em_tup2 (em_tupN (fun t_953 => (⟨t_953.1, t_953.2.1, t_953.2.2⟩ : (T3 (Tl (T4 Str Str Int Int)) (Tl (T6 Str Str Str (Tl Int) Int Int)) (Option (Str × Str))))) (ea_cons (em_tupL (em_var rfl)) (ea_cons (em_tupL (em_var rfl)) (ea_1 (em_op (em_ofF (ef_cat (em_var rfl) (em_ofF (ef_lst (el_cons (em_as (fun (k_941 : Unit) => (none : (Option (Str × Str)))) (fun _ => rfl) em_non) el_nil))))) em_int fun _ _ => om_ixL)))) (fun _ => rfl) (n := 3) (fun _ => rfl)) (em_var rfl))))))))))))))))))))
theorem ok__law_sort (T : Tx P w K mg) {f : Addr} {fd : FuncData} (F : Fun K "_law_sort" "_law_sort" s__law_sort f fd) : FnOk P w K mg base CX0 1 f fd ["_law_sign"] (spP K 1 .dat pr__law_sort) := by
  have sc := sc__law_sort
  refine F.ok sc (fun vs H Q E h => by obtain ⟨_, _, _, _, hl, _⟩ := h; exact hl) (fun cdv A outer s H vs Q E hr h => ?_)
  refine ⟨_, (pss_cons (ps_ret (pe_op op_add (pe_callTy cr_int1 (by rfl) T.b_int (by decide +kernel) (pa_cons (pe_cmpR or_inStr (pv 0) pe_str (by rfl)) pa_nil)) (pe_op op_mulU pe_int (pe_callTy cr_int1 (by rfl) T.b_int (by decide +kernel) (pa_cons (pe_cmpR op_eq (pv 0) pe_str (nomark _)) pa_nil))))) pss_nil), ?_⟩
  refine fin_pure h fun ds r hp => ?_
  obtain ⟨p0, x, rfl, hm, rfl⟩ := hp
  refine ⟨_, inferInstance, mb__law_sort p0, x, W0, ?_, fin_some hm, rfl⟩
  show EvS K W0 _ [.dat (enc (p0 : Str))] noEnd noEnd (mb__law_sort p0)
  exact (by exact (es_retS (em_op (em_intB (em_op (em_var rfl) em_str fun _ _ => om_inS)) (em_op em_int (em_intB (em_op (em_var rfl) em_str fun _ _ => om_eqS)) fun _ _ => om_mul) fun _ _ => om_I0)))
theorem ok__law_row_text (T : Tx P w K mg) {f : Addr} {fd : FuncData} (F : Fun K "_law_row_text" "_law_row_text" s__law_row_text f fd) : FnOk P w K mg base CX0 2 f fd ["_law_state", "_law_words"] (spS K 2 .dat pr__law_row_text) := by
  obtain ⟨f__law_next, fd__law_next, F__law_next, mg__law_next, b__law_next⟩ := T.d__law_next
  have G__law_next := ok__law_next (P := P) (w := w) (base := base) T F__law_next
  obtain ⟨f__law_sort, fd__law_sort, F__law_sort, mg__law_sort, b__law_sort⟩ := T.d__law_sort
  have G__law_sort := ok__law_sort (P := P) (w := w) (base := base) T F__law_sort
  have sc := sc__law_row_text
  refine F.ok sc (fun vs H Q E h => by obtain ⟨_, _, _, _, _, _, _, _, hl, _⟩ := h; exact hl) (fun cdv A outer s H vs Q E hr h => ?_)
  refine ⟨_, (pss_cons (ps_set (i := 2) sc.nd rfl (by first | exact Or.inl rfl | exact Or.inr rfl) (pe_op op_repS pe_str (pe_ix (r := rIxL K) ix_list (pe_lst (pa_cons pe_int (pa_cons pe_int (pa_cons pe_int pa_nil)))) (pe_call G__law_next (hr.mono (by decide)) (by rfl) mg__law_next F__law_next.kp b__law_next .nil pass0 (pa_cons (pv 0) (pa_cons pe_int pa_nil))) (fun _ _ => rfl)))) (pss_cons (ps_for PassesOwn.never rfl (pi_enum rfl T.b_enumerate (pa_cons (pv 1) pa_nil)) (pg_tup rfl (pgs_cons (pg_name (i := 3) sc.nd rfl (by first | exact Or.inl rfl | exact Or.inr rfl)) (pgs_cons (pg_name (i := 4) sc.nd rfl (by first | exact Or.inl rfl | exact Or.inr rfl)) pgs_nil))) (pss_cons (ps_if (pt_cmpR op_gt (pv 3) pe_int (nomark _)) (pss_cons (ps_set (i := 5) sc.nd rfl (by first | exact Or.inl rfl | exact Or.inr rfl) (pe_callTy cr_int1 (by rfl) T.b_int (by decide +kernel) (pa_cons (pe_and (pe_cmpR op_eq (pe_call G__law_sort (hr.mono (by decide)) (by rfl) mg__law_sort F__law_sort.kp b__law_sort .nil pass0 (pa_cons (pe_ix ix_str (pe_ix (r := rIxL K) ix_list (pv 1) (pe_op op_sub (pv 3) pe_int) (fun _ _ => rfl)) (pe_un un_neg pe_int) (fun _ _ => rfl)) pa_nil)) (pe_call G__law_sort (hr.mono (by decide)) (by rfl) mg__law_sort F__law_sort.kp b__law_sort .nil pass0 (pa_cons (pe_ix ix_str (pv 4) pe_int (fun _ _ => rfl)) pa_nil)) (nomark _)) (pe_one (pe_cmpR op_ne (pv 4) pe_str (nomark _)))) pa_nil))) (pss_cons (ps_set (i := 2) sc.nd rfl (by first | exact Or.inl rfl | exact Or.inr rfl) (pe_op op_add_str (pv 2) (pe_op op_repS pe_str (pe_ix (r := rIxL K) ix_list (pe_lst (pa_cons pe_int (pa_cons (pv 5) (pa_cons pe_int pa_nil)))) (pe_call G__law_next (hr.mono (by decide)) (by rfl) mg__law_next F__law_next.kp b__law_next .nil pass0 (pa_cons (pv 0) (pa_cons pe_int pa_nil))) (fun _ _ => rfl))))) pss_nil)) pss_nil) (pss_cons (ps_set (i := 2) sc.nd rfl (by first | exact Or.inl rfl | exact Or.inr rfl) (pe_op op_add_str (pv 2) (pv 4))) pss_nil))) (pss_cons (ps_ret (pe_op op_add_str (pv 2) (pe_op op_repS pe_str (pe_ix (r := rIxL K) ix_list (pe_lst (pa_cons pe_int (pa_cons pe_int (pa_cons pe_int pa_nil)))) (pe_call G__law_next (hr.mono (by decide)) (by rfl) mg__law_next F__law_next.kp b__law_next .nil pass0 (pa_cons (pv 0) (pa_cons pe_int pa_nil))) (fun _ _ => rfl))))) pss_nil))), ?_⟩
  refine fin_draw h fun q ds k r k2 hp => ?_
  obtain ⟨cl, nm, p0, x, rfl, rfl, hm, rfl⟩ := hp
  refine ⟨_, inferInstance, mb__law_row_text cl nm p0, x, W0, ?_, finS_some hm, rfl⟩
  show EvS K W0 _ [.sr (.run cl nm), .dat (enc (p0 : (List Str))), .un, .un, .un, .un] noEnd noEnd (mb__law_row_text cl nm p0)
  exact (by exact (es_set (em_op em_str (em_op (em_ofF (ef_lst (el_cons em_int (el_cons em_int (el_cons em_int el_nil))))) (em_draw (i := 0) (q := (.run cl nm)) (f := fun p_976 => m__law_next cl nm p_976) rfl (ea_st rfl (ea_dt1 em_int)) (fun _ => rfl) fun b k r k2 h => ⟨_, _, b, r, rfl, rfl, h, rfl⟩) fun _ _ => om_ixL) fun _ _ => om_repS) fun found_968 => (by exact (es_seq (mid := (fun (t_982 : Str) => [.sr (.run cl nm), .dat (enc (p0 : (List Str))), .dat (enc (t_982 : Str)), .un, .un, .un])) (es_for (inv := (fun (t_982 : Str) => [.sr (.run cl nm), .dat (enc (p0 : (List Str))), .dat (enc (t_982 : Str)), .un, .un, .un])) (t0 := found_968) (sd1 := fun (t_982 : Str) (a_983 : (Int × Str)) => [.sr (.run cl nm), .dat (enc (p0 : (List Str))), .dat (enc (t_982 : Str)), .dat (enc (a_983.1 : Int)), .dat (enc (a_983.2 : Str)), .un]) (body := (fun (t_982 : Str) (a_983 : (Int × Str)) => ((andThen (Mn.bnd (Mn.bnd (Mn.pur a_983.1) fun x_984 => Mn.bnd (Mn.pur (0 : Int)) fun y_985 => Mn.pur (decide (y_985 < x_984))) fun b_986 => cnd b_986 (Mn.bnd (Mn.bnd (Mn.bnd (Mn.bnd (Mn.bnd (Mn.bnd (Mn.bnd (Mn.pur p0) fun x_992 => Mn.bnd (Mn.bnd (Mn.pur a_983.1) fun x_990 => Mn.bnd (Mn.pur (1 : Int)) fun y_991 => Mn.pur (x_990 - y_991)) fun y_993 => lift (atI x_992 y_993)) fun x_995 => Mn.bnd (Mn.bnd (Mn.pur (1 : Int)) fun x_994 => Mn.pur (-x_994)) fun y_996 => gd (x_995.length ≤ sizeLine) (Mn.bnd (lift (atI (Array.toList (Str.cps x_995)) y_996)) fun c_997 => Mn.pur (sgn c_997))) fun p_989 => lift (m__law_sort p_989)) fun x_1002 => Mn.bnd (Mn.bnd (Mn.bnd (Mn.pur a_983.2) fun x_999 => Mn.bnd (Mn.pur (0 : Int)) fun y_1000 => gd (x_999.length ≤ sizeLine) (Mn.bnd (lift (atI (Array.toList (Str.cps x_999)) y_1000)) fun c_1001 => Mn.pur (sgn c_1001))) fun p_998 => lift (m__law_sort p_998)) fun y_1003 => Mn.pur (decide (x_1002 = y_1003))) fun b_1006 => cnd b_1006 (Mn.bnd (Mn.pur a_983.2) fun x_1004 => Mn.bnd (Mn.pur ("/" : Str)) fun y_1005 => Mn.pur (!decide (x_1004 = y_1005))) (Mn.pur false)) fun u_1007 => Mn.pur (if u_1007 then (1 : Int) else 0)) fun least_988 => (Mn.bnd (Mn.bnd (Mn.pur t_982) fun x_1021 => Mn.bnd (Mn.bnd (Mn.pur (" " : Str)) fun x_1019 => Mn.bnd (Mn.bnd (Mn.bnd (Mn.bnd (Mn.pur (1 : Int)) fun x_1013 => Mn.bnd (Mn.bnd (Mn.pur least_988) fun x_1011 => Mn.bnd (Mn.bnd (Mn.pur (2 : Int)) fun x_1009 => Mn.bnd (Mn.pur ([] : List Int)) fun y_1010 => Mn.pur (x_1009 :: y_1010)) fun y_1012 => Mn.pur (x_1011 :: y_1012)) fun y_1014 => Mn.pur (x_1013 :: y_1014)) fun l_1015 => gd (List.length l_1015 ≤ 1000) (Mn.pur l_1015)) fun x_1017 => Mn.bnd (Mn.bnd (Mn.pur (3 : Int)) fun p_1016 => m__law_next cl nm p_1016) fun y_1018 => lift (atI x_1017 y_1018)) fun y_1020 => gd (y_1020 < 2 ^ 62 ∧ -(2 ^ 62) < y_1020 ∧ x_1019.length * Int.toNat y_1020 ≤ 1000000) (Mn.pur (repS x_1019 y_1020))) fun y_1022 => gd (x_1021.length + y_1022.length ≤ sizeLine) (Mn.pur (x_1021 ++ y_1022))) fun found_1008 => (Mn.pur (.nx found_1008)))) (Mn.pur (.nx t_982)) : Sm (Fl (Str) (Str) Str)) fun t_987 => (Mn.bnd (Mn.bnd (Mn.pur t_987) fun x_1024 => Mn.bnd (Mn.pur a_983.2) fun y_1025 => gd (x_1024.length + y_1025.length ≤ sizeLine) (Mn.pur (x_1024 ++ y_1025))) fun found_1023 => (Mn.pur (.nx found_1023)))) : Sm (Fl (Str) (Str) Str)))) (ei_enum (ea_1 (em_var rfl))) (.same (.same (.same (.same (.same (.same .nil)))))) (fun _ _ => eg_pair) fun t_982 a_983 => (by exact (es_seq (mid := (fun (t_987 : Str) => [.sr (.run cl nm), .dat (enc (p0 : (List Str))), .dat (enc (t_987 : Str)), .dat (enc (a_983.1 : Int)), .dat (enc (a_983.2 : Str)), .un])) (es_if (eb_T (em_op (em_var rfl) em_int fun _ _ => om_B0)) (by exact (es_set (em_intB (em_and (em_op (em_call (dvs := []) (dds := []) (f := fun p_989 => m__law_sort p_989) (ea_1 (em_op (em_op (em_var rfl) (em_op (em_var rfl) em_int fun _ _ => om_I0) fun _ _ => om_ixL) (em_neg em_int) fun _ _ => om_ixS)) (fun _ => .nil) (fun _ => rfl) fun b r h => ⟨b, r, rfl, h, rfl⟩) (em_call (dvs := []) (dds := []) (f := fun p_998 => m__law_sort p_998) (ea_1 (em_op (em_var rfl) em_int fun _ _ => om_ixS)) (fun _ => .nil) (fun _ => rfl) fun b r h => ⟨b, r, rfl, h, rfl⟩) fun _ _ => om_eqI) (em_op (em_var rfl) em_str fun _ _ => om_neS))) fun least_988 => (by exact (es_set (em_op (em_var rfl) (em_op em_str (em_op (em_ofF (ef_lst (el_cons em_int (el_cons (em_var rfl) (el_cons em_int el_nil))))) (em_draw (i := 0) (q := (.run cl nm)) (f := fun p_1016 => m__law_next cl nm p_1016) rfl (ea_st rfl (ea_dt1 em_int)) (fun _ => rfl) fun b k r k2 h => ⟨_, _, b, r, rfl, rfl, h, rfl⟩) fun _ _ => om_ixL) fun _ _ => om_repS) fun _ _ => om_catS) fun found_1008 => (by exact es_next (.same (.same (.same (.same (.same (.un .nil))))))))))) (by exact es_next (.same (.same (.same (.same (.same (.same .nil)))))))) fun t_987 => (by exact (es_set (em_op (em_var rfl) (em_var rfl) fun _ _ => om_catS) fun found_1023 => (by exact es_next (.same (.same (.same (.un (.un (.same .nil)))))))))))) fun t_982 => (by exact (es_retS (em_op (em_var rfl) (em_op em_str (em_op (em_ofF (ef_lst (el_cons em_int (el_cons em_int (el_cons em_int el_nil))))) (em_draw (i := 0) (q := (.run cl nm)) (f := fun p_1034 => m__law_next cl nm p_1034) rfl (ea_st rfl (ea_dt1 em_int)) (fun _ => rfl) fun b k r k2 h => ⟨_, _, b, r, rfl, rfl, h, rfl⟩) fun _ _ => om_ixL) fun _ _ => om_repS) fun _ _ => om_catS)))))))
theorem ok__law_text (T : Tx P w K mg) {f : Addr} {fd : FuncData} (F : Fun K "_law_text" "_law_text" s__law_text f fd) : FnOk P w K mg base CX0 3 f fd ["_law_state", "_law_rows"] (spS K 2 .dat pr__law_text) := by
  obtain ⟨f__law_next, fd__law_next, F__law_next, mg__law_next, b__law_next⟩ := T.d__law_next
  have G__law_next := ok__law_next (P := P) (w := w) (base := base) T F__law_next
  obtain ⟨f__law_row_text, fd__law_row_text, F__law_row_text, mg__law_row_text, b__law_row_text⟩ := T.d__law_row_text
  have G__law_row_text := ok__law_row_text (P := P) (w := w) (base := base) T F__law_row_text
  have sc := sc__law_text
  refine F.ok sc (fun vs H Q E h => by obtain ⟨_, _, _, _, _, _, _, _, hl, _⟩ := h; exact hl) (fun cdv A outer s H vs Q E hr h => ?_)
  refine ⟨_, (pss_cons (ps_set (i := 2) sc.nd rfl (by first | exact Or.inl rfl | exact Or.inr rfl) (pe_lst pa_nil)) (pss_cons (ps_set (i := 3) sc.nd rfl (by first | exact Or.inl rfl | exact Or.inr rfl) (pe_lst pa_nil)) (pss_cons (ps_for PassesOwn.never rfl (pi_list (pv 1)) (pg_name (i := 4) sc.nd rfl (by first | exact Or.inl rfl | exact Or.inr rfl)) (pss_cons (ps_set (i := 2) sc.nd rfl (by first | exact Or.inl rfl | exact Or.inr rfl) (pe_op op_cat (pv 2) (pe_op op_rep (pe_slice (r := rSlL K) sl_list (pe_lst (pa_cons pe_str (pa_cons pe_str pa_nil))) po_none (po_some (pe_call G__law_next (hr.mono (by decide)) (by rfl) mg__law_next F__law_next.kp b__law_next .nil pass0 (pa_cons (pv 0) (pa_cons pe_int pa_nil))))) (pe_callTy cr_int1 (by rfl) T.b_int (by decide +kernel) (pa_cons (pe_cmpR op_eq (pe_call G__law_next (hr.mono (by decide)) (by rfl) mg__law_next F__law_next.kp b__law_next .nil pass0 (pa_cons (pv 0) (pa_cons pe_int pa_nil))) pe_int (nomark _)) pa_nil))))) (pss_cons (ps_expr (pe_bm PySem.F.plainAttrs_list PySem.F.slot_list_append PySem.F.type_list_append mt_append (pv 3) (pa_cons (pe_callB (r := ON.rLen K) cr_lenU (by rfl) T.b_len (by decide +kernel) (pa_cons (pv 2) pa_nil)) pa_nil))) (pss_cons (ps_expr (pe_bm PySem.F.plainAttrs_list PySem.F.slot_list_append PySem.F.type_list_append mt_append (pv 2) (pa_cons (pe_call G__law_row_text (hr.mono (by decide)) (by rfl) mg__law_row_text F__law_row_text.kp b__law_row_text .nil pass0 (pa_cons (pv 0) (pa_cons (pv 4) pa_nil))) pa_nil))) pss_nil)))) (pss_cons (ps_set (i := 2) sc.nd rfl (by first | exact Or.inl rfl | exact Or.inr rfl) (pe_op op_cat (pv 2) (pe_op op_rep (pe_lst (pa_cons pe_str pa_nil)) (pe_call G__law_next (hr.mono (by decide)) (by rfl) mg__law_next F__law_next.kp b__law_next .nil pass0 (pa_cons (pv 0) (pa_cons pe_int pa_nil)))))) (pss_cons (ps_ret (pe_tup (pa_cons (show PE _ _ (tBM K "str" (rJoin K) _ _) from (pe_bm PySem.F.plainAttrs_str PySem.F.slot_str_join PySem.F.type_str_join mt_joinU pe_str (pa_cons (pv 2) pa_nil))) (pa_cons (pv 3) pa_nil)))) pss_nil))))), ?_⟩
  refine fin_draw h fun q ds k r k2 hp => ?_
  obtain ⟨cl, nm, p0, x, rfl, rfl, hm, rfl⟩ := hp
  refine ⟨_, inferInstance, mb__law_text cl nm p0, x, W0, ?_, finS_some hm, rfl⟩
  show EvS K W0 _ [.sr (.run cl nm), .dat (enc (p0 : (List (List Str)))), .un, .un, .un] noEnd noEnd (mb__law_text cl nm p0)
  exact (by exact (es_setF (ef_lst el_nil) fun lines_1042 => (by exact (es_setF (ef_lst el_nil) fun places_1044 => (by exact (es_seq (mid := (fun (t_1047 : (List Str) × (List Int)) => [.sr (.run cl nm), .dat (enc (p0 : (List (List Str)))), .own (.lst .dat) (enc (t_1047.1 : (List Str))), .own (.lst .dat) (enc (t_1047.2 : (List Int))), .un])) (es_for (inv := (fun (t_1047 : (List Str) × (List Int)) => [.sr (.run cl nm), .dat (enc (p0 : (List (List Str)))), .own (.lst .dat) (enc (t_1047.1 : (List Str))), .own (.lst .dat) (enc (t_1047.2 : (List Int))), .un])) (t0 := (lines_1042, places_1044)) (sd1 := fun (t_1047 : (List Str) × (List Int)) (a_1048 : (List Str)) => [.sr (.run cl nm), .dat (enc (p0 : (List (List Str)))), .own (.lst .dat) (enc (t_1047.1 : (List Str))), .own (.lst .dat) (enc (t_1047.2 : (List Int))), .dat (enc (a_1048 : (List Str)))]) (body := (fun (t_1047 : (List Str) × (List Int)) (a_1048 : (List Str)) => ((Mn.bnd (Mn.bnd (Mn.pur t_1047.1) fun x_1066 => Mn.bnd (Mn.bnd (Mn.bnd (Mn.bnd (Mn.bnd (Mn.pur ("" : Str)) fun x_1052 => Mn.bnd (Mn.bnd (Mn.pur ("  " : Str)) fun x_1050 => Mn.bnd (Mn.pur ([] : List Str)) fun y_1051 => Mn.pur (x_1050 :: y_1051)) fun y_1053 => Mn.pur (x_1052 :: y_1053)) fun l_1054 => gd (List.length l_1054 ≤ 1000) (Mn.pur l_1054)) fun x_1057 => Mn.bnd (Mn.pur (none : Option Int)) fun l_1058 => Mn.bnd (Mn.bnd (Mn.bnd (Mn.pur (3 : Int)) fun p_1055 => m__law_next cl nm p_1055) fun i_1056 => Mn.pur (some i_1056)) fun h_1059 => Mn.pur (cutL x_1057 l_1058 h_1059)) fun x_1064 => Mn.bnd (Mn.bnd (Mn.bnd (Mn.bnd (Mn.pur (4 : Int)) fun p_1060 => m__law_next cl nm p_1060) fun x_1061 => Mn.bnd (Mn.pur (1 : Int)) fun y_1062 => Mn.pur (decide (x_1061 = y_1062))) fun u_1063 => Mn.pur (if u_1063 then (1 : Int) else 0)) fun y_1065 => gd (-(2 ^ 63) ≤ y_1065 ∧ y_1065 < 2 ^ 63 ∧ List.length x_1064 * Int.toNat y_1065 ≤ 100000) (Mn.pur (repL x_1064 y_1065))) fun y_1067 => gd (List.length x_1066 + List.length y_1067 ≤ sizeLine) (Mn.pur (x_1066 ++ y_1067))) fun lines_1049 => (Mn.bnd (Mn.bnd (Mn.pur lines_1049) fun u_1069 => Mn.pur ((List.length u_1069 : Nat) : Int)) fun e_1068 => gd (List.length t_1047.2 < 100000) (Mn.bnd (Mn.pur (t_1047.2 ++ [e_1068])) fun zs_1070 => (Mn.bnd (Mn.bnd (Mn.pur a_1048) fun p_1072 => m__law_row_text cl nm p_1072) fun e_1071 => gd (List.length lines_1049 < 100000) (Mn.bnd (Mn.pur (lines_1049 ++ [e_1071])) fun zs_1073 => (Mn.pur (.nx (zs_1073, zs_1070)))))))) : Sm (Fl ((List Str) × (List Int)) ((List Str) × (List Int)) (Str × (List Int)))))) (ei_list (em_var rfl)) (.same (.same (.same (.same (.same .nil))))) (fun _ _ => eg_name) fun t_1047 a_1048 => (by exact (es_frz (i := 2) rfl (es_setF (ef_cat (em_var rfl) (em_ofF (ef_rep (em_ofF (ef_slice (em_ofF (ef_lst (el_cons em_str (el_cons em_str el_nil)))) eo_none (eo_some (em_draw (i := 0) (q := (.run cl nm)) (f := fun p_1055 => m__law_next cl nm p_1055) rfl (ea_st rfl (ea_dt1 em_int)) (fun _ => rfl) fun b k r k2 h => ⟨_, _, b, r, rfl, rfl, h, rfl⟩)))) (em_intB (em_op (em_draw (i := 0) (q := (.run cl nm)) (f := fun p_1060 => m__law_next cl nm p_1060) rfl (ea_st rfl (ea_dt1 em_int)) (fun _ => rfl) fun b k r k2 h => ⟨_, _, b, r, rfl, rfl, h, rfl⟩) em_int fun _ _ => om_eqI))))) fun lines_1049 => (by exact (es_appP (xs := t_1047.2) rfl (em_borrow (em_lenL (em_var rfl)) (.same rfl (.same rfl (.fz rfl (.un (.same rfl .nil)))))) fun zs_1070 => (by exact (es_appP (xs := lines_1049) rfl (em_draw (i := 0) (q := (.run cl nm)) (f := fun p_1072 => m__law_row_text cl nm p_1072) rfl (ea_st rfl (ea_dt1 (em_var rfl))) (fun _ => rfl) fun b k r k2 h => ⟨_, _, b, r, rfl, rfl, h, rfl⟩) fun zs_1073 => (by exact es_next (.same (.same (.same (.same (.un .nil)))))))))))))) fun t_1047 => (by exact (es_frz (i := 2) rfl (es_setF (ef_cat (em_var rfl) (em_ofF (ef_rep (em_ofF (ef_lst (el_cons em_str el_nil))) (em_draw (i := 0) (q := (.run cl nm)) (f := fun p_1078 => m__law_next cl nm p_1078) rfl (ea_st rfl (ea_dt1 em_int)) (fun _ => rfl) fun b k r k2 h => ⟨_, _, b, r, rfl, rfl, h, rfl⟩)))) fun lines_1074 => (by exact (es_frz (i := 2) rfl (es_frz (i := 3) rfl (es_retS (em_tup2 (em_join (em_var rfl)) (em_var rfl)))))))))))))))
theorem ok__law_shown (T : Tx P w K mg) {f : Addr} {fd : FuncData} (F : Fun K "_law_shown" "_law_shown" s__law_shown f fd) : FnOk P w K mg base CX0 1 f fd ["_law_ratio_here"] (spP K 1 .dat pr__law_shown) := by
  have sc := sc__law_shown
  refine F.ok sc (fun vs H Q E h => by obtain ⟨_, _, _, _, hl, _⟩ := h; exact hl) (fun cdv A outer s H vs Q E hr h => ?_)
  refine ⟨_, (pss_cons (ps_set (i := 1) sc.nd rfl (by first | exact Or.inl rfl | exact Or.inr rfl) (pe_lst (pa_cons pe_int (pa_cons pe_int pa_nil)))) (pss_cons (ps_for PassesOwn.never rfl (RZ.pi_zipA rfl T.b_zip (pa_cons (pv 0) (pa_cons (pe_tup (pa_cons pe_int (pa_cons pe_int (pa_cons pe_int (pa_cons pe_int pa_nil))))) pa_nil))) (pg_tup rfl (pgs_cons (pg_name (i := 2) sc.nd rfl (by first | exact Or.inl rfl | exact Or.inr rfl)) (pgs_cons (pg_name (i := 3) sc.nd rfl (by first | exact Or.inl rfl | exact Or.inr rfl)) pgs_nil))) (pss_cons (ps_for PassesOwn.never rfl (pi_range1 rfl T.b_range (pa_cons (pe_callB (r := rAbs) cr_abs (by rfl) T.b_abs (by decide +kernel) (pa_cons (pv 2) pa_nil)) pa_nil)) (pg_name (i := 4) sc.nd rfl (by first | exact Or.inl rfl | exact Or.inr rfl)) (pss_cons (ps_asg (pe_op op_mulU (pe_ix (r := rIxL K) ix_list (pv 1) (pe_callTy cr_int1 (by rfl) T.b_int (by decide +kernel) (pa_cons (pe_cmpR op_lt (pv 2) pe_int (nomark _)) pa_nil)) (fun _ _ => rfl)) (pv 3)) (pg_sub (pv 1) (pe_callTy cr_int1 (by rfl) T.b_int (by decide +kernel) (pa_cons (pe_cmpR op_lt (pv 2) pe_int (nomark _)) pa_nil)) set_list)) pss_nil)) pss_nil)) (pss_cons (ps_ret (pe_op op_add_str (pe_op op_add_str (pe_callTy cr_strU (by rfl) T.b_str (by decide +kernel) (pa_cons (pe_ix (r := rIxL K) ix_list (pv 1) pe_int (fun _ _ => rfl)) pa_nil)) pe_str) (pe_callTy cr_strU (by rfl) T.b_str (by decide +kernel) (pa_cons (pe_ix (r := rIxL K) ix_list (pv 1) pe_int (fun _ _ => rfl)) pa_nil)))) pss_nil))), ?_⟩
  refine fin_pure h fun ds r hp => ?_
  obtain ⟨p0, x, rfl, hm, rfl⟩ := hp
  refine ⟨_, inferInstance, mb__law_shown p0, x, W0, ?_, fin_some hm, rfl⟩
  show EvS K W0 _ [.dat (enc (p0 : (Tl Int))), .un, .un, .un, .un] noEnd noEnd (mb__law_shown p0)
  exact (by exact (es_setF (ef_lst (el_cons em_int (el_cons em_int el_nil))) fun found_1088 => (by exact (es_seq (mid := (fun (t_1105 : (List Int)) => [.dat (enc (p0 : (Tl Int))), .own (.lst .dat) (enc (t_1105 : (List Int))), .un, .un, .un])) (es_for (inv := (fun (t_1105 : (List Int)) => [.dat (enc (p0 : (Tl Int))), .own (.lst .dat) (enc (t_1105 : (List Int))), .un, .un, .un])) (t0 := found_1088) (sd1 := fun (t_1105 : (List Int)) (a_1106 : (Int × Int)) => [.dat (enc (p0 : (Tl Int))), .own (.lst .dat) (enc (t_1105 : (List Int))), .dat (enc (a_1106.1 : Int)), .dat (enc (a_1106.2 : Int)), .un]) (body := (fun (t_1105 : (List Int)) (a_1106 : (Int × Int)) => ((andThen (Mn.bnd (Mn.bnd (Mn.bnd (Mn.pur a_1106.1) fun u_1107 => Mn.pur (absI u_1107)) fun n_1108 => gd (-(2 ^ 62) ≤ n_1108 ∧ n_1108 < 2 ^ 62) (Mn.pur (upTo 0 (Int.toNat n_1108) 1))) fun w_1123 => forL (fun (t_1109 : (List Int)) (a_1110 : Int) => ((Mn.bnd (Mn.bnd (Mn.bnd (Mn.bnd (Mn.bnd (Mn.pur a_1106.1) fun x_1111 => Mn.bnd (Mn.pur (0 : Int)) fun y_1112 => Mn.pur (decide (x_1111 < y_1112))) fun u_1113 => Mn.pur (if u_1113 then (1 : Int) else 0)) fun y_1114 => lift (atI t_1109 y_1114)) fun x_1115 => Mn.bnd (Mn.pur a_1106.2) fun y_1116 => gd (ON.MulOk x_1115 y_1116) (Mn.pur (x_1115 * y_1116))) fun x_1120 => Mn.bnd (Mn.bnd (Mn.bnd (Mn.pur a_1106.1) fun x_1117 => Mn.bnd (Mn.pur (0 : Int)) fun y_1118 => Mn.pur (decide (x_1117 < y_1118))) fun u_1119 => Mn.pur (if u_1119 then (1 : Int) else 0)) fun y_1121 => Mn.bnd (lift (setI t_1109 y_1121 x_1120)) fun found_1122 => (Mn.pur (.nx found_1122))) : Option (Fl ((List Int)) ((List Int)) Str))) w_1123 t_1105 : Option (Fl ((List Int)) ((List Int)) Str)) fun t_1109 => (Mn.pur (.nx t_1109))) : Option (Fl ((List Int)) ((List Int)) Str)))) (ei_zipT (ea_cons (em_var rfl) (ea_1 (em_as (fun (k_1101 : (T4 Int Int Int Int)) => (⟨[k_1101.a, k_1101.b, k_1101.c, k_1101.d]⟩ : (Tl Int))) (fun _ => rfl) (em_tupN (fun t_1100 => (⟨t_1100.1, t_1100.2.1, t_1100.2.2.1, t_1100.2.2.2⟩ : (T4 Int Int Int Int))) (ea_cons em_int (ea_cons em_int (ea_cons em_int (ea_1 em_int)))) (fun _ => rfl) (n := 4) (fun _ => rfl)))))) (.same (.same (.same (.same (.same .nil))))) (fun _ _ => eg_pair) fun t_1105 a_1106 => (by exact (es_seq (mid := (fun (t_1109 : (List Int)) => [.dat (enc (p0 : (Tl Int))), .own (.lst .dat) (enc (t_1109 : (List Int))), .dat (enc (a_1106.1 : Int)), .dat (enc (a_1106.2 : Int)), .un])) (es_for (inv := (fun (t_1109 : (List Int)) => [.dat (enc (p0 : (Tl Int))), .own (.lst .dat) (enc (t_1109 : (List Int))), .dat (enc (a_1106.1 : Int)), .dat (enc (a_1106.2 : Int)), .un])) (t0 := t_1105) (sd1 := fun (t_1109 : (List Int)) (a_1110 : Int) => [.dat (enc (p0 : (Tl Int))), .own (.lst .dat) (enc (t_1109 : (List Int))), .dat (enc (a_1106.1 : Int)), .dat (enc (a_1106.2 : Int)), .dat (enc (a_1110 : Int))]) (body := (fun (t_1109 : (List Int)) (a_1110 : Int) => ((Mn.bnd (Mn.bnd (Mn.bnd (Mn.bnd (Mn.bnd (Mn.pur a_1106.1) fun x_1111 => Mn.bnd (Mn.pur (0 : Int)) fun y_1112 => Mn.pur (decide (x_1111 < y_1112))) fun u_1113 => Mn.pur (if u_1113 then (1 : Int) else 0)) fun y_1114 => lift (atI t_1109 y_1114)) fun x_1115 => Mn.bnd (Mn.pur a_1106.2) fun y_1116 => gd (ON.MulOk x_1115 y_1116) (Mn.pur (x_1115 * y_1116))) fun x_1120 => Mn.bnd (Mn.bnd (Mn.bnd (Mn.pur a_1106.1) fun x_1117 => Mn.bnd (Mn.pur (0 : Int)) fun y_1118 => Mn.pur (decide (x_1117 < y_1118))) fun u_1119 => Mn.pur (if u_1119 then (1 : Int) else 0)) fun y_1121 => Mn.bnd (lift (setI t_1109 y_1121 x_1120)) fun found_1122 => (Mn.pur (.nx found_1122))) : Option (Fl ((List Int)) ((List Int)) Str)))) (ei_rng1 (ea_1 (em_abs (em_var rfl)))) (.same (.same (.same (.same (.same .nil))))) (fun _ _ => eg_name) fun t_1109 a_1110 => (by exact (es_putL (xs := t_1109) rfl (em_op (em_ixO (xs := t_1109) rfl (em_intB (em_op (em_var rfl) em_int fun _ _ => om_B0))) (em_var rfl) fun _ _ => om_mul) (em_intB (em_op (em_var rfl) em_int fun _ _ => om_B0)) fun found_1122 => (by exact es_next (.same (.same (.same (.same (.un .nil))))))))) fun t_1109 => (by exact es_next (.same (.same (.un (.un (.same .nil))))))))) fun t_1105 => (by exact (es_retS (em_op (em_op (em_str1 (em_ixO (xs := t_1105) rfl em_int)) em_str fun _ _ => om_catS) (em_str1 (em_ixO (xs := t_1105) rfl em_int)) fun _ _ => om_catS)))))))
theorem ok__law_written (T : Tx P w K mg) {f : Addr} {fd : FuncData} (F : Fun K "_law_written" "_law_written" s__law_written f fd) : FnOk P w K mg base CX0 2 f fd ["_law_song_here"] (spP K 1 .dat pr__law_written) := by
  obtain ⟨f__law_shown, fd__law_shown, F__law_shown, mg__law_shown, b__law_shown⟩ := T.d__law_shown
  have G__law_shown := ok__law_shown (P := P) (w := w) (base := base) T F__law_shown
  have sc := sc__law_written
  refine F.ok sc (fun vs H Q E h => by obtain ⟨_, _, _, _, hl, _⟩ := h; exact hl) (fun cdv A outer s H vs Q E hr h => ?_)
  refine ⟨_, (pss_cons (ps_setLc (i := 1) (own := [("_law_note", 9)]) (g := gName 9) rfl sc.nd rfl rfl (sw_true rfl rfl rfl (by decide +kernel)) (pi_tup (pe_ix (r := rIxT K) ix_tup (pv 0) pe_int (fun _ _ => rfl))) (blkOk_by (N := ["_law_song_here", "_law_rows", "_law_word", "_law_one", "_law_other", "_law_ratio_here", "_law_bend", "_law_weight", "_law_row", "_law_note"]) (sc := defScope s__law_written) (by decide +kernel)) (fun _ _ _ _ _ => (pg_name (i := 9) sc.nd rfl (by first | exact Or.inl rfl | exact Or.inr rfl))) (fun _ _ _ _ _ => pts_nil) (fun _ _ _ _ _ => (by exact (show PE _ _ (tBM K "str" (rJoin K) _ _) from (pe_bm PySem.F.plainAttrs_str PySem.F.slot_str_join PySem.F.type_str_join mt_joinU pe_str (pa_cons (pe_lst (pa_cons pe_str (pa_cons (pe_ix (r := rIxT K) ix_tup (pv 9) pe_int (fun _ _ => rfl)) (pa_cons (pe_ix (r := rIxT K) ix_tup (pv 9) pe_int (fun _ _ => rfl)) (pa_cons (pe_callTy cr_strU (by rfl) T.b_str (by decide +kernel) (pa_cons (pe_ix (r := rIxT K) ix_tup (pv 9) pe_int (fun _ _ => rfl)) pa_nil)) (pa_cons (pe_callTy cr_strU (by rfl) T.b_str (by decide +kernel) (pa_cons (pe_ix (r := rIxT K) ix_tup (pv 9) pe_int (fun _ _ => rfl)) pa_nil)) pa_nil)))))) pa_nil)))))) (pss_cons (ps_for PassesOwn.never rfl (pi_tup (pe_ix (r := rIxT K) ix_tup (pv 0) pe_int (fun _ _ => rfl))) (pg_tup rfl (pgs_cons (pg_name (i := 2) sc.nd rfl (by first | exact Or.inl rfl | exact Or.inr rfl)) (pgs_cons (pg_name (i := 3) sc.nd rfl (by first | exact Or.inl rfl | exact Or.inr rfl)) (pgs_cons (pg_name (i := 4) sc.nd rfl (by first | exact Or.inl rfl | exact Or.inr rfl)) (pgs_cons (pg_name (i := 5) sc.nd rfl (by first | exact Or.inl rfl | exact Or.inr rfl)) (pgs_cons (pg_name (i := 6) sc.nd rfl (by first | exact Or.inl rfl | exact Or.inr rfl)) (pgs_cons (pg_name (i := 7) sc.nd rfl (by first | exact Or.inl rfl | exact Or.inr rfl)) pgs_nil))))))) (pss_cons (ps_set (i := 8) sc.nd rfl (by first | exact Or.inl rfl | exact Or.inr rfl) (pe_op op_add_str (pe_op op_add_str (pe_op op_add_str (pe_op op_add_str (pv 2) pe_str) (pv 3)) pe_str) (pv 4))) (pss_cons (ps_if (pt_cmpR op_ne (pv 2) pe_str (nomark _)) (pss_cons (ps_set (i := 8) sc.nd rfl (by first | exact Or.inl rfl | exact Or.inr rfl) (pe_op op_add_str (pe_op op_add_str (pv 8) pe_str) (pe_call G__law_shown (hr.mono (by decide)) (by rfl) mg__law_shown F__law_shown.kp b__law_shown .nil pass0 (pa_cons (pv 5) pa_nil)))) pss_nil) pss_nil) (pss_cons (ps_if (pt_cmpR (r := rNeD K) (op_neD (room64 hr)) (pe_tup (pa_cons (pv 6) (pa_cons (pv 7) pa_nil))) (pe_tup (pa_cons pe_int (pa_cons pe_int pa_nil))) (nomark _)) (pss_cons (ps_set (i := 8) sc.nd rfl (by first | exact Or.inl rfl | exact Or.inr rfl) (pe_op op_add_str (pe_op op_add_str (pv 8) pe_str) (pe_callTy cr_strU (by rfl) T.b_str (by decide +kernel) (pa_cons (pv 6) pa_nil)))) pss_nil) pss_nil) (pss_cons (ps_expr (pe_bm PySem.F.plainAttrs_list PySem.F.slot_list_append PySem.F.type_list_append mt_append (pv 1) (pa_cons (pe_op op_add_str (pv 8) (pe_op op_repS (pe_op op_add_str pe_str (pe_callTy cr_strU (by rfl) T.b_str (by decide +kernel) (pa_cons (pv 7) pa_nil))) (pe_callTy cr_int1 (by rfl) T.b_int (by decide +kernel) (pa_cons (pe_cmpR op_ne (pv 7) pe_int (nomark _)) pa_nil)))) pa_nil))) pss_nil))))) (pss_cons (ps_if (pt_cmpR or_notN (pe_ix (r := rIxT K) ix_tup (pv 0) pe_int (fun _ _ => rfl)) pe_non (nomark _)) (pss_cons (ps_expr (pe_bm PySem.F.plainAttrs_list PySem.F.slot_list_append PySem.F.type_list_append mt_append (pv 1) (pa_cons (pe_op op_add_str pe_str (show PE _ _ (tBM K "str" (rJoin K) _ _) from (pe_bm PySem.F.plainAttrs_str PySem.F.slot_str_join PySem.F.type_str_join mt_joinU pe_str (pa_cons (pe_ix (r := rIxT K) ix_tup (pv 0) pe_int (fun _ _ => rfl)) pa_nil)))) pa_nil))) pss_nil) pss_nil) (pss_cons (ps_ret (show PE _ _ (tBM K "str" (rJoin K) _ _) from (pe_bm PySem.F.plainAttrs_str PySem.F.slot_str_join PySem.F.type_str_join mt_joinU pe_str (pa_cons (pv 1) pa_nil)))) pss_nil)))), ?_⟩
  refine fin_pure h fun ds r hp => ?_
  obtain ⟨p0, x, rfl, hm, rfl⟩ := hp
  refine ⟨_, inferInstance, mb__law_written p0, x, W0, ?_, fin_some hm, rfl⟩
  show EvS K W0 _ [.dat (enc (p0 : (T3 (Tl (T4 Str Str Int Int)) (Tl (T6 Str Str Str (Tl Int) Int Int)) (Option (Str × Str))))), .un, .un, .un, .un, .un, .un, .un, .un, .un] noEnd noEnd (mb__law_written p0)
  exact (by exact (es_setF (ef_lc (vs := [9]) (is := [9]) (sd1 := fun (a_1137 : (T4 Str Str Int Int)) => [.dat (enc (p0 : (T3 (Tl (T4 Str Str Int Int)) (Tl (T6 Str Str Str (Tl Int) Int Int)) (Option (Str × Str))))), .un, .un, .un, .un, .un, .un, .un, .un, .dat (enc (a_1137 : (T4 Str Str Int Int)))]) (ei_tup (em_fldT (i := 0) (fun (x_1135 : (T3 (Tl (T4 Str Str Int Int)) (Tl (T6 Str Str Str (Tl Int) Int Int)) (Option (Str × Str)))) => x_1135.a) (em_var rfl) (fun _ => ⟨_, rfl, rfl⟩))) (fun _ => eg_name) (by decide) (fun a_1137 => eb_yes) (fun a_1137 => (em_join (em_ofF (ef_lst (el_cons em_str (el_cons (em_fldT (i := 0) (fun (x_1144 : (T4 Str Str Int Int)) => x_1144.a) (em_var rfl) (fun _ => ⟨_, rfl, rfl⟩)) (el_cons (em_fldT (i := 1) (fun (x_1145 : (T4 Str Str Int Int)) => x_1145.b) (em_var rfl) (fun _ => ⟨_, rfl, rfl⟩)) (el_cons (em_str1 (em_fldT (i := 2) (fun (x_1146 : (T4 Str Str Int Int)) => x_1146.c) (em_var rfl) (fun _ => ⟨_, rfl, rfl⟩))) (el_cons (em_str1 (em_fldT (i := 3) (fun (x_1148 : (T4 Str Str Int Int)) => x_1148.d) (em_var rfl) (fun _ => ⟨_, rfl, rfl⟩))) el_nil))))))))) (fun a_1137 => (.same (.same (.same (.same (.same (.same (.same (.same (.same (.un .nil))))))))))) (noOwn_by rfl)) fun rows_1134 => (by exact (es_seq (mid := (fun (t_1165 : (List Str)) => [.dat (enc (p0 : (T3 (Tl (T4 Str Str Int Int)) (Tl (T6 Str Str Str (Tl Int) Int Int)) (Option (Str × Str))))), .own (.lst .dat) (enc (t_1165 : (List Str))), .un, .un, .un, .un, .un, .un, .un, .un])) (es_for (inv := (fun (t_1165 : (List Str)) => [.dat (enc (p0 : (T3 (Tl (T4 Str Str Int Int)) (Tl (T6 Str Str Str (Tl Int) Int Int)) (Option (Str × Str))))), .own (.lst .dat) (enc (t_1165 : (List Str))), .un, .un, .un, .un, .un, .un, .un, .un])) (t0 := rows_1134) (sd1 := fun (t_1165 : (List Str)) (a_1166 : (T6 Str Str Str (Tl Int) Int Int)) => [.dat (enc (p0 : (T3 (Tl (T4 Str Str Int Int)) (Tl (T6 Str Str Str (Tl Int) Int Int)) (Option (Str × Str))))), .own (.lst .dat) (enc (t_1165 : (List Str))), .dat (enc (a_1166.a : Str)), .dat (enc (a_1166.b : Str)), .dat (enc (a_1166.c : Str)), .dat (enc (a_1166.d : (Tl Int))), .dat (enc (a_1166.e : Int)), .dat (enc (a_1166.f : Int)), .un, .un]) (body := (fun (t_1165 : (List Str)) (a_1166 : (T6 Str Str Str (Tl Int) Int Int)) => ((Mn.bnd (Mn.bnd (Mn.bnd (Mn.bnd (Mn.bnd (Mn.pur a_1166.a) fun x_1168 => Mn.bnd (Mn.pur (" " : Str)) fun y_1169 => gd (x_1168.length + y_1169.length ≤ sizeLine) (Mn.pur (x_1168 ++ y_1169))) fun x_1170 => Mn.bnd (Mn.pur a_1166.b) fun y_1171 => gd (x_1170.length + y_1171.length ≤ sizeLine) (Mn.pur (x_1170 ++ y_1171))) fun x_1172 => Mn.bnd (Mn.pur (" " : Str)) fun y_1173 => gd (x_1172.length + y_1173.length ≤ sizeLine) (Mn.pur (x_1172 ++ y_1173))) fun x_1174 => Mn.bnd (Mn.pur a_1166.c) fun y_1175 => gd (x_1174.length + y_1175.length ≤ sizeLine) (Mn.pur (x_1174 ++ y_1175))) fun row_1167 => (andThen (Mn.bnd (Mn.bnd (Mn.pur a_1166.a) fun x_1176 => Mn.bnd (Mn.pur ("held" : Str)) fun y_1177 => Mn.pur (!decide (x_1176 = y_1177))) fun b_1178 => cnd b_1178 (Mn.bnd (Mn.bnd (Mn.bnd (Mn.pur row_1167) fun x_1181 => Mn.bnd (Mn.pur (" " : Str)) fun y_1182 => gd (x_1181.length + y_1182.length ≤ sizeLine) (Mn.pur (x_1181 ++ y_1182))) fun x_1184 => Mn.bnd (Mn.bnd (Mn.pur a_1166.d) fun p_1183 => lift (m__law_shown p_1183)) fun y_1185 => gd (x_1184.length + y_1185.length ≤ sizeLine) (Mn.pur (x_1184 ++ y_1185))) fun row_1180 => (Mn.pur (.nx row_1180))) (Mn.pur (.nx row_1167)) : Option (Fl (Str) ((List Str)) Str)) fun t_1179 => (andThen (Mn.bnd (Mn.bnd (Mn.bnd (Mn.pur a_1166.e) fun x_1188 => Mn.bnd (Mn.pur a_1166.f) fun y_1189 => Mn.pur (x_1188, y_1189)) fun x_1192 => Mn.bnd (Mn.bnd (Mn.pur (50 : Int)) fun x_1190 => Mn.bnd (Mn.pur (1 : Int)) fun y_1191 => Mn.pur (x_1190, y_1191)) fun y_1193 => gd (Shp (enc x_1192) = true ∧ Shp (enc y_1193) = true) (Mn.pur (!deqv (enc x_1192) (enc y_1193)))) fun b_1194 => cnd b_1194 (Mn.bnd (Mn.bnd (Mn.bnd (Mn.pur t_1179) fun x_1197 => Mn.bnd (Mn.pur (" bend " : Str)) fun y_1198 => gd (x_1197.length + y_1198.length ≤ sizeLine) (Mn.pur (x_1197 ++ y_1198))) fun x_1200 => Mn.bnd (Mn.bnd (Mn.pur a_1166.e) fun u_1199 => gd (Nat.log2 (Int.natAbs u_1199) < 1920) (Mn.pur (strI u_1199))) fun y_1201 => gd (x_1200.length + y_1201.length ≤ sizeLine) (Mn.pur (x_1200 ++ y_1201))) fun row_1196 => (Mn.pur (.nx row_1196))) (Mn.pur (.nx t_1179)) : Option (Fl (Str) ((List Str)) Str)) fun t_1195 => (Mn.bnd (Mn.bnd (Mn.pur t_1195) fun x_1211 => Mn.bnd (Mn.bnd (Mn.bnd (Mn.pur (" weight " : Str)) fun x_1204 => Mn.bnd (Mn.bnd (Mn.pur a_1166.f) fun u_1203 => gd (Nat.log2 (Int.natAbs u_1203) < 1920) (Mn.pur (strI u_1203))) fun y_1205 => gd (x_1204.length + y_1205.length ≤ sizeLine) (Mn.pur (x_1204 ++ y_1205))) fun x_1209 => Mn.bnd (Mn.bnd (Mn.bnd (Mn.pur a_1166.f) fun x_1206 => Mn.bnd (Mn.pur (1 : Int)) fun y_1207 => Mn.pur (!decide (x_1206 = y_1207))) fun u_1208 => Mn.pur (if u_1208 then (1 : Int) else 0)) fun y_1210 => gd (y_1210 < 2 ^ 62 ∧ -(2 ^ 62) < y_1210 ∧ x_1209.length * Int.toNat y_1210 ≤ 1000000) (Mn.pur (repS x_1209 y_1210))) fun y_1212 => gd (x_1211.length + y_1212.length ≤ sizeLine) (Mn.pur (x_1211 ++ y_1212))) fun e_1202 => gd (List.length t_1165 < 100000) (Mn.bnd (Mn.pur (t_1165 ++ [e_1202])) fun zs_1213 => (Mn.pur (.nx zs_1213))))))) : Option (Fl ((List Str)) ((List Str)) Str)))) (ei_tup (em_fldT (i := 1) (fun (x_1163 : (T3 (Tl (T4 Str Str Int Int)) (Tl (T6 Str Str Str (Tl Int) Int Int)) (Option (Str × Str)))) => x_1163.b) (em_var rfl) (fun _ => ⟨_, rfl, rfl⟩))) (.same (.same (.same (.same (.same (.same (.same (.same (.same (.same .nil)))))))))) (fun _ _ => eg_t6) fun t_1165 a_1166 => (by exact (es_set (em_op (em_op (em_op (em_op (em_var rfl) em_str fun _ _ => om_catS) (em_var rfl) fun _ _ => om_catS) em_str fun _ _ => om_catS) (em_var rfl) fun _ _ => om_catS) fun row_1167 => (by exact (es_seq (mid := (fun (t_1179 : Str) => [.dat (enc (p0 : (T3 (Tl (T4 Str Str Int Int)) (Tl (T6 Str Str Str (Tl Int) Int Int)) (Option (Str × Str))))), .own (.lst .dat) (enc (t_1165 : (List Str))), .dat (enc (a_1166.a : Str)), .dat (enc (a_1166.b : Str)), .dat (enc (a_1166.c : Str)), .dat (enc (a_1166.d : (Tl Int))), .dat (enc (a_1166.e : Int)), .dat (enc (a_1166.f : Int)), .dat (enc (t_1179 : Str)), .un])) (es_if (eb_T (em_op (em_var rfl) em_str fun _ _ => om_neS)) (by exact (es_set (em_op (em_op (em_var rfl) em_str fun _ _ => om_catS) (em_call (dvs := []) (dds := []) (f := fun p_1183 => m__law_shown p_1183) (ea_1 (em_var rfl)) (fun _ => .nil) (fun _ => rfl) fun b r h => ⟨b, r, rfl, h, rfl⟩) fun _ _ => om_catS) fun row_1180 => (by exact es_next (.same (.same (.same (.same (.same (.same (.same (.same (.same (.same .nil))))))))))))) (by exact es_next (.same (.same (.same (.same (.same (.same (.same (.same (.same (.same .nil)))))))))))) fun t_1179 => (by exact (es_seq (mid := (fun (t_1195 : Str) => [.dat (enc (p0 : (T3 (Tl (T4 Str Str Int Int)) (Tl (T6 Str Str Str (Tl Int) Int Int)) (Option (Str × Str))))), .own (.lst .dat) (enc (t_1165 : (List Str))), .dat (enc (a_1166.a : Str)), .dat (enc (a_1166.b : Str)), .dat (enc (a_1166.c : Str)), .dat (enc (a_1166.d : (Tl Int))), .dat (enc (a_1166.e : Int)), .dat (enc (a_1166.f : Int)), .dat (enc (t_1195 : Str)), .un])) (es_if (eb_T (em_op (em_tup2 (em_var rfl) (em_var rfl)) (em_tup2 em_int em_int) fun _ _ => om_neD)) (by exact (es_set (em_op (em_op (em_var rfl) em_str fun _ _ => om_catS) (em_str1 (em_var rfl)) fun _ _ => om_catS) fun row_1196 => (by exact es_next (.same (.same (.same (.same (.same (.same (.same (.same (.same (.same .nil))))))))))))) (by exact es_next (.same (.same (.same (.same (.same (.same (.same (.same (.same (.same .nil)))))))))))) fun t_1195 => (by exact (es_appP (xs := t_1165) rfl (em_op (em_var rfl) (em_op (em_op em_str (em_str1 (em_var rfl)) fun _ _ => om_catS) (em_intB (em_op (em_var rfl) em_int fun _ _ => om_neI)) fun _ _ => om_repS) fun _ _ => om_catS) fun zs_1213 => (by exact es_next (.same (.same (.un (.un (.un (.un (.un (.un (.un (.same .nil)))))))))))))))))))) fun t_1165 => (by exact (es_seq (mid := (fun (t_1217 : (List Str)) => [.dat (enc (p0 : (T3 (Tl (T4 Str Str Int Int)) (Tl (T6 Str Str Str (Tl Int) Int Int)) (Option (Str × Str))))), .own (.lst .dat) (enc (t_1217 : (List Str))), .un, .un, .un, .un, .un, .un, .un, .un])) (es_if (eb_T (em_notN (em_fldT (i := 2) (fun (x_1214 : (T3 (Tl (T4 Str Str Int Int)) (Tl (T6 Str Str Str (Tl Int) Int Int)) (Option (Str × Str)))) => x_1214.c) (em_var rfl) (fun _ => ⟨_, rfl, rfl⟩)) )) (by exact (es_appP (xs := t_1165) rfl (em_op em_str (em_joinP (em_dec id dec_opt (em_fldT (i := 2) (fun (x_1219 : (T3 (Tl (T4 Str Str Int Int)) (Tl (T6 Str Str Str (Tl Int) Int Int)) (Option (Str × Str)))) => x_1219.c) (em_var rfl) (fun _ => ⟨_, rfl, rfl⟩)))) fun _ _ => om_catS) fun zs_1224 => (by exact es_next (.same (.same (.same (.same (.same (.same (.same (.same (.same (.same .nil))))))))))))) (by exact es_next (.same (.same (.same (.same (.same (.same (.same (.same (.same (.same .nil)))))))))))) fun t_1217 => (by exact (es_retS (em_borrow (em_join (em_var rfl)) (.same rfl (.fz rfl (.same rfl (.same rfl (.same rfl (.same rfl (.same rfl (.same rfl (.same rfl (.same rfl .nil)))))))))))))))))))
theorem ok__law_step (T : Tx P w K mg) {f : Addr} {fd : FuncData} (F : Fun K "_law_step" "_law_step" s__law_step f fd) : FnOk P w K mg base CX0 11 f fd ["_law_cells"] (spP K 1 .dat pr__law_step) := by
  obtain ⟨f__law_begun, fd__law_begun, F__law_begun, mg__law_begun, b__law_begun⟩ := T.d__law_begun
  have G__law_begun := ok__law_begun (P := P) (w := w) (base := base) T F__law_begun
  obtain ⟨f__law_next, fd__law_next, F__law_next, mg__law_next, b__law_next⟩ := T.d__law_next
  have G__law_next := ok__law_next (P := P) (w := w) (base := base) T F__law_next
  obtain ⟨f__law_song, fd__law_song, F__law_song, mg__law_song, b__law_song⟩ := T.d__law_song
  have G__law_song := ok__law_song (P := P) (w := w) (base := base) T F__law_song
  obtain ⟨f__law_text, fd__law_text, F__law_text, mg__law_text, b__law_text⟩ := T.d__law_text
  have G__law_text := ok__law_text (P := P) (w := w) (base := base) T F__law_text
  obtain ⟨f__law_written, fd__law_written, F__law_written, mg__law_written, b__law_written⟩ := T.d__law_written
  have G__law_written := ok__law_written (P := P) (w := w) (base := base) T F__law_written
  obtain ⟨f_read, fd_read, F_read, mg_read, b_read⟩ := T.d_read
  have G_read := ok_read (P := P) (w := w) (base := base) T F_read
  obtain ⟨f_written, fd_written, F_written, mg_written, b_written⟩ := T.d_written
  have G_written := ok_written (P := P) (w := w) (base := base) T F_written
  have sc := sc__law_step
  refine F.ok sc (fun vs H Q E h => by obtain ⟨_, _, _, _, hl, _⟩ := h; exact hl) (fun cdv A outer s H vs Q E hr h => ?_)
  refine ⟨_, (pss_cons (ps_set (i := 1) sc.nd rfl (by first | exact Or.inl rfl | exact Or.inr rfl) (pe_call G__law_begun (hr.mono (by decide)) (by rfl) mg__law_begun F__law_begun.kp b__law_begun .nil pass0 (pa_cons (pv 0) pa_nil))) (pss_cons (ps_asg (pe_call G__law_song (hr.mono (by decide)) (by rfl) mg__law_song F__law_song.kp b__law_song .nil pass0 (pa_cons (pv 1) (pa_cons (pe_ix (r := rIxL K) ix_list (pe_lst (pa_cons pe_int (pa_cons pe_int (pa_cons pe_int pa_nil)))) (pe_call G__law_next (hr.mono (by decide)) (by rfl) mg__law_next F__law_next.kp b__law_next .nil pass0 (pa_cons (pv 1) (pa_cons pe_int pa_nil))) (fun _ _ => rfl)) pa_nil))) (pg_tup rfl (pgs_cons (pg_name (i := 5) sc.nd rfl (by first | exact Or.inl rfl | exact Or.inr rfl)) (pgs_cons (pg_name (i := 6) sc.nd rfl (by first | exact Or.inl rfl | exact Or.inr rfl)) pgs_nil)))) (pss_cons (ps_asg (pe_call G__law_text (hr.mono (by decide)) (by rfl) mg__law_text F__law_text.kp b__law_text .nil pass0 (pa_cons (pv 1) (pa_cons (pv 6) pa_nil))) (pg_tup rfl (pgs_cons (pg_name (i := 7) sc.nd rfl (by first | exact Or.inl rfl | exact Or.inr rfl)) (pgs_cons (pg_name (i := 8) sc.nd rfl (by first | exact Or.inl rfl | exact Or.inr rfl)) pgs_nil)))) (pss_cons (ps_set (i := 2) sc.nd rfl (by first | exact Or.inl rfl | exact Or.inr rfl) (pe_call (noX G_read) (hr.mono (by decide)) (by rfl) mg_read F_read.kp b_read .nil pass0 (pa_cons (pv 7) pa_nil))) (pss_cons (ps_set (i := 3) sc.nd rfl (by first | exact Or.inl rfl | exact Or.inr rfl) (pe_call G_written (hr.mono (by decide)) (by rfl) mg_written F_written.kp b_written .nil pass0 (pa_cons (pv 2) pa_nil))) (pss_cons (ps_if (PW.pt (pw_or (pt_cmpR (r := rNeD K) (op_neD (room64 hr)) (pv 2) (pv 5) (nomark _)) (pw_or (pt_not (pt_val (pe_callB (id := "isinstance") (r := rIsi K) call_isi (by rfl) T.b_isinstance PyProof.Rows.boot_isinstance (pa_cons (pv 3) (pa_cons (pe_bltn (v := .ty "str") (u := .type "str") rfl T.b_str PyProof.Rows.boot_str rfl) pa_nil))))) (pw_or1 (pt_cmpR op_ne (pv 3) (pe_call G__law_written (hr.mono (by decide)) (by rfl) mg__law_written F__law_written.kp b__law_written .nil pass0 (pa_cons (pv 5) pa_nil)) (nomark _)))))) (pss_cons (ps_ret pe_bl) pss_nil) pss_nil) (pss_cons (ps_set (i := 4) sc.nd rfl (by first | exact Or.inl rfl | exact Or.inr rfl) (pe_call (noX G_read) (hr.mono (by decide)) (by rfl) mg_read F_read.kp b_read .nil pass0 (pa_cons (pv 3) pa_nil))) (pss_cons (ps_if (PW.pt (pw_or (pt_cmpR (r := rNeD K) (op_neD (room64 hr)) (pv 4) (pv 5) (nomark _)) (pw_or (pt_cmpR op_ne (pe_call G_written (hr.mono (by decide)) (by rfl) mg_written F_written.kp b_written .nil pass0 (pa_cons (pv 4) pa_nil)) (pv 3) (nomark _)) (pw_or1 (pt_cmpR (r := rNeD K) (op_neD (room64 hr)) (pe_call (noX G_read) (hr.mono (by decide)) (by rfl) mg_read F_read.kp b_read .nil pass0 (pa_cons (pv 7) pa_nil)) (pv 2) (nomark _)))))) (pss_cons (ps_ret pe_bl) pss_nil) pss_nil) (pss_cons (ps_ret (pe_and (pe_cmpR op_eq (pe_call G_written (hr.mono (by decide)) (by rfl) mg_written F_written.kp b_written .nil pass0 (pa_cons (pv 5) pa_nil)) (pv 3) (nomark _)) (pe_one (pe_cmpR op_eq (pe_call G_written (hr.mono (by decide)) (by rfl) mg_written F_written.kp b_written .nil pass0 (pa_cons (pe_tup (pa_cons (pe_tup pa_nil) (pa_cons (pe_tup pa_nil) (pa_cons pe_non pa_nil)))) pa_nil)) pe_str (nomark _))))) pss_nil))))))))), ?_⟩
  refine fin_pure0 h fun ds r hp => ?_
  obtain ⟨p0, x, rfl, hm, rfl⟩ := hp
  obtain ⟨k2, hm⟩ := fin0_some hm
  refine ⟨_, inferInstance, mb__law_step p0, x, k2, ?_, hm, rfl⟩
  show EvS0 K _ [.dat (enc (p0 : (List Int))), .un, .un, .un, .un, .un, .un, .un, .un] (mb__law_step p0)
  exact (es_begun (a := p0) (bg := bgF) rfl (by exact (by decide : 1 < 9)) bg_ok fun nm_1228 => (by exact (es_tgt (em_draw (i := 1) (q := (.run (Cells.cells p0) (some nm_1228))) (f := fun p_1229 => m__law_song (Cells.cells p0) (some nm_1228) p_1229) rfl (ea_st rfl (ea_dt1 (em_op (em_ofF (ef_lst (el_cons em_int (el_cons em_int (el_cons em_int el_nil))))) (em_draw (i := 1) (q := (.run (Cells.cells p0) (some nm_1228))) (f := fun p_1237 => m__law_next (Cells.cells p0) (some nm_1228) p_1237) rfl (ea_st rfl (ea_dt1 em_int)) (fun _ => rfl) fun b k r k2 h => ⟨_, _, b, r, rfl, rfl, h, rfl⟩) fun _ _ => om_ixL))) (fun _ => rfl) fun b k r k2 h => ⟨_, _, b, r, rfl, rfl, h, rfl⟩) (fun _ => eg_pair) fun p_1240 => (by exact (es_tgt (em_draw (i := 1) (q := (.run (Cells.cells p0) (some nm_1228))) (f := fun p_1241 => m__law_text (Cells.cells p0) (some nm_1228) p_1241) rfl (ea_st rfl (ea_dt1 (em_var rfl))) (fun _ => rfl) fun b k r k2 h => ⟨_, _, b, r, rfl, rfl, h, rfl⟩) (fun _ => eg_pair) fun p_1242 => (by exact (es_set (em_call (dvs := []) (dds := []) (f := fun p_1244 => okO (m_read p_1244)) (ea_1 (em_var rfl)) (fun _ => .nil) (fun _ => rfl) fun b r h => ⟨b, .ok r, rfl, okO_some h, rfl⟩) fun told_1243 => (by exact (es_set (em_call (dvs := []) (dds := []) (f := fun p_1246 => m_written p_1246) (ea_1 (em_var rfl)) (fun _ => .nil) (fun _ => rfl) fun b r h => ⟨b, r, rfl, h, rfl⟩) fun found_1245 => (by exact (es_seq (mid := (fun (t_1257 : Unit) => [.dat (enc (p0 : (List Int))), .sr (.run (Cells.cells p0) (some nm_1228)), .dat (enc (told_1243 : (T3 (Tl (T4 Str Str Int Int)) (Tl (T6 Str Str Str (Tl Int) Int Int)) (Option (Str × Str))))), .dat (enc (found_1245 : Str)), .un, .dat (enc (p_1240.1 : (T3 (Tl (T4 Str Str Int Int)) (Tl (T6 Str Str Str (Tl Int) Int Int)) (Option (Str × Str))))), .dat (enc (p_1240.2 : (List (List Str)))), .dat (enc (p_1242.1 : Str)), .dat (enc (p_1242.2 : (List Int)))])) (es_if (eb_or (eb_T (em_op (em_var rfl) (em_var rfl) fun _ _ => om_neD)) (eb_or (eb_not (eb_B (em_isT (T := "str") (em_var rfl) (by decide +kernel)))) (eb_T (em_op (em_var rfl) (em_call (dvs := []) (dds := []) (f := fun p_1251 => m__law_written p_1251) (ea_1 (em_var rfl)) (fun _ => .nil) (fun _ => rfl) fun b r h => ⟨b, r, rfl, h, rfl⟩) fun _ _ => om_neS)))) (by exact (es_retS em_bl)) (by exact es_next (.same (.same (.same (.same (.same (.same (.same (.same (.same .nil))))))))))) fun t_1257 => (by exact (es_set (em_call (dvs := []) (dds := []) (f := fun p_1260 => okO (m_read p_1260)) (ea_1 (em_var rfl)) (fun _ => .nil) (fun _ => rfl) fun b r h => ⟨b, .ok r, rfl, okO_some h, rfl⟩) fun again_1259 => (by exact (es_seq (mid := (fun (t_1272 : Unit) => [.dat (enc (p0 : (List Int))), .sr (.run (Cells.cells p0) (some nm_1228)), .dat (enc (told_1243 : (T3 (Tl (T4 Str Str Int Int)) (Tl (T6 Str Str Str (Tl Int) Int Int)) (Option (Str × Str))))), .dat (enc (found_1245 : Str)), .dat (enc (again_1259 : (T3 (Tl (T4 Str Str Int Int)) (Tl (T6 Str Str Str (Tl Int) Int Int)) (Option (Str × Str))))), .dat (enc (p_1240.1 : (T3 (Tl (T4 Str Str Int Int)) (Tl (T6 Str Str Str (Tl Int) Int Int)) (Option (Str × Str))))), .dat (enc (p_1240.2 : (List (List Str)))), .dat (enc (p_1242.1 : Str)), .dat (enc (p_1242.2 : (List Int)))])) (es_if (eb_or (eb_T (em_op (em_var rfl) (em_var rfl) fun _ _ => om_neD)) (eb_or (eb_T (em_op (em_call (dvs := []) (dds := []) (f := fun p_1263 => m_written p_1263) (ea_1 (em_var rfl)) (fun _ => .nil) (fun _ => rfl) fun b r h => ⟨b, r, rfl, h, rfl⟩) (em_var rfl) fun _ _ => om_neS)) (eb_T (em_op (em_call (dvs := []) (dds := []) (f := fun p_1266 => okO (m_read p_1266)) (ea_1 (em_var rfl)) (fun _ => .nil) (fun _ => rfl) fun b r h => ⟨b, .ok r, rfl, okO_some h, rfl⟩) (em_var rfl) fun _ _ => om_neD)))) (by exact (es_retS em_bl)) (by exact es_next (.same (.same (.same (.same (.same (.same (.same (.same (.same .nil))))))))))) fun t_1272 => (by exact (es_retS (em_and (em_op (em_call (dvs := []) (dds := []) (f := fun p_1275 => m_written p_1275) (ea_1 (em_var rfl)) (fun _ => .nil) (fun _ => rfl) fun b r h => ⟨b, r, rfl, h, rfl⟩) (em_var rfl) fun _ _ => om_eqS) (em_op (em_call (dvs := []) (dds := []) (f := fun p_1278 => m_written p_1278) (ea_1 (em_tupN (fun t_1286 => (⟨t_1286.1, t_1286.2.1, t_1286.2.2⟩ : (T3 (Tl (T4 Str Str Int Int)) (Tl (T6 Str Str Str (Tl Int) Int Int)) (Option (Str × Str))))) (ea_cons (em_tupTl el_nil) (ea_cons (em_tupTl el_nil) (ea_1 (em_as (fun (k_1281 : Unit) => (none : (Option (Str × Str)))) (fun _ => rfl) em_non)))) (fun _ => rfl) (n := 3) (fun _ => rfl))) (fun _ => .nil) (fun _ => rfl) fun b r h => ⟨b, r, rfl, h, rfl⟩) em_str fun _ _ => om_eqS)))))))))))))))))))
theorem ok_law (T : Tx P w K mg) {f : Addr} {fd : FuncData} (F : Fun K "law" "law" s_law f fd) : FnOk P w K mg base CX0 12 f fd ["_law_script"] (spP K 1 .dat pr_law) := by
  obtain ⟨f__law_step, fd__law_step, F__law_step, mg__law_step, b__law_step⟩ := T.d__law_step
  have G__law_step := ok__law_step (P := P) (w := w) (base := base) T F__law_step
  have sc := sc_law
  refine F.ok sc (fun vs H Q E h => by obtain ⟨_, _, _, _, hl, _⟩ := h; exact hl) (fun cdv A outer s H vs Q E hr h => ?_)
  refine ⟨_, (pss_cons (ps_for PassesOwn.never rfl (pi_range3 rfl T.b_range (pa_cons pe_int (pa_cons (pe_callB (cr_maxU rfl) (by rfl) T.b_max (by decide +kernel) (pa_cons pe_int (pa_cons (pe_callB (r := ON.rLen K) cr_lenU (by rfl) T.b_len (by decide +kernel) (pa_cons (pv 0) pa_nil)) pa_nil))) (pa_cons pe_int pa_nil)))) (pg_name (i := 1) sc.nd rfl (by first | exact Or.inl rfl | exact Or.inr rfl)) (pss_cons (ps_if (pt_not (pt_val (pe_call G__law_step (hr.mono (by decide)) (by rfl) mg__law_step F__law_step.kp b__law_step .nil pass0 (pa_cons (pe_slice (r := rSlL K) sl_list (pv 0) (po_some (pv 1)) (po_some (pe_op op_add (pv 1) pe_int))) pa_nil)))) (pss_cons (ps_ret pe_bl) pss_nil) pss_nil) pss_nil)) (pss_cons (ps_ret pe_bl) pss_nil)), ?_⟩
  refine fin_pure h fun ds r hp => ?_
  obtain ⟨p0, x, rfl, hm, rfl⟩ := hp
  refine ⟨_, inferInstance, mb_law p0, x, W0, ?_, fin_some hm, rfl⟩
  show EvS K W0 _ [.dat (enc (p0 : Sc)), .un] noEnd noEnd (mb_law p0)
  exact (by exact (es_seq (mid := (fun (t_1300 : Unit) => [.dat (enc (p0 : Sc)), .un])) (es_for (inv := (fun (t_1300 : Unit) => [.dat (enc (p0 : Sc)), .un])) (t0 := ()) (sd1 := fun (t_1300 : Unit) (a_1301 : Int) => [.dat (enc (p0 : Sc)), .dat (enc (a_1301 : Int))]) (body := (fun (t_1300 : Unit) (a_1301 : Int) => ((andThen (Mn.bnd (Mn.bnd (Mn.bnd (Mn.bnd (Mn.pur p0) fun x_1307 => Mn.bnd (Mn.bnd (Mn.pur a_1301) fun i_1303 => Mn.pur (some i_1303)) fun l_1308 => Mn.bnd (Mn.bnd (Mn.bnd (Mn.pur a_1301) fun x_1304 => Mn.bnd (Mn.pur (12 : Int)) fun y_1305 => Mn.pur (x_1304 + y_1305)) fun i_1306 => Mn.pur (some i_1306)) fun h_1309 => Mn.pur (cutL (Sc.ns x_1307) l_1308 h_1309)) fun p_1302 => lift (m__law_step p_1302)) fun b_1310 => Mn.pur (!b_1310)) fun b_1311 => cnd b_1311 (Mn.bnd (Mn.pur false) fun r_1313 => Mn.pur (.rt r_1313)) (Mn.pur (.nx ())) : Option (Fl (Unit) (Unit) Bool)) fun t_1312 => (Mn.pur (.nx ()))) : Option (Fl (Unit) (Unit) Bool)))) (ei_rng3 (ea_cons em_int (ea_cons (em_max (ea_2 em_int (em_lenSc (em_var rfl)))) (ea_1 em_int)))) (.same (.same .nil)) (fun _ _ => eg_name) fun t_1300 a_1301 => (by exact (es_seq (mid := (fun (t_1312 : Unit) => [.dat (enc (p0 : Sc)), .dat (enc (a_1301 : Int))])) (es_if (eb_not (eb_B (em_call (dvs := []) (dds := []) (f := fun p_1302 => m__law_step p_1302) (ea_1 (em_ofF (ef_sliceSc (em_var rfl) (eo_some (em_var rfl)) (eo_some (em_op (em_var rfl) em_int fun _ _ => om_I0))))) (fun _ => .nil) (fun _ => rfl) fun b r h => ⟨b, r, rfl, h, rfl⟩))) (by exact (es_retS em_bl)) (by exact es_next (.same (.same .nil)))) fun t_1312 => (by exact es_next (.same (.un .nil)))))) fun t_1300 => (by exact (es_retS em_bl))))
end
end K05

set_option Elab.async false
set_option linter.all false
set_option maxRecDepth 100000
set_option maxHeartbeats 1000000
namespace K05
open PySem PySem.Spec PyProof.Rows L2 ON
def qp_BadSign : Nat → Pos := fun n => match n with | 0 => ⟨44, 8, 44, 13⟩ | 1 => ⟨44, 8, 44, 15⟩ | 2 => ⟨44, 8, 44, 24⟩ | 3 => ⟨44, 27, 44, 43⟩ | 4 => ⟨44, 44, 44, 48⟩ | 5 => ⟨44, 43, 44, 49⟩ | 6 => ⟨44, 25, 44, 50⟩ | 7 => ⟨44, 8, 44, 51⟩ | 8 => ⟨44, 8, 44, 51⟩ | 9 => ⟨45, 8, 45, 12⟩ | 10 => ⟨45, 8, 45, 17⟩ | 11 => ⟨45, 20, 45, 24⟩ | _ => ⟨45, 8, 45, 24⟩
def qp_BadText : Nat → Pos := fun n => match n with | 0 => ⟨49, 8, 49, 13⟩ | 1 => ⟨49, 8, 49, 15⟩ | 2 => ⟨49, 8, 49, 24⟩ | 3 => ⟨49, 27, 49, 59⟩ | 4 => ⟨49, 60, 49, 64⟩ | 5 => ⟨49, 59, 49, 65⟩ | 6 => ⟨49, 25, 49, 66⟩ | 7 => ⟨49, 8, 49, 67⟩ | 8 => ⟨49, 8, 49, 67⟩ | 9 => ⟨50, 8, 50, 12⟩ | 10 => ⟨50, 8, 50, 17⟩ | 11 => ⟨50, 20, 50, 24⟩ | _ => ⟨50, 8, 50, 24⟩
def spLaw (K : PySem.W.Frag) : Sp := fun vs H Q _ => ∃ (a : Addr) (ns : List Int), vs = [.ref a] ∧ SqL K H a (ns.map V.int) ∧ ns.length ≤ 63 ∧ ∀ H2, Q (.bl true) H2
theorem all_mk {l : PySem.W.OpenLaw} {w : World} {K : PySem.W.Frag} {h : Heap} {mg : Str → Option Value} {fa : Addr} (X : K.In h) (G : h.Ns mainGlobals mg) (hfa : mg "law" = some (.ref fa))
    {f0 : Addr} {od0 an0 : Option Addr} {sl0 : Array (Option Value)} {oc0 kV0 dc0 pm0 cd0 ct0 : Value}
    {f1 : Addr} {od1 an1 : Option Addr} {sl1 : Array (Option Value)} {oc1 kV1 dc1 pm1 cd1 ct1 : Value}
    {f2 : Addr} {od2 an2 : Option Addr} {sl2 : Array (Option Value)} {oc2 kV2 dc2 pm2 cd2 ct2 : Value}
    {f3 : Addr} {od3 an3 : Option Addr} {sl3 : Array (Option Value)} {oc3 kV3 dc3 pm3 cd3 ct3 : Value}
    {f4 : Addr} {od4 an4 : Option Addr} {sl4 : Array (Option Value)} {oc4 kV4 dc4 pm4 cd4 ct4 : Value}
    {f5 : Addr} {od5 an5 : Option Addr} {sl5 : Array (Option Value)} {oc5 kV5 dc5 pm5 cd5 ct5 : Value}
    {f6 : Addr} {od6 an6 : Option Addr} {sl6 : Array (Option Value)} {oc6 kV6 dc6 pm6 cd6 ct6 : Value}
    {f7 : Addr} {od7 an7 : Option Addr} {sl7 : Array (Option Value)} {oc7 kV7 dc7 pm7 cd7 ct7 : Value}
    {f8 : Addr} {od8 an8 : Option Addr} {sl8 : Array (Option Value)} {oc8 kV8 dc8 pm8 cd8 ct8 : Value}
    {f9 : Addr} {od9 an9 : Option Addr} {sl9 : Array (Option Value)} {oc9 kV9 dc9 pm9 cd9 ct9 : Value}
    {f10 : Addr} {od10 an10 : Option Addr} {sl10 : Array (Option Value)} {oc10 kV10 dc10 pm10 cd10 ct10 : Value}
    {f11 : Addr} {od11 an11 : Option Addr} {sl11 : Array (Option Value)} {oc11 kV11 dc11 pm11 cd11 ct11 : Value}
    {f12 : Addr} {od12 an12 : Option Addr} {sl12 : Array (Option Value)} {oc12 kV12 dc12 pm12 cd12 ct12 : Value}
    {f13 : Addr} {od13 an13 : Option Addr} {sl13 : Array (Option Value)} {oc13 kV13 dc13 pm13 cd13 ct13 : Value}
    {f14 : Addr} {od14 an14 : Option Addr} {sl14 : Array (Option Value)} {oc14 kV14 dc14 pm14 cd14 ct14 : Value}
    {f15 : Addr} {od15 an15 : Option Addr} {sl15 : Array (Option Value)} {oc15 kV15 dc15 pm15 cd15 ct15 : Value}
    {f16 : Addr} {od16 an16 : Option Addr} {sl16 : Array (Option Value)} {oc16 kV16 dc16 pm16 cd16 ct16 : Value}
    {f17 : Addr} {od17 an17 : Option Addr} {sl17 : Array (Option Value)} {oc17 kV17 dc17 pm17 cd17 ct17 : Value}
    {f18 : Addr} {od18 an18 : Option Addr} {sl18 : Array (Option Value)} {oc18 kV18 dc18 pm18 cd18 ct18 : Value}
    {f19 : Addr} {od19 an19 : Option Addr} {sl19 : Array (Option Value)} {oc19 kV19 dc19 pm19 cd19 ct19 : Value}
    {f20 : Addr} {od20 an20 : Option Addr} {sl20 : Array (Option Value)} {oc20 kV20 dc20 pm20 cd20 ct20 : Value}
    {f21 : Addr} {od21 an21 : Option Addr} {sl21 : Array (Option Value)} {oc21 kV21 dc21 pm21 cd21 ct21 : Value}
    {f22 : Addr} {od22 an22 : Option Addr} {sl22 : Array (Option Value)} {oc22 kV22 dc22 pm22 cd22 ct22 : Value}
    {f23 : Addr} {od23 an23 : Option Addr} {sl23 : Array (Option Value)} {oc23 kV23 dc23 pm23 cd23 ct23 : Value}
    {f24 : Addr} {od24 an24 : Option Addr} {sl24 : Array (Option Value)} {oc24 kV24 dc24 pm24 cd24 ct24 : Value}
    {f25 : Addr} {od25 an25 : Option Addr} {sl25 : Array (Option Value)} {oc25 kV25 dc25 pm25 cd25 ct25 : Value}
    {f26 : Addr} {od26 an26 : Option Addr} {sl26 : Array (Option Value)} {oc26 kV26 dc26 pm26 cd26 ct26 : Value}
    {f27 : Addr} {od27 an27 : Option Addr} {sl27 : Array (Option Value)} {oc27 kV27 dc27 pm27 cd27 ct27 : Value}
    {f28 : Addr} {od28 an28 : Option Addr} {sl28 : Array (Option Value)} {oc28 kV28 dc28 pm28 cd28 ct28 : Value}
    {f29 : Addr} {od29 an29 : Option Addr} {sl29 : Array (Option Value)} {oc29 kV29 dc29 pm29 cd29 ct29 : Value}
    {f30 : Addr} {od30 an30 : Option Addr} {sl30 : Array (Option Value)} {oc30 kV30 dc30 pm30 cd30 ct30 : Value}
    {f31 : Addr} {od31 an31 : Option Addr} {sl31 : Array (Option Value)} {oc31 kV31 dc31 pm31 cd31 ct31 : Value}
    {f32 : Addr} {od32 an32 : Option Addr} {sl32 : Array (Option Value)} {oc32 kV32 dc32 pm32 cd32 ct32 : Value}
    {f33 : Addr} {od33 an33 : Option Addr} {sl33 : Array (Option Value)} {oc33 kV33 dc33 pm33 cd33 ct33 : Value}
    {f34 : Addr} {od34 an34 : Option Addr} {sl34 : Array (Option Value)} {oc34 kV34 dc34 pm34 cd34 ct34 : Value}
    {f35 : Addr} {od35 an35 : Option Addr} {sl35 : Array (Option Value)} {oc35 kV35 dc35 pm35 cd35 ct35 : Value}
    {f36 : Addr} {od36 an36 : Option Addr} {sl36 : Array (Option Value)} {oc36 kV36 dc36 pm36 cd36 ct36 : Value}
    {f37 : Addr} {od37 an37 : Option Addr} {sl37 : Array (Option Value)} {oc37 kV37 dc37 pm37 cd37 ct37 : Value}
    {f38 : Addr} {od38 an38 : Option Addr} {sl38 : Array (Option Value)} {oc38 kV38 dc38 pm38 cd38 ct38 : Value}
    {f39 : Addr} {od39 an39 : Option Addr} {sl39 : Array (Option Value)} {oc39 kV39 dc39 pm39 cd39 ct39 : Value}
    {t_PRIMES : Addr} {od_PRIMES : Option Addr} {n_PRIMES : Nat} {sl_PRIMES : Array (Option Value)} {k0_PRIMES k1_PRIMES k2_PRIMES k3_PRIMES : Tok}
    {t_LETTERS : Tok}
    {t_FIGURES : Tok}
    {t_TOLD_WORDS : Addr} {od_TOLD_WORDS : Option Addr} {n_TOLD_WORDS : Nat} {sl_TOLD_WORDS : Array (Option Value)} {k0_TOLD_WORDS k1_TOLD_WORDS k2_TOLD_WORDS k3_TOLD_WORDS k4_TOLD_WORDS k5_TOLD_WORDS k6_TOLD_WORDS : Tok}
    {t_MOST_SIGNS : Tok}
    {t_MOST_LETTERS : Tok}
    {t_MOST_FIGURES : Tok}
    {d_SHAPES : Addr}
    {p_SHAPES_0 : Addr} {od_SHAPES_0 : Option Addr} {n_SHAPES_0 : Nat} {sl_SHAPES_0 : Array (Option Value)} {k0_SHAPES_0 k1_SHAPES_0 k2_SHAPES_0 k3_SHAPES_0 k4_SHAPES_0 : Tok}
    {p_SHAPES_1 : Addr} {od_SHAPES_1 : Option Addr} {n_SHAPES_1 : Nat} {sl_SHAPES_1 : Array (Option Value)} {k0_SHAPES_1 k1_SHAPES_1 k2_SHAPES_1 k3_SHAPES_1 k4_SHAPES_1 k5_SHAPES_1 k6_SHAPES_1 : Tok}
    {p_SHAPES_2 : Addr} {od_SHAPES_2 : Option Addr} {n_SHAPES_2 : Nat} {sl_SHAPES_2 : Array (Option Value)} {k0_SHAPES_2 k1_SHAPES_2 k2_SHAPES_2 k3_SHAPES_2 k4_SHAPES_2 k5_SHAPES_2 k6_SHAPES_2 k7_SHAPES_2 k8_SHAPES_2 k9_SHAPES_2 : Tok}
    {p_SHAPES_3 : Addr} {od_SHAPES_3 : Option Addr} {n_SHAPES_3 : Nat} {sl_SHAPES_3 : Array (Option Value)} {k0_SHAPES_3 k1_SHAPES_3 k2_SHAPES_3 k3_SHAPES_3 k4_SHAPES_3 k5_SHAPES_3 k6_SHAPES_3 k7_SHAPES_3 k8_SHAPES_3 k9_SHAPES_3 : Tok}
    {p_SHAPES_4 : Addr} {od_SHAPES_4 : Option Addr} {n_SHAPES_4 : Nat} {sl_SHAPES_4 : Array (Option Value)} {k0_SHAPES_4 k1_SHAPES_4 k2_SHAPES_4 : Tok}
    {d_ENDS : Addr}
    {p_ENDS_0 : Addr} {od_ENDS_0 : Option Addr} {n_ENDS_0 : Nat} {sl_ENDS_0 : Array (Option Value)} {k0_ENDS_0 : Tok}
    {p_ENDS_1 : Addr} {od_ENDS_1 : Option Addr} {n_ENDS_1 : Nat} {sl_ENDS_1 : Array (Option Value)} {k0_ENDS_1 k1_ENDS_1 k2_ENDS_1 : Tok}
    {p_ENDS_2 : Addr} {od_ENDS_2 : Option Addr} {n_ENDS_2 : Nat} {sl_ENDS_2 : Array (Option Value)} {k0_ENDS_2 k1_ENDS_2 k2_ENDS_2 : Tok}
    {p_ENDS_3 : Addr} {od_ENDS_3 : Option Addr} {n_ENDS_3 : Nat} {sl_ENDS_3 : Array (Option Value)} {k0_ENDS_3 k1_ENDS_3 k2_ENDS_3 : Tok}
    {p_ENDS_4 : Addr} {od_ENDS_4 : Option Addr} {n_ENDS_4 : Nat} {sl_ENDS_4 : Array (Option Value)} {k0_ENDS_4 : Tok}
    {d_BOUNDS : Addr}
    {p_BOUNDS_0 : Addr} {od_BOUNDS_0 : Option Addr} {n_BOUNDS_0 : Nat} {sl_BOUNDS_0 : Array (Option Value)} {k0_BOUNDS_0 k1_BOUNDS_0 : Tok}
    {p_BOUNDS_1 : Addr} {od_BOUNDS_1 : Option Addr} {n_BOUNDS_1 : Nat} {sl_BOUNDS_1 : Array (Option Value)} {k0_BOUNDS_1 k1_BOUNDS_1 : Tok}
    {p_BOUNDS_2 : Addr} {od_BOUNDS_2 : Option Addr} {n_BOUNDS_2 : Nat} {sl_BOUNDS_2 : Array (Option Value)} {k0_BOUNDS_2 k1_BOUNDS_2 : Tok}
    {p_BOUNDS_3 : Addr} {od_BOUNDS_3 : Option Addr} {n_BOUNDS_3 : Nat} {sl_BOUNDS_3 : Array (Option Value)} {k0_BOUNDS_3 k1_BOUNDS_3 : Tok}
    {t_TIE_WORDS : Addr} {od_TIE_WORDS : Option Addr} {n_TIE_WORDS : Nat} {sl_TIE_WORDS : Array (Option Value)} {k0_TIE_WORDS k1_TIE_WORDS k2_TIE_WORDS : Tok}
    {t_BEND_UNWRITTEN : Tok}
    {t_WEIGHT_UNWRITTEN : Tok}
    {C_BadSign : Addr}
    {C_BadText : Addr}
    {fI_BadSign cc_BadSign cda_BadSign : Addr} {qual_BadSign : Str}
    {nm_BadSign q_BadSign} {N_BadSign} {bs_BadSign bm_BadSign} {sn_BadSign} {sub_BadSign} {ab_BadSign} {col_BadSign} {dd_BadSign} {k0_BadSign k1_BadSign k2_BadSign k3_BadSign k5_BadSign}
    {ucl_BadSign} {cld_BadSign} {csl_BadSign}
    {oc_BadSign doc_BadSign pm_BadSign ct_BadSign : Value} {od_BadSign an_BadSign : Option Addr} {osl_BadSign : Array (Option Value)}
    {ccl_BadSign} {cdd_BadSign} {ccs_BadSign} {vs_BadSign} {file_BadSign} {tf_BadSign}
    {fI_BadText cc_BadText cda_BadText : Addr} {qual_BadText : Str}
    {nm_BadText q_BadText} {N_BadText} {bs_BadText bm_BadText} {sn_BadText} {sub_BadText} {ab_BadText} {col_BadText} {dd_BadText} {k0_BadText k1_BadText k2_BadText k3_BadText k5_BadText}
    {ucl_BadText} {cld_BadText} {csl_BadText}
    {oc_BadText doc_BadText pm_BadText ct_BadText : Value} {od_BadText an_BadText : Option Addr} {osl_BadText : Array (Option Value)}
    {ccl_BadText} {cdd_BadText} {ccs_BadText} {vs_BadText} {file_BadText} {tf_BadText}
    (a0 : PySem.W.nsIn K mainGlobals "is_all_of" = some (some (.ref f0))) (l0 : K.lookup f0 = some ⟨oc0, od0, .func (PySem.W.fnOf "is_all_of" "is_all_of" (defArgs s_is_all_of) (defBody s_is_all_of) (defScope s_is_all_of) .none kV0 dc0 pm0 an0 cd0 ct0), sl0⟩) (c0 : PySem.W.codeIn K cd0 "is_all_of" = true) (k0 : PySem.W.keepIn K (.ref f0) = true)
    (a1 : PySem.W.nsIn K mainGlobals "is_letters" = some (some (.ref f1))) (l1 : K.lookup f1 = some ⟨oc1, od1, .func (PySem.W.fnOf "is_letters" "is_letters" (defArgs s_is_letters) (defBody s_is_letters) (defScope s_is_letters) .none kV1 dc1 pm1 an1 cd1 ct1), sl1⟩) (c1 : PySem.W.codeIn K cd1 "is_letters" = true) (k1 : PySem.W.keepIn K (.ref f1) = true)
    (a2 : PySem.W.nsIn K mainGlobals "is_number" = some (some (.ref f2))) (l2 : K.lookup f2 = some ⟨oc2, od2, .func (PySem.W.fnOf "is_number" "is_number" (defArgs s_is_number) (defBody s_is_number) (defScope s_is_number) .none kV2 dc2 pm2 an2 cd2 ct2), sl2⟩) (c2 : PySem.W.codeIn K cd2 "is_number" = true) (k2 : PySem.W.keepIn K (.ref f2) = true)
    (a3 : PySem.W.nsIn K mainGlobals "is_word" = some (some (.ref f3))) (l3 : K.lookup f3 = some ⟨oc3, od3, .func (PySem.W.fnOf "is_word" "is_word" (defArgs s_is_word) (defBody s_is_word) (defScope s_is_word) .none kV3 dc3 pm3 an3 cd3 ct3), sl3⟩) (c3 : PySem.W.codeIn K cd3 "is_word" = true) (k3 : PySem.W.keepIn K (.ref f3) = true)
    (a4 : PySem.W.nsIn K mainGlobals "side_by_side" = some (some (.ref f4))) (l4 : K.lookup f4 = some ⟨oc4, od4, .func (PySem.W.fnOf "side_by_side" "side_by_side" (defArgs s_side_by_side) (defBody s_side_by_side) (defScope s_side_by_side) .none kV4 dc4 pm4 an4 cd4 ct4), sl4⟩) (c4 : PySem.W.codeIn K cd4 "side_by_side" = true) (k4 : PySem.W.keepIn K (.ref f4) = true)
    (a5 : PySem.W.nsIn K mainGlobals "piece_at" = some (some (.ref f5))) (l5 : K.lookup f5 = some ⟨oc5, od5, .func (PySem.W.fnOf "piece_at" "piece_at" (defArgs s_piece_at) (defBody s_piece_at) (defScope s_piece_at) .none kV5 dc5 pm5 an5 cd5 ct5), sl5⟩) (c5 : PySem.W.codeIn K cd5 "piece_at" = true) (k5 : PySem.W.keepIn K (.ref f5) = true)
    (a6 : PySem.W.nsIn K mainGlobals "is_name" = some (some (.ref f6))) (l6 : K.lookup f6 = some ⟨oc6, od6, .func (PySem.W.fnOf "is_name" "is_name" (defArgs s_is_name) (defBody s_is_name) (defScope s_is_name) .none kV6 dc6 pm6 an6 cd6 ct6), sl6⟩) (c6 : PySem.W.codeIn K cd6 "is_name" = true) (k6 : PySem.W.keepIn K (.ref f6) = true)
    (a7 : PySem.W.nsIn K mainGlobals "text_words" = some (some (.ref f7))) (l7 : K.lookup f7 = some ⟨oc7, od7, .func (PySem.W.fnOf "text_words" "text_words" (defArgs s_text_words) (defBody s_text_words) (defScope s_text_words) .none kV7 dc7 pm7 an7 cd7 ct7), sl7⟩) (c7 : PySem.W.codeIn K cd7 "text_words" = true) (k7 : PySem.W.keepIn K (.ref f7) = true)
    (a8 : PySem.W.nsIn K mainGlobals "how_often" = some (some (.ref f8))) (l8 : K.lookup f8 = some ⟨oc8, od8, .func (PySem.W.fnOf "how_often" "how_often" (defArgs s_how_often) (defBody s_how_often) (defScope s_how_often) .none kV8 dc8 pm8 an8 cd8 ct8), sl8⟩) (c8 : PySem.W.codeIn K cd8 "how_often" = true) (k8 : PySem.W.keepIn K (.ref f8) = true)
    (a9 : PySem.W.nsIn K mainGlobals "raised" = some (some (.ref f9))) (l9 : K.lookup f9 = some ⟨oc9, od9, .func (PySem.W.fnOf "raised" "raised" (defArgs s_raised) (defBody s_raised) (defScope s_raised) .none kV9 dc9 pm9 an9 cd9 ct9), sl9⟩) (c9 : PySem.W.codeIn K cd9 "raised" = true) (k9 : PySem.W.keepIn K (.ref f9) = true)
    (a10 : PySem.W.nsIn K mainGlobals "ratio_of" = some (some (.ref f10))) (l10 : K.lookup f10 = some ⟨oc10, od10, .func (PySem.W.fnOf "ratio_of" "ratio_of" (defArgs s_ratio_of) (defBody s_ratio_of) (defScope s_ratio_of) .none kV10 dc10 pm10 an10 cd10 ct10), sl10⟩) (c10 : PySem.W.codeIn K cd10 "ratio_of" = true) (k10 : PySem.W.keepIn K (.ref f10) = true)
    (a11 : PySem.W.nsIn K mainGlobals "fraction" = some (some (.ref f11))) (l11 : K.lookup f11 = some ⟨oc11, od11, .func (PySem.W.fnOf "fraction" "fraction" (defArgs s_fraction) (defBody s_fraction) (defScope s_fraction) .none kV11 dc11 pm11 an11 cd11 ct11), sl11⟩) (c11 : PySem.W.codeIn K cd11 "fraction" = true) (k11 : PySem.W.keepIn K (.ref f11) = true)
    (a12 : PySem.W.nsIn K mainGlobals "figures" = some (some (.ref f12))) (l12 : K.lookup f12 = some ⟨oc12, od12, .func (PySem.W.fnOf "figures" "figures" (defArgs s_figures) (defBody s_figures) (defScope s_figures) .none kV12 dc12 pm12 an12 cd12 ct12), sl12⟩) (c12 : PySem.W.codeIn K cd12 "figures" = true) (k12 : PySem.W.keepIn K (.ref f12) = true)
    (a13 : PySem.W.nsIn K mainGlobals "ratio_text" = some (some (.ref f13))) (l13 : K.lookup f13 = some ⟨oc13, od13, .func (PySem.W.fnOf "ratio_text" "ratio_text" (defArgs s_ratio_text) (defBody s_ratio_text) (defScope s_ratio_text) .none kV13 dc13 pm13 an13 cd13 ct13), sl13⟩) (c13 : PySem.W.codeIn K cd13 "ratio_text" = true) (k13 : PySem.W.keepIn K (.ref f13) = true)
    (a14 : PySem.W.nsIn K mainGlobals "is_product" = some (some (.ref f14))) (l14 : K.lookup f14 = some ⟨oc14, od14, .func (PySem.W.fnOf "is_product" "is_product" (defArgs s_is_product) (defBody s_is_product) (defScope s_is_product) .none kV14 dc14 pm14 an14 cd14 ct14), sl14⟩) (c14 : PySem.W.codeIn K cd14 "is_product" = true) (k14 : PySem.W.keepIn K (.ref f14) = true)
    (a15 : PySem.W.nsIn K mainGlobals "is_bounded" = some (some (.ref f15))) (l15 : K.lookup f15 = some ⟨oc15, od15, .func (PySem.W.fnOf "is_bounded" "is_bounded" (defArgs s_is_bounded) (defBody s_is_bounded) (defScope s_is_bounded) .none kV15 dc15 pm15 an15 cd15 ct15), sl15⟩) (c15 : PySem.W.codeIn K cd15 "is_bounded" = true) (k15 : PySem.W.keepIn K (.ref f15) = true)
    (a16 : PySem.W.nsIn K mainGlobals "fits" = some (some (.ref f16))) (l16 : K.lookup f16 = some ⟨oc16, od16, .func (PySem.W.fnOf "fits" "fits" (defArgs s_fits) (defBody s_fits) (defScope s_fits) .none kV16 dc16 pm16 an16 cd16 ct16), sl16⟩) (c16 : PySem.W.codeIn K cd16 "fits" = true) (k16 : PySem.W.keepIn K (.ref f16) = true)
    (a17 : PySem.W.nsIn K mainGlobals "wrong_word" = some (some (.ref f17))) (l17 : K.lookup f17 = some ⟨oc17, od17, .func (PySem.W.fnOf "wrong_word" "wrong_word" (defArgs s_wrong_word) (defBody s_wrong_word) (defScope s_wrong_word) .none kV17 dc17 pm17 an17 cd17 ct17), sl17⟩) (c17 : PySem.W.codeIn K cd17 "wrong_word" = true) (k17 : PySem.W.keepIn K (.ref f17) = true)
    (a18 : PySem.W.nsIn K mainGlobals "need_row" = some (some (.ref f18))) (l18 : K.lookup f18 = some ⟨oc18, od18, .func (PySem.W.fnOf "need_row" "need_row" (defArgs s_need_row) (defBody s_need_row) (defScope s_need_row) .none kV18 dc18 pm18 an18 cd18 ct18), sl18⟩) (c18 : PySem.W.codeIn K cd18 "need_row" = true) (k18 : PySem.W.keepIn K (.ref f18) = true)
    (a19 : PySem.W.nsIn K mainGlobals "number_behind" = some (some (.ref f19))) (l19 : K.lookup f19 = some ⟨oc19, od19, .func (PySem.W.fnOf "number_behind" "number_behind" (defArgs s_number_behind) (defBody s_number_behind) (defScope s_number_behind) .none kV19 dc19 pm19 an19 cd19 ct19), sl19⟩) (c19 : PySem.W.codeIn K cd19 "number_behind" = true) (k19 : PySem.W.keepIn K (.ref f19) = true)
    (a20 : PySem.W.nsIn K mainGlobals "told_note" = some (some (.ref f20))) (l20 : K.lookup f20 = some ⟨oc20, od20, .func (PySem.W.fnOf "told_note" "told_note" (defArgs s_told_note) (defBody s_told_note) (defScope s_told_note) .none kV20 dc20 pm20 an20 cd20 ct20), sl20⟩) (c20 : PySem.W.codeIn K cd20 "told_note" = true) (k20 : PySem.W.keepIn K (.ref f20) = true)
    (a21 : PySem.W.nsIn K mainGlobals "told_tie" = some (some (.ref f21))) (l21 : K.lookup f21 = some ⟨oc21, od21, .func (PySem.W.fnOf "told_tie" "told_tie" (defArgs s_told_tie) (defBody s_told_tie) (defScope s_told_tie) .none kV21 dc21 pm21 an21 cd21 ct21), sl21⟩) (c21 : PySem.W.codeIn K cd21 "told_tie" = true) (k21 : PySem.W.keepIn K (.ref f21) = true)
    (a22 : PySem.W.nsIn K mainGlobals "read" = some (some (.ref f22))) (l22 : K.lookup f22 = some ⟨oc22, od22, .func (PySem.W.fnOf "read" "read" (defArgs s_read) (defBody s_read) (defScope s_read) .none kV22 dc22 pm22 an22 cd22 ct22), sl22⟩) (c22 : PySem.W.codeIn K cd22 "read" = true) (k22 : PySem.W.keepIn K (.ref f22) = true)
    (a23 : PySem.W.nsIn K mainGlobals "note_row" = some (some (.ref f23))) (l23 : K.lookup f23 = some ⟨oc23, od23, .func (PySem.W.fnOf "note_row" "note_row" (defArgs s_note_row) (defBody s_note_row) (defScope s_note_row) .none kV23 dc23 pm23 an23 cd23 ct23), sl23⟩) (c23 : PySem.W.codeIn K cd23 "note_row" = true) (k23 : PySem.W.keepIn K (.ref f23) = true)
    (a24 : PySem.W.nsIn K mainGlobals "tie_row" = some (some (.ref f24))) (l24 : K.lookup f24 = some ⟨oc24, od24, .func (PySem.W.fnOf "tie_row" "tie_row" (defArgs s_tie_row) (defBody s_tie_row) (defScope s_tie_row) .none kV24 dc24 pm24 an24 cd24 ct24), sl24⟩) (c24 : PySem.W.codeIn K cd24 "tie_row" = true) (k24 : PySem.W.keepIn K (.ref f24) = true)
    (a25 : PySem.W.nsIn K mainGlobals "written" = some (some (.ref f25))) (l25 : K.lookup f25 = some ⟨oc25, od25, .func (PySem.W.fnOf "written" "written" (defArgs s_written) (defBody s_written) (defScope s_written) .none kV25 dc25 pm25 an25 cd25 ct25), sl25⟩) (c25 : PySem.W.codeIn K cd25 "written" = true) (k25 : PySem.W.keepIn K (.ref f25) = true)
    (a26 : PySem.W.nsIn K mainGlobals "_law_next" = some (some (.ref f26))) (l26 : K.lookup f26 = some ⟨oc26, od26, .func (PySem.W.fnOf "_law_next" "_law_next" (defArgs s__law_next) (defBody s__law_next) (defScope s__law_next) .none kV26 dc26 pm26 an26 cd26 ct26), sl26⟩) (c26 : PySem.W.codeIn K cd26 "_law_next" = true) (k26 : PySem.W.keepIn K (.ref f26) = true)
    (a27 : PySem.W.nsIn K mainGlobals "_law_begun" = some (some (.ref f27))) (l27 : K.lookup f27 = some ⟨oc27, od27, .func (PySem.W.fnOf "_law_begun" "_law_begun" (defArgs s__law_begun) (defBody s__law_begun) (defScope s__law_begun) .none kV27 dc27 pm27 an27 cd27 ct27), sl27⟩) (c27 : PySem.W.codeIn K cd27 "_law_begun" = true) (k27 : PySem.W.keepIn K (.ref f27) = true)
    (a28 : PySem.W.nsIn K mainGlobals "_law_part" = some (some (.ref f28))) (l28 : K.lookup f28 = some ⟨oc28, od28, .func (PySem.W.fnOf "_law_part" "_law_part" (defArgs s__law_part) (defBody s__law_part) (defScope s__law_part) .none kV28 dc28 pm28 an28 cd28 ct28), sl28⟩) (c28 : PySem.W.codeIn K cd28 "_law_part" = true) (k28 : PySem.W.keepIn K (.ref f28) = true)
    (a29 : PySem.W.nsIn K mainGlobals "_law_often" = some (some (.ref f29))) (l29 : K.lookup f29 = some ⟨oc29, od29, .func (PySem.W.fnOf "_law_often" "_law_often" (defArgs s__law_often) (defBody s__law_often) (defScope s__law_often) .none kV29 dc29 pm29 an29 cd29 ct29), sl29⟩) (c29 : PySem.W.codeIn K cd29 "_law_often" = true) (k29 : PySem.W.keepIn K (.ref f29) = true)
    (a30 : PySem.W.nsIn K mainGlobals "_law_ratio" = some (some (.ref f30))) (l30 : K.lookup f30 = some ⟨oc30, od30, .func (PySem.W.fnOf "_law_ratio" "_law_ratio" (defArgs s__law_ratio) (defBody s__law_ratio) (defScope s__law_ratio) .none kV30 dc30 pm30 an30 cd30 ct30), sl30⟩) (c30 : PySem.W.codeIn K cd30 "_law_ratio" = true) (k30 : PySem.W.keepIn K (.ref f30) = true)
    (a31 : PySem.W.nsIn K mainGlobals "_law_tie" = some (some (.ref f31))) (l31 : K.lookup f31 = some ⟨oc31, od31, .func (PySem.W.fnOf "_law_tie" "_law_tie" (defArgs s__law_tie) (defBody s__law_tie) (defScope s__law_tie) .none kV31 dc31 pm31 an31 cd31 ct31), sl31⟩) (c31 : PySem.W.codeIn K cd31 "_law_tie" = true) (k31 : PySem.W.keepIn K (.ref f31) = true)
    (a32 : PySem.W.nsIn K mainGlobals "_law_song" = some (some (.ref f32))) (l32 : K.lookup f32 = some ⟨oc32, od32, .func (PySem.W.fnOf "_law_song" "_law_song" (defArgs s__law_song) (defBody s__law_song) (defScope s__law_song) .none kV32 dc32 pm32 an32 cd32 ct32), sl32⟩) (c32 : PySem.W.codeIn K cd32 "_law_song" = true) (k32 : PySem.W.keepIn K (.ref f32) = true)
    (a33 : PySem.W.nsIn K mainGlobals "_law_sort" = some (some (.ref f33))) (l33 : K.lookup f33 = some ⟨oc33, od33, .func (PySem.W.fnOf "_law_sort" "_law_sort" (defArgs s__law_sort) (defBody s__law_sort) (defScope s__law_sort) .none kV33 dc33 pm33 an33 cd33 ct33), sl33⟩) (c33 : PySem.W.codeIn K cd33 "_law_sort" = true) (k33 : PySem.W.keepIn K (.ref f33) = true)
    (a34 : PySem.W.nsIn K mainGlobals "_law_row_text" = some (some (.ref f34))) (l34 : K.lookup f34 = some ⟨oc34, od34, .func (PySem.W.fnOf "_law_row_text" "_law_row_text" (defArgs s__law_row_text) (defBody s__law_row_text) (defScope s__law_row_text) .none kV34 dc34 pm34 an34 cd34 ct34), sl34⟩) (c34 : PySem.W.codeIn K cd34 "_law_row_text" = true) (k34 : PySem.W.keepIn K (.ref f34) = true)
    (a35 : PySem.W.nsIn K mainGlobals "_law_text" = some (some (.ref f35))) (l35 : K.lookup f35 = some ⟨oc35, od35, .func (PySem.W.fnOf "_law_text" "_law_text" (defArgs s__law_text) (defBody s__law_text) (defScope s__law_text) .none kV35 dc35 pm35 an35 cd35 ct35), sl35⟩) (c35 : PySem.W.codeIn K cd35 "_law_text" = true) (k35 : PySem.W.keepIn K (.ref f35) = true)
    (a36 : PySem.W.nsIn K mainGlobals "_law_shown" = some (some (.ref f36))) (l36 : K.lookup f36 = some ⟨oc36, od36, .func (PySem.W.fnOf "_law_shown" "_law_shown" (defArgs s__law_shown) (defBody s__law_shown) (defScope s__law_shown) .none kV36 dc36 pm36 an36 cd36 ct36), sl36⟩) (c36 : PySem.W.codeIn K cd36 "_law_shown" = true) (k36 : PySem.W.keepIn K (.ref f36) = true)
    (a37 : PySem.W.nsIn K mainGlobals "_law_written" = some (some (.ref f37))) (l37 : K.lookup f37 = some ⟨oc37, od37, .func (PySem.W.fnOf "_law_written" "_law_written" (defArgs s__law_written) (defBody s__law_written) (defScope s__law_written) .none kV37 dc37 pm37 an37 cd37 ct37), sl37⟩) (c37 : PySem.W.codeIn K cd37 "_law_written" = true) (k37 : PySem.W.keepIn K (.ref f37) = true)
    (a38 : PySem.W.nsIn K mainGlobals "_law_step" = some (some (.ref f38))) (l38 : K.lookup f38 = some ⟨oc38, od38, .func (PySem.W.fnOf "_law_step" "_law_step" (defArgs s__law_step) (defBody s__law_step) (defScope s__law_step) .none kV38 dc38 pm38 an38 cd38 ct38), sl38⟩) (c38 : PySem.W.codeIn K cd38 "_law_step" = true) (k38 : PySem.W.keepIn K (.ref f38) = true)
    (a39 : PySem.W.nsIn K mainGlobals "law" = some (some (.ref f39))) (l39 : K.lookup f39 = some ⟨oc39, od39, .func (PySem.W.fnOf "law" "law" (defArgs s_law) (defBody s_law) (defScope s_law) .none kV39 dc39 pm39 an39 cd39 ct39), sl39⟩) (c39 : PySem.W.codeIn K cd39 "law" = true) (k39 : PySem.W.keepIn K (.ref f39) = true)
    (a_PRIMES : PySem.W.nsIn K mainGlobals "PRIMES" = some (some (.ref t_PRIMES))) (l_PRIMES : K.lookup t_PRIMES = some ⟨.type "tuple", od_PRIMES, .seq #[.int 2 k0_PRIMES, .int 3 k1_PRIMES, .int 5 k2_PRIMES, .int 7 k3_PRIMES] n_PRIMES, sl_PRIMES⟩)
    (a_LETTERS : PySem.W.nsIn K mainGlobals "LETTERS" = some (some (.str "abcdefghijklmnopqrstuvwxyz" t_LETTERS)))
    (a_FIGURES : PySem.W.nsIn K mainGlobals "FIGURES" = some (some (.str "0123456789" t_FIGURES)))
    (a_TOLD_WORDS : PySem.W.nsIn K mainGlobals "TOLD_WORDS" = some (some (.ref t_TOLD_WORDS))) (l_TOLD_WORDS : K.lookup t_TOLD_WORDS = some ⟨.type "tuple", od_TOLD_WORDS, .seq #[.str "note" k0_TOLD_WORDS, .str "held" k1_TOLD_WORDS, .str "pure" k2_TOLD_WORDS, .str "home" k3_TOLD_WORDS, .str "step" k4_TOLD_WORDS, .str "bend" k5_TOLD_WORDS, .str "weight" k6_TOLD_WORDS] n_TOLD_WORDS, sl_TOLD_WORDS⟩)
    (a_MOST_SIGNS : PySem.W.nsIn K mainGlobals "MOST_SIGNS" = some (some (.int 8000 t_MOST_SIGNS)))
    (a_MOST_LETTERS : PySem.W.nsIn K mainGlobals "MOST_LETTERS" = some (some (.int 8 t_MOST_LETTERS)))
    (a_MOST_FIGURES : PySem.W.nsIn K mainGlobals "MOST_FIGURES" = some (some (.int 5 t_MOST_FIGURES)))
    (a_SHAPES : PySem.W.nsIn K mainGlobals "SHAPES" = some (some (.ref d_SHAPES)))
    (w_SHAPES : He.dicW K d_SHAPES = some (He.keysIn w.params ["note", "held", "pure", "step", "home"]))
    (v_SHAPES_0 : PySem.W.nsIn K d_SHAPES "note" = some (some (.ref p_SHAPES_0))) (l_SHAPES_0 : K.lookup p_SHAPES_0 = some ⟨.type "tuple", od_SHAPES_0, .seq #[.str "note" k0_SHAPES_0, .str "NAME" k1_SHAPES_0, .str "NAME" k2_SHAPES_0, .str "BEAT" k3_SHAPES_0, .str "BEAT" k4_SHAPES_0] n_SHAPES_0, sl_SHAPES_0⟩)
    (v_SHAPES_1 : PySem.W.nsIn K d_SHAPES "held" = some (some (.ref p_SHAPES_1))) (l_SHAPES_1 : K.lookup p_SHAPES_1 = some ⟨.type "tuple", od_SHAPES_1, .seq #[.str "held" k0_SHAPES_1, .str "NAME" k1_SHAPES_1, .str "NAME" k2_SHAPES_1, .str "bend" k3_SHAPES_1, .str "BEND" k4_SHAPES_1, .str "weight" k5_SHAPES_1, .str "WEIGHT" k6_SHAPES_1] n_SHAPES_1, sl_SHAPES_1⟩)
    (v_SHAPES_2 : PySem.W.nsIn K d_SHAPES "pure" = some (some (.ref p_SHAPES_2))) (l_SHAPES_2 : K.lookup p_SHAPES_2 = some ⟨.type "tuple", od_SHAPES_2, .seq #[.str "pure" k0_SHAPES_2, .str "NAME" k1_SHAPES_2, .str "NAME" k2_SHAPES_2, .str "PART" k3_SHAPES_2, .str "/" k4_SHAPES_2, .str "PART" k5_SHAPES_2, .str "bend" k6_SHAPES_2, .str "BEND" k7_SHAPES_2, .str "weight" k8_SHAPES_2, .str "WEIGHT" k9_SHAPES_2] n_SHAPES_2, sl_SHAPES_2⟩)
    (v_SHAPES_3 : PySem.W.nsIn K d_SHAPES "step" = some (some (.ref p_SHAPES_3))) (l_SHAPES_3 : K.lookup p_SHAPES_3 = some ⟨.type "tuple", od_SHAPES_3, .seq #[.str "step" k0_SHAPES_3, .str "NAME" k1_SHAPES_3, .str "NAME" k2_SHAPES_3, .str "PART" k3_SHAPES_3, .str "/" k4_SHAPES_3, .str "PART" k5_SHAPES_3, .str "bend" k6_SHAPES_3, .str "BEND" k7_SHAPES_3, .str "weight" k8_SHAPES_3, .str "WEIGHT" k9_SHAPES_3] n_SHAPES_3, sl_SHAPES_3⟩)
    (v_SHAPES_4 : PySem.W.nsIn K d_SHAPES "home" = some (some (.ref p_SHAPES_4))) (l_SHAPES_4 : K.lookup p_SHAPES_4 = some ⟨.type "tuple", od_SHAPES_4, .seq #[.str "home" k0_SHAPES_4, .str "NAME" k1_SHAPES_4, .str "NAME" k2_SHAPES_4] n_SHAPES_4, sl_SHAPES_4⟩)
    (a_ENDS : PySem.W.nsIn K mainGlobals "ENDS" = some (some (.ref d_ENDS)))
    (w_ENDS : He.dicW K d_ENDS = some (He.keysIn w.params ["note", "held", "pure", "step", "home"]))
    (v_ENDS_0 : PySem.W.nsIn K d_ENDS "note" = some (some (.ref p_ENDS_0))) (l_ENDS_0 : K.lookup p_ENDS_0 = some ⟨.type "tuple", od_ENDS_0, .seq #[.int 5 k0_ENDS_0] n_ENDS_0, sl_ENDS_0⟩)
    (v_ENDS_1 : PySem.W.nsIn K d_ENDS "held" = some (some (.ref p_ENDS_1))) (l_ENDS_1 : K.lookup p_ENDS_1 = some ⟨.type "tuple", od_ENDS_1, .seq #[.int 3 k0_ENDS_1, .int 5 k1_ENDS_1, .int 7 k2_ENDS_1] n_ENDS_1, sl_ENDS_1⟩)
    (v_ENDS_2 : PySem.W.nsIn K d_ENDS "pure" = some (some (.ref p_ENDS_2))) (l_ENDS_2 : K.lookup p_ENDS_2 = some ⟨.type "tuple", od_ENDS_2, .seq #[.int 6 k0_ENDS_2, .int 8 k1_ENDS_2, .int 10 k2_ENDS_2] n_ENDS_2, sl_ENDS_2⟩)
    (v_ENDS_3 : PySem.W.nsIn K d_ENDS "step" = some (some (.ref p_ENDS_3))) (l_ENDS_3 : K.lookup p_ENDS_3 = some ⟨.type "tuple", od_ENDS_3, .seq #[.int 6 k0_ENDS_3, .int 8 k1_ENDS_3, .int 10 k2_ENDS_3] n_ENDS_3, sl_ENDS_3⟩)
    (v_ENDS_4 : PySem.W.nsIn K d_ENDS "home" = some (some (.ref p_ENDS_4))) (l_ENDS_4 : K.lookup p_ENDS_4 = some ⟨.type "tuple", od_ENDS_4, .seq #[.int 3 k0_ENDS_4] n_ENDS_4, sl_ENDS_4⟩)
    (a_BOUNDS : PySem.W.nsIn K mainGlobals "BOUNDS" = some (some (.ref d_BOUNDS)))
    (w_BOUNDS : He.dicW K d_BOUNDS = some (He.keysIn w.params ["BEAT", "PART", "BEND", "WEIGHT"]))
    (v_BOUNDS_0 : PySem.W.nsIn K d_BOUNDS "BEAT" = some (some (.ref p_BOUNDS_0))) (l_BOUNDS_0 : K.lookup p_BOUNDS_0 = some ⟨.type "tuple", od_BOUNDS_0, .seq #[.int 0 k0_BOUNDS_0, .int 9999 k1_BOUNDS_0] n_BOUNDS_0, sl_BOUNDS_0⟩)
    (v_BOUNDS_1 : PySem.W.nsIn K d_BOUNDS "PART" = some (some (.ref p_BOUNDS_1))) (l_BOUNDS_1 : K.lookup p_BOUNDS_1 = some ⟨.type "tuple", od_BOUNDS_1, .seq #[.int 1 k0_BOUNDS_1, .int 9999 k1_BOUNDS_1] n_BOUNDS_1, sl_BOUNDS_1⟩)
    (v_BOUNDS_2 : PySem.W.nsIn K d_BOUNDS "BEND" = some (some (.ref p_BOUNDS_2))) (l_BOUNDS_2 : K.lookup p_BOUNDS_2 = some ⟨.type "tuple", od_BOUNDS_2, .seq #[.int 0 k0_BOUNDS_2, .int 9999 k1_BOUNDS_2] n_BOUNDS_2, sl_BOUNDS_2⟩)
    (v_BOUNDS_3 : PySem.W.nsIn K d_BOUNDS "WEIGHT" = some (some (.ref p_BOUNDS_3))) (l_BOUNDS_3 : K.lookup p_BOUNDS_3 = some ⟨.type "tuple", od_BOUNDS_3, .seq #[.int 1 k0_BOUNDS_3, .int 9 k1_BOUNDS_3] n_BOUNDS_3, sl_BOUNDS_3⟩)
    (a_TIE_WORDS : PySem.W.nsIn K mainGlobals "TIE_WORDS" = some (some (.ref t_TIE_WORDS))) (l_TIE_WORDS : K.lookup t_TIE_WORDS = some ⟨.type "tuple", od_TIE_WORDS, .seq #[.str "held" k0_TIE_WORDS, .str "pure" k1_TIE_WORDS, .str "step" k2_TIE_WORDS] n_TIE_WORDS, sl_TIE_WORDS⟩)
    (a_BEND_UNWRITTEN : PySem.W.nsIn K mainGlobals "BEND_UNWRITTEN" = some (some (.int 50 t_BEND_UNWRITTEN)))
    (a_WEIGHT_UNWRITTEN : PySem.W.nsIn K mainGlobals "WEIGHT_UNWRITTEN" = some (some (.int 1 t_WEIGHT_UNWRITTEN)))
    (z_abs : PySem.W.nsIn K mainGlobals "abs" = some none)
    (z_all : PySem.W.nsIn K mainGlobals "all" = some none)
    (z_enumerate : PySem.W.nsIn K mainGlobals "enumerate" = some none)
    (z_int : PySem.W.nsIn K mainGlobals "int" = some none)
    (z_isinstance : PySem.W.nsIn K mainGlobals "isinstance" = some none)
    (z_len : PySem.W.nsIn K mainGlobals "len" = some none)
    (z_max : PySem.W.nsIn K mainGlobals "max" = some none)
    (z_range : PySem.W.nsIn K mainGlobals "range" = some none)
    (z_str : PySem.W.nsIn K mainGlobals "str" = some none)
    (z_super : PySem.W.nsIn K mainGlobals "super" = some none)
    (z_tuple : PySem.W.nsIn K mainGlobals "tuple" = some none)
    (z_zip : PySem.W.nsIn K mainGlobals "zip" = some none)
    (a_BadSign : PySem.W.nsIn K mainGlobals "BadSign" = some (some (.ref C_BadSign)))
    (a_BadText : PySem.W.nsIn K mainGlobals "BadText" = some (some (.ref C_BadText)))
    (kp_BadSign : PySem.W.keepIn K (.ref C_BadSign) = true)
    (sb_BadSign : PySem.W.subIn K (.ref C_BadSign) (.type "BaseException") = some true)
    (ty_BadSign : PySem.W.typeIn K (.ref C_BadSign) = some (.type "type"))
    (ga_BadSign : PySem.W.findIn K (.ref C_BadSign) "__getattribute__" = some (some (.builtin "BaseException.__getattribute__")))
    (gg_BadSign : PySem.W.findIn K (.ref C_BadSign) "__getattr__" = some none)
    (hd_BadSign : PySem.W.hasDictIn K C_BadSign = true)
    (nof_BadSign : PySem.W.findIn K (.ref C_BadSign) "spot" = some none)
    (isc_BadSign : PySem.W.isClsIn K C_BadSign = true)
    (cl_BadSign : PySem.W.findIn K (.ref C_BadSign) "__class__" = some (some (.builtin "object.__class__")))
    (mr_BadSign : PySem.W.mroIn K C_BadSign (.type "object") = some true)
    (sp_BadSign : PySem.W.specialIn K (.builtin "object.__class__") "__get__" = some (some (.builtin "getset_descriptor.__get__")))
    (tk_BadSign : PySem.W.takesIn K (.builtin "object.__class__") = some true)
    (cls_BadSign : K.lookup C_BadSign = some (PySem.excClassObj nm_BadSign q_BadSign C_BadSign N_BadSign bs_BadSign bm_BadSign true sn_BadSign sub_BadSign ab_BadSign col_BadSign dd_BadSign k0_BadSign k1_BadSign k2_BadSign k3_BadSign k5_BadSign "ValueError.__new__"))
    (ref_BadSign : PySem.HandSPX.refsVE bm_BadSign = true)
    (alo_BadSign : PySem.W.alongIn K "__init__" bm_BadSign = some (some (.builtin "ValueError.__init__")))
    (ini_BadSign : PySem.W.excInitIn K C_BadSign [.type "ValueError", .type "Exception", .type "BaseException", .type "object"] "ValueError.__new__" = true)
    (sa_BadSign : PySem.W.findIn K (.ref C_BadSign) "__setattr__" = some (some (.builtin "object.__setattr__")))
    (ic_BadSign : PySem.W.findIn K (.ref C_BadSign) "__init__" = some (some (.ref fI_BadSign)))
    (tc_BadSign : PySem.W.typeIn K (.ref fI_BadSign) = some (.type "function"))
    (own_BadSign : PySem.W.subIn K (.ref C_BadSign) (.ref C_BadSign) = some true)
    (ve_BadSign : PySem.W.subIn K (.ref C_BadSign) (.type "ValueError") = some true)
    (st_BadSign : PySem.W.nsIn K cStatics "thirdparty.any" = some none)
    (fn_BadSign : K.lookup fI_BadSign = some ⟨oc_BadSign, od_BadSign, .func (PySem.W.ksFn "__init__" qual_BadSign (siA ⟨43, 17, 43, 21⟩ ⟨43, 23, 43, 27⟩) (siB "no word at sign " qp_BadSign) siS .none .none doc_BadSign pm_BadSign an_BadSign (.ref cda_BadSign) ct_BadSign cc_BadSign), osl_BadSign⟩)
    (cel_BadSign : K.lookup cc_BadSign = some ⟨ucl_BadSign, cld_BadSign, .cell (some (.ref C_BadSign)), csl_BadSign⟩)
    (cod_BadSign : PySem.W.codeIn K (.ref cda_BadSign) qual_BadSign = true)
    (cdf_BadSign : K.lookup cda_BadSign = some ⟨ccl_BadSign, cdd_BadSign, .fields vs_BadSign, ccs_BadSign⟩)
    (fil_BadSign : vs_BadSign[2]? = some (.str file_BadSign tf_BadSign))
    (fi2_BadSign : (l.prog.main.file == file_BadSign) = true)
    (gP_BadSign : (l.prog.main.scope.names.lookup (PySem.Str.ofString "super")).isSome = false)
    (kp_BadText : PySem.W.keepIn K (.ref C_BadText) = true)
    (sb_BadText : PySem.W.subIn K (.ref C_BadText) (.type "BaseException") = some true)
    (ty_BadText : PySem.W.typeIn K (.ref C_BadText) = some (.type "type"))
    (ga_BadText : PySem.W.findIn K (.ref C_BadText) "__getattribute__" = some (some (.builtin "BaseException.__getattribute__")))
    (gg_BadText : PySem.W.findIn K (.ref C_BadText) "__getattr__" = some none)
    (hd_BadText : PySem.W.hasDictIn K C_BadText = true)
    (nof_BadText : PySem.W.findIn K (.ref C_BadText) "spot" = some none)
    (isc_BadText : PySem.W.isClsIn K C_BadText = true)
    (cl_BadText : PySem.W.findIn K (.ref C_BadText) "__class__" = some (some (.builtin "object.__class__")))
    (mr_BadText : PySem.W.mroIn K C_BadText (.type "object") = some true)
    (sp_BadText : PySem.W.specialIn K (.builtin "object.__class__") "__get__" = some (some (.builtin "getset_descriptor.__get__")))
    (tk_BadText : PySem.W.takesIn K (.builtin "object.__class__") = some true)
    (cls_BadText : K.lookup C_BadText = some (PySem.excClassObj nm_BadText q_BadText C_BadText N_BadText bs_BadText bm_BadText true sn_BadText sub_BadText ab_BadText col_BadText dd_BadText k0_BadText k1_BadText k2_BadText k3_BadText k5_BadText "ValueError.__new__"))
    (ref_BadText : PySem.HandSPX.refsVE bm_BadText = true)
    (alo_BadText : PySem.W.alongIn K "__init__" bm_BadText = some (some (.builtin "ValueError.__init__")))
    (ini_BadText : PySem.W.excInitIn K C_BadText [.type "ValueError", .type "Exception", .type "BaseException", .type "object"] "ValueError.__new__" = true)
    (sa_BadText : PySem.W.findIn K (.ref C_BadText) "__setattr__" = some (some (.builtin "object.__setattr__")))
    (ic_BadText : PySem.W.findIn K (.ref C_BadText) "__init__" = some (some (.ref fI_BadText)))
    (tc_BadText : PySem.W.typeIn K (.ref fI_BadText) = some (.type "function"))
    (own_BadText : PySem.W.subIn K (.ref C_BadText) (.ref C_BadText) = some true)
    (ve_BadText : PySem.W.subIn K (.ref C_BadText) (.type "ValueError") = some true)
    (st_BadText : PySem.W.nsIn K cStatics "thirdparty.any" = some none)
    (fn_BadText : K.lookup fI_BadText = some ⟨oc_BadText, od_BadText, .func (PySem.W.ksFn "__init__" qual_BadText (F_spot.siA ⟨48, 17, 48, 21⟩ ⟨48, 23, 48, 27⟩) (F_spot.siB "no row goes on so: row and word " qp_BadText) F_spot.siS .none .none doc_BadText pm_BadText an_BadText (.ref cda_BadText) ct_BadText cc_BadText), osl_BadText⟩)
    (cel_BadText : K.lookup cc_BadText = some ⟨ucl_BadText, cld_BadText, .cell (some (.ref C_BadText)), csl_BadText⟩)
    (cod_BadText : PySem.W.codeIn K (.ref cda_BadText) qual_BadText = true)
    (cdf_BadText : K.lookup cda_BadText = some ⟨ccl_BadText, cdd_BadText, .fields vs_BadText, ccs_BadText⟩)
    (fil_BadText : vs_BadText[2]? = some (.str file_BadText tf_BadText))
    (fi2_BadText : (l.prog.main.file == file_BadText) = true)
    (gP_BadText : (l.prog.main.scope.names.lookup (PySem.Str.ofString "super")).isSome = false) :
    ∃ fd : FuncData, (∀ (s : Shared) (v : Value), BindsTo s fd ⟨[v], []⟩ [("_law_script", v)]) ∧ ∀ base : Heap, K.In base → base.Ns mainGlobals mg → FnOk l.prog w K mg base CX0 12 fa fd ["_law_script"] (spLaw K) := by
  have e := hfa.symm.trans (PySem.W.mg_of X G a39)
  cases e
  have F0 := fun_mk (st := s_is_all_of) l0 c0 k0
  have B0 := F0.binds (ps := ["piece", "signs"]) fun _ _ _ _ _ _ us hl => match us, hl with | [_, _], _ => rfl
  have F1 := fun_mk (st := s_is_letters) l1 c1 k1
  have B1 := F1.binds (ps := ["piece"]) fun _ _ _ _ _ _ us hl => match us, hl with | [_], _ => rfl
  have F2 := fun_mk (st := s_is_number) l2 c2 k2
  have B2 := F2.binds (ps := ["piece"]) fun _ _ _ _ _ _ us hl => match us, hl with | [_], _ => rfl
  have F3 := fun_mk (st := s_is_word) l3 c3 k3
  have B3 := F3.binds (ps := ["piece"]) fun _ _ _ _ _ _ us hl => match us, hl with | [_], _ => rfl
  have F4 := fun_mk (st := s_side_by_side) l4 c4 k4
  have B4 := F4.binds (ps := ["text", "at", "signs"]) fun _ _ _ _ _ _ us hl => match us, hl with | [_, _, _], _ => rfl
  have F5 := fun_mk (st := s_piece_at) l5 c5 k5
  have B5 := F5.binds (ps := ["text", "at"]) fun _ _ _ _ _ _ us hl => match us, hl with | [_, _], _ => rfl
  have F6 := fun_mk (st := s_is_name) l6 c6 k6
  have B6 := F6.binds (ps := ["word"]) fun _ _ _ _ _ _ us hl => match us, hl with | [_], _ => rfl
  have F7 := fun_mk (st := s_text_words) l7 c7 k7
  have B7 := F7.binds (ps := ["text"]) fun _ _ _ _ _ _ us hl => match us, hl with | [_], _ => rfl
  have F8 := fun_mk (st := s_how_often) l8 c8 k8
  have B8 := F8.binds (ps := ["number", "prime"]) fun _ _ _ _ _ _ us hl => match us, hl with | [_, _], _ => rfl
  have F9 := fun_mk (st := s_raised) l9 c9 k9
  have B9 := F9.binds (ps := ["prime", "many"]) fun _ _ _ _ _ _ us hl => match us, hl with | [_, _], _ => rfl
  have F10 := fun_mk (st := s_ratio_of) l10 c10 k10
  have B10 := F10.binds (ps := ["p", "q"]) fun _ _ _ _ _ _ us hl => match us, hl with | [_, _], _ => rfl
  have F11 := fun_mk (st := s_fraction) l11 c11 k11
  have B11 := F11.binds (ps := ["one"]) fun _ _ _ _ _ _ us hl => match us, hl with | [_], _ => rfl
  have F12 := fun_mk (st := s_figures) l12 c12 k12
  have B12 := F12.binds (ps := ["number"]) fun _ _ _ _ _ _ us hl => match us, hl with | [_], _ => rfl
  have F13 := fun_mk (st := s_ratio_text) l13 c13 k13
  have B13 := F13.binds (ps := ["one"]) fun _ _ _ _ _ _ us hl => match us, hl with | [_], _ => rfl
  have F14 := fun_mk (st := s_is_product) l14 c14 k14
  have B14 := F14.binds (ps := ["number"]) fun _ _ _ _ _ _ us hl => match us, hl with | [_], _ => rfl
  have F15 := fun_mk (st := s_is_bounded) l15 c15 k15
  have B15 := F15.binds (ps := ["number", "kind"]) fun _ _ _ _ _ _ us hl => match us, hl with | [_, _], _ => rfl
  have F16 := fun_mk (st := s_fits) l16 c16 k16
  have B16 := F16.binds (ps := ["word", "kind"]) fun _ _ _ _ _ _ us hl => match us, hl with | [_, _], _ => rfl
  have F17 := fun_mk (st := s_wrong_word) l17 c17 k17
  have B17 := F17.binds (ps := ["words"]) fun _ _ _ _ _ _ us hl => match us, hl with | [_], _ => rfl
  have F18 := fun_mk (st := s_need_row) l18 c18 k18
  have B18 := F18.binds (ps := ["words", "number"]) fun _ _ _ _ _ _ us hl => match us, hl with | [_, _], _ => rfl
  have F19 := fun_mk (st := s_number_behind) l19 c19 k19
  have B19 := F19.binds (ps := ["words", "mark", "unwritten"]) fun _ _ _ _ _ _ us hl => match us, hl with | [_, _, _], _ => rfl
  have F20 := fun_mk (st := s_told_note) l20 c20 k20
  have B20 := F20.binds (ps := ["words"]) fun _ _ _ _ _ _ us hl => match us, hl with | [_], _ => rfl
  have F21 := fun_mk (st := s_told_tie) l21 c21 k21
  have B21 := F21.binds (ps := ["words"]) fun _ _ _ _ _ _ us hl => match us, hl with | [_], _ => rfl
  have F22 := fun_mk (st := s_read) l22 c22 k22
  have B22 := F22.binds (ps := ["text"]) fun _ _ _ _ _ _ us hl => match us, hl with | [_], _ => rfl
  have F23 := fun_mk (st := s_note_row) l23 c23 k23
  have B23 := F23.binds (ps := ["note"]) fun _ _ _ _ _ _ us hl => match us, hl with | [_], _ => rfl
  have F24 := fun_mk (st := s_tie_row) l24 c24 k24
  have B24 := F24.binds (ps := ["tie"]) fun _ _ _ _ _ _ us hl => match us, hl with | [_], _ => rfl
  have F25 := fun_mk (st := s_written) l25 c25 k25
  have B25 := F25.binds (ps := ["song"]) fun _ _ _ _ _ _ us hl => match us, hl with | [_], _ => rfl
  have F26 := fun_mk (st := s__law_next) l26 c26 k26
  have B26 := F26.binds (ps := ["_law_state", "_law_many"]) fun _ _ _ _ _ _ us hl => match us, hl with | [_, _], _ => rfl
  have F27 := fun_mk (st := s__law_begun) l27 c27 k27
  have B27 := F27.binds (ps := ["_law_cells"]) fun _ _ _ _ _ _ us hl => match us, hl with | [_], _ => rfl
  have F28 := fun_mk (st := s__law_part) l28 c28 k28
  have B28 := F28.binds (ps := ["_law_state"]) fun _ _ _ _ _ _ us hl => match us, hl with | [_], _ => rfl
  have F29 := fun_mk (st := s__law_often) l29 c29 k29
  have B29 := F29.binds (ps := ["_law_number"]) fun _ _ _ _ _ _ us hl => match us, hl with | [_], _ => rfl
  have F30 := fun_mk (st := s__law_ratio) l30 c30 k30
  have B30 := F30.binds (ps := ["_law_p", "_law_q"]) fun _ _ _ _ _ _ us hl => match us, hl with | [_, _], _ => rfl
  have F31 := fun_mk (st := s__law_tie) l31 c31 k31
  have B31 := F31.binds (ps := ["_law_state", "_law_some"]) fun _ _ _ _ _ _ us hl => match us, hl with | [_, _], _ => rfl
  have F32 := fun_mk (st := s__law_song) l32 c32 k32
  have B32 := F32.binds (ps := ["_law_state", "_law_most"]) fun _ _ _ _ _ _ us hl => match us, hl with | [_, _], _ => rfl
  have F33 := fun_mk (st := s__law_sort) l33 c33 k33
  have B33 := F33.binds (ps := ["_law_sign"]) fun _ _ _ _ _ _ us hl => match us, hl with | [_], _ => rfl
  have F34 := fun_mk (st := s__law_row_text) l34 c34 k34
  have B34 := F34.binds (ps := ["_law_state", "_law_words"]) fun _ _ _ _ _ _ us hl => match us, hl with | [_, _], _ => rfl
  have F35 := fun_mk (st := s__law_text) l35 c35 k35
  have B35 := F35.binds (ps := ["_law_state", "_law_rows"]) fun _ _ _ _ _ _ us hl => match us, hl with | [_, _], _ => rfl
  have F36 := fun_mk (st := s__law_shown) l36 c36 k36
  have B36 := F36.binds (ps := ["_law_ratio_here"]) fun _ _ _ _ _ _ us hl => match us, hl with | [_], _ => rfl
  have F37 := fun_mk (st := s__law_written) l37 c37 k37
  have B37 := F37.binds (ps := ["_law_song_here"]) fun _ _ _ _ _ _ us hl => match us, hl with | [_], _ => rfl
  have F38 := fun_mk (st := s__law_step) l38 c38 k38
  have B38 := F38.binds (ps := ["_law_cells"]) fun _ _ _ _ _ _ us hl => match us, hl with | [_], _ => rfl
  have F39 := fun_mk (st := s_law) l39 c39 k39
  have B39 := F39.binds (ps := ["_law_script"]) fun _ _ _ _ _ _ us hl => match us, hl with | [_], _ => rfl
  have t_SHAPES : KTab K w d_SHAPES c_SHAPES := ktab w_SHAPES fun p hp => by
    rcases List.mem_cons.mp hp with rfl | hp
    · exact ⟨_, .ref p_SHAPES_0, v_SHAPES_0, rfl, fun B => .tupK (vs := [.str "note", .str "NAME", .str "NAME", .str "BEAT", .str "BEAT"]) l_SHAPES_0 (by exact (by decide : 5 ≤ 1000)) (.cons ⟨_, rfl⟩ (.cons ⟨_, rfl⟩ (.cons ⟨_, rfl⟩ (.cons ⟨_, rfl⟩ (.cons ⟨_, rfl⟩ .nil))))) (.cons (.str _) (.cons (.str _) (.cons (.str _) (.cons (.str _) (.cons (.str _) .nil)))))⟩
    rcases List.mem_cons.mp hp with rfl | hp
    · exact ⟨_, .ref p_SHAPES_1, v_SHAPES_1, rfl, fun B => .tupK (vs := [.str "held", .str "NAME", .str "NAME", .str "bend", .str "BEND", .str "weight", .str "WEIGHT"]) l_SHAPES_1 (by exact (by decide : 7 ≤ 1000)) (.cons ⟨_, rfl⟩ (.cons ⟨_, rfl⟩ (.cons ⟨_, rfl⟩ (.cons ⟨_, rfl⟩ (.cons ⟨_, rfl⟩ (.cons ⟨_, rfl⟩ (.cons ⟨_, rfl⟩ .nil))))))) (.cons (.str _) (.cons (.str _) (.cons (.str _) (.cons (.str _) (.cons (.str _) (.cons (.str _) (.cons (.str _) .nil)))))))⟩
    rcases List.mem_cons.mp hp with rfl | hp
    · exact ⟨_, .ref p_SHAPES_2, v_SHAPES_2, rfl, fun B => .tupK (vs := [.str "pure", .str "NAME", .str "NAME", .str "PART", .str "/", .str "PART", .str "bend", .str "BEND", .str "weight", .str "WEIGHT"]) l_SHAPES_2 (by exact (by decide : 10 ≤ 1000)) (.cons ⟨_, rfl⟩ (.cons ⟨_, rfl⟩ (.cons ⟨_, rfl⟩ (.cons ⟨_, rfl⟩ (.cons ⟨_, rfl⟩ (.cons ⟨_, rfl⟩ (.cons ⟨_, rfl⟩ (.cons ⟨_, rfl⟩ (.cons ⟨_, rfl⟩ (.cons ⟨_, rfl⟩ .nil)))))))))) (.cons (.str _) (.cons (.str _) (.cons (.str _) (.cons (.str _) (.cons (.str _) (.cons (.str _) (.cons (.str _) (.cons (.str _) (.cons (.str _) (.cons (.str _) .nil))))))))))⟩
    rcases List.mem_cons.mp hp with rfl | hp
    · exact ⟨_, .ref p_SHAPES_3, v_SHAPES_3, rfl, fun B => .tupK (vs := [.str "step", .str "NAME", .str "NAME", .str "PART", .str "/", .str "PART", .str "bend", .str "BEND", .str "weight", .str "WEIGHT"]) l_SHAPES_3 (by exact (by decide : 10 ≤ 1000)) (.cons ⟨_, rfl⟩ (.cons ⟨_, rfl⟩ (.cons ⟨_, rfl⟩ (.cons ⟨_, rfl⟩ (.cons ⟨_, rfl⟩ (.cons ⟨_, rfl⟩ (.cons ⟨_, rfl⟩ (.cons ⟨_, rfl⟩ (.cons ⟨_, rfl⟩ (.cons ⟨_, rfl⟩ .nil)))))))))) (.cons (.str _) (.cons (.str _) (.cons (.str _) (.cons (.str _) (.cons (.str _) (.cons (.str _) (.cons (.str _) (.cons (.str _) (.cons (.str _) (.cons (.str _) .nil))))))))))⟩
    rcases List.mem_cons.mp hp with rfl | hp
    · exact ⟨_, .ref p_SHAPES_4, v_SHAPES_4, rfl, fun B => .tupK (vs := [.str "home", .str "NAME", .str "NAME"]) l_SHAPES_4 (by exact (by decide : 3 ≤ 1000)) (.cons ⟨_, rfl⟩ (.cons ⟨_, rfl⟩ (.cons ⟨_, rfl⟩ .nil))) (.cons (.str _) (.cons (.str _) (.cons (.str _) .nil)))⟩
    cases hp
  have t_ENDS : KTab K w d_ENDS c_ENDS := ktab w_ENDS fun p hp => by
    rcases List.mem_cons.mp hp with rfl | hp
    · exact ⟨_, .ref p_ENDS_0, v_ENDS_0, rfl, fun B => .tupK (vs := [.int 5]) l_ENDS_0 (by exact (by decide : 1 ≤ 1000)) (.cons ⟨_, rfl⟩ .nil) (.cons (.int _) .nil)⟩
    rcases List.mem_cons.mp hp with rfl | hp
    · exact ⟨_, .ref p_ENDS_1, v_ENDS_1, rfl, fun B => .tupK (vs := [.int 3, .int 5, .int 7]) l_ENDS_1 (by exact (by decide : 3 ≤ 1000)) (.cons ⟨_, rfl⟩ (.cons ⟨_, rfl⟩ (.cons ⟨_, rfl⟩ .nil))) (.cons (.int _) (.cons (.int _) (.cons (.int _) .nil)))⟩
    rcases List.mem_cons.mp hp with rfl | hp
    · exact ⟨_, .ref p_ENDS_2, v_ENDS_2, rfl, fun B => .tupK (vs := [.int 6, .int 8, .int 10]) l_ENDS_2 (by exact (by decide : 3 ≤ 1000)) (.cons ⟨_, rfl⟩ (.cons ⟨_, rfl⟩ (.cons ⟨_, rfl⟩ .nil))) (.cons (.int _) (.cons (.int _) (.cons (.int _) .nil)))⟩
    rcases List.mem_cons.mp hp with rfl | hp
    · exact ⟨_, .ref p_ENDS_3, v_ENDS_3, rfl, fun B => .tupK (vs := [.int 6, .int 8, .int 10]) l_ENDS_3 (by exact (by decide : 3 ≤ 1000)) (.cons ⟨_, rfl⟩ (.cons ⟨_, rfl⟩ (.cons ⟨_, rfl⟩ .nil))) (.cons (.int _) (.cons (.int _) (.cons (.int _) .nil)))⟩
    rcases List.mem_cons.mp hp with rfl | hp
    · exact ⟨_, .ref p_ENDS_4, v_ENDS_4, rfl, fun B => .tupK (vs := [.int 3]) l_ENDS_4 (by exact (by decide : 1 ≤ 1000)) (.cons ⟨_, rfl⟩ .nil) (.cons (.int _) .nil)⟩
    cases hp
  have t_BOUNDS : KTab K w d_BOUNDS c_BOUNDS := ktab w_BOUNDS fun p hp => by
    rcases List.mem_cons.mp hp with rfl | hp
    · exact ⟨_, .ref p_BOUNDS_0, v_BOUNDS_0, rfl, fun B => .tupK (vs := [.int 0, .int 9999]) l_BOUNDS_0 (by exact (by decide : 2 ≤ 1000)) (.cons ⟨_, rfl⟩ (.cons ⟨_, rfl⟩ .nil)) (.cons (.int _) (.cons (.int _) .nil))⟩
    rcases List.mem_cons.mp hp with rfl | hp
    · exact ⟨_, .ref p_BOUNDS_1, v_BOUNDS_1, rfl, fun B => .tupK (vs := [.int 1, .int 9999]) l_BOUNDS_1 (by exact (by decide : 2 ≤ 1000)) (.cons ⟨_, rfl⟩ (.cons ⟨_, rfl⟩ .nil)) (.cons (.int _) (.cons (.int _) .nil))⟩
    rcases List.mem_cons.mp hp with rfl | hp
    · exact ⟨_, .ref p_BOUNDS_2, v_BOUNDS_2, rfl, fun B => .tupK (vs := [.int 0, .int 9999]) l_BOUNDS_2 (by exact (by decide : 2 ≤ 1000)) (.cons ⟨_, rfl⟩ (.cons ⟨_, rfl⟩ .nil)) (.cons (.int _) (.cons (.int _) .nil))⟩
    rcases List.mem_cons.mp hp with rfl | hp
    · exact ⟨_, .ref p_BOUNDS_3, v_BOUNDS_3, rfl, fun B => .tupK (vs := [.int 1, .int 9]) l_BOUNDS_3 (by exact (by decide : 2 ≤ 1000)) (.cons ⟨_, rfl⟩ (.cons ⟨_, rfl⟩ .nil)) (.cons (.int _) (.cons (.int _) .nil))⟩
    cases hp
  have T : Tx l.prog w K mg := { d_is_all_of := ⟨_, _, F0, PySem.W.mg_of X G a0, B0⟩, d_is_letters := ⟨_, _, F1, PySem.W.mg_of X G a1, B1⟩, d_is_number := ⟨_, _, F2, PySem.W.mg_of X G a2, B2⟩, d_is_word := ⟨_, _, F3, PySem.W.mg_of X G a3, B3⟩, d_side_by_side := ⟨_, _, F4, PySem.W.mg_of X G a4, B4⟩, d_piece_at := ⟨_, _, F5, PySem.W.mg_of X G a5, B5⟩, d_is_name := ⟨_, _, F6, PySem.W.mg_of X G a6, B6⟩, d_text_words := ⟨_, _, F7, PySem.W.mg_of X G a7, B7⟩, d_how_often := ⟨_, _, F8, PySem.W.mg_of X G a8, B8⟩, d_raised := ⟨_, _, F9, PySem.W.mg_of X G a9, B9⟩, d_ratio_of := ⟨_, _, F10, PySem.W.mg_of X G a10, B10⟩, d_fraction := ⟨_, _, F11, PySem.W.mg_of X G a11, B11⟩, d_figures := ⟨_, _, F12, PySem.W.mg_of X G a12, B12⟩, d_ratio_text := ⟨_, _, F13, PySem.W.mg_of X G a13, B13⟩, d_is_product := ⟨_, _, F14, PySem.W.mg_of X G a14, B14⟩, d_is_bounded := ⟨_, _, F15, PySem.W.mg_of X G a15, B15⟩, d_fits := ⟨_, _, F16, PySem.W.mg_of X G a16, B16⟩, d_wrong_word := ⟨_, _, F17, PySem.W.mg_of X G a17, B17⟩, d_need_row := ⟨_, _, F18, PySem.W.mg_of X G a18, B18⟩, d_number_behind := ⟨_, _, F19, PySem.W.mg_of X G a19, B19⟩, d_told_note := ⟨_, _, F20, PySem.W.mg_of X G a20, B20⟩, d_told_tie := ⟨_, _, F21, PySem.W.mg_of X G a21, B21⟩, d_read := ⟨_, _, F22, PySem.W.mg_of X G a22, B22⟩, d_note_row := ⟨_, _, F23, PySem.W.mg_of X G a23, B23⟩, d_tie_row := ⟨_, _, F24, PySem.W.mg_of X G a24, B24⟩, d_written := ⟨_, _, F25, PySem.W.mg_of X G a25, B25⟩, d__law_next := ⟨_, _, F26, PySem.W.mg_of X G a26, B26⟩, d__law_begun := ⟨_, _, F27, PySem.W.mg_of X G a27, B27⟩, d__law_part := ⟨_, _, F28, PySem.W.mg_of X G a28, B28⟩, d__law_often := ⟨_, _, F29, PySem.W.mg_of X G a29, B29⟩, d__law_ratio := ⟨_, _, F30, PySem.W.mg_of X G a30, B30⟩, d__law_tie := ⟨_, _, F31, PySem.W.mg_of X G a31, B31⟩, d__law_song := ⟨_, _, F32, PySem.W.mg_of X G a32, B32⟩, d__law_sort := ⟨_, _, F33, PySem.W.mg_of X G a33, B33⟩, d__law_row_text := ⟨_, _, F34, PySem.W.mg_of X G a34, B34⟩, d__law_text := ⟨_, _, F35, PySem.W.mg_of X G a35, B35⟩, d__law_shown := ⟨_, _, F36, PySem.W.mg_of X G a36, B36⟩, d__law_written := ⟨_, _, F37, PySem.W.mg_of X G a37, B37⟩, d__law_step := ⟨_, _, F38, PySem.W.mg_of X G a38, B38⟩, d_law := ⟨_, _, F39, PySem.W.mg_of X G a39, B39⟩, m_PRIMES := ⟨_, PySem.W.mg_of X G a_PRIMES, fun B => .tupK (vs := [.int 2, .int 3, .int 5, .int 7]) l_PRIMES (by exact (by decide : 4 ≤ 1000)) (.cons ⟨_, rfl⟩ (.cons ⟨_, rfl⟩ (.cons ⟨_, rfl⟩ (.cons ⟨_, rfl⟩ .nil)))) (Rps.ofInts [2, 3, 5, 7])⟩, m_LETTERS := ⟨_, PySem.W.mg_of X G a_LETTERS⟩, m_FIGURES := ⟨_, PySem.W.mg_of X G a_FIGURES⟩, m_TOLD_WORDS := ⟨_, PySem.W.mg_of X G a_TOLD_WORDS, fun B => .tupK (vs := [.str "note", .str "held", .str "pure", .str "home", .str "step", .str "bend", .str "weight"]) l_TOLD_WORDS (by exact (by decide : 7 ≤ 1000)) (.cons ⟨_, rfl⟩ (.cons ⟨_, rfl⟩ (.cons ⟨_, rfl⟩ (.cons ⟨_, rfl⟩ (.cons ⟨_, rfl⟩ (.cons ⟨_, rfl⟩ (.cons ⟨_, rfl⟩ .nil))))))) (Rps.ofStrs ["note", "held", "pure", "home", "step", "bend", "weight"])⟩, m_MOST_SIGNS := ⟨_, PySem.W.mg_of X G a_MOST_SIGNS⟩, m_MOST_LETTERS := ⟨_, PySem.W.mg_of X G a_MOST_LETTERS⟩, m_MOST_FIGURES := ⟨_, PySem.W.mg_of X G a_MOST_FIGURES⟩, m_SHAPES := ⟨_, PySem.W.mg_of X G a_SHAPES, t_SHAPES⟩, m_ENDS := ⟨_, PySem.W.mg_of X G a_ENDS, t_ENDS⟩, m_BOUNDS := ⟨_, PySem.W.mg_of X G a_BOUNDS, t_BOUNDS⟩, m_TIE_WORDS := ⟨_, PySem.W.mg_of X G a_TIE_WORDS, fun B => .tupK (vs := [.str "held", .str "pure", .str "step"]) l_TIE_WORDS (by exact (by decide : 3 ≤ 1000)) (.cons ⟨_, rfl⟩ (.cons ⟨_, rfl⟩ (.cons ⟨_, rfl⟩ .nil))) (Rps.ofStrs ["held", "pure", "step"])⟩, m_BEND_UNWRITTEN := ⟨_, PySem.W.mg_of X G a_BEND_UNWRITTEN⟩, m_WEIGHT_UNWRITTEN := ⟨_, PySem.W.mg_of X G a_WEIGHT_UNWRITTEN⟩, b_abs := PySem.W.mg_none_of X G z_abs, b_all := PySem.W.mg_none_of X G z_all, b_enumerate := PySem.W.mg_none_of X G z_enumerate, b_int := PySem.W.mg_none_of X G z_int, b_isinstance := PySem.W.mg_none_of X G z_isinstance, b_len := PySem.W.mg_none_of X G z_len, b_max := PySem.W.mg_none_of X G z_max, b_range := PySem.W.mg_none_of X G z_range, b_str := PySem.W.mg_none_of X G z_str, b_tuple := PySem.W.mg_none_of X G z_tuple, b_zip := PySem.W.mg_none_of X G z_zip, e_BadSign := ⟨_, fI_BadSign, cc_BadSign, cda_BadSign, qual_BadSign, ⟨PySem.W.mg_of X G a_BadSign, a_BadSign, kp_BadSign, sb_BadSign, ty_BadSign, ⟨ga_BadSign, gg_BadSign, sb_BadSign, hd_BadSign⟩, nof_BadSign, ⟨isc_BadSign, ga_BadSign, gg_BadSign, sb_BadSign, cl_BadSign, sp_BadSign, tk_BadSign, mr_BadSign⟩⟩, ⟨⟨_, _, _, _, _, _, _, _, _, _, _, _, _, _, _, cls_BadSign, ref_BadSign, alo_BadSign⟩, ini_BadSign, sa_BadSign, nof_BadSign, ic_BadSign, tc_BadSign, own_BadSign, ve_BadSign, st_BadSign, PySem.W.mg_none_of X G z_super, gP_BadSign, (by decide +kernel), ⟨_, _, _, cel_BadSign⟩, ⟨_, _, _, _, _, _, _, _, _, qp_BadSign, rfl, fn_BadSign, cod_BadSign⟩, ⟨_, _, _, _, _, _, cdf_BadSign, fil_BadSign, fi2_BadSign⟩⟩⟩, e_BadText := ⟨_, fI_BadText, cc_BadText, cda_BadText, qual_BadText, ⟨PySem.W.mg_of X G a_BadText, a_BadText, kp_BadText, sb_BadText, ty_BadText, ⟨ga_BadText, gg_BadText, sb_BadText, hd_BadText⟩, nof_BadText, ⟨isc_BadText, ga_BadText, gg_BadText, sb_BadText, cl_BadText, sp_BadText, tk_BadText, mr_BadText⟩⟩, ⟨⟨_, _, _, _, _, _, _, _, _, _, _, _, _, _, _, cls_BadText, ref_BadText, alo_BadText⟩, ini_BadText, sa_BadText, nof_BadText, ic_BadText, tc_BadText, own_BadText, ve_BadText, st_BadText, PySem.W.mg_none_of X G z_super, gP_BadText, (by decide +kernel), ⟨_, _, _, cel_BadText⟩, ⟨_, _, _, _, _, _, _, _, _, qp_BadText, rfl, fn_BadText, cod_BadText⟩, ⟨_, _, _, _, _, _, cdf_BadText, fil_BadText, fi2_BadText⟩⟩⟩ }
  refine ⟨_, fun s v => .of_eq rfl, fun base _ _ => (ok_law (P := l.prog) (w := w) (base := base) T F39).imp fun vs H Q E hq => ?_⟩
  obtain ⟨a, ns, rfl, hs, hl, q⟩ := hq
  exact ⟨H, _, _, ⟨⟨ns⟩, true, rfl, law_true ⟨ns⟩ hl, rfl⟩, rfl, Gr.refl H, .cons (.scr ns hs) .nil, fun v B2 H2 f _ _ _ _ w _ _ => by obtain ⟨_, r⟩ := w; rw [Rp.bl_inv r]; exact q H2⟩
end K05
open PySem PySem.W PyProof.Rows
set_option maxHeartbeats 0 in
theorem PySem.Challenge.cw_choirtrue_k05_whole_written_and_read_holds : PySem.Challenge.rw_choirtrue_k05_whole_written_and_read.Holds := by
  w_on; o_law; k_head; (case hw => w_witness2)
  k_fill
  refine L2.walk_of (l := PySem.Challenge.rw_choirtrue_k05_whole_written_and_read) (n := 63) (k := 12) (x := "_law_script") (CX := fun _ => L2.CX0) (sp := fun w => K05.spLaw _) rfl (by decide) rfl ⟨rfl, by decide, by decide⟩ (fun w h Y => PySem.W.kIn_of Y) ?F (fun _ _ a ns hl _ hS => ⟨a, ns, rfl, hS, hl, fun _ => rfl⟩) (fun _ _ _ _ _ h => h)
  case F =>
    intro w mg fa h KX G hmg
    refine' K05.all_mk KX G hmg ?a0 ?l0 ?c0 ?k0 ?a1 ?l1 ?c1 ?k1 ?a2 ?l2 ?c2 ?k2 ?a3 ?l3 ?c3 ?k3 ?a4 ?l4 ?c4 ?k4 ?a5 ?l5 ?c5 ?k5 ?a6 ?l6 ?c6 ?k6 ?a7 ?l7 ?c7 ?k7 ?a8 ?l8 ?c8 ?k8 ?a9 ?l9 ?c9 ?k9 ?a10 ?l10 ?c10 ?k10 ?a11 ?l11 ?c11 ?k11 ?a12 ?l12 ?c12 ?k12 ?a13 ?l13 ?c13 ?k13 ?a14 ?l14 ?c14 ?k14 ?a15 ?l15 ?c15 ?k15 ?a16 ?l16 ?c16 ?k16 ?a17 ?l17 ?c17 ?k17 ?a18 ?l18 ?c18 ?k18 ?a19 ?l19 ?c19 ?k19 ?a20 ?l20 ?c20 ?k20 ?a21 ?l21 ?c21 ?k21 ?a22 ?l22 ?c22 ?k22 ?a23 ?l23 ?c23 ?k23 ?a24 ?l24 ?c24 ?k24 ?a25 ?l25 ?c25 ?k25 ?a26 ?l26 ?c26 ?k26 ?a27 ?l27 ?c27 ?k27 ?a28 ?l28 ?c28 ?k28 ?a29 ?l29 ?c29 ?k29 ?a30 ?l30 ?c30 ?k30 ?a31 ?l31 ?c31 ?k31 ?a32 ?l32 ?c32 ?k32 ?a33 ?l33 ?c33 ?k33 ?a34 ?l34 ?c34 ?k34 ?a35 ?l35 ?c35 ?k35 ?a36 ?l36 ?c36 ?k36 ?a37 ?l37 ?c37 ?k37 ?a38 ?l38 ?c38 ?k38 ?a39 ?l39 ?c39 ?k39 ?a_PRIMES ?l_PRIMES ?a_LETTERS ?a_FIGURES ?a_TOLD_WORDS ?l_TOLD_WORDS ?a_MOST_SIGNS ?a_MOST_LETTERS ?a_MOST_FIGURES ?a_SHAPES ?w_SHAPES ?v_SHAPES_0 ?l_SHAPES_0 ?v_SHAPES_1 ?l_SHAPES_1 ?v_SHAPES_2 ?l_SHAPES_2 ?v_SHAPES_3 ?l_SHAPES_3 ?v_SHAPES_4 ?l_SHAPES_4 ?a_ENDS ?w_ENDS ?v_ENDS_0 ?l_ENDS_0 ?v_ENDS_1 ?l_ENDS_1 ?v_ENDS_2 ?l_ENDS_2 ?v_ENDS_3 ?l_ENDS_3 ?v_ENDS_4 ?l_ENDS_4 ?a_BOUNDS ?w_BOUNDS ?v_BOUNDS_0 ?l_BOUNDS_0 ?v_BOUNDS_1 ?l_BOUNDS_1 ?v_BOUNDS_2 ?l_BOUNDS_2 ?v_BOUNDS_3 ?l_BOUNDS_3 ?a_TIE_WORDS ?l_TIE_WORDS ?a_BEND_UNWRITTEN ?a_WEIGHT_UNWRITTEN ?z_abs ?z_all ?z_enumerate ?z_int ?z_isinstance ?z_len ?z_max ?z_range ?z_str ?z_super ?z_tuple ?z_zip ?a_BadSign ?a_BadText ?kp_BadSign ?sb_BadSign ?ty_BadSign ?ga_BadSign ?gg_BadSign ?hd_BadSign ?nof_BadSign ?isc_BadSign ?cl_BadSign ?mr_BadSign ?sp_BadSign ?tk_BadSign ?cls_BadSign ?ref_BadSign ?alo_BadSign ?ini_BadSign ?sa_BadSign ?ic_BadSign ?tc_BadSign ?own_BadSign ?ve_BadSign ?st_BadSign ?fn_BadSign ?cel_BadSign ?cod_BadSign ?cdf_BadSign ?fil_BadSign ?fi2_BadSign ?gP_BadSign ?kp_BadText ?sb_BadText ?ty_BadText ?ga_BadText ?gg_BadText ?hd_BadText ?nof_BadText ?isc_BadText ?cl_BadText ?mr_BadText ?sp_BadText ?tk_BadText ?cls_BadText ?ref_BadText ?alo_BadText ?ini_BadText ?sa_BadText ?ic_BadText ?tc_BadText ?own_BadText ?ve_BadText ?st_BadText ?fn_BadText ?cel_BadText ?cod_BadText ?cdf_BadText ?fil_BadText ?fi2_BadText ?gP_BadText
    (case a0 => k_is)
    (case l0 => k_is)
    (case c0 => k_is)
    (case k0 => k_is)
    (case a1 => k_is)
    (case l1 => k_is)
    (case c1 => k_is)
    (case k1 => k_is)
    (case a2 => k_is)
    (case l2 => k_is)
    (case c2 => k_is)
    (case k2 => k_is)
    (case a3 => k_is)
    (case l3 => k_is)
    (case c3 => k_is)
    (case k3 => k_is)
    (case a4 => k_is)
    (case l4 => k_is)
    (case c4 => k_is)
    (case k4 => k_is)
    (case a5 => k_is)
    (case l5 => k_is)
    (case c5 => k_is)
    (case k5 => k_is)
    (case a6 => k_is)
    (case l6 => k_is)
    (case c6 => k_is)
    (case k6 => k_is)
    (case a7 => k_is)
    (case l7 => k_is)
    (case c7 => k_is)
    (case k7 => k_is)
    (case a8 => k_is)
    (case l8 => k_is)
    (case c8 => k_is)
    (case k8 => k_is)
    (case a9 => k_is)
    (case l9 => k_is)
    (case c9 => k_is)
    (case k9 => k_is)
    (case a10 => k_is)
    (case l10 => k_is)
    (case c10 => k_is)
    (case k10 => k_is)
    (case a11 => k_is)
    (case l11 => k_is)
    (case c11 => k_is)
    (case k11 => k_is)
    (case a12 => k_is)
    (case l12 => k_is)
    (case c12 => k_is)
    (case k12 => k_is)
    (case a13 => k_is)
    (case l13 => k_is)
    (case c13 => k_is)
    (case k13 => k_is)
    (case a14 => k_is)
    (case l14 => k_is)
    (case c14 => k_is)
    (case k14 => k_is)
    (case a15 => k_is)
    (case l15 => k_is)
    (case c15 => k_is)
    (case k15 => k_is)
    (case a16 => k_is)
    (case l16 => k_is)
    (case c16 => k_is)
    (case k16 => k_is)
    (case a17 => k_is)
    (case l17 => k_is)
    (case c17 => k_is)
    (case k17 => k_is)
    (case a18 => k_is)
    (case l18 => k_is)
    (case c18 => k_is)
    (case k18 => k_is)
    (case a19 => k_is)
    (case l19 => k_is)
    (case c19 => k_is)
    (case k19 => k_is)
    (case a20 => k_is)
    (case l20 => k_is)
    (case c20 => k_is)
    (case k20 => k_is)
    (case a21 => k_is)
    (case l21 => k_is)
    (case c21 => k_is)
    (case k21 => k_is)
    (case a22 => k_is)
    (case l22 => k_is)
    (case c22 => k_is)
    (case k22 => k_is)
    (case a23 => k_is)
    (case l23 => k_is)
    (case c23 => k_is)
    (case k23 => k_is)
    (case a24 => k_is)
    (case l24 => k_is)
    (case c24 => k_is)
    (case k24 => k_is)
    (case a25 => k_is)
    (case l25 => k_is)
    (case c25 => k_is)
    (case k25 => k_is)
    (case a26 => k_is)
    (case l26 => k_is)
    (case c26 => k_is)
    (case k26 => k_is)
    (case a27 => k_is)
    (case l27 => k_is)
    (case c27 => k_is)
    (case k27 => k_is)
    (case a28 => k_is)
    (case l28 => k_is)
    (case c28 => k_is)
    (case k28 => k_is)
    (case a29 => k_is)
    (case l29 => k_is)
    (case c29 => k_is)
    (case k29 => k_is)
    (case a30 => k_is)
    (case l30 => k_is)
    (case c30 => k_is)
    (case k30 => k_is)
    (case a31 => k_is)
    (case l31 => k_is)
    (case c31 => k_is)
    (case k31 => k_is)
    (case a32 => k_is)
    (case l32 => k_is)
    (case c32 => k_is)
    (case k32 => k_is)
    (case a33 => k_is)
    (case l33 => k_is)
    (case c33 => k_is)
    (case k33 => k_is)
    (case a34 => k_is)
    (case l34 => k_is)
    (case c34 => k_is)
    (case k34 => k_is)
    (case a35 => k_is)
    (case l35 => k_is)
    (case c35 => k_is)
    (case k35 => k_is)
    (case a36 => k_is)
    (case l36 => k_is)
    (case c36 => k_is)
    (case k36 => k_is)
    (case a37 => k_is)
    (case l37 => k_is)
    (case c37 => k_is)
    (case k37 => k_is)
    (case a38 => k_is)
    (case l38 => k_is)
    (case c38 => k_is)
    (case k38 => k_is)
    (case a39 => k_is)
    (case l39 => k_is)
    (case c39 => k_is)
    (case k39 => k_is)
    (case a_PRIMES => k_is)
    (case l_PRIMES => k_is)
    (case a_LETTERS => k_is)
    (case a_FIGURES => k_is)
    (case a_TOLD_WORDS => k_is)
    (case l_TOLD_WORDS => k_is)
    (case a_MOST_SIGNS => k_is)
    (case a_MOST_LETTERS => k_is)
    (case a_MOST_FIGURES => k_is)
    (case a_SHAPES => k_is)
    (case w_SHAPES => first | exact rfl | decide +kernel | k_is)
    (case v_SHAPES_0 => k_is)
    (case l_SHAPES_0 => k_is)
    (case v_SHAPES_1 => k_is)
    (case l_SHAPES_1 => k_is)
    (case v_SHAPES_2 => k_is)
    (case l_SHAPES_2 => k_is)
    (case v_SHAPES_3 => k_is)
    (case l_SHAPES_3 => k_is)
    (case v_SHAPES_4 => k_is)
    (case l_SHAPES_4 => k_is)
    (case a_ENDS => k_is)
    (case w_ENDS => first | exact rfl | decide +kernel | k_is)
    (case v_ENDS_0 => k_is)
    (case l_ENDS_0 => k_is)
    (case v_ENDS_1 => k_is)
    (case l_ENDS_1 => k_is)
    (case v_ENDS_2 => k_is)
    (case l_ENDS_2 => k_is)
    (case v_ENDS_3 => k_is)
    (case l_ENDS_3 => k_is)
    (case v_ENDS_4 => k_is)
    (case l_ENDS_4 => k_is)
    (case a_BOUNDS => k_is)
    (case w_BOUNDS => first | exact rfl | decide +kernel | k_is)
    (case v_BOUNDS_0 => k_is)
    (case l_BOUNDS_0 => k_is)
    (case v_BOUNDS_1 => k_is)
    (case l_BOUNDS_1 => k_is)
    (case v_BOUNDS_2 => k_is)
    (case l_BOUNDS_2 => k_is)
    (case v_BOUNDS_3 => k_is)
    (case l_BOUNDS_3 => k_is)
    (case a_TIE_WORDS => k_is)
    (case l_TIE_WORDS => k_is)
    (case a_BEND_UNWRITTEN => k_is)
    (case a_WEIGHT_UNWRITTEN => k_is)
    (case z_abs => k_is)
    (case z_all => k_is)
    (case z_enumerate => k_is)
    (case z_int => k_is)
    (case z_isinstance => k_is)
    (case z_len => k_is)
    (case z_max => k_is)
    (case z_range => k_is)
    (case z_str => k_is)
    (case z_super => k_is)
    (case z_tuple => k_is)
    (case z_zip => k_is)
    (case a_BadSign => k_is)
    (case a_BadText => k_is)
    (case kp_BadSign => k_is)
    (case sb_BadSign => k_is)
    (case ty_BadSign => k_is)
    (case ga_BadSign => k_is)
    (case gg_BadSign => k_is)
    (case hd_BadSign => k_is)
    (case nof_BadSign => k_is)
    (case isc_BadSign => k_is)
    (case cl_BadSign => k_is)
    (case mr_BadSign => k_is)
    (case sp_BadSign => k_is)
    (case tk_BadSign => k_is)
    (case cls_BadSign => k_is)
    (case ref_BadSign => first | exact rfl | decide +kernel)
    (case alo_BadSign => first | exact rfl | decide +kernel)
    (case ini_BadSign => kx_is)
    (case sa_BadSign => k_is)
    (case ic_BadSign => k_is)
    (case tc_BadSign => k_is)
    (case own_BadSign => k_is)
    (case ve_BadSign => k_is)
    (case st_BadSign => k_is)
    (case fn_BadSign => k_is)
    (case cel_BadSign => k_is)
    (case cod_BadSign => k_is)
    (case cdf_BadSign => k_is)
    (case fil_BadSign => rfl)
    (case fi2_BadSign => first | rfl | decide)
    (case gP_BadSign => first | rfl | decide +kernel)
    (case kp_BadText => k_is)
    (case sb_BadText => k_is)
    (case ty_BadText => k_is)
    (case ga_BadText => k_is)
    (case gg_BadText => k_is)
    (case hd_BadText => k_is)
    (case nof_BadText => k_is)
    (case isc_BadText => k_is)
    (case cl_BadText => k_is)
    (case mr_BadText => k_is)
    (case sp_BadText => k_is)
    (case tk_BadText => k_is)
    (case cls_BadText => k_is)
    (case ref_BadText => first | exact rfl | decide +kernel)
    (case alo_BadText => first | exact rfl | decide +kernel)
    (case ini_BadText => kx_is)
    (case sa_BadText => k_is)
    (case ic_BadText => k_is)
    (case tc_BadText => k_is)
    (case own_BadText => k_is)
    (case ve_BadText => k_is)
    (case st_BadText => k_is)
    (case fn_BadText => k_is)
    (case cel_BadText => k_is)
    (case cod_BadText => k_is)
    (case cdf_BadText => k_is)
    (case fil_BadText => rfl)
    (case fi2_BadText => first | rfl | decide)
    (case gP_BadText => first | rfl | decide +kernel)

