import PyProof.Rows.All
import Wide.All
import OpenK.AllK
import Wide.FinOn
import HandS.ForMost
import HandS.ForExc
import HandS.ExcInit
import HandS.Walk
import HandS.Lambda
import HandS.TupAny
import HandS.IsInst
import HandS.Wide
import HandS.More
import HandS.Style
import KE.GoesMore
import HandS.ExcIs
import HandS.ExcField
import PyProof.ReprReads
import PyProof.ReprLen
import HandS.RaiseMore
import HandS.EndBits
import HandS.Head0
import HandS.Head1
import HandS.Head2
import HandS.HeadHook1
import HandS.HeadHook2
import HandS.HeadHook3
import HandS.HeadHook4
import HandS.RevRange
import HandS.Small
import HandS.Conv
import HandS.EndTab
import KE.KNestM
import PySem.Challenge.RW_lookthrough_k02_what_rows_hang_on
set_option Elab.async false
set_option linter.all false
set_option maxRecDepth 100000
/-! ## FL: values by content over the hand layer. D is a value with all that stands in it; a frozen part F of the abstract heap holds it. One list of numbers with its cells (the draw) may change. -/
namespace FL
open PySem PySem.Spec PyProof.Rows L2

/-- a lambda without parameters: its number here, its name, its text, the cells that it sees -/
structure LamD where
  k : Nat
  q : Str
  params : Arguments
  body : Expr
  scope : Scope
  cl : List (Str × Addr)
instance : Inhabited LamD := ⟨⟨0, "", default, default, default, []⟩⟩
inductive D where
  | non | bl (b : Bool) | int (i : Int) | str (x : Str)
  | lst (xs : List D) | tup (xs : List D) | dic (kvs : List (Key × D))
  | drw
  | exc (C : Addr) (fs : List (Str × D))
  | scr (ns : List Int) | ty (n : String) | cls (C : Addr)
  | fn (l : LamD)
  deriving Inhabited


/-- where the draw's two lists stand -/
structure Zt where
  dr : Addr
  cl : Addr
/-- the draw: its cells, its place, its mix; where the tables of code objects stand; what a lambda's maker knows -/
structure S where
  cells : List Int
  pos : Int
  mix : Int
  tb : List (Addr × Str)
  inv : Hp → Option Zt → Prop
def DrA : Option Zt → Addr → Prop
  | none, _ => False
  | some z, a => a = z.dr ∨ a = z.cl

/-- an exception's object of the class at C, its own dict at dd -/
def xob (C a : Addr) (dd : Option Addr) : HO := .ext fun h => ∃ oe, h.get? a = some oe ∧ Zc (.ref C) dd oe ∧ ∃ vs, oe.data = .fields vs

/-- the function object that a lambda makes, its code object at c -/
def lamO (l : LamD) (f c : Addr) : HO := .ext fun h => ∃ pm ctv, h.get? f = some (PySem.W.kla_obj "<lambda>" l.q l.params l.body l.scope l.cl pm c ctv)
mutual
inductive At (K : PySem.W.Frag) (F : Hp) (Z : Option Zt) : V → D → Prop
  | non : At K F Z .non .non
  | bl (b : Bool) : At K F Z (.bl b) (.bl b)
  | int (i : Int) : At K F Z (.int i) (.int i)
  | str (x : Str) : At K F Z (.str x) (.str x)
  | lst {a : Addr} {vs : List V} {ds : List D} : F a = some (.lst vs) → AtAll K F Z vs ds → At K F Z (.ref a) (.lst ds)
  | tup {a : Addr} {vs : List V} {ds : List D} : F a = some (.tup vs) → AtAll K F Z vs ds → At K F Z (.ref a) (.tup ds)
  | dic {a : Addr} {ws : List (Key × V)} {kvs : List (Key × D)} : F a = some (.dK ws) → AtKv K F Z ws kvs → At K F Z (.ref a) (.dic kvs)
  | drw {z : Zt} : Z = some z → At K F Z (.ref z.dr) .drw
  | exc0 {C a : Addr} : F a = some (xob C a none) → At K F Z (.ref a) (.exc C [])
  | exc {C a dd : Addr} {ws : List (Str × V)} {fs : List (Str × D)} : F a = some (xob C a (some dd)) → F dd = some (.xd ws) → AtFs K F Z ws fs → At K F Z (.ref a) (.exc C fs)
  | scr {a : Addr} {ns : List Int} : SqL K F a (ns.map V.int) → At K F Z (.ref a) (.scr ns)
  | ty (n : String) : At K F Z (.ty n) (.ty n)
  | cls (C : Addr) : At K F Z (.ref C) (.cls C)
  | fn {l : LamD} {f c : Addr} : F f = some (lamO l f c) → F c = some (LamX.CodeO c l.q) → At K F Z (.ref f) (.fn l)
inductive AtAll (K : PySem.W.Frag) (F : Hp) (Z : Option Zt) : List V → List D → Prop
  | nil : AtAll K F Z [] []
  | cons {v : V} {d : D} {vs : List V} {ds : List D} : At K F Z v d → AtAll K F Z vs ds → AtAll K F Z (v :: vs) (d :: ds)
inductive AtKv (K : PySem.W.Frag) (F : Hp) (Z : Option Zt) : List (Key × V) → List (Key × D) → Prop
  | nil : AtKv K F Z [] []
  | cons {k : Key} {v : V} {d : D} {vs : List (Key × V)} {ds : List (Key × D)} : At K F Z v d → AtKv K F Z vs ds → AtKv K F Z ((k, v) :: vs) ((k, d) :: ds)
inductive AtFs (K : PySem.W.Frag) (F : Hp) (Z : Option Zt) : List (Str × V) → List (Str × D) → Prop
  | nil : AtFs K F Z [] []
  | cons {k : Str} {v : V} {d : D} {vs : List (Str × V)} {ds : List (Str × D)} : At K F Z v d → AtFs K F Z vs ds → AtFs K F Z ((k, v) :: vs) ((k, d) :: ds)
end

theorem sqt_mono {K : PySem.W.Frag} {H H' : Hp} {a : Addr} {xs : List V} (e : Same H H') (h : SqT K H a xs) : SqT K H' a xs := by
  rcases h with (h | ⟨o, h⟩) | h
  · exact .inl (.inl (e _ _ h))
  · exact .inl (.inr ⟨o, e _ _ h⟩)
  · exact .inr h

mutual
theorem At.mono {K : PySem.W.Frag} {F F' : Hp} {Z : Option Zt} (e : Same F F') : ∀ {v : V} {d : D}, At K F Z v d → At K F' Z v d
  | _, _, .non => .non
  | _, _, .bl b => .bl b
  | _, _, .int i => .int i
  | _, _, .str x => .str x
  | _, _, .lst h k => .lst (e _ _ h) (k.mono e)
  | _, _, .scr h => .scr (e.seq h)
  | _, _, .ty n => .ty n
  | _, _, .cls C => .cls C
  | _, _, .fn h h' => .fn (e _ _ h) (e _ _ h')
  | _, _, .tup h k => .tup (e _ _ h) (k.mono e)
  | _, _, .dic h k => .dic (e _ _ h) (k.mono e)
  | _, _, .drw h => .drw h
  | _, _, .exc0 h => .exc0 (e _ _ h)
  | _, _, .exc h h' k => .exc (e _ _ h) (e _ _ h') (k.mono e)
theorem AtAll.mono {K : PySem.W.Frag} {F F' : Hp} {Z : Option Zt} (e : Same F F') : ∀ {v : List V} {d : List D}, AtAll K F Z v d → AtAll K F' Z v d
  | _, _, .nil => .nil
  | _, _, .cons h k => .cons (h.mono e) (k.mono e)
theorem AtKv.mono {K : PySem.W.Frag} {F F' : Hp} {Z : Option Zt} (e : Same F F') : ∀ {v : List (Key × V)} {d : List (Key × D)}, AtKv K F Z v d → AtKv K F' Z v d
  | _, _, .nil => .nil
  | _, _, .cons h k => .cons (h.mono e) (k.mono e)
theorem AtFs.mono {K : PySem.W.Frag} {F F' : Hp} {Z : Option Zt} (e : Same F F') : ∀ {v : List (Str × V)} {d : List (Str × D)}, AtFs K F Z v d → AtFs K F' Z v d
  | _, _, .nil => .nil
  | _, _, .cons h k => .cons (h.mono e) (k.mono e)
end

section
variable {K : PySem.W.Frag} {F : Hp} {Z : Option Zt}
theorem AtAll.length : ∀ {vs : List V} {ds : List D}, AtAll K F Z vs ds → vs.length = ds.length
  | _, _, .nil => rfl
  | _, _, .cons _ k => congrArg (· + 1) k.length
theorem AtAll.append : ∀ {vs ws : List V} {ds es : List D}, AtAll K F Z vs ds → AtAll K F Z ws es → AtAll K F Z (vs ++ ws) (ds ++ es)
  | _, _, _, _, .nil, k => k
  | _, _, _, _, .cons h t, k => .cons h (t.append k)
theorem AtAll.take : ∀ {vs : List V} {ds : List D} (n : Nat), AtAll K F Z vs ds → AtAll K F Z (vs.take n) (ds.take n)
  | _, _, 0, _ => .nil
  | _, _, _ + 1, .nil => .nil
  | _, _, n + 1, .cons h t => .cons h (t.take n)
theorem AtAll.drop : ∀ {vs : List V} {ds : List D} (n : Nat), AtAll K F Z vs ds → AtAll K F Z (vs.drop n) (ds.drop n)
  | _, _, 0, h => h
  | _, _, _ + 1, .nil => .nil
  | _, _, n + 1, .cons _ t => t.drop n
theorem AtAll.get : ∀ {vs : List V} {ds : List D} {i : Nat} {d : D}, AtAll K F Z vs ds → ds[i]? = some d → ∃ v, vs[i]? = some v ∧ At K F Z v d
  | _, _, _, _, .nil, e => by simp at e
  | _, _, 0, _, .cons h _, e => by simp at e; subst e; exact ⟨_, rfl, h⟩
  | _, _, i + 1, d, .cons _ t, e => by
    obtain ⟨v, h1, h2⟩ := AtAll.get (i := i) (d := d) t (by simpa using e)
    exact ⟨v, by simpa using h1, h2⟩
theorem AtAll.getV : ∀ {vs : List V} {ds : List D} {i : Nat} {v : V}, AtAll K F Z vs ds → vs[i]? = some v → ∃ d, ds[i]? = some d ∧ At K F Z v d
  | _, _, _, _, .nil, e => by simp at e
  | _, _, 0, _, .cons h _, e => by simp at e; subst e; exact ⟨_, rfl, h⟩
  | _, _, i + 1, d, .cons _ t, e => by
    obtain ⟨v, h1, h2⟩ := AtAll.getV (i := i) (v := d) t (by simpa using e)
    exact ⟨v, by simpa using h1, h2⟩
theorem AtAll.set : ∀ {vs : List V} {ds : List D} {v : V} {d : D} (i : Nat), AtAll K F Z vs ds → At K F Z v d → AtAll K F Z (vs.set i v) (ds.set i d)
  | _, _, _, _, _, .nil, _ => .nil
  | _, _, _, _, 0, .cons _ t, h => .cons h t
  | _, _, _, _, i + 1, .cons g t, h => .cons g (t.set i h)
theorem AtAll.rep {vs : List V} {ds : List D} (h : AtAll K F Z vs ds) : ∀ k : Nat, AtAll K F Z (List.replicate k vs).flatten (List.replicate k ds).flatten
  | 0 => .nil
  | k + 1 => by
    rw [List.replicate_succ, List.replicate_succ, List.flatten_cons, List.flatten_cons]
    exact h.append (h.rep k)
theorem AtAll.dropLast {vs : List V} {ds : List D} (h : AtAll K F Z vs ds) : AtAll K F Z vs.dropLast ds.dropLast := by
  rw [List.dropLast_eq_take, List.dropLast_eq_take, h.length]
  exact h.take _
end

/-- from (F, H) on: what is frozen stays so; of what stood only the draw may be another; nothing that stood is frozen behind one's back -/
structure Ext (Z : Option Zt) (F H F' H' : Hp) : Prop where
  f : Same F F'
  fh : Same F' H'
  h : ∀ a o, H a = some o → ∃ o', H' a = some o' ∧ (¬ DrA Z a → (Z = none ∨ ∀ ps, o ≠ .tbl ps) → o' = o)
  n : ∀ a o, F a = none → H a = some o → F' a = none
/-- the table at P lies so: the code objects that it tells are frozen -/
def TabF (F H : Hp) (P : Addr) (q : Str) : Prop := ∃ ps : Array Value, H P = some (.tbl ps) ∧ TriplesOk ps.toList ∧ ∀ (pos : Pos) (cv : Value), codeAmong pos ps.toList = some cv → ∃ c, cv = .ref c ∧ F c = some (LamX.CodeO c q)
/-- the tables lie so, and are not frozen -/
def TbAt (T : List (Addr × Str)) (F H : Hp) : Prop := (∀ p ∈ T, TabF F H p.1 p.2) ∧ ∀ p ∈ T, F p.1 = none
theorem TbAt.tbl {T : List (Addr × Str)} {F H : Hp} (h : TbAt T F H) {p : Addr × Str} (hp : p ∈ T) : ∃ ps, H p.1 = some (.tbl ps) := by
  obtain ⟨ps, h1, _⟩ := h.1 p hp
  exact ⟨ps, h1⟩
theorem TbAt.tabs {T : List (Addr × Str)} {F H : Hp} (h : TbAt T F H) (hs : Same F H) : LamX.Tabs T H := fun p hp => by
  obtain ⟨ps, h1, h2, h3⟩ := h.1 p hp
  refine ⟨ps, h1, h2, fun pos cv hc => ?_⟩
  obtain ⟨c, e1, e2⟩ := h3 pos cv hc
  exact ⟨c, e1, hs _ _ e2⟩
/-- the tables stay -/
theorem TbAt.move {T : List (Addr × Str)} {F F' H H' : Hp} (h : TbAt T F H) (e : ∀ b ps, H b = some (.tbl ps) → H' b = some (.tbl ps)) (g : Same F F') (f : ∀ p ∈ T, F' p.1 = none) : TbAt T F' H' := by
  refine ⟨fun p hp => ?_, f⟩
  obtain ⟨ps, h1, h2, h3⟩ := h.1 p hp
  refine ⟨ps, e _ _ h1, h2, fun pos cv hc => ?_⟩
  obtain ⟨c, e1, e2⟩ := h3 pos cv hc
  exact ⟨c, e1, g _ _ e2⟩
theorem TbAt.chg {T : List (Addr × Str)} {F H : Hp} {p : Addr} {o : HO} {vs : List V} (h : TbAt T F H) (hp : H p = some (.lst vs)) : TbAt T F (upd H p o) := h.move (fun b u e => by
  rw [upd_ne fun z => by rw [z, hp] at e; cases e]; exact e) (Same.refl F) h.2
theorem TbAt.chgK {T : List (Addr × Str)} {F H : Hp} {p : Addr} {o : HO} {vs : List (Key × V)} (h : TbAt T F H) (hp : H p = some (.dK vs)) : TbAt T F (upd H p o) := h.move (fun b u e => by
  rw [upd_ne fun z => by rw [z, hp] at e; cases e]; exact e) (Same.refl F) h.2
def Dr5 (Z : Option Zt) (F H : Hp) (s : S) : Prop := match Z with
  | none => s.tb = []
  | some z => z.dr ≠ z.cl ∧ H z.dr = some (.lst [.ref z.cl, .int s.pos, .int s.mix]) ∧ H z.cl = some (.lst (s.cells.map V.int)) ∧ F z.dr = none ∧ F z.cl = none
def DrAt (Z : Option Zt) (F H : Hp) (s : S) : Prop := Dr5 Z F H s ∧ TbAt s.tb F H ∧ ∀ F', Same F F' → s.inv F' Z
section
variable {K : PySem.W.Frag} {F H F' H' F'' H'' : Hp} {Z : Option Zt}
theorem Ext.refl (h : Same F H) : Ext Z F H F H := ⟨Same.refl F, h, fun _ o e => ⟨o, e, fun _ _ => rfl⟩, fun _ _ e _ => e⟩
theorem Ext.trans (a : Ext Z F H F' H') (b : Ext Z F' H' F'' H'') : Ext Z F H F'' H'' := by
  refine ⟨a.f.trans b.f, b.fh, fun c o e => ?_, fun c o e1 e2 => ?_⟩
  · obtain ⟨o1, e1, q1⟩ := a.h c o e
    obtain ⟨o2, e2, q2⟩ := b.h c o1 e1
    refine ⟨o2, e2, fun nd nt => ?_⟩
    cases q1 nd nt
    exact q2 nd nt
  · obtain ⟨o1, e3, _⟩ := a.h c o e2
    exact b.n c o1 (a.n c o e1 e2) e3
/-- a new frozen object -/
theorem Ext.new {p : Addr} {o : HO} (h : Same F H) (hp : H p = none) : Ext Z F H (upd F p o) (upd H p o) := by
  have fp : F p = none := h.free hp
  refine ⟨fun a u e => ?_, fun a u e => ?_, fun a u e => ⟨u, ?_, fun _ _ => rfl⟩, fun a u e1 e2 => ?_⟩
  · rw [upd_ne (ne_of_none e fp)]; exact e
  · by_cases q : a = p
    · subst q
      rw [upd_same] at e ⊢
      exact e
    · rw [upd_ne q] at e ⊢
      exact h a u e
  · rw [upd_ne (ne_of_none e hp)]; exact e
  · rw [upd_ne (ne_of_none e2 hp)]; exact e1
/-- a new object that is not frozen -/
theorem Ext.newH {p : Addr} {o : HO} (h : Same F H) (hp : H p = none) : Ext Z F H F (upd H p o) := by
  refine ⟨Same.refl F, fun a u e => ?_, fun a u e => ⟨u, ?_, fun _ _ => rfl⟩, fun a u e1 e2 => e1⟩
  · rw [upd_ne (ne_of_none (h a u e) hp)]; exact h a u e
  · rw [upd_ne (ne_of_none e hp)]; exact e
theorem TbAt.keep {T : List (Addr × Str)} (h : TbAt T F H) (e : Ext Z F H F' H') (k : ∀ a o, H a = some o → H' a = some o) : TbAt T F' H' := by
  refine h.move (fun b ps q => k _ _ q) e.f fun p hp => ?_
  obtain ⟨ps, q⟩ := h.tbl hp
  exact e.n _ _ (h.2 p hp) q
theorem DrAt.keep {s : S} (h : DrAt Z F H s) (e : Ext Z F H F' H') (k : ∀ a o, H a = some o → H' a = some o) : DrAt Z F' H' s := by
  refine ⟨?_, h.2.1.keep e k, fun F3 g => h.2.2 F3 (e.f.trans g)⟩
  cases Z with
  | none => exact h.1
  | some z =>
    obtain ⟨⟨h1, h2, h3, h4, h5⟩, _⟩ := h
    exact ⟨h1, k _ _ h2, k _ _ h3, e.n _ _ h4 h2, e.n _ _ h5 h3⟩
theorem DrAt.new {s : S} {p : Addr} {o : HO} (h : DrAt Z F H s) (hs : Same F H) (hp : H p = none) : DrAt Z (upd F p o) (upd H p o) s :=
  h.keep (Ext.new hs hp) fun a u e => by rw [upd_ne (ne_of_none e hp)]; exact e
theorem DrAt.newH {s : S} {p : Addr} {o : HO} (h : DrAt Z F H s) (hs : Same F H) (hp : H p = none) : DrAt Z F (upd H p o) s :=
  h.keep (Ext.newH hs hp) fun a u e => by rw [upd_ne (ne_of_none e hp)]; exact e
end

section
variable {F H F' H' : Hp} {Z : Option Zt} {s : S} {L : Addr} {vs : List V} {o : HO}
/-- a list beside the draw is changed -/
theorem DrAt.chgL (h : DrAt Z F H s) (hL : H L = some (.lst vs)) (n : ¬ DrA Z L) : DrAt Z F (upd H L o) s := by
  refine ⟨?_, h.2.1.chg hL, h.2.2⟩
  cases Z with
  | none => exact h.1
  | some z' =>
    obtain ⟨d1, d2, d3, d4, d5⟩ := h.1
    refine ⟨d1, ?_, ?_, d4, d5⟩
    · rw [upd_ne fun e => n (.inl e.symm)]; exact d2
    · rw [upd_ne fun e => n (.inr e.symm)]; exact d3
/-- a list beside the draw is frozen -/
theorem DrAt.frzL (h : DrAt Z F H s) (fL : F L = none) (hL : H L = some (.lst vs)) (n : ¬ DrA Z L) : DrAt Z (upd F L o) H s := by
  refine ⟨?_, h.2.1.move (fun b ps e => e) (fun b u e => by rw [upd_ne (ne_of_none e fL)]; exact e) (fun p hp => ?_), fun F3 g => h.2.2 F3 (fun b u e => g b u (by rw [upd_ne (ne_of_none e fL)]; exact e))⟩
  · cases Z with
    | none => exact h.1
    | some z' =>
      obtain ⟨d1, d2, d3, d4, d5⟩ := h.1
      refine ⟨d1, d2, d3, ?_, ?_⟩
      · rw [upd_ne fun e => n (.inl e.symm)]; exact d4
      · rw [upd_ne fun e => n (.inr e.symm)]; exact d5
  · obtain ⟨ps, e⟩ := h.2.1.tbl hp
    rw [upd_ne fun z => by rw [z, hL] at e; cases e]
    exact h.2.1.2 p hp
theorem DrAt.nDr (h : DrAt Z F H s) (hL : H L = none) : ¬ DrA Z L := fun z => by
  cases Z with
  | none => exact z
  | some z' =>
    obtain ⟨_, d2, d3, _⟩ := h.1
    rcases z with z | z
    · rw [← z, hL] at d2; cases d2
    · rw [← z, hL] at d3; cases d3
end
/-! ### what an expression gives -/
inductive RE (α : Type) where
  | ok (a : α) (s : S)
  | ex (C : Addr) (fs : List (Str × D)) (s : S)
  | bad
namespace RE
def bind {α β : Type} (r : RE α) (k : α → S → RE β) : RE β := match r with
  | .ok a s => k a s
  | .ex C fs s => .ex C fs s
  | .bad => .bad
end RE
abbrev Env := List (Option D)
abbrev EM := Env → S → RE D
abbrev AM := Env → S → RE (List D)
def lift {α : Type} (o : Option α) (s : S) : RE α := match o with
  | some d => .ok d s
  | none => .bad

def EnvAt (K : PySem.W.Frag) (F : Hp) (Z : Option Zt) (σ : L2.St) (ρ : Env) : Prop := ∀ (i : Nat) (d : D), ρ[i]? = some (some d) → ∃ v, σ[i]? = some (some v) ∧ At K F Z v d
theorem EnvAt.mono {K : PySem.W.Frag} {F F' : Hp} {Z : Option Zt} {σ : L2.St} {ρ : Env} (e : Same F F') (h : EnvAt K F Z σ ρ) : EnvAt K F' Z σ ρ := fun i d q =>
  let ⟨v, h1, h2⟩ := h i d q
  ⟨v, h1, h2.mono e⟩
/-- how an exception's fields lie -/
def XdAt (K : PySem.W.Frag) (F H : Hp) (Z : Option Zt) (dd : Option Addr) (fs : List (Str × D)) : Prop :=
  (dd = none ∧ fs = []) ∨ ∃ d ws, dd = some d ∧ H d = some (.xd ws) ∧ F d = some (.xd ws) ∧ AtFs K F Z ws fs

/-- what is wanted behind: of a value, of an exception -/
def Post {α β : Type} (rel : PySem.W.Frag → Hp → Option Zt → β → α → Prop) (K : PySem.W.Frag) (W : WX) (Z : Option Zt) (F H : Hp) (σ : L2.St) (r : RE α) (Q : β → Hp → Prop) : Prop := match r with
  | .ok d s => ∀ F' H' v, Ext Z F H F' H' → DrAt Z F' H' s → rel K F' Z v d → Q v H'
  | .ex C fs s => ∀ F' H' dd, Ext Z F H F' H' → DrAt Z F' H' s → XdAt K F' H' Z dd fs → W (.ref C) dd σ H'
  | .bad => False
abbrev PostE := Post (α := D) (β := V) fun K F Z v d => At K F Z v d
abbrev PostA := Post (α := List D) (β := List V) fun K F Z v d => AtAll K F Z v d

def tE (K : PySem.W.Frag) (W : WX) (m : EM) : TE := fun σ H Q => ∃ F Z ρ s, Same F H ∧ EnvAt K F Z σ ρ ∧ DrAt Z F H s ∧ PostE K W Z F H σ (m ρ s) Q
def tA (K : PySem.W.Frag) (W : WX) (m : AM) : TA := fun σ H Q => ∃ F Z ρ s, Same F H ∧ EnvAt K F Z σ ρ ∧ DrAt Z F H s ∧ PostA K W Z F H σ (m ρ s) Q

section
variable {X : Cx}
theorem pe_weak {e : Expr} {t t' : TE} (h : PE X e t) (k : ∀ σ H Q, t' σ H Q → t σ H Q) : PE X e t' := ⟨fun pins s σ H Q I q => h.run pins s σ H Q I (k σ H Q q)⟩
theorem pt_weak {e : Expr} {t t' : TT} (h : PT X e t) (k : ∀ σ H Q, t' σ H Q → t σ H Q) : PT X e t' := ⟨fun pins s σ H Q I q => h.run pins s σ H Q I (k σ H Q q)⟩
theorem pa_weak {e : List Expr} {t t' : TA} (h : PA X e t) (k : ∀ σ H Q, t' σ H Q → t σ H Q) : PA X e t' := ⟨fun pos pins s σ H Q I q => h.run pos pins s σ H Q I (k σ H Q q)⟩
theorem ps_weak {e : Stmt} {t t' : TS} (h : PS X e t) (k : ∀ D σ H, t' D σ H → t D σ H) : PS X e t' := ⟨fun pins s σ H D I q => h.run pins s σ H D I (k D σ H q)⟩
theorem pss_weak {e : List Stmt} {t t' : TS} (h : PSs X e t) (k : ∀ D σ H, t' D σ H → t D σ H) : PSs X e t' := ⟨fun pins s σ H D I q => h.run pins s σ H D I (k D σ H q)⟩
end

section
variable {K : PySem.W.Frag} {W : WX} {Z : Option Zt} {F H : Hp} {σ : L2.St}
/-- one after another -/
theorem post_bind {α α' β β' : Type} {rel : PySem.W.Frag → Hp → Option Zt → β → α → Prop} {rel' : PySem.W.Frag → Hp → Option Zt → β' → α' → Prop} {r : RE α} {k : α → S → RE α'} {Q : β → Hp → Prop} {Q' : β' → Hp → Prop}
    (h : Post rel' K W Z F H σ (r.bind k) Q')
    (hk : ∀ d s F1 H1 v, Ext Z F H F1 H1 → DrAt Z F1 H1 s → rel K F1 Z v d → Post rel' K W Z F1 H1 σ (k d s) Q' → Q v H1) : Post rel K W Z F H σ r Q := by
  cases r with
  | bad => exact h
  | ex C fs s => exact h
  | ok d s =>
    intro F1 H1 v e dr a
    refine hk d s F1 H1 v e dr a ?_
    have h' : Post rel' K W Z F H σ (k d s) Q' := h
    cases hr : k d s with
    | bad => rw [hr] at h'; exact h'
    | ok d2 s2 => rw [hr] at h'; exact fun F2 H2 v2 e2 => h' F2 H2 v2 (e.trans e2)
    | ex C fs s2 => rw [hr] at h'; exact fun F2 H2 v2 e2 => h' F2 H2 v2 (e.trans e2)
/-- the value at once, nothing new -/
theorem post_now {α β : Type} {rel : PySem.W.Frag → Hp → Option Zt → β → α → Prop} {o : Option α} {s : S} {Q : β → Hp → Prop} (h : Post rel K W Z F H σ (lift o s) Q) : ∃ d, o = some d ∧ ∀ F' H' v, Ext Z F H F' H' → DrAt Z F' H' s → rel K F' Z v d → Q v H' := by
  cases o with
  | none => exact h.elim
  | some d => exact ⟨d, rfl, h⟩
theorem tE_of {m : EM} {Q : VK} {ρ : Env} {s : S} (h1 : Same F H) (h2 : EnvAt K F Z σ ρ) (h3 : DrAt Z F H s) (h : PostE K W Z F H σ (m ρ s) Q) : tE K W m σ H Q := ⟨F, Z, ρ, s, h1, h2, h3, h⟩
theorem tE_then {β' α' : Type} {rel' : PySem.W.Frag → Hp → Option Zt → β' → α' → Prop} {m : EM} {k : D → S → RE α'} {ρ : Env} {s : S} {Q : VK} {Q' : β' → Hp → Prop} (h1 : Same F H) (h2 : EnvAt K F Z σ ρ) (h3 : DrAt Z F H s) (h : Post rel' K W Z F H σ ((m ρ s).bind k) Q')
    (hk : ∀ d s1 F1 H1 v, Ext Z F H F1 H1 → EnvAt K F1 Z σ ρ → DrAt Z F1 H1 s1 → At K F1 Z v d → Post rel' K W Z F1 H1 σ (k d s1) Q' → Q v H1) : tE K W m σ H Q :=
  ⟨F, Z, ρ, s, h1, h2, h3, post_bind h fun d s1 F1 H1 v e dr a p => hk d s1 F1 H1 v e (h2.mono e.f) dr a p⟩
theorem tA_then {β' α' : Type} {rel' : PySem.W.Frag → Hp → Option Zt → β' → α' → Prop} {m : AM} {k : List D → S → RE α'} {ρ : Env} {s : S} {Q : List V → Hp → Prop} {Q' : β' → Hp → Prop} (h1 : Same F H) (h2 : EnvAt K F Z σ ρ) (h3 : DrAt Z F H s) (h : Post rel' K W Z F H σ ((m ρ s).bind k) Q')
    (hk : ∀ d s1 F1 H1 v, Ext Z F H F1 H1 → EnvAt K F1 Z σ ρ → DrAt Z F1 H1 s1 → AtAll K F1 Z v d → Post rel' K W Z F1 H1 σ (k d s1) Q' → Q v H1) : tA K W m σ H Q :=
  ⟨F, Z, ρ, s, h1, h2, h3, post_bind h fun d s1 F1 H1 v e dr a p => hk d s1 F1 H1 v e (h2.mono e.f) dr a p⟩
end

/-! ### expressions -/
section
variable {X : Cx} {W : WX} {a b : Expr} {ma mb : EM} {pos : Pos}
def eVar (i : Nat) : EM := fun ρ s => match ρ[i]? with
  | some (some d) => .ok d s
  | _ => .bad
def eC (d : D) : EM := fun _ s => .ok d s
theorem de_var {i : Nat} {x : Str} {pos : Pos} (h : PE X (.Name x pos) (tVar i)) : PE X (.Name x pos) (tE X.K W (eVar i)) := pe_weak h fun σ H Q ⟨F, Z, ρ, s, hs, he, hd, h⟩ => by
  unfold eVar at h
  split at h
  · rename_i d e
    obtain ⟨v, h1, h2⟩ := he i d e
    exact ⟨v, h1, h F H v (Ext.refl hs) hd h2⟩
  · exact h.elim
theorem de_const {d : D} {v : V} {e : Expr} (h : PE X e (tC v)) (r : ∀ F Z, At X.K F Z v d) : PE X e (tE X.K W (eC d)) := pe_weak h fun σ H Q ⟨F, Z, ρ, s, hs, he, hd, h⟩ =>
  h F H v (Ext.refl hs) hd (r F Z)
theorem de_int {i j pos} : PE X (.Constant (.int i) j pos) (tE X.K W (eC (.int i))) := de_const pe_int fun _ _ => .int i
theorem de_bl {i j pos} : PE X (.Constant (.bool i) j pos) (tE X.K W (eC (.bl i))) := de_const pe_bl fun _ _ => .bl i
theorem de_non {j pos} : PE X (.Constant .none j pos) (tE X.K W (eC .non)) := de_const pe_non fun _ _ => .non
theorem de_str {x j pos} : PE X (.Constant (.str x) j pos) (tE X.K W (eC (.str x))) := de_const pe_str fun _ _ => .str x

/-- an operation on two values, by content -/
def OpD (K : PySem.W.Frag) (r : R2) (f : D → D → Option D) : Prop := ∀ (F H : Hp) (Z : Option Zt) (s : S) (x y : V) (d e g : D) (Q : VK), Same F H → DrAt Z F H s → At K F Z x d → At K F Z y e → f d e = some g →
  (∀ F' H' v, Ext Z F H F' H' → DrAt Z F' H' s → At K F' Z v g → Q v H') → r x y H Q
theorem OpD.imp {K : PySem.W.Frag} {r : R2} {f f' : D → D → Option D} (h : OpD K r f) (k : ∀ d e g, f' d e = some g → f d e = some g) : OpD K r f' := fun F H Z s x y d e g Q h1 h2 h3 h4 h5 => h F H Z s x y d e g Q h1 h2 h3 h4 (k _ _ _ h5)
def orF (f g : D → D → Option D) : D → D → Option D := fun d e => (f d e).or (g d e)
theorem OpD.or {K : PySem.W.Frag} {r r' : R2} {f f' : D → D → Option D} (h : OpD K r f) (h' : OpD K r' f') : OpD K (fun x y H Q => r x y H Q ∨ r' x y H Q) (orF f f') := fun F H Z s x y d e g Q h1 h2 h3 h4 h5 h6 => by
  unfold orF at h5
  cases q : f d e with
  | none => rw [q, Option.none_or] at h5; exact .inr (h' F H Z s x y d e g Q h1 h2 h3 h4 h5 h6)
  | some u => rw [q, Option.some_or] at h5; cases h5; exact .inl (h F H Z s x y d e _ Q h1 h2 h3 h4 q h6)
def eOp (f : D → D → Option D) (ma mb : EM) : EM := fun ρ s => (ma ρ s).bind fun x s1 => (mb ρ s1).bind fun y s2 => lift (f x y) s2
theorem op_read {r : R2} {f : D → D → Option D} (ho : OpD X.K r f) {σ : L2.St} {H : Hp} {Q : VK} (h : tE X.K W (eOp f ma mb) σ H Q) : tOp r (tE X.K W ma) (tE X.K W mb) σ H Q := by
  obtain ⟨F, Z, ρ, s, hs, he, hd, h⟩ := h
  refine tE_then hs he hd h fun x s1 F1 H1 v1 e1 he1 hd1 a1 h => ?_
  refine tE_then e1.fh he1 hd1 h fun y s2 F2 H2 v2 e2 he2 hd2 a2 h => ?_
  obtain ⟨g, hg, k⟩ := post_now h
  exact ho F2 H2 Z s2 v1 v2 x y g Q e2.fh hd2 (a1.mono e2.f) a2 hg fun F' H' v e3 dr a => k F' H' v e3 dr a
theorem de_op {op : Operator} {r : R2} {f : D → D → Option D} (hr : OpR X (binaryOp op) r) (ho : OpD X.K r f) (ha : PE X a (tE X.K W ma)) (hb : PE X b (tE X.K W mb)) : PE X (.BinOp a op b pos) (tE X.K W (eOp f ma mb)) :=
  pe_weak (pe_op hr ha hb) fun σ H Q h => op_read ho h
theorem de_cmp {op : CmpOp} {r : R2} {f : D → D → Option D} (hr : OpR X (compareOp op) r) (ho : OpD X.K r f) (ha : PE X a (tE X.K W ma)) (hb : PE X b (tE X.K W mb)) (hm : behindInMarks op b = false) : PE X (.Compare a [op] [b] pos) (tE X.K W (eOp f ma mb)) :=
  pe_weak (pe_cmpR hr ha hb hm) fun σ H Q h => op_read ho h
theorem de_ix {r : R2} {f : D → D → Option D} (hr : IxR X r) (ho : OpD X.K r f) (ha : PE X a (tE X.K W ma)) (hb : PE X b (tE X.K W mb)) (hs : PlainIx b) : PE X (.Subscript a b pos) (tE X.K W (eOp f ma mb)) :=
  pe_weak (pe_ix hr ha hb hs) fun σ H Q h => op_read ho h
end
end FL
set_option Elab.async false
set_option linter.all false
set_option maxRecDepth 100000
/-! ## FL, 2: operators by content -/
namespace FL
open PySem PySem.Spec PyProof.Rows L2

theorem at_int {K : PySem.W.Frag} {F : Hp} {Z : Option Zt} {v : V} {i : Int} (h : At K F Z v (.int i)) : v = .int i := by cases h; rfl
theorem at_bl {K : PySem.W.Frag} {F : Hp} {Z : Option Zt} {v : V} {i : Bool} (h : At K F Z v (.bl i)) : v = .bl i := by cases h; rfl
theorem at_str {K : PySem.W.Frag} {F : Hp} {Z : Option Zt} {v : V} {i : Str} (h : At K F Z v (.str i)) : v = .str i := by cases h; rfl

def intF (f : Int → Int → Option D) : D → D → Option D
  | .int i, .int j => f i j
  | _, _ => none
def strF (f : Str → Str → Option D) : D → D → Option D
  | .str i, .str j => f i j
  | _, _ => none
def lstF (f : List D → List D → Option D) : D → D → Option D
  | .lst i, .lst j => f i j
  | _, _ => none
def tupF (f : List D → List D → Option D) : D → D → Option D
  | .tup i, .tup j => f i j
  | _, _ => none
section
variable {K : PySem.W.Frag}
theorem intF_inv {f : Int → Int → Option D} {d e g : D} (h : intF f d e = some g) : ∃ i j, d = .int i ∧ e = .int j ∧ f i j = some g := by
  unfold intF at h
  split at h
  · exact ⟨_, _, rfl, rfl, h⟩
  · cases h
theorem strF_inv {f : Str → Str → Option D} {d e g : D} (h : strF f d e = some g) : ∃ i j, d = .str i ∧ e = .str j ∧ f i j = some g := by
  unfold strF at h
  split at h
  · exact ⟨_, _, rfl, rfl, h⟩
  · cases h
theorem lstF_inv {f : List D → List D → Option D} {d e g : D} (h : lstF f d e = some g) : ∃ i j, d = .lst i ∧ e = .lst j ∧ f i j = some g := by
  unfold lstF at h
  split at h
  · exact ⟨_, _, rfl, rfl, h⟩
  · cases h
theorem tupF_inv {f : List D → List D → Option D} {d e g : D} (h : tupF f d e = some g) : ∃ i j, d = .tup i ∧ e = .tup j ∧ f i j = some g := by
  unfold tupF at h
  split at h
  · exact ⟨_, _, rfl, rfl, h⟩
  · cases h
/-- ints to a scalar -/
theorem od_int0 {g : Int → Int → V} {f : Int → Int → D} (r : ∀ K F Z i j, At K F Z (g i j) (f i j)) : OpD K (rI0 g) (intF fun i j => some (f i j)) := fun F H Z s x y d e w Q hs hd ax ay h k => by
  obtain ⟨i, j, rfl, rfl, q⟩ := intF_inv h
  cases q
  exact ⟨i, j, at_int ax, at_int ay, k F H _ (Ext.refl hs) hd (r _ _ _ _ _)⟩
theorem od_intC {C : Int → Int → Prop} {g : Int → Int → V} {f : Int → Int → Option D} (c : ∀ i j w, f i j = some w → C i j ∧ ∀ K F Z, At K F Z (g i j) w) : OpD K (rI C g) (intF f) := fun F H Z s x y d e w Q hs hd ax ay h k => by
  obtain ⟨i, j, rfl, rfl, q⟩ := intF_inv h
  obtain ⟨q1, q2⟩ := c _ _ _ q
  exact ⟨i, j, at_int ax, at_int ay, q1, k F H _ (Ext.refl hs) hd (q2 _ _ _)⟩
theorem od_str {C : Str → Str → Prop} {g : Str → Str → V} {f : Str → Str → Option D} (c : ∀ i j w, f i j = some w → C i j ∧ ∀ K F Z, At K F Z (g i j) w) : OpD K (fun x y H Q => ∃ i j, x = .str i ∧ y = .str j ∧ C i j ∧ Q (g i j) H) (strF f) := fun F H Z s x y d e w Q hs hd ax ay h k => by
  obtain ⟨i, j, rfl, rfl, q⟩ := strF_inv h
  obtain ⟨q1, q2⟩ := c _ _ _ q
  exact ⟨i, j, at_str ax, at_str ay, q1, k F H _ (Ext.refl hs) hd (q2 _ _ _)⟩
theorem od_str0 {g : Str → Str → V} {f : Str → Str → D} (c : ∀ K F Z i j, At K F Z (g i j) (f i j)) : OpD K (fun x y H Q => ∃ i j, x = .str i ∧ y = .str j ∧ Q (g i j) H) (strF fun i j => some (f i j)) := fun F H Z s x y d e w Q hs hd ax ay h k => by
  obtain ⟨i, j, rfl, rfl, q⟩ := strF_inv h
  cases q
  exact ⟨i, j, at_str ax, at_str ay, k F H _ (Ext.refl hs) hd (c _ _ _ _ _)⟩

theorem same_new {F H : Hp} {p : Addr} {o : HO} (hs : Same F H) (hp : H p = none) : Same F (upd F p o) := fun a u e => by
  rw [upd_ne (ne_of_none e (hs.free hp))]; exact e
/-- the value is a new frozen object -/
theorem new_k {F H : Hp} {Z : Option Zt} {s : S} {p : Addr} {o : HO} {d : D} {Q : VK} (k : ∀ F' H' v, Ext Z F H F' H' → DrAt Z F' H' s → At K F' Z v d → Q v H') (hs : Same F H) (hd : DrAt Z F H s) (hp : H p = none) (a : At K (upd F p o) Z (.ref p) d) :
    Q (.ref p) (upd H p o) := k _ _ _ (Ext.new hs hp) (hd.new hs hp) a
/-! ### a + b -/
def addF : D → D → Option D := orF (intF fun i j => some (.int (i + j))) (orF (strF fun i j => if i.length + j.length ≤ sizeLine then some (.str (i ++ j)) else none)
  (orF (lstF fun xs ys => if xs.length + ys.length ≤ sizeLine then some (.lst (xs ++ ys)) else none) (tupF fun xs ys => if xs.length + ys.length ≤ sizeLine then some (.tup (xs ++ ys)) else none)))
def rAddG (K : PySem.W.Frag) : R2 := fun x y H Q => rI0 (fun i j => .int (i + j)) x y H Q ∨ (∃ i j, x = .str i ∧ y = .str j ∧ i.length + j.length ≤ sizeLine ∧ Q (.str (i ++ j)) H) ∨ rCat x y H Q ∨ rCatA K x y H Q
theorem op_addG {X : Cx} : OpR X (binaryOp .Add) (rAddG X.K) := op_add.or (op_add_str.or (op_cat.or op_catA))
theorem od_cat : OpD K rCat (lstF fun xs ys => if xs.length + ys.length ≤ sizeLine then some (.lst (xs ++ ys)) else none) := fun F H Z s x y d e w Q hs hd ax ay h k => by
  obtain ⟨xs, ys, rfl, rfl, q⟩ := lstF_inv h
  split at q
  · rename_i hz
    cases q
    cases ax with
    | lst h1 k1 =>
      cases ay with
      | lst h2 k2 =>
        refine ⟨_, _, _, _, rfl, rfl, hs _ _ h1, hs _ _ h2, by rw [k1.length, k2.length]; exact hz, fun p hp => ?_⟩
        exact new_k k hs hd hp (.lst upd_same ((k1.mono (same_new hs hp)).append (k2.mono (same_new hs hp))))
  · cases q
theorem atAll_nil {K : PySem.W.Frag} {F : Hp} {Z : Option Zt} {vs : List V} {ds : List D} (h : AtAll K F Z vs ds) : vs = [] ↔ ds = [] := by
  cases h with
  | nil => exact ⟨fun _ => rfl, fun _ => rfl⟩
  | cons a b => exact ⟨fun e => (nomatch e), fun e => (nomatch e)⟩
theorem od_catA : OpD K (rCatA K) (tupF fun xs ys => if xs.length + ys.length ≤ sizeLine then some (.tup (xs ++ ys)) else none) := fun F H Z s x y d e w Q hs hd ax ay h k => by
  obtain ⟨xs, ys, rfl, rfl, q⟩ := tupF_inv h
  split at q
  · rename_i hz
    cases q
    cases ax with
    | tup h1 k1 =>
      cases ay with
      | tup h2 k2 =>
        refine ⟨_, _, _, _, rfl, rfl, .of (hs _ _ h1), .of (hs _ _ h2), by rw [k1.length, k2.length]; exact hz, fun e => ?_, fun _ e => ?_, fun _ _ p hp => ?_⟩
        · rw [(atAll_nil k1).mp e] at k
          exact k F H _ (Ext.refl hs) hd (.tup h2 k2)
        · rw [(atAll_nil k2).mp e, List.append_nil] at k
          exact k F H _ (Ext.refl hs) hd (.tup h1 k1)
        · exact new_k k hs hd hp (.tup upd_same ((k1.mono (same_new hs hp)).append (k2.mono (same_new hs hp))))
  · cases q
theorem od_add : OpD K (rAddG K) addF := OpD.or (od_int0 fun _ _ _ _ _ => .int _) (OpD.or (od_str fun i j w h => by
    split at h
    · rename_i hz
      cases h
      exact ⟨hz, fun _ _ _ => .str _⟩
    · cases h) (OpD.or od_cat od_catA))

/-! ### a - b, a * b, a // b, a % b, a ** b -/
def subF : D → D → Option D := intF fun i j => some (.int (i - j))
theorem od_sub : OpD K (rI0 fun i j => .int (i - j)) subF := od_int0 fun _ _ _ _ _ => .int _
def repF : D → D → Option D
  | .lst xs, .int k => if -(2 ^ 63) ≤ k ∧ k < 2 ^ 63 ∧ xs.length * k.toNat ≤ sizeLine then some (.lst (List.replicate k.toNat xs).flatten) else none
  | _, _ => none
instance {i j : Int} : Decidable (CMul i j) := by unfold CMul; exact inferInstance
instance {i j : Int} : Decidable (CPow i j) := by unfold CPow; exact inferInstance
def mulF : D → D → Option D := orF (intF fun i j => if CMul i j then some (.int (i * j)) else none) repF
theorem od_rep : OpD K rRep repF := fun F H Z s x y d e w Q hs hd ax ay h k => by
  unfold repF at h
  split at h
  · rename_i xs n
    split at h
    · rename_i hz
      cases h
      cases ax with
      | lst h1 k1 =>
        refine ⟨_, _, _, rfl, at_int ay, hs _ _ h1, hz.1, hz.2.1, by rw [k1.length]; exact hz.2.2, ?_⟩
        intro p hp
        exact new_k k hs hd hp (.lst upd_same ((k1.mono (same_new hs hp)).rep _))
    · cases h
  · cases h
def rMulG : R2 := fun x y H Q => rI CMul (fun i j => .int (i * j)) x y H Q ∨ rRep x y H Q
theorem op_mulG {X : Cx} : OpR X (binaryOp .Mult) rMulG := op_mul.or op_rep
theorem od_mul : OpD K rMulG mulF := OpD.or (od_intC fun i j w h => by
    split at h
    · rename_i hz
      cases h
      exact ⟨hz, fun _ _ _ => .int _⟩
    · cases h) od_rep
def modF : D → D → Option D := intF fun i j => if 0 < j then some (.int (i % j)) else none
theorem od_mod : OpD K (rI (fun _ j => 0 < j) fun i j => .int (i % j)) modF := od_intC fun i j w h => by
    split at h
    · rename_i hz
      cases h
      exact ⟨hz, fun _ _ _ => .int _⟩
    · cases h
def powF : D → D → Option D := intF fun i j => if CPow i j then some (.int (i ^ j.toNat)) else none
theorem od_pow : OpD K (rI CPow fun i j => .int (i ^ j.toNat)) powF := od_intC fun i j w h => by
    split at h
    · rename_i hz
      cases h
      exact ⟨hz, fun _ _ _ => .int _⟩
    · cases h

/-! ### comparisons -/
def ltF : D → D → Option D := intF fun i j => some (.bl (decide (i < j)))
def leF : D → D → Option D := intF fun i j => some (.bl (decide (i ≤ j)))
def gtF : D → D → Option D := intF fun i j => some (.bl (decide (j < i)))
def geF : D → D → Option D := intF fun i j => some (.bl (decide (j ≤ i)))
theorem od_lt : OpD K (rI0 fun i j => .bl (decide (i < j))) ltF := od_int0 fun _ _ _ _ _ => .bl _
theorem od_le : OpD K (rI0 fun i j => .bl (decide (i ≤ j))) leF := od_int0 fun _ _ _ _ _ => .bl _
theorem od_gt : OpD K (rI0 fun i j => .bl (decide (j < i))) gtF := od_int0 fun _ _ _ _ _ => .bl _
theorem od_ge : OpD K (rI0 fun i j => .bl (decide (j ≤ i))) geF := od_int0 fun _ _ _ _ _ => .bl _

/-! as the library's data -/
mutual
def toP : D → Option PyData
  | .non => some .none
  | .bl b => some (.bool b)
  | .int i => some (.int i)
  | .str x => some (.str x)
  | .lst xs => (toPs xs).map .list
  | .tup xs => (toPs xs).map .tuple
  | _ => none
def toPs : List D → Option (List PyData)
  | [] => some []
  | x :: xs => match toP x, toPs xs with
    | some p, some ps => some (p :: ps)
    | _, _ => none
end
mutual
theorem toP_dp {F : Hp} {Z : Option Zt} : ∀ {v : V} {d : D} {p : PyData}, At K F Z v d → toP d = some p → Dp K F v p
  | _, _, _, .non, e => by simp only [toP, Option.some.injEq] at e; subst e; exact .non
  | _, _, _, .bl b, e => by simp only [toP, Option.some.injEq] at e; subst e; exact .bl b
  | _, _, _, .int b, e => by simp only [toP, Option.some.injEq] at e; subst e; exact .int b
  | _, _, _, .str b, e => by simp only [toP, Option.some.injEq] at e; subst e; exact .str b
  | _, _, _, .lst h k, e => by
    simp only [toP, Option.map_eq_some_iff] at e
    obtain ⟨ps, e, rfl⟩ := e
    exact .lst (.inl (.inl h)) (toPs_dp k e)
  | _, _, _, .tup h k, e => by
    simp only [toP, Option.map_eq_some_iff] at e
    obtain ⟨ps, e, rfl⟩ := e
    exact .tup (.of h) (toPs_dp k e)
  | _, _, _, .dic _ _, e => by simp [toP] at e
  | _, _, _, .drw _, e => by simp [toP] at e
  | _, _, _, .exc0 _, e => by simp [toP] at e
  | _, _, _, .exc _ _ _, e => by simp [toP] at e
  | _, _, _, .scr _, e => by simp [toP] at e
  | _, _, _, .ty _, e => by simp [toP] at e
  | _, _, _, .cls _, e => by simp [toP] at e
theorem toPs_dp {F : Hp} {Z : Option Zt} : ∀ {v : List V} {d : List D} {p : List PyData}, AtAll K F Z v d → toPs d = some p → DpAll K F v p
  | _, _, _, .nil, e => by simp only [toPs, Option.some.injEq] at e; subst e; exact .nil
  | _, _, _, .cons h k, e => by
    simp only [toPs] at e
    split at e
    · rename_i p ps e1 e2
      cases e
      exact .cons (toP_dp h e1) (toPs_dp k e2)
    · cases e
end
theorem dp_mono {F H : Hp} (e : Same F H) : ∀ {v : V} {p : PyData}, Dp K F v p → Dp K H v p := fun {v p} h =>
  Dp.rec (motive_1 := fun v p _ => Dp K H v p) (motive_2 := fun v p _ => DpAll K H v p) .non .bl .int .str (fun a _ b => .lst (e.seq a) b) (fun a _ b => .tup (sqt_mono e a) b) .nil (fun _ _ a b => .cons a b) h
def eqF : D → D → Option D := fun d e => match toP d, toP e with
  | some p, some q => if SeqAt.shaped p = true ∧ SeqAt.shaped q = true then some (.bl (PyData.eqv p q)) else none
  | _, _ => none
def neF : D → D → Option D := fun d e => match toP d, toP e with
  | some p, some q => if SeqAt.shaped p = true ∧ SeqAt.shaped q = true then some (.bl (!PyData.eqv p q)) else none
  | _, _ => none
theorem od_eq : OpD K (rEqD K) eqF := fun F H Z s x y d e w Q hs hd ax ay h k => by
  unfold eqF at h
  split at h
  · rename_i p q e1 e2
    split at h
    · rename_i hz
      cases h
      exact ⟨p, q, dp_mono hs (toP_dp ax e1), dp_mono hs (toP_dp ay e2), hz.1, hz.2, k F H _ (Ext.refl hs) hd (.bl _)⟩
    · cases h
  · cases h
theorem od_ne : OpD K (rNeD K) neF := fun F H Z s x y d e w Q hs hd ax ay h k => by
  unfold neF at h
  split at h
  · rename_i p q e1 e2
    split at h
    · rename_i hz
      cases h
      exact ⟨p, q, dp_mono hs (toP_dp ax e1), dp_mono hs (toP_dp ay e2), hz.1, hz.2, k F H _ (Ext.refl hs) hd (.bl _)⟩
    · cases h
  · cases h
/-- a tuple == (), whatever stands in it -/
def eqNilF : D → D → Option D
  | .tup xs, .tup [] => some (.bl xs.isEmpty)
  | _, _ => none
def rEqNil (K : PySem.W.Frag) : R2 := fun x y H Q => ∃ a b xs, x = .ref a ∧ y = .ref b ∧ SqT K H a xs ∧ SqT K H b [] ∧ Q (.bl xs.isEmpty) H
theorem op_eqNil {X : Cx} (hu : X.A.units + 64 < cLine) : OpR X (compareOp .Eq) (rEqNil X.K) := by
  intro pins s σ H x y v u Q I rx ry h
  obtain ⟨a, b, xs, rfl, rfl, ha, hb, q⟩ := h
  cases rx
  cases ry
  obtain ⟨its, r1, p1, _⟩ := I.tuple ha
  obtain ⟨its2, r2, p2, _⟩ := I.tuple hb
  cases r2
  refine SeqAt.eq_tupleAt (e := fun _ => true) p1 p2 (by omega) (fun j h1 h2 => absurd h2 (by simp)) ?_
  refine ⟨.bl xs.isEmpty, H, I, ?_, q⟩
  cases r1 with
  | nil => rfl
  | cons _ _ => rfl
theorem od_eqNil : OpD K (rEqNil K) eqNilF := fun F H Z s x y d e w Q hs hd ax ay h k => by
  unfold eqNilF at h
  split at h
  · rename_i xs
    cases h
    cases ax with
    | tup h1 k1 =>
      cases ay with
      | tup h2 k2 =>
        cases k2
        refine ⟨_, _, _, rfl, rfl, .of (hs _ _ h1), .of (hs _ _ h2), ?_⟩
        have e2 : ∀ {vs : List V} {ds : List D}, AtAll K F Z vs ds → vs.isEmpty = ds.isEmpty := fun h => by cases h <;> rfl
        rw [e2 k1]
        exact k F H _ (Ext.refl hs) hd (.bl _)
  · cases h
/-- texts, whole numbers, truths: straight -/
def scF : D → D → Option D
  | .str a, .str b => some (.bl (decide (a = b)))
  | .int a, .int b => some (.bl (decide (a = b)))
  | .bl a, .bl b => some (.bl (decide (a = b)))
  | _, _ => none
def scNF : D → D → Option D
  | .str a, .str b => some (.bl (!decide (a = b)))
  | .int a, .int b => some (.bl (!decide (a = b)))
  | .bl a, .bl b => some (.bl (!decide (a = b)))
  | _, _ => none
theorem dec_str {a b : Str} : decide (V.str a = V.str b) = decide (a = b) := by
  by_cases h : a = b
  · subst h; simp
  · rw [decide_eq_false h, decide_eq_false fun z => h (V.str.inj z)]
theorem dec_i {a b : Int} : decide (V.int a = V.int b) = decide (a = b) := by
  by_cases h : a = b
  · subst h; simp
  · rw [decide_eq_false h, decide_eq_false fun z => h (V.int.inj z)]
theorem dec_b {a b : Bool} : decide (V.bl a = V.bl b) = decide (a = b) := by
  by_cases h : a = b
  · subst h; simp
  · rw [decide_eq_false h, decide_eq_false fun z => h (V.bl.inj z)]
theorem od_sc : OpD K rEq scF := fun F H Z s x y d e w Q hs hd ax ay h k => by
  unfold scF at h
  split at h
  · cases h
    cases ax
    cases ay
    refine ⟨rfl, ?_⟩
    rw [dec_str]
    exact k F H _ (Ext.refl hs) hd (.bl _)
  · cases h
    cases ax
    cases ay
    refine ⟨rfl, ?_⟩
    rw [dec_i]
    exact k F H _ (Ext.refl hs) hd (.bl _)
  · cases h
    cases ax
    cases ay
    refine ⟨rfl, ?_⟩
    rw [dec_b]
    exact k F H _ (Ext.refl hs) hd (.bl _)
  · cases h
theorem od_scN : OpD K rNe scNF := fun F H Z s x y d e w Q hs hd ax ay h k => by
  unfold scNF at h
  split at h
  · cases h
    cases ax
    cases ay
    refine ⟨rfl, ?_⟩
    rw [dec_str]
    exact k F H _ (Ext.refl hs) hd (.bl _)
  · cases h
    cases ax
    cases ay
    refine ⟨rfl, ?_⟩
    rw [dec_i]
    exact k F H _ (Ext.refl hs) hd (.bl _)
  · cases h
    cases ax
    cases ay
    refine ⟨rfl, ?_⟩
    rw [dec_b]
    exact k F H _ (Ext.refl hs) hd (.bl _)
  · cases h
def rEqG (K : PySem.W.Frag) : R2 := fun x y H Q => rEq x y H Q ∨ rEqD K x y H Q ∨ rEqNil K x y H Q
theorem op_eqG {X : Cx} (hu : X.A.units + 64 < cLine) : OpR X (compareOp .Eq) (rEqG X.K) := op_eq.or ((op_eqD hu).or (op_eqNil hu))
def eqG : D → D → Option D := orF scF (orF eqF eqNilF)
theorem od_eqG : OpD K (rEqG K) eqG := OpD.or od_sc (OpD.or od_eq od_eqNil)
def rNeG (K : PySem.W.Frag) : R2 := fun x y H Q => rNe x y H Q ∨ rNeD K x y H Q
theorem op_neG {X : Cx} (hu : X.A.units + 64 < cLine) : OpR X (compareOp .NotEq) (rNeG X.K) := op_ne.or (op_neD hu)
def neG : D → D → Option D := orF scNF neF
theorem od_neG : OpD K (rNeG K) neG := OpD.or od_scN od_ne
/-- is None -/
def isNone : D → Bool
  | .non => true
  | _ => false
def isNF : D → D → Option D
  | d, .non => some (.bl (isNone d))
  | _, _ => none
theorem at_non {F : Hp} {Z : Option Zt} {v : V} {d : D} (h : At K F Z v d) : decide (v = .non) = isNone d := by
  cases h <;> first | rfl | simp [isNone]
theorem od_isN : OpD K (fun x y H Q => y = .non ∧ Q (.bl (decide (x = .non))) H) isNF := fun F H Z s x y d e w Q hs hd ax ay h k => by
  unfold isNF at h
  split at h
  · cases h
    cases ay
    refine ⟨rfl, ?_⟩
    rw [at_non ax]
    exact k F H _ (Ext.refl hs) hd (.bl _)
  · cases h
def notNF : D → D → Option D
  | d, .non => some (.bl (!isNone d))
  | _, _ => none
theorem od_notN : OpD K (fun x y H Q => y = .non ∧ Q (.bl (!decide (x = .non))) H) notNF := fun F H Z s x y d e w Q hs hd ax ay h k => by
  unfold notNF at h
  split at h
  · cases h
    cases ay
    refine ⟨rfl, ?_⟩
    rw [at_non ax]
    exact k F H _ (Ext.refl hs) hd (.bl _)
  · cases h

/-! ### x in xs (flat things), c in s -/
def flatD : D → Bool
  | .non | .bl _ | .int _ | .str _ => true
  | _ => false
def eqS : D → D → Bool
  | .non, .non => true
  | .bl a, .bl b => a == b
  | .bl a, .int b => (if a then 1 else 0) == b
  | .int a, .bl b => a == (if b then 1 else 0)
  | .int a, .int b => a == b
  | .str a, .str b => a == b
  | _, _ => false
def inS (x : D) (xs : List D) : Bool := xs.any fun y => eqS y x
theorem flat_at {F : Hp} {Z : Option Zt} {v : V} {d : D} (h : At K F Z v d) : flatD d = true → flatV v = true := by
  cases h <;> intro q <;> first | rfl | cases q
theorem eqS_at {F : Hp} {Z : Option Zt} {v w : V} {d e : D} (h : At K F Z v d) (h' : At K F Z w e) (f : flatD d = true) (f' : flatD e = true) : eqV v w = eqS d e := by
  cases h <;> first | (cases f; done) | (cases h' <;> first | rfl | (cases f'; done))
theorem flat_all {F : Hp} {Z : Option Zt} : ∀ {vs : List V} {ds : List D}, AtAll K F Z vs ds → ds.all flatD = true → vs.all flatV = true
  | _, _, .nil, _ => rfl
  | _, _, .cons h k, q => by
    rw [List.all_cons, Bool.and_eq_true] at q ⊢
    exact ⟨flat_at h q.1, flat_all k q.2⟩
theorem in_at {F : Hp} {Z : Option Zt} {v : V} {d : D} (h : At K F Z v d) (f : flatD d = true) : ∀ {vs : List V} {ds : List D}, AtAll K F Z vs ds → ds.all flatD = true → inV v vs = inS d ds
  | _, _, .nil, _ => rfl
  | _, _, .cons g k, q => by
    rw [List.all_cons, Bool.and_eq_true] at q
    have e := in_at h f k q.2
    unfold inV inS at e ⊢
    rw [List.any_cons, List.any_cons, e, eqS_at g h q.1 f]
def inF (neg : Bool) : D → D → Option D
  | x, .lst ys => if flatD x = true ∧ ys.all flatD = true then some (.bl (if neg then !inS x ys else inS x ys)) else none
  | x, .tup ys => if flatD x = true ∧ ys.all flatD = true then some (.bl (if neg then !inS x ys else inS x ys)) else none
  | _, _ => none
theorem od_in {neg : Bool} : OpD K (rIn K neg) (inF neg) := fun F H Z s x y d e w Q hs hd ax ay h k => by
  unfold inF at h
  split at h
  · split at h
    · rename_i hz
      cases h
      cases ay with
      | lst h1 k1 =>
        refine ⟨_, _, rfl, .inl (.inl (.inl (hs _ _ h1))), flat_at ax hz.1, flat_all k1 hz.2, ?_⟩
        rw [in_at ax hz.1 k1 hz.2]
        exact k F H _ (Ext.refl hs) hd (.bl _)
    · cases h
  · split at h
    · rename_i hz
      cases h
      cases ay with
      | tup h1 k1 =>
        refine ⟨_, _, rfl, .inr (.of (hs _ _ h1)), flat_at ax hz.1, flat_all k1 hz.2, ?_⟩
        rw [in_at ax hz.1 k1 hz.2]
        exact k F H _ (Ext.refl hs) hd (.bl _)
    · cases h
  · cases h
/-- one sign in a text -/
def signF (neg : Bool) : D → D → Option D
  | .str c, .str z => match c.cps.toList with
    | [k] => some (.bl (if neg then !decide (k ∈ z.cps.toList) else decide (k ∈ z.cps.toList)))
    | _ => none
  | _, _ => none
end
end FL
set_option Elab.async false
set_option linter.all false
set_option maxRecDepth 100000
/-! ## FL, 3: subscripts, slices, displays, built-ins, tests -/
namespace FL
open PySem PySem.Spec PyProof.Rows L2
section
variable {K : PySem.W.Frag}
/-! ### xs[i] -/
def ixF : D → D → Option D
  | .lst ds, .int i => atI ds i
  | .tup ds, .int i => atI ds i
  | .str z, .int i => if z.length ≤ sizeLine then (atI z.cps.toList i).map fun c => .str ⟨#[c]⟩ else none
  | _, _ => none
theorem atI_at {F : Hp} {Z : Option Zt} {vs : List V} {ds : List D} {i : Int} {d : D} (h : AtAll K F Z vs ds) (e : atI ds i = some d) : ∃ v, atI vs i = some v ∧ At K F Z v d := by
  unfold atI at e ⊢
  rw [← h.length] at e
  cases q : ixN vs.length i with
  | none => rw [q] at e; cases e
  | some j =>
    rw [q] at e
    obtain ⟨v, h1, h2⟩ := h.get e
    exact ⟨v, h1, h2⟩
theorem od_ix : OpD K (rIx K) ixF := fun F H Z s x y d e w Q hs hd ax ay h k => by
  unfold ixF at h
  split at h
  · cases ax with
    | lst h1 k1 =>
      obtain ⟨v, e1, a1⟩ := atI_at k1 h
      exact .inl ⟨_, _, _, v, rfl, at_int ay, .of (hs _ _ h1), e1, k F H _ (Ext.refl hs) hd a1⟩
  · cases ax with
    | tup h1 k1 =>
      obtain ⟨v, e1, a1⟩ := atI_at k1 h
      exact .inr (.inl ⟨_, _, _, v, rfl, at_int ay, .of (hs _ _ h1), e1, k F H _ (Ext.refl hs) hd a1⟩)
  · split at h
    · rename_i hz
      rw [Option.map_eq_some_iff] at h
      obtain ⟨c, e1, rfl⟩ := h
      exact .inr (.inr ⟨_, _, c, at_str ax, at_int ay, hz, e1, k F H _ (Ext.refl hs) hd (.str _)⟩)
    · cases h
  · cases h
end
/-! ### slices -/
abbrev OM := Env → S → RE (Option Int)
def tO (K : PySem.W.Frag) (W : WX) (m : OM) : TO := fun σ H Q => ∃ F Z ρ s, Same F H ∧ EnvAt K F Z σ ρ ∧ DrAt Z F H s ∧ Post (α := Option Int) (β := Option Int) (fun _ _ _ v d => v = d) K W Z F H σ (m ρ s) Q
def oNone : OM := fun _ s => .ok none s
def oSome (m : EM) : OM := fun ρ s => (m ρ s).bind fun d s1 => match d with
  | .int i => .ok (some i) s1
  | _ => .bad
def cutL {α : Type} (xs : List α) (lo hi : Option Int) : List α := (xs.drop (HT.sIx xs.length 0 lo)).take (HT.sIx xs.length xs.length hi - HT.sIx xs.length 0 lo)
def slF : D → Option Int → Option Int → Option D
  | .lst ds, lo, hi => some (.lst (cutL ds lo hi))
  | .tup ds, lo, hi => some (.tup (cutL ds lo hi))
  | .str z, lo, hi => if z.length ≤ sizeLine then some (.str (cutS z lo hi)) else none
  | .scr ns, lo, hi => some (.lst ((cutL ns lo hi).map D.int))
  | _, _, _ => none
def SlD (K : PySem.W.Frag) (r : V → Option Int → Option Int → Hp → VK → Prop) (f : D → Option Int → Option Int → Option D) : Prop := ∀ (F H : Hp) (Z : Option Zt) (s : S) (x : V) (d g : D) (lo hi : Option Int) (Q : VK), Same F H → DrAt Z F H s → At K F Z x d → f d lo hi = some g →
  (∀ F' H' v, Ext Z F H F' H' → DrAt Z F' H' s → At K F' Z v g → Q v H') → r x lo hi H Q
section
variable {K : PySem.W.Frag}
theorem cutV_at {F : Hp} {Z : Option Zt} {vs : List V} {ds : List D} (h : AtAll K F Z vs ds) (lo hi : Option Int) : AtAll K F Z (cutV vs lo hi) (cutL ds lo hi) := by
  unfold cutV cutL
  rw [h.length]
  exact (h.drop _).take _
theorem ints_at {F : Hp} {Z : Option Zt} : ∀ ns : List Int, AtAll K F Z (ns.map V.int) (ns.map D.int)
  | [] => .nil
  | n :: ns => .cons (.int n) (ints_at ns)
theorem cutV_map (ns : List Int) (lo hi : Option Int) : cutV (ns.map V.int) lo hi = (cutL ns lo hi).map V.int := by
  unfold cutV cutL
  rw [List.length_map, List.map_take, List.map_drop]
def rSlG (K : PySem.W.Frag) : V → Option Int → Option Int → Hp → VK → Prop := fun x lo hi H Q => rSlL K x lo hi H Q ∨ rSlA K x lo hi H Q ∨ rSlS x lo hi H Q
theorem sl_G {X : Cx} : SlR X (rSlG X.K) := sl_list.or (sl_tupA.or sl_str)
theorem sd_G : SlD K (rSlG K) slF := fun F H Z s x d g lo hi Q hs hd ax h k => by
  unfold slF at h
  split at h
  · cases h
    cases ax with
    | lst h1 k1 => exact .inl ⟨_, _, rfl, .of (hs _ _ h1), fun p hp => new_k k hs hd hp (.lst upd_same (cutV_at (k1.mono (same_new hs hp)) _ _))⟩
  · cases h
    cases ax with
    | tup h1 k1 =>
      refine .inr (.inl ⟨_, _, rfl, .of (hs _ _ h1), fun hw => ?_, fun _ p hp => new_k k hs hd hp (.tup upd_same (cutV_at (k1.mono (same_new hs hp)) _ _))⟩)
      have e : ∀ {vs : List V} {ds : List D}, AtAll K F Z vs ds → HT.sIx vs.length 0 lo = 0 ∧ HT.sIx vs.length vs.length hi = vs.length → cutL ds lo hi = ds := fun {vs ds} k1 hw => by
        unfold cutL
        rw [← k1.length, hw.1, hw.2, Nat.sub_zero, List.drop_zero, k1.length, List.take_length]
      rw [e k1 hw] at k
      exact k F H _ (Ext.refl hs) hd (.tup h1 k1)
  · split at h
    · rename_i hz
      cases h
      have e := at_str ax
      subst e
      exact .inr (.inr ⟨_, rfl, hz, k F H _ (Ext.refl hs) hd (.str _)⟩)
    · cases h
  · cases h
    cases ax with
    | scr h1 =>
      refine .inl ⟨_, _, rfl, hs.seq h1, fun p hp => new_k k hs hd hp ?_⟩
      rw [cutV_map]
      exact .lst upd_same (ints_at _)
  · cases h
end
section
variable {X : Cx} {W : WX} {a b c : Expr} {ma mb mc : EM} {pos : Pos} {es : List Expr} {me : AM}
theorem do_none : PO X none (tO X.K W oNone) := ⟨fun pins s σ H Q I h => po_none.run pins s σ H Q I (by
  obtain ⟨F, Z, ρ, s', hs, he, hd, h⟩ := h
  exact h F H _ (Ext.refl hs) hd rfl)⟩
theorem do_some (ha : PE X a (tE X.K W ma)) : PO X (some a) (tO X.K W (oSome ma)) := ⟨fun pins s σ H Q I h => (po_some ha).run pins s σ H Q I (by
  obtain ⟨F, Z, ρ, s', hs, he, hd, h⟩ := h
  refine tE_then hs he hd h fun x s1 F1 H1 v1 e1 he1 hd1 a1 h => ?_
  cases x with
  | int i => exact ⟨i, at_int a1, h F1 H1 _ (Ext.refl e1.fh) hd1 rfl⟩
  | _ => exact h.elim)⟩
def eSl (f : D → Option Int → Option Int → Option D) (ma : EM) (ml mh : OM) : EM := fun ρ s => (ma ρ s).bind fun x s1 => (ml ρ s1).bind fun lo s2 => (mh ρ s2).bind fun hi s3 => lift (f x lo hi) s3
theorem tO_then {K : PySem.W.Frag} {Z : Option Zt} {F H : Hp} {σ : L2.St} {m : OM} {k : Option Int → S → RE D} {ρ : Env} {s : S} {Q : Option Int → Hp → Prop} {Q' : VK} (h1 : Same F H) (h2 : EnvAt K F Z σ ρ) (h3 : DrAt Z F H s) (h : PostE K W Z F H σ ((m ρ s).bind k) Q')
    (hk : ∀ d s1 F1 H1, Ext Z F H F1 H1 → EnvAt K F1 Z σ ρ → DrAt Z F1 H1 s1 → PostE K W Z F1 H1 σ (k d s1) Q' → Q d H1) : tO K W m σ H Q :=
  ⟨F, Z, ρ, s, h1, h2, h3, post_bind h fun d s1 F1 H1 v e dr a p => a ▸ hk d s1 F1 H1 e (h2.mono e.f) dr p⟩
theorem de_slice {lo hi : Option Expr} {ml mh : OM} {p2 : Pos} {r : V → Option Int → Option Int → Hp → VK → Prop} {f : D → Option Int → Option Int → Option D} (hr : SlR X r) (ho : SlD X.K r f) (ha : PE X a (tE X.K W ma)) (hl : PO X lo (tO X.K W ml)) (hh : PO X hi (tO X.K W mh)) :
    PE X (.Subscript a (.Slice lo hi none p2) pos) (tE X.K W (eSl f ma ml mh)) := pe_weak (pe_slice hr ha hl hh) fun σ H Q ⟨F, Z, ρ, s, hs, he, hd, h⟩ => by
  refine tE_then hs he hd h fun x s1 F1 H1 v1 e1 he1 hd1 a1 h => ?_
  refine tO_then e1.fh he1 hd1 h fun l s2 F2 H2 e2 he2 hd2 h => ?_
  refine tO_then e2.fh he2 hd2 h fun u s3 F3 H3 e3 he3 hd3 h => ?_
  obtain ⟨g, hg, k⟩ := post_now h
  exact ho F3 H3 Z s3 v1 x g l u Q e3.fh hd3 ((a1.mono e2.f).mono e3.f) hg k

/-! ### arguments, displays -/
def aNil : AM := fun _ s => .ok [] s
def aCons (m : EM) (mr : AM) : AM := fun ρ s => (m ρ s).bind fun x s1 => (mr ρ s1).bind fun xs s2 => .ok (x :: xs) s2
theorem da_nil : PA X [] (tA X.K W aNil) := pa_weak pa_nil fun σ H Q ⟨F, Z, ρ, s, hs, he, hd, h⟩ => h F H _ (Ext.refl hs) hd .nil
theorem da_cons (ha : PE X a (tE X.K W ma)) (hr : PA X es (tA X.K W me)) (hs : starEach (a :: es) X.env = (false, eval a X.env) :: starEach es X.env := by rfl) : PA X (a :: es) (tA X.K W (aCons ma me)) :=
  pa_weak (pa_cons ha hr hs) fun σ H Q ⟨F, Z, ρ, s, hs, he, hd, h⟩ => by
  refine tE_then hs he hd h fun x s1 F1 H1 v1 e1 he1 hd1 a1 h => ?_
  refine tA_then e1.fh he1 hd1 h fun xs s2 F2 H2 vs e2 he2 hd2 a2 h => ?_
  exact h F2 H2 _ (Ext.refl e2.fh) hd2 (.cons (a1.mono e2.f) a2)
/-- something of the arguments' values, at once -/
def eOf (f : List D → Option D) (me : AM) : EM := fun ρ s => (me ρ s).bind fun xs s1 => lift (f xs) s1
def CallD (K : PySem.W.Frag) (r : List V → Hp → VK → Prop) (f : List D → Option D) : Prop := ∀ (F H : Hp) (Z : Option Zt) (s : S) (xs : List V) (ds : List D) (g : D) (Q : VK), Same F H → DrAt Z F H s → AtAll K F Z xs ds → f ds = some g →
  (∀ F' H' v, Ext Z F H F' H' → DrAt Z F' H' s → At K F' Z v g → Q v H') → r xs H Q
theorem call_read {r : List V → Hp → VK → Prop} {f : List D → Option D} (ho : CallD X.K r f) {σ : L2.St} {H : Hp} {Q : VK} (h : tE X.K W (eOf f me) σ H Q) : tCB r (tA X.K W me) σ H Q := by
  obtain ⟨F, Z, ρ, s, hs, he, hd, h⟩ := h
  refine tA_then hs he hd h fun xs s1 F1 H1 vs e1 he1 hd1 a1 h => ?_
  obtain ⟨g, hg, k⟩ := post_now h
  exact ho F1 H1 Z s1 vs xs g Q e1.fh hd1 a1 hg k
theorem CallD.or {K : PySem.W.Frag} {r r' : List V → Hp → VK → Prop} {f f' : List D → Option D} (h : CallD K r f) (h' : CallD K r' f') : CallD K (fun xs H Q => r xs H Q ∨ r' xs H Q) (fun ds => (f ds).or (f' ds)) := fun F H Z s xs ds g Q h1 h2 h3 h5 h6 => by
  dsimp only at h5
  cases q : f ds with
  | none => rw [q, Option.none_or] at h5; exact .inr (h' F H Z s xs ds g Q h1 h2 h3 h5 h6)
  | some u => rw [q, Option.some_or] at h5; cases h5; exact .inl (h F H Z s xs ds _ Q h1 h2 h3 q h6)
section
variable {x : Str} {p : Pos} {id T : String} {r : List V → Hp → VK → Prop} {f : List D → Option D}
theorem de_callB (hc : CallR X (.builtin id) r) (ho : CallD X.K r f) (hg : Gl X x) (hm : X.mg x = none) (hv : bootBuiltins x = some (.builtin id)) (ha : PA X (a :: es) (tA X.K W me)) (hn : x ≠ "__name__" := by decide) (hdb : (x == ("__debug__" : Str)) = false := by decide)
    (he : starEach (a :: es) X.env = (false, eval a X.env) :: starEach es X.env := by rfl) (hpl : (backTo pos (starEach es X.env)).any (·.1) = false := by rfl) : PE X (.Call (.Name x p) (a :: es) [] pos) (tE X.K W (eOf f me)) :=
  pe_weak (pe_callB hc hg hm hv ha hn hdb he hpl) fun σ H Q h => call_read ho h
theorem de_callTy (hc : CallR X (.type T) r) (ho : CallD X.K r f) (hg : Gl X x) (hm : X.mg x = none) (hv : bootBuiltins x = some (.type T)) (ha : PA X (a :: es) (tA X.K W me)) (hn : x ≠ "__name__" := by decide) (hdb : (x == ("__debug__" : Str)) = false := by decide)
    (he : starEach (a :: es) X.env = (false, eval a X.env) :: starEach es X.env := by rfl) (hpl : (backTo pos (starEach es X.env)).any (·.1) = false := by rfl) : PE X (.Call (.Name x p) (a :: es) [] pos) (tE X.K W (eOf f me)) :=
  pe_weak (pe_callTy hc hg hm hv ha hn hdb he hpl) fun σ H Q h => call_read ho h
end
def tupF1 (xs : List D) : Option D := if xs.length ≤ sizeLine then some (.tup xs) else none
def lstF1 (xs : List D) : Option D := if xs.length ≤ sizeLine then some (.lst xs) else none
theorem de_tup {x1} (h : PA X es (tA X.K W me)) : PE X (.Tuple es x1 pos) (tE X.K W (eOf tupF1 me)) := pe_weak (pe_tup h) fun σ H Q ⟨F, Z, ρ, s, hs, he, hd, h⟩ => by
  refine tA_then hs he hd h fun xs s1 F1 H1 vs e1 he1 hd1 a1 h => ?_
  obtain ⟨g, hg, k⟩ := post_now h
  unfold tupF1 at hg
  split at hg
  · rename_i hz
    cases hg
    exact ⟨by rw [a1.length]; exact hz, fun p hp => new_k k e1.fh hd1 hp (.tup upd_same (a1.mono (same_new e1.fh hp)))⟩
  · cases hg
theorem de_lst (h : PA X es (tA X.K W me)) : PE X (.List es pos) (tE X.K W (eOf lstF1 me)) := pe_weak (pe_lst h) fun σ H Q ⟨F, Z, ρ, s, hs, he, hd, h⟩ => by
  refine tA_then hs he hd h fun xs s1 F1 H1 vs e1 he1 hd1 a1 h => ?_
  obtain ⟨g, hg, k⟩ := post_now h
  unfold lstF1 at hg
  split at hg
  · rename_i hz
    cases hg
    exact ⟨by rw [a1.length]; exact hz, fun p hp => new_k k e1.fh hd1 hp (.lst upd_same (a1.mono (same_new e1.fh hp)))⟩
  · cases hg
/-- {} -/
theorem de_dict0 : PE X (.Dict [] [] pos) (tE X.K W (eC (.dic []))) := pe_weak pe_dnewK fun σ H Q ⟨F, Z, ρ, s, hs, he, hd, h⟩ => fun p hp =>
  new_k (fun F' H' v => h F' H' v) hs hd hp (.dic upd_same .nil)
end

/-! ### len, isinstance, list, tuple, abs, min, max, all -/
section
variable {K : PySem.W.Frag}
theorem one_inv {F : Hp} {Z : Option Zt} {xs : List V} {d : D} (h : AtAll K F Z xs [d]) : ∃ v, xs = [v] ∧ At K F Z v d := by
  cases h with
  | cons a k => cases k; exact ⟨_, rfl, a⟩
theorem two_inv {F : Hp} {Z : Option Zt} {xs : List V} {d e : D} (h : AtAll K F Z xs [d, e]) : ∃ v w, xs = [v, w] ∧ At K F Z v d ∧ At K F Z w e := by
  cases h with
  | cons a k => cases k with
    | cons b k => cases k; exact ⟨_, _, rfl, a, b⟩
def lenF : List D → Option D
  | [.str x] => if x.length ≤ sizeLine then some (.int x.length) else none
  | [.lst xs] => some (.int xs.length)
  | [.tup xs] => some (.int xs.length)
  | [.scr xs] => some (.int xs.length)
  | _ => none
theorem cd_len : CallD K (fun xs H Q => ∃ x n, xs = [x] ∧ LenV K x H n ∧ Q (.int n) H) lenF := fun F H Z s xs ds g Q hs hd ax h k => by
  unfold lenF at h
  split at h
  · split at h
    · rename_i hz
      cases h
      obtain ⟨v, rfl, a⟩ := one_inv ax
      have e := at_str a
      subst e
      exact ⟨_, _, rfl, ⟨hz, rfl⟩, k F H _ (Ext.refl hs) hd (.int _)⟩
    · cases h
  · cases h
    obtain ⟨v, rfl, a⟩ := one_inv ax
    cases a with
    | lst h1 k1 => exact ⟨_, _, rfl, .inl ⟨_, .of (hs _ _ h1), rfl⟩, by rw [k1.length]; exact k F H _ (Ext.refl hs) hd (.int _)⟩
  · cases h
    obtain ⟨v, rfl, a⟩ := one_inv ax
    cases a with
    | tup h1 k1 => exact ⟨_, _, rfl, .inr ⟨_, .of (hs _ _ h1), rfl⟩, by rw [k1.length]; exact k F H _ (Ext.refl hs) hd (.int _)⟩
  · cases h
    obtain ⟨v, rfl, a⟩ := one_inv ax
    cases a with
    | scr h1 => exact ⟨_, _, rfl, .inl ⟨_, hs.seq h1, rfl⟩, by rw [List.length_map]; exact k F H _ (Ext.refl hs) hd (.int _)⟩
  · cases h
def tyOf : D → Option String
  | .non => some "NoneType"
  | .bl _ => some "bool"
  | .int _ => some "int"
  | .str _ => some "str"
  | .lst _ => some "list"
  | .tup _ => some "tuple"
  | .dic _ => some "dict"
  | _ => none
def isT (a n : String) : Bool := a == n || (a == "bool" && n == "int")
def tyTab : List String := ["list", "tuple", "int", "bool", "str", "dict"]
theorem kitB_tab : ∀ a ∈ ["NoneType", "bool", "int", "str", "list", "tuple", "dict"], ∀ n ∈ tyTab, kitB a n = some (isT a n) := by decide +kernel
theorem tyOf_mem {d : D} {a : String} (h : tyOf d = some a) : a ∈ ["NoneType", "bool", "int", "str", "list", "tuple", "dict"] := by
  cases d <;> simp [tyOf] at h <;> subst h <;> decide
theorem tyx_of {F H : Hp} {Z : Option Zt} {v : V} {d : D} {a : String} (h : At K F Z v d) (hs : Same F H) (e : tyOf d = some a) : TyX K H v (.type a) := by
  cases h <;> simp only [tyOf, Option.some.injEq, reduceCtorEq] at e <;> (try subst e)
  · exact .base .non
  · exact .base (.bl _)
  · exact .base (.int _)
  · exact .base (.str _)
  · exact .base (.lst (hs _ _ (by assumption)))
  · exact .base (.tup (hs _ _ (by assumption)))
  · exact .base (.dK (hs _ _ (by assumption)))
def tyNames : List D → Option (List String)
  | [] => some []
  | .ty n :: r => if n ∈ tyTab then (tyNames r).map (n :: ·) else none
  | _ => none
def isiF : List D → Option D
  | [x, .ty n] => if n ∈ tyTab then (tyOf x).map fun a => .bl (isT a n) else none
  | [x, .tup ts] => match tyOf x, tyNames ts with
    | some a, some ns => some (.bl (ns.any (isT a)))
    | _, _ => none
  | _ => none
theorem tyNames_at {F : Hp} {Z : Option Zt} : ∀ {vs : List V} {ts : List D} {ns : List String}, AtAll K F Z vs ts → tyNames ts = some ns → Paired ClsV vs (ns.map Value.type) ∧ ∀ n ∈ ns, n ∈ tyTab
  | _, [], _, .nil, e => by
    simp only [tyNames, Option.some.injEq] at e
    subst e
    exact ⟨.nil, fun _ h => nomatch h⟩
  | _, d :: ts, ns, .cons h k, e => by
    cases d with
    | ty n =>
      unfold tyNames at e
      split at e
      · rename_i hm
        rw [Option.map_eq_some_iff] at e
        obtain ⟨r, e, rfl⟩ := e
        obtain ⟨p1, p2⟩ := tyNames_at k e
        cases h
        exact ⟨.cons (.ty n) p1, fun m hm' => by
          rcases List.mem_cons.mp hm' with rfl | q
          · exact hm
          · exact p2 m q⟩
      · cases e
    | _ => simp [tyNames] at e
theorem kitAny_ty {a : String} (ha : a ∈ ["NoneType", "bool", "int", "str", "list", "tuple", "dict"]) : ∀ {ns : List String}, (∀ n ∈ ns, n ∈ tyTab) → PySem.W.kitAny K (.type a) (ns.map Value.type) = some (ns.any (isT a))
  | [], _ => rfl
  | n :: ns, h => by
    have h1 := kit_ty (K := K) (kitB_tab a ha n (h n List.mem_cons_self))
    have h2 := kitAny_ty ha (ns := ns) fun m q => h m (List.mem_cons_of_mem _ q)
    rw [List.map_cons, List.any_cons]
    refine kitAny_cons h1 (fun e => ?_) fun e => by rw [e, Bool.true_or]
    rw [e, Bool.false_or]
    exact h2
def rIsG (K : PySem.W.Frag) : List V → Hp → VK → Prop := fun xs H Q => rIsi K xs H Q ∨ rIsiT K xs H Q
theorem call_isG {X : Cx} : CallR X (.builtin "isinstance") (rIsG X.K) := call_isi.or call_isiT
theorem cd_is : CallD K (rIsG K) isiF := fun F H Z s xs ds g Q hs hd ax h k => by
  unfold isiF at h
  split at h
  · split at h
    · rename_i hm
      rw [Option.map_eq_some_iff] at h
      obtain ⟨a, e, rfl⟩ := h
      obtain ⟨v, w, rfl, a1, a2⟩ := two_inv ax
      cases a2
      exact .inl ⟨_, _, _, _, _, rfl, .ty _, tyx_of a1 hs e, kit_ty (kitB_tab a (tyOf_mem e) _ hm), k F H _ (Ext.refl hs) hd (.bl _)⟩
    · cases h
  · split at h
    · rename_i a ns e1 e2
      cases h
      obtain ⟨v, w, rfl, a1, a2⟩ := two_inv ax
      cases a2 with
      | tup h1 k1 =>
        obtain ⟨p1, p2⟩ := tyNames_at k1 e2
        exact .inr ⟨_, _, _, _, _, _, rfl, hs _ _ h1, p1, tyx_of a1 hs e1, kitAny_ty (tyOf_mem e1) p2, k F H _ (Ext.refl hs) hd (.bl _)⟩
    · cases h
  · cases h
def listF : List D → Option D
  | [.lst xs] => some (.lst xs)
  | [.tup xs] => some (.lst xs)
  | _ => none
theorem cd_list : CallD K (fun xs H Q => ∃ p ys, xs = [.ref p] ∧ (SqL K H p ys ∨ SqT K H p ys) ∧ ∀ l, H l = none → Q (.ref l) (upd H l (.lst ys))) listF := fun F H Z s xs ds g Q hs hd ax h k => by
  unfold listF at h
  split at h
  · cases h
    obtain ⟨v, rfl, a⟩ := one_inv ax
    cases a with
    | lst h1 k1 => exact ⟨_, _, rfl, .inl (.of (hs _ _ h1)), fun p hp => new_k k hs hd hp (.lst upd_same (k1.mono (same_new hs hp)))⟩
  · cases h
    obtain ⟨v, rfl, a⟩ := one_inv ax
    cases a with
    | tup h1 k1 => exact ⟨_, _, rfl, .inr (.of (hs _ _ h1)), fun p hp => new_k k hs hd hp (.lst upd_same (k1.mono (same_new hs hp)))⟩
  · cases h
def tupleF : List D → Option D
  | [.lst xs] => some (.tup xs)
  | [.tup xs] => some (.tup xs)
  | _ => none
theorem cd_tuple : CallD K (fun xs H Q => ∃ p ys, xs = [.ref p] ∧ ((SqL K H p ys ∧ ∀ l, H l = none → Q (.ref l) (upd H l (.tup ys))) ∨ (SqT K H p ys ∧ Q (.ref p) H))) tupleF := fun F H Z s xs ds g Q hs hd ax h k => by
  unfold tupleF at h
  split at h
  · cases h
    obtain ⟨v, rfl, a⟩ := one_inv ax
    cases a with
    | lst h1 k1 => exact ⟨_, _, rfl, .inl ⟨.of (hs _ _ h1), fun p hp => new_k k hs hd hp (.tup upd_same (k1.mono (same_new hs hp)))⟩⟩
  · cases h
    obtain ⟨v, rfl, a⟩ := one_inv ax
    cases a with
    | tup h1 k1 => exact ⟨_, _, rfl, .inr ⟨.of (hs _ _ h1), k F H _ (Ext.refl hs) hd (.tup h1 k1)⟩⟩
  · cases h
def absF : List D → Option D
  | [.int i] => some (.int (if i < 0 then -i else i))
  | _ => none
theorem cd_abs : CallD K (fun xs H Q => ∃ i, xs = [.int i] ∧ Q (.int (if i < 0 then -i else i)) H) absF := fun F H Z s xs ds g Q hs hd ax h k => by
  unfold absF at h
  split at h
  · cases h
    obtain ⟨v, rfl, a⟩ := one_inv ax
    cases a
    exact ⟨_, rfl, k F H _ (Ext.refl hs) hd (.int _)⟩
  · cases h
def min2F : List D → Option D
  | [.int i, .int j] => some (.int (if j < i then j else i))
  | _ => none
theorem cd_min2 : CallD K (fun xs H Q => ∃ i j, xs = [.int i, .int j] ∧ Q (.int (if j < i then j else i)) H) min2F := fun F H Z s xs ds g Q hs hd ax h k => by
  unfold min2F at h
  split at h
  · cases h
    obtain ⟨v, w, rfl, a, b⟩ := two_inv ax
    cases a
    cases b
    exact ⟨_, _, rfl, k F H _ (Ext.refl hs) hd (.int _)⟩
  · cases h
def bools : List D → Option (List Bool)
  | [] => some []
  | .bl b :: r => (bools r).map (b :: ·)
  | _ => none
theorem bools_at {F : Hp} {Z : Option Zt} : ∀ {vs : List V} {ts : List D} {ns : List Bool}, AtAll K F Z vs ts → bools ts = some ns → vs = ns.map V.bl
  | _, [], _, .nil, e => by
    simp only [bools, Option.some.injEq] at e
    subst e
    rfl
  | _, d :: ts, ns, .cons h k, e => by
    cases d with
    | bl n =>
      unfold bools at e
      rw [Option.map_eq_some_iff] at e
      obtain ⟨r, e, rfl⟩ := e
      rw [bools_at k e]
      cases h
      rfl
    | _ => simp [bools] at e
def allF : List D → Option D
  | [.lst xs] => (bools xs).map fun bs => .bl (bs.all id)
  | _ => none
theorem cd_all : CallD K (rAll K) allF := fun F H Z s xs ds g Q hs hd ax h k => by
  unfold allF at h
  split at h
  · rw [Option.map_eq_some_iff] at h
    obtain ⟨bs, e, rfl⟩ := h
    obtain ⟨v, rfl, a⟩ := one_inv ax
    cases a with
    | lst h1 k1 =>
      rw [bools_at k1 e] at h1
      exact ⟨_, bs, rfl, .of (hs _ _ h1), k F H _ (Ext.refl hs) hd (.bl _)⟩
  · cases h
end

/-! ### tests -/
abbrev TM := Env → S → RE Bool
def tT (K : PySem.W.Frag) (W : WX) (m : TM) : TT := fun σ H Q => ∃ F Z ρ s, Same F H ∧ EnvAt K F Z σ ρ ∧ DrAt Z F H s ∧ Post (α := Bool) (β := Bool) (fun _ _ _ v d => v = d) K W Z F H σ (m ρ s) Q
def truD : D → Option Bool
  | .non => some false
  | .bl b => some b
  | .int i => some (i != 0)
  | .str y => if y.length ≤ sizeLine then some ((y.length : Int) != 0) else none
  | .lst xs => some (!xs.isEmpty)
  | .tup xs => some (!xs.isEmpty)
  | _ => none
theorem truD_at {K : PySem.W.Frag} {F H : Hp} {Z : Option Zt} {v : V} {d : D} {b : Bool} (h : At K F Z v d) (hs : Same F H) (e : truD d = some b) : TruV K v H b := by
  have em : ∀ {vs : List V} {ds : List D}, AtAll K F Z vs ds → vs.isEmpty = ds.isEmpty := fun h => by cases h <;> rfl
  cases h with
  | non => cases e; rfl
  | bl b => cases e; rfl
  | int i => cases e; rfl
  | str x =>
    have e : (if x.length ≤ sizeLine then some ((x.length : Int) != 0) else none) = some b := e
    split at e
    · rename_i hz
      cases e
      exact ⟨hz, rfl⟩
    · cases e
  | lst h1 k1 => cases e; exact .inl ⟨_, .of (hs _ _ h1), by rw [em k1]⟩
  | tup h1 k1 => cases e; exact .inr (.inl ⟨_, .of (hs _ _ h1), by rw [em k1]⟩)
  | _ => cases e
section
variable {X : Cx} {W : WX} {a b c : Expr} {ma mb mc : EM} {pos : Pos} {ta tb tc : TM} {rest : List Expr}
theorem tT_then {K : PySem.W.Frag} {Z : Option Zt} {F H : Hp} {σ : L2.St} {α' β' : Type} {rel' : PySem.W.Frag → Hp → Option Zt → β' → α' → Prop} {m : TM} {k : Bool → S → RE α'} {ρ : Env} {s : S} {Q : Bool → Hp → Prop} {Q' : β' → Hp → Prop} (h1 : Same F H) (h2 : EnvAt K F Z σ ρ) (h3 : DrAt Z F H s) (h : Post rel' K W Z F H σ ((m ρ s).bind k) Q')
    (hk : ∀ d s1 F1 H1, Ext Z F H F1 H1 → EnvAt K F1 Z σ ρ → DrAt Z F1 H1 s1 → Post rel' K W Z F1 H1 σ (k d s1) Q' → Q d H1) : tT K W m σ H Q :=
  ⟨F, Z, ρ, s, h1, h2, h3, post_bind h fun d s1 F1 H1 v e dr a p => a ▸ hk d s1 F1 H1 e (h2.mono e.f) dr p⟩
def mTru (m : EM) : TM := fun ρ s => (m ρ s).bind fun d s1 => lift (truD d) s1
theorem dt_val (ha : PE X a (tE X.K W ma)) (he : ∀ whole, isTrue a X.env whole = (do let v ← whole; standAt a.pos; holding [v] (truthy v)) := by intro _; rfl) : PT X a (tT X.K W (mTru ma)) := pt_weak (pt_truth ha he) fun σ H Q ⟨F, Z, ρ, s, hs, he, hd, h⟩ => by
  refine tE_then hs he hd h fun x s1 F1 H1 v1 e1 he1 hd1 a1 h => ?_
  obtain ⟨g, hg, k⟩ := post_now h
  exact ⟨g, truD_at a1 e1.fh hg, k F1 H1 _ (Ext.refl e1.fh) hd1 rfl⟩
def mBl (m : EM) : TM := fun ρ s => (m ρ s).bind fun d s1 => match d with
  | .bl b => .ok b s1
  | _ => .bad
theorem dt_cmp {op : CmpOp} {r : R2} {f : D → D → Option D} (hr : OpR X (compareOp op) r) (ho : OpD X.K r f) (ha : PE X a (tE X.K W ma)) (hb : PE X b (tE X.K W mb)) (hm : behindInMarks op b = false) : PT X (.Compare a [op] [b] pos) (tT X.K W (mBl (eOp f ma mb))) :=
  pt_weak (pt_cmpR hr ha hb hm) fun σ H Q ⟨F, Z, ρ, s, hs, he, hd, h⟩ => by
  have h' : tE X.K W (eOp f ma mb) σ H fun x H1 => ∃ k, x = .bl k ∧ Q k H1 := tE_then hs he hd h fun x s1 F1 H1 v1 e1 he1 hd1 a1 h => by
    cases x with
    | bl k => exact ⟨k, at_bl a1, h F1 H1 _ (Ext.refl e1.fh) hd1 rfl⟩
    | _ => exact h.elim
  exact op_read ho h'
/-- an expression that gives a bool, read so already, as a test: by the very rule of tests -/
def mAnd (ta tb : TM) : TM := fun ρ s => (ta ρ s).bind fun x s1 => if x = true then tb ρ s1 else .ok false s1
def mOr (ta tb : TM) : TM := fun ρ s => (ta ρ s).bind fun x s1 => if x = true then .ok true s1 else tb ρ s1
def mNot (ta : TM) : TM := fun ρ s => (ta ρ s).bind fun x s1 => .ok (!x) s1
theorem dt_not (ha : PT X a (tT X.K W ta)) : PT X (.UnaryOp .Not a pos) (tT X.K W (mNot ta)) := pt_weak (pt_not ha) fun σ H Q ⟨F, Z, ρ, s, hs, he, hd, h⟩ =>
  tT_then hs he hd h fun x s1 F1 H1 e1 he1 hd1 h => h F1 H1 _ (Ext.refl e1.fh) hd1 rfl
theorem pw_weak {e : Expr} {t t' : TT} (h : PW X e t) (k : ∀ σ H Q, t' σ H Q → t σ H Q) : PW X e t' := ⟨fun wh pins s σ H Q I q => h.run wh pins s σ H Q I (k σ H Q q)⟩
theorem dw_and1 (ha : PT X a (tT X.K W ta)) : PW X (.BoolOp .And [a] pos) (tT X.K W ta) := pw_and1 ha
theorem dw_or1 (ha : PT X a (tT X.K W ta)) : PW X (.BoolOp .Or [a] pos) (tT X.K W ta) := pw_or1 ha
theorem dw_and (ha : PT X a (tT X.K W ta)) (hb : PW X (.BoolOp .And (b :: rest) pos) (tT X.K W tb)) : PW X (.BoolOp .And (a :: b :: rest) pos) (tT X.K W (mAnd ta tb)) := pw_weak (pw_and ha hb) fun σ H Q ⟨F, Z, ρ, s, hs, he, hd, h⟩ =>
  tT_then hs he hd h fun x s1 F1 H1 e1 he1 hd1 h => by
    cases x with
    | true => exact iteT ⟨F1, Z, ρ, s1, e1.fh, he1, hd1, h⟩
    | false => exact iteF (h F1 H1 _ (Ext.refl e1.fh) hd1 rfl)
theorem dw_or (ha : PT X a (tT X.K W ta)) (hb : PW X (.BoolOp .Or (b :: rest) pos) (tT X.K W tb)) : PW X (.BoolOp .Or (a :: b :: rest) pos) (tT X.K W (mOr ta tb)) := pw_weak (pw_or ha hb) fun σ H Q ⟨F, Z, ρ, s, hs, he, hd, h⟩ =>
  tT_then hs he hd h fun x s1 F1 H1 e1 he1 hd1 h => by
    cases x with
    | true => exact iteT (h F1 H1 _ (Ext.refl e1.fh) hd1 rfl)
    | false => exact iteF ⟨F1, Z, ρ, s1, e1.fh, he1, hd1, h⟩
/-! ### and, or, not, if as values; chains -/
def eAnd (ma mb : EM) : EM := fun ρ s => (ma ρ s).bind fun x s1 => match x with
  | .bl true => mb ρ s1
  | .bl false => .ok (.bl false) s1
  | _ => .bad
def eOr (ma mb : EM) : EM := fun ρ s => (ma ρ s).bind fun x s1 => match x with
  | .bl false => mb ρ s1
  | .bl true => .ok (.bl true) s1
  | _ => .bad
def eNot (ma : EM) : EM := fun ρ s => (ma ρ s).bind fun x s1 => match x with
  | .bl b => .ok (.bl (!b)) s1
  | _ => .bad
theorem de_one {op} (h : PE X a (tE X.K W ma)) : PE X (.BoolOp op [a] pos) (tE X.K W ma) := pe_one h
theorem de_and (ha : PE X a (tE X.K W ma)) (hb : PE X (.BoolOp .And (b :: rest) pos) (tE X.K W mb)) : PE X (.BoolOp .And (a :: b :: rest) pos) (tE X.K W (eAnd ma mb)) := pe_weak (pe_and ha hb) fun σ H Q ⟨F, Z, ρ, s, hs, he, hd, h⟩ =>
  tE_then hs he hd h fun x s1 F1 H1 v1 e1 he1 hd1 a1 h => by
    cases x with
    | bl k =>
      refine ⟨k, at_bl a1, ?_⟩
      cases k with
      | true => exact iteT ⟨F1, Z, ρ, s1, e1.fh, he1, hd1, h⟩
      | false => exact iteF (h F1 H1 _ (Ext.refl e1.fh) hd1 (.bl _))
    | _ => exact h.elim
theorem de_or (ha : PE X a (tE X.K W ma)) (hb : PE X (.BoolOp .Or (b :: rest) pos) (tE X.K W mb)) : PE X (.BoolOp .Or (a :: b :: rest) pos) (tE X.K W (eOr ma mb)) := pe_weak (pe_or ha hb) fun σ H Q ⟨F, Z, ρ, s, hs, he, hd, h⟩ =>
  tE_then hs he hd h fun x s1 F1 H1 v1 e1 he1 hd1 a1 h => by
    cases x with
    | bl k =>
      refine ⟨k, at_bl a1, ?_⟩
      cases k with
      | false => exact iteF ⟨F1, Z, ρ, s1, e1.fh, he1, hd1, h⟩
      | true => exact iteT (h F1 H1 _ (Ext.refl e1.fh) hd1 (.bl _))
    | _ => exact h.elim
theorem de_not (ha : PE X a (tE X.K W ma)) : PE X (.UnaryOp .Not a pos) (tE X.K W (eNot ma)) := pe_weak (pe_not ha) fun σ H Q ⟨F, Z, ρ, s, hs, he, hd, h⟩ =>
  tE_then hs he hd h fun x s1 F1 H1 v1 e1 he1 hd1 a1 h => by
    cases x with
    | bl k => exact ⟨k, at_bl a1, h F1 H1 _ (Ext.refl e1.fh) hd1 (.bl _)⟩
    | _ => exact h.elim
def eIf (tc : TM) (ma mb : EM) : EM := fun ρ s => (tc ρ s).bind fun x s1 => if x = true then ma ρ s1 else mb ρ s1
theorem de_if (hc : PT X c (tT X.K W tc)) (ha : PE X a (tE X.K W ma)) (hb : PE X b (tE X.K W mb)) : PE X (.IfExp c a b pos) (tE X.K W (eIf tc ma mb)) := pe_weak (pe_ifExp hc ha hb) fun σ H Q ⟨F, Z, ρ, s, hs, he, hd, h⟩ =>
  tT_then hs he hd h fun x s1 F1 H1 e1 he1 hd1 h => by
    cases x with
    | true => exact iteT ⟨F1, Z, ρ, s1, e1.fh, he1, hd1, h⟩
    | false => exact iteF ⟨F1, Z, ρ, s1, e1.fh, he1, hd1, h⟩
def eChain (f g : D → D → Option D) (ma mb mc : EM) : EM := fun ρ s => (ma ρ s).bind fun x s1 => (mb ρ s1).bind fun y s2 => (lift (f x y) s2).bind fun z s3 => match z with
  | .bl true => (mc ρ s3).bind fun w s4 => lift (g y w) s4
  | .bl false => .ok (.bl false) s3
  | _ => .bad
theorem chain_read {r r' : R2} {f g : D → D → Option D} (ho : OpD X.K r f) (ho' : OpD X.K r' g) {σ : L2.St} {H : Hp} {Q : VK} (h : tE X.K W (eChain f g ma mb mc) σ H Q) : tChain r r' (tE X.K W ma) (tE X.K W mb) (tE X.K W mc) σ H Q := by
  obtain ⟨F, Z, ρ, s, hs, he, hd, h⟩ := h
  refine tE_then hs he hd h fun x s1 F1 H1 v1 e1 he1 hd1 a1 h => ?_
  refine tE_then e1.fh he1 hd1 h fun y s2 F2 H2 v2 e2 he2 hd2 a2 h => ?_
  cases q : f x y with
  | none => rw [q] at h; exact h.elim
  | some z =>
    rw [q] at h
    refine ho F2 H2 Z s2 v1 v2 x y z _ e2.fh hd2 (a1.mono e2.f) a2 q fun F3 H3 v3 e3 hd3 a3 => ?_
    have he3 := he2.mono e3.f
    have up : ∀ {r : RE D}, PostE X.K W Z F2 H2 σ r Q → PostE X.K W Z F3 H3 σ r Q := fun {r} p => by
      cases r with
      | bad => exact p
      | ok d s' => exact fun F' H' v e => p F' H' v (e3.trans e)
      | ex C fs s' => exact fun F' H' v e => p F' H' v (e3.trans e)
    cases z with
    | bl k =>
      refine ⟨k, at_bl a3, ?_⟩
      cases k with
      | false => exact iteF (up h F3 H3 _ (Ext.refl e3.fh) hd3 (.bl _))
      | true =>
        refine iteT (tE_then e3.fh he3 hd3 (up h) fun w s4 F4 H4 v4 e4 he4 hd4 a4 h => ?_)
        obtain ⟨g', hg, k⟩ := post_now h
        exact ho' F4 H4 Z s4 v2 v4 y w g' Q e4.fh hd4 ((a2.mono e3.f).mono e4.f) a4 hg k
    | _ => exact h.elim
theorem de_chain {op op' : CmpOp} {r r' : R2} {f g : D → D → Option D} (hr : OpR X (compareOp op) r) (hr' : OpR X (compareOp op') r') (ho : OpD X.K r f) (ho' : OpD X.K r' g) (ha : PE X a (tE X.K W ma)) (hb : PE X b (tE X.K W mb)) (hc : PE X c (tE X.K W mc))
    (hm : lastMarks [op, op'] [b, c] = false := by with_unfolding_all rfl) : PE X (.Compare a [op, op'] [b, c] pos) (tE X.K W (eChain f g ma mb mc)) := pe_weak (pe_chain hr hr' ha hb hc hm) fun σ H Q h => chain_read ho ho' h
end
end FL
set_option Elab.async false
set_option linter.all false
set_option maxRecDepth 100000
/-! ## FL, 4: statements. A slot holds frozen data, or a list of its own (which may change) -/
namespace FL
open PySem PySem.Spec PyProof.Rows L2
inductive Sl where
  | dat (d : D)
  | own (xs : List D)
  | odc (kvs : List (Key × D))
abbrev Sls := List (Option Sl)
def datOf : Option Sl → Option D
  | some (.dat d) => some d
  | _ => none
def visOf : Option Sl → Option D
  | some (.dat d) => some d
  | some (.own xs) => some (.lst xs)
  | some (.odc kvs) => some (.dic kvs)
  | none => none
def ownD : Option Sl → Option D
  | some (.own xs) => some (.lst xs)
  | some (.odc kvs) => some (.dic kvs)
  | _ => none
/-- what stands in a list, or a dict, of one's own -/
def owns (ρ : Sls) (i : Nat) : Option D := (ρ[i]?).bind ownD
theorem owns_ne {ρ : Sls} {i j : Nat} {x : Option Sl} (h : i ≠ j) : owns (ρ.set i x) j = owns ρ j := by
  unfold owns
  rw [List.getElem?_set_ne h]
theorem owns_self {ρ : Sls} {i : Nat} {x : Option Sl} {d : D} (h : owns (ρ.set i x) i = some d) : i < ρ.length ∧ ownD x = some d := by
  unfold owns at h
  by_cases hi : i < ρ.length
  · rw [List.getElem?_set_self hi] at h
    exact ⟨hi, h⟩
  · rw [List.getElem?_eq_none (by rw [List.length_set]; omega)] at h
    cases h
theorem owns_of {ρ : Sls} {i : Nat} {o : Option Sl} (h : ρ[i]? = some o) : owns ρ i = ownD o := by
  unfold owns
  rw [h]
  rfl
theorem owns_start {ds : List D} {n i : Nat} {d : D} : owns (ds.map (fun d => some (Sl.dat d)) ++ List.replicate n none) i ≠ some d := fun q => by
  unfold owns at q
  by_cases hi : i < ds.length
  · rw [List.getElem?_append_left (by rw [List.length_map]; exact hi), List.getElem?_map] at q
    cases e : ds[i]? with
    | none => rw [e] at q; cases q
    | some d' => rw [e] at q; cases q
  · rw [List.getElem?_append_right (by rw [List.length_map]; omega), List.getElem?_replicate] at q
    split at q <;> cases q
inductive HoAt (K : PySem.W.Frag) (F : Hp) (Z : Option Zt) : HO → D → Prop
  | lst {vs : List V} {xs : List D} : AtAll K F Z vs xs → HoAt K F Z (.lst vs) (.lst xs)
  | dic {ws : List (Key × V)} {kvs : List (Key × D)} : AtKv K F Z ws kvs → HoAt K F Z (.dK ws) (.dic kvs)
theorem HoAt.mono {K : PySem.W.Frag} {F F' : Hp} {Z : Option Zt} {o : HO} {d : D} (e : Same F F') (h : HoAt K F Z o d) : HoAt K F' Z o d := by
  cases h with
  | lst k => exact .lst (k.mono e)
  | dic k => exact .dic (k.mono e)
theorem HoAt.nt {K : PySem.W.Frag} {F : Hp} {Z : Option Zt} {o : HO} {d : D} (h : HoAt K F Z o d) (ps : Array Value) : o ≠ .tbl ps := fun z => by
  cases h <;> cases z
theorem HoAt.at_ {K : PySem.W.Frag} {F : Hp} {Z : Option Zt} {o : HO} {d : D} {a : Addr} (h : HoAt K F Z o d) (e : F a = some o) : At K F Z (.ref a) d := by
  cases h with
  | lst k => exact .lst e k
  | dic k => exact .dic e k
def dats (ρ : Sls) : Env := ρ.map datOf
def vis (ρ : Sls) : Env := ρ.map visOf
inductive RS where
  | nx (ρ : Sls) (s : S)
  | bk (ρ : Sls) (s : S)
  | ct (ρ : Sls) (s : S)
  | rt (d : D) (s : S)
  | ex (C : Addr) (fs : List (Str × D)) (ρ : Sls) (s : S)
  | bad
abbrev SM := Sls → S → RS

/-- the slots lie so -/
structure SlAt (K : PySem.W.Frag) (Z : Option Zt) (H0 F H : Hp) (σ : L2.St) (ρ : Sls) : Prop where
  len : σ.length = ρ.length
  dat : ∀ (i : Nat) (d : D), ρ[i]? = some (some (.dat d)) → ∃ v, σ[i]? = some (some v) ∧ At K F Z v d
  ow : ∀ (i : Nat) (d : D), owns ρ i = some d → ∃ a o, σ[i]? = some (some (.ref a)) ∧ H a = some o ∧ HoAt K F Z o d ∧ F a = none ∧ H0 a = none ∧ ¬ DrA Z a
  ap : ∀ (i j : Nat) (d e : D) (a : Addr), owns ρ i = some d → owns ρ j = some e → σ[i]? = some (some (.ref a)) → σ[j]? = some (some (.ref a)) → i = j
theorem SlAt.own {K : PySem.W.Frag} {Z : Option Zt} {H0 F H : Hp} {σ : L2.St} {ρ : Sls} (h : SlAt K Z H0 F H σ ρ) (i : Nat) (xs : List D) (q : ρ[i]? = some (some (.own xs))) : ∃ a vs, σ[i]? = some (some (.ref a)) ∧ H a = some (.lst vs) ∧ AtAll K F Z vs xs ∧ F a = none ∧ H0 a = none ∧ ¬ DrA Z a := by
  obtain ⟨a, o, h1, h2, h3, h4⟩ := h.ow i (.lst xs) (owns_of q)
  cases h3 with
  | lst k => exact ⟨a, _, h1, h2, k, h4⟩
theorem SlAt.odc {K : PySem.W.Frag} {Z : Option Zt} {H0 F H : Hp} {σ : L2.St} {ρ : Sls} (h : SlAt K Z H0 F H σ ρ) (i : Nat) (xs : List (Key × D)) (q : ρ[i]? = some (some (.odc xs))) : ∃ a vs, σ[i]? = some (some (.ref a)) ∧ H a = some (.dK vs) ∧ AtKv K F Z vs xs ∧ F a = none ∧ H0 a = none ∧ ¬ DrA Z a := by
  obtain ⟨a, o, h1, h2, h3, h4⟩ := h.ow i (.dic xs) (owns_of q)
  cases h3 with
  | dic k => exact ⟨a, _, h1, h2, k, h4⟩
theorem SlAt.apart {K : PySem.W.Frag} {Z : Option Zt} {H0 F H : Hp} {σ : L2.St} {ρ : Sls} (h : SlAt K Z H0 F H σ ρ) (i j : Nat) (xs ys : List D) (a : Addr) (q : ρ[i]? = some (some (.own xs))) (r : ρ[j]? = some (some (.own ys))) (e : σ[i]? = some (some (.ref a))) (e' : σ[j]? = some (some (.ref a))) : i = j :=
  h.ap i j _ _ a (owns_of q) (owns_of r) e e'

def PostS (K : PySem.W.Frag) (W : WX) (Z : Option Zt) (F0 H0 : Hp) (D : Ends) (r : RS) : Prop := match r with
  | .nx ρ s => ∀ F H σ, Ext Z F0 H0 F H → DrAt Z F H s → SlAt K Z H0 F H σ ρ → D.nx σ H
  | .bk ρ s => ∀ F H σ, Ext Z F0 H0 F H → DrAt Z F H s → SlAt K Z H0 F H σ ρ → D.bk σ H
  | .ct ρ s => ∀ F H σ, Ext Z F0 H0 F H → DrAt Z F H s → SlAt K Z H0 F H σ ρ → D.ct σ H
  | .rt d s => ∀ F H v, Ext Z F0 H0 F H → DrAt Z F H s → At K F Z v d → D.rt v H
  | .ex C fs ρ s => ∀ F H σ dd, Ext Z F0 H0 F H → DrAt Z F H s → SlAt K Z H0 F H σ ρ → XdAt K F H Z dd fs → W (.ref C) dd σ H
  | .bad => False
/-- the state at a statement -/
structure At0 (K : PySem.W.Frag) (Z : Option Zt) (F0 H0 F H : Hp) (σ : L2.St) (ρ : Sls) (s : S) : Prop where
  ext : Ext Z F0 H0 F H
  dr : DrAt Z F H s
  sl : SlAt K Z H0 F H σ ρ
def tS (K : PySem.W.Frag) (W : WX) (m : SM) : TS := fun D σ H => ∃ F0 H0 Z F ρ s, At0 K Z F0 H0 F H σ ρ s ∧ PostS K W Z F0 H0 D (m ρ s)

section
variable {K : PySem.W.Frag} {W : WX} {Z : Option Zt} {F0 H0 F H F' H' : Hp} {σ : L2.St} {ρ : Sls} {s s' : S}
theorem dats_at (h : SlAt K Z H0 F H σ ρ) : EnvAt K F Z σ (dats ρ) := fun i d e => by
  unfold dats at e
  rw [List.getElem?_map, Option.map_eq_some_iff] at e
  obtain ⟨o, e1, e2⟩ := e
  cases o with
  | none => cases e2
  | some x => cases x with
    | dat d' => cases e2; exact h.dat i _ e1
    | own xs => cases e2
    | odc xs => cases e2
/-- frozen and a list of one's own beside -/
def Owned (σ : L2.St) (ρ : Sls) (a : Addr) : Prop := ∃ (i : Nat) (d : D), owns ρ i = some d ∧ σ[i]? = some (some (.ref a))
open Classical in
noncomputable def FV (F H : Hp) (σ : L2.St) (ρ : Sls) : Hp := fun a => if Owned σ ρ a then H a else F a
theorem fv_own {a : Addr} (h : Owned σ ρ a) : FV F H σ ρ a = H a := if_pos h
theorem fv_not {a : Addr} (h : ¬ Owned σ ρ a) : FV F H σ ρ a = F a := if_neg h
theorem own_facts (h : SlAt K Z H0 F H σ ρ) {a : Addr} (o : Owned σ ρ a) : F a = none ∧ H0 a = none ∧ ¬ DrA Z a ∧ ∃ u d, H a = some u ∧ HoAt K F Z u d := by
  obtain ⟨i, d, e1, e2⟩ := o
  obtain ⟨b, u, e3, e4, e5, e6, e7, e8⟩ := h.ow i d e1
  rw [e2] at e3
  cases e3
  exact ⟨e6, e7, e8, u, d, e4, e5⟩
theorem fv_same (h : SlAt K Z H0 F H σ ρ) : Same F (FV F H σ ρ) := fun a o e => by
  by_cases q : Owned σ ρ a
  · rw [(own_facts h q).1] at e
    cases e
  · rw [fv_not q]; exact e
theorem fv_sub (h : SlAt K Z H0 F H σ ρ) (hs : Same F H) : Same (FV F H σ ρ) H := fun a o e => by
  by_cases q : Owned σ ρ a
  · rw [fv_own q] at e; exact e
  · rw [fv_not q] at e; exact hs _ _ e
theorem fv_dr (h : SlAt K Z H0 F H σ ρ) (hd : DrAt Z F H s) : DrAt Z (FV F H σ ρ) H s := by
  refine ⟨?_, hd.2.1.move (fun b ps e => e) (fv_same h) (fun p hp => ?_), fun F3 g => hd.2.2 F3 ((fv_same h).trans g)⟩
  · cases Z with
    | none => exact hd.1
    | some z =>
      obtain ⟨⟨h1, h2, h3, h4, h5⟩, _⟩ := hd
      refine ⟨h1, h2, h3, ?_, ?_⟩
      · rw [fv_not fun q => (own_facts h q).2.2.1 (.inl rfl)]; exact h4
      · rw [fv_not fun q => (own_facts h q).2.2.1 (.inr rfl)]; exact h5
  · rw [fv_not fun q => ?_]
    · exact hd.2.1.2 p hp
    · obtain ⟨_, _, _, u, d, e1, e2⟩ := own_facts h q
      obtain ⟨ps, e3⟩ := hd.2.1.tbl hp
      rw [e3] at e1
      cases e1
      exact e2.nt ps rfl
theorem vis_at (h : SlAt K Z H0 F H σ ρ) : EnvAt K (FV F H σ ρ) Z σ (vis ρ) := fun i d e => by
  unfold vis at e
  rw [List.getElem?_map, Option.map_eq_some_iff] at e
  obtain ⟨o, e1, e2⟩ := e
  cases o with
  | none => cases e2
  | some x => cases x with
    | dat d' =>
      cases e2
      obtain ⟨v, h1, h2⟩ := h.dat i _ e1
      exact ⟨v, h1, h2.mono (fv_same h)⟩
    | own xs =>
      cases e2
      obtain ⟨a, u, h1, h2, h3, _⟩ := h.ow i _ (owns_of e1)
      exact ⟨_, h1, (h3.mono (fv_same h)).at_ (by rw [fv_own ⟨i, _, owns_of e1, h1⟩]; exact h2)⟩
    | odc xs =>
      cases e2
      obtain ⟨a, u, h1, h2, h3, _⟩ := h.ow i _ (owns_of e1)
      exact ⟨_, h1, (h3.mono (fv_same h)).at_ (by rw [fv_own ⟨i, _, owns_of e1, h1⟩]; exact h2)⟩
theorem flat_any {F G : Hp} {Y : Option Zt} {v : V} {d : D} (h : At K F Z v d) (f : flatD d = true) : At K G Y v d := by
  cases h <;> first | (cases f; done) | constructor
/-- the state goes on: what was frozen stays, the slots as they were -/
theorem At0.go (a : At0 K Z F0 H0 F H σ ρ s) (e : Ext Z F H F' H') (hd : DrAt Z F' H' s') : At0 K Z F0 H0 F' H' σ ρ s' := by
  refine ⟨a.ext.trans e, hd, ⟨a.sl.len, fun i d q => ?_, fun i d q => ?_, a.sl.ap⟩⟩
  · obtain ⟨v, h1, h2⟩ := a.sl.dat i d q
    exact ⟨v, h1, h2.mono e.f⟩
  · obtain ⟨b, u, h1, h2, h3, h4, h5, h6⟩ := a.sl.ow i d q
    obtain ⟨o', h7, h8⟩ := e.h b _ h2
    exact ⟨b, u, h1, by rw [h7, h8 h6 (.inr h3.nt)], h3.mono e.f, e.n b _ h4 h2, h5, h6⟩
open Classical in
/-- F, and what of F' is a code object -/
noncomputable def FC (F F' : Hp) : Hp := fun a => if ∃ q, F' a = some (LamX.CodeO a q) then F' a else F a
theorem fc_not {F F' : Hp} {a : Addr} (h : F' a = none) (f : F a = none) : FC F F' a = none := by
  unfold FC
  split
  · exact h
  · exact f
theorem fc_same {F F' : Hp} (s : Same F F') : Same F (FC F F') := fun a o e => by
  unfold FC
  split
  · exact s _ _ e
  · exact e
/-- behind a look at one's own lists: only the heap has grown, and perhaps the tables -/
theorem At0.look (a : At0 K Z F0 H0 F H σ ρ s) (e : Ext Z (FV F H σ ρ) H F' H') (hd : DrAt Z F' H' s') : Ext Z F H (FC F F') H' ∧ DrAt Z (FC F F') H' { s' with inv := s.inv } := by
  have sF : Same F F' := (fv_same a.sl).trans e.f
  refine ⟨⟨fc_same sF, fun b o q => ?_, e.h, fun b o q1 q2 => ?_⟩, ?_, ⟨fun p hp => ?_, fun p hp => fc_not (hd.2.1.2 p hp) (sF.free (hd.2.1.2 p hp))⟩, fun F3 g => ?_⟩
  · unfold FC at q
    split at q
    · exact e.fh _ _ q
    · exact sF.trans e.fh _ _ q
  · unfold FC
    split
    · rename_i hq
      obtain ⟨q, hq⟩ := hq
      by_cases z : Owned σ ρ b
      · obtain ⟨_, _, _, u, d, e1, e2⟩ := own_facts a.sl z
        have e3 := e.f b u (by rw [fv_own z]; exact e1)
        rw [hq] at e3
        cases e2 <;> (unfold LamX.CodeO at e3; cases e3)
      · exact e.n b o (by rw [fv_not z]; exact q1) q2
    · exact q1
  · cases Z with
    | none => exact hd.1
    | some z =>
      obtain ⟨h1, h2, h3, h4, h5⟩ := hd.1
      exact ⟨h1, h2, h3, fc_not h4 (sF.free h4), fc_not h5 (sF.free h5)⟩
  · obtain ⟨ps, h1, h2, h3⟩ := hd.2.1.1 p hp
    refine ⟨ps, h1, h2, fun pos cv hc => ?_⟩
    obtain ⟨c, e1, e2⟩ := h3 pos cv hc
    refine ⟨c, e1, ?_⟩
    unfold FC
    rw [if_pos ⟨_, e2⟩]
    exact e2
  · exact a.dr.2.2 F3 ((fc_same sF).trans g)
end

/-! ### an expression among slots -/
def runD (m : EM) (ρ : Sls) (s : S) : RE D := match m (dats ρ) s with
  | .ok d s' => .ok d s'
  | .ex C fs s' => .ex C fs s'
  | .bad => match m (vis ρ) s with
    | .ok d s' => if flatD d = true then .ok d { s' with inv := s.inv } else .bad
    | _ => .bad
def runT (m : TM) (ρ : Sls) (s : S) : RE Bool := match m (dats ρ) s with
  | .ok d s' => .ok d s'
  | .ex C fs s' => .ex C fs s'
  | .bad => match m (vis ρ) s with
    | .ok d s' => .ok d { s' with inv := s.inv }
    | _ => .bad
section
variable {K : PySem.W.Frag} {W : WX} {Z : Option Zt} {F0 H0 F H F' H' : Hp} {σ : L2.St} {ρ : Sls} {s s' : S}
theorem run_read {m : EM} {Q : VK} (a : At0 K Z F0 H0 F H σ ρ s) (h : PostE K W Z F H σ (runD m ρ s) Q) : tE K W m σ H Q := by
  unfold runD at h
  split at h
  · rename_i d s' e
    exact ⟨F, Z, dats ρ, s, a.ext.fh, dats_at a.sl, a.dr, by rw [e]; exact h⟩
  · rename_i C fs s' e
    exact ⟨F, Z, dats ρ, s, a.ext.fh, dats_at a.sl, a.dr, by rw [e]; exact h⟩
  · split at h
    · rename_i d s' e
      split at h
      · rename_i fl
        refine ⟨FV F H σ ρ, Z, vis ρ, s, fv_sub a.sl a.ext.fh, vis_at a.sl, fv_dr a.sl a.dr, ?_⟩
        rw [e]
        intro F' H' v ex hd av
        obtain ⟨e1, e2⟩ := a.look ex hd
        exact h _ H' v e1 e2 (flat_any av fl)
      · exact h.elim
    · exact h.elim
theorem runT_read {m : TM} {Q : Bool → Hp → Prop} (a : At0 K Z F0 H0 F H σ ρ s) (h : Post (α := Bool) (β := Bool) (fun _ _ _ v d => v = d) K W Z F H σ (runT m ρ s) Q) : tT K W m σ H Q := by
  unfold runT at h
  split at h
  · rename_i d s' e
    exact ⟨F, Z, dats ρ, s, a.ext.fh, dats_at a.sl, a.dr, by rw [e]; exact h⟩
  · rename_i C fs s' e
    exact ⟨F, Z, dats ρ, s, a.ext.fh, dats_at a.sl, a.dr, by rw [e]; exact h⟩
  · split at h
    · rename_i d s' e
      refine ⟨FV F H σ ρ, Z, vis ρ, s, fv_sub a.sl a.ext.fh, vis_at a.sl, fv_dr a.sl a.dr, ?_⟩
      rw [e]
      intro F' H' v ex hd av
      obtain ⟨e1, e2⟩ := a.look ex hd
      exact h _ H' v e1 e2 av
    · exact h.elim
/-- from a statement's wish to an expression's: k tells what follows a value -/
def after {α : Type} (r : RE α) (ρ : Sls) (k : α → S → RS) : RS := match r with
  | .ok d s => k d s
  | .ex C fs s => .ex C fs ρ s
  | .bad => .bad
theorem after_post {α β : Type} {rel : PySem.W.Frag → Hp → Option Zt → β → α → Prop} {D : Ends} {r : RE α} {k : α → S → RS} {Q : β → Hp → Prop} (a : At0 K Z F0 H0 F H σ ρ s) (h : PostS K W Z F0 H0 D (after r ρ k))
    (hk : ∀ d s' F' H' v, At0 K Z F0 H0 F' H' σ ρ s' → Ext Z F H F' H' → rel K F' Z v d → PostS K W Z F0 H0 D (k d s') → Q v H') : Post rel K W Z F H σ r Q := by
  cases r with
  | bad => exact h
  | ok d s' => exact fun F' H' v e hd av => hk d s' F' H' v (a.go e hd) e av h
  | ex C fs s' =>
    intro F' H' dd e hd xd
    have b := a.go e hd
    exact h F' H' σ dd b.ext b.dr b.sl xd
theorem SlAt.setD (h : SlAt K Z H0 F H σ ρ) {i : Nat} {v : V} {d : D} (a : At K F Z v d) : SlAt K Z H0 F H (σ.set i (some v)) (ρ.set i (some (.dat d))) := by
  have old : ∀ {j : Nat} {e : D}, owns (ρ.set i (some (.dat d))) j = some e → i ≠ j ∧ owns ρ j = some e := fun {j e} q => by
    have hj : i ≠ j := fun z => by
      subst z
      have := (owns_self q).2
      cases this
    rw [owns_ne hj] at q
    exact ⟨hj, q⟩
  refine ⟨by rw [List.length_set, List.length_set]; exact h.len, fun j e q => ?_, fun j e q => ?_, fun j k e e' b q1 q2 r1 r2 => ?_⟩
  · by_cases hj : i = j
    · subst hj
      have hi : i < ρ.length := by
        rw [← List.length_set]
        exact (List.getElem?_eq_some_iff.mp q).1
      rw [List.getElem?_set_self hi] at q
      cases q
      exact ⟨v, List.getElem?_set_self (by rw [h.len]; exact hi), a⟩
    · rw [List.getElem?_set_ne hj] at q
      obtain ⟨w, h1, h2⟩ := h.dat j e q
      exact ⟨w, by rw [List.getElem?_set_ne hj]; exact h1, h2⟩
  · obtain ⟨hj, q⟩ := old q
    obtain ⟨b, vs, h1, h2⟩ := h.ow j e q
    exact ⟨b, vs, by rw [List.getElem?_set_ne hj]; exact h1, h2⟩
  · obtain ⟨h1, q1⟩ := old q1
    obtain ⟨h2, q2⟩ := old q2
    rw [List.getElem?_set_ne h1] at r1
    rw [List.getElem?_set_ne h2] at r2
    exact h.ap j k e e' b q1 q2 r1 r2
theorem At0.setD (a : At0 K Z F0 H0 F H σ ρ s) {i : Nat} {v : V} {d : D} (av : At K F Z v d) : At0 K Z F0 H0 F H (σ.set i (some v)) (ρ.set i (some (.dat d))) s := ⟨a.ext, a.dr, a.sl.setD av⟩
theorem post_nx {D : Ends} {ρ : Sls} {s : S} (h : PostS K W Z F0 H0 D (.nx ρ s)) (a : At0 K Z F0 H0 F H σ ρ s) : D.nx σ H := h F H σ a.ext a.dr a.sl
end

/-! ### statements -/
def sSeq (m n : SM) : SM := fun ρ s => match m ρ s with
  | .nx ρ' s' => n ρ' s'
  | r => r
def sNext : SM := fun ρ s => .nx ρ s
def sSet (i : Nat) (m : EM) : SM := fun ρ s => after (runD m ρ s) ρ fun d s' => .nx (ρ.set i (some (.dat d))) s'
def sRet (m : EM) : SM := fun ρ s => after (runD m ρ s) ρ fun d s' => .rt d s'
def sDrop (m : EM) : SM := fun ρ s => after (runD m ρ s) ρ fun _ s' => .nx ρ s'
def sIf (t : TM) (m n : SM) : SM := fun ρ s => after (runT t ρ s) ρ fun b s' => if b = true then m ρ s' else n ρ s'
section
variable {X : Cx} {W : WX} {st : Stmt} {rest : List Stmt} {m n : SM} {e : Expr} {me : EM} {pos : Pos}
theorem dss_nil : PSs X [] (tS X.K W sNext) := pss_weak pss_nil fun D σ H ⟨F0, H0, Z, F, ρ, s, a, h⟩ => post_nx h a
theorem dss_cons (h1 : PS X st (tS X.K W m)) (h2 : PSs X rest (tS X.K W n)) : PSs X (st :: rest) (tS X.K W (sSeq m n)) := pss_weak (pss_cons h1 h2) fun D σ H ⟨F0, H0, Z, F, ρ, s, a, h⟩ => by
  refine ⟨F0, H0, Z, F, ρ, s, a, ?_⟩
  unfold sSeq at h
  cases q : m ρ s with
  | nx ρ' s' =>
    rw [q] at h
    exact fun F' H' σ' e hd sl => ⟨F0, H0, Z, F', ρ', s', ⟨e, hd, sl⟩, h⟩
  | bk ρ' s' => rw [q] at h; exact h
  | ct ρ' s' => rw [q] at h; exact h
  | rt d s' => rw [q] at h; exact h
  | ex C fs ρ' s' => rw [q] at h; exact h
  | bad => rw [q] at h; exact h
theorem dss_one (h1 : PS X st (tS X.K W m)) : PSs X [st] (tS X.K W m) := pss_one h1
theorem ds_pass : PS X (.Pass pos) (tS X.K W sNext) := ps_weak ps_pass fun D σ H ⟨F0, H0, Z, F, ρ, s, a, h⟩ => post_nx h a
theorem ds_doc {x j pos pos'} : PS X (.Expr (.Constant (.str x) j pos) pos') (tS X.K W sNext) := ps_weak ps_doc fun D σ H ⟨F0, H0, Z, F, ρ, s, a, h⟩ => post_nx h a
theorem ds_set {i : Nat} {x : Str} {pos' : Pos} (hN : X.N.Nodup) (hi : X.N[i]? = some x) (hx : Loc X.env.scope x) (he : PE X e (tE X.K W me)) (hs : swapsWith e (some (.Name x pos')) pos.line X.env = pure false := by rfl) (hf : X.fn x = true ∨ X.env.scope.names.lookup x = some .local := by first | exact .inl rfl | exact .inr rfl | assumption) :
    PS X (.Assign [.Name x pos'] e pos) (tS X.K W (sSet i me)) := ps_weak (ps_set hN hi hx he hs hf) fun D σ H ⟨F0, H0, Z, F, ρ, s, a, h⟩ =>
  run_read a (after_post a h fun d s' F' H' v a' _ av p => post_nx p (a'.setD av))
theorem ds_ret (he : PE X e (tE X.K W me)) : PS X (.Return (some e) pos) (tS X.K W (sRet me)) := ps_weak (ps_ret he) fun D σ H ⟨F0, H0, Z, F, ρ, s, a, h⟩ =>
  run_read a (after_post a h fun d s' F' H' v a' _ av p => p F' H' v a'.ext a'.dr av)
theorem ds_retN : PS X (.Return none pos) (tS X.K W fun ρ s => .rt .non s) := ps_weak ps_retN fun D σ H ⟨F0, H0, Z, F, ρ, s, a, h⟩ => h F H _ a.ext a.dr .non
theorem ds_expr (he : PE X e (tE X.K W me)) (hs : swapsWith e none pos.line X.env = pure false := by rfl) : PS X (.Expr e pos) (tS X.K W (sDrop me)) := ps_weak (ps_expr he hs) fun D σ H ⟨F0, H0, Z, F, ρ, s, a, h⟩ =>
  run_read a (after_post a h fun d s' F' H' v a' _ av p => post_nx p a')
theorem ds_if {c : Expr} {ta : List Stmt} {tb : List Stmt} {tc : TM} (hc : PT X c (tT X.K W tc)) (ha : PSs X ta (tS X.K W m)) (hb : PSs X tb (tS X.K W n)) : PS X (.If c ta tb pos) (tS X.K W (sIf tc m n)) := ps_weak (ps_if hc ha hb) fun D σ H ⟨F0, H0, Z, F, ρ, s, a, h⟩ =>
  runT_read a (after_post a h fun d s' F' H' v a' _ av p => by
    subst av
    cases v with
    | true => exact iteT ⟨F0, H0, Z, F', ρ, s', a', p⟩
    | false => exact iteF ⟨F0, H0, Z, F', ρ, s', a', p⟩)

/-! ### a list of one's own -/
/-- a new list, or dict, of one's own -/
theorem SlAt.setW {K : PySem.W.Frag} {Z : Option Zt} {F0 H0 F H : Hp} {σ : L2.St} {ρ : Sls} {s : S} (a : At0 K Z F0 H0 F H σ ρ s) {i : Nat} {p : Addr} {u : HO} {sl : Sl} {d : D} (hs : ownD (some sl) = some d) (hp : H p = none) (av : HoAt K F Z u d) :
    At0 K Z F0 H0 F (upd H p u) (σ.set i (some (.ref p))) (ρ.set i (some sl)) s := by
  have e1 : Ext Z F H F (upd H p u) := Ext.newH a.ext.fh hp
  have h := a.sl
  have hp0 : H0 p = none := by
    cases q : H0 p with
    | none => rfl
    | some o =>
      obtain ⟨o', q', _⟩ := a.ext.h p o q
      rw [hp] at q'
      cases q'
  have hdr : ¬ DrA Z p := fun z => by
    have d := a.dr.1
    cases Z with
    | none => exact z
    | some z' =>
      obtain ⟨_, d2, d3, _⟩ := d
      rcases z with z | z
      · rw [← z, hp] at d2; cases d2
      · rw [← z, hp] at d3; cases d3
  have other : ∀ {j : Nat} {e : FL.D} {b : Addr}, owns ρ j = some e → σ[j]? = some (some (.ref b)) → b ≠ p := fun {j e b} q r z => by
    obtain ⟨b', ws, r1, r2, _⟩ := h.ow j e q
    rw [r] at r1
    cases r1
    rw [z, hp] at r2
    cases r2
  refine ⟨a.ext.trans e1, a.dr.newH a.ext.fh hp, ⟨by rw [List.length_set, List.length_set]; exact h.len, fun j e q => ?_, fun j e q => ?_, fun j k e e' b q1 q2 r1 r2 => ?_⟩⟩
  · have hj : i ≠ j := fun z => by
      subst z
      have hi : i < ρ.length := by
        rw [← List.length_set]
        exact (List.getElem?_eq_some_iff.mp q).1
      rw [List.getElem?_set_self hi] at q
      cases sl <;> cases q
      cases hs
    rw [List.getElem?_set_ne hj] at q
    obtain ⟨w, h1, h2⟩ := h.dat j e q
    exact ⟨w, by rw [List.getElem?_set_ne hj]; exact h1, h2⟩
  · by_cases hj : i = j
    · subst hj
      obtain ⟨hi, q⟩ := owns_self q
      rw [hs] at q
      cases q
      exact ⟨p, u, List.getElem?_set_self (by rw [h.len]; exact hi), upd_same, av, a.ext.fh.free hp, hp0, hdr⟩
    · rw [owns_ne hj] at q
      obtain ⟨b, ws, h1, h2, h3⟩ := h.ow j e q
      exact ⟨b, ws, by rw [List.getElem?_set_ne hj]; exact h1, by rw [upd_ne (other q h1)]; exact h2, h3⟩
  · by_cases h1 : i = j
    · by_cases h2 : i = k
      · rw [← h1, ← h2]
      · subst h1
        rw [owns_ne h2] at q2
        rw [List.getElem?_set_ne h2] at r2
        have hi := (owns_self q1).1
        rw [List.getElem?_set_self (by rw [h.len]; exact hi)] at r1
        cases r1
        exact absurd rfl (other q2 r2)
    · rw [owns_ne h1] at q1
      rw [List.getElem?_set_ne h1] at r1
      by_cases h2 : i = k
      · subst h2
        have hi := (owns_self q2).1
        rw [List.getElem?_set_self (by rw [h.len]; exact hi)] at r2
        cases r2
        exact absurd rfl (other q1 r1)
      · rw [owns_ne h2] at q2
        rw [List.getElem?_set_ne h2] at r2
        exact h.ap j k e e' b q1 q2 r1 r2
theorem SlAt.setO {K : PySem.W.Frag} {Z : Option Zt} {F0 H0 F H : Hp} {σ : L2.St} {ρ : Sls} {s : S} (a : At0 K Z F0 H0 F H σ ρ s) {i : Nat} {p : Addr} {vs : List V} {xs : List D} (hp : H p = none) (av : AtAll K F Z vs xs) :
    At0 K Z F0 H0 F (upd H p (.lst vs)) (σ.set i (some (.ref p))) (ρ.set i (some (.own xs))) s := SlAt.setW a rfl hp (.lst av)
theorem HoAt.isC {K : PySem.W.Frag} {F : Hp} {Z : Option Zt} {o : HO} {d : D} (h : HoAt K F Z o d) : (∃ xs, o = .lst xs) ∨ ∃ kvs, o = .dK kvs := by
  cases h with
  | lst k => exact .inl ⟨_, rfl⟩
  | dic k => exact .inr ⟨_, rfl⟩
/-- one's own list, or dict, is changed -/
theorem SlAt.chgW {K : PySem.W.Frag} {Z : Option Zt} {F0 H0 F H : Hp} {σ : L2.St} {ρ : Sls} {s : S} (a : At0 K Z F0 H0 F H σ ρ s) {i : Nat} {p : Addr} {u : HO} {sl : Sl} {d d0 : D} (hs : ownD (some sl) = some d) (q : owns ρ i = some d0) (r : σ[i]? = some (some (.ref p))) (av : HoAt K F Z u d) :
    At0 K Z F0 H0 F (upd H p u) σ (ρ.set i (some sl)) s := by
  have h := a.sl
  obtain ⟨p', ws, r1, r2, r3, r4, r5, r6⟩ := h.ow i d0 q
  rw [r] at r1
  cases r1
  have hi : i < ρ.length := by
    unfold owns at q
    cases z : ρ[i]? with
    | none => rw [z] at q; cases q
    | some o => exact (List.getElem?_eq_some_iff.mp z).1
  refine ⟨⟨a.ext.f, fun b o e => ?_, fun b o e => ?_, a.ext.n⟩, ?_, ⟨by rw [List.length_set]; exact h.len, fun j e z => ?_, fun j e z => ?_, fun j k e e' b q1 q2 s1 s2 => ?_⟩⟩
  · have : b ≠ p := fun z => by rw [z, r4] at e; cases e
    rw [upd_ne this]
    exact a.ext.fh b o e
  · have : b ≠ p := fun z => by rw [z, r5] at e; cases e
    rw [upd_ne this]
    exact a.ext.h b o e
  · refine ⟨?_, ?_⟩
    · have d := a.dr.1
      cases Z with
      | none => exact d
      | some z =>
        obtain ⟨d1, d2, d3, d4, d5⟩ := d
        refine ⟨d1, ?_, ?_, d4, d5⟩
        · rw [upd_ne fun e => r6 (.inl e.symm)]; exact d2
        · rw [upd_ne fun e => r6 (.inr e.symm)]; exact d3
    · rcases r3.isC with ⟨xs, z⟩ | ⟨xs, z⟩
      · rw [z] at r2; exact ⟨a.dr.2.1.chg r2, a.dr.2.2⟩
      · rw [z] at r2; exact ⟨a.dr.2.1.chgK r2, a.dr.2.2⟩
  · have hj : i ≠ j := fun w => by
      subst w
      rw [List.getElem?_set_self hi] at z
      cases sl <;> cases z
      cases hs
    rw [List.getElem?_set_ne hj] at z
    exact h.dat j e z
  · by_cases hj : i = j
    · subst hj
      have z := (owns_self z).2
      rw [hs] at z
      cases z
      exact ⟨p, u, r, upd_same, av, r4, r5, r6⟩
    · rw [owns_ne hj] at z
      obtain ⟨b, us, h1, h2, h3⟩ := h.ow j e z
      have : b ≠ p := fun w => hj (h.ap i j d0 e p q z r (by rw [← w]; exact h1))
      exact ⟨b, us, h1, by rw [upd_ne this]; exact h2, h3⟩
  · have sh : ∀ {j : Nat} {e : FL.D}, owns (ρ.set i (some sl)) j = some e → ∃ e', owns ρ j = some e' := fun {j e} w => by
      by_cases hj : i = j
      · subst hj; exact ⟨d0, q⟩
      · rw [owns_ne hj] at w; exact ⟨_, w⟩
    obtain ⟨z1, w1⟩ := sh q1
    obtain ⟨z2, w2⟩ := sh q2
    exact h.ap j k z1 z2 b w1 w2 s1 s2
theorem SlAt.chg {K : PySem.W.Frag} {Z : Option Zt} {F0 H0 F H : Hp} {σ : L2.St} {ρ : Sls} {s : S} (a : At0 K Z F0 H0 F H σ ρ s) {i : Nat} {p : Addr} {vs : List V} {xs ys : List D} (q : ρ[i]? = some (some (.own ys))) (r : σ[i]? = some (some (.ref p))) (av : AtAll K F Z vs xs) :
    At0 K Z F0 H0 F (upd H p (.lst vs)) σ (ρ.set i (some (.own xs))) s := SlAt.chgW a rfl (owns_of q) r (.lst av)
def runA (m : AM) (ρ : Sls) (s : S) : RE (List D) := m (dats ρ) s
theorem runA_read {K : PySem.W.Frag} {Z : Option Zt} {F0 H0 F H : Hp} {σ : L2.St} {ρ : Sls} {s : S} {m : AM} {Q : List V → Hp → Prop} (a : At0 K Z F0 H0 F H σ ρ s) (h : PostA K W Z F H σ (runA m ρ s) Q) : tA K W m σ H Q := ⟨F, Z, dats ρ, s, a.ext.fh, dats_at a.sl, a.dr, h⟩
/-- x = [..], a list of one's own -/
def sOwn (i : Nat) (m : AM) : SM := fun ρ s => after (runA m ρ s) ρ fun xs s' => if xs.length ≤ sizeLine then .nx (ρ.set i (some (.own xs))) s' else .bad
theorem ds_own {i : Nat} {x : Str} {es : List Expr} {ma : AM} {pos' p2 : Pos} (hN : X.N.Nodup) (hi : X.N[i]? = some x) (hx : Loc X.env.scope x) (he : PA X es (tA X.K W ma)) (hs : swapsWith (.List es p2) (some (.Name x pos')) pos.line X.env = pure false := by rfl) (hf : X.fn x = true ∨ X.env.scope.names.lookup x = some .local := by first | exact .inl rfl | exact .inr rfl | assumption) :
    PS X (.Assign [.Name x pos'] (.List es p2) pos) (tS X.K W (sOwn i ma)) := ps_weak (ps_set hN hi hx (pe_lst he) hs hf) fun D σ H ⟨F0, H0, Z, F, ρ, s, a, h⟩ =>
  runA_read a (after_post a h fun d s' F' H' vs a' _ av p => by
    split at p
    · rename_i hz
      exact ⟨by rw [av.length]; exact hz, fun q hq => post_nx p (SlAt.setO a' hq av)⟩
    · exact p.elim)
/-- x.append(e) -/
def sApp (i : Nat) (m : EM) : SM := fun ρ s => match ρ[i]? with
  | some (some (.own xs)) => after (runD m ρ s) ρ fun d s' => if xs.length < sizeLine then .nx (ρ.set i (some (.own (xs ++ [d])))) s' else .bad
  | _ => .bad
theorem ds_app {i : Nat} (h : PS X st (tDrop (tBM X.K "list" rAppend (tVar i) (tCons (tE X.K W me) tNil)))) : PS X st (tS X.K W (sApp i me)) := ps_weak h fun D σ H ⟨F0, H0, Z, F, ρ, s, a, h⟩ => by
  unfold sApp at h
  split at h
  · rename_i xs q
    obtain ⟨p, vs, r1, r2, _⟩ := a.sl.own i xs q
    refine ⟨_, r1, .inl ⟨rfl, vs, .of r2⟩, run_read a (after_post a h fun d s' F' H' v a' _ av p => ?_)⟩
    split at p
    · rename_i hz
      obtain ⟨p', vs', u1, u2, u3, _⟩ := a'.sl.own i xs q
      rw [r1] at u1
      cases u1
      exact ⟨_, vs', v, rfl, rfl, u2, by rw [u3.length]; exact hz, post_nx p (SlAt.chg a' q r1 (u3.append (.cons av .nil)))⟩
    · exact p.elim
  · exact h.elim
/-- x[e1] = e2 -/
def sSetI (i : Nat) (m1 m2 : EM) : SM := fun ρ s => match ρ[i]? with
  | some (some (.own xs)) => after (runD m2 ρ s) ρ fun d s' => after (runD m1 ρ s') ρ fun k s'' => match k with
    | .int n => match ixN xs.length n with
      | some j => .nx (ρ.set i (some (.own (xs.set j d)))) s''
      | none => .bad
    | _ => .bad
  | _ => .bad
theorem ds_setI {i : Nat} {m1 m2 : EM} (h : PS X st (tAsg (tE X.K W m2) (gSub (tVar i) (tE X.K W m1) rSetL))) : PS X st (tS X.K W (sSetI i m1 m2)) := ps_weak h fun D σ H ⟨F0, H0, Z, F, ρ, s, a, h⟩ => by
  unfold sSetI at h
  split at h
  · rename_i xs q
    refine run_read a (after_post a h fun d s' F' H' v a' _ av h => ?_)
    obtain ⟨p, vs, r1, r2, _⟩ := a'.sl.own i xs q
    refine ⟨_, r1, run_read a' (after_post a' h fun k s2 F2 H2 w a2 e2 aw h => ?_)⟩
    cases k with
    | int n =>
      cases at_int aw
      dsimp only at h
      split at h
      · rename_i j hj
        obtain ⟨p', vs', u1, u2, u3, _⟩ := a2.sl.own i xs q
        rw [r1] at u1
        cases u1
        exact ⟨_, vs', n, j, rfl, rfl, u2, by rw [u3.length]; exact hj, post_nx h (SlAt.chg a2 q r1 (u3.set j (av.mono e2.f)))⟩
      · exact h.elim
    | _ => exact h.elim
  · exact h.elim
/-- what was one's own is frozen from here on -/
def frz (i : Nat) (ρ : Sls) : Sls := match owns ρ i with
  | some d => ρ.set i (some (.dat d))
  | none => ρ
theorem At0.frz {K : PySem.W.Frag} {Z : Option Zt} {F0 H0 F H : Hp} {σ : L2.St} {ρ : Sls} {s : S} (a : At0 K Z F0 H0 F H σ ρ s) (i : Nat) : ∃ F', At0 K Z F0 H0 F' H σ (frz i ρ) s := by
  unfold FL.frz
  split
  · rename_i d q
    obtain ⟨p, u, r1, r2, r3, r4, r5, r6⟩ := a.sl.ow i d q
    have sF : Same F (upd F p u) := fun b o e => by
      rw [upd_ne fun z => by rw [z, r4] at e; cases e]; exact e
    have sH : Same (upd F p u) H := fun b o e => by
      by_cases z : b = p
      · subst z
        rw [upd_same] at e
        rw [r2]; exact e
      · rw [upd_ne z] at e
        exact a.ext.fh b o e
    have hi : i < ρ.length := by
      unfold owns at q
      cases z : ρ[i]? with
      | none => rw [z] at q; cases q
      | some o => exact (List.getElem?_eq_some_iff.mp z).1
    refine ⟨upd F p u, ⟨a.ext.f.trans sF, sH, a.ext.h, fun b o e1 e2 => ?_⟩, ⟨?_, a.dr.2.1.move (fun b ps e => e) sF (fun t ht => ?_), fun F3 g => a.dr.2.2 F3 (sF.trans g)⟩, ?_⟩
    · rw [upd_ne fun z => by rw [z, r5] at e2; cases e2]
      exact a.ext.n b o e1 e2
    · have d := a.dr.1
      cases Z with
      | none => exact d
      | some z =>
        obtain ⟨d1, d2, d3, d4, d5⟩ := d
        refine ⟨d1, d2, d3, ?_, ?_⟩
        · rw [upd_ne fun e => r6 (.inl e.symm)]; exact d4
        · rw [upd_ne fun e => r6 (.inr e.symm)]; exact d5
    · obtain ⟨ps, e3⟩ := a.dr.2.1.tbl ht
      rw [upd_ne fun z => by rw [z, r2] at e3; cases e3; exact r3.nt ps rfl]
      exact a.dr.2.1.2 t ht
    · have no : ∀ {j : Nat} {e : FL.D}, owns (ρ.set i (some (.dat d))) j = some e → i ≠ j ∧ owns ρ j = some e := fun {j e} w => by
        have hj : i ≠ j := fun z => by
          subst z
          have := (owns_self w).2
          cases this
        rw [owns_ne hj] at w
        exact ⟨hj, w⟩
      refine ⟨by rw [List.length_set]; exact a.sl.len, fun j e w => ?_, fun j e w => ?_, fun j k e e' b q1 q2 s1 s2 => ?_⟩
      · by_cases z : i = j
        · subst z
          rw [List.getElem?_set_self hi] at w
          cases w
          exact ⟨_, r1, (r3.mono sF).at_ upd_same⟩
        · rw [List.getElem?_set_ne z] at w
          obtain ⟨v, w1, w2⟩ := a.sl.dat j e w
          exact ⟨v, w1, w2.mono sF⟩
      · obtain ⟨hj, w⟩ := no w
        obtain ⟨b, us, h1, h2, h3, h4, h5, h6⟩ := a.sl.ow j e w
        have : b ≠ p := fun z => hj (a.sl.ap i j d e p q w r1 (by rw [← z]; exact h1))
        exact ⟨b, us, h1, h2, h3.mono sF, by rw [upd_ne this]; exact h4, h5, h6⟩
      · exact a.sl.ap j k e e' b (no q1).2 (no q2).2 s1 s2
  · exact ⟨F, a⟩
theorem ds_frz (i : Nat) (h : PS X st (tS X.K W m)) : PS X st (tS X.K W fun ρ s => m (frz i ρ) s) := ps_weak h fun D σ H ⟨F0, H0, Z, F, ρ, s, a, h⟩ => by
  obtain ⟨F', b⟩ := a.frz i
  exact ⟨F0, H0, Z, F', frz i ρ, s, b, h⟩
end
end FL
set_option Elab.async false
set_option linter.all false
set_option maxRecDepth 100000
set_option maxHeartbeats 1000000
/-! ## FL, 5: what is walked: a list, a tuple, a text, a range; each with its number -/
namespace FL
open PySem PySem.Spec PyProof.Rows L2
/-! ### enumerate(tuple) -/
theorem enum_newT {v : Value} {o : Obj} {G : Heap → Prop} (B : Begins v o G) :
    Meets (Builtin.«enumerate.__new__» ⟨[.type "enumerate", v], []⟩) (fun _ R s => G s.heap ∧
      R (.ok (.ret (.ref (s.heap.push o).objs.size))) { s with heap := (s.heap.push o).push { cls := .type "enumerate", data := .fields #[.none, .bool false, .ref s.heap.objs.size, rawInt 0, .none, .none] } }) :=
  .of_wp fun prog w A R s h => by
    obtain ⟨hp, gg, dd, tk, oo⟩ := s
    obtain ⟨hG, h⟩ := h
    have hsub := sub_enumerate
    have go : ∀ {A' : Around} {E : Value → Shared → Prop} {Q : Value → Shared → Prop}, Q (.ref hp.objs.size) ⟨hp.push o, gg, dd, tk, oo⟩ → wpAny (model prog w) A' (pyIter v) Q E ⟨hp, gg, dd, tk, oo⟩ :=
      fun q => B.iter prog w _ _ ⟨hp, gg, dd, tk, oo⟩ _ hG q
    wp_walk using go
    refine wpAny_stack_any fun st => wpAny_pure ?_
    split
    · rename_i cc _ _ _ _ _
      cases (cc == Value.type "enumerate") <;> (wp_walk using go; exact ⟨_, rfl, h⟩)
    · wp_walk using go
      exact ⟨_, rfl, h⟩
theorem enum_callT {prog : Program} {w : World} {A : Around} {E : Value → Shared → Prop} {s : Shared} {v : Value} {o : Obj} {G : Heap → Prop} {Q : Value → Shared → Prop} (B : Begins v o G) (hG : G s.heap)
    (h : ∀ h2, IsEnum h2 (s.heap.objs.size + 1) s.heap.objs.size 0 .none → h2.get? s.heap.objs.size = some o → h2.objs.size = s.heap.objs.size + 2 →
      (∀ b ob, s.heap.get? b = some ob → h2.get? b = some ob) → Q (.ref (s.heap.objs.size + 1)) { s with heap := h2 }) :
    wpAny (model prog w) A (call (.type "enumerate") [v]) Q E s := by
  refine callType_new F.called_enumerate (by decide) (F.typeCall_enumerate_1 _) (F.newCall_enumerate_1 _) (fun ob => F.args_object_init_2 ob _) F.entry_enumerate_new (enum_newT B) ⟨hG, ?_⟩
  have hz : (s.heap.push o).objs.size = s.heap.objs.size + 1 := Heap.size_push ..
  show _ ∧ _
  rw [hz]
  have he : IsEnum ((s.heap.push o).push { cls := .type "enumerate", data := .fields #[.none, .bool false, .ref s.heap.objs.size, rawInt 0, .none, .none] }) (s.heap.objs.size + 1) s.heap.objs.size 0 .none := by
    have q := Heap.get?_push_size (s.heap.push o) (o := { cls := .type "enumerate", data := .fields #[.none, .bool false, .ref s.heap.objs.size, rawInt 0, .none, .none] }) rfl
    rw [hz] at q
    exact q
  exact ⟨⟨_, he, rfl⟩, h _ he (Heap.get?_push_of_some _ (Heap.get?_push_size _ B.free)) (by rw [Heap.size_push, hz]) fun b ob x => Heap.get?_push_of_some _ (Heap.get?_push_of_some _ x)⟩
/-- the tuple at a, each item in a new pair with its number -/
def ItET (K : PySem.W.Frag) (a : Addr) : It :=
  ⟨fun i H => ∃ (xs : List V) (x : V), SqT K H a xs ∧ xs[i]? = some x, fun i H v H' => ∃ T x, v = .ref T ∧ H T = none ∧ H' = upd H T (.tup [.int (i : Nat), x]) ∧ ∀ xs, SqT K H a xs → xs[i]? = some x, fun i H => ∃ xs : List V, SqT K H a xs ∧ xs.length = i⟩
theorem turn_enumT {P : Program} {w : World} {K : PySem.W.Frag} {elts : List Expr} {kk : Nat} {tpos : Pos} (a e it : Addr) :
    Turn P w K (.Tuple elts kk tpos) (ItET K a) [e, it] e (fun i h => (∃ old, IsEnum h e it ((i : Nat) : Int) old) ∧ h.IsTupleIter it a i ∧ e ≠ it) where
  mem := List.mem_cons_self
  obj := fun i h st b hb => by
    obtain ⟨⟨old, he⟩, ⟨ob, ho, _, hd⟩, _⟩ := st
    rcases List.mem_cons.mp hb with z | z
    · rw [z]; exact ⟨_, he, fun v q => nomatch q⟩
    · rw [List.mem_singleton.mp z]; exact ⟨ob, ho, fun v q => by rw [hd] at q; cases q⟩
  keep := fun i h h' st k => let ⟨⟨old, he⟩, hi, hne⟩ := st; ⟨⟨old, k e List.mem_cons_self _ he⟩, hi.at fun ob q => k it (List.mem_cons_of_mem _ List.mem_cons_self) ob q, hne⟩
  item := by
    intro X hP hw hK hc i pins s σ H E I hf st hg
    subst hP hw hK
    obtain ⟨⟨old, he⟩, hit, hne⟩ := st
    obtain ⟨xs, x, hq, hx⟩ := hg
    obtain ⟨its, rv, p, hz⟩ := I.tuple hq
    obtain ⟨u, hu, ru⟩ := rv.get hx
    have hel : e < s.heap.objs.size := Heap.lt_size he
    have hil : it < s.heap.objs.size := by obtain ⟨_, q, _⟩ := hit; exact Heap.lt_size q
    obtain ⟨oa, ha1, ha2, na, ha3⟩ := id p
    have hai : a ≠ it := fun z => by
      obtain ⟨ob, ho, hcc, _⟩ := id hit
      rw [z, ho] at ha1
      cases ha1
      rw [hcc] at ha2
      injection ha2 with z2
      exact absurd z2 (by decide)
    have hea : e ≠ a := fun z => by
      rw [← z, he] at ha1
      cases ha1
      injection ha2 with z2
      exact absurd z2 (by decide)
    have hlt : i < its.toArray.size := by
      rw [List.size_toArray]
      exact (List.getElem?_eq_some_iff.mp hu).1
    refine wpAny_pyNext_enum_itemD (Draws.tuple (show X.A.in1.handled = none from I.ok.hd hc) it a hai its.toArray) he ⟨hit, p⟩ hlt hne (by simp [hne, hea]) fun y h2 tk hy ho st2 hT hsz hk => ?_
    have ey : y = u := by
      have q : its[i]? = some y := by simpa using hy
      rw [hu] at q
      exact (Option.some.inj q).symm
    subst ey
    refine ⟨_, rfl, wpAny_letOwnedTupleGo_enum (s := { s with heap := h2, toks := tk + 1 }) ho fun h3 he3 sb => ?_⟩
    have hT2 : h3.get? s.heap.objs.size = some { cls := .type "tuple", data := .seq #[.int i tk, y] } := (sb.2 _ (Nat.ne_of_gt hel)).trans hT
    have new : ObjOk X.prog X.w (upd H s.heap.objs.size (.tup [.int (i : Nat), x])) h3 s.heap.objs.size (.tup [.int (i : Nat), x]) := by
      refine ⟨?_, [.int i tk, y], .cons ⟨_, rfl⟩ (.cons ru .nil), ⟨_, hT2, rfl, _, rfl⟩⟩
      show 2 ≤ sizeLine
      decide
    have I1 : Inv X pins σ (upd H s.heap.objs.size (.tup [.int (i : Nat), x])) { s with heap := h3, toks := tk + 1 } :=
      I.turnedNew (ch := [e, it]) (fun b ob hb q => (sb.2 b fun z => hb (by rw [z]; exact List.mem_cons_self)).trans (hk b ob (fun z => hb (by rw [z]; exact List.mem_cons_self)) (fun z => hb (by rw [z]; exact List.mem_cons_of_mem _ List.mem_cons_self)) q)) hf (Nat.le_refl _) new
    refine ⟨.ref s.heap.objs.size, _, I1, rfl, ⟨_, x, rfl, I.hok.fresh (Nat.le_refl _), rfl, fun ys hy => by rw [I.tuple_inj hy hq]; exact hx⟩, ⟨⟨y, ?_⟩, st2.1.at fun ob q => (sb.2 it (Ne.symm hne)).trans q, hne⟩, fun b hb => ?_⟩
    · have e1 : ((i + 1 : Nat) : Int) = (i : Int) + 1 := by omega
      rw [e1]
      exact he3
    · have hb2 : b ≠ s.heap.objs.size := by
        rcases List.mem_cons.mp hb with z | z
        · rw [z]; exact Nat.ne_of_lt hel
        · rw [List.mem_singleton.mp z]; exact Nat.ne_of_lt hil
      rw [upd_ne hb2]
      exact (hf b hb).1
  done := by
    intro X hP hw hK hc i pins s σ H E I hf st hg
    subst hP hw hK
    obtain ⟨⟨old, he⟩, hit, hne⟩ := st
    obtain ⟨xs, hq, hx⟩ := hg
    obtain ⟨its, rv, p, hz⟩ := I.tuple hq
    obtain ⟨f0, f1, f2, f3, f4, f5⟩ := hf it (List.mem_cons_of_mem _ List.mem_cons_self)
    have hl : its.toArray.size = i := by rw [List.size_toArray, ← rv.length]; exact hx
    obtain ⟨oa, ha1, ha2, na, ha3⟩ := id p
    have hai : a ≠ it := fun z => by
      obtain ⟨ob, ho, hcc, _⟩ := id hit
      rw [z, ho] at ha1
      cases ha1
      rw [hcc] at ha2
      injection ha2 with z2
      exact absurd z2 (by decide)
    exact wpAny_pyNext_enum_endD (Draws.tuple (show X.A.in1.handled = none from I.ok.hd hc) it a hai its.toArray) he (by rw [hl]; exact ⟨hit, p⟩) fun h2 eb => ⟨rfl, I.turned (t' := s.toks) (fun b ob hb q => eb b ob hb q) f0 f1 f3 f4 f5⟩
  self := fun A i s Q E st h => let ⟨⟨_, he⟩, _⟩ := st; wpAny_pyIter_enum he h
/-- enumerate(x), x a list or a tuple -/
def rIE (K : PySem.W.Frag) (x : V) (H : Hp) (R : It → Hp → Prop) : Prop := (∃ a xs, x = .ref a ∧ SqL K H a xs ∧ R (Ite K a) H) ∨ ∃ a xs, x = .ref a ∧ SqT K H a xs ∧ R (ItET K a) H
theorem pi_enumG {X : Cx} {e : Expr} {te : TE} {p pos tpos : Pos} {elts : List Expr} {kk : Nat} (hg : Gl X "enumerate") (hm : X.mg "enumerate" = none) (he : PE X e te) (hs : starEach [e] X.env = [(false, eval e X.env)] := by rfl) :
    PI X (.Tuple elts kk tpos) (.Call (.Name "enumerate" p) [e] [] pos) (fun σ H R => te σ H fun x H1 => rIE X.K x H1 R) := by
  refine ⟨fun pins s σ H R I h => ?_⟩
  refine Call_ (ld_blt I hg hm boot_enumerate (PyProof.Rows.callWith_type1 (thn ((pa_cons he pa_nil hs).run pos pins s σ H (fun vs H1 => ∃ x, vs = [x] ∧ rIE X.K x H1 R) I ?_) fun us s1 ⟨vs, H1, I1, r1, x, ex, q1⟩ => ?_) hs rfl))
  · have wk : ∀ (Q Q' : VK), te σ H Q → (∀ v H, Q v H → Q' v H) → tCons te tNil σ H (fun vs H1 => ∃ x, vs = [x] ∧ rIE X.K x H1 R) → tCons te tNil σ H (fun vs H1 => ∃ x, vs = [x] ∧ rIE X.K x H1 R) := fun _ _ _ _ z => z
    show te σ H fun x H1 => ∃ y, [x] = [y] ∧ rIE X.K y H1 R
    have e2 : (fun x H1 => ∃ y, [x] = [y] ∧ rIE X.K y H1 R) = fun x H1 => rIE X.K x H1 R := by
      funext x H1
      exact propext ⟨fun ⟨y, q, z⟩ => by cases q; exact z, fun z => ⟨x, rfl, z⟩⟩
    rw [e2]
    exact h
  · subst ex
    have pick : ∀ {fpv : List Addr} {b : Addr}, b ∈ ([s1.heap.objs.size + 1, s1.heap.objs.size] : List Addr) → FpOk X pins H1 b := fun {_ b} hb => by
      have hle : s1.heap.objs.size ≤ b := by
        rcases List.mem_cons.mp hb with z | z
        · rw [z]; exact Nat.le_add_right _ _
        · rw [List.mem_singleton.mp z]; exact Nat.le_refl _
      exact I1.fpOk hle (I1.hok.fresh hle)
    cases r1 with
    | cons r rr =>
      cases rr
      rcases q1 with ⟨a, xs, rfl, hq, q⟩ | ⟨a, xs, rfl, hq, q⟩
      · cases r
        obtain ⟨its, rv, p2, hz⟩ := I1.list hq
        refine call_enumerate_list p2.isList fun h2 he2 hit hsz hk => wpAny_pyIter_enum he2 ?_
        exact ⟨s1.heap.objs.size + 1, [s1.heap.objs.size + 1, s1.heap.objs.size], _, _, H1, rfl, I1.kept (t' := s1.toks) hk, turn_enum a (s1.heap.objs.size + 1) s1.heap.objs.size, ⟨⟨.none, he2⟩, hit, Nat.succ_ne_self _⟩, fun b hb => pick (fpv := []) hb, q⟩
      · cases r
        obtain ⟨its, rv, p2, hz⟩ := I1.tuple hq
        refine enum_callT (begins_tuple a its.toArray) p2 fun h2 he2 hit hsz hk => wpAny_pyIter_enum he2 ?_
        exact ⟨s1.heap.objs.size + 1, [s1.heap.objs.size + 1, s1.heap.objs.size], _, _, H1, rfl, I1.kept (t' := s1.toks) hk, turn_enumT a (s1.heap.objs.size + 1) s1.heap.objs.size, ⟨⟨.none, he2⟩, ⟨_, hit, rfl, rfl⟩, Nat.succ_ne_self _⟩, fun b hb => pick (fpv := []) hb, q⟩
/-- x itself, a list, a tuple or a text -/
def rIA (K : PySem.W.Frag) (x : V) (H : Hp) (R : It → Hp → Prop) : Prop := (∃ a xs, x = .ref a ∧ SqL K H a xs ∧ R (Itl K a) H) ∨ (∃ a xs, x = .ref a ∧ SqT K H a xs ∧ R (Itt K a) H) ∨ ∃ z, x = .str z ∧ R (Its z) H
theorem pi_any {X : Cx} {tg e : Expr} {te : TE} (he : PE X e te) : PI X tg e (fun σ H R => te σ H fun x H1 => rIA X.K x H1 R) := by
  refine ⟨fun pins s σ H R I h => ?_⟩
  refine thn (he.run pins s σ H _ I h) fun v s1 ⟨x, H1, I1, r1, q1⟩ => ?_
  -- the value is there: each kind by the library's own rule, over an expression that gives just it
  rcases q1 with ⟨a, xs, rfl, hq, q⟩ | ⟨a, xs, rfl, hq, q⟩ | ⟨z, rfl, q⟩
  · cases r1
    obtain ⟨its, rv, p2, hz⟩ := I1.list hq
    refine wpAny_pyIter_list p2.isList ⟨s1.heap.objs.size, [s1.heap.objs.size], _, _, H1, rfl, I1.kept (t' := s1.toks) fun b ob y => Heap.get?_push_of_some _ y, turn_list a _, ⟨_, Heap.get?_push_size _ rfl, rfl, rfl⟩, fun b hb => ?_, q⟩
    rw [List.mem_singleton.mp hb]
    exact I1.fpOk (Nat.le_refl _) (I1.hok.fresh (Nat.le_refl _))
  · cases r1
    obtain ⟨its, rv, p2, hz⟩ := I1.tuple hq
    refine wpAny_pyIter_tuple (show s1.heap.IsTuple a its.toArray from p2) ⟨s1.heap.objs.size, [s1.heap.objs.size], _, _, H1, rfl, I1.kept (t' := s1.toks) fun b ob y => Heap.get?_push_of_some _ y, turn_tuple a _, ⟨_, Heap.get?_push_size _ rfl, rfl, rfl⟩, fun b hb => ?_, q⟩
    rw [List.mem_singleton.mp hb]
    exact I1.fpOk (Nat.le_refl _) (I1.hok.fresh (Nat.le_refl _))
  · obtain ⟨t, rfl⟩ := r1
    have hb : ∀ b ∈ ([s1.heap.objs.size] : List Addr), FpOk X pins H1 b := fun b hb => by
      rw [List.mem_singleton.mp hb]
      exact I1.fpOk (Nat.le_refl _) (I1.hok.fresh (Nat.le_refl _))
    cases ha : z.cps.all (· < 128)
    · refine wpAny_pyIter_wide ha ⟨s1.heap.objs.size, [s1.heap.objs.size], _, _, H1, rfl, I1.kept (t' := s1.toks) fun b ob y => Heap.get?_push_of_some _ y, turn_str _ z t "str_iterator" (.inr rfl), ⟨_, Heap.get?_push_size _ rfl, rfl, rfl⟩, hb, q⟩
    · refine wpAny_pyIter_ascii ha ⟨s1.heap.objs.size, [s1.heap.objs.size], _, _, H1, rfl, I1.kept (t' := s1.toks) fun b ob y => Heap.get?_push_of_some _ y, turn_str _ z t "str_ascii_iterator" (.inl rfl), ⟨_, Heap.get?_push_size _ rfl, rfl, rfl⟩, hb, q⟩
/-! ### by content -/
/-- what J gives at turn i: the i-th of ds -/
def YD (K : PySem.W.Frag) (Z : Option Zt) (F : Hp) (ds : List D) : Nat → Hp → V → Hp → Prop := fun i H x H' => ∃ d, ds[i]? = some d ∧
  ((H' = H ∧ At K F Z x d) ∨ ∃ (T : Addr) (a b : D) (va vb : V), x = .ref T ∧ H T = none ∧ H' = upd H T (.tup [va, vb]) ∧ d = .tup [a, b] ∧ At K F Z va a ∧ At K F Z vb b)
def ItOk (K : PySem.W.Frag) (Z : Option Zt) (F : Hp) (J : It) (ds : List D) : Prop := Walk J ds.length (fun H => Same F H) (YD K Z F ds)
def tI (K : PySem.W.Frag) (W : WX) (m : AM) : TI := fun σ H R => ∃ F Z ρ s, Same F H ∧ EnvAt K F Z σ ρ ∧ DrAt Z F H s ∧ Post (α := List D) (β := It) (fun K F Z J ds => ItOk K Z F J ds) K W Z F H σ (m ρ s) R
theorem pi_weak {X : Cx} {tg e : Expr} {t t' : TI} (h : PI X tg e t) (k : ∀ σ H R, t' σ H R → t σ H R) : PI X tg e t' := ⟨fun pins s σ H Q I q => h.run pins s σ H Q I (k σ H Q q)⟩
/-- the things that are walked -/
def itemsF : D → Option (List D)
  | .lst xs => some xs
  | .tup xs => some xs
  | .str z => some (z.cps.toList.map fun c => .str ⟨#[c]⟩)
  | _ => none
def numd (xs : List D) : List D := xs.zipIdx.map fun p => .tup [.int (p.2 : Nat), p.1]
def numdF : D → Option (List D)
  | .lst xs => some (numd xs)
  | .tup xs => some (numd xs)
  | _ => none
def iOf (f : D → Option (List D)) (m : EM) : AM := fun ρ s => (m ρ s).bind fun d s1 => lift (f d) s1
section
variable {K : PySem.W.Frag} {Z : Option Zt} {F : Hp}
theorem it_list {a : Addr} {vs : List V} {ds : List D} (h : F a = some (.lst vs)) (k : AtAll K F Z vs ds) : ItOk K Z F (Itl K a) ds := by
  have w : Walk (Itl K a) vs.length (fun H => SqL K H a vs) (YAt vs) := walk_list
  unfold ItOk
  rw [← k.length]
  refine w.mono (fun H e => .of (e _ _ h)) fun i H x H' hi e y => ?_
  obtain ⟨d, hd, ad⟩ := k.getV y.2
  exact ⟨d, hd, .inl ⟨y.1, ad⟩⟩
theorem it_tup {a : Addr} {vs : List V} {ds : List D} (h : F a = some (.tup vs)) (k : AtAll K F Z vs ds) : ItOk K Z F (Itt K a) ds := by
  have w : Walk (Itt K a) vs.length (fun H => SqT K H a vs) (YAt vs) := walk_tup
  unfold ItOk
  rw [← k.length]
  refine w.mono (fun H e => .of (e _ _ h)) fun i H x H' hi e y => ?_
  obtain ⟨d, hd, ad⟩ := k.getV y.2
  exact ⟨d, hd, .inl ⟨y.1, ad⟩⟩
theorem it_str {z : Str} : ItOk K Z F (Its z) (z.cps.toList.map fun c => .str ⟨#[c]⟩) := by
  have w : Walk (Its z) z.cps.size (fun _ => True) _ := walk_str
  unfold ItOk
  rw [List.length_map, Array.length_toList]
  refine w.mono (fun H e => trivial) fun i H x H' hi e y => ?_
  obtain ⟨y1, c, hc, rfl⟩ := y
  exact ⟨_, by rw [List.getElem?_map, Array.getElem?_toList, hc]; rfl, .inl ⟨y1, .str _⟩⟩
theorem numd_length (xs : List D) : (numd xs).length = xs.length := by unfold numd; rw [List.length_map, List.length_zipIdx]
theorem numd_get {xs : List D} {i : Nat} {d : D} (h : xs[i]? = some d) : (numd xs)[i]? = some (.tup [.int (i : Nat), d]) := by
  unfold numd
  rw [List.getElem?_map, List.getElem?_zipIdx, h]
  simp
theorem it_enumL {a : Addr} {vs : List V} {ds : List D} (h : F a = some (.lst vs)) (k : AtAll K F Z vs ds) : ItOk K Z F (Ite K a) (numd ds) := by
  have w : Walk (Ite K a) vs.length (fun H => SqL K H a vs) (YPair (fun i => some (.int (i : Nat))) (fun i => vs[i]?)) := walk_enum
  unfold ItOk
  rw [numd_length, ← k.length]
  refine w.mono (fun H e => .of (e _ _ h)) fun i H x H' hi e y => ?_
  obtain ⟨T, p, q, e1, e2, e3, e4, e5⟩ := y
  cases e4
  obtain ⟨d, hd, ad⟩ := k.getV e5
  exact ⟨_, numd_get hd, .inr ⟨T, _, _, _, _, e1, e2, e3, rfl, .int _, ad⟩⟩
theorem it_enumT {a : Addr} {vs : List V} {ds : List D} (h : F a = some (.tup vs)) (k : AtAll K F Z vs ds) : ItOk K Z F (ItET K a) (numd ds) := by
  refine ⟨fun i H hi e => ?_, fun H e => ?_, fun i H x H' hi e y => ?_⟩
  · rw [numd_length, ← k.length] at hi
    exact ⟨vs, vs[i], .of (e _ _ h), by rw [List.getElem?_eq_getElem hi]⟩
  · exact ⟨vs, .of (e _ _ h), by rw [numd_length, ← k.length]⟩
  · obtain ⟨T, q, e1, e2, e3, e4⟩ := y
    obtain ⟨d, hd, ad⟩ := k.getV (e4 vs (.of (e _ _ h)))
    exact ⟨_, numd_get hd, .inr ⟨T, _, _, _, _, e1, e2, e3, rfl, .int _, ad⟩⟩
def rangeD (lo : Int) (n : Nat) : List D := (List.range n).map fun i => .int (lo + (i : Nat))
theorem it_range {lo : Int} {n : Nat} : ItOk K Z F (Itr lo n) (rangeD lo n) := by
  have w : Walk (Itr lo n) n (fun _ => True) (YFn fun i => .int (lo + i)) := walk_range
  unfold ItOk rangeD
  rw [List.length_map, List.length_range]
  refine w.mono (fun H e => trivial) fun i H x H' hi e y => ?_
  obtain ⟨y1, rfl⟩ := y
  exact ⟨_, by rw [List.getElem?_map, List.getElem?_range hi]; rfl, .inl ⟨y1, .int _⟩⟩
end
section
variable {X : Cx} {W : WX} {tg e : Expr} {me : EM}
theorem di_any (he : PE X e (tE X.K W me)) : PI X tg e (tI X.K W (iOf itemsF me)) := pi_weak (pi_any he) fun σ H R ⟨F, Z, ρ, s, hs, he, hd, h⟩ => by
  refine tE_then hs he hd h fun x s1 F1 H1 v1 e1 he1 hd1 a1 h => ?_
  obtain ⟨g, hg, k⟩ := post_now h
  cases a1 with
  | lst h1 k1 => cases hg; exact .inl ⟨_, _, rfl, .of (e1.fh _ _ h1), k F1 H1 _ (Ext.refl e1.fh) hd1 (it_list h1 k1)⟩
  | tup h1 k1 => cases hg; exact .inr (.inl ⟨_, _, rfl, .of (e1.fh _ _ h1), k F1 H1 _ (Ext.refl e1.fh) hd1 (it_tup h1 k1)⟩)
  | str z => cases hg; exact .inr (.inr ⟨_, rfl, k F1 H1 _ (Ext.refl e1.fh) hd1 it_str⟩)
  | _ => cases hg
theorem di_enum {p pos tpos : Pos} {elts : List Expr} {kk : Nat} (hg : Gl X "enumerate") (hm : X.mg "enumerate" = none) (he : PE X e (tE X.K W me)) (hs : starEach [e] X.env = [(false, eval e X.env)] := by rfl) :
    PI X (.Tuple elts kk tpos) (.Call (.Name "enumerate" p) [e] [] pos) (tI X.K W (iOf numdF me)) := pi_weak (pi_enumG hg hm he hs) fun σ H R ⟨F, Z, ρ, s, hs, he, hd, h⟩ => by
  refine tE_then hs he hd h fun x s1 F1 H1 v1 e1 he1 hd1 a1 h => ?_
  obtain ⟨g, hg, k⟩ := post_now h
  cases a1 with
  | lst h1 k1 => cases hg; exact .inl ⟨_, _, rfl, .of (e1.fh _ _ h1), k F1 H1 _ (Ext.refl e1.fh) hd1 (it_enumL h1 k1)⟩
  | tup h1 k1 => cases hg; exact .inr ⟨_, _, rfl, .of (e1.fh _ _ h1), k F1 H1 _ (Ext.refl e1.fh) hd1 (it_enumT h1 k1)⟩
  | _ => cases hg
def rng1F : List D → Option (List D)
  | [.int j] => if -(2 ^ 62) ≤ j ∧ j < 2 ^ 62 then some (rangeD 0 j.toNat) else none
  | _ => none
def rng2F : List D → Option (List D)
  | [.int i, .int j] => if -(2 ^ 62) ≤ i ∧ i < 2 ^ 62 ∧ -(2 ^ 62) ≤ j ∧ j < 2 ^ 62 then some (rangeD i (j - i).toNat) else none
  | _ => none
def iOfA (f : List D → Option (List D)) (m : AM) : AM := fun ρ s => (m ρ s).bind fun d s1 => lift (f d) s1
theorem di_rng1 {a : Expr} {ma : AM} {p pos : Pos} (hg : Gl X "range") (hm : X.mg "range" = none) (ha : PA X [a] (tA X.K W ma)) (hs : starEach [a] X.env = [(false, eval a X.env)] := by rfl) : PI X tg (.Call (.Name "range" p) [a] [] pos) (tI X.K W (iOfA rng1F ma)) :=
  pi_weak (pi_range1 hg hm ha hs) fun σ H R ⟨F, Z, ρ, s, hs, he, hd, h⟩ => by
  refine tA_then hs he hd h fun x s1 F1 H1 v1 e1 he1 hd1 a1 h => ?_
  obtain ⟨g, hg, k⟩ := post_now h
  unfold rng1F at hg
  split at hg
  · split at hg
    · rename_i hz
      cases hg
      obtain ⟨w, rfl, aw⟩ := one_inv a1
      cases aw
      exact ⟨_, rfl, hz.1, hz.2, k F1 H1 _ (Ext.refl e1.fh) hd1 it_range⟩
    · cases hg
  · cases hg
theorem di_rng2 {a b : Expr} {ma : AM} {p pos : Pos} (hg : Gl X "range") (hm : X.mg "range" = none) (ha : PA X [a, b] (tA X.K W ma)) (hs : starEach [a, b] X.env = [(false, eval a X.env), (false, eval b X.env)] := by rfl) (hs2 : starEach [b] X.env = [(false, eval b X.env)] := by rfl) :
    PI X tg (.Call (.Name "range" p) [a, b] [] pos) (tI X.K W (iOfA rng2F ma)) := pi_weak (pi_range2 hg hm ha hs hs2) fun σ H R ⟨F, Z, ρ, s, hs, he, hd, h⟩ => by
  refine tA_then hs he hd h fun x s1 F1 H1 v1 e1 he1 hd1 a1 h => ?_
  obtain ⟨g, hg, k⟩ := post_now h
  unfold rng2F at hg
  split at hg
  · split at hg
    · rename_i hz
      cases hg
      obtain ⟨w, u, rfl, aw, au⟩ := two_inv a1
      cases aw
      cases au
      exact ⟨_, _, rfl, hz, k F1 H1 _ (Ext.refl e1.fh) hd1 it_range⟩
    · cases hg
  · cases hg
end
end FL
set_option Elab.async false
set_option linter.all false
set_option maxRecDepth 100000
set_option maxHeartbeats 1000000
/-! ## FL, 6: for, comprehensions, defs and their calls -/
namespace FL
open PySem PySem.Spec PyProof.Rows L2

/-! ### targets -/
def TgD (K : PySem.W.Frag) (g : TG) (bnd : D → Sls → Option Sls) : Prop := ∀ (Z : Option Zt) (F0 H0 F H : Hp) (σ : L2.St) (ρ ρ' : Sls) (s : S) (v : V) (d : D) (Q : L2.St → Hp → Prop),
  At0 K Z F0 H0 F H σ ρ s → At K F Z v d → bnd d ρ = some ρ' → (∀ σ', At0 K Z F0 H0 F H σ' ρ' s → Q σ' H) → g v σ H Q
def b1 (i : Nat) : D → Sls → Option Sls := fun d ρ => some (ρ.set i (some (.dat d)))
theorem tgd_name {K : PySem.W.Frag} (i : Nat) : TgD K (gName i) (b1 i) := fun Z F0 H0 F H σ ρ ρ' s v d Q a av e k => by
  cases e
  exact k _ (a.setD av)
def bs : List Nat → List D → Sls → Option Sls
  | [], [], ρ => some ρ
  | i :: is, d :: ds, ρ => bs is ds (ρ.set i (some (.dat d)))
  | _, _, _ => none
def gs : List Nat → TGs
  | [] => gNil
  | i :: is => gCons (gName i) (gs is)
theorem gs_run {K : PySem.W.Frag} {Z : Option Zt} {F0 H0 F H : Hp} {s : S} {Q : L2.St → Hp → Prop} : ∀ {is : List Nat} {ds : List D} {vs : List V} {σ : L2.St} {ρ ρ' : Sls}, At0 K Z F0 H0 F H σ ρ s → AtAll K F Z vs ds → bs is ds ρ = some ρ' →
    (∀ σ', At0 K Z F0 H0 F H σ' ρ' s → Q σ' H) → gs is vs σ H Q
  | [], [], vs, σ, ρ, ρ', a, av, e, k => by
    cases av
    cases e
    exact ⟨rfl, k _ a⟩
  | i :: is, d :: ds, vs, σ, ρ, ρ', a, av, e, k => by
    cases av with
    | cons h t => exact ⟨_, _, rfl, gs_run (a.setD h) t e k⟩
  | [], _ :: _, _, _, _, _, _, _, e, _ => by cases e
  | _ :: _, [], _, _, _, _, _, _, e, _ => by cases e
theorem bs_len : ∀ {is : List Nat} {ds : List D} {ρ ρ' : Sls}, bs is ds ρ = some ρ' → ds.length = is.length
  | [], [], _, _, _ => rfl
  | _ :: _, _ :: _, _, _, e => congrArg (· + 1) (bs_len e)
  | [], _ :: _, _, _, e => by cases e
  | _ :: _, [], _, _, e => by cases e
def bT (is : List Nat) : D → Sls → Option Sls := fun d ρ => match d with
  | .tup ds => bs is ds ρ
  | _ => none
theorem tgd_tup {K : PySem.W.Frag} (is : List Nat) : TgD K (gTup K is.length (gs is)) (bT is) := fun Z F0 H0 F H σ ρ ρ' s v d Q a av e k => by
  cases d with
  | tup ds =>
    have e : bs is ds ρ = some ρ' := e
    cases av with
    | tup h1 k1 => exact ⟨_, _, rfl, .of (a.ext.fh _ _ h1), by rw [k1.length, bs_len e], gs_run a k1 e k⟩
  | _ => cases e

/-! ### for -/
def forL (bnd : D → Sls → Option Sls) (body : SM) : List D → Sls → S → RS
  | [], ρ, s => .nx ρ s
  | d :: ds, ρ, s => match bnd d ρ with
    | none => .bad
    | some ρ1 => match body ρ1 s with
      | .nx ρ2 s2 => forL bnd body ds ρ2 s2
      | .ct ρ2 s2 => forL bnd body ds ρ2 s2
      | .bk ρ2 s2 => .nx ρ2 s2
      | .rt d s2 => .rt d s2
      | .ex C fs ρ2 s2 => .ex C fs ρ2 s2
      | .bad => .bad
def sFor (bnd : D → Sls → Option Sls) (mi : AM) (body : SM) : SM := fun ρ s => after (runA mi ρ s) ρ fun ds s' => forL bnd body ds ρ s'
/-- what the walk gives is frozen as it comes -/
theorem yd_step {K : PySem.W.Frag} {Z : Option Zt} {F0 F H H' : Hp} {ds : List D} {i : Nat} {x : V} (h0 : Same F0 F) (hs : Same F H) (y : YD K Z F0 ds i H x H') : ∃ d F', ds[i]? = some d ∧ Ext Z F H F' H' ∧ At K F' Z x d ∧ ∀ a o, H a = some o → H' a = some o := by
  obtain ⟨d, hd, ⟨rfl, a⟩ | ⟨T, p, q, va, vb, rfl, hT, rfl, rfl, a1, a2⟩⟩ := y
  · exact ⟨d, F, hd, Ext.refl hs, a.mono h0, fun _ _ e => e⟩
  · refine ⟨_, upd F T (.tup [va, vb]), hd, Ext.new hs hT, .tup upd_same ?_, fun a o e => by rw [upd_ne (ne_of_none e hT)]; exact e⟩
    have m : Same F0 (upd F T (.tup [va, vb])) := h0.trans fun a o e => by rw [upd_ne (ne_of_none e (hs.free hT))]; exact e
    exact .cons (a1.mono m) (.cons (a2.mono m) .nil)
section
variable {K : PySem.W.Frag} {W : WX} {Z : Option Zt} {F0 H0 F1 H1 F H : Hp} {σ : L2.St} {ρ : Sls} {s : S}
/-- from a later moment on -/
theorem Ext.base (a : Ext Z F0 H0 F1 H1) (b : Ext Z F1 H0 F H) : Ext Z F0 H0 F H := ⟨a.f.trans b.f, b.fh, b.h, fun c o e1 e2 => b.n c o (a.n c o e1 e2) e2⟩
theorem At0.now (a : At0 K Z F0 H0 F H σ ρ s) : At0 K Z F H0 F H σ ρ s := ⟨⟨Same.refl F, a.ext.fh, a.ext.h, fun _ _ e _ => e⟩, a.dr, a.sl⟩
theorem post_base {D : Ends} {r : RS} (a : Ext Z F0 H0 F1 H1) (h : PostS K W Z F0 H0 D r) : PostS K W Z F1 H0 D r := by
  cases r with
  | nx ρ s => exact fun F H σ e => h F H σ (a.base e)
  | bk ρ s => exact fun F H σ e => h F H σ (a.base e)
  | ct ρ s => exact fun F H σ e => h F H σ (a.base e)
  | rt d s => exact fun F H v e => h F H v (a.base e)
  | ex C fs ρ s => exact fun F H σ dd e => h F H σ dd (a.base e)
  | bad => exact h
end
section
variable {X : Cx} {W : WX}
theorem ds_for {tg iter : Expr} {body : List Stmt} {mi : AM} {g : TG} {bnd : D → Sls → Option Sls} {mb : SM} {pos : Pos} (hp : PassesOwn (model X.prog X.w) X.A X.env X.xe) (hc : X.calm = true) (hi : PI X tg iter (tI X.K W mi)) (hg : PG X tg g) (hgd : TgD X.K g bnd) (hb : PSs X body (tS X.K W mb))
    (hs : ∀ x, foldedSetIterable iter X.env x = pure x := by intro _; rfl) : PS X (.For tg iter body [] pos) (tS X.K W (sFor bnd mi mb)) := ps_weak (ps_for hp hc hi hg hb hs) fun D σ H ⟨F0, H0, Z, F, ρ, s, a, h⟩ => by
  refine ⟨F, Z, dats ρ, s, a.ext.fh, dats_at a.sl, a.dr, after_post a h fun ds s' F' H' J a' _ w p => ?_⟩
  have w : Walk J ds.length (fun H => Same F' H) (YD X.K Z F' ds) := w
  refine for_it w (fun i σ H => ∃ F ρ s, At0 X.K Z F' H0 F H σ ρ s ∧ PostS X.K W Z F' H0 D (forL bnd mb (ds.drop i) ρ s)) ⟨F', ρ, s', a'.now, post_base a'.ext p⟩ (fun i σ H _ ⟨F, _, _, b, _⟩ => b.ext.f.trans b.ext.fh) ?_ ?_
  · rintro i x σ1 H1 H2 hi ⟨F1, ρ1, s1, b, p⟩ y
    obtain ⟨d, F2, hd, ex, ad, keep⟩ := yd_step b.ext.f b.ext.fh y
    have hdrop : ds.drop i = d :: ds.drop (i + 1) := by
      rw [List.drop_eq_getElem_cons hi]
      rw [List.getElem?_eq_getElem hi] at hd
      cases hd
      rfl
    rw [hdrop] at p
    unfold forL at p
    have b2 := b.go ex (b.dr.keep ex keep)
    cases q : bnd d ρ1 with
    | none => rw [q] at p; exact p.elim
    | some ρ2 =>
      rw [q] at p
      dsimp only at p
      refine hgd Z F' H0 F2 H2 σ1 ρ1 ρ2 s1 x d _ b2 ad q fun σ2 b3 => ?_
      refine ⟨F', H0, Z, F2, ρ2, s1, b3, ?_⟩
      cases r : mb ρ2 s1 with
      | nx ρ3 s3 => rw [r] at p; exact fun F3 H3 σ3 e3 d3 l3 => ⟨F3, ρ3, s3, ⟨e3, d3, l3⟩, p⟩
      | ct ρ3 s3 => rw [r] at p; exact fun F3 H3 σ3 e3 d3 l3 => ⟨F3, ρ3, s3, ⟨e3, d3, l3⟩, p⟩
      | bk ρ3 s3 => rw [r] at p; exact p
      | rt d3 s3 => rw [r] at p; exact p
      | ex C fs ρ3 s3 => rw [r] at p; exact p
      | bad => rw [r] at p; exact p
  · rintro σ1 H1 ⟨F1, ρ1, s1, b, p⟩
    rw [List.drop_length] at p
    exact post_nx p b
end
/-! ### [e for x in xs if t] -/
def wipeE (ρ : Env) : List Nat → Env
  | [] => ρ
  | v :: vs => (wipeE ρ vs).set v none
theorem wipeE_at {K : PySem.W.Frag} {Z : Option Zt} {F : Hp} {σ : L2.St} {ρ : Env} (h : EnvAt K F Z σ ρ) : ∀ vs : List Nat, EnvAt K F Z (wipe σ vs) (wipeE ρ vs)
  | [] => h
  | v :: vs => fun i d e => by
    unfold wipeE at e
    have hi : v ≠ i := fun z => by
      subst z
      by_cases hv : v < (wipeE ρ vs).length
      · rw [List.getElem?_set_self hv] at e; cases e
      · rw [List.getElem?_eq_none (by simpa using hv)] at e; cases e
    rw [List.getElem?_set_ne hi] at e
    obtain ⟨w, h1, h2⟩ := wipeE_at h vs i d e
    refine ⟨w, ?_, h2⟩
    unfold wipe
    rw [List.getElem?_set_ne hi]
    exact h1
theorem wipe_get {σ : L2.St} {i : Nat} : ∀ {vs : List Nat}, i ∈ vs → i < σ.length → (wipe σ vs)[i]? = some none
  | v :: vs, h, hl => by
    unfold wipe
    by_cases z : v = i
    · subst z
      rw [List.getElem?_set_self (by rw [wipe_length]; exact hl)]
    · rw [List.getElem?_set_ne z]
      exact wipe_get ((List.mem_cons.mp h).resolve_left (Ne.symm z)) hl
theorem wipe_not {σ : L2.St} {i : Nat} : ∀ {vs : List Nat}, i ∉ vs → (wipe σ vs)[i]? = σ[i]?
  | [], _ => rfl
  | v :: vs, h => by
    unfold wipe
    rw [List.getElem?_set_ne fun z => h (by rw [z]; exact List.mem_cons_self)]
    exact wipe_not fun z => h (List.mem_cons_of_mem _ z)
/-- slots that differ at the block's own names alone are wiped alike -/
theorem wipe_alike {σ τ : L2.St} {vs : List Nat} (hl : τ.length = σ.length) (h : ∀ i, i ∉ vs → τ[i]? = σ[i]?) : wipe τ vs = wipe σ vs := by
  apply List.ext_getElem?
  intro i
  by_cases hi : i ∈ vs
  · by_cases hz : i < σ.length
    · rw [wipe_get hi hz, wipe_get hi (by rw [hl]; exact hz)]
    · rw [List.getElem?_eq_none (by rw [wipe_length]; omega), List.getElem?_eq_none (by rw [wipe_length]; omega)]
  · rw [wipe_not hi, wipe_not hi, h i hi]
/-- a block's target -/
def TgE (K : PySem.W.Frag) (vs : List Nat) (g : TG) (bnd : D → Env → Option Env) : Prop := ∀ (Z : Option Zt) (F H : Hp) (σ : L2.St) (ρ ρ' : Env) (v : V) (d : D) (Q : L2.St → Hp → Prop),
  Same F H → EnvAt K F Z σ ρ → At K F Z v d → bnd d ρ = some ρ' → ρ.length ≤ σ.length → (∀ σ', EnvAt K F Z σ' ρ' → σ'.length = σ.length → ρ'.length = ρ.length → (∀ i, i ∉ vs → σ'[i]? = σ[i]?) → Q σ' H) → g v σ H Q
def c1 (i : Nat) : D → Env → Option Env := fun d ρ => some (ρ.set i (some d))
theorem EnvAt.set {K : PySem.W.Frag} {Z : Option Zt} {F : Hp} {σ : L2.St} {ρ : Env} {i : Nat} {v : V} {d : D} (h : EnvAt K F Z σ ρ) (a : At K F Z v d) (hl : ρ.length ≤ σ.length) : EnvAt K F Z (σ.set i (some v)) (ρ.set i (some d)) := fun j e q => by
  by_cases z : i = j
  · subst z
    have hi : i < ρ.length := by
      rw [← List.length_set]
      exact (List.getElem?_eq_some_iff.mp q).1
    rw [List.getElem?_set_self hi] at q
    cases q
    exact ⟨v, List.getElem?_set_self (Nat.lt_of_lt_of_le hi hl), a⟩
  · rw [List.getElem?_set_ne z] at q
    obtain ⟨w, h1, h2⟩ := h j e q
    exact ⟨w, by rw [List.getElem?_set_ne z]; exact h1, h2⟩
theorem tge_name {K : PySem.W.Frag} (i : Nat) : TgE K [i] (gName i) (c1 i) := fun Z F H σ ρ ρ' v d Q _ he a e hl k => by
  cases e
  exact k _ (he.set a hl) (List.length_set ..) (List.length_set ..) fun j hj => by
    rw [List.getElem?_set_ne fun z => hj (by rw [z]; exact List.mem_cons_self)]
def cs : List Nat → List D → Env → Option Env
  | [], [], ρ => some ρ
  | i :: is, d :: ds, ρ => cs is ds (ρ.set i (some d))
  | _, _, _ => none
theorem cs_len : ∀ {is : List Nat} {ds : List D} {ρ ρ' : Env}, cs is ds ρ = some ρ' → ds.length = is.length
  | [], [], _, _, _ => rfl
  | _ :: _, _ :: _, _, _, e => congrArg (· + 1) (cs_len e)
  | [], _ :: _, _, _, e => by cases e
  | _ :: _, [], _, _, e => by cases e
theorem gs_runE {K : PySem.W.Frag} {Z : Option Zt} {F H : Hp} {Q : L2.St → Hp → Prop} : ∀ {is : List Nat} {ds : List D} {vs : List V} {σ : L2.St} {ρ ρ' : Env}, EnvAt K F Z σ ρ → AtAll K F Z vs ds → cs is ds ρ = some ρ' → ρ.length ≤ σ.length →
    (∀ σ', EnvAt K F Z σ' ρ' → σ'.length = σ.length → ρ'.length = ρ.length → (∀ i, i ∉ is → σ'[i]? = σ[i]?) → Q σ' H) → gs is vs σ H Q
  | [], [], vs, σ, ρ, ρ', a, av, e, hl, k => by
    cases av
    cases e
    exact ⟨rfl, k _ a rfl rfl fun _ _ => rfl⟩
  | i :: is, d :: ds, vs, σ, ρ, ρ', a, av, e, hl, k => by
    cases av with
    | cons h t =>
      refine ⟨_, _, rfl, gs_runE (a.set h hl) t e (by rw [List.length_set, List.length_set]; exact hl) fun σ' q1 q2 q3 q4 => k σ' q1 (by rw [q2, List.length_set]) (by rw [q3, List.length_set]) fun j hj => ?_⟩
      rw [q4 j fun z => hj (List.mem_cons_of_mem _ z), List.getElem?_set_ne fun z => hj (by rw [z]; exact List.mem_cons_self)]
  | [], _ :: _, _, _, _, _, _, _, e, _, _ => by cases e
  | _ :: _, [], _, _, _, _, _, _, e, _, _ => by cases e
def cT (is : List Nat) : D → Env → Option Env := fun d ρ => match d with
  | .tup ds => cs is ds ρ
  | _ => none
theorem tge_tup {K : PySem.W.Frag} (is : List Nat) : TgE K is (gTup K is.length (gs is)) (cT is) := fun Z F H σ ρ ρ' v d Q hs he a e hl k => by
  cases d with
  | tup ds =>
    have e : cs is ds ρ = some ρ' := e
    cases a with
    | tup h1 k1 => exact ⟨_, _, rfl, .of (hs _ _ h1), by rw [k1.length, cs_len e], gs_runE he k1 e hl k⟩
  | _ => cases e
/-- nothing is raised within a block -/
def W0 : WX := fun _ _ _ _ => False
def lcL (bnd : D → Env → Option Env) (mt : TM) (me : EM) (ρ : Env) : List D → S → RE (List D)
  | [], s => .ok [] s
  | d :: ds, s => match bnd d ρ with
    | none => .bad
    | some ρ1 => match mt ρ1 s with
      | .ok true s1 => match me ρ1 s1 with
        | .ok x s2 => (lcL bnd mt me ρ ds s2).bind fun xs s3 => .ok (x :: xs) s3
        | _ => .bad
      | .ok false s1 => lcL bnd mt me ρ ds s1
      | _ => .bad
def lcR (r : RE (List D)) : RE D := match r with
  | .ok xs s => if xs.length ≤ sizeLine then .ok (.lst xs) s else .bad
  | _ => .bad
def eLc (vs : List Nat) (n : Nat) (bnd : D → Env → Option Env) (mi : AM) (mt : TM) (me : EM) : EM := fun ρ s => if ρ.length ≤ n then (mi ρ s).bind fun ds s1 => lcR (lcL bnd mt me (wipeE ρ vs) ds s1) else .bad
def tYesD : TM := fun _ s => .ok true s
section
variable {X : Cx} {W : WX}
theorem dt_yes : PTs X [] (tT X.K W0 tYesD) := ⟨fun pins s σ H Q I h => pts_nil.run pins s σ H Q I (by
  obtain ⟨F, Z, ρ, s', hs, he, hd, h⟩ := h
  exact h F H _ (Ext.refl hs) hd rfl)⟩
theorem dt_one {c : Expr} {tc : TM} (h : PT X c (tT X.K W0 tc)) : PTs X [c] (tT X.K W0 tc) := pts_one h
theorem lc_read {vs : List Nat} {bnd : D → Env → Option Env} {mi : AM} {mt : TM} {me : EM} {g : TG} (hgd : TgE X.K vs g bnd) {σ : L2.St} {H : Hp} {Q : VK} (hlen : σ.length = X.N.length) (h : tE X.K W (eLc vs X.N.length bnd mi mt me) σ H Q) :
    tLc (tI X.K W mi) g (tT X.K W0 mt) (tE X.K W0 me) vs σ H Q := by
  obtain ⟨F, Z, ρ, s, hs, he, hd, h⟩ := h
  unfold eLc at h
  split at h
  · rename_i hn
    refine ⟨F, Z, ρ, s, hs, he, hd, post_bind h fun ds s1 F1 H1 J e1 hd1 w h => ?_⟩
    have w : Walk J ds.length (fun H => Same F1 H) (YD X.K Z F1 ds) := w
    have hev := wipeE_at (he.mono e1.f) vs
    have hwl : ∀ (ρ : Env) (us : List Nat), (wipeE ρ us).length = ρ.length := fun ρ us => by
      induction us with
      | nil => rfl
      | cons u us ih => unfold wipeE; rw [List.length_set, ih]
    intro L hL
    -- behind i turns: the frozen part F2 has grown from F1, the new list at L holds acc, what is left gives the rest
    refine lc_it w (fun i H => ∃ F2 s2 accV acc, Ext Z F1 H1 F2 H ∧ DrAt Z F2 H s2 ∧ H L = some (.lst accV) ∧ F2 L = none ∧ AtAll X.K F2 Z accV acc ∧
      ∃ xs s3, lcL bnd mt me (wipeE ρ vs) (ds.drop i) s2 = .ok xs s3 ∧ (acc ++ xs).length ≤ sizeLine ∧ ∀ F' H' v, Ext Z F1 H1 F' H' → DrAt Z F' H' s3 → At X.K F' Z v (.lst (acc ++ xs)) → Q v H') ?_ (fun i H _ ⟨F2, _, _, _, b, _⟩ => b.f.trans b.fh) ?_ ?_
    · have fL : F1 L = none := e1.fh.free hL
      refine ⟨F1, s1, [], [], Ext.newH e1.fh hL, hd1.newH e1.fh hL, upd_same, fL, .nil, ?_⟩
      · unfold lcR at h
        cases q : lcL bnd mt me (wipeE ρ vs) ds s1 with
        | bad => rw [q] at h; exact h.elim
        | ex C fs s3 => rw [q] at h; exact h.elim
        | ok xs s3 =>
          rw [q] at h
          dsimp only at h
          split at h
          · rename_i hz
            exact ⟨xs, s3, by rw [List.drop_zero]; exact q, hz, h⟩
          · exact h.elim
    · rintro i x H2 H3 hi ⟨F2, s2, accV, acc, b, hd2, hL2, fL, aacc, xs, s3, hrun, hz, k⟩ y
      obtain ⟨d, F3, hdd, ex, ad, keep⟩ := yd_step b.f b.fh y
      have hdrop : ds.drop i = d :: ds.drop (i + 1) := by
        rw [List.drop_eq_getElem_cons hi]
        rw [List.getElem?_eq_getElem hi] at hdd
        cases hdd
        rfl
      rw [hdrop] at hrun
      unfold lcL at hrun
      have fL3 : F3 L = none := ex.n L _ fL hL2
      have hL3 : H3 L = some (.lst accV) := keep _ _ hL2
      have hd3 := hd2.keep ex keep
      cases q : bnd d (wipeE ρ vs) with
      | none => rw [q] at hrun; cases hrun
      | some ρ1 =>
        rw [q] at hrun
        dsimp only at hrun
        have hlw : (wipeE ρ vs).length ≤ (wipe σ vs).length := by rw [hwl, wipe_length, hlen]; exact hn
        refine hgd Z F3 H3 (wipe σ vs) (wipeE ρ vs) ρ1 x d _ ex.fh (hev.mono (b.f.trans ex.f)) ad q hlw fun σ2 he2 hl2 hr2 hne => ?_
        refine ⟨?_, ?_⟩
        · refine wipe_alike hl2 hne |>.trans ?_
          refine wipe_alike (wipe_length _ _) fun j hj => wipe_not hj
        · cases r : mt ρ1 s2 with
          | bad => rw [r] at hrun; cases hrun
          | ex C fs s4 => rw [r] at hrun; cases hrun
          | ok bb s4 =>
            rw [r] at hrun
            refine ⟨F3, Z, ρ1, s2, ex.fh, he2, hd3, ?_⟩
            rw [r]
            intro F4 H4 bv ex4 hd4 hb
            subst hb
            have fL4 : F4 L = none := ex4.n L _ fL3 hL3
            obtain ⟨oL, hL4, hsame⟩ := ex4.h L _ hL3
            have nDr : ¬ DrA Z L := fun z => by
              cases Z with
              | none => exact z
              | some z' =>
                obtain ⟨_, d2, d3, _⟩ := hd1.1
                rcases z with z | z
                · rw [← z, hL] at d2; cases d2
                · rw [← z, hL] at d3; cases d3
            cases hsame nDr (.inr fun ps z => by cases z)
            cases bv with
            | false =>
              rw [if_neg Bool.false_ne_true]
              exact ⟨F4, s4, accV, acc, (b.trans ex).trans ex4, hd4, hL4, fL4, (aacc.mono ex.f).mono ex4.f, xs, s3, hrun, hz, k⟩
            | true =>
              rw [if_pos rfl]
              dsimp only at hrun
              cases t : me ρ1 s4 with
              | bad => rw [t] at hrun; cases hrun
              | ex C fs s5 => rw [t] at hrun; cases hrun
              | ok z s5 =>
                rw [t] at hrun
                dsimp only at hrun
                cases u : lcL bnd mt me (wipeE ρ vs) (ds.drop (i + 1)) s5 with
                | bad => rw [u] at hrun; cases hrun
                | ex C fs s6 => rw [u] at hrun; cases hrun
                | ok ys s6 =>
                  rw [u] at hrun
                  have hrun : RE.ok (z :: ys) s6 = .ok xs s3 := hrun
                  cases hrun
                  refine ⟨F4, Z, ρ1, s4, ex4.fh, he2.mono ex4.f, hd4, ?_⟩
                  rw [t]
                  intro F5 H5 v ex5 hd5 av
                  have fL5 : F5 L = none := ex5.n L _ fL4 hL4
                  obtain ⟨oL, hL5, hsame⟩ := ex5.h L _ hL4
                  cases hsame nDr (.inr fun ps z => by cases z)
                  have aacc5 := ((aacc.mono ex.f).mono ex4.f).mono ex5.f
                  refine ⟨accV, hL5, ?_, F5, s5, accV ++ [v], acc ++ [z], ?_, ?_, upd_same, fL5, aacc5.append (.cons av .nil), ys, _, u, ?_, ?_⟩
                  · rw [aacc5.length]
                    rw [List.length_append, List.length_cons] at hz
                    omega
                  · have b5 := ((b.trans ex).trans ex4).trans ex5
                    refine ⟨b5.f, fun a o e => ?_, fun a o e => ?_, b5.n⟩
                    · rw [upd_ne fun z => by rw [z, fL5] at e; cases e]
                      exact b5.fh a o e
                    · rw [upd_ne fun z => by rw [z, hL] at e; cases e]
                      exact b5.h a o e
                  · exact hd5.chgL hL5 nDr
                  · rw [List.append_assoc]; exact hz
                  · rw [List.append_assoc]; exact k
    · rintro H2 ⟨F2, s2, accV, acc, b, hd2, hL2, fL, aacc, xs, s3, hrun, hz, k⟩
      rw [List.drop_length] at hrun
      have hrun : RE.ok [] s2 = .ok xs s3 := hrun
      cases hrun
      rw [List.append_nil] at k
      have sF : Same F2 (upd F2 L (.lst accV)) := fun a o e => by rw [upd_ne fun z => by rw [z, fL] at e; cases e]; exact e
      refine k (upd F2 L (.lst accV)) H2 _ ⟨b.f.trans sF, fun a o e => ?_, b.h, fun a o e1' e2 => ?_⟩ ?_ (.lst upd_same (aacc.mono sF))
      · by_cases hz2 : a = L
        · subst hz2
          rw [upd_same] at e
          rw [hL2]
          exact e
        · rw [upd_ne hz2] at e
          exact b.fh a o e
      · rw [upd_ne fun z => by rw [z, hL] at e2; cases e2]
        exact b.n a o e1' e2
      · exact hd2.frzL fL hL2 (hd1.nDr hL)
  · exact h.elim
theorem de_lc {elt tg iter : Expr} {ifs : List Expr} {scope : Scope} {own : List (Str × Nat)} {pos : Pos} {bnd : D → Env → Option Env} {mi : AM} {mt : TM} {me : EM} {g : TG} (h : PE X (.ListComp elt [⟨tg, iter, ifs, 0⟩] scope pos) (tLc (tI X.K W mi) g (tT X.K W0 mt) (tE X.K W0 me) (own.map (·.2))))
    (hgd : TgE X.K (own.map (·.2)) g bnd) : PE X (.ListComp elt [⟨tg, iter, ifs, 0⟩] scope pos) (tE X.K W (eLc (own.map (·.2)) X.N.length bnd mi mt me)) :=
  ⟨fun pins s σ H Q I q => h.run pins s σ H Q I (lc_read hgd I.len q)⟩
end
end FL
set_option Elab.async false
set_option linter.all false
set_option maxRecDepth 100000
set_option maxHeartbeats 1000000
/-! ## FL, 7: defs by content, and their calls -/
namespace FL
open PySem PySem.Spec PyProof.Rows L2
/-- what a def is worth: arguments and the draw in, a value (or an exception) and the draw out -/
abbrev FM := List D → S → RE D
def spD (K : PySem.W.Frag) (mf : FM) : Sp := fun vs H Q E => ∃ F Z ds s, Same F H ∧ AtAll K F Z vs ds ∧ DrAt Z F H s ∧ PostE K (fun c dd _ H => E c dd H) Z F H [] (mf ds s) Q
/-- room, and no repr around -/
structure Rm (k : Nat) (A : Around) : Prop where
  r : Room k A
  g : A.guards = some []
theorem Rm.mono {j k : Nat} {A : Around} (r : Rm k A) (h : j ≤ k) : Rm j A := ⟨r.r.mono h, r.g⟩
theorem Rm.deeper {k : Nat} {A : Around} (r : Rm (k + 1) A) (env : PySem.Env) : Rm k (A.deeper env) := ⟨r.r.deeper env, r.g⟩
/-- the def at f is worth mf, with room for k calls -/
structure FnG (P : Program) (w : World) (K : PySem.W.Frag) (mg : Str → Option Value) (base : Heap) (k : Nat) (f : Addr) (fd : FuncData) (ps : List Str) (mf : FM) : Prop where
  len : ∀ ds s, ds.length ≠ ps.length → mf ds s = .bad
  go : ∀ (A : Around) (outer : List PySem.Env) (s : Shared) (H : Hp) (args : Args) (us : List Value) (vs : List V) (Q : VK) (E : XK), Rm k A → Env0 P w K mg base A outer s H → BindsTo s fd args (ps.zip us) → Vals vs us → spD K mf vs H Q E →
    codeAny (model P w) A (.call (.ref f) args) (CR (L2.CX P w) outer P w H s Q E) s
theorem FnG.mono {P : Program} {w : World} {K : PySem.W.Frag} {mg : Str → Option Value} {base : Heap} {j k : Nat} {f : Addr} {fd : FuncData} {ps : List Str} {mf : FM} (G : FnG P w K mg base j f fd ps mf) (h : j ≤ k) : FnG P w K mg base k f fd ps mf :=
  ⟨G.len, fun A outer s H args us vs Q E r => G.go A outer s H args us vs Q E (r.mono h)⟩
theorem sp_len {P : Program} {w : World} {K : PySem.W.Frag} {mg : Str → Option Value} {base : Heap} {k : Nat} {f : Addr} {fd : FuncData} {ps : List Str} {mf : FM} (G : FnG P w K mg base k f fd ps mf) {vs : List V} {H : Hp} {Q : VK} {E : XK} (h : spD K mf vs H Q E) : vs.length = ps.length := by
  obtain ⟨F, Z, ds, s, _, a, _, p⟩ := h
  by_cases e : ds.length = ps.length
  · rw [a.length]; exact e
  · rw [G.len ds s e] at p
    exact p.elim
/-- from a body to what the def is worth -/
def fnOf (n np : Nat) (mb : SM) : FM := fun ds s => if ds.length = np then
    match mb (ds.map (fun d => some (.dat d)) ++ List.replicate (n - np) none) s with
    | .nx _ s' => .ok .non s'
    | .rt d s' => .ok d s'
    | .ex C fs _ s' => .ex C fs s'
    | _ => .bad
  else .bad
section
variable {P : Program} {w : World} {K : PySem.W.Frag} {mg : Str → Option Value} {base : Heap}
/-- THE RULE for a def -/
theorem Fun.okG {x qual : Str} {st : Stmt} {f : Addr} {fd : FuncData} {N ps : List Str} {k : Nat} {mb : SM} (T : L2.Fun K x qual st f fd) (Sc : FnScope N ps (defScope st))
    (hbody : ∀ (cdv : Value) (A : Around) (outer : List PySem.Env) (s : Shared) (H : Hp) (E : XK), Rm k (A.deeper (envOfC qual (defScope st) s.heap.objs.size f cdv)) →
      PSs (cxOf (L2.CX P w) P w K mg base N qual (defScope st) f cdv A outer s H E) (defBody st) (tS K (fun c dd _ H => E c dd H) mb)) :
    FnG P w K mg base (k + 1) f fd ps (fnOf N.length ps.length mb) := by
  obtain ⟨oc, od, kV, doc, pm, an, cdv, ct, osl, rfl, lk, hcd⟩ := T.ex
  refine ⟨fun ds s e => if_neg e, fun A outer s H args us vs Q E hr e0 hbd rv hsp => ?_⟩
  obtain ⟨F, Z, ds, s', hs, av, hd, p⟩ := hsp
  unfold fnOf at p
  by_cases hl : ds.length = ps.length
  · rw [if_pos hl] at p
    have hlv : vs.length = ps.length := by rw [av.length]; exact hl
    have KX : K.In s.heap := e0.mod.kin.keeps fun b ob y => (e0.bs b ob y).1
    have lim : s.heap.NoLimit := e0.mod.nolimit.keeps fun b ob y => (e0.bs b ob y).1
    have kinds : ∀ y ∈ ps.zip us, (defScope st).names.lookup y.1 = some .local ∨ ((defScope st).names.lookup y.1 = some .cell ∧ ((cellsFrom (s.heap.objs.size + 1) (defScope st).names []).lookup y.1).isSome = true) := fun ⟨nm, v⟩ hy => by
      rcases Sc.par nm (List.of_mem_zip hy).1 with q | q
      · exact .inl q
      · exact .inr ⟨q, PySem.W.cellsFrom_some _ _ _ (.inl q)⟩
    refine codeAny_call_function hr.r.depth (KX _ _ lk) rfl Sc.co Sc.gen rfl (PySem.W.codeRec_of KX hcd) (hbd _ _ _ _ ?_)
    refine wpAny_newFunctionEnv_cells Sc.kind kinds fun env2 he2 s1 x2 => ?_
    subst he2
    refine ⟨lim.keeps x2.toInCall.keep, codeAny_func ?_⟩
    have ht := hbody cdv A outer s H E (hr.deeper _)
    have I : Inv (cxOf (L2.CX P w) P w K mg base N qual (defScope st) f cdv A outer s H E) [] (L2.start N vs) H s1 := inv_start Sc hr.r.hd e0 hlv rv x2
    have hN : ps.length ≤ N.length := by
      have q := congrArg List.length Sc.pre
      rw [List.length_take] at q
      omega
    have hq : tS K (fun c dd _ H => E c dd H) mb { nx := fun _ H' => Q .non H', rt := Q } (L2.start N vs) H := by
      refine ⟨F, H, Z, F, ds.map (fun d => some (Sl.dat d)) ++ List.replicate (N.length - ps.length) none, s', ⟨Ext.refl hs, hd, ⟨?_, fun i d q => ?_, fun i xs q => ?_, fun i j xs ys a q1 => ?_⟩⟩, ?_⟩
      · unfold L2.start
        rw [List.length_append, List.length_append, List.length_map, List.length_map, List.length_replicate, List.length_replicate, av.length, hl]
      · unfold L2.start
        by_cases hi : i < ds.length
        · rw [List.getElem?_append_left (by rw [List.length_map]; exact hi), List.getElem?_map] at q
          cases e : ds[i]? with
          | none => rw [e] at q; cases q
          | some d' =>
            rw [e] at q
            cases q
            obtain ⟨v, h1, h2⟩ := av.get e
            exact ⟨v, by rw [List.getElem?_append_left (by rw [List.length_map, av.length]; exact hi), List.getElem?_map, h1]; rfl, h2⟩
        · rw [List.getElem?_append_right (by rw [List.length_map]; omega), List.getElem?_replicate] at q
          split at q <;> cases q
      · exact absurd q owns_start
      · exact absurd q1 owns_start
      · generalize ds.map (fun d => some (Sl.dat d)) ++ List.replicate (N.length - ps.length) none = ρ at p
        cases r : mb ρ s' with
        | nx ρ2 s2 => rw [r] at p; exact fun F2 H2 σ2 ex d2 _ => p F2 H2 _ ex d2 .non
        | rt d s2 => rw [r] at p; exact p
        | ex C fs ρ2 s2 => rw [r] at p; exact fun F2 H2 σ2 dd ex d2 _ xd => p F2 H2 dd ex d2 xd
        | bk _ _ => rw [r] at p; exact p.elim
        | ct _ _ => rw [r] at p; exact p.elim
        | bad => rw [r] at p; exact p.elim
    refine wpAny_mono (ht.run [] s1 (L2.start N vs) H _ I hq) (fun fl s2 hs2 => ?_) fun e s2 hs2 => hs2
    have fin : ∀ {σ2 : L2.St} {H2 : Hp} {v : V} {u : Value}, Inv (cxOf (L2.CX P w) P w K mg base N qual (defScope st) f cdv A outer s H E) [] σ2 H2 s2 → RelV v u → Q v H2 → CE outer P w H s Q u s2 :=
      fun {σ2 H2 v u} J r2 q => ⟨v, H2, J.os, J.bare, J.base, J.hok, r2, q⟩
    cases fl with
    | ret u =>
      obtain ⟨v, σ2, H2, J, r2, q⟩ := hs2
      exact fin J r2 q
    | next =>
      obtain ⟨σ2, H2, J, q⟩ := hs2
      exact fin (v := V.non) (u := Value.none) J rfl q
    | brk =>
      obtain ⟨_, _, _, q⟩ := hs2
      exact q.elim
    | cont =>
      obtain ⟨_, _, _, q⟩ := hs2
      exact q.elim
  · rw [if_neg hl] at p
    exact p.elim
end

/-! ### calls -/
def eCall (mf : FM) (ma : AM) : EM := fun ρ s => (ma ρ s).bind fun ds s1 => mf ds s1
section
variable {X : Cx} {W : WX} {k : Nat} {f : Addr} {fd : FuncData} {ps : List Str} {mf : FM} {x : Str} {p pos : Pos} {e : Expr} {es : List Expr} {ma : AM}
theorem run_G {pins : List (Addr × Obj)} {σ : L2.St} {H : Hp} {s : Shared} {Q : VK} {us : List Value} {vs : List V} (G : FnG X.prog X.w X.K X.mg X.base k f fd ps mf) (hr : Rm k X.A) (hb : Binds X.K fd ps []) (hx : PassesAt (L2.CX X.prog X.w) X σ (WE W σ))
    (I : Inv X pins σ H s) (r : Vals vs us) (h : spD X.K mf vs H Q (WE W σ)) : wpAny (model X.prog X.w) X.A (call (.ref f) us) (EP X pins σ Q) X.xe s := by
  have hl : us.length = ps.length := by rw [← r.length]; exact sp_len G h
  have bb := hb s us I.kIn (by rw [List.append_nil]; exact hl)
  rw [List.append_nil] at bb
  refine wpAny_call (codeAny_mono (G.go X.A X.stack s H ⟨us, []⟩ us vs Q (WE W σ) hr I.env0 bb r h) fun rr s2 hq => ?_)
  cases rr with
  | error er => exact hx pins H s er s2 I hq
  | ok fl =>
    cases fl with
    | ret u => exact I.after hq
    | next => exact hq.elim
    | brk => exact hq.elim
    | cont => exact hq.elim
def tCallG (K : PySem.W.Frag) (W : WX) (mf : FM) (t : TA) : TE := fun σ H Q => t σ H fun vs H1 => spD K mf vs H1 Q (WE W σ)
theorem pe_callG {t : TA} (G : FnG X.prog X.w X.K X.mg X.base k f fd ps mf) (hr : Rm k X.A) (hg : Gl X x) (hm : X.mg x = some (.ref f)) (hk : PySem.W.keepIn X.K (.ref f) = true) (hb : Binds X.K fd ps []) (hx : ∀ σ, PassesAt (L2.CX X.prog X.w) X σ (WE W σ)) (ha : PA X (e :: es) t)
    (hdb : (x == ("__debug__" : Str)) = false := by decide) (he : starEach (e :: es) X.env = (false, eval e X.env) :: starEach es X.env := by rfl) (hpl : (backTo pos (starEach es X.env)).any (·.1) = false := by rfl) :
    PE X (.Call (.Name x p) (e :: es) [] pos) (tCallG X.K W mf t) := by
  refine ⟨fun pins s σ H Q I h => ?_⟩
  refine wpAny_Call_Name_kw (ld_glob I hg hm ?_ hdb)
  refine PySem.W.callWith_K (h₀ := X.base) I.ok.mod.kin hk (thn (ha.run pos pins s σ H _ I h) fun us s2 ⟨vs, H2, I2, r2, q2⟩ => ⟨I2.kIn, ?_⟩) he hpl
  exact run_G G hr hb (hx σ) I2 r2 q2
theorem post_wish {K : PySem.W.Frag} {W W' : WX} {Z : Option Zt} {F H : Hp} {σ σ' : L2.St} {r : RE D} {Q : VK} (h : PostE K W Z F H σ r Q) (k : ∀ c dd H, W c dd σ H → W' c dd σ' H) : PostE K W' Z F H σ' r Q := by
  cases r with
  | bad => exact h
  | ok d s => exact h
  | ex C fs s => exact fun F2 H2 dd e d x => k _ _ _ (h F2 H2 dd e d x)
theorem de_call (G : FnG X.prog X.w X.K X.mg X.base k f fd ps mf) (hr : Rm k X.A) (hg : Gl X x) (hm : X.mg x = some (.ref f)) (hk : PySem.W.keepIn X.K (.ref f) = true) (hb : Binds X.K fd ps []) (hx : ∀ σ, PassesAt (L2.CX X.prog X.w) X σ (WE W σ)) (ha : PA X (e :: es) (tA X.K W ma))
    (hdb : (x == ("__debug__" : Str)) = false := by decide) (he : starEach (e :: es) X.env = (false, eval e X.env) :: starEach es X.env := by rfl) (hpl : (backTo pos (starEach es X.env)).any (·.1) = false := by rfl) :
    PE X (.Call (.Name x p) (e :: es) [] pos) (tE X.K W (eCall mf ma)) := pe_weak (pe_callG G hr hg hm hk hb hx ha hdb he hpl) fun σ H Q ⟨F, Z, ρ, s, hs, he, hd, h⟩ =>
  tA_then hs he hd h fun ds s1 F1 H1 vs e1 he1 hd1 a1 h => ⟨F1, Z, ds, s1, e1.fh, a1, hd1, post_wish h fun _ _ _ q => q⟩
/-- within a block, or where nothing may be raised -/
theorem passW0 (σ : L2.St) : PassesAt (L2.CX X.prog X.w) X σ (WE W0 σ) := fun _ _ _ _ _ _ c => by
  obtain ⟨_, _, _, _, _, _, _, _, _, _, _, _, z⟩ := c
  exact z.elim
/-- a constant of the module -/
theorem de_glob {u : Value} {v : V} {d : D} (hg : Gl X x) (hm : X.mg x = some u) (r : RelV v u) (a : ∀ F Z, At X.K F Z v d) (hd : (x == ("__debug__" : Str)) = false := by decide) : PE X (.Name x pos) (tE X.K W (eC d)) := de_const (pe_glob hg hm r hd) a
theorem de_type {n : String} (hg : Gl X x) (hm : X.mg x = none) (hv : bootBuiltins x = some (.type n)) (hn : x ≠ "__name__" := by decide) (hd : (x == ("__debug__" : Str)) = false := by decide) : PE X (.Name x pos) (tE X.K W (eC (.ty n))) :=
  de_const (pe_bltn (v := .ty n) hg hm hv rfl hn hd) fun _ _ => .ty n
theorem de_class {C : Addr} (hg : Gl X x) (hm : X.mg x = some (.ref C)) (hd : (x == ("__debug__" : Str)) = false := by decide) : PE X (.Name x pos) (tE X.K W (eC (.cls C))) := de_glob (v := .ref C) hg hm rfl (fun _ _ => .cls C) hd
end
end FL
set_option Elab.async false
set_option linter.all false
set_option maxRecDepth 100000
set_option maxHeartbeats 4000000
/-! ## FL, 8: exceptions that are kept: raised, caught and held by a name, their class and field; repr -/
namespace PySem.W
open PySem PySem.Spec PySem.Calls PyProof.Rows
section
variable {prog : Program} {w : World} {A : Around} {E : Value → Shared → Prop} {s : Shared} {K : Frag} {e D : Addr} {oe : Obj} {od : Option Obj}
theorem fl_find {C : Addr} {nm : Str} {a g : Value} (hc : (clsIn K C).isSome = true) (ha : findIn K (.ref C) nm = some (some a)) (hg : specialIn K a "__get__" = some (some g)) (ht : takesIn K a = some true) : findObj K C od nm = some (.bind g a) := by
  obtain ⟨cd, hc⟩ := Option.isSome_iff_exists.mp hc
  unfold findObj
  rw [hc, Option.bind_some, ha, Option.bind_some]
  simp [hg, ht]
theorem fl_class {Q : Option Value → Shared → Prop} (q1 : findIn K (.ref D) "__getattribute__" = some (some (.builtin "BaseException.__getattribute__"))) (q2 : findIn K (.ref D) "__getattr__" = some none) (q3 : subIn K (.ref D) (.type "BaseException") = some true)
    (q4 : hasDictIn K D = true) (q5 : findIn K (.ref D) "__class__" = some (some (.builtin "object.__class__")))
    (q6 : specialIn K (.builtin "object.__class__") "__get__" = some (some (.builtin "getset_descriptor.__get__"))) (q7 : takesIn K (.builtin "object.__class__") = some true) (q8 : mroIn K D (.type "object") = some true)
    (KI : K.In s.heap) (I : InstAt s.heap e oe D od) (h : Q (some (.ref D)) { s with toks := s.toks + 1 }) : wpAny (model prog w) A (getAttr? (.ref e) "__class__") Q E s := by
  have hf : findObj K D od "__class__" = some (.bind (.builtin "getset_descriptor.__get__") (.builtin "object.__class__")) := fl_find (by obtain ⟨cd, hc, _⟩ := any_some q4; rw [hc]; rfl) q5 q6 q7
  obtain ⟨h1, g1, d1, t1, o1⟩ := s
  have M0 := I.type (M := model prog w)
  have M1 := looks_findIn (M := model prog w) KI q1
  have M2 := looks_findIn (M := model prog w) KI q2
  have M3 := looks_find (M := model prog w) KI I hf
  have sub : Looks (model prog w) h1 (isInstance (.ref e) (.type "BaseException")) true := M0.andThen (looks_subIn KI q3)
  have z0 : (false && onTheHeap (Value.builtin "BaseException.__getattribute__")) = false := rfl
  have z2 : (Value.builtin "BaseException.__getattribute__" == Value.builtin "object.__getattribute__") = false := by decide +kernel
  have z1 : (onTheHeap (Value.ref D) && Value.builtin "BaseException.__getattribute__" == Value.builtin "object.__getattribute__") = false := by rw [z2]; rfl
  unfold getAttr? getAttrBy? getAttrBy
  refine wpAny_bind (wpAny_mkText (wpAny_bind (wpAny_attempt (wpAny_holding (wpAny_bind (M0.at (wpAny_bind (M1.at ?_))))))))
  show wpAny _ _ (if (onTheHeap (Value.ref D) && Value.builtin "BaseException.__getattribute__" == Value.builtin "object.__getattribute__") = true then _ else _) _ _ _
  rw [z1, if_neg Bool.false_ne_true]
  unfold getAttrByItsOwn hookBefore
  refine wpAny_bind ?_
  rw [if_pos (show onTheHeap (Value.ref D) = true from rfl)]
  refine M2.at ?_
  refine wpAny_bind (wpAny_attempt (wpAny_holding ?_))
  unfold callGetattribute
  rw [z0, if_neg Bool.false_ne_true]
  unfold boundAndCalled
  rw [PySem.F.excAttr_ValueError.ga.bind (.ref e)]
  refine wpAny_bind (wpAny_pure ?_)
  show wpAny _ _ (call (.builtin "BaseException.__getattribute__") [.ref e, .str "__class__" t1]) _ _ _
  refine wpAny_call (codeAny_call_builtin PySem.F.excAttr_ValueError.ga.plain PySem.F.entry_bexc_ga ?_)
  refine @check_slot (model prog w) _ _ ⟨h1, g1, d1, t1 + 1, o1⟩ "BaseException.__getattribute__" "BaseException" "__getattribute__" (.ref e) [.str "__class__" t1] [] _ (by decide +kernel) (by decide +kernel) sub (PySem.F.args_bexc_ga (.ref e) (.str "__class__" t1)) ?_
  unfold Builtin.«object.__getattribute__»
  refine wpAny_bind (wpAny_of_eq (a := ((Value.ref e : Value), [Value.str "__class__" t1])) (by first | rfl | (simp only [slotArgs]; rfl)) ?_)
  refine wpAny_bind (wpAny_pure (wpAny_bind (M0.at (wpAny_bind (M3.at ?_)))))
  show wpAny _ _ (holding [Value.builtin "object.__class__"] (call (.builtin "getset_descriptor.__get__") [.builtin "object.__class__", .ref e, .ref D]) >>= ret) _ _ _
  refine wpAny_bind (wpAny_holding (wpAny_call (class_get (s := ⟨h1, g1, d1, t1 + 1, o1⟩) (ox := oe) (od := od) KI I q8 ?_)))
  refine wpAny_pure ?_
  show wpAny _ _ (handedOut (.ref D)) _ _ _
  rw [handedOut_of (v := .ref D) rfl]
  first | exact wpAny_pure (wpAny_pure h) | exact wpAny_pure h | exact wpAny_pure (wpAny_bind (wpAny_pure (wpAny_pure h)))
theorem fl_kitx (q1 : findIn K (.ref D) "__getattribute__" = some (some (.builtin "BaseException.__getattribute__"))) (q2 : findIn K (.ref D) "__getattr__" = some none) (q3 : subIn K (.ref D) (.type "BaseException") = some true) (q4 : hasDictIn K D = true) (q5 : findIn K (.ref D) "__class__" = some (some (.builtin "object.__class__")))
    (q6 : specialIn K (.builtin "object.__class__") "__get__" = some (some (.builtin "getset_descriptor.__get__"))) (q7 : takesIn K (.builtin "object.__class__") = some true) (q8 : mroIn K D (.type "object") = some true) :
    KitX K (.ref e) (.ref D) (fun h => InstAt h e oe D od) where
  ty := fun _ _ _ I => I.type
  it := fun _ _ KI _ => by
    obtain ⟨cdD, hcD, _⟩ := any_some q4
    unfold clsIn at hcD
    split at hcD
    · rename_i c2 d2 cd2 sl2 ho
      intro A2 Q2 E2 s2 k q
      unfold isType loadHead
      exact wpAny_bind (wpAny_loadPart (k _ _ (KI _ _ ho)) (wpAny_pure q))
    · cases hcD
  ne := fun h tp dd its n sl KI htp => by
    obtain ⟨cdD, hcD, _⟩ := any_some q4
    refine Bool.eq_false_iff.mpr fun q => ?_
    have ee : D = tp := Value.ref.inj (beq_iff_eq.mp q)
    subst ee
    unfold clsIn at hcD
    split at hcD
    · rename_i c2 d2 cd2 sl2 ho
      have z := (KI _ _ ho).symm.trans htp
      cases z
    · cases hcD
  ca := fun KI I k => fl_class q1 q2 q3 q4 q5 q6 q7 q8 KI I k
end
end PySem.W
namespace FL
open PySem PySem.Spec PyProof.Rows L2
section
variable {X : Cx} {pins : List (Addr × Obj)} {σ : L2.St} {H : Hp} {s : Shared}
/-- a kept exception's object -/
theorem xob_at {C a : Addr} {dd : Option Addr} (I : Inv X pins σ H s) (h : H a = some (xob C a dd)) : ∃ oe, s.heap.get? a = some oe ∧ Zc (.ref C) dd oe ∧ ∃ vs, oe.data = .fields vs := by
  obtain ⟨p, _, _⟩ := I.hok a _ h
  exact p
theorem xob_inst {C a : Addr} {dd : Option Addr} (I : Inv X pins σ H s) (h : H a = some (xob C a dd)) (hd : ∀ d, dd = some d → ∃ ws, H d = some (.xd ws)) : ∃ oe od, PySem.W.InstAt s.heap a oe C od := by
  obtain ⟨oe, h1, ⟨h2, h3⟩, vs, h4⟩ := xob_at I h
  cases dd with
  | none => exact ⟨oe, none, h1, h2, by unfold PySem.W.notCls; rw [h4] <;> rfl, by rw [h3]; trivial⟩
  | some d =>
    obtain ⟨ws, hw⟩ := hd d rfl
    obtain ⟨mA, hns, _⟩ := (show ObjOk X.prog X.w H s.heap d (.xd ws) from I.hok d _ hw)
    obtain ⟨ob, ho, _⟩ := lookIn_ns hns
    exact ⟨oe, some ob, h1, h2, by unfold PySem.W.notCls; rw [h4] <;> rfl, by rw [h3]; exact ho⟩
end
/-- isinstance of a kept exception -/
def rIsX (K : PySem.W.Frag) : List V → Hp → VK → Prop := fun xs H Q => ∃ (C a : Addr) (dd : Option Addr) (x : V) (b : Bool), xs = [.ref a, x] ∧ H a = some (xob C a dd) ∧ (∀ d, dd = some d → ∃ ws, H d = some (.xd ws)) ∧ ExcC K C ∧
  ((∃ u, ClsV x u ∧ PySem.W.kitOne K (.ref C) u = some b) ∨ ∃ tp cs us, x = .ref tp ∧ H tp = some (.tup cs) ∧ Paired ClsV cs us ∧ PySem.W.kitAny K (.ref C) us = some b) ∧ Q (.bl b) H
theorem call_isX {X : Cx} : CallR X (.builtin "isinstance") (rIsX X.K) := by
  intro pins s σ H xs us Q I r h
  obtain ⟨C, a, dd, x, b, rfl, ha, hd, T, c, q⟩ := h
  obtain ⟨u1, u2, rfl, r1, r2⟩ := vals2 r
  obtain rfl : u1 = Value.ref a := r1
  obtain ⟨oe, od, J⟩ := xob_inst I ha hd
  have Z := PySem.W.fl_kitx (K := X.K) (e := a) (D := C) (oe := oe) (od := od) T.hg T.hk T.hs T.hd T.ha T.hn T.ht T.hm
  rcases c with ⟨u, k, e⟩ | ⟨tp, cs, ws, rfl, ht, p, e⟩
  · have e2 := k.eq r2
    subst e2
    exact PySem.W.kia_one Z I.kIn J e (fun z => nomatch z) fun tk => ⟨.bl b, H, I.tok tk, rfl, q⟩
  · obtain rfl : u2 = Value.ref tp := r2
    obtain ⟨_, its, rv, ob, h1, h2, n, h3⟩ := (show ObjOk X.prog X.w H s.heap tp (.tup cs) from I.hok tp _ ht)
    have e2 := ClsV.all p rv
    subst e2
    obtain ⟨oc, odd, oda, osl⟩ := ob
    dsimp only at h2 h3
    subst h2 h3
    exact PySem.W.kia_tup Z I.kIn J h1 e (fun z => nomatch z) fun tk => ⟨.bl b, H, I.tok tk, rfl, q⟩
/-- the classes that an isinstance names -/
def clsVs : List D → Option (List Value)
  | [] => some []
  | .cls C :: r => (clsVs r).map (.ref C :: ·)
  | .ty n :: r => (clsVs r).map (.type n :: ·)
  | _ => none
theorem clsVs_at {K : PySem.W.Frag} {F : Hp} {Z : Option Zt} : ∀ {vs : List V} {ts : List D} {us : List Value}, AtAll K F Z vs ts → clsVs ts = some us → Paired ClsV vs us
  | _, [], _, .nil, e => by
    simp only [clsVs, Option.some.injEq] at e
    subst e
    exact .nil
  | _, d :: ts, us, .cons h k, e => by
    cases d with
    | cls C =>
      unfold clsVs at e
      rw [Option.map_eq_some_iff] at e
      obtain ⟨r, e, rfl⟩ := e
      cases h
      exact .cons (.own C) (clsVs_at k e)
    | ty n =>
      unfold clsVs at e
      rw [Option.map_eq_some_iff] at e
      obtain ⟨r, e, rfl⟩ := e
      cases h
      exact .cons (.ty n) (clsVs_at k e)
    | _ => simp [clsVs] at e
/-- sub tells, of an exception's class, whether it is one of the classes asked -/
def isxF (sub : Addr → List Value → Option Bool) : List D → Option D
  | [.exc C _, .cls c] => (sub C [.ref c]).map .bl
  | [.exc C _, .ty n] => (sub C [.type n]).map .bl
  | [.exc C _, .tup ts] => (clsVs ts).bind fun us => (sub C us).map .bl
  | _ => none
theorem exc_facts {K : PySem.W.Frag} {F H : Hp} {Z : Option Zt} {v : V} {C : Addr} {fs : List (Str × D)} (h : At K F Z v (.exc C fs)) (hs : Same F H) : ∃ a dd, v = .ref a ∧ H a = some (xob C a dd) ∧ ∀ d, dd = some d → ∃ ws, H d = some (.xd ws) := by
  cases h with
  | exc0 h1 => exact ⟨_, none, rfl, hs _ _ h1, fun d e => by cases e⟩
  | exc h1 h2 h3 => exact ⟨_, _, rfl, hs _ _ h1, fun d e => by cases e; exact ⟨_, hs _ _ h2⟩⟩
theorem cd_isx {K : PySem.W.Frag} {sub : Addr → List Value → Option Bool} (hsub : ∀ C us b, sub C us = some b → ExcC K C ∧ PySem.W.kitAny K (.ref C) us = some b ∧ ∀ u, us = [u] → PySem.W.kitOne K (.ref C) u = some b) : CallD K (rIsX K) (isxF sub) := fun F H Z s xs ds g Q hs hd ax h k => by
  unfold isxF at h
  split at h
  · rw [Option.map_eq_some_iff] at h
    obtain ⟨b, e, rfl⟩ := h
    obtain ⟨v, w, rfl, a1, a2⟩ := two_inv ax
    obtain ⟨a, dd, rfl, x1, x2⟩ := exc_facts a1 hs
    cases a2
    obtain ⟨s1, s2, s3⟩ := hsub _ _ _ e
    exact ⟨_, a, dd, _, b, rfl, x1, x2, s1, .inl ⟨_, .own _, s3 _ rfl⟩, k F H _ (Ext.refl hs) hd (.bl _)⟩
  · rw [Option.map_eq_some_iff] at h
    obtain ⟨b, e, rfl⟩ := h
    obtain ⟨v, w, rfl, a1, a2⟩ := two_inv ax
    obtain ⟨a, dd, rfl, x1, x2⟩ := exc_facts a1 hs
    cases a2
    obtain ⟨s1, s2, s3⟩ := hsub _ _ _ e
    exact ⟨_, a, dd, _, b, rfl, x1, x2, s1, .inl ⟨_, .ty _, s3 _ rfl⟩, k F H _ (Ext.refl hs) hd (.bl _)⟩
  · rw [Option.bind_eq_some_iff] at h
    obtain ⟨us, eu, h⟩ := h
    rw [Option.map_eq_some_iff] at h
    obtain ⟨b, e, rfl⟩ := h
    obtain ⟨v, w, rfl, a1, a2⟩ := two_inv ax
    obtain ⟨a, dd, rfl, x1, x2⟩ := exc_facts a1 hs
    cases a2 with
    | tup h1 k1 =>
      obtain ⟨s1, s2, s3⟩ := hsub _ _ _ e
      exact ⟨_, a, dd, _, b, rfl, x1, x2, s1, .inr ⟨_, _, us, rfl, hs _ _ h1, clsVs_at k1 eu, s2⟩, k F H _ (Ext.refl hs) hd (.bl _)⟩
  · cases h

/-! ### error.at -/
def tXfk (C : Addr → Prop) (f : Str) (te : TE) : TE := fun σ H Q => te σ H fun x H1 => ∃ (a D dd : Addr) (ws : List (Str × V)) (v : V), x = .ref a ∧ C D ∧ H1 a = some (xob D a (some dd)) ∧ H1 dd = some (.xd ws) ∧ ws.lookup f = some v ∧ Q v H1
theorem pe_xfk {X : Cx} {C : Addr → Prop} {e : Expr} {te : TE} {pos : Pos} {n : Str} (T : ∀ D, C D → XfC X.K D ∧ PySem.W.findIn X.K (.ref D) n = some none) (he : PE X e te) (hb : attributeBase e n X.env (eval e X.env) = eval e X.env := by rfl) :
    PE X (.Attribute e n pos) (tXfk C n te) := by
  refine ⟨fun pins s σ H Q I h => ?_⟩
  refine attr_of hb (thn (he.run pins s σ H _ I h) fun u s1 hh => ?_)
  obtain ⟨x, H1, I1, rx, a, D, dd, ws, v, ex, hC, h1, h2, l, q⟩ := hh
  subst ex
  obtain rfl : u = Value.ref a := rx
  obtain ⟨oe, o1, ⟨o2, o3⟩, vs, o4⟩ := xob_at I1 h1
  obtain ⟨mA, hns, hr⟩ := (show ObjOk X.prog X.w H1 s1.heap dd (.xd ws) from I1.hok dd _ h2)
  obtain ⟨od, ho, hl⟩ := lookIn_ns hns
  obtain ⟨u, hu, ru⟩ := RelO.some_of (v := v) (o := mA n) (by rw [← l]; exact hr n)
  have J : PySem.W.InstAt s1.heap a oe D (some od) := ⟨o1, o2, by unfold PySem.W.notCls; rw [o4] <;> rfl, by rw [o3]; exact ho⟩
  obtain ⟨T1, T2⟩ := T D hC
  exact HandSPX.exc_get I1.kIn J T1.ga T1.gg T1.exC (PySem.W.findObj_own T1.hdC T2 rfl (by rw [hl, hu])) (handed_of ru) ⟨v, H1, I1.tok _, ru, q⟩
def xfF (C : Addr → Bool) (n : Str) : D → Option D
  | .exc D fs => if C D = true then fs.lookup n else none
  | _ => none
theorem fs_at {K : PySem.W.Frag} {F : Hp} {Z : Option Zt} {n : Str} {d : D} : ∀ {ws : List (Str × V)} {fs : List (Str × D)}, AtFs K F Z ws fs → fs.lookup n = some d → ∃ v, ws.lookup n = some v ∧ At K F Z v d
  | _, _, .nil, e => by simp at e
  | (k, v) :: ws, (_, d') :: fs, .cons h t, e => by
    by_cases z : n = k
    · subst z
      rw [List.lookup_cons, beq_self_eq_true] at e
      cases e
      exact ⟨v, by rw [List.lookup_cons, beq_self_eq_true], h⟩
    · have z2 : (n == k) = false := by simpa using z
      rw [List.lookup_cons, z2] at e
      obtain ⟨w, h1, h2⟩ := fs_at t e
      exact ⟨w, by rw [List.lookup_cons, z2]; exact h1, h2⟩
def eUn (f : D → Option D) (m : EM) : EM := fun ρ s => (m ρ s).bind fun d s1 => lift (f d) s1
theorem de_xf {X : Cx} {W : WX} {C : Addr → Bool} {e : Expr} {me : EM} {pos : Pos} {n : Str} (T : ∀ D, C D = true → XfC X.K D ∧ PySem.W.findIn X.K (.ref D) n = some none) (he : PE X e (tE X.K W me)) (hb : attributeBase e n X.env (eval e X.env) = eval e X.env := by rfl) :
    PE X (.Attribute e n pos) (tE X.K W (eUn (xfF C n) me)) := pe_weak (pe_xfk (C := fun D => C D = true) T he hb) fun σ H Q ⟨F, Z, ρ, s, hs, he, hd, h⟩ => by
  refine tE_then hs he hd h fun x s1 F1 H1 v1 e1 he1 hd1 a1 h => ?_
  obtain ⟨g, hg, k⟩ := post_now h
  unfold xfF at hg
  split at hg
  · split at hg
    · rename_i hC
      cases a1 with
      | exc0 h1 => simp at hg
      | exc h1 h2 h3 =>
        obtain ⟨v, l, av⟩ := fs_at h3 hg
        exact ⟨_, _, _, _, v, rfl, hC, e1.fh _ _ h1, e1.fh _ _ h2, l, k F1 H1 _ (Ext.refl e1.fh) hd1 av⟩
    · cases hg
  · cases hg
end FL
set_option Elab.async false
set_option linter.all false
set_option maxRecDepth 100000
set_option maxHeartbeats 4000000
/-! ## FL, 9: repr -/
namespace FL
open PySem PySem.Spec PyProof.Rows L2
mutual
def toR : D → Option PyData
  | .non => some .none
  | .bl b => some (.bool b)
  | .int i => some (.int i)
  | .str x => some (.str x)
  | .lst xs => (toRs xs).map .list
  | .tup xs => (toRs xs).map .tuple
  | .dic [] => some (.dict [])
  | _ => none
def toRs : List D → Option (List PyData)
  | [] => some []
  | x :: xs => match toR x, toRs xs with
    | some p, some ps => some (p :: ps)
    | _, _ => none
end
/-- a value with its text: as the library's, but that it is the dicts alone that aren't sys.modules -/
def Shows (prog : Program) (w : World) (h : Heap) (v : Value) (p : PyData) : Prop :=
  ∃ as, Reads h v p as ∧ (p.showable = true → p.shown.length ≤ sizeLine → ∃ bs, ReadAtMost h p.depth bs ∧ ReprK prog w bs h p.depth v p.shown)
def ShowsAll (prog : Program) (w : World) (h : Heap) (vs : List Value) (ps : List PyData) : Prop :=
  ∃ as, ReadsAll h vs ps as ∧ (PyData.showableAll ps = true → (∀ t ∈ PyData.shownAll ps, t.length ≤ sizeLine) → ∃ bs, ReadAtMost h (PyData.depthAll ps) bs ∧ ReprAllK prog w bs h (PyData.depthAll ps) vs (PyData.shownAll ps))
section
variable {prog : Program} {w : World} {h : Heap}
theorem shows_nil : ShowsAll prog w h [] [] := ⟨[], .nil, fun _ _ => ⟨[], fun _ z => (nomatch z), by simp only [PyData.shownAll]; exact .nil⟩⟩
theorem shows_cons {v : Value} {p : PyData} {vs : List Value} {ps : List PyData} (a : Shows prog w h v p) (b : ShowsAll prog w h vs ps) : ShowsAll prog w h (v :: vs) (p :: ps) := by
  obtain ⟨as, r1, k1⟩ := a
  obtain ⟨cs, r2, k2⟩ := b
  refine ⟨as ++ cs, .cons r1 r2, fun hs hz => ?_⟩
  have hs2 : p.showable = true ∧ PyData.showableAll ps = true := by simpa [PyData.showableAll] using hs
  obtain ⟨x1, m1, y1⟩ := k1 hs2.1 (hz _ (by simp only [PyData.shownAll]; exact List.mem_cons_self))
  obtain ⟨x2, m2, y2⟩ := k2 hs2.2 (fun t ht => hz _ (by simp only [PyData.shownAll]; exact List.mem_cons_of_mem _ ht))
  have d1 : p.depth ≤ PyData.depthAll (p :: ps) := by simp only [PyData.depthAll]; exact Nat.le_max_left _ _
  have d2 : PyData.depthAll ps ≤ PyData.depthAll (p :: ps) := by simp only [PyData.depthAll]; exact Nat.le_max_right _ _
  refine ⟨x1 ++ x2, (m1.mono d1).append (m2.mono d2), ?_⟩
  simp only [PyData.shownAll]
  exact .cons ((y1.more fun _ q => List.mem_append_left _ q).level_le d1) (y2.more_le (fun _ q => List.mem_append_right _ q) d2)
theorem shows_list {a : Addr} {o : Obj} {vs : Array Value} {n : Nat} {ps : List PyData} (h1 : h.get? a = some o) (h2 : o.cls = .type "list") (h3 : o.data = .seq vs n) (b : ShowsAll prog w h vs.toList ps) : Shows prog w h (.ref a) (.list ps) := by
  obtain ⟨as, r, k⟩ := b
  have R : Reads h (.ref a) (.list ps) _ := .list h1 h2 h3 r
  refine ⟨_, R, fun hs hz => ?_⟩
  have hz2 : (listText (PyData.shownAll ps)).length ≤ sizeLine := by simpa only [PyData.shown] using hz
  obtain ⟨bs, m, y⟩ := k (by simpa [PyData.showable] using hs) fun t ht => Nat.le_trans (listText_mem_le ht) hz2
  have hna : a ∉ bs := not_mem_of_deeper R (by simp only [PyData.depth]; omega) m
  refine ⟨a :: bs, ReadAtMost.cons R (by simp only [PyData.depth]; omega) m, ?_⟩
  simp only [PyData.depth, PyData.shown]
  obtain ⟨l⟩ := vs
  cases l with
  | nil =>
    have r2 : ReadsAll h [] ps _ := r
    cases r2
    simp only [PyData.shownAll, listText_nil]
    exact ReprK.listEmpty h1 h2 h3
  | cons x l => exact ReprK.list h1 h2 h3 hna (by simpa using y.length_eq) fun i u e => y.item i u (by simpa using e)
theorem shows_tuple {a : Addr} {o : Obj} {vs : Array Value} {n : Nat} {ps : List PyData} (h1 : h.get? a = some o) (h2 : o.cls = .type "tuple") (h3 : o.data = .seq vs n) (b : ShowsAll prog w h vs.toList ps) : Shows prog w h (.ref a) (.tuple ps) := by
  obtain ⟨as, r, k⟩ := b
  have R : Reads h (.ref a) (.tuple ps) _ := .tuple h1 h2 h3 r
  refine ⟨_, R, fun hs hz => ?_⟩
  have hz2 : (tupleText (PyData.shownAll ps)).length ≤ sizeLine := by simpa only [PyData.shown] using hz
  obtain ⟨bs, m, y⟩ := k (by simpa [PyData.showable] using hs) fun t ht => Nat.le_trans (tupleText_mem_le ht) hz2
  have hna : a ∉ bs := not_mem_of_deeper R (by simp only [PyData.depth]; omega) m
  refine ⟨a :: bs, ReadAtMost.cons R (by simp only [PyData.depth]; omega) m, ?_⟩
  simp only [PyData.depth, PyData.shown]
  exact ReprK.tuple h1 h2 h3 hna y
theorem shows_dict {a : Addr} {o : Obj} {es : Array DictEntry} {n : Nat} {kvs : List (PyData × PyData)} (h1 : h.get? a = some o) (h2 : o.cls = .type "dict") (h3 : o.data = .dict es n) (hsys : (a == sysModules) = false) (b1 : ShowsAll prog w h (es.toList.map (·.key)) (kvs.map (·.1))) (b2 : ShowsAll prog w h (es.toList.map (·.val)) (kvs.map (·.2))) :
    Shows prog w h (.ref a) (.dict kvs) := by
  obtain ⟨as, r1, k1⟩ := b1
  obtain ⟨cs, r2, k2⟩ := b2
  have R : Reads h (.ref a) (.dict kvs) _ := .dict h1 h2 h3 r1 r2
  refine ⟨_, R, fun hs hz => ?_⟩
  have hz2 : (dictText (PyData.shownKv kvs)).length ≤ sizeLine := by simpa only [PyData.shown] using hz
  obtain ⟨hs1, hs2⟩ := PyData.showableKv_split kvs (by simpa [PyData.showable] using hs)
  obtain ⟨x1, m1, y1⟩ := k1 hs1 fun t ht => let ⟨p, hp, hl⟩ := PyData.shownKv_key_le kvs t ht; Nat.le_trans hl (Nat.le_trans (dictText_mem_le hp) hz2)
  obtain ⟨x2, m2, y2⟩ := k2 hs2 fun t ht => let ⟨p, hp, hl⟩ := PyData.shownKv_val_le kvs t ht; Nat.le_trans hl (Nat.le_trans (dictText_mem_le hp) hz2)
  have m : ReadAtMost h (PyData.depthKv kvs) (x1 ++ x2) := (m1.mono (PyData.depthAll_keys_le kvs)).append (m2.mono (PyData.depthAll_vals_le kvs))
  have hna : a ∉ x1 ++ x2 := not_mem_of_deeper R (by simp only [PyData.depth]; omega) m
  refine ⟨a :: (x1 ++ x2), ReadAtMost.cons R (by simp only [PyData.depth]; omega) m, ?_⟩
  simp only [PyData.depth, PyData.shown, PyData.shownKv_eq]
  exact ReprK.dict h1 h2 h3 hsys hna (ReprEntriesK.of_two es.toList _ _ (y1.more_le (fun _ q => List.mem_append_left _ q) (PyData.depthAll_keys_le kvs)) (y2.more_le (fun _ q => List.mem_append_right _ q) (PyData.depthAll_vals_le kvs)))
theorem shows_leaf {v : Value} {p : PyData} {as : List Addr} (r : Reads h v p as) (hd : p.hasDict = false) : Shows prog w h v p := ⟨as, r, fun hs hz => ReprK.of_reads r hs (fun q => by rw [hd] at q; cases q) hz⟩
end
section
variable {X : Cx} {pins : List (Addr × Obj)} {σ : L2.St} {F H : Hp} {Z : Option Zt} {s : Shared}
mutual
theorem at_shows (I : Inv X pins σ H s) (hs : Same F H) : ∀ {d : D} {v : V} {u : Value} {p : PyData}, At X.K F Z v d → RelV v u → toR d = some p → Shows X.prog X.w s.heap u p
  | .non, _, _, _, .non, r, e => by
    simp only [toR, Option.some.injEq] at e
    subst e
    cases r
    exact shows_leaf .none (by simp only [PyData.hasDict])
  | .bl b, _, _, _, .bl _, r, e => by
    simp only [toR, Option.some.injEq] at e
    subst e
    cases r
    exact shows_leaf (.bool b) (by simp only [PyData.hasDict])
  | .int i, _, _, _, .int _, r, e => by
    simp only [toR, Option.some.injEq] at e
    subst e
    obtain ⟨t, rfl⟩ := r
    exact shows_leaf (.int i t) (by simp only [PyData.hasDict])
  | .str x, _, _, _, .str _, r, e => by
    simp only [toR, Option.some.injEq] at e
    subst e
    obtain ⟨t, rfl⟩ := r
    exact shows_leaf (.str x t) (by simp only [PyData.hasDict])
  | .lst ds, _, _, _, .lst h k, r, e => by
    simp only [toR, Option.map_eq_some_iff] at e
    obtain ⟨ps, e, rfl⟩ := e
    cases r
    obtain ⟨_, its, n, rv, ho⟩ := (show ObjOk X.prog X.w H s.heap _ (.lst _) from I.hok _ _ (hs _ _ h))
    exact shows_list ho rfl rfl (atAll_shows I hs k rv e)
  | .tup ds, _, _, _, .tup h k, r, e => by
    simp only [toR, Option.map_eq_some_iff] at e
    obtain ⟨ps, e, rfl⟩ := e
    cases r
    obtain ⟨_, its, rv, o, ho, hc, n, hd⟩ := (show ObjOk X.prog X.w H s.heap _ (.tup _) from I.hok _ _ (hs _ _ h))
    exact shows_tuple ho hc hd (atAll_shows I hs k rv e)
  | .dic [], _, _, _, .dic h .nil, r, e => by
    simp only [toR, Option.some.injEq] at e
    subst e
    cases r
    obtain ⟨_, hsys, vs, rel, o, es, ep, ho, hc, hd, hes, hb, _⟩ := (show ObjOk X.prog X.w H s.heap _ (.dK _) from I.hok _ _ (hs _ _ h))
    cases rel
    have he : es.toList = [] := by
      cases q : es.toList with
      | nil => rfl
      | cons a b => rw [q] at hb; first | exact hb.elim | cases hb
    exact shows_dict (kvs := []) ho hc.1 hd hsys (by rw [he]; exact shows_nil) (by rw [he]; exact shows_nil)
  | .dic (_ :: _), _, _, _, .dic _ _, _, e => by simp [toR] at e
  | .drw, _, _, _, .drw _, _, e => by simp [toR] at e
  | .exc _ _, _, _, _, .exc0 _, _, e => by simp [toR] at e
  | .exc _ _, _, _, _, .exc _ _ _, _, e => by simp [toR] at e
  | .scr _, _, _, _, .scr _, _, e => by simp [toR] at e
  | .ty _, _, _, _, .ty _, _, e => by simp [toR] at e
  | .cls _, _, _, _, .cls _, _, e => by simp [toR] at e
theorem atAll_shows (I : Inv X pins σ H s) (hs : Same F H) : ∀ {ds : List D} {vs : List V} {us : List Value} {ps : List PyData}, AtAll X.K F Z vs ds → Vals vs us → toRs ds = some ps → ShowsAll X.prog X.w s.heap us ps
  | [], _, _, _, .nil, r, e => by
    simp only [toRs, Option.some.injEq] at e
    subst e
    cases r
    exact shows_nil
  | d :: ds, _, _, _, .cons h k, r, e => by
    simp only [toRs] at e
    split at e
    · rename_i p ps e1 e2
      cases e
      cases r with
      | cons r1 r2 => exact shows_cons (at_shows I hs h r1 e1) (atAll_shows I hs k r2 e2)
    · cases e
end
end
section
variable {prog : Program} {w : World} {h0 : Heap} {a : Addr}
theorem showsBy_list {o : Obj} {vs : Array Value} {n : Nat} {ps : List PyData} (h1 : h0.get? a = some o) (h2 : o.cls = .type "list") (h3 : o.data = .seq vs n) (b : ShowsAll prog w h0 vs.toList ps) (hs : PyData.showableAll ps = true) (hz : (PyData.shown (.list ps)).length ≤ sizeLine) :
    ShowsBy prog w h0 a (.list ps) "list" "list.__repr__" := by
  obtain ⟨as, r, k⟩ := b
  have hz2 : (listText (PyData.shownAll ps)).length ≤ sizeLine := by simpa only [PyData.shown] using hz
  obtain ⟨bs, m, y⟩ := k hs fun t ht => Nat.le_trans (listText_mem_le ht) hz2
  have hna : a ∉ bs := not_mem_of_deeper (.list h1 h2 h3 r) (by simp only [PyData.depth]; omega) m
  refine ⟨F.slot_list_repr.toG, F.slot_list_str, F.slot_list_format, fun s k0 => ⟨o, k0 _ _ h1, h2⟩, fun A E s Q hg hu k0 hQ => ?_⟩
  simp only [PyData.depth] at hu
  simp only [PyData.shown] at hQ
  obtain ⟨l⟩ := vs
  cases l with
  | nil =>
    have r2 : ReadsAll h0 [] ps _ := r
    cases r2
    simp only [PyData.shownAll, listText_nil] at hQ
    exact call_list_repr_empty ⟨o, k0 _ _ h1, h2⟩ (k0 _ _ h1) h3 (hQ s.heap _ _ fun _ _ e => e)
  | cons x l => exact call_list_reprK h1 h2 h3 hna (by simpa using y.length_eq) (fun i u e => y.item i u (by simpa using e)) hg (fun b _ => Clear.nil b) hu k0 hQ hz2
theorem showsBy_tuple {o : Obj} {vs : Array Value} {n : Nat} {ps : List PyData} (h1 : h0.get? a = some o) (h2 : o.cls = .type "tuple") (h3 : o.data = .seq vs n) (b : ShowsAll prog w h0 vs.toList ps) (hs : PyData.showableAll ps = true) (hz : (PyData.shown (.tuple ps)).length ≤ sizeLine) :
    ShowsBy prog w h0 a (.tuple ps) "tuple" "tuple.__repr__" := by
  obtain ⟨as, r, k⟩ := b
  have hz2 : (tupleText (PyData.shownAll ps)).length ≤ sizeLine := by simpa only [PyData.shown] using hz
  obtain ⟨bs, m, y⟩ := k hs fun t ht => Nat.le_trans (tupleText_mem_le ht) hz2
  have hna : a ∉ bs := not_mem_of_deeper (.tuple h1 h2 h3 r) (by simp only [PyData.depth]; omega) m
  refine ⟨F.slot_tuple_repr, F.slot_tuple_str, F.slot_tuple_format, fun s k0 => ⟨o, k0 _ _ h1, h2⟩, fun A E s Q hg hu k0 hQ => ?_⟩
  simp only [PyData.depth] at hu
  simp only [PyData.shown] at hQ
  exact call_tuple_reprK h1 h2 h3 hna y hg (fun b _ => Clear.nil b) hu k0 hQ hz2
end
/-- repr(x), x a list or a tuple -/
def rRepr (K : PySem.W.Frag) : List V → Hp → VK → Prop := fun xs H Q => ∃ F Z d p x, xs = [x] ∧ Same F H ∧ At K F Z x d ∧ toR d = some p ∧ (tyOf d = some "list" ∨ tyOf d = some "tuple") ∧ p.showable = true ∧ p.shown.length ≤ sizeLine ∧ p.depth ≤ 40 ∧ Q (.str p.shown) H
theorem call_reprG {X : Cx} {k : Nat} (hr : Rm k X.A) : CallR X (.builtin "repr") (rRepr X.K) := by
  intro pins s σ H xs us Q I r h
  obtain ⟨F, Z, d, p, x, rfl, hs, a, e, ht, h1, h2, h3, q⟩ := h
  obtain ⟨u, rfl, r1⟩ := vals1 r
  have un := hr.r.units
  have fin : ∀ {T idr : String} {b : Addr}, ShowsBy X.prog X.w s.heap b p T idr → wpAny (model X.prog X.w) X.A (call (.builtin "repr") [.ref b]) (EP X pins σ Q) X.xe s := fun {T idr b} S =>
    call_repr_slot (by omega) (S.typeIs s fun _ _ z => z) S.slotRepr (S.call X.A.in1 _ s _ hr.g (by show X.A.units + 1 + p.depth < cLine; omega) (fun _ _ z => z) fun h2 u2 tk hk => ⟨_, _, rfl, ⟨.str _, H, I.kept (t' := tk) hk, ⟨_, rfl⟩, q⟩⟩)
  cases a with
  | @lst b vs ds h k2 =>
    cases r1
    simp only [toR, Option.map_eq_some_iff] at e
    obtain ⟨ps, e, rfl⟩ := e
    obtain ⟨_, its, n, rv, ho⟩ := (show ObjOk X.prog X.w H s.heap b (.lst vs) from I.hok b _ (hs _ _ h))
    exact fin (showsBy_list ho rfl rfl (atAll_shows I hs k2 rv e) (by simpa [PyData.showable] using h1) h2)
  | @tup b vs ds h k2 =>
    cases r1
    simp only [toR, Option.map_eq_some_iff] at e
    obtain ⟨ps, e, rfl⟩ := e
    obtain ⟨_, its, rv, o, ho, hc, n, hd⟩ := (show ObjOk X.prog X.w H s.heap b (.tup vs) from I.hok b _ (hs _ _ h))
    exact fin (showsBy_tuple ho hc hd (atAll_shows I hs k2 rv e) (by simpa [PyData.showable] using h1) h2)
  | _ => rcases ht with z | z <;> simp [tyOf] at z
def reprF : List D → Option D
  | [d] => match toR d with
    | some p => if (tyOf d = some "list" ∨ tyOf d = some "tuple") ∧ p.showable = true ∧ p.shown.length ≤ sizeLine ∧ p.depth ≤ 40 then some (.str p.shown) else none
    | none => none
  | _ => none
theorem cd_repr {K : PySem.W.Frag} : CallD K (rRepr K) reprF := fun F H Z s xs ds g Q hs hd ax h k => by
  unfold reprF at h
  split at h
  · split at h
    · rename_i p e
      split at h
      · rename_i hz
        cases h
        obtain ⟨v, rfl, a⟩ := one_inv ax
        exact ⟨F, Z, _, p, v, rfl, hs, a, e, hz.1, hz.2.1, hz.2.2.1, hz.2.2.2, k F H _ (Ext.refl hs) hd (.str _)⟩
      · cases h
    · cases h
  · cases h
end FL
set_option Elab.async false
set_option linter.all false
set_option maxRecDepth 100000
set_option maxHeartbeats 4000000
/-! ## FL, 10: raise, try -/
namespace FL
open PySem PySem.Spec PyProof.Rows L2
/-! ### class X(..): def __init__(self, f): self.f = f -/
def spI (C : Addr) (f : Str) : Sp := fun vs H Q _ => ∃ a v, vs = [.ref a, v] ∧ H a = some (exo a C none) ∧ ∀ dx, H dx = none → dx ≠ a → Q .non (upd (upd H dx (exd dx [(f, v)])) a (exo a C (some dx)))
section
variable {P : Program} {w : World} {K : PySem.W.Frag} {mg : Str → Option Value} {base : Heap}
theorem ok_excInit {x qual y : Str} {st : Stmt} {f C : Addr} {fd : FuncData} {p1 p2 p3 p4 : Pos} (T : L2.Fun K x qual st f fd) (Sc : FnScope ["self", y] ["self", y] (defScope st)) (X : OexC K C) (no : PySem.W.findIn K (.ref C) y = some none)
    (hv : Vis (defScope st) y) (hs : Vis (defScope st) "self") (hb : defBody st = [.Assign [.Attribute (.Name "self" p1) y p2] (.Name y p3) p4]) (hd : (y == ("__debug__" : Str)) = false) (hcd : (y == ("__classdict__" : Str)) = false) :
    FnOk P w K mg base CX0 1 f fd ["self", y] (spI C y) := by
  refine T.ok Sc (fun vs H Q E h => ?_) (fun cdv A outer s H vs Q E hr h => ?_)
  · obtain ⟨a, v, rfl, _⟩ := h
    rfl
  · obtain ⟨a, v, rfl, ha, k⟩ := h
    rw [hb]
    refine ⟨_, pss_one (ps_ost (pe_var (i := 0) rfl hs) (pe_var (i := 1) rfl hv hd hcd)), ?_⟩
    exact ⟨v, rfl, _, rfl, a, C, rfl, X, no, .inl ⟨ha, fun dx n ne => k dx n ne⟩⟩
end
section
variable {X : Cx} {W : WX} {me : EM}
def sRaise (C : Addr) (f : Str) (m : EM) : SM := fun ρ s => after (runD m ρ s) ρ fun d s' => .ex C [(f, d)] ρ s'
theorem del_upd {H : Hp} {a d : Addr} {C : Addr} {fs : List (Str × V)} (ha : H a = none) (hd : d ≠ a) : upd (del (upd (upd (upd H a (exo a C none)) d (exd d fs)) a (exo a C (some d))) a) d (.xd fs) = upd H d (.xd fs) := by
  funext b
  by_cases h1 : b = d
  · subst h1
    rw [upd_same, upd_same]
  · rw [upd_ne h1, upd_ne h1]
    by_cases h2 : b = a
    · subst h2
      rw [ha]
      exact if_pos rfl
    · rw [del_ne h2, upd_ne h2, upd_ne h1, upd_ne h2]
theorem ds_raise {st : Stmt} {C : Addr} {f : Str} (h : PS X st (fun _ σ H => tMkO C (spI C f) [] (tCons (tE X.K W me) tNil) σ H fun cls d H' => W cls d σ H')) : PS X st (tS X.K W (sRaise C f me)) := ps_weak h fun D σ H ⟨F0, H0, Z, F, ρ, s, a, h⟩ => by
  refine run_read a (after_post a h fun d s' F1 H1 v a1 _ av p => ?_)
  refine ⟨by show 1 ≤ 1000; decide, fun b hb => ⟨b, v, rfl, upd_same, fun dx hdx ne => ⟨rfl, dx, [(f, v)], upd_same, ?_, ?_, ?_⟩⟩⟩
  · rw [upd_ne ne]
    exact upd_same
  · rw [upd_ne ne] at hdx
    exact hdx
  · rw [upd_ne ne] at hdx
    rw [del_upd hb ne]
    have e := Ext.new (Z := Z) (o := .xd [(f, v)]) a1.ext.fh hdx
    have b2 := a1.go e (a1.dr.new a1.ext.fh hdx)
    exact p _ _ σ (some dx) b2.ext b2.dr b2.sl (.inr ⟨dx, _, rfl, upd_same, upd_same, .cons (av.mono (same_new a1.ext.fh hdx)) .nil⟩)
end

/-! ### try: body, except x as n: y = n; the exception is kept behind it -/
section
variable {X : Cx} {pins : List (Addr × Obj)} {σ : L2.St} {H : Hp} {s : Shared}
/-- an exception's object that stands pinned is tracked from here on -/
theorem Inv.keepX {C a : Addr} {dd : Option Addr} {oe : Obj} {vs : Array Value} (I : Inv X ((a, oe) :: pins) σ H s) (hz : Zc (.ref C) dd oe) (hd : oe.data = .fields vs) (h0 : X.s_0.heap.get? a = none) (hp : ∀ p ∈ X.pn ++ pins, p.1 ≠ a) : Inv X pins σ (upd H a (xob C a dd)) s := by
  obtain ⟨e1, e2, e3, e4, e5⟩ := I.pin (a, oe) (List.mem_append_right _ List.mem_cons_self)
  dsimp only at e1 e2 e3 e4 e5
  have nn : ∀ {b : Addr} {u : HO}, H b = some u → b ≠ a := fun {b u} q z => by rw [z, e2] at q; cases q
  have n0 : ∀ {b : Addr} {o : Obj}, X.s_0.heap.get? b = some o → b ≠ a := fun {b o} q z => by rw [z, h0] at q; cases q
  have nc : ∀ {x : Str} {c : Addr}, X.env.cells.lookup x = some c → c ≠ a := fun {x c} q z => by
    obtain ⟨v, o, ho, hdat⟩ := I.cell x c q
    rw [z, e1] at ho
    cases ho
    exact e5 v hdat
  refine ⟨I.ok, I.os, I.bare, ⟨I.base.keep, I.base.slot, fun b o q n hx => ?_, I.base.there, fun b xs q => ?_, fun b o u q => ?_, fun b ps q => ?_⟩, I.loc, I.cell, ?_, fun x c q => ?_, fun p hm => ?_, fun b u q => ?_, I.len⟩
  · rw [upd_ne (n0 q)]
    exact I.base.free b o q n hx
  · have q2 := I.base.tups b xs q
    rw [upd_ne (nn q2)]
    exact q2
  · have q2 := I.base.frzs b o u q
    rw [upd_ne (nn q2)]
    exact q2
  · obtain ⟨m, q2⟩ := I.base.tbls b ps q
    exact ⟨m, by rw [upd_ne (nn q2)]; exact q2⟩
  · rw [upd_ne (Ne.symm e3)]
    exact I.free
  · rw [upd_ne (nc q)]
    exact I.freeC x c q
  · obtain ⟨f1, f2, f3, f4, f5⟩ := I.pin p (by
      rcases List.mem_append.mp hm with z | z
      · exact List.mem_append_left _ z
      · exact List.mem_append_right _ (List.mem_cons_of_mem _ z))
    exact ⟨f1, by rw [upd_ne (hp p hm)]; exact f2, f3, f4, f5⟩
  · by_cases hb : b = a
    · subst hb
      rw [upd_same] at q
      cases q
      exact ⟨⟨oe, e1, hz, vs, hd⟩, ⟨oe, e1⟩, fun h1 h2 ⟨o, q1, q2⟩ k => ⟨o, k o q1, q2⟩⟩
    · rw [upd_ne hb] at q
      exact (I.hok b u q).stay (fun c v _ r => r) (fun c r => by rw [upd_ne (nn r)]; exact r) fun c xs r => by rw [upd_ne (nn r)]; exact r
/-- what the clause wishes: n in slot i, y in slot j -/
def wKeep (K : PySem.W.Frag) (c : Value) (i j : Nat) (nx : L2.St → Hp → Prop) : WX := fun cls d σ H => ∃ C, cls = .ref C ∧ PySem.W.exmOne K cls c = some true ∧ ∀ a, H a = none → nx (((σ.set i (some (.ref a))).set j (some (.ref a))).set i none) (upd H a (xob C a d))
theorem ps_try_keep {x n y : Str} {c : Value} {i j : Nat} {body : List Stmt} {np p1 p2 p3 pos pos2 : Pos} {tb : WX → TS} (hst : X.stack = X.env :: X.outer) (hfr : X.env.frame = some X.env.locals) (hex : X.ex = []) (hN : X.N.Nodup) (hi : X.N[i]? = some n) (hj : X.N[j]? = some y) (hln : X.env.kindOf n = some .local) (hly : X.env.scope.names.lookup y = some .local)
    (hdn : (n == ("__debug__" : Str)) = false := by decide) (hcn : (n == ("__classdict__" : Str)) = false := by decide) (hc : Names X x c)
    (hb : ∀ (W : WX) (pn : List (Addr × Obj)) (xe : Value → Shared → Prop), Takes (X.tr pn xe) W → PassesOwn (model X.prog X.w) X.A X.env xe → PSs (X.tr pn xe) body (tb W))
    (hsw : ∀ env, swapsWith (.Name n p1) (some (.Name y p2)) p3.line env = pure false := by intro _; rfl) :
    PS X (.Try body [.ExceptHandler (some (.Name x np)) (some n) [.Assign [.Name y p2] (.Name n p1) p3] pos2] [] [] pos) (fun D σ H => tb (wKeep X.K c i j D.nx) D σ H) := by
  refine ⟨fun pins s σ H D I h => ?_⟩
  have ok := I.ok
  have frA : X.A.frames = some (X.env :: X.outer) := by rw [ok.frames, hst]
  have locn : Loc X.env.scope n := .inl hln
  refine wpAny_Try_except ?_
  refine wpAny_mono ((hb (wKeep X.K c i j D.nx) (X.pn ++ pins) (fun e s1 => wpAny (model X.prog X.w) X.A (noteFrame e X.env) (fun _ s2 => wpAny (model X.prog X.w) X.A (setFlight e none) (fun _ s3 =>
    wpAny (model X.prog X.w) X.A (handleBy e X.env [.ExceptHandler (some (.Name x np)) (some n) [.Assign [.Name y p2] (.Name n p1) p3] pos2]) (SP X pins D) X.xe s3) X.xe s2) X.xe s1) (fun u s2 xx => ?_) PassesOwn.looking).run [] s σ H D (I.toTry _) h) (fun fl s1 hsp => ?_) (fun e s1 he => he)
  · obtain ⟨a, B, sI, pins2, σ2, H2, cls, d, rfl, J2, nb, up, sky, na, os, ag, C, rfl, hcatch, hnx⟩ := xx
    have J : Inv X pins σ2 H2 sI := J2.ofTry ok
    have sky2 : Sky B (X.env :: X.outer) a (Zc (.ref C) d) X.env.locals s2.heap := by rw [← hst]; exact sky
    show wpAny (model X.prog X.w) X.A (noteFrame (.ref a) X.env) _ _ _
    refine Sky.land Zc.steady frA hfr sky2 fun h3 fl3 up3 => ?_
    have J3 : Inv X pins σ2 H2 { s2 with heap := h3 } := J.landed nb fl3.1 (up.trans up3) os ag
    obtain ⟨oe3, vs3, he3, hz3, hd3⟩ := fl3.there
    have noFr : a ∉ frs (X.env :: X.outer) := fun hm => by
      obtain ⟨_, o2, eo, hnf⟩ := fl3.2.2.1.mem hm
      rw [he3] at eo
      cases eo
      exact hnf _ hd3
    have Bnone : B.get? a = none := fl3.2.1
    have sInone : sI.heap.get? a = none := by
      cases q : sI.heap.get? a with
      | none => rfl
      | some o =>
        have z := nb a o q (by rw [hst]; exact noFr)
        rw [Bnone] at z
        cases z
    have s0none : X.s_0.heap.get? a = none := by
      cases q : X.s_0.heap.get? a with
      | none => rfl
      | some o =>
        obtain ⟨o2, z⟩ := J.base.there a o q (by rw [hex]; exact fun z => nomatch z)
        rw [sInone] at z
        cases z
    have pinNe : ∀ p ∈ X.pn ++ pins, p.1 ≠ a := fun p hm z => by
      obtain ⟨q, _⟩ := J.pin p hm
      rw [z, sInone] at q
      cases q
    have nL : a ≠ X.env.locals := fun z => noFr (List.mem_filterMap.mpr ⟨X.env, List.mem_cons_self, by rw [hfr, z]⟩)
    have nF : a ∉ X.fs := fun hm => by
      obtain ⟨e2, he2, q⟩ := List.mem_filterMap.mp hm
      exact noFr (List.mem_filterMap.mpr ⟨e2, List.mem_cons_of_mem _ he2, q⟩)
    have S3 := J3.suite he3 hd3 na nL nF
    refine wpAny_handleBy_cons (codeAny_handlers_test ?_) (by intro q; cases q)
    have LT : PySem.W.Looks (model X.prog X.w) h3 (typeOf (.ref a)) (.ref C) := fun A2 Q2 E2 s5 k q => wpAny_typeOf_ref (k _ _ he3) (by rw [hz3.1]; exact q)
    have LM := PySem.W.exm_one (M := model X.prog X.w) J3.kIn LT hcatch
    have test : ∀ {Q2 : Value → Shared → Prop} {E2 : Value → Shared → Prop}, Q2 c { s2 with heap := h3 } → wpAny (model X.prog X.w) (X.A.mark (some (.ref a))) (eval (.Name x np) X.env) Q2 E2 { s2 with heap := h3 } := fun {Q2 E2} q => by
      obtain ⟨hg, hdbg, hm | ⟨hm, hv, hnn⟩⟩ := hc
      · exact ld_glob (X := X.suite a ((a, oe3) :: (X.pn ++ pins))) S3 hg hm q hdbg
      · exact ld_blt (X := X.suite a ((a, oe3) :: (X.pn ++ pins))) S3 hg hm hv q hnn hdbg
    refine test (LM.here ?_)
    refine codeAny_handlers_suite_as ?_
    refine HandSPX.lands_againZ fl3 fun h4 fl4 up4 => ?_
    have J4 : Inv X pins σ2 H2 { s2 with heap := h4 } := J.landed nb fl4.1 ((up.trans up3).trans up4) os ag
    obtain ⟨oe4, vs4, he4, hz4, hd4⟩ := fl4.there
    have S4 := J4.suite he4 hd4 na nL nF
    refine store_ok (X := X.suite a ((a, oe4) :: (X.pn ++ pins))) (v := .ref a) S4 hN hi locn rfl (fun s5 S5 => ?_) (.inr hln)
    have il : i < σ2.length := by
      have q := (List.getElem?_eq_some_iff.mp hi).1
      rw [J.len]
      exact q
    have body : PSs (X.suite a ((a, oe4) :: (X.pn ++ pins))) [.Assign [.Name y p2] (.Name n p1) p3] (tAsg (tVar i) (gName j)) := pss_one (ps_set hN hj (.inl hly) (pe_var hi (.inl hln) hdn hcn) (hsw _) (.inr hly))
    refine wpAny_mono (body.run [] s5 _ H2 { nx := fun σ6 H6 => σ6 = (σ2.set i (some (.ref a))).set j (some (.ref a)) ∧ H6 = H2, rt := fun _ _ => False } S5 ⟨_, List.getElem?_set_self il, rfl, rfl⟩) (fun fl s6 hsp => ?_) (fun _ _ z => z.elim)
    cases fl with
    | next =>
      obtain ⟨σ6, H6, S6, rfl, rfl⟩ := hsp
      have S7 : Inv X ((a, oe4) :: pins) ((σ2.set i (some (.ref a))).set j (some (.ref a))) H6 s6 := by
        refine ⟨ok, S6.os, S6.bare, S6.base, S6.loc, S6.cell, S6.free, S6.freeC, fun p hm => S6.pin p (List.mem_append_left _ ?_), S6.hok, S6.len⟩
        rcases List.mem_append.mp hm with z | z
        · exact List.mem_cons_of_mem _ (List.mem_append_left _ z)
        · rcases List.mem_cons.mp z with z | z
          · rw [z]; exact List.mem_cons_self
          · exact List.mem_cons_of_mem _ (List.mem_append_right _ z)
      exact gone_ok S7 hN hi hln fun s7 J7 => ⟨_, _, Inv.keepX J7 hz4 hd4 s0none pinNe, hnx a na⟩
    | brk => obtain ⟨_, _, _, z⟩ := hsp; exact z.elim
    | cont => obtain ⟨_, _, _, z⟩ := hsp; exact z.elim
    | ret u => obtain ⟨_, _, _, _, _, z⟩ := hsp; exact z.elim
  · cases fl with
    | next =>
      obtain ⟨σ2, H2, J2, q⟩ := hsp
      exact wpAny_execs_nil ⟨σ2, H2, J2.ofTry ok, q⟩
    | brk =>
      obtain ⟨σ2, H2, J2, q⟩ := hsp
      exact ⟨σ2, H2, J2.ofTry ok, q⟩
    | cont =>
      obtain ⟨σ2, H2, J2, q⟩ := hsp
      exact ⟨σ2, H2, J2.ofTry ok, q⟩
    | ret u =>
      obtain ⟨v, σ2, H2, J2, r, q⟩ := hsp
      exact ⟨v, σ2, H2, J2.ofTry ok, r, q⟩
end
def sTry (catch_ : Addr → Bool) (i j : Nat) (mb : SM) : SM := fun ρ s => match mb ρ s with
  | .ex C fs ρ' s' => if catch_ C = true ∧ i ≠ j then .nx ((ρ'.set j (some (.dat (.exc C fs)))).set i none) s' else .bad
  | r => r
theorem SlAt.setN {K : PySem.W.Frag} {Z : Option Zt} {H0 F H : Hp} {σ : L2.St} {ρ : Sls} (h : SlAt K Z H0 F H σ ρ) (i : Nat) (o : Option V) : SlAt K Z H0 F H (σ.set i o) (ρ.set i none) := by
  have ne : ∀ {j : Nat} {x : Sl}, (ρ.set i none)[j]? = some (some x) → i ≠ j ∧ ρ[j]? = some (some x) := fun {j x} q => by
    have hj : i ≠ j := fun z => by
      subst z
      by_cases hi : i < ρ.length
      · rw [List.getElem?_set_self hi] at q; cases q
      · rw [List.getElem?_eq_none (by rw [List.length_set]; omega)] at q; cases q
    rw [List.getElem?_set_ne hj] at q
    exact ⟨hj, q⟩
  have nw : ∀ {j : Nat} {e : D}, owns (ρ.set i none) j = some e → i ≠ j ∧ owns ρ j = some e := fun {j e} q => by
    have hj : i ≠ j := fun z => by
      subst z
      have := (owns_self q).2
      cases this
    rw [owns_ne hj] at q
    exact ⟨hj, q⟩
  refine ⟨by rw [List.length_set, List.length_set]; exact h.len, fun j d q => ?_, fun j xs q => ?_, fun j k xs ys b q1 q2 r1 r2 => ?_⟩
  · obtain ⟨hj, q⟩ := ne q
    obtain ⟨v, h1, h2⟩ := h.dat j d q
    exact ⟨v, by rw [List.getElem?_set_ne hj]; exact h1, h2⟩
  · obtain ⟨hj, q⟩ := nw q
    obtain ⟨b, vs, h1, h2⟩ := h.ow j xs q
    exact ⟨b, vs, by rw [List.getElem?_set_ne hj]; exact h1, h2⟩
  · obtain ⟨h1, q1⟩ := nw q1
    obtain ⟨h2, q2⟩ := nw q2
    rw [List.getElem?_set_ne h1] at r1
    rw [List.getElem?_set_ne h2] at r2
    exact h.ap j k xs ys b q1 q2 r1 r2
theorem ds_try {X : Cx} {W : WX} {st : Stmt} {c : Value} {i j : Nat} {catch_ : Addr → Bool} {mb : SM} (hcatch : ∀ C, catch_ C = true → PySem.W.exmOne X.K (.ref C) c = some true) (h : PS X st (fun D σ H => tS X.K (wKeep X.K c i j D.nx) mb D σ H)) : PS X st (tS X.K W (sTry catch_ i j mb)) := ps_weak h fun D σ H ⟨F0, H0, Z, F, ρ, s, a, h⟩ => by
  refine ⟨F0, H0, Z, F, ρ, s, a, ?_⟩
  unfold sTry at h
  cases q : mb ρ s with
  | bad => rw [q] at h; exact h
  | nx ρ2 s2 => rw [q] at h; exact h
  | bk ρ2 s2 => rw [q] at h; exact h
  | ct ρ2 s2 => rw [q] at h; exact h
  | rt d s2 => rw [q] at h; exact h
  | ex C fs ρ2 s2 =>
    rw [q] at h
    dsimp only at h
    split at h
    · rename_i hz
      intro F2 H2 σ2 dd e d2 l2 xd
      refine ⟨C, rfl, hcatch C hz.1, fun b hb => ?_⟩
      have b0 : At0 X.K Z F0 H0 F2 H2 σ2 ρ2 s2 := ⟨e, d2, l2⟩
      have e3 := Ext.new (Z := Z) (o := xob C b dd) e.fh hb
      have b1 := b0.go e3 (d2.new e.fh hb)
      have fb : F2 b = none := e.fh.free hb
      have av : At X.K (upd F2 b (xob C b dd)) Z (.ref b) (.exc C fs) := by
        rcases xd with ⟨rfl, rfl⟩ | ⟨d, ws, rfl, x1, x2, x3⟩
        · exact .exc0 upd_same
        · exact .exc upd_same (by rw [upd_ne (ne_of_none x2 fb)]; exact x2) (x3.mono (same_new e.fh hb))
      have b2 := b1.setD (i := j) av
      have b3 : At0 X.K Z F0 H0 (upd F2 b (xob C b dd)) (upd H2 b (xob C b dd)) ((σ2.set j (some (.ref b))).set i none) ((ρ2.set j (some (.dat (.exc C fs)))).set i none) s2 := ⟨b2.ext, b2.dr, b2.sl.setN i none⟩
      have es : ((σ2.set i (some (V.ref b))).set j (some (V.ref b))).set i none = (σ2.set j (some (V.ref b))).set i none := by
        rw [List.set_comm _ _ hz.2, List.set_set]
      rw [es]
      exact post_nx h b3
    · exact h.elim
end FL
set_option Elab.async false
set_option linter.all false
set_option maxRecDepth 100000
set_option maxHeartbeats 4000000
/-! ## FL, 11: small forms: a sign in a text, join, a written dict's get, a call by names alone, {k: v}, several names at once, whole parts -/
namespace FL
open PySem PySem.Spec PyProof.Rows L2
/-! ### c in s -/
theorem one_sign {a : Str} {k : Nat} (h : a.cps.toList = [k]) : a = ⟨#[k]⟩ := by
  obtain ⟨⟨l⟩⟩ := a
  dsimp only at h
  subst h
  rfl
theorem od_sign {K : PySem.W.Frag} : OpD K (fun x y H Q => ∃ (c : Nat) (z : Str), x = .str ⟨#[c]⟩ ∧ y = .str z ∧ Q (.bl (decide (c ∈ z.cps.toList))) H) (signF false) := fun F H Z s x y d e w Q hs hd ax ay h k => by
  unfold signF at h
  split at h
  · split at h
    · rename_i q
      cases h
      have e1 := one_sign q
      subst e1
      cases ax
      cases ay
      exact ⟨_, _, rfl, rfl, k F H _ (Ext.refl hs) hd (.bl _)⟩
    · cases h
  · cases h
theorem od_notSign {K : PySem.W.Frag} : OpD K (fun x y H Q => ∃ (c : Nat) (z : Str), x = .str ⟨#[c]⟩ ∧ y = .str z ∧ Q (.bl (!decide (c ∈ z.cps.toList))) H) (signF true) := fun F H Z s x y d e w Q hs hd ax ay h k => by
  unfold signF at h
  split at h
  · split at h
    · rename_i q
      cases h
      have e1 := one_sign q
      subst e1
      cases ax
      cases ay
      exact ⟨_, _, rfl, rfl, k F H _ (Ext.refl hs) hd (.bl _)⟩
    · cases h
  · cases h
/-! ### a // b -/
instance {i j : Int} : Decidable (CDivW i j) := by unfold CDivW; exact inferInstance
def divF : D → D → Option D := intF fun i j => if CDivW i j then some (.int (i / j)) else none
theorem od_div {K : PySem.W.Frag} : OpD K (rI CDivW fun i j => .int (i / j)) divF := od_intC fun i j w h => by
    split at h
    · rename_i hz
      cases h
      exact ⟨hz, fun _ _ _ => .int _⟩
    · cases h
/-! ### sep.join(list | tuple of texts) -/
def strsD : List D → Option (List Str)
  | [] => some []
  | .str b :: r => (strsD r).map (b :: ·)
  | _ => none
theorem strs_at {K : PySem.W.Frag} {F : Hp} {Z : Option Zt} : ∀ {vs : List V} {ts : List D} {ns : List Str}, AtAll K F Z vs ts → strsD ts = some ns → vs = ns.map V.str
  | _, [], _, .nil, e => by
    simp only [strsD, Option.some.injEq] at e
    subst e
    rfl
  | _, d :: ts, ns, .cons h k, e => by
    cases d with
    | str n =>
      unfold strsD at e
      rw [Option.map_eq_some_iff] at e
      obtain ⟨r, e, rfl⟩ := e
      rw [strs_at k e]
      cases h
      rfl
    | _ => simp [strsD] at e
def joinG (a : Str) (ts : List D) : Option D := (strsD ts).bind fun ys => if (ys.map (·.length)).sum + ys.length * a.length ≤ 16777216 then some (.str (Txt.join a ys)) else none
def joinF : D → D → Option D
  | .str a, .lst ts => joinG a ts
  | .str a, .tup ts => joinG a ts
  | _, _ => none
section
variable {X : Cx} {W : WX} {o e : Expr} {mo me : EM} {apos pos : Pos}
theorem joinG_inv {a : Str} {ts : List D} {g : D} (h : joinG a ts = some g) : ∃ ys, strsD ts = some ys ∧ (ys.map (·.length)).sum + ys.length * a.length ≤ 16777216 ∧ g = .str (Txt.join a ys) := by
  unfold joinG at h
  rw [Option.bind_eq_some_iff] at h
  obtain ⟨ys, e, h⟩ := h
  split at h
  · rename_i hz
    cases h
    exact ⟨ys, e, hz, rfl⟩
  · cases h
def eJoin (mo me : EM) : EM := fun ρ s => (mo ρ s).bind fun x s1 => match x with
  | .str a => (me ρ s1).bind fun y s2 => lift (joinF (.str a) y) s2
  | _ => .bad
theorem de_join (ho : PE X o (tE X.K W mo)) (he : PE X e (tE X.K W me)) (hs : starEach [e] X.env = [(false, eval e X.env)] := by rfl) (hbase : attributeBase o "join" X.env (eval o X.env) = eval o X.env := by rfl) (hline : (apos.endLine == pos.line) = true := by rfl) :
    PE X (.Call (.Attribute o "join" apos) [e] [] pos) (tE X.K W (eJoin mo me)) := pe_weak (pe_join ho he hs hbase hline) fun σ H Q ⟨F, Z, ρ, s, hs, he, hd, h⟩ => by
  refine tE_then hs he hd h fun x s1 F1 H1 v1 e1 he1 hd1 a1 h => ?_
  cases x with
  | str a =>
    refine ⟨⟨a, at_str a1⟩, ?_⟩
    refine tE_then e1.fh he1 hd1 h fun y s2 F2 H2 v2 e2 he2 hd2 a2 h => ?_
    obtain ⟨g, hg, k⟩ := post_now h
    unfold joinF at hg
    split at hg
    · rename_i q
      cases q
      obtain ⟨ys, q1, q2, rfl⟩ := joinG_inv hg
      cases a2 with
      | lst h1 k1 =>
        have e3 := strs_at k1 q1
        subst e3
        exact ⟨_, _, ys, at_str a1, rfl, .inl (.of (e2.fh _ _ h1)), q2, k F2 H2 _ (Ext.refl e2.fh) hd2 (.str _)⟩
    · rename_i q
      cases q
      obtain ⟨ys, q1, q2, rfl⟩ := joinG_inv hg
      cases a2 with
      | tup h1 k1 =>
        have e3 := strs_at k1 q1
        subst e3
        exact ⟨_, _, ys, at_str a1, rfl, .inr (.of (e2.fh _ _ h1)), q2, k F2 H2 _ (Ext.refl e2.fh) hd2 (.str _)⟩
    · cases hg
  | _ => exact h.elim
/-! ### TABLE.get(x), a dict written in the module -/
def getF (tab : Str → Option D) : D → Option D
  | .str z => tab z
  | _ => none
theorem de_getK {d : Addr} {es : Array DictEntry} {n : Nat} {tab : Str → Option D} (D1 : KDict X.K X.w d es n) (ho : PE X o (tC (.ref d))) (he : PE X e (tE X.K W me))
    (ht : ∀ z g, tab z = some g → ∃ r v, PySem.W.nsIn X.K d z = some r ∧ RelV v (r.getD .none) ∧ ∀ F Z, At X.K F Z v g)
    (hbase : attributeBase o "get" X.env (eval o X.env) = eval o X.env := by rfl)
    (hfew : ((backTo pos (starEach [e] X.env)).all (fun x => !x.1) && (backToKw pos (keywordEach [] X.env)).all (fun x => x.1.isSome)
      && decide (([e] : List Expr).length + ([] : List Keyword).length + (if ([] : List Keyword).isEmpty then 0 else 1) < 30)) = true := by rfl)
    (hline : (apos.endLine == pos.line) = true := by rfl) (hs : starEach [e] X.env = (false, eval e X.env) :: starEach [] X.env := by rfl) (hplain : (backTo pos (starEach [] X.env)).any (·.1) = false := by rfl) :
    PE X (.Call (.Attribute o "get" apos) [e] [] pos) (tE X.K W (eUn (getF tab) me)) := by
  refine ⟨fun pins s σ H Q I hh => ?_⟩
  refine wpAny_Call_method_late hbase hfew hline rfl (thn (ho.run pins s σ H (fun x H1 => x = .ref d ∧ tE X.K W (eUn (getF tab) me) σ H1 Q) I ⟨rfl, hh⟩) fun v s1 ⟨x, H1, I1, r1, ex, h⟩ => ?_)
  subst ex
  cases r1
  have hm := fun {s : Shared} (k : X.K.In s.heap) => PySem.W.mapOf_K (prog := X.prog) (w := X.w) k D1.at_ D1.lit
  refine ⟨"dict", "dict.get", PySem.F.plainAttrs_dict, PySem.F.slot_dict_get, PySem.F.type_dict_get, (hm I1.kIn).typeIs, (hm I1.kIn).noDict, ?_⟩
  have hA := (da_cons (W := W) he (da_nil (W := W)) hs).run pos pins s1 σ H1 (fun xs H2 => ∃ z r v, xs = [.str z] ∧ PySem.W.nsIn X.K d z = some r ∧ RelV v (r.getD .none) ∧ Q v H2) I1 ?_
  · rw [hs] at hA ⊢
    refine Calls.callWith_builtin (by show (false || (backTo pos (starEach [] X.env)).any (·.1)) = false; rw [hplain] <;> rfl) (Calls.evalArgs_plain ?_)
    refine thn hA fun us s2 ⟨vs, H2, I2, r2, z, r, v, ev, hn, rv, q⟩ => ?_
    subst ev
    cases r2 with
    | cons r3 r4 =>
      cases r4
      obtain ⟨t, rfl⟩ := r3
      refine call_meetsIn PySem.F.slot_dict_get (hm I2.kIn).typeIs PySem.F.entry_dict_get (PySem.F.args_dict_get_2 _ _) (meets_dict_get (strKind X.prog X.w) d (PySem.strKind_is X.prog X.w z t) D1.low) ⟨_, hm I2.kIn, ?_⟩
      rw [PySem.W.find_K D1.at_ hn]
      exact ⟨v, H2, I2.tok _, rv, q⟩
  · obtain ⟨F, Z, ρ, s, hs, he, hd, h⟩ := h
    refine ⟨F, Z, ρ, s, hs, he, hd, ?_⟩
    unfold eUn at h
    unfold aCons aNil
    cases q : me ρ s with
    | bad => rw [q] at h; exact h.elim
    | ex C fs s2 => rw [q] at h; exact h
    | ok y s2 =>
      rw [q] at h
      intro F2 H2 v2 e2 hd2 a2
      obtain ⟨g, hg, k⟩ := post_now (o := getF tab y) (s := s2) h
      obtain ⟨w, rfl, a3⟩ := one_inv a2
      unfold getF at hg
      split at hg
      · cases a3
        obtain ⟨r, v, n1, n2, n3⟩ := ht _ _ hg
        exact ⟨_, r, v, rfl, n1, n2, k F2 H2 v e2 hd2 (n3 _ _)⟩
      · cases hg
end
/-! ### f(k = v, ..) -/
section
variable {X : Cx} {W : WX} {k : Nat} {f : Addr} {fd : FuncData} {ps ks : List Str} {mf : FM} {x : Str} {p pos kpos : Pos} {e : Expr} {es : List Expr} {kws : List Keyword} {ma mk : AM} {me : EM} {nm : Option Str}
def tKw (K : PySem.W.Frag) (W : WX) (m : AM) : TA := tA K W m
theorem pk_weak {t t' : TA} (h : PK X kws t) (k : ∀ σ H Q, t' σ H Q → t σ H Q) : PK X kws t' := ⟨fun pos pins s σ H Q I q => h.run pos pins s σ H Q I (k σ H Q q)⟩
theorem dk_nil : PK X [] (tA X.K W aNil) := pk_weak pk_nil fun σ H Q ⟨F, Z, ρ, s, hs, he, hd, h⟩ => h F H _ (Ext.refl hs) hd .nil
theorem dk_cons (ha : PE X e (tE X.K W me)) (hr : PK X kws (tA X.K W ma)) : PK X (⟨nm, e, kpos⟩ :: kws) (tA X.K W (aCons me ma)) :=
  pk_weak (pk_cons ha hr) fun σ H Q ⟨F, Z, ρ, s, hs, he, hd, h⟩ => by
  refine tE_then hs he hd h fun x s1 F1 H1 v1 e1 he1 hd1 a1 h => ?_
  refine tA_then e1.fh he1 hd1 h fun xs s2 F2 H2 vs e2 he2 hd2 a2 h => ?_
  exact h F2 H2 _ (Ext.refl e2.fh) hd2 (.cons (a1.mono e2.f) a2)
theorem run_GK {pins : List (Addr × Obj)} {σ : L2.St} {H : Hp} {s : Shared} {Q : VK} {ws : List Value} {zs : List V} (G : FnG X.prog X.w X.K X.mg X.base k f fd ps mf) (hr : Rm k X.A) (hb : ∀ (s : Shared) (us : List Value), X.K.In s.heap → us.length = ps.length → BindsTo s fd ⟨[], ks.zip us⟩ (ps.zip us))
    (hx : PassesAt (L2.CX X.prog X.w) X σ (WE W σ)) (I : Inv X pins σ H s) (r : Vals zs ws) (h : spD X.K mf zs H Q (WE W σ)) : wpAny (model X.prog X.w) X.A (call (.ref f) [] (ks.zip ws)) (EP X pins σ Q) X.xe s := by
  have hl : ws.length = ps.length := by rw [← r.length]; exact sp_len G h
  refine wpAny_call (codeAny_mono (G.go X.A X.stack s H ⟨[], ks.zip ws⟩ ws zs Q (WE W σ) hr I.env0 (hb s ws I.kIn hl) r h) fun rr s2 hq => ?_)
  cases rr with
  | error er => exact hx pins H s er s2 I hq
  | ok fl =>
    cases fl with
    | ret u => exact I.after hq
    | next => exact hq.elim
    | brk => exact hq.elim
    | cont => exact hq.elim
theorem de_callK (G : FnG X.prog X.w X.K X.mg X.base k f fd ps mf) (hr : Rm k X.A) (hg : Gl X x) (hm : X.mg x = some (.ref f)) (hk : PySem.W.keepIn X.K (.ref f) = true)
    (hb : ∀ (s : Shared) (us : List Value), X.K.In s.heap → us.length = ps.length → BindsTo s fd ⟨[], ks.zip us⟩ (ps.zip us)) (hx : ∀ σ, PassesAt (L2.CX X.prog X.w) X σ (WE W σ)) (hkw : PK X kws (tA X.K W ma))
    (hall : (backToKw pos (keywordEach kws X.env)).all (·.1.isSome) = true := by rfl) (hks : (backToKw pos (keywordEach kws X.env)).filterMap (·.1) = ks := by rfl) (hdb : (x == ("__debug__" : Str)) = false := by decide)
    (hpl : ((backTo pos (starEach [] X.env)).any (·.1) || (backToKw pos (keywordEach kws X.env)).any (·.1.isNone)) = false := by rfl) :
    PE X (.Call (.Name x p) [] kws pos) (tE X.K W (eCall mf ma)) := by
  refine ⟨fun pins s σ H Q I h => ?_⟩
  refine wpAny_Call_Name_kw (ld_glob I hg hm ?_ hdb)
  obtain ⟨F, Z, ρ, s', hs, he, hd, h⟩ := h
  refine PySem.W.callWith_KW0 (h₀ := X.base) I.ok.mod.kin hk hall (thn (hkw.run pos pins s σ H (fun zs H2 => spD X.K mf zs H2 Q (WE W σ)) I ?_) fun ws s2 ⟨zs, H2, I2, rz, q2⟩ => ⟨I2.kIn, ?_⟩) hpl
  · exact tA_then hs he hd h fun ds s1 F1 H1 vs e1 he1 hd1 a1 h => ⟨F1, Z, ds, s1, e1.fh, a1, hd1, post_wish h fun _ _ _ q => q⟩
  · rw [hks]
    exact run_GK G hr hb (hx σ) I2 rz q2
end
/-! ### {k: v} -/
def eDisp1 (mk mv : EM) : EM := fun ρ s => (mk ρ s).bind fun x s1 => match x with
  | .str z => (mv ρ s1).bind fun y s2 => .ok (.dic [(.inr z, y)]) s2
  | _ => .bad
section
variable {X : Cx} {W : WX} {k v : Expr} {mk mv : EM} {pos : Pos}
theorem de_disp1 (hk : PE X k (tE X.K W mk)) (hv : PE X v (tE X.K W mv)) : PE X (.Dict [some k] [v] pos) (tE X.K W (eDisp1 mk mv)) := pe_weak (pe_disp (pps_cons hk hv pps_nil) rfl rfl (by simp) (Nat.le_add_left 1 14)) fun σ H Q ⟨F, Z, ρ, s, hs, he, hd, h⟩ => by
  intro p hp
  have e0 : Ext Z F H F (upd H p (.dK [])) := Ext.newH hs hp
  have fp : F p = none := hs.free hp
  have hd0 : DrAt Z F (upd H p (.dK [])) s := hd.newH hs hp
  have nDr : ¬ DrA Z p := fun z => by
    cases Z with
    | none => exact z
    | some z' =>
      obtain ⟨_, d2, d3, _⟩ := hd.1
      rcases z with z | z
      · rw [← z, hp] at d2; cases d2
      · rw [← z, hp] at d3; cases d3
  have up : ∀ {r : RE D}, PostE X.K W Z F H σ r Q → Post (α := D) (β := V) (fun K F Z v d => At K F Z v d) X.K W Z F (upd H p (.dK [])) σ r (fun v H2 => ∀ F2, Ext Z F (upd H p (.dK [])) F2 H2 → True → Q v H2) := fun {r} q => by
    cases r with
    | bad => exact q
    | ok d s' => exact fun F' H' v e hd' a F2 _ _ => q F' H' v (e0.trans e) hd' a
    | ex C fs s' => exact fun F' H' v e => q F' H' v (e0.trans e)
  have h2 := h
  unfold eDisp1 at h2
  show tE X.K W mk σ (upd H p (.dK [])) _
  refine ⟨F, Z, ρ, s, e0.fh, he, hd0, ?_⟩
  cases q : mk ρ s with
  | bad => rw [q] at h2; exact h2.elim
  | ex C fs s1 => rw [q] at h2; exact fun F' H' v e => h2 F' H' v (e0.trans e)
  | ok x s1 =>
    rw [q] at h2
    intro F1 H1 v1 e1 hd1 a1
    cases x with
    | str z =>
      replace h2 : PostE X.K W Z F H σ ((mv ρ s1).bind fun y s2 => .ok (.dic [(.inr z, y)]) s2) Q := h2
      show tE X.K W mv σ H1 _
      refine ⟨F1, Z, ρ, s1, e1.fh, he.mono e1.f, hd1, ?_⟩
      cases q2 : mv ρ s1 with
      | bad => rw [q2] at h2; exact h2.elim
      | ex C fs s2 => rw [q2] at h2; exact fun F' H' v e => h2 F' H' v (e0.trans (e1.trans e))
      | ok y s2 =>
        rw [q2] at h2
        intro F2 H2 v2 e2 hd2 a2
        have e12 := e1.trans e2
        have fp2 : F2 p = none := e12.n p _ fp upd_same
        have hp2 : H2 p = some (.dK []) := by
          obtain ⟨o', h7, h8⟩ := e12.h p _ upd_same
          rw [h7, h8 nDr (.inr fun ps z => by cases z)]
        have e1z := at_str a1
        subst e1z
        refine ⟨hp2, [(.inr z, v2)], rfl, Nat.le_add_left 1 14, ?_⟩
        show Q (.ref p) (upd H2 p (.dK [(.inr z, v2)]))
        have sF : Same F2 (upd F2 p (.dK [(.inr z, v2)])) := fun a o e => by rw [upd_ne fun z => by rw [z, fp2] at e; cases e]; exact e
        refine h2 (upd F2 p (.dK [(.inr z, v2)])) _ _ ⟨(e0.trans e12).f.trans sF, fun a o e => ?_, fun a o e => ?_, fun a o r1 r2 => ?_⟩ ?_ (.dic upd_same (.cons (a2.mono sF) .nil))
        · by_cases hz : a = p
          · subst hz
            rw [upd_same] at e ⊢
            exact e
          · rw [upd_ne hz] at e ⊢
            exact e12.fh _ _ e
        · obtain ⟨o', h7, h8⟩ := (e0.trans e12).h a o e
          refine ⟨o', ?_, h8⟩
          rw [upd_ne fun z => by rw [z, hp] at e; cases e]
          exact h7
        · rw [upd_ne fun z => by rw [z, hp] at r2; cases r2]
          exact (e0.trans e12).n a o r1 r2
        · refine ⟨?_, (hd2.2.1.chgK hp2).move (fun b ps e => e) sF (fun t ht => ?_), fun F3 g => hd2.2.2 F3 (sF.trans g)⟩
          · cases Z with
            | none => exact hd2.1
            | some z' =>
              obtain ⟨d1, d2, d3, d4, d5⟩ := hd2.1
              refine ⟨d1, ?_, ?_, ?_, ?_⟩
              · rw [upd_ne fun e => nDr (.inl e.symm)]; exact d2
              · rw [upd_ne fun e => nDr (.inr e.symm)]; exact d3
              · rw [upd_ne fun e => nDr (.inl e.symm)]; exact d4
              · rw [upd_ne fun e => nDr (.inr e.symm)]; exact d5
          · obtain ⟨ps, e⟩ := hd2.2.1.tbl ht
            rw [upd_ne fun z => by rw [z, hp2] at e; cases e]
            exact hd2.2.1.2 t ht
    | _ => exact h2.elim
end
/-! ### a, b = x, y -/
def sPar (is : List Nat) (m : AM) : SM := fun ρ s => after (runA m ρ s) ρ fun ds s' => match bs is ds ρ with
  | some ρ' => .nx ρ' s'
  | none => .bad
section
variable {X : Cx} {W : WX} {st : Stmt} {m : AM} {i j l : Nat}
theorem ds_par2 (h : PS X st (tPar i j (tA X.K W m))) : PS X st (tS X.K W (sPar [i, j] m)) := ps_weak h fun D σ H ⟨F0, H0, Z, F, ρ, s, a, h⟩ =>
  runA_read a (after_post a h fun d s' F' H' vs a' _ av p => by
    cases q : bs [i, j] d ρ with
    | none => rw [q] at p; exact p.elim
    | some ρ' =>
      rw [q] at p
      match d, q, av with
      | [x, y], q, av =>
        obtain ⟨v, w, rfl, a1, a2⟩ := two_inv av
        cases q
        exact ⟨v, w, rfl, post_nx p ((a'.setD a1).setD a2)⟩)
theorem ds_par3 (h : PS X st (tPar3 i j l (tA X.K W m))) : PS X st (tS X.K W (sPar [i, j, l] m)) := ps_weak h fun D σ H ⟨F0, H0, Z, F, ρ, s, a, h⟩ =>
  runA_read a (after_post a h fun d s' F' H' vs a' _ av p => by
    cases q : bs [i, j, l] d ρ with
    | none => rw [q] at p; exact p.elim
    | some ρ' =>
      rw [q] at p
      match d, q, av with
      | [x, y, z], q, av =>
        cases q
        cases av with
        | cons a1 av => cases av with
          | cons a2 av => cases av with
            | cons a3 av =>
              cases av
              exact ⟨_, _, _, rfl, post_nx p (((a'.setD a1).setD a2).setD a3)⟩)
/-- the second (of two) is a new list of one's own, empty -/
def sParO (i j : Nat) (m : EM) : SM := fun ρ s => after (runD m ρ s) ρ fun d s' => .nx ((ρ.set i (some (.dat d))).set j (some (.own []))) s'
theorem ds_parO {me : EM} (h : PS X st (tPar i j (tCons (tE X.K W me) (tCons (tLst tNil) tNil)))) : PS X st (tS X.K W (sParO i j me)) := ps_weak h fun D σ H ⟨F0, H0, Z, F, ρ, s, a, h⟩ =>
  run_read a (after_post a h fun d s' F' H' v a' _ av p => ⟨Nat.zero_le _, fun q hq => ⟨_, _, rfl, post_nx p (SlAt.setO (a'.setD av) hq .nil)⟩⟩)
/-- x = list(e), a list of one's own -/
def listG : List D → Option (List D)
  | [.lst xs] => some xs
  | [.tup xs] => some xs
  | _ => none
def sOwnL (i : Nat) (m : AM) : SM := fun ρ s => after (runA m ρ s) ρ fun ds s' => match listG ds with
  | some xs => .nx (ρ.set i (some (.own xs))) s'
  | none => .bad
theorem ds_ownL (h : PS X st (tAsg (tCB (fun xs H Q => ∃ p ys, xs = [.ref p] ∧ (SqL X.K H p ys ∨ SqT X.K H p ys) ∧ ∀ l, H l = none → Q (.ref l) (upd H l (.lst ys))) (tA X.K W m)) (gName i))) : PS X st (tS X.K W (sOwnL i m)) := ps_weak h fun D σ H ⟨F0, H0, Z, F, ρ, s, a, h⟩ =>
  runA_read a (after_post a h fun d s' F' H' vs a' _ av p => by
    cases q : listG d with
    | none => rw [q] at p; exact p.elim
    | some xs =>
      rw [q] at p
      unfold listG at q
      split at q
      · cases q
        obtain ⟨v, rfl, a1⟩ := one_inv av
        cases a1 with
        | lst h1 k1 => exact ⟨_, _, rfl, .inl (.of (a'.ext.fh _ _ h1)), fun l hl => post_nx p (SlAt.setO a' hl k1)⟩
      · cases q
        obtain ⟨v, rfl, a1⟩ := one_inv av
        cases a1 with
        | tup h1 k1 => exact ⟨_, _, rfl, .inr (.of (a'.ext.fh _ _ h1)), fun l hl => post_nx p (SlAt.setO a' hl k1)⟩
      · cases q)
/-- x[e1], x[e2] = a, b -/
def setAt (i : Nat) (d k : D) (ρ : Sls) : Option Sls := match ρ[i]?, k with
  | some (some (.own xs)), .int n => (ixN xs.length n).map fun j => ρ.set i (some (.own (xs.set j d)))
  | _, _ => none
def oS (o : Option Sls) (k : Sls → RS) : RS := match o with
  | some ρ => k ρ
  | none => .bad
def sSwap (i : Nat) (m : AM) (m1 m2 : EM) : SM := fun ρ s => match ρ[i]? with
  | some (some (.own _)) => after (runA m ρ s) ρ fun ds s' => match ds with
    | [x, y] => after (runD m1 ρ s') ρ fun k1 s1 => oS (setAt i x k1 ρ) fun ρ1 => after (runD m2 ρ1 s1) ρ1 fun k2 s2 => oS (setAt i y k2 ρ1) fun ρ2 => .nx ρ2 s2
    | _ => .bad
  | _ => .bad
theorem setAt_read {Z : Option Zt} {F0 H0 F H : Hp} {σ : L2.St} {ρ ρ' : Sls} {s : S} {d k : D} {v w : V} {Q : Hp → Prop} (a : At0 X.K Z F0 H0 F H σ ρ s) (av : At X.K F Z v d) (aw : At X.K F Z w k) (e : setAt i d k ρ = some ρ') {p : V} (hp : σ[i]? = some (some p))
    (hk : ∀ H', At0 X.K Z F0 H0 F H' σ ρ' s → Q H') : rSetL p w v H Q := by
  unfold setAt at e
  split at e
  · rename_i xs n q
    rw [Option.map_eq_some_iff] at e
    obtain ⟨j, hj, rfl⟩ := e
    obtain ⟨p', vs', u1, u2, u3, _⟩ := a.sl.own i xs q
    rw [hp] at u1
    cases u1
    cases at_int aw
    exact ⟨_, vs', n, j, rfl, rfl, u2, by rw [u3.length]; exact hj, hk _ (SlAt.chg a q hp (u3.set j av))⟩
  · cases e
theorem own_slot {Z : Option Zt} {F0 H0 F H : Hp} {σ : L2.St} {ρ ρ' : Sls} {s : S} {d k : D} (a : At0 X.K Z F0 H0 F H σ ρ s) (e : setAt i d k ρ = some ρ') : ∃ p, σ[i]? = some (some p) := by
  unfold setAt at e
  split at e
  · rename_i xs n q
    obtain ⟨p', vs', u1, _⟩ := a.sl.own i xs q
    exact ⟨_, u1⟩
  · cases e
theorem ds_swap {m1 m2 : EM} (h : PS X st (tAsg (tTup (tA X.K W m)) (gTup X.K 2 (gCons (gSub (tVar i) (tE X.K W m1) rSetL) (gCons (gSub (tVar i) (tE X.K W m2) rSetL) gNil))))) : PS X st (tS X.K W (sSwap i m m1 m2)) := ps_weak h fun D σ H ⟨F0, H0, Z, F, ρ, s, a, h⟩ => by
  unfold sSwap at h
  split at h
  · rename_i xs0 q0
    obtain ⟨p0, vs0, u0, _⟩ := a.sl.own i xs0 q0
    refine runA_read a (after_post a h fun d s' F' H' vs a' _ av p => ?_)
    match d, av, p with
    | [x, y], av, p =>
      obtain ⟨v, w, rfl, a1, a2⟩ := two_inv av
      refine ⟨by show 2 ≤ sizeLine; decide, fun t ht => ?_⟩
      have ex := Ext.new (Z := Z) (o := HO.tup [v, w]) a'.ext.fh ht
      have b := a'.go ex (a'.dr.new a'.ext.fh ht)
      have a1 := a1.mono ex.f
      have a2 := a2.mono ex.f
      refine ⟨t, [v, w], rfl, .of upd_same, rfl, v, [w], rfl, V.ref p0, u0, ?_⟩
      refine run_read b (after_post b p fun k1 s1 F1 H1 w1 b1 e1 aw1 p => ?_)
      cases q1 : setAt i x k1 ρ with
      | none => rw [q1] at p; exact p.elim
      | some ρ1 =>
        rw [q1] at p
        refine setAt_read b1 (a1.mono e1.f) aw1 q1 u0 fun H2 b2 => ⟨w, [], rfl, V.ref p0, u0, ?_⟩
        refine run_read b2 (after_post b2 p fun k2 s2 F3 H3 w3 b3 e3 aw3 p => ?_)
        cases q2 : setAt i y k2 ρ1 with
        | none => rw [q2] at p; exact p.elim
        | some ρ2 =>
          rw [q2] at p
          exact setAt_read b3 ((a2.mono e1.f).mono e3.f) aw3 q2 u0 fun H4 b4 => ⟨rfl, post_nx p b4⟩
  · exact h.elim
end
end FL
set_option Elab.async false
set_option linter.all false
set_option maxRecDepth 100000
set_option maxHeartbeats 4000000
/-! ## FL, 12: the draw -/
namespace FL
open PySem PySem.Spec PyProof.Rows L2
/-- one number from 0 on, below n, and the draw behind it -/
def takeS (s : S) (n : Int) : Option (Int × S) :=
  if 0 < n ∧ n < 18446744073709551616 ∧ -18446744073709551616 < s.mix ∧ s.mix < 18446744073709551616 ∧ 0 < s.cells.length then
    match s.cells[(s.pos % (s.cells.length : Int)).toNat]? with
    | some c => if 1000000000000000000 ≤ c then some (c % n, { s with cells := s.cells.set (s.pos % (s.cells.length : Int)).toNat (c / n) })
      else some ((s.mix * 48271 + c + 12345) % 2147483647 * ((s.mix * 48271 + c + 12345) % 2147483647) % 2147483629 / 16 % n, { s with pos := s.pos + 1, mix := (s.mix * 48271 + c + 12345) % 2147483647 })
    | none => none
  else none
def mTake : SM := fun ρ s => match ρ with
  | [some (.dat .drw), some (.dat (.int n)), none, none, none] => match takeS s n with
    | some (r, s') => .rt (.int r) s'
    | none => .bad
  | _ => .bad
abbrev rAI : R2 := rI0 fun i j => .int (i + j)
abbrev rMI : R2 := rI CMul fun i j => .int (i * j)
abbrev rRI : R2 := rI (fun _ j => 0 < j) fun i j => .int (i % j)
abbrev rDI : R2 := rI CDivW fun i j => .int (i / j)
def t_take (K : PySem.W.Frag) : TS :=
  tSeq (tAsg (tOp (rIx K) (tVar 0) (tC (.int 0))) (gName 2)) (
  tSeq (tAsg (tOp rRI (tOp (rIx K) (tVar 0) (tC (.int 1))) (tCB (fun xs H Q => ∃ x n, xs = [x] ∧ LenV K x H n ∧ Q (.int n) H) (tCons (tVar 2) tNil))) (gName 3)) (
  tSeq (tAsg (tOp (rIx K) (tVar 2) (tVar 3)) (gName 4)) (
  tSeq (tIfS (tTest (tOp (rI0 fun i j => .bl (decide (j ≤ i))) (tVar 4) (tOp (rI CPow fun i j => .int (i ^ j.toNat)) (tC (.int 10)) (tC (.int 18)))))
    (tSeq (tAsg (tOp rDI (tVar 4) (tVar 1)) (gSub (tVar 2) (tVar 3) rSetL)) (tRet (tOp rRI (tVar 4) (tVar 1)))) tNext) (
  tSeq (tAsg (tOp rAI (tOp (rIx K) (tVar 0) (tC (.int 1))) (tC (.int 1))) (gSub (tVar 0) (tC (.int 1)) rSetL)) (
  tSeq (tAsg (tOp rRI (tOp rAI (tOp rAI (tOp rMI (tOp (rIx K) (tVar 0) (tC (.int 2))) (tC (.int 48271))) (tVar 4)) (tC (.int 12345))) (tC (.int 2147483647))) (gSub (tVar 0) (tC (.int 2)) rSetL)) (
  tRet (tOp rRI (tOp rDI (tOp rRI (tOp rMI (tOp (rIx K) (tVar 0) (tC (.int 2))) (tOp (rIx K) (tVar 0) (tC (.int 2)))) (tC (.int 2147483629))) (tC (.int 16))) (tVar 1))))))))
theorem ix_in {n : Nat} {i : Int} (h0 : 0 ≤ i) (h1 : i < n) : ixN n i = some i.toNat := by
  unfold ixN
  rw [if_pos h0, if_pos h1]
theorem draw_chg {K : PySem.W.Frag} {z : Zt} {F0 H0 F H H' : Hp} {σ : L2.St} {ρ : Sls} {s : S} (a : At0 K (some z) F0 H0 F H σ ρ s) (h : ∀ b, b ≠ z.dr → b ≠ z.cl → H' b = H b) (hd : ∃ o, H' z.dr = some o) (hc : ∃ o, H' z.cl = some o) : Ext (some z) F0 H0 F H' := by
  obtain ⟨d1, d2, d3, d4, d5⟩ := a.dr.1
  refine ⟨a.ext.f, fun b o e => ?_, fun b o e => ?_, a.ext.n⟩
  · have n1 : b ≠ z.dr := fun q => by rw [q, d4] at e; cases e
    have n2 : b ≠ z.cl := fun q => by rw [q, d5] at e; cases e
    rw [h b n1 n2]
    exact a.ext.fh b o e
  · obtain ⟨o', e1, e2⟩ := a.ext.h b o e
    by_cases n1 : b = z.dr
    · subst n1
      obtain ⟨o2, q⟩ := hd
      exact ⟨o2, q, fun nd => absurd (.inl rfl) nd⟩
    · by_cases n2 : b = z.cl
      · subst n2
        obtain ⟨o2, q⟩ := hc
        exact ⟨o2, q, fun nd => absurd (.inr rfl) nd⟩
      · exact ⟨o', by rw [h b n1 n2]; exact e1, e2⟩
theorem take_read {K : PySem.W.Frag} {W : WX} : ∀ D σ H, tS K W mTake D σ H → t_take K D σ H := by
  rintro D σ H ⟨F0, H0, Z, F, ρ, s, a, h⟩
  unfold mTake at h
  split at h
  · rename_i n
    obtain ⟨v0, e0, a0⟩ := a.sl.dat 0 _ rfl
    obtain ⟨v1, e1, a1⟩ := a.sl.dat 1 _ rfl
    cases at_int a1
    cases Z with
    | none => cases a0 with | drw q => cases q
    | some z =>
      have hv : v0 = .ref z.dr := by
        cases a0 with
        | drw q => cases q; rfl
      subst hv
      have hl := a.sl.len
      obtain ⟨d1, d2, d3, d4, d5⟩ := a.dr.1
      match σ, hl, e0, e1, a, d2, d3 with
      | [x0, x1, x2, x3, x4], hl, e0, e1, a, d2, d3 =>
        cases e0
        cases e1
        cases q : takeS s n with
        | none => rw [q] at h; exact h.elim
        | some p =>
        obtain ⟨r, s'⟩ := p
        rw [q] at h
        replace h : PostS K W (some z) F0 H0 D (.rt (.int r) s') := h
        unfold takeS at q
        split at q
        · rename_i hc
          obtain ⟨c1, c2, c3, c4, c5⟩ := hc
          have hL : (0 : Int) < (s.cells.length : Int) := by exact_mod_cast c5
          have hm := Int.emod_nonneg s.pos (Int.ne_of_gt hL)
          have hm2 := Int.emod_lt_of_pos s.pos hL
          generalize hat : s.pos % (s.cells.length : Int) = at_ at hm hm2 q
          have hN : at_.toNat < s.cells.length := by omega
          cases hcell : s.cells[at_.toNat]? with
          | none => rw [hcell] at q; cases q
          | some cell =>
            rw [hcell] at q
            dsimp only at q
            have hix : ixN s.cells.length at_ = some at_.toNat := ix_in hm hm2
            have hix' : ixN (s.cells.map V.int).length at_ = some at_.toNat := by rw [List.length_map]; exact hix
            have hatI : atI (s.cells.map V.int) at_ = some (.int cell) := by
              unfold atI
              rw [hix']
              show (s.cells.map V.int)[at_.toNat]? = _
              rw [List.getElem?_map, hcell]
              rfl
            refine ⟨.ref z.dr, rfl, .inl ⟨z.dr, _, 0, .ref z.cl, rfl, rfl, .of d2, rfl, ?_⟩⟩
            refine ⟨.ref z.dr, rfl, .inl ⟨z.dr, _, 1, .int s.pos, rfl, rfl, .of d2, rfl, .ref z.cl, rfl, .ref z.cl, (s.cells.map V.int).length, rfl, .inl ⟨_, .of d3, rfl⟩, s.pos, _, rfl, rfl, by rw [List.length_map]; exact hL, ?_⟩⟩
            rw [List.length_map]
            dsimp only
            rw [hat]
            refine ⟨.ref z.cl, rfl, .int at_, rfl, .inl ⟨z.cl, _, at_, .int cell, rfl, rfl, .of d3, hatI, ?_⟩⟩
            refine ⟨.int cell, rfl, 10, 18, rfl, rfl, by unfold CPow; decide, cell, _, rfl, rfl, _, rfl, ?_⟩
            have e18 : (10 : Int) ^ (18 : Int).toNat = 1000000000000000000 := by decide +kernel
            rw [e18]
            by_cases big : 1000000000000000000 ≤ cell
            · rw [if_pos big] at q
              cases q
              rw [decide_eq_true big]
              refine iteT ?_
              have cd : CDivW cell n := ⟨c1, by
                have q : n.natAbs < 2 ^ 64 := by omega
                have q2 : n.natAbs.log2 < 64 := (Nat.log2_lt (by omega)).mpr q
                omega⟩
              refine ⟨.int cell, rfl, .int n, rfl, cell, n, rfl, rfl, cd, .ref z.cl, rfl, .int at_, rfl, z.cl, _, at_, at_.toNat, rfl, rfl, d3, hix', ?_⟩
              refine ⟨.int cell, rfl, .int n, rfl, cell, n, rfl, rfl, c1, ?_⟩
              refine h F _ _ (draw_chg a (fun b n1 n2 => upd_ne n2) ⟨_, by rw [upd_ne d1]; exact d2⟩ ⟨_, upd_same⟩) ⟨⟨d1, by rw [upd_ne d1]; exact d2, ?_, d4, d5⟩, a.dr.2.1.chg d3, a.dr.2.2⟩ (.int _)
              rw [upd_same, List.map_set]
            · rw [if_neg big] at q
              rw [decide_eq_false big]
              refine iteF ?_
              have cm : CMul s.mix 48271 := .inl ⟨by omega, by omega⟩
              refine ⟨.ref z.dr, rfl, .inl ⟨z.dr, _, 1, .int s.pos, rfl, rfl, .of d2, rfl, s.pos, 1, rfl, rfl, .ref z.dr, rfl, z.dr, _, 1, 1, rfl, rfl, d2, rfl, ?_⟩⟩
              have dd2 : ∀ H' o, upd H' z.dr o z.dr = some o := fun H' o => upd_same
              refine ⟨.ref z.dr, rfl, .inl ⟨z.dr, _, 2, .int s.mix, rfl, rfl, .of upd_same, rfl, s.mix, 48271, rfl, rfl, cm, .int cell, rfl, _, cell, rfl, rfl, _, 12345, rfl, rfl, _, 2147483647, rfl, rfl, (by decide : (0 : Int) < 2147483647), .ref z.dr, rfl, z.dr, _, 2, 2, rfl, rfl, upd_same, rfl, ?_⟩⟩
              dsimp only
              generalize hw : (s.mix * 48271 + cell + 12345) % 2147483647 = m at q ⊢
              cases q
              have m0 : 0 ≤ m := by rw [← hw]; exact Int.emod_nonneg _ (by decide)
              have m1 : m < 2147483647 := by rw [← hw]; exact Int.emod_lt_of_pos _ (by decide)
              have cm2 : CMul m m := .inl ⟨by omega, by omega⟩
              have cd16 : ∀ x, CDivW x 16 := fun x => ⟨by decide, by decide +kernel⟩
              refine ⟨.ref z.dr, rfl, .inl ⟨z.dr, _, 2, .int m, rfl, rfl, .of upd_same, rfl, .ref z.dr, rfl, .inl ⟨z.dr, _, 2, .int m, rfl, rfl, .of upd_same, rfl, m, m, rfl, rfl, cm2, _, 2147483629, rfl, rfl, (by decide : (0 : Int) < 2147483629), _, 16, rfl, rfl, cd16 _, .int n, rfl, _, n, rfl, rfl, c1, ?_⟩⟩⟩
              refine h F _ _ (draw_chg a (fun b n1 n2 => by rw [upd_ne n1, upd_ne n1]) ⟨_, upd_same⟩ ⟨_, by rw [upd_ne (Ne.symm d1), upd_ne (Ne.symm d1)]; exact d3⟩) ⟨⟨d1, upd_same, ?_, d4, d5⟩, (a.dr.2.1.chg d2).chg upd_same, a.dr.2.2⟩ (.int _)
              rw [upd_ne (Ne.symm d1), upd_ne (Ne.symm d1)]
              exact d3
        · cases q
  · exact h.elim
end FL
set_option Elab.async false
set_option linter.all false
set_option maxRecDepth 100000
set_option maxHeartbeats 4000000
/-! ## FL, 13: a comprehension's list as a list of one's own; the draw's beginning -/
namespace FL
open PySem PySem.Spec PyProof.Rows L2
def OwnW (K : PySem.W.Frag) (Z : Option Zt) (F H : Hp) (xs : List D) (s : S) (Q : VK) : Prop := ∀ F' H' L vs, Ext Z F H F' H' → DrAt Z F' H' s → H L = none → H' L = some (.lst vs) → F' L = none → AtAll K F' Z vs xs → Q (.ref L) H'
/-- what the comprehension gives, as a list of items -/
def lcO (vs : List Nat) (n : Nat) (bnd : D → Env → Option Env) (mi : AM) (mt : TM) (me : EM) (ρ : Env) (s : S) : Option (List D × S) :=
  if ρ.length ≤ n then match mi ρ s with
    | .ok ds s1 => match lcL bnd mt me (wipeE ρ vs) ds s1 with
      | .ok xs s2 => if xs.length ≤ sizeLine then some (xs, s2) else none
      | _ => none
    | _ => none
  else none
section
variable {X : Cx} {W : WX}
theorem lc_own {vs : List Nat} {bnd : D → Env → Option Env} {mi : AM} {mt : TM} {me : EM} {g : TG} (hgd : TgE X.K vs g bnd) {σ : L2.St} {F H : Hp} {Z : Option Zt} {ρ : Env} {s : S} {Q : VK} (hlen : σ.length = X.N.length) (hs : Same F H) (he : EnvAt X.K F Z σ ρ) (hd : DrAt Z F H s)
    {xs0 : List D} {s0 : S} (hq : lcO vs X.N.length bnd mi mt me ρ s = some (xs0, s0)) (hW : OwnW X.K Z F H xs0 s0 Q) : tLc (tI X.K W mi) g (tT X.K W0 mt) (tE X.K W0 me) vs σ H Q := by
  unfold lcO at hq
  split at hq
  · rename_i hn
    refine ⟨F, Z, ρ, s, hs, he, hd, ?_⟩
    cases hmi : mi ρ s with
    | bad => rw [hmi] at hq; cases hq
    | ex C fs s1 => rw [hmi] at hq; cases hq
    | ok ds s1 =>
    rw [hmi] at hq
    intro F1 H1 J e1 hd1 w
    have w : Walk J ds.length (fun H => Same F1 H) (YD X.K Z F1 ds) := w
    have hev := wipeE_at (he.mono e1.f) vs
    have hwl : ∀ (ρ : Env) (us : List Nat), (wipeE ρ us).length = ρ.length := fun ρ us => by
      induction us with
      | nil => rfl
      | cons u us ih => unfold wipeE; rw [List.length_set, ih]
    intro L hL
    -- behind i turns: the frozen part F2 has grown from F1, the new list at L holds acc, what is left gives the rest
    refine lc_it w (fun i H => ∃ F2 s2 accV acc, Ext Z F1 H1 F2 H ∧ DrAt Z F2 H s2 ∧ H L = some (.lst accV) ∧ F2 L = none ∧ AtAll X.K F2 Z accV acc ∧
      ∃ xs s3, lcL bnd mt me (wipeE ρ vs) (ds.drop i) s2 = .ok xs s3 ∧ (acc ++ xs).length ≤ sizeLine ∧ ∀ F' H' ws, Ext Z F1 H1 F' H' → DrAt Z F' H' s3 → H' L = some (.lst ws) → F' L = none → AtAll X.K F' Z ws (acc ++ xs) → Q (.ref L) H') ?_ (fun i H _ ⟨F2, _, _, _, b, _⟩ => b.f.trans b.fh) ?_ ?_
    · have fL : F1 L = none := e1.fh.free hL
      refine ⟨F1, s1, [], [], Ext.newH e1.fh hL, hd1.newH e1.fh hL, upd_same, fL, .nil, ?_⟩
      · dsimp only at hq
        cases q : lcL bnd mt me (wipeE ρ vs) ds s1 with
        | bad => rw [q] at hq; cases hq
        | ex C fs s3 => rw [q] at hq; cases hq
        | ok xs s3 =>
          rw [q] at hq
          dsimp only at hq
          split at hq
          · rename_i hz
            cases hq
            refine ⟨xs0, s0, by rw [List.drop_zero]; exact q, hz, fun F' H' ws e dr hL' fL' a => hW F' H' L ws (e1.trans e) dr ?_ hL' fL' a⟩
            cases hHL : H L with
            | none => rfl
            | some o =>
              obtain ⟨o', e2, _⟩ := e1.h L o hHL
              rw [hL] at e2
              cases e2
          · cases hq
    · rintro i x H2 H3 hi ⟨F2, s2, accV, acc, b, hd2, hL2, fL, aacc, xs, s3, hrun, hz, k⟩ y
      obtain ⟨d, F3, hdd, ex, ad, keep⟩ := yd_step b.f b.fh y
      have hdrop : ds.drop i = d :: ds.drop (i + 1) := by
        rw [List.drop_eq_getElem_cons hi]
        rw [List.getElem?_eq_getElem hi] at hdd
        cases hdd
        rfl
      rw [hdrop] at hrun
      unfold lcL at hrun
      have fL3 : F3 L = none := ex.n L _ fL hL2
      have hL3 : H3 L = some (.lst accV) := keep _ _ hL2
      have hd3 := hd2.keep ex keep
      cases q : bnd d (wipeE ρ vs) with
      | none => rw [q] at hrun; cases hrun
      | some ρ1 =>
        rw [q] at hrun
        dsimp only at hrun
        have hlw : (wipeE ρ vs).length ≤ (wipe σ vs).length := by rw [hwl, wipe_length, hlen]; exact hn
        refine hgd Z F3 H3 (wipe σ vs) (wipeE ρ vs) ρ1 x d _ ex.fh (hev.mono (b.f.trans ex.f)) ad q hlw fun σ2 he2 hl2 hr2 hne => ?_
        refine ⟨?_, ?_⟩
        · refine wipe_alike hl2 hne |>.trans ?_
          refine wipe_alike (wipe_length _ _) fun j hj => wipe_not hj
        · cases r : mt ρ1 s2 with
          | bad => rw [r] at hrun; cases hrun
          | ex C fs s4 => rw [r] at hrun; cases hrun
          | ok bb s4 =>
            rw [r] at hrun
            refine ⟨F3, Z, ρ1, s2, ex.fh, he2, hd3, ?_⟩
            rw [r]
            intro F4 H4 bv ex4 hd4 hb
            subst hb
            have fL4 : F4 L = none := ex4.n L _ fL3 hL3
            obtain ⟨oL, hL4, hsame⟩ := ex4.h L _ hL3
            have nDr : ¬ DrA Z L := fun z => by
              cases Z with
              | none => exact z
              | some z' =>
                obtain ⟨_, d2, d3, _⟩ := hd1.1
                rcases z with z | z
                · rw [← z, hL] at d2; cases d2
                · rw [← z, hL] at d3; cases d3
            cases hsame nDr (.inr fun ps z => by cases z)
            cases bv with
            | false =>
              rw [if_neg Bool.false_ne_true]
              exact ⟨F4, s4, accV, acc, (b.trans ex).trans ex4, hd4, hL4, fL4, (aacc.mono ex.f).mono ex4.f, xs, s3, hrun, hz, k⟩
            | true =>
              rw [if_pos rfl]
              dsimp only at hrun
              cases t : me ρ1 s4 with
              | bad => rw [t] at hrun; cases hrun
              | ex C fs s5 => rw [t] at hrun; cases hrun
              | ok z s5 =>
                rw [t] at hrun
                dsimp only at hrun
                cases u : lcL bnd mt me (wipeE ρ vs) (ds.drop (i + 1)) s5 with
                | bad => rw [u] at hrun; cases hrun
                | ex C fs s6 => rw [u] at hrun; cases hrun
                | ok ys s6 =>
                  rw [u] at hrun
                  have hrun : RE.ok (z :: ys) s6 = .ok xs s3 := hrun
                  cases hrun
                  refine ⟨F4, Z, ρ1, s4, ex4.fh, he2.mono ex4.f, hd4, ?_⟩
                  rw [t]
                  intro F5 H5 v ex5 hd5 av
                  have fL5 : F5 L = none := ex5.n L _ fL4 hL4
                  obtain ⟨oL, hL5, hsame⟩ := ex5.h L _ hL4
                  cases hsame nDr (.inr fun ps z => by cases z)
                  have aacc5 := ((aacc.mono ex.f).mono ex4.f).mono ex5.f
                  refine ⟨accV, hL5, ?_, F5, s5, accV ++ [v], acc ++ [z], ?_, ?_, upd_same, fL5, aacc5.append (.cons av .nil), ys, _, u, ?_, ?_⟩
                  · rw [aacc5.length]
                    rw [List.length_append, List.length_cons] at hz
                    omega
                  · have b5 := ((b.trans ex).trans ex4).trans ex5
                    refine ⟨b5.f, fun a o e => ?_, fun a o e => ?_, b5.n⟩
                    · rw [upd_ne fun z => by rw [z, fL5] at e; cases e]
                      exact b5.fh a o e
                    · rw [upd_ne fun z => by rw [z, hL] at e; cases e]
                      exact b5.h a o e
                  · exact hd5.chgL hL5 nDr
                  · rw [List.append_assoc]; exact hz
                  · rw [List.append_assoc]; exact k
    · rintro H2 ⟨F2, s2, accV, acc, b, hd2, hL2, fL, aacc, xs, s3, hrun, hz, k⟩
      rw [List.drop_length] at hrun
      have hrun : RE.ok [] s2 = .ok xs s3 := hrun
      cases hrun
      rw [List.append_nil] at k
      exact k F2 H2 accV b hd2 hL2 fL aacc
  · cases hq
/-- x = [e for ..], a list of one's own -/
def sOwnLc (i : Nat) (vs : List Nat) (n : Nat) (bnd : D → Env → Option Env) (mi : AM) (mt : TM) (me : EM) : SM := fun ρ s => match lcO vs n bnd mi mt me (dats ρ) s with
  | some (xs, s') => .nx (ρ.set i (some (.own xs))) s'
  | none => .bad
theorem SlAt.setOld {K : PySem.W.Frag} {Z : Option Zt} {F0 H0 F H F' H' : Hp} {σ : L2.St} {ρ : Sls} {s s' : S} (a : At0 K Z F0 H0 F H σ ρ s) (e : Ext Z F H F' H') (hd : DrAt Z F' H' s') {i : Nat} {p : Addr} {vs : List V} {xs : List D} (hp : H p = none) (hp' : H' p = some (.lst vs)) (fp : F' p = none) (av : AtAll K F' Z vs xs) :
    At0 K Z F0 H0 F' H' (σ.set i (some (.ref p))) (ρ.set i (some (.own xs))) s' := by
  have b := a.go e hd
  have h := b.sl
  have hp0 : H0 p = none := by
    cases q : H0 p with
    | none => rfl
    | some o =>
      obtain ⟨o', q', _⟩ := a.ext.h p o q
      rw [hp] at q'
      cases q'
  have hdr : ¬ DrA Z p := fun z => by
    exact a.dr.nDr hp z
  have other : ∀ {j : Nat} {e : FL.D} {b : Addr}, owns ρ j = some e → σ[j]? = some (some (.ref b)) → b ≠ p := fun {j e b} q r z => by
    obtain ⟨b', ws, r1, r2, _⟩ := a.sl.ow j e q
    rw [r] at r1
    cases r1
    rw [z, hp] at r2
    cases r2
  refine ⟨b.ext, hd, ⟨by rw [List.length_set, List.length_set]; exact h.len, fun j e q => ?_, fun j e q => ?_, fun j k e e' b q1 q2 r1 r2 => ?_⟩⟩
  · have hj : i ≠ j := fun z => by
      subst z
      have hi : i < ρ.length := by
        rw [← List.length_set]
        exact (List.getElem?_eq_some_iff.mp q).1
      rw [List.getElem?_set_self hi] at q
      cases q
    rw [List.getElem?_set_ne hj] at q
    obtain ⟨w, h1, h2⟩ := h.dat j e q
    exact ⟨w, by rw [List.getElem?_set_ne hj]; exact h1, h2⟩
  · by_cases hj : i = j
    · subst hj
      obtain ⟨hi, q⟩ := owns_self q
      cases q
      exact ⟨p, _, List.getElem?_set_self (by rw [h.len]; exact hi), hp', .lst av, fp, hp0, hdr⟩
    · rw [owns_ne hj] at q
      obtain ⟨b, ws, h1, h2, h3⟩ := h.ow j e q
      exact ⟨b, ws, by rw [List.getElem?_set_ne hj]; exact h1, h2, h3⟩
  · by_cases h1 : i = j
    · by_cases h2 : i = k
      · rw [← h1, ← h2]
      · subst h1
        rw [owns_ne h2] at q2
        rw [List.getElem?_set_ne h2] at r2
        have hi := (owns_self q1).1
        rw [List.getElem?_set_self (by rw [h.len]; exact hi)] at r1
        cases r1
        exact absurd rfl (other q2 r2)
    · rw [owns_ne h1] at q1
      rw [List.getElem?_set_ne h1] at r1
      by_cases h2 : i = k
      · subst h2
        have hi := (owns_self q2).1
        rw [List.getElem?_set_self (by rw [h.len]; exact hi)] at r2
        cases r2
        exact absurd rfl (other q1 r1)
      · rw [owns_ne h2] at q2
        rw [List.getElem?_set_ne h2] at r2
        exact h.ap j k e e' b q1 q2 r1 r2
theorem ds_ownLc {st : Stmt} {i : Nat} {vs : List Nat} {bnd : D → Env → Option Env} {mi : AM} {mt : TM} {me : EM} {g : TG} (h : PS X st (tAsg (tLc (tI X.K W mi) g (tT X.K W0 mt) (tE X.K W0 me) vs) (gName i))) (hgd : TgE X.K vs g bnd) : PS X st (tS X.K W (sOwnLc i vs X.N.length bnd mi mt me)) :=
  ⟨fun pins s σ H D I h' => h.run pins s σ H D I (by
  obtain ⟨F0, H0, Z, F, ρ, s1, a, h'⟩ := h'
  unfold sOwnLc at h'
  cases q : lcO vs X.N.length bnd mi mt me (dats ρ) s1 with
  | none => rw [q] at h'; exact h'.elim
  | some p =>
    obtain ⟨xs, s2⟩ := p
    rw [q] at h'
    exact lc_own hgd I.len a.ext.fh (dats_at a.sl) a.dr q fun F' H' L ws e dr hL hL' fL' av => post_nx h' (SlAt.setOld a e dr hL hL' fL' av))⟩
end
end FL
set_option Elab.async false
set_option linter.all false
set_option maxRecDepth 100000
set_option maxHeartbeats 4000000
/-! ## FL, 14: x = [e for ..]; how a draw begins -/
namespace FL
open PySem PySem.Spec PyProof.Rows L2
section
variable {X : Cx} {W : WX}
theorem ds_setLc {st : Stmt} {i : Nat} {vs : List Nat} {bnd : D → Env → Option Env} {mi : AM} {mt : TM} {me : EM} {g : TG} (h : PS X st (tAsg (tLc (tI X.K W mi) g (tT X.K W0 mt) (tE X.K W0 me) vs) (gName i))) (hgd : TgE X.K vs g bnd) : PS X st (tS X.K W (sSet i (eLc vs X.N.length bnd mi mt me))) :=
  ⟨fun pins s σ H D I h' => h.run pins s σ H D I (by
  obtain ⟨F0, H0, Z, F, ρ, s1, a, h'⟩ := h'
  exact lc_read hgd I.len (run_read a (after_post a h' fun d s' F' H' v a' _ av p => post_nx p (a'.setD av))))⟩
end
/-! ### steps of a comprehension's walk -/
section
variable {bnd : D → Env → Option Env} {mt : TM} {me : EM} {ρ ρ1 : Env} {s s1 s2 : S} {d x : D} {ds : List D}
theorem lcL_take (hb : bnd d ρ = some ρ1) (ht : mt ρ1 s = .ok true s1) (he : me ρ1 s1 = .ok x s2) : lcL bnd mt me ρ (d :: ds) s = (lcL bnd mt me ρ ds s2).bind fun xs s3 => .ok (x :: xs) s3 := by
  rw [lcL, hb]
  dsimp only
  rw [ht]
  dsimp only
  rw [he]
theorem lcL_skip (hb : bnd d ρ = some ρ1) (ht : mt ρ1 s = .ok false s1) : lcL bnd mt me ρ (d :: ds) s = lcL bnd mt me ρ ds s1 := by
  rw [lcL, hb]
  dsimp only
  rw [ht]
theorem lcL_map {f : D → D} : ∀ {ds : List D}, (∀ d ∈ ds, ∃ ρ1, bnd d ρ = some ρ1 ∧ mt ρ1 s = .ok true s ∧ me ρ1 s = .ok (f d) s) → lcL bnd mt me ρ ds s = .ok (ds.map f) s
  | [], _ => rfl
  | d :: ds, h => by
    obtain ⟨ρ1, h1, h2, h3⟩ := h d List.mem_cons_self
    rw [lcL_take h1 h2 h3, lcL_map (f := f) fun e he => h e (List.mem_cons_of_mem _ he)]
    rfl
theorem lcL_filter {f : D → D} {p : D → Bool} : ∀ {ds : List D}, (∀ d ∈ ds, ∃ ρ1, bnd d ρ = some ρ1 ∧ mt ρ1 s = .ok (p d) s ∧ (p d = true → me ρ1 s = .ok (f d) s)) → lcL bnd mt me ρ ds s = .ok ((ds.filter p).map f) s
  | [], _ => rfl
  | d :: ds, h => by
    obtain ⟨ρ1, h1, h2, h3⟩ := h d List.mem_cons_self
    have ih := lcL_filter (f := f) (p := p) fun e he => h e (List.mem_cons_of_mem _ he)
    cases q : p d with
    | true =>
      rw [q] at h2
      rw [lcL_take h1 h2 (h3 q), ih, List.filter_cons_of_pos q]
      rfl
    | false =>
      rw [q] at h2
      rw [lcL_skip h1 h2, ih, List.filter_cons_of_neg (by rw [q]; exact Bool.false_ne_true)]
/-- with what is drawn on the way -/
theorem lcL_inv {G : S → Prop} {P : D → Prop} : ∀ {ds : List D} {s : S}, G s → (∀ d ∈ ds, ∀ s, G s → ∃ ρ1 x s2, bnd d ρ = some ρ1 ∧ mt ρ1 s = .ok true s ∧ me ρ1 s = .ok x s2 ∧ P x ∧ G s2) →
    ∃ xs s2, lcL bnd mt me ρ ds s = .ok xs s2 ∧ xs.length = ds.length ∧ (∀ x ∈ xs, P x) ∧ G s2
  | [], s, g, _ => ⟨[], s, rfl, rfl, fun _ h => (nomatch h), g⟩
  | d :: ds, s, g, h => by
    obtain ⟨ρ1, x, s1, h1, h2, h3, h4, h5⟩ := h d List.mem_cons_self s g
    obtain ⟨xs, s2, q1, q2, q3, q4⟩ := lcL_inv (G := G) (P := P) (ds := ds) h5 fun e he => h e (List.mem_cons_of_mem _ he)
    refine ⟨x :: xs, s2, by rw [lcL_take h1 h2 h3, q1]; rfl, by rw [List.length_cons, List.length_cons, q2], fun y hy => ?_, q4⟩
    rcases List.mem_cons.mp hy with rfl | z
    · exact h4
    · exact q3 y z
end
/-! ### the beginning -/
def begC (ns : List Int) : List Int := if (cutL ns none (some 63)) = [] then [7] else (cutL ns none (some 63)).map fun i => if i < 0 then -i else i
def spB (K : PySem.W.Frag) : Sp := fun vs H Q _ => ∃ a ns, vs = [.ref a] ∧ SqL K H a (ns.map V.int) ∧ ∀ H' p c, Same H H' → H p = none → H c = none → p ≠ c → H' p = some (.lst [.ref c, .int 0, .int 1]) → H' c = some (.lst ((begC ns).map V.int)) → Q (.ref p) H'
def mB1 : SM := sOwnLc 1 [2] 3 (c1 2) (iOf itemsF (eSl slF (eVar 0) oNone (oSome (eC (.int 63))))) tYesD (eOf absF (aCons (eVar 2) aNil))
def mB2 : SM := sIf (mBl (eOp eqG (eVar 1) (eOf lstF1 aNil))) (sOwn 1 (aCons (eC (.int 7)) aNil)) sNext
def tB (K : PySem.W.Frag) (W : WX) : TS := tSeq (tS K W mB1) (tSeq (tS K W mB2) (tRet (tLst (tCons (tVar 1) (tCons (tC (.int 0)) (tCons (tC (.int 1)) tNil))))))
theorem lcL_abs (a b : Option D) (s : S) (xs : List Int) : lcL (c1 2) tYesD (eOf absF (aCons (eVar 2) aNil)) [a, b, none] (xs.map D.int) s = .ok ((xs.map fun i => if i < 0 then -i else i).map D.int) s := by
  have h := lcL_map (bnd := c1 2) (mt := tYesD) (me := eOf absF (aCons (eVar 2) aNil)) (ρ := [a, b, none]) (s := s) (ds := xs.map D.int) (f := fun d => match d with | .int x => .int (if x < 0 then -x else x) | d => d) fun d hd => by
    obtain ⟨x, _, rfl⟩ := List.mem_map.mp hd
    exact ⟨_, rfl, rfl, rfl⟩
  rw [h, List.map_map, List.map_map]
  rfl
theorem toPs_int : ∀ xs : List Int, toPs (xs.map D.int) = some (xs.map PyData.int)
  | [] => rfl
  | x :: xs => by
    rw [List.map_cons]
    unfold toPs
    rw [toPs_int xs]
    rfl
theorem lay_int : ∀ xs : List Int, PyData.canLayAll0 (xs.map PyData.int) = true
  | [] => rfl
  | x :: xs => by
    rw [List.map_cons]
    unfold PyData.canLayAll0
    rw [lay_int xs]
    rfl
theorem depth_int : ∀ xs : List Int, PyData.depthAll (xs.map PyData.int) = 0
  | [] => rfl
  | x :: xs => by
    rw [List.map_cons]
    unfold PyData.depthAll
    rw [depth_int xs]
    rfl
theorem shaped_ints (xs : List Int) : SeqAt.shaped (.list (xs.map PyData.int)) = true := by
  unfold SeqAt.shaped
  rw [Bool.and_eq_true]
  refine ⟨?_, decide_eq_true ?_⟩
  · unfold PyData.canLay0
    exact lay_int xs
  · unfold PyData.depth
    rw [depth_int]
    decide
theorem eqG_nil (xs : List Int) : eqG (.lst (xs.map D.int)) (.lst []) = some (.bl xs.isEmpty) := by
  have h1 : toP (.lst (xs.map D.int)) = some (.list (xs.map PyData.int)) := by
    unfold toP
    rw [toPs_int]
    rfl
  have h2 : toP (.lst []) = some (.list []) := rfl
  have e0 : scF (.lst (xs.map D.int)) (.lst []) = none := rfl
  unfold eqG orF
  rw [e0]
  unfold eqF
  rw [h1, h2]
  dsimp only
  rw [if_pos ⟨shaped_ints xs, rfl⟩]
  cases xs with
  | nil => rfl
  | cons a b => rfl
theorem ints_of {K : PySem.W.Frag} {F : Hp} {Z : Option Zt} : ∀ {vs : List V} {xs : List Int}, AtAll K F Z vs (xs.map D.int) → vs = xs.map V.int
  | _, [], h => by cases h; rfl
  | _, x :: xs, h => by
    cases h with
    | cons a k =>
      rw [ints_of k]
      cases a
      rfl
theorem cut63 (ns : List Int) : (cutL ns none (some 63)).length ≤ 63 := by
  unfold cutL
  rw [List.length_take]
  refine Nat.le_trans (Nat.min_le_left _ _) (Nat.le_trans (Nat.sub_le _ _) ?_)
  show HT.sIx ns.length ns.length (some ((63 : Nat) : Int)) ≤ 63
  rw [HT.sIx_nat]
  exact Nat.min_le_left _ _
theorem mB1_run (ns : List Int) (s : S) : mB1 [some (.dat (.scr ns)), none, none] s = .nx [some (.dat (.scr ns)), some (.own (((cutL ns none (some 63)).map fun i => if i < 0 then -i else i).map D.int)), none] s := by
  have h : lcO [2] 3 (c1 2) (iOf itemsF (eSl slF (eVar 0) oNone (oSome (eC (.int 63))))) tYesD (eOf absF (aCons (eVar 2) aNil)) (dats [some (.dat (.scr ns)), none, none]) s = some (((cutL ns none (some 63)).map fun i => if i < 0 then -i else i).map D.int, s) := by
    unfold lcO
    refine (if_pos (show (dats [some (Sl.dat (D.scr ns)), none, none]).length ≤ 3 from Nat.le_refl 3)).trans ?_
    show (match lcL (c1 2) tYesD (eOf absF (aCons (eVar 2) aNil)) [some (.scr ns), none, none] ((cutL ns none (some 63)).map D.int) s with | .ok xs s2 => if xs.length ≤ sizeLine then some (xs, s2) else none | _ => none) = _
    rw [lcL_abs]
    dsimp only
    rw [if_pos]
    rw [List.length_map, List.length_map, sizeLine_eq]
    have := cut63 ns
    omega
  unfold mB1 sOwnLc
  rw [h]
  rfl
theorem mB2_run (ns xs : List Int) (s : S) : mB2 [some (.dat (.scr ns)), some (.own (xs.map D.int)), none] s = .nx [some (.dat (.scr ns)), some (.own ((if xs = [] then [7] else xs).map D.int)), none] s := by
  have h : runT (mBl (eOp eqG (eVar 1) (eOf lstF1 aNil))) [some (.dat (.scr ns)), some (.own (xs.map D.int)), none] s = .ok xs.isEmpty s := by
    have e1 : (mBl (eOp eqG (eVar 1) (eOf lstF1 aNil))) (dats [some (.dat (.scr ns)), some (.own (xs.map D.int)), none]) s = .bad := rfl
    have e2 : (mBl (eOp eqG (eVar 1) (eOf lstF1 aNil))) (vis [some (.dat (.scr ns)), some (.own (xs.map D.int)), none]) s = .ok xs.isEmpty s := by
      show ((lift (eqG (.lst (xs.map D.int)) (.lst [])) s).bind fun d s1 => match d with | .bl b => .ok b s1 | _ => .bad) = _
      rw [eqG_nil]
      rfl
    unfold runT
    rw [e1]
    dsimp only
    rw [e2]
  unfold mB2 sIf
  rw [h]
  cases xs with
  | nil => rfl
  | cons a b => rfl
theorem owns_B {ns : List Int} {i : Nat} {d : D} : owns [some (.dat (.scr ns)), none, none] i ≠ some d := fun q => by
  unfold owns at q
  match i, q with
  | 0, q => cases q
  | 1, q => cases q
  | 2, q => cases q
  | i + 3, q => simp at q
/-- the promise of the beginning -/
theorem begin_pure {K : PySem.W.Frag} {W : WX} (vs : List V) (H : Hp) (Q : VK) (E : XK) (h : spB K vs H Q E) : tB K W { nx := fun _ H' => Q .non H', rt := Q } (L2.start ["script", "cells", "cell"] vs) H := by
  obtain ⟨a, ns, rfl, hS, k⟩ := h
  have sF : Same (fun b => if b = a then H b else none) H := fun b o e => by
    dsimp only at e
    split at e
    · exact e
    · cases e
  have hS2 : SqL K (fun b => if b = a then H b else none) a (ns.map V.int) := by
    rcases hS with (h | ⟨o, h⟩) | h
    · exact .inl (.inl ((if_pos rfl).trans h))
    · exact .inl (.inr ⟨o, (if_pos rfl).trans h⟩)
    · exact .inr h
  refine ⟨_, H, none, fun b => if b = a then H b else none, [some (.dat (.scr ns)), none, none], ⟨[], 0, 0, [], fun _ _ => True⟩, ⟨Ext.refl sF, ⟨rfl, ⟨(fun p hp => by cases hp), (fun p hp => by cases hp)⟩, fun _ _ => trivial⟩, ⟨rfl, fun i d q => ?_, fun i xs q => absurd q owns_B, fun i j xs ys b q => absurd q owns_B⟩⟩, ?_⟩
  · match i, q with
    | 0, q => cases q; exact ⟨_, rfl, .scr hS2⟩
    | 1, q => cases q
    | 2, q => cases q
    | i + 3, q => simp at q
  rw [mB1_run]
  intro F1 H1 σ1 e1 d1 l1
  refine ⟨_, H, none, F1, _, _, ⟨e1, d1, l1⟩, ?_⟩
  rw [mB2_run]
  intro F2 H2 σ2 e2 d2 l2
  obtain ⟨c, ws, r1, r2, r3, r4, r5, r6⟩ := l2.own 1 _ rfl
  have hb : (if ((cutL ns none (some 63)).map fun i => if i < 0 then -i else i) = [] then [7] else ((cutL ns none (some 63)).map fun i => if i < 0 then -i else i)) = begC ns := by
    unfold begC
    by_cases hc : cutL ns none (some 63) = []
    · rw [if_pos hc, hc]; rfl
    · rw [if_neg hc, if_neg]
      intro z
      exact hc (List.map_eq_nil_iff.mp z)
  rw [hb] at r3
  have e3 := ints_of r3
  subst e3
  refine ⟨_, r1, by show 3 ≤ sizeLine; decide, fun p hp => ?_⟩
  have hpc : p ≠ c := fun z => by rw [z, r2] at hp; cases hp
  have keep : ∀ b o, H b = some o → H2 b = some o := fun b o e => by
    obtain ⟨o', q1, q2⟩ := e2.h b o e
    rw [q1, q2 (fun z => z) (.inl rfl)]
  have hp0 : H p = none := by
    cases q : H p with
    | none => rfl
    | some o => rw [keep _ _ q] at hp; cases hp
  refine k _ p c (fun b o e => ?_) hp0 r5 hpc upd_same ?_
  · rw [upd_ne fun z => by rw [z, hp0] at e; cases e]
    exact keep b o e
  · rw [upd_ne (Ne.symm hpc)]
    exact r2
end FL
set_option Elab.async false
set_option linter.all false
set_option maxRecDepth 100000
set_option maxHeartbeats 4000000
/-! ## FL, 15: what a generated derivation names -/
namespace FL
open PySem PySem.Spec PyProof.Rows L2
/-! ### -e, chains as tests, constants of the module -/
def negF : D → Option D
  | .int i => some (.int (-i))
  | _ => none
section
variable {X : Cx} {W : WX} {a b c e : Expr} {ma mb mc me : EM} {pos : Pos}
theorem de_neg (ha : PE X a (tE X.K W ma)) : PE X (.UnaryOp .USub a pos) (tE X.K W (eUn negF ma)) := pe_weak (pe_un un_neg ha) fun σ H Q ⟨F, Z, ρ, s, hs, he, hd, h⟩ => by
  refine tE_then hs he hd h fun x s1 F1 H1 v1 e1 he1 hd1 a1 h => ?_
  obtain ⟨g, hg, k⟩ := post_now h
  unfold negF at hg
  split at hg
  · cases hg
    cases a1
    exact ⟨_, rfl, k F1 H1 _ (Ext.refl e1.fh) hd1 (.int _)⟩
  · cases hg
theorem dt_chain {op op' : CmpOp} {r r' : R2} {f g : D → D → Option D} (hr : OpR X (compareOp op) r) (hr' : OpR X (compareOp op') r') (ho : OpD X.K r f) (ho' : OpD X.K r' g) (ha : PE X a (tE X.K W ma)) (hb : PE X b (tE X.K W mb)) (hc : PE X c (tE X.K W mc))
    (hm : lastMarks [op, op'] [b, c] = false := by with_unfolding_all rfl) : PT X (.Compare a [op, op'] [b, c] pos) (tT X.K W (mBl (eChain f g ma mb mc))) := pt_weak (pt_chain hr hr' ha hb hc hm) fun σ H Q ⟨F, Z, ρ, s, hs, he, hd, h⟩ => by
  have h' : tE X.K W (eChain f g ma mb mc) σ H fun x H1 => ∃ k, x = .bl k ∧ Q k H1 := tE_then hs he hd h fun x s1 F1 H1 v1 e1 he1 hd1 a1 h => by
    cases x with
    | bl k => exact ⟨k, at_bl a1, h F1 H1 _ (Ext.refl e1.fh) hd1 rfl⟩
    | _ => exact h.elim
  exact chain_read ho ho' h'
theorem de_globE {x : Str} {v : V} {d : D} (hg : Gl X x) (hm : ∃ u, X.mg x = some u ∧ RelV v u) (a : ∀ F Z, At X.K F Z v d) (hd : (x == ("__debug__" : Str)) = false := by decide) : PE X (.Name x pos) (tE X.K W (eC d)) := by
  obtain ⟨u, h1, h2⟩ := hm
  exact de_glob hg h1 h2 a hd
end
theorem de_getKE {X : Cx} {W : WX} {o e : Expr} {me : EM} {apos pos : Pos} {d : Addr} {tab : Str → Option D} (D1 : ∃ es n, KDict X.K X.w d es n) (ho : PE X o (tC (.ref d))) (he : PE X e (tE X.K W me))
    (ht : ∀ z g, tab z = some g → ∃ r v, PySem.W.nsIn X.K d z = some r ∧ RelV v (r.getD .none) ∧ ∀ F Z, At X.K F Z v g)
    (hbase : attributeBase o "get" X.env (eval o X.env) = eval o X.env := by rfl)
    (hfew : ((backTo pos (starEach [e] X.env)).all (fun x => !x.1) && (backToKw pos (keywordEach [] X.env)).all (fun x => x.1.isSome)
      && decide (([e] : List Expr).length + ([] : List Keyword).length + (if ([] : List Keyword).isEmpty then 0 else 1) < 30)) = true := by rfl)
    (hline : (apos.endLine == pos.line) = true := by rfl) (hs : starEach [e] X.env = (false, eval e X.env) :: starEach [] X.env := by rfl) (hplain : (backTo pos (starEach [] X.env)).any (·.1) = false := by rfl) :
    PE X (.Call (.Attribute o "get" apos) [e] [] pos) (tE X.K W (eUn (getF tab) me)) := by
  obtain ⟨es, n, D2⟩ := D1
  exact de_getK D2 ho he ht hbase hfew hline hs hplain
/-- x in y, y a list, a tuple or a text -/
def inG (neg : Bool) : D → D → Option D := orF (inF neg) (signF neg)
def rInG (K : PySem.W.Frag) : R2 := fun x y H Q => rIn K false x y H Q ∨ ∃ (c : Nat) (z : Str), x = .str ⟨#[c]⟩ ∧ y = .str z ∧ Q (.bl (decide (c ∈ z.cps.toList))) H
def rNotInG (K : PySem.W.Frag) : R2 := fun x y H Q => rIn K true x y H Q ∨ ∃ (c : Nat) (z : Str), x = .str ⟨#[c]⟩ ∧ y = .str z ∧ Q (.bl (!decide (c ∈ z.cps.toList))) H
theorem op_inG {X : Cx} : OpR X (compareOp .In) (rInG X.K) := op_in_seq.or op_in_sign
theorem op_notInG {X : Cx} : OpR X (compareOp .NotIn) (rNotInG X.K) := op_notIn_seq.or op_notIn_sign
theorem od_inG {K : PySem.W.Frag} : OpD K (rInG K) (inG false) := OpD.or od_in od_sign
theorem od_notInG {K : PySem.W.Frag} : OpD K (rNotInG K) (inG true) := OpD.or od_in od_notSign
/-- isinstance of anything, a kept exception too -/
def isaF (sub : Addr → List Value → Option Bool) : List D → Option D := fun ds => (isiF ds).or (isxF sub ds)
def rIsA (K : PySem.W.Frag) : List V → Hp → VK → Prop := fun xs H Q => rIsG K xs H Q ∨ rIsX K xs H Q
theorem call_isA {X : Cx} : CallR X (.builtin "isinstance") (rIsA X.K) := call_isG.or call_isX
theorem cd_isa {K : PySem.W.Frag} {sub : Addr → List Value → Option Bool} (hsub : ∀ C us b, sub C us = some b → ExcC K C ∧ PySem.W.kitAny K (.ref C) us = some b ∧ ∀ u, us = [u] → PySem.W.kitOne K (.ref C) u = some b) : CallD K (rIsA K) (isaF sub) := CallD.or cd_is (cd_isx hsub)
/-- a def of the text, called by its name -/
structure DefOk (K : PySem.W.Frag) (mg : Str → Option Value) (x : Str) (st : Stmt) (f : Addr) (fd : FuncData) (ps : List Str) : Prop where
  g : mg x = some (.ref f)
  fn : L2.Fun K x x st f fd
  b : Binds K fd ps []
theorem hu64 {A : Around} {k : Nat} (hr : Rm k A) : A.units + 64 < cLine := hr.r.units
/-- a, b = e, [], the second a list of one's own -/
theorem ds_tupO {X : Cx} {W : WX} {st : Stmt} {i j : Nat} {me : EM} (h : PS X st (tAsg (tTup (tCons (tE X.K W me) (tCons (tLst tNil) tNil))) (gTup X.K 2 (gCons (gName i) (gCons (gName j) gNil))))) : PS X st (tS X.K W (sParO i j me)) := ps_weak h fun D σ H ⟨F0, H0, Z, F, ρ, s, a, h⟩ =>
  run_read a (after_post a h fun d s' F' H' v a' _ av p => ⟨Nat.zero_le _, fun q hq => ⟨by show 2 ≤ sizeLine; decide, fun t ht => by
    have b := SlAt.setO (i := j) (a'.setD (i := i) av) hq (.nil : AtAll X.K F' Z [] [])
    have e := Ext.newH (Z := Z) (o := HO.tup [v, .ref q]) b.ext.fh ht
    have b2 := b.go e (b.dr.newH b.ext.fh ht)
    exact ⟨t, [v, .ref q], rfl, .of upd_same, rfl, v, _, rfl, _, _, rfl, rfl, post_nx p b2⟩⟩⟩)
theorem bt_list : bootBuiltins "list" = some (.type "list") := by decide +kernel
theorem bt_tuple : bootBuiltins "tuple" = some (.type "tuple") := by decide +kernel
theorem bt_int : bootBuiltins "int" = some (.type "int") := by decide +kernel
theorem bt_bool : bootBuiltins "bool" = some (.type "bool") := by decide +kernel
theorem bt_str : bootBuiltins "str" = some (.type "str") := by decide +kernel
theorem bt_dict : bootBuiltins "dict" = some (.type "dict") := by decide +kernel
theorem bt_ValueError : bootBuiltins "ValueError" = some (.type "ValueError") := by decide +kernel
theorem bb_len : bootBuiltins "len" = some (.builtin "len") := by decide +kernel
theorem bb_abs : bootBuiltins "abs" = some (.builtin "abs") := by decide +kernel
theorem bb_min : bootBuiltins "min" = some (.builtin "min") := by decide +kernel
theorem bb_max : bootBuiltins "max" = some (.builtin "max") := by decide +kernel
theorem bb_all : bootBuiltins "all" = some (.builtin "all") := by decide +kernel
theorem bb_any : bootBuiltins "any" = some (.builtin "any") := by decide +kernel
theorem bb_repr : bootBuiltins "repr" = some (.builtin "repr") := by decide +kernel
theorem bb_isinstance : bootBuiltins "isinstance" = some (.builtin "isinstance") := by decide +kernel
theorem bb_sorted : bootBuiltins "sorted" = some (.builtin "sorted") := by decide +kernel
end FL
set_option Elab.async false
set_option linter.all false
set_option maxRecDepth 100000
set_option maxHeartbeats 4000000
/-! ## FL, 16: a law's def, called by the judge -/
namespace FL
open PySem PySem.Spec PyProof.Rows L2
/-- the promise sp of the def at f, with room for k calls and no repr around -/
structure FnX (P : Program) (w : World) (K : PySem.W.Frag) (mg : Str → Option Value) (base : Heap) (k : Nat) (f : Addr) (fd : FuncData) (ps : List Str) (sp : Sp) : Prop where
  go : ∀ (A : Around) (outer : List PySem.Env) (s : Shared) (H : Hp) (args : Args) (us : List Value) (vs : List V) (Q : VK) (E : XK), Rm k A → Env0 P w K mg base A outer s H → BindsTo s fd args (ps.zip us) → Vals vs us → sp vs H Q E →
    codeAny (model P w) A (.call (.ref f) args) (CR (L2.CX P w) outer P w H s Q E) s
section
variable {P : Program} {w : World} {K : PySem.W.Frag} {mg : Str → Option Value} {base : Heap}
theorem Fun.okRm {x qual : Str} {st : Stmt} {f : Addr} {fd : FuncData} {N ps : List Str} {k : Nat} {sp : Sp} (T : L2.Fun K x qual st f fd) (Sc : FnScope N ps (defScope st)) (hlen : ∀ vs H Q E, sp vs H Q E → vs.length = ps.length)
    (hbody : ∀ (cdv : Value) (A : Around) (outer : List PySem.Env) (s : Shared) (H : Hp) (vs : List V) (Q : VK) (E : XK), Rm k (A.deeper (envOfC qual (defScope st) s.heap.objs.size f cdv)) → sp vs H Q E →
      ∃ t, PSs (cxOf (L2.CX P w) P w K mg base N qual (defScope st) f cdv A outer s H E) (defBody st) t ∧ t { nx := fun _ H2 => Q .non H2, rt := Q } (L2.start N vs) H) : FnX P w K mg base (k + 1) f fd ps sp := by
  obtain ⟨oc, od, kV, doc, pm, an, cdv, ct, osl, rfl, lk, hcd⟩ := T.ex
  refine ⟨fun A outer s H args us vs Q E hr e0 hbd rv hsp => ?_⟩
  have hlv : vs.length = ps.length := hlen _ _ _ _ hsp
  have KX : K.In s.heap := e0.mod.kin.keeps fun b ob y => (e0.bs b ob y).1
  have lim : s.heap.NoLimit := e0.mod.nolimit.keeps fun b ob y => (e0.bs b ob y).1
  have kinds : ∀ y ∈ ps.zip us, (defScope st).names.lookup y.1 = some .local ∨ ((defScope st).names.lookup y.1 = some .cell ∧ ((cellsFrom (s.heap.objs.size + 1) (defScope st).names []).lookup y.1).isSome = true) := fun ⟨nm, v⟩ hy => by
    rcases Sc.par nm (List.of_mem_zip hy).1 with q | q
    · exact .inl q
    · exact .inr ⟨q, PySem.W.cellsFrom_some _ _ _ (.inl q)⟩
  obtain ⟨t, ht, hq⟩ := hbody cdv A outer s H vs Q E (hr.deeper _) hsp
  refine codeAny_call_function hr.r.depth (KX _ _ lk) rfl Sc.co Sc.gen rfl (PySem.W.codeRec_of KX hcd) (hbd _ _ _ _ ?_)
  refine wpAny_newFunctionEnv_cells Sc.kind kinds fun env2 he2 s1 x2 => ?_
  subst he2
  refine ⟨lim.keeps x2.toInCall.keep, codeAny_func ?_⟩
  have I : Inv (cxOf (L2.CX P w) P w K mg base N qual (defScope st) f cdv A outer s H E) [] (L2.start N vs) H s1 := inv_start Sc hr.r.hd e0 hlv rv x2
  refine wpAny_mono (ht.run [] s1 (L2.start N vs) H _ I hq) (fun fl s2 hs2 => ?_) fun e s2 hs2 => hs2
  have fin : ∀ {σ2 : L2.St} {H2 : Hp} {v : V} {u : Value}, Inv (cxOf (L2.CX P w) P w K mg base N qual (defScope st) f cdv A outer s H E) [] σ2 H2 s2 → RelV v u → Q v H2 → CE outer P w H s Q u s2 :=
    fun {σ2 H2 v u} J r2 q => ⟨v, H2, J.os, J.bare, J.base, J.hok, r2, q⟩
  cases fl with
  | ret u =>
    obtain ⟨v, σ2, H2, J, r2, q⟩ := hs2
    exact fin J r2 q
  | next =>
    obtain ⟨σ2, H2, J, q⟩ := hs2
    exact fin (v := V.non) (u := Value.none) J rfl q
  | brk =>
    obtain ⟨_, _, _, q⟩ := hs2
    exact q.elim
  | cont =>
    obtain ⟨_, _, _, q⟩ := hs2
    exact q.elim
/-- what the judge wants of the call, from the heap behind the top on -/
def LawEnd (s1 : Shared) (r : Result) (s2 : Shared) : Prop := r = .ok (.ret (.bool true)) ∧ OldK s1.heap s2.heap ∧ s2.os = s1.os ∧ AllBare s2.gens
/-- one call at an abstract heap that tracks nothing but, perhaps, the script -/
theorem call_at {k : Nat} {fa a : Addr} {fd : FuncData} {x : Str} {sp : Sp} {s1 : Shared} {mb : Str → Option Value} {vs : List Value} {H : Hp} (inK : K.In s1.heap) (gl : s1.heap.Ns mainGlobals mg) (bl : s1.heap.Ns builtinsNs mb) (bo : ∀ y : Str, y ≠ "__name__" → mb y = bootBuiltins y)
    (nl : s1.heap.NoLimit) (gn : s1.gens = #[]) (hobj : s1.heap.get? a = some { cls := .type "list", data := .seq vs.toArray }) (room : Rm k callerA) (hF : ∀ b : Heap, K.In b → b.Ns mainGlobals mg → FnX P w K mg b k fa fd [x] sp)
    (bnd : ∀ (s : Shared) (u : Value), BindsTo s fd ⟨[u], []⟩ [(x, u)]) (only : Only H) (hs : sp [.ref a] H (fun v _ => v = .bl true) fun _ _ _ => False) (okH : HOk P w H s1.heap) (atA : ∀ b, H b ≠ none → b = a) (notK : H a ≠ none → K.lookup a = none) :
    codeAny (model P w) callerA (.call (.ref fa) ⟨[.ref a], []⟩) (LawEnd s1) s1 := by
  have noDict : ∀ {b : Addr} {o : Obj} {es : Array DictEntry} {ep : Nat}, s1.heap.get? b = some o → o.data = .dict es ep → H b = none := fun {b o es ep} h1 h2 => by
    rcases hb : H b with _ | u
    · rfl
    · have h3 : b = a := atA b fun z => by rw [hb] at z; cases z
      rw [h3, hobj] at h1
      injection h1 with h1
      rw [← h1] at h2
      cases (show Data.seq vs.toArray _ = Data.dict es ep from h2)
  have toB : ∀ {b : Addr} {o : Obj}, s1.heap.get? b = some o → H b = none → (hidT s1.heap H).get? b = some o := fun h1 h2 => hidT_get h1 h2
  have nsB : ∀ {b : Addr} {m : Str → Option Value}, s1.heap.Ns b m → (hidT s1.heap H).Ns b m := fun {b m} hn => by
    obtain ⟨o, es, ep, h1, h2, h3⟩ := hn
    exact ⟨o, es, ep, toB h1 (noDict h1 h2), h2, h3⟩
  have inB : K.In (hidT s1.heap H) := fun b o h1 => by
    refine toB (inK b o h1) ?_
    rcases hb : H b with _ | u
    · rfl
    · have h3 : b = a := atA b fun z => by rw [hb] at z; cases z
      subst h3
      have h4 := notK fun z => by rw [hb] at z; cases z
      rw [h4] at h1
      cases h1
  have mo : Mod K mg (hidT s1.heap H) := by
    obtain ⟨mc, n1, n2⟩ := nl
    exact ⟨inB, nsB gl, ⟨mb, nsB bl, bo⟩, ⟨mc, nsB n1, n2⟩⟩
  have env : Env0 P w K mg (hidT s1.heap H) callerA [] s1 H := by
    refine ⟨rfl, mo, fun b o h1 => of_hidT h1, Nat.le_of_eq (hidT_size _ _), trivial, fun b h1 => ?_, okH, AllBare.of_eq gn⟩
    exact absurd (show b ∈ ([] : List Addr) from h1) List.not_mem_nil
  have run := (hF _ inB (nsB gl)).go callerA [] s1 H ⟨[.ref a], []⟩ [.ref a] [.ref a] _ _ room env (bnd s1 (.ref a)) (Paired.cons rfl Paired.nil) hs
  refine codeAny_mono run fun res s2 hres => ?_
  match res, hres with
  | .error e, hres =>
    obtain ⟨_, _, _, _, _, _, _, _, _, _, _, _, z⟩ := hres
    exact z.elim
  | .ok .next, hres => exact hres.elim
  | .ok .brk, hres => exact hres.elim
  | .ok .cont, hres => exact hres.elim
  | .ok (.ret u), hres =>
    obtain ⟨v, H2, os2, bare2, un, ok2, ru, hv⟩ := hres
    subst hv
    have eu : u = Value.bool true := ru
    subst eu
    refine ⟨rfl, OldK.of_keep fun b o hb => ?_, os2, bare2⟩
    rcases only b with hn | ⟨ob, xs, hz⟩
    · exact un.keep b o hb hn (fun z => absurd (show b ∈ ([] : List Addr) from z) List.not_mem_nil) List.not_mem_nil
    · have h1 := (okH b _ hz).1
      rw [hb] at h1
      cases h1
      exact (ok2 b _ (un.frzs b _ _ hz)).1
theorem call_law {k : Nat} {fa a : Addr} {fd : FuncData} {x : Str} {sp : Sp} {s1 : Shared} {mb : Str → Option Value} {vs : List Value} {ns : List Int} (inK : K.In s1.heap) (gl : s1.heap.Ns mainGlobals mg) (bl : s1.heap.Ns builtinsNs mb) (bo : ∀ y : Str, y ≠ "__name__" → mb y = bootBuiltins y)
    (nl : s1.heap.NoLimit) (gn : s1.gens = #[]) (hobj : s1.heap.get? a = some { cls := .type "list", data := .seq vs.toArray }) (hin : IntsAre vs ns) (few : ns.length ≤ sizeLine) (room : Rm k callerA) (hF : ∀ b : Heap, K.In b → b.Ns mainGlobals mg → FnX P w K mg b k fa fd [x] sp)
    (bnd : ∀ (s : Shared) (u : Value), BindsTo s fd ⟨[u], []⟩ [(x, u)]) (hs : ∀ H : Hp, SqL K H a (ns.map V.int) → sp [.ref a] H (fun v _ => v = .bl true) fun _ _ _ => False) :
    codeAny (model P w) callerA (.call (.ref fa) ⟨[.ref a], []⟩) (LawEnd s1) s1 := by
  have rel := vals_ints hin
  rcases hk : K.lookup a with _ | o
  · have here : (fun b => if b = a then some (HO.frz { cls := .type "list", data := .seq vs.toArray } (.lst (ns.map V.int))) else none : Hp) a = some (HO.frz { cls := .type "list", data := .seq vs.toArray } (.lst (ns.map V.int))) := if_pos rfl
    have just : ∀ b, (fun b => if b = a then some (HO.frz { cls := .type "list", data := .seq vs.toArray } (.lst (ns.map V.int))) else none : Hp) b ≠ none → b = a := fun b hb => by
      rcases Classical.em (b = a) with h1 | h1
      · exact h1
      · exact absurd (if_neg h1) hb
    refine call_at inK gl bl bo nl gn hobj room hF bnd (fun b => ?_) (hs _ (.inl (.inr ⟨_, here⟩))) (fun b u hb => ?_) just fun _ => hk
    · rcases Classical.em (b = a) with h1 | h1
      · exact .inr ⟨_, _, if_pos h1⟩
      · exact .inl (if_neg h1)
    · have h1 : b = a := just b fun z => by
        have h2 : (none : Option HO) = some u := z.symm.trans hb
        cases h2
      subst h1
      have h2 := here.symm.trans hb
      cases h2
      exact ⟨hobj, by rw [List.length_map]; exact few, vs, _, rel, hobj⟩
  · have h1 := inK a o hk
    rw [hobj] at h1
    cases h1
    have none0 : ∀ (b : Addr) (u : HO), (fun _ => none : Hp) b = some u → False := fun b u hb => by cases (show (none : Option HO) = some u from hb)
    refine call_at (H := fun _ => none) inK gl bl bo nl gn hobj room hF bnd (fun _ => .inl rfl) (hs _ (.inr ⟨_, vs.toArray, _, hk, rfl, rfl, rfl, ?_, ?_⟩)) (fun b u hb => (none0 b u hb).elim) (fun b hb => absurd rfl hb) fun hb => absurd rfl hb
    · rw [List.size_toArray, hin.length]; exact few
    · rw [List.toList_toArray]; exact rel
end
theorem walk_X {l : PySem.W.OpenLaw} {n k : Nat} {q : Program} {loose : List Str} {XP : (Str → Option Value) → Heap → Prop} {YP : World → Heap → Prop} {d : DefRec} {K : Params → PySem.W.Frag} {sp : PySem.W.Frag → Sp} {x : Str}
    (hn : l.most = some n) (hn2 : n ≤ sizeLine) (hdf : d.params.defaults = []) (room : Rm k callerA) (hY : ∀ (w : World) (h : Heap), YP w h → (K w.params).In h)
    (F : ∀ (w : World) (mg : Str → Option Value) (fa : Addr) (h : Heap), (K w.params).In h → h.Ns mainGlobals mg → mg d.name = some (.ref fa) →
      ∃ fd : FuncData, (∀ (s : Shared) (u : Value), BindsTo s fd ⟨[u], []⟩ [(x, u)]) ∧ ∀ b : Heap, (K w.params).In b → b.Ns mainGlobals mg → FnX l.prog w (K w.params) mg b k fa fd [x] (sp (K w.params)))
    (hsp : ∀ (K : PySem.W.Frag) (H : Hp) (a : Addr) (ns : List Int), ns.length ≤ n → (∀ z ∈ ns, Builtin.Int.intBits z ≤ 1048576) → SqL K H a (ns.map V.int) → sp K [.ref a] H (fun v _ => v = .bl true) fun _ _ _ => False) :
    PySem.W.WalkO q loose XP YP l.row.toRowW d [] (fun f vs => PySem.call f vs) := by
  refine Att.attach_callB hn hdf fun w s0 s1 mg mb fa o pm cd doc a vs ns G Y h1 h2 h3 h4 h5 h6 h7 h8 h9 => ?_
  have inK := hY w _ Y
  obtain ⟨fd, bnd, hF⟩ := F w mg fa _ inK G.T.g h4
  exact call_law inK G.T.g G.T.b G.T.builtins G.T.nolimit h9 h5 h6 (Nat.le_trans h7 hn2) room hF bnd fun H hS => hsp _ H a ns h7 h8 hS
end FL
set_option Elab.async false
set_option linter.all false
set_option maxRecDepth 100000
set_option maxHeartbeats 4000000
/-! ## FL, 17: facts that the head tells -/
namespace FL
open PySem PySem.Spec PyProof.Rows L2
/-! ### an error's class of one's own, over ValueError -/
def oexB (K : PySem.W.Frag) (C : Addr) : Bool := match K.lookup C with
  | some ⟨.type "type", _, .cls cd, sl⟩ => (match cd.mro, sl.toList with
    | .ref c :: bm, [_, _, _, _, some (.builtin n), _] => (decide (c = C) && decide (n = "ValueError.__new__")) && (!cd.hasDel && (cd.hasDict && PySem.HandSPX.refsVE bm))
    | _, _ => false)
  | _ => false
theorem and2 {a b : Bool} (h : (a && b) = true) : a = true ∧ b = true := Bool.and_eq_true_iff.mp h
theorem oexB_ok {K : PySem.W.Frag} {C : Addr} (h : oexB K C = true) : ∃ nm q N bs bm sn sub ab col dd k0 k1 k2 k3 k5, K.lookup C = some (excClassObj nm q C N bs bm true sn sub ab col dd k0 k1 k2 k3 k5 "ValueError.__new__") ∧ PySem.HandSPX.refsVE bm = true := by
  unfold oexB at h
  split at h
  · rename_i dd cd sl look
    split at h
    · rename_i c bm k0 k1 k2 k3 n k5 e1 e2
      obtain ⟨h1, h2⟩ := and2 h
      obtain ⟨h3, h4⟩ := and2 h1
      obtain ⟨h5, h6⟩ := and2 h2
      obtain ⟨h7, h8⟩ := and2 h6
      have e3 := of_decide_eq_true h3
      have e4 := of_decide_eq_true h4
      subst e3 e4
      obtain ⟨nm, bs, mro, ns, qn, hd, sn, sub, ab, col, del⟩ := cd
      obtain ⟨l⟩ := sl
      have e5 : l = [k0, k1, k2, k3, some (.builtin "ValueError.__new__"), k5] := e2
      have e6 : mro = .ref c :: bm := e1
      have e7 : hd = true := h7
      have e8 : del = false := by
        have z : (!del) = true := h5
        cases del with
        | false => rfl
        | true => cases z
      subst e5 e6 e7 e8
      exact ⟨nm, qn, ns, bs, bm, sn, sub, ab, col, dd, k0, k1, k2, k3, k5, look, h8⟩
    · cases h
  · cases h
def oexA (K : PySem.W.Frag) (C : Addr) : Bool := oexB K C && (decide (PySem.W.findIn K (.ref C) "__setattr__" = some (some (.builtin "object.__setattr__"))) && (decide (PySem.W.subIn K (.ref C) (.type "BaseException") = some true) && (decide (PySem.W.typeIn K (.ref C) = some (.type "type")) && PySem.W.keepIn K (.ref C))))
theorem oexA_ok {K : PySem.W.Frag} {C : Addr} (h : oexA K C = true) : OexC K C := by
  obtain ⟨h1, h⟩ := and2 h
  obtain ⟨h2, h⟩ := and2 h
  obtain ⟨h3, h⟩ := and2 h
  obtain ⟨h4, h5⟩ := and2 h
  exact ⟨oexB_ok h1, of_decide_eq_true h2, of_decide_eq_true h3, of_decide_eq_true h4, h5⟩
def excA (K : PySem.W.Frag) (C : Addr) : Bool := decide (PySem.W.findIn K (.ref C) "__getattribute__" = some (some (.builtin "BaseException.__getattribute__"))) && (decide (PySem.W.findIn K (.ref C) "__getattr__" = some none) && (decide (PySem.W.subIn K (.ref C) (.type "BaseException") = some true) && (PySem.W.hasDictIn K C &&
  (decide (PySem.W.findIn K (.ref C) "__class__" = some (some (.builtin "object.__class__"))) && (decide (PySem.W.specialIn K (.builtin "object.__class__") "__get__" = some (some (.builtin "getset_descriptor.__get__"))) && (decide (PySem.W.takesIn K (.builtin "object.__class__") = some true) && decide (PySem.W.mroIn K C (.type "object") = some true)))))))
theorem excA_ok {K : PySem.W.Frag} {C : Addr} (h : excA K C = true) : ExcC K C := by
  obtain ⟨h1, h⟩ := and2 h
  obtain ⟨h2, h⟩ := and2 h
  obtain ⟨h3, h⟩ := and2 h
  obtain ⟨h4, h⟩ := and2 h
  obtain ⟨h5, h⟩ := and2 h
  obtain ⟨h6, h⟩ := and2 h
  obtain ⟨h7, h8⟩ := and2 h
  exact ⟨of_decide_eq_true h1, of_decide_eq_true h2, of_decide_eq_true h3, h4, of_decide_eq_true h5, of_decide_eq_true h6, of_decide_eq_true h7, of_decide_eq_true h8⟩
/-! ### a table's missing key -/
theorem miss_of {P : Params} {z : Str} : ∀ {l : List DictEntry} {ks : List Str}, l.map He.keyOf = He.keysIn P ks → z ∉ ks → l.find? (·.key.isStr z) = none ∧ l.any (·.refKey) = false
  | [], _, _, _ => ⟨rfl, rfl⟩
  | e :: r, [], h, _ => by cases h
  | e :: r, k :: ks, h, hz => by
    have h1 : He.keyOf e :: r.map He.keyOf = some (k, PyData.keyHash P k) :: He.keysIn P ks := h
    injection h1 with h2 h3
    obtain ⟨i1, i2⟩ := miss_of (l := r) h3 fun q => hz (List.mem_cons_of_mem _ q)
    have hk : ∃ t, e.key = .str k t := by
      unfold He.keyOf at h2
      split at h2
      · rename_i x t q
        have h4 := (Prod.mk.inj (Option.some.inj h2)).1
        exact ⟨t, by rw [q, h4]⟩
      · cases h2
    obtain ⟨t, hk⟩ := hk
    have n1 : e.key.isStr z = false := by
      rw [hk]
      show decide (k = z) = false
      exact decide_eq_false fun q => hz (by rw [← q]; exact List.mem_cons_self)
    have n2 : e.refKey = false := by
      obtain ⟨eh, ek, ev⟩ := e
      have hk : ek = .str k t := hk
      subst hk
      rfl
    refine ⟨?_, ?_⟩
    · rw [List.find?_cons_of_neg (by rw [n1]; exact Bool.false_ne_true)]
      exact i1
    · rw [List.any_cons, n2, i2]
      rfl
theorem dicW_miss {K : PySem.W.Frag} {P : Params} {a : Addr} {ks : List Str} {z : Str} (h : He.dicW K a = some (He.keysIn P ks)) (hz : z ∉ ks) : PySem.W.nsIn K a z = some none := by
  unfold He.dicW at h
  unfold PySem.W.nsIn
  split at h
  · rename_i c es n sl q
    rw [q]
    split at h
    · obtain ⟨m1, m2⟩ := miss_of (Option.some.inj h) hz
      dsimp only
      rw [m1]
      dsimp only
      rw [m2]
      rfl
    · cases h
  · cases h
/-! ### a def's facts -/
theorem fun_of {K : PySem.W.Frag} {x qual : Str} {st : Stmt} {f : Addr} {fd : FuncData} (F : FunD K x qual (defArgs st) (defBody st) (defScope st) [] [] f fd) : L2.Fun K x qual st f fd := by
  obtain ⟨oc, od, dV, kV, doc, pm, an, cdv, ct, osl, e, lk, hcd, hD, hK⟩ := F.ex
  rcases hD with ⟨_, hd⟩ | ⟨z, _⟩
  · subst hd
    exact ⟨⟨oc, od, kV, doc, pm, an, cdv, ct, osl, e, lk, hcd⟩, F.kp⟩
  · exact absurd rfl z
/-- the end, over a head by facts -/
theorem walk_XE {l : PySem.W.OpenLaw} {n k : Nat} {q : Program} {loose : List Str} {XP : (Str → Option Value) → Heap → Prop} {YP : World → Heap → Prop} {d : DefRec} {sp : PySem.W.Frag → Sp} {x : Str}
    (hn : l.most = some n) (hn2 : n ≤ sizeLine) (hdf : d.params.defaults = []) (room : Rm k callerA)
    (F : ∀ (w : World) (mg : Str → Option Value) (fa : Addr) (h : Heap), YP w h → h.Ns mainGlobals mg → mg d.name = some (.ref fa) →
      ∃ (K : PySem.W.Frag) (fd : FuncData), K.In h ∧ (∀ (s : Shared) (u : Value), BindsTo s fd ⟨[u], []⟩ [(x, u)]) ∧ ∀ b : Heap, K.In b → b.Ns mainGlobals mg → FnX l.prog w K mg b k fa fd [x] (sp K))
    (hsp : ∀ (K : PySem.W.Frag) (H : Hp) (a : Addr) (ns : List Int), ns.length ≤ n → (∀ z ∈ ns, Builtin.Int.intBits z ≤ 1048576) → SqL K H a (ns.map V.int) → sp K [.ref a] H (fun v _ => v = .bl true) fun _ _ _ => False) :
    PySem.W.WalkO q loose XP YP l.row.toRowW d [] (fun f vs => PySem.call f vs) := by
  refine Att.attach_callB hn hdf fun w s0 s1 mg mb fa o pm cd doc a vs ns G Y h1 h2 h3 h4 h5 h6 h7 h8 h9 => ?_
  obtain ⟨K, fd, inK, bnd, hF⟩ := F w mg fa _ Y G.T.g h4
  exact call_law inK G.T.g G.T.b G.T.builtins G.T.nolimit h9 h5 h6 (Nat.le_trans h7 hn2) room hF bnd fun H hS => hsp _ H a ns h7 h8 hS
end FL
set_option Elab.async false
set_option linter.all false
set_option maxRecDepth 100000
set_option maxHeartbeats 1000000
/-! ## FL, 18: meanings, step by step -/
namespace FL
open PySem PySem.Spec PyProof.Rows L2
section
variable {α β : Type} {a : α} {s s1 s2 : S} {k : α → S → RE β} {C : Addr} {fs : List (Str × D)} {d : D} {ρ : Env} {r : Sls} {i n np : Nat} {o : Option D} {xs : List D} {l : Sl}
@[simp] theorem bind_ok : (RE.ok a s).bind k = k a s := rfl
@[simp] theorem bind_ex : (RE.ex C fs s : RE α).bind k = RE.ex C fs s := rfl
@[simp] theorem bind_bad : (RE.bad : RE α).bind k = RE.bad := rfl
@[simp] theorem lift_some : lift (some a) s = RE.ok a s := rfl
@[simp] theorem eVar_zero : eVar 0 (some d :: ρ) s = .ok d s := rfl
@[simp] theorem eVar_succ : eVar (i + 1) (o :: ρ) s = eVar i ρ s := rfl
@[simp] theorem eVar_none : eVar 0 (none :: ρ) s = .bad := rfl
@[simp] theorem eC_run : eC d ρ s = .ok d s := rfl
@[simp] theorem dats_nil : dats [] = [] := rfl
@[simp] theorem dats_dat : dats (some (.dat d) :: r) = some d :: dats r := rfl
@[simp] theorem dats_own : dats (some (.own xs) :: r) = none :: dats r := rfl
@[simp] theorem dats_none : dats (none :: r) = none :: dats r := rfl
@[simp] theorem vis_nil : vis [] = [] := rfl
@[simp] theorem vis_dat : vis (some (.dat d) :: r) = some d :: vis r := rfl
@[simp] theorem vis_own : vis (some (.own xs) :: r) = some (.lst xs) :: vis r := rfl
@[simp] theorem vis_none : vis (none :: r) = none :: vis r := rfl
@[simp] theorem eOp_run {f : D → D → Option D} {ma mb : EM} : eOp f ma mb ρ s = (ma ρ s).bind fun x s1 => (mb ρ s1).bind fun y s2 => lift (f x y) s2 := rfl
@[simp] theorem eOf_run {f : List D → Option D} {me : AM} : eOf f me ρ s = (me ρ s).bind fun xs s1 => lift (f xs) s1 := rfl
@[simp] theorem eUn_run {f : D → Option D} {m : EM} : eUn f m ρ s = (m ρ s).bind fun d s1 => lift (f d) s1 := rfl
@[simp] theorem aNil_run : aNil ρ s = .ok [] s := rfl
@[simp] theorem aCons_run {m : EM} {mr : AM} : aCons m mr ρ s = (m ρ s).bind fun x s1 => (mr ρ s1).bind fun xs s2 => .ok (x :: xs) s2 := rfl
@[simp] theorem eCall_run {mf : FM} {ma : AM} : eCall mf ma ρ s = (ma ρ s).bind fun ds s1 => mf ds s1 := rfl
@[simp] theorem mBl_run {m : EM} : mBl m ρ s = (m ρ s).bind fun d s1 => match d with | .bl b => .ok b s1 | _ => .bad := rfl
@[simp] theorem mTru_run {m : EM} : mTru m ρ s = (m ρ s).bind fun d s1 => lift (truD d) s1 := rfl
@[simp] theorem mNot_run {t : TM} : mNot t ρ s = (t ρ s).bind fun x s1 => .ok (!x) s1 := rfl
@[simp] theorem mAnd_run {t u : TM} : mAnd t u ρ s = (t ρ s).bind fun x s1 => if x = true then u ρ s1 else .ok false s1 := rfl
@[simp] theorem mOr_run {t u : TM} : mOr t u ρ s = (t ρ s).bind fun x s1 => if x = true then .ok true s1 else u ρ s1 := rfl
@[simp] theorem eAnd_run {m n : EM} : eAnd m n ρ s = (m ρ s).bind fun x s1 => match x with | .bl true => n ρ s1 | .bl false => .ok (.bl false) s1 | _ => .bad := rfl
@[simp] theorem eOr_run {m n : EM} : eOr m n ρ s = (m ρ s).bind fun x s1 => match x with | .bl false => n ρ s1 | .bl true => .ok (.bl true) s1 | _ => .bad := rfl
@[simp] theorem eNot_run {m : EM} : eNot m ρ s = (m ρ s).bind fun x s1 => match x with | .bl b => .ok (.bl (!b)) s1 | _ => .bad := rfl
@[simp] theorem eIf_run {t : TM} {m n : EM} : eIf t m n ρ s = (t ρ s).bind fun x s1 => if x = true then m ρ s1 else n ρ s1 := rfl
@[simp] theorem eChain_run {f g : D → D → Option D} {ma mb mc : EM} : eChain f g ma mb mc ρ s = (ma ρ s).bind fun x s1 => (mb ρ s1).bind fun y s2 => (lift (f x y) s2).bind fun z s3 => match z with
  | .bl true => (mc ρ s3).bind fun w s4 => lift (g y w) s4
  | .bl false => .ok (.bl false) s3
  | _ => .bad := rfl
@[simp] theorem oNone_run : oNone ρ s = .ok none s := rfl
@[simp] theorem oSome_run {m : EM} : oSome m ρ s = (m ρ s).bind fun d s1 => match d with | .int i => .ok (some i) s1 | _ => .bad := rfl
@[simp] theorem eSl_run {f : D → Option Int → Option Int → Option D} {ma : EM} {ml mh : OM} : eSl f ma ml mh ρ s = (ma ρ s).bind fun x s1 => (ml ρ s1).bind fun lo s2 => (mh ρ s2).bind fun hi s3 => lift (f x lo hi) s3 := rfl
@[simp] theorem iOf_run {f : D → Option (List D)} {m : EM} : iOf f m ρ s = (m ρ s).bind fun d s1 => lift (f d) s1 := rfl
@[simp] theorem iOfA_run {f : List D → Option (List D)} {m : AM} : iOfA f m ρ s = (m ρ s).bind fun d s1 => lift (f d) s1 := rfl
@[simp] theorem after_ok {k : α → S → RS} : after (.ok a s) r k = k a s := rfl
@[simp] theorem after_ex {k : α → S → RS} : after (.ex C fs s : RE α) r k = .ex C fs r s := rfl
@[simp] theorem sRet_run {m : EM} : sRet m r s = after (runD m r s) r fun d s' => .rt d s' := rfl
@[simp] theorem sSet_run {m : EM} : sSet i m r s = after (runD m r s) r fun d s' => .nx (r.set i (some (.dat d))) s' := rfl
@[simp] theorem sDrop_run {m : EM} : sDrop m r s = after (runD m r s) r fun d s' => .nx r s' := rfl
@[simp] theorem sIf_run {t : TM} {m n : SM} : sIf t m n r s = after (runT t r s) r fun b s' => if b = true then m r s' else n r s' := rfl
@[simp] theorem sNext_run : sNext r s = .nx r s := rfl
@[simp] theorem sSeq_run {m n : SM} : sSeq m n r s = match m r s with | .nx ρ' s' => n ρ' s' | r => r := rfl
theorem runD_ok {m : EM} (h : m (dats r) s = .ok d s1) : runD m r s = .ok d s1 := by unfold runD; rw [h]
theorem runD_ex {m : EM} (h : m (dats r) s = .ex C fs s1) : runD m r s = .ex C fs s1 := by unfold runD; rw [h]
theorem runT_ok {m : TM} {b : Bool} (h : m (dats r) s = .ok b s1) : runT m r s = .ok b s1 := by unfold runT; rw [h]
theorem runD_vis {m : EM} (h0 : m (dats r) s = .bad) (h : m (vis r) s = .ok d s1) (hf : flatD d = true) : runD m r s = .ok d { s1 with inv := s.inv } := by
  unfold runD
  rw [h0]
  dsimp only
  rw [h]
  dsimp only
  rw [if_pos hf]
theorem fn_rt {mb : SM} {ds : List D} (hl : ds.length = np) (h : mb (ds.map (fun d => some (.dat d)) ++ List.replicate (n - np) none) s = .rt d s1) : fnOf n np mb ds s = .ok d s1 := by
  unfold fnOf
  rw [if_pos hl, h]
theorem fn_nx {mb : SM} {ds : List D} {ρ' : Sls} (hl : ds.length = np) (h : mb (ds.map (fun d => some (.dat d)) ++ List.replicate (n - np) none) s = .nx ρ' s1) : fnOf n np mb ds s = .ok .non s1 := by
  unfold fnOf
  rw [if_pos hl, h]
theorem fn_ex {mb : SM} {ds : List D} {ρ' : Sls} (hl : ds.length = np) (h : mb (ds.map (fun d => some (.dat d)) ++ List.replicate (n - np) none) s = .ex C fs ρ' s1) : fnOf n np mb ds s = .ex C fs s1 := by
  unfold fnOf
  rw [if_pos hl, h]
end
section
variable {m n : SM} {t : TM} {r r2 : Sls} {s s1 s2 : S} {d : D} {e : EM} {C : Addr} {fs : List (Str × D)}
theorem seq_nx (h : m r s = .nx r2 s1) : sSeq m n r s = n r2 s1 := by rw [sSeq_run, h]
theorem seq_rt (h : m r s = .rt d s1) : sSeq m n r s = .rt d s1 := by rw [sSeq_run, h]
theorem seq_ex (h : m r s = .ex C fs r2 s1) : sSeq m n r s = .ex C fs r2 s1 := by rw [sSeq_run, h]
theorem if_yes (h : runT t r s = .ok true s1) : sIf t m n r s = m r s1 := by rw [sIf_run, h]; rfl
theorem if_no (h : runT t r s = .ok false s1) : sIf t m n r s = n r s1 := by rw [sIf_run, h]; rfl
theorem if_nx (h : runT t r s = .ok false s1) : sIf t m sNext r s = .nx r s1 := by rw [if_no h]; rfl
theorem ret_run (h : runD e r s = .ok d s1) : sRet e r s = .rt d s1 := by rw [sRet_run, h]; rfl
theorem if_ret (h : runT t r s = .ok true s1) (h2 : runD e r s1 = .ok d s2) : sIf t (sRet e) n r s = .rt d s2 := by rw [if_yes h, ret_run h2]
theorem set_run {i : Nat} (h : runD e r s = .ok d s1) : sSet i e r s = .nx (r.set i (some (.dat d))) s1 := by rw [sSet_run, h]; rfl
end
end FL
set_option Elab.async false
set_option linter.all false
set_option maxRecDepth 100000
set_option maxHeartbeats 4000000
/-! ## FL, 19: while; lists and dicts of one's own, further -/
namespace FL
open PySem PySem.Spec PyProof.Rows L2
/-! ### while -/
def whileL (t : TM) (body : SM) : Nat → SM
  | 0, _, _ => .bad
  | n + 1, ρ, s => after (runT t ρ s) ρ fun b s' => if b = true then match body ρ s' with
      | .nx ρ2 s2 => whileL t body n ρ2 s2
      | .ct ρ2 s2 => whileL t body n ρ2 s2
      | .bk ρ2 s2 => .nx ρ2 s2
      | r => r
    else .nx ρ s'
def sWhile (n : Nat) (t : TM) (body : SM) : SM := whileL t body n
section
variable {X : Cx} {W : WX}
theorem ds_while {c : Expr} {body : List Stmt} {t : TM} {mb : SM} {n : Nat} {pos : Pos} (hp : PassesOwn (model X.prog X.w) X.A X.env X.xe) (hc : PT X c (tT X.K W t)) (hb : PSs X body (tS X.K W mb)) : PS X (.While c body [] pos) (tS X.K W (sWhile n t mb)) :=
  ps_weak (ps_while hp hc hb) fun D σ H ⟨F0, H0, Z, F, ρ, s, a, h⟩ => by
  refine ⟨fun k σ H => ∃ F ρ s, At0 X.K Z F0 H0 F H σ ρ s ∧ PostS X.K W Z F0 H0 D (whileL t mb k ρ s), ⟨n, F, ρ, s, a, h⟩, ?_⟩
  rintro k σ H ⟨F, ρ, s, a, h⟩
  cases k with
  | zero => exact h.elim
  | succ k =>
    unfold whileL at h
    refine runT_read a (after_post a h fun b s' F' H' v a' _ av p => ?_)
    subst av
    cases v with
    | false => exact iteF (post_nx p a')
    | true =>
      refine iteT ⟨fun σ H => ∃ F ρ s, At0 X.K Z F0 H0 F H σ ρ s ∧ PostS X.K W Z F0 H0 D (whileL t mb k ρ s), fun σ' H' x => ⟨k, Nat.lt_succ_self k, x⟩, F0, H0, Z, F', ρ, s', a', ?_⟩
      rw [if_pos rfl] at p
      cases r : mb ρ s' with
      | nx ρ3 s3 => rw [r] at p; exact fun F3 H3 σ3 e3 d3 l3 => ⟨F3, ρ3, s3, ⟨e3, d3, l3⟩, p⟩
      | ct ρ3 s3 => rw [r] at p; exact fun F3 H3 σ3 e3 d3 l3 => ⟨F3, ρ3, s3, ⟨e3, d3, l3⟩, p⟩
      | bk ρ3 s3 => rw [r] at p; exact p
      | rt d3 s3 => rw [r] at p; exact p
      | ex C fs ρ3 s3 => rw [r] at p; exact p
      | bad => rw [r] at p; exact p
end
/-! ### an object, not frozen and nobody's, becomes a slot's own -/
theorem SlAt.adopt {K : PySem.W.Frag} {Z : Option Zt} {F0 H0 F H : Hp} {σ : L2.St} {ρ : Sls} {s : S} (a : At0 K Z F0 H0 F H σ ρ s) {i : Nat} {p : Addr} {u : HO} {sl : Sl} {d : D} (hs : ownD (some sl) = some d) (hp : H p = some u) (fp : F p = none) (h0 : H0 p = none) (nd : ¬ DrA Z p)
    (no : ∀ j e, owns ρ j = some e → i ≠ j → σ[j]? ≠ some (some (.ref p))) (av : HoAt K F Z u d) : At0 K Z F0 H0 F H (σ.set i (some (.ref p))) (ρ.set i (some sl)) s := by
  have h := a.sl
  refine ⟨a.ext, a.dr, ⟨by rw [List.length_set, List.length_set]; exact h.len, fun j e q => ?_, fun j e q => ?_, fun j k e e' b q1 q2 r1 r2 => ?_⟩⟩
  · have hj : i ≠ j := fun z => by
      subst z
      have hi : i < ρ.length := by
        rw [← List.length_set]
        exact (List.getElem?_eq_some_iff.mp q).1
      rw [List.getElem?_set_self hi] at q
      cases sl <;> cases q
      cases hs
    rw [List.getElem?_set_ne hj] at q
    obtain ⟨w, h1, h2⟩ := h.dat j e q
    exact ⟨w, by rw [List.getElem?_set_ne hj]; exact h1, h2⟩
  · by_cases hj : i = j
    · subst hj
      obtain ⟨hi, q⟩ := owns_self q
      rw [hs] at q
      cases q
      exact ⟨p, u, List.getElem?_set_self (by rw [h.len]; exact hi), hp, av, fp, h0, nd⟩
    · rw [owns_ne hj] at q
      obtain ⟨b, ws, h1, h2, h3⟩ := h.ow j e q
      exact ⟨b, ws, by rw [List.getElem?_set_ne hj]; exact h1, h2, h3⟩
  · by_cases h1 : i = j
    · by_cases h2 : i = k
      · rw [← h1, ← h2]
      · subst h1
        rw [owns_ne h2] at q2
        rw [List.getElem?_set_ne h2] at r2
        have hi := (owns_self q1).1
        rw [List.getElem?_set_self (by rw [h.len]; exact hi)] at r1
        cases r1
        exact absurd r2 (no _ _ q2 h2)
    · rw [owns_ne h1] at q1
      rw [List.getElem?_set_ne h1] at r1
      by_cases h2 : i = k
      · subst h2
        have hi := (owns_self q2).1
        rw [List.getElem?_set_self (by rw [h.len]; exact hi)] at r2
        cases r2
        exact absurd r1 (no _ _ q1 h1)
      · rw [owns_ne h2] at q2
        rw [List.getElem?_set_ne h2] at r2
        exact h.ap j k e e' b q1 q2 r1 r2
/-- a new object that is nobody's -/
structure Loose (Z : Option Zt) (H0 F H : Hp) (σ : L2.St) (ρ : Sls) (p : Addr) (u : HO) : Prop where
  h : H p = some u
  f : F p = none
  h0 : H0 p = none
  nd : ¬ DrA Z p
  nt : ∀ ps, u ≠ .tbl ps
  no : ∀ j e, owns ρ j = some e → σ[j]? ≠ some (some (.ref p))
section
variable {K : PySem.W.Frag} {Z : Option Zt} {F0 H0 F H F' H' : Hp} {σ : L2.St} {ρ : Sls} {s s' : S} {p q : Addr} {u : HO}
theorem At0.none0 (a : At0 K Z F0 H0 F H σ ρ s) (hp : H p = none) : H0 p = none := by
  cases q : H0 p with
  | none => rfl
  | some o =>
    obtain ⟨o', q', _⟩ := a.ext.h p o q
    rw [hp] at q'
    cases q'
theorem At0.notOwn (a : At0 K Z F0 H0 F H σ ρ s) (hp : H p = none) : ∀ j e, owns ρ j = some e → σ[j]? ≠ some (some (.ref p)) := fun j e q r => by
  obtain ⟨b', ws, r1, r2, _⟩ := a.sl.ow j e q
  rw [r] at r1
  cases r1
  rw [hp] at r2
  cases r2
theorem At0.loose (a : At0 K Z F0 H0 F H σ ρ s) (hp : H p = none) (nt : ∀ ps, u ≠ .tbl ps) : At0 K Z F0 H0 F (upd H p u) σ ρ s ∧ Loose Z H0 F (upd H p u) σ ρ p u :=
  ⟨a.go (Ext.newH a.ext.fh hp) (a.dr.newH a.ext.fh hp), ⟨upd_same, a.ext.fh.free hp, a.none0 hp, a.dr.nDr hp, nt, a.notOwn hp⟩⟩
theorem Loose.go (l : Loose Z H0 F H σ ρ p u) (e : Ext Z F H F' H') : Loose Z H0 F' H' σ ρ p u := by
  obtain ⟨o', h7, h8⟩ := e.h p _ l.h
  exact ⟨by rw [h7, h8 l.nd (.inr l.nt)], e.n p _ l.f l.h, l.h0, l.nd, l.nt, l.no⟩
theorem Loose.take (l : Loose Z H0 F H σ ρ p u) (a : At0 K Z F0 H0 F H σ ρ s) {i : Nat} {sl : Sl} {d : D} (hs : ownD (some sl) = some d) (av : HoAt K F Z u d) : At0 K Z F0 H0 F H (σ.set i (some (.ref p))) (ρ.set i (some sl)) s :=
  SlAt.adopt a hs l.h l.f l.h0 l.nd (fun j e q _ => l.no j e q) av
theorem Loose.other (l : Loose Z H0 F H σ ρ p u) {i : Nat} {sl : Sl} (ne : q ≠ p) : Loose Z H0 F H (σ.set i (some (.ref q))) (ρ.set i (some sl)) p u := by
  refine ⟨l.h, l.f, l.h0, l.nd, l.nt, fun j e z r => ?_⟩
  by_cases h1 : i = j
  · subst h1
    by_cases hi : i < σ.length
    · rw [List.getElem?_set_self hi] at r
      cases r
      exact ne rfl
    · rw [List.getElem?_eq_none (by rw [List.length_set]; omega)] at r
      cases r
  · rw [owns_ne h1] at z
    rw [List.getElem?_set_ne h1] at r
    exact l.no j e z r
theorem Loose.dat (l : Loose Z H0 F H σ ρ p u) {i : Nat} {d : D} {o : Option V} : Loose Z H0 F H (σ.set i o) (ρ.set i (some (.dat d))) p u := by
  refine ⟨l.h, l.f, l.h0, l.nd, l.nt, fun j e z r => ?_⟩
  by_cases h1 : i = j
  · subst h1
    have := (owns_self z).2
    cases this
  · rw [owns_ne h1] at z
    rw [List.getElem?_set_ne h1] at r
    exact l.no j e z r
end
/-! ### a, b, c = [..], [..], {} and b, c = {}, list(..) -/
def sP3 (i j l : Nat) (m1 m2 : AM) : SM := fun ρ s => after (runA m1 ρ s) ρ fun xs s1 => if xs.length ≤ sizeLine then after (runA m2 ρ s1) ρ fun ys s2 => if ys.length ≤ sizeLine then .nx (((ρ.set i (some (.own xs))).set j (some (.own ys))).set l (some (.odc []))) s2 else .bad else .bad
def listG1 (d : D) : Option (List D) := listG [d]
def sP2 (i j : Nat) (m : AM) : SM := fun ρ s => after (runA m ρ s) ρ fun ds s1 => match listG ds with
  | some xs => .nx ((ρ.set i (some (.odc []))).set j (some (.own xs))) s1
  | none => .bad
section
variable {X : Cx} {W : WX} {st : Stmt} {i j l : Nat} {m m1 m2 : AM}
theorem ds_p3 (h : PS X st (tAsg (tTup (tCons (tLst (tA X.K W m1)) (tCons (tLst (tA X.K W m2)) (tCons tDNewK tNil)))) (gTup X.K 3 (gCons (gName i) (gCons (gName j) (gCons (gName l) gNil)))))) : PS X st (tS X.K W (sP3 i j l m1 m2)) := ps_weak h fun D σ H ⟨F0, H0, Z, F, ρ, s, a, h⟩ => by
  refine runA_read a (after_post a h fun xs s1 F1 H1 vs a1 _ av h => ?_)
  split at h
  case isFalse => exact h.elim
  rename_i hz
  refine ⟨by rw [av.length]; exact hz, fun p hp => ?_⟩
  obtain ⟨a2, l2⟩ := a1.loose (u := .lst vs) hp (fun ps z => by cases z)
  refine runA_read a2 (after_post a2 h fun ys s2 F2 H2 ws a3 e3 aw h => ?_)
  have l3 := l2.go e3
  split at h
  case isFalse => exact h.elim
  rename_i hzz
  refine ⟨by rw [aw.length]; exact hzz, fun q hq => ?_⟩
  obtain ⟨a4, l4⟩ := a3.loose (u := .lst ws) hq (fun ps z => by cases z)
  have l5 := l3.go (Ext.newH (o := HO.lst ws) a3.ext.fh hq)
  intro r hr
  obtain ⟨a6, l6⟩ := a4.loose (u := .dK []) hr (fun ps z => by cases z)
  have l7 := l5.go (Ext.newH (o := HO.dK []) a4.ext.fh hr)
  have l8 := l4.go (Ext.newH (o := HO.dK []) a4.ext.fh hr)
  refine ⟨by show 3 ≤ sizeLine; decide, fun t ht => ?_⟩
  obtain ⟨a9, l9⟩ := a6.loose (u := .tup [.ref p, .ref q, .ref r]) ht (fun ps z => by cases z)
  have x1 := l7.go (Ext.newH (o := HO.tup [.ref p, .ref q, .ref r]) a6.ext.fh ht)
  have x2 := l8.go (Ext.newH (o := HO.tup [.ref p, .ref q, .ref r]) a6.ext.fh ht)
  have x3 := l6.go (Ext.newH (o := HO.tup [.ref p, .ref q, .ref r]) a6.ext.fh ht)
  have npq : p ≠ q := fun z => by
    have := l3.h
    rw [z, hq] at this
    cases this
  have npr : p ≠ r := fun z => by
    have := l5.h
    rw [z, hr] at this
    cases this
  have nqr : q ≠ r := fun z => by
    subst z
    have := l4.h
    rw [hr] at this
    cases this
  have b1 := x1.take a9 (i := i) (sl := .own xs) rfl (.lst (av.mono e3.f))
  have y2 := x2.other (i := i) (sl := .own xs) npq
  have y3 := x3.other (i := i) (sl := .own xs) npr
  have b2 := y2.take b1 (i := j) (sl := .own ys) rfl (.lst aw)
  have w3 := y3.other (i := j) (sl := .own ys) nqr
  have b3 := w3.take b2 (i := l) (sl := .odc []) rfl (.dic .nil)
  exact ⟨t, [.ref p, .ref q, .ref r], rfl, .of upd_same, rfl, _, _, rfl, _, _, rfl, _, _, rfl, rfl, post_nx h b3⟩
theorem ds_p2 (h : PS X st (tAsg (tTup (tCons tDNewK (tCons (tCB (fun xs H Q => ∃ p ys, xs = [.ref p] ∧ (SqL X.K H p ys ∨ SqT X.K H p ys) ∧ ∀ l, H l = none → Q (.ref l) (upd H l (.lst ys))) (tA X.K W m)) tNil))) (gTup X.K 2 (gCons (gName i) (gCons (gName j) gNil))))) : PS X st (tS X.K W (sP2 i j m)) := ps_weak h fun D σ H ⟨F0, H0, Z, F, ρ, s, a, h⟩ => by
  intro r hr
  obtain ⟨a1, l1⟩ := a.loose (u := .dK []) hr (fun ps z => by cases z)
  refine runA_read a1 (after_post a1 h fun ds s2 F2 H2 ws a2 e2 aw h => ?_)
  have l2 := l1.go e2
  cases q : listG ds with
  | none => rw [q] at h; exact h.elim
  | some xs =>
    rw [q] at h
    have key : ∃ p vs, ws = [.ref p] ∧ (SqL X.K H2 p vs ∨ SqT X.K H2 p vs) ∧ AtAll X.K F2 Z vs xs := by
      unfold listG at q
      split at q
      · cases q
        obtain ⟨v, rfl, b1⟩ := one_inv aw
        cases b1 with
        | lst h1 k1 => exact ⟨_, _, rfl, .inl (.of (a2.ext.fh _ _ h1)), k1⟩
      · cases q
        obtain ⟨v, rfl, b1⟩ := one_inv aw
        cases b1 with
        | tup h1 k1 => exact ⟨_, _, rfl, .inr (.of (a2.ext.fh _ _ h1)), k1⟩
      · cases q
    obtain ⟨p, vs, rfl, hS, av⟩ := key
    refine ⟨p, vs, rfl, hS, fun l hl => ?_⟩
    obtain ⟨a4, l4⟩ := a2.loose (u := .lst vs) hl (fun ps z => by cases z)
    have l5 := l2.go (Ext.newH (o := HO.lst vs) a2.ext.fh hl)
    refine ⟨by show 2 ≤ sizeLine; decide, fun t ht => ?_⟩
    obtain ⟨a9, l9⟩ := a4.loose (u := .tup [.ref r, .ref l]) ht (fun ps z => by cases z)
    have x1 := l5.go (Ext.newH (o := HO.tup [.ref r, .ref l]) a4.ext.fh ht)
    have x2 := l4.go (Ext.newH (o := HO.tup [.ref r, .ref l]) a4.ext.fh ht)
    have nrl : r ≠ l := fun z => by
      have := l2.h
      rw [z, hl] at this
      cases this
    have b1 := x1.take a9 (i := i) (sl := .odc []) rfl (.dic .nil)
    have y2 := x2.other (i := i) (sl := .odc []) nrl
    have b2 := y2.take b1 (i := j) (sl := .own xs) rfl (.lst av)
    exact ⟨t, [.ref r, .ref l], rfl, .of upd_same, rfl, _, _, rfl, _, _, rfl, rfl, post_nx h b2⟩
theorem ds_q3 (h : PS X st (tPar3 i j l (tCons (tLst (tA X.K W m1)) (tCons (tLst (tA X.K W m2)) (tCons tDNewK tNil))))) : PS X st (tS X.K W (sP3 i j l m1 m2)) := ps_weak h fun D σ H ⟨F0, H0, Z, F, ρ, s, a, h⟩ => by
  refine runA_read a (after_post a h fun xs s1 F1 H1 vs a1 _ av h => ?_)
  split at h
  case isFalse => exact h.elim
  rename_i hz
  refine ⟨by rw [av.length]; exact hz, fun p hp => ?_⟩
  obtain ⟨a2, l2⟩ := a1.loose (u := .lst vs) hp (fun ps z => by cases z)
  refine runA_read a2 (after_post a2 h fun ys s2 F2 H2 ws a3 e3 aw h => ?_)
  have l3 := l2.go e3
  split at h
  case isFalse => exact h.elim
  rename_i hzz
  refine ⟨by rw [aw.length]; exact hzz, fun q hq => ?_⟩
  obtain ⟨a4, l4⟩ := a3.loose (u := .lst ws) hq (fun ps z => by cases z)
  have l5 := l3.go (Ext.newH (o := HO.lst ws) a3.ext.fh hq)
  intro r hr
  obtain ⟨a6, l6⟩ := a4.loose (u := .dK []) hr (fun ps z => by cases z)
  have x1 := l5.go (Ext.newH (o := HO.dK []) a4.ext.fh hr)
  have x2 := l4.go (Ext.newH (o := HO.dK []) a4.ext.fh hr)
  have npq : p ≠ q := fun z => by
    have := l3.h
    rw [z, hq] at this
    cases this
  have npr : p ≠ r := fun z => by
    have := l5.h
    rw [z, hr] at this
    cases this
  have nqr : q ≠ r := fun z => by
    subst z
    have := l4.h
    rw [hr] at this
    cases this
  have b1 := x1.take a6 (i := i) (sl := .own xs) rfl (.lst (av.mono e3.f))
  have y2 := x2.other (i := i) (sl := .own xs) npq
  have y3 := l6.other (i := i) (sl := .own xs) npr
  have b2 := y2.take b1 (i := j) (sl := .own ys) rfl (.lst aw)
  have w3 := y3.other (i := j) (sl := .own ys) nqr
  have b3 := w3.take b2 (i := l) (sl := .odc []) rfl (.dic .nil)
  exact ⟨_, _, _, rfl, post_nx h b3⟩
theorem ds_q2 (h : PS X st (tPar i j (tCons tDNewK (tCons (tCB (fun xs H Q => ∃ p ys, xs = [.ref p] ∧ (SqL X.K H p ys ∨ SqT X.K H p ys) ∧ ∀ l, H l = none → Q (.ref l) (upd H l (.lst ys))) (tA X.K W m)) tNil)))) : PS X st (tS X.K W (sP2 i j m)) := ps_weak h fun D σ H ⟨F0, H0, Z, F, ρ, s, a, h⟩ => by
  intro r hr
  obtain ⟨a1, l1⟩ := a.loose (u := .dK []) hr (fun ps z => by cases z)
  refine runA_read a1 (after_post a1 h fun ds s2 F2 H2 ws a2 e2 aw h => ?_)
  have l2 := l1.go e2
  cases q : listG ds with
  | none => rw [q] at h; exact h.elim
  | some xs =>
    rw [q] at h
    have key : ∃ p vs, ws = [.ref p] ∧ (SqL X.K H2 p vs ∨ SqT X.K H2 p vs) ∧ AtAll X.K F2 Z vs xs := by
      unfold listG at q
      split at q
      · cases q
        obtain ⟨v, rfl, b1⟩ := one_inv aw
        cases b1 with
        | lst h1 k1 => exact ⟨_, _, rfl, .inl (.of (a2.ext.fh _ _ h1)), k1⟩
      · cases q
        obtain ⟨v, rfl, b1⟩ := one_inv aw
        cases b1 with
        | tup h1 k1 => exact ⟨_, _, rfl, .inr (.of (a2.ext.fh _ _ h1)), k1⟩
      · cases q
    obtain ⟨p, vs, rfl, hS, av⟩ := key
    refine ⟨p, vs, rfl, hS, fun l hl => ?_⟩
    obtain ⟨a4, l4⟩ := a2.loose (u := .lst vs) hl (fun ps z => by cases z)
    have x1 := l2.go (Ext.newH (o := HO.lst vs) a2.ext.fh hl)
    have nrl : r ≠ l := fun z => by
      have := l2.h
      rw [z, hl] at this
      cases this
    have b1 := x1.take a4 (i := i) (sl := .odc []) rfl (.dic .nil)
    have y2 := l4.other (i := i) (sl := .odc []) nrl
    have b2 := y2.take b1 (i := j) (sl := .own xs) rfl (.lst av)
    exact ⟨_, _, rfl, post_nx h b2⟩
end
/-! ### lists and dicts of one's own are changed -/
theorem AtAll.insert {K : PySem.W.Frag} {F : Hp} {Z : Option Zt} {vs : List V} {ds : List D} {v : V} {d : D} (h : AtAll K F Z vs ds) (i : Nat) (a : At K F Z v d) : AtAll K F Z (vs.take i ++ [v] ++ vs.drop i) (ds.take i ++ [d] ++ ds.drop i) := ((h.take i).append (.cons a .nil)).append (h.drop i)
theorem AtKv.any {K : PySem.W.Frag} {F : Hp} {Z : Option Zt} {k : Key} : ∀ {ws : List (Key × V)} {kvs : List (Key × D)}, AtKv K F Z ws kvs → (ws.any fun kv => decide (kv.1 = k)) = kvs.any fun kv => decide (kv.1 = k)
  | _, _, .nil => rfl
  | _, _, .cons _ t => by rw [List.any_cons, List.any_cons, t.any]
theorem AtKv.length {K : PySem.W.Frag} {F : Hp} {Z : Option Zt} : ∀ {ws : List (Key × V)} {kvs : List (Key × D)}, AtKv K F Z ws kvs → ws.length = kvs.length
  | _, _, .nil => rfl
  | _, _, .cons _ t => congrArg (· + 1) t.length
theorem AtKv.append {K : PySem.W.Frag} {F : Hp} {Z : Option Zt} : ∀ {ws us : List (Key × V)} {kvs ls : List (Key × D)}, AtKv K F Z ws kvs → AtKv K F Z us ls → AtKv K F Z (ws ++ us) (kvs ++ ls)
  | _, _, _, _, .nil, k => k
  | _, _, _, _, .cons h t, k => .cons h (t.append k)
theorem AtKv.keys {K : PySem.W.Frag} {F : Hp} {Z : Option Zt} : ∀ {ws : List (Key × V)} {kvs : List (Key × D)}, AtKv K F Z ws kvs → ws.map (·.1) = kvs.map (·.1)
  | _, _, .nil => rfl
  | _, _, .cons _ t => by rw [List.map_cons, List.map_cons, t.keys]
def putD (kvs : List (Key × D)) (k : Key) (d : D) : List (Key × D) :=
  if (kvs.any fun kv => decide (kv.1 = k)) = true then kvs.map (fun kv => if kv.1 = k then (kv.1, d) else kv) else kvs ++ [(k, d)]
theorem AtKv.chg {K : PySem.W.Frag} {F : Hp} {Z : Option Zt} {k : Key} {v : V} {d : D} (a : At K F Z v d) : ∀ {ws : List (Key × V)} {kvs : List (Key × D)}, AtKv K F Z ws kvs → AtKv K F Z (ws.map fun kv => if kv.1 = k then (kv.1, v) else kv) (kvs.map fun kv => if kv.1 = k then (kv.1, d) else kv)
  | _, _, .nil => .nil
  | _, _, .cons (k := k2) h t => by
    rw [List.map_cons, List.map_cons]
    by_cases e : k2 = k
    · rw [if_pos e, if_pos e]
      exact .cons a (AtKv.chg a t)
    · rw [if_neg e, if_neg e]
      exact .cons h (AtKv.chg a t)
theorem AtKv.put {K : PySem.W.Frag} {F : Hp} {Z : Option Zt} {k : Key} {v : V} {d : D} {ws : List (Key × V)} {kvs : List (Key × D)} (h : AtKv K F Z ws kvs) (a : At K F Z v d) : AtKv K F Z (putK ws k v) (putD kvs k d) := by
  unfold putK putD
  rw [h.any]
  split
  · exact AtKv.chg a h
  · exact h.append (.cons a .nil)
theorem AtKv.val {K : PySem.W.Frag} {F : Hp} {Z : Option Zt} {k : Key} {ws : List (Key × V)} {kvs : List (Key × D)} (h : AtKv K F Z ws kvs) : (valV ws k).isSome = kvs.any fun kv => decide (kv.1 = k) := by
  rw [← valV_any, h.any]
def keyOf : D → Option Key
  | .int i => some (.inl i)
  | .str z => some (.inr z)
  | _ => none
theorem key_at {K : PySem.W.Frag} {F : Hp} {Z : Option Zt} {v : V} {d : D} {k : Key} (h : At K F Z v d) (e : keyOf d = some k) : v = kV k := by
  cases h <;> first | (cases e; rfl) | cases e
/-- one = x.pop() -/
def sPop (i j : Nat) : SM := fun ρ s => match ρ[j]? with
  | some (some (.own xs)) => match xs.getLast? with
    | some d => .nx ((ρ.set j (some (.own xs.dropLast))).set i (some (.dat d))) s
    | none => .bad
  | _ => .bad
/-- x.extend(e) -/
def sExt (i : Nat) (m : EM) : SM := fun ρ s => match ρ[i]? with
  | some (some (.own xs)) => after (runD m ρ s) ρ fun d s' => match d with
    | .lst ys => if xs.length + ys.length ≤ sizeLine then .nx (ρ.set i (some (.own (xs ++ ys)))) s' else .bad
    | _ => .bad
  | _ => .bad
/-- x.insert(e1, e2) -/
def sIns (i : Nat) (m : AM) : SM := fun ρ s => match ρ[i]? with
  | some (some (.own xs)) => after (runA m ρ s) ρ fun ds s' => match ds with
    | [.int k, d] => if 0 ≤ k ∧ k < 2 ^ 63 ∧ xs.length < sizeLine then .nx (ρ.set i (some (.own (xs.take k.toNat ++ [d] ++ xs.drop k.toNat)))) s' else .bad
    | _ => .bad
  | _ => .bad
/-- x[e1] = e2, x a dict -/
def sDSet (i : Nat) (m1 m2 : EM) : SM := fun ρ s => match ρ[i]? with
  | some (some (.odc kvs)) => after (runD m2 ρ s) ρ fun d s' => after (runD m1 ρ s') ρ fun x s'' => match keyOf x with
    | some k => if kvs.length < sizeLine then .nx (ρ.set i (some (.odc (putD kvs k d)))) s'' else .bad
    | none => .bad
  | _ => .bad
/-- x = [..] * n, a list of one's own -/
def sOwnR (i : Nat) (m1 m2 : EM) : SM := fun ρ s => after (runD m1 ρ s) ρ fun d s1 => after (runD m2 ρ s1) ρ fun e s2 => match repF d e with
  | some (.lst xs) => .nx (ρ.set i (some (.own xs))) s2
  | _ => .bad
section
variable {X : Cx} {W : WX} {st : Stmt} {i j : Nat} {me m1 m2 : EM} {ma : AM}
theorem ds_pop (h : PS X st (tAsg (tBM0 X.K "list" rPop (tVar j)) (gName i))) : PS X st (tS X.K W (sPop i j)) := ps_weak h fun D σ H ⟨F0, H0, Z, F, ρ, s, a, h⟩ => by
  unfold sPop at h
  split at h
  · rename_i xs q
    obtain ⟨p, vs, r1, r2, r3, _⟩ := a.sl.own j xs q
    split at h
    · rename_i d hd
      rw [List.getLast?_eq_getElem?] at hd
      obtain ⟨v, h1, h2⟩ := r3.get hd
      refine ⟨_, r1, .inl ⟨rfl, vs, .of r2⟩, _, vs, v, rfl, rfl, r2, ?_, ?_⟩
      · rw [r3.length]; exact h1
      · exact post_nx h ((SlAt.chg a q r1 r3.dropLast).setD h2)
    · exact h.elim
  · exact h.elim
theorem ds_ext (h : PS X st (tDrop (tBM X.K "list" rExtend (tVar i) (tCons (tE X.K W me) tNil)))) : PS X st (tS X.K W (sExt i me)) := ps_weak h fun D σ H ⟨F0, H0, Z, F, ρ, s, a, h⟩ => by
  unfold sExt at h
  split at h
  · rename_i xs q
    obtain ⟨p, vs, r1, r2, _⟩ := a.sl.own i xs q
    refine ⟨_, r1, .inl ⟨rfl, vs, .of r2⟩, run_read a (after_post a h fun d s' F' H' v a' _ av p2 => ?_)⟩
    cases d with
    | lst ys =>
      dsimp only at p2
      split at p2
      · rename_i hz
        obtain ⟨p', vs', u1, u2, u3, _⟩ := a'.sl.own i xs q
        rw [r1] at u1
        cases u1
        cases av with
        | lst h1 k1 => exact ⟨_, _, vs', _, rfl, rfl, u2, a'.ext.fh _ _ h1, by rw [u3.length, k1.length]; exact hz, post_nx p2 (SlAt.chg a' q r1 (u3.append k1))⟩
      · exact p2.elim
    | _ => exact p2.elim
  · exact h.elim
theorem ds_ins (h : PS X st (tDrop (tBM X.K "list" (fun x vs H Q => ∃ (l : Addr) (xs : List V) (i : Int) (y : V), x = .ref l ∧ vs = [.int i, y] ∧ H l = some (.lst xs) ∧ xs.length < sizeLine ∧ 0 ≤ i ∧ i < 2 ^ 63 ∧ Q .non (upd H l (.lst (xs.take i.toNat ++ [y] ++ xs.drop i.toNat)))) (tVar i) (tA X.K W ma)))) : PS X st (tS X.K W (sIns i ma)) := ps_weak h fun D σ H ⟨F0, H0, Z, F, ρ, s, a, h⟩ => by
  unfold sIns at h
  split at h
  · rename_i xs q
    obtain ⟨p, vs, r1, r2, _⟩ := a.sl.own i xs q
    refine ⟨_, r1, .inl ⟨rfl, vs, .of r2⟩, runA_read a (after_post a h fun ds s' F' H' v a' _ av p2 => ?_)⟩
    split at p2
    · split at p2
      · rename_i hz
        obtain ⟨p', vs', u1, u2, u3, _⟩ := a'.sl.own i xs q
        rw [r1] at u1
        cases u1
        obtain ⟨w1, w2, rfl, b1, b2⟩ := two_inv av
        cases b1
        exact ⟨_, vs', _, w2, rfl, rfl, u2, by rw [u3.length]; exact hz.2.2, hz.1, hz.2.1, post_nx p2 (SlAt.chg a' q r1 (u3.insert _ b2))⟩
      · exact p2.elim
    · exact p2.elim
  · exact h.elim
theorem ds_dset (h : PS X st (tAsg (tE X.K W m2) (gSub (tVar i) (tE X.K W m1) rSetD))) : PS X st (tS X.K W (sDSet i m1 m2)) := ps_weak h fun D σ H ⟨F0, H0, Z, F, ρ, s, a, h⟩ => by
  unfold sDSet at h
  split at h
  · rename_i kvs q
    refine run_read a (after_post a h fun d s' F' H' v a' _ av h => ?_)
    obtain ⟨p, ws, r1, r2, _⟩ := a'.sl.odc i kvs q
    refine ⟨_, r1, run_read a' (after_post a' h fun x s2 F2 H2 w a2 e2 aw h => ?_)⟩
    split at h
    · rename_i k hk
      split at h
      · rename_i hz
        obtain ⟨p', ws', u1, u2, u3, _⟩ := a2.sl.odc i kvs q
        rw [r1] at u1
        cases u1
        rw [key_at aw hk]
        exact ⟨_, _, rfl, DPut.k u2 (by rw [u3.length]; exact hz), post_nx h (SlAt.chgW a2 (sl := .odc _) rfl (owns_of q) r1 (.dic (u3.put (av.mono e2.f))))⟩
      · exact h.elim
    · exact h.elim
  · exact h.elim
theorem ds_ownR (h : PS X st (tAsg (tOp rRep (tE X.K W m1) (tE X.K W m2)) (gName i))) : PS X st (tS X.K W (sOwnR i m1 m2)) := ps_weak h fun D σ H ⟨F0, H0, Z, F, ρ, s, a, h⟩ => by
  refine run_read a (after_post a h fun d s1 F1 H1 v a1 _ av h => ?_)
  refine run_read a1 (after_post a1 h fun e s2 F2 H2 w a2 e2 aw h => ?_)
  split at h
  · rename_i xs q
    unfold repF at q
    split at q
    · split at q
      · rename_i zs k hz
        cases q
        cases aw
        cases av with
        | lst h1 k1 =>
          refine ⟨_, k, _, rfl, rfl, a2.ext.fh _ _ (e2.f _ _ h1), hz.1, hz.2.1, by rw [k1.length]; exact hz.2.2, fun p hp => ?_⟩
          exact post_nx h (SlAt.setO a2 hp ((k1.mono e2.f).rep _))
      · cases q
    · cases q
  · exact h.elim
end
/-! ### x in d -/
def dinF (neg : Bool) : D → D → Option D
  | x, .dic kvs => match keyOf x with
    | some k => some (.bl (if neg then !(kvs.any fun kv => decide (kv.1 = k)) else kvs.any fun kv => decide (kv.1 = k)))
    | none => none
  | _, _ => none
section
variable {X : Cx} {W : WX} {a b : Expr} {ma mb : EM} {pos : Pos}
theorem din_read {neg : Bool} {σ : L2.St} {H : Hp} {Q : VK} (h : tE X.K W (eOp (dinF neg) ma mb) σ H Q) : (tE X.K W ma) σ H fun y H1 => (tE X.K W mb) σ H1 fun x H2 => ∃ a o, x = .ref a ∧ DGet H2 a y o ∧ Q (.bl (if neg then !o.isSome else o.isSome)) H2 := by
  obtain ⟨F, Z, ρ, s, hs, he, hd, h⟩ := h
  refine tE_then hs he hd h fun x s1 F1 H1 v1 e1 he1 hd1 a1 h => ?_
  refine tE_then e1.fh he1 hd1 h fun y s2 F2 H2 v2 e2 he2 hd2 a2 h => ?_
  obtain ⟨g, hg, k⟩ := post_now h
  unfold dinF at hg
  split at hg
  · split at hg
    · rename_i ke hk
      cases hg
      cases a2 with
      | dic h1 k1 =>
        refine ⟨_, valV _ ke, rfl, .inl ⟨_, ke, .inl (e2.fh _ _ h1), key_at a1 hk, rfl⟩, ?_⟩
        rw [k1.val]
        exact k F2 H2 _ (Ext.refl e2.fh) hd2 (.bl _)
    · cases hg
  · cases hg
theorem dt_din (hu : X.A.units + 1 < cLine) (ha : PE X a (tE X.K W ma)) (hb : PE X b (tE X.K W mb)) (hm : behindInMarks .In b = false := by first | exact nobehind _ (by decide) (by decide) | rfl) : PT X (.Compare a [.In] [b] pos) (tT X.K W (mBl (eOp (dinF false) ma mb))) := pt_weak (pt_cmp (pc_din hu ha hb) hm) fun σ H Q ⟨F, Z, ρ, s, hs, he, hd, h⟩ => by
  have h' : tE X.K W (eOp (dinF false) ma mb) σ H fun x H1 => ∃ k, x = .bl k ∧ Q k H1 := tE_then hs he hd h fun x s1 F1 H1 v1 e1 he1 hd1 a1 h => by
    cases x with
    | bl k => exact ⟨k, at_bl a1, h F1 H1 _ (Ext.refl e1.fh) hd1 rfl⟩
    | _ => exact h.elim
  exact din_read h'
theorem dt_dnotin (hu : X.A.units + 1 < cLine) (ha : PE X a (tE X.K W ma)) (hb : PE X b (tE X.K W mb)) (hm : behindInMarks .NotIn b = false := by first | exact nobehind _ (by decide) (by decide) | rfl) : PT X (.Compare a [.NotIn] [b] pos) (tT X.K W (mBl (eOp (dinF true) ma mb))) := pt_weak (pt_cmp (pc_dnotin hu ha hb) hm) fun σ H Q ⟨F, Z, ρ, s, hs, he, hd, h⟩ => by
  have h' : tE X.K W (eOp (dinF true) ma mb) σ H fun x H1 => ∃ k, x = .bl k ∧ Q k H1 := tE_then hs he hd h fun x s1 F1 H1 v1 e1 he1 hd1 a1 h => by
    cases x with
    | bl k => exact ⟨k, at_bl a1, h F1 H1 _ (Ext.refl e1.fh) hd1 rfl⟩
    | _ => exact h.elim
  exact din_read h'
end
/-! ### sorted of a dict of numbers -/
def intKeys : List (Key × D) → Option (List Int)
  | [] => some []
  | (.inl i, _) :: r => (intKeys r).map (i :: ·)
  | _ => none
def sortI (xs : List Int) : List Int := xs.mergeSort fun i j => decide (i ≤ j)
theorem sortI_uniq {xs ys : List Int} (p : ys.Perm xs) (s : ys.Pairwise (· ≤ ·)) : ys = sortI xs := by
  have h1 : (sortI xs).Pairwise (fun i j => decide (i ≤ j) = true) := List.pairwise_mergeSort (fun a b c h1 h2 => by simp at *; omega) (fun a b => by simp; omega) xs
  have h2 : (sortI xs).Pairwise (· ≤ ·) := h1.imp fun h => of_decide_eq_true h
  exact (p.trans (List.mergeSort_perm xs _).symm).eq_of_pairwise (fun a b _ _ h1 h2 => Int.le_antisymm h1 h2) s h2
def sortDF : List D → Option D
  | [.dic kvs] => match intKeys kvs with
    | some ks => if ks.length < 64 then some (.lst ((sortI ks).map D.int)) else none
    | none => none
  | _ => none
theorem intKeys_at : ∀ {kvs : List (Key × D)} {ks : List Int}, intKeys kvs = some ks → kvs.map (·.1) = ks.map Sum.inl
  | [], ks, e => by cases e; rfl
  | (.inl i, d) :: r, ks, e => by
    unfold intKeys at e
    obtain ⟨ks', h1, rfl⟩ := Option.map_eq_some_iff.mp e
    rw [List.map_cons, List.map_cons, intKeys_at h1]
  | (.inr z, d) :: r, ks, e => by cases e
theorem at_ints {K : PySem.W.Frag} {F : Hp} {Z : Option Zt} : ∀ xs : List Int, AtAll K F Z (xs.map V.int) (xs.map D.int)
  | [] => .nil
  | x :: xs => .cons (.int x) (at_ints xs)
theorem cd_sortD {K : PySem.W.Frag} : CallD K (fun xs H Q => ∃ (a : Addr) (kvs : List (Key × V)) (ks : List Int), xs = [.ref a] ∧ Rd H a (.dK kvs) ∧ kvs.map (·.1) = ks.map Sum.inl ∧ ks.length < 64 ∧ ∀ (ys : List Int) (p : Addr), ys.Perm ks → ys.Pairwise (· ≤ ·) → H p = none → Q (.ref p) (upd H p (.lst (ys.map V.int)))) sortDF := fun F H Z s xs ds g Q hs hd ax h k => by
  unfold sortDF at h
  split at h
  · split at h
    · rename_i ks hk
      split at h
      · rename_i hz
        cases h
        obtain ⟨v, rfl, a⟩ := one_inv ax
        cases a with
        | dic h1 k1 =>
          refine ⟨_, _, ks, rfl, .inl (hs _ _ h1), k1.keys.trans (intKeys_at hk), hz, fun ys p pm st hp => ?_⟩
          rw [sortI_uniq pm st]
          exact new_k k hs hd hp (.lst upd_same (at_ints _))
      · cases h
    · cases h
  · cases h
/-! ### reversed(range(e)) -/
def revR (n : Nat) : List D := (List.range n).map fun i => .int ((n : Int) - 1 - (i : Nat))
def rev1F : List D → Option (List D)
  | [.int j] => if -(2 ^ 62) ≤ j ∧ j < 2 ^ 62 then some (revR j.toNat) else none
  | _ => none
section
variable {K : PySem.W.Frag} {Z : Option Zt} {F : Hp}
theorem it_rev {n : Nat} : ItOk K Z F (Itc ((n : Int) - 1) (-1) n) (revR n) := by
  have w : Walk (Itc ((n : Int) - 1) (-1) n) n (fun _ => True) (YFn fun i => .int (((n : Int) - 1) + (i : Nat) * (-1))) := walk_rangeC
  unfold ItOk revR
  rw [List.length_map, List.length_range]
  refine w.mono (fun H e => trivial) fun i H x H' hi e y => ?_
  obtain ⟨y1, rfl⟩ := y
  refine ⟨_, by rw [List.getElem?_map, List.getElem?_range hi]; rfl, .inl ⟨y1, ?_⟩⟩
  have e2 : ((n : Int) - 1) + (i : Nat) * (-1) = (n : Int) - 1 - (i : Nat) := by omega
  show At K F Z (.int (((n : Int) - 1) + (i : Nat) * (-1))) (.int ((n : Int) - 1 - (i : Nat)))
  rw [e2]
  exact .int _
end
section
variable {X : Cx} {W : WX} {tg e : Expr} {me : EM}
theorem di_rev1 {p pos p2 pos2 : Pos} (hg : Gl X "reversed") (hm : X.mg "reversed" = none) (hg2 : Gl X "range") (hm2 : X.mg "range" = none) (ha : PE X e (tE X.K W me)) (na : starEach [e] X.env = (false, eval e X.env) :: starEach [] X.env := by rfl) (hs : starEach [.Call (.Name "range" p2) [e] [] pos2] X.env = (false, eval (.Call (.Name "range" p2) [e] [] pos2) X.env) :: starEach [] X.env := by rfl) :
    PI X tg (.Call (.Name "reversed" p) [.Call (.Name "range" p2) [e] [] pos2] [] pos) (tI X.K W (iOfA rev1F (aCons me aNil))) := pi_weak (pi_revR hg hm (prg_1 hg2 hm2 ha na) hs) fun σ H R ⟨F, Z, ρ, s, hs, he, hd, h⟩ => by
  have h2 : PostE X.K W Z F H σ ((me ρ s).bind fun d s1 => .ok d s1) fun v H1 => (fun v H1 => ∃ j, v = V.int j ∧ -(2 ^ 62) ≤ j ∧ j < 2 ^ 62 ∧ R (Itc ((j.toNat : Nat) - 1) (-1) j.toNat) H1) v H1 := by
    cases q : me ρ s with
    | bad => rw [iOfA_run, aCons_run, q] at h; exact h.elim
    | ex C fs s1 => rw [iOfA_run, aCons_run, q] at h; exact h
    | ok d s1 =>
      rw [iOfA_run, aCons_run, q] at h
      simp only [bind_ok, aNil_run] at h
      intro F1 H1 v e1 hd1 a1
      obtain ⟨g, hg, k⟩ := post_now (Z := Z) (F := F) (H := H) h
      unfold rev1F at hg
      split at hg
      · rename_i j ej
        cases ej
        split at hg
        · rename_i hz
          cases hg
          cases a1
          exact ⟨j, rfl, hz.1, hz.2, k F1 H1 _ e1 hd1 it_rev⟩
        · cases hg
      · cases hg
  refine ⟨F, Z, ρ, s, hs, he, hd, ?_⟩
  cases q : me ρ s with
  | bad => rw [q] at h2; exact h2
  | ex C fs s1 => rw [q] at h2; exact h2
  | ok d s1 =>
    rw [q] at h2
    intro F1 H1 v e1 hd1 a1
    obtain ⟨j, rfl, b1, b2, k⟩ := h2 F1 H1 v e1 hd1 a1
    refine ⟨j, rfl, by omega, by omega, b1, b2, ?_⟩
    have e3 : (0 : Int) + (((j - 0).toNat : Nat) : Int) - 1 = (j.toNat : Nat) - 1 := by rw [Int.sub_zero]; omega
    rw [e3, Int.sub_zero]
    exact k
end
end FL
set_option Elab.async false
set_option linter.all false
set_option maxRecDepth 100000
set_option maxHeartbeats 4000000
/-! ## FL, 20: lambdas without parameters, made and kept -/
namespace FL
open PySem PySem.Spec PyProof.Rows L2 LamX
section
variable {X : Cx} {pins : List (Addr × Obj)} {σ : L2.St} {H : Hp} {s : Shared}
/-- a lambda is made: the function object is new; its code object is new or found in the table -/
theorem lam_new {TT : List (Addr × Str)} {cc PP : Addr} {pr : Arguments} {bd : Expr} {sc : Scope} {ps0 : Pos} {E0 : Value → Shared → Prop} {Q0 : Value → Shared → Prop} (I : Inv X pins σ H s) (B : TabB X.base X.mg cc PP) (hcc : X.env.code = .ref cc)
    (hin : (PP, X.env.qual ++ "<lambda>") ∈ TT) (hTT : Tabs TT H) (hno : defaultsOf pr X.env = ([], [])) (hcells : ∀ y ∈ sc.names, y.2 = .free → ∃ g, X.env.cells.lookup y.1 = some g)
    (go : ∀ (fa ca : Addr) (pm ctv : Value) (H1 : Hp) (s1 : Shared) (tb0 tb1 : Array Value), Inv X pins σ H1 s1 → s.heap.objs.size ≤ fa → H fa = none → H1 fa = none →
      s1.heap.get? fa = some (PySem.W.kla_obj "<lambda>" (X.env.qual ++ "<lambda>") pr bd sc (cloFrom X.env.cells sc.names []) pm ca ctv) → H1 ca = some (CodeO ca (X.env.qual ++ "<lambda>")) →
      H PP = some (.tbl tb0) → H1 PP = some (.tbl tb1) → TriplesOk tb1.toList → (∀ p9 cv, codeAmong p9 tb1.toList = some cv → codeAmong p9 tb0.toList = some cv ∨ cv = .ref ca) → (∀ b o, H b = some o → b ≠ PP → H1 b = some o) →
      (H ca = none ∨ ∃ p9, codeAmong p9 tb0.toList = some (.ref ca)) → Q0 (.ref fa) s1) :
    wpAny (model X.prog X.w) X.A (eval (.Lambda pr bd sc ps0) X.env) Q0 E0 s := by
  obtain ⟨tbv, hTb, trip, among⟩ := hTT _ hin
  refine PySem.W.kla_eval hno ?_
  have bP : s.heap.BuiltinsAt X.mg PP := B.bm.keeps I.bk
  have objP : s.heap.get? PP = some { cls := .none, data := .fields tbv } := I.hok PP _ hTb
  cases found : codeAmong ps0 tbv.toList with
  | some cv =>
    obtain ⟨ca, ecv, hca⟩ := among ps0 cv found
    subst ecv
    refine PySem.W.kla_makeFunctionHit (mg := X.mg) (c := cc) (P := PP) (ps := tbv) (closure_ok hcells) I.ok.glob (I.mod.glob.keeps I.bk) hcc (B.code.keeps I.bk) objP trip found bP fun ctv hh tk kx ksz => ?_
    refine go hh.objs.size ca ((X.mg "__name__").getD .none) ctv H _ tbv tbv (I.kept fun b o e => Heap.get?_push_of_some _ (kx b o e)) ksz (I.hok.fresh ksz) (I.hok.fresh ksz) (Heap.get?_push_size _ rfl) hca hTb hTb trip (fun _ _ z => .inl z) (fun _ _ e _ => e) (.inr ⟨ps0, found⟩)
  | none =>
    refine PySem.W.kla_makeFunction (mg := X.mg) (c := cc) (P := PP) (ps := tbv) (closure_ok hcells) I.ok.glob (I.mod.glob.keeps I.bk) hcc (B.code.keeps I.bk) objP trip found B.gP bP fun ca ctv hh tk kx kge klt krec ktb => ?_
    obtain ⟨c2, oc, us, t, e2, hoc, dat, nm⟩ := krec
    cases e2
    have ksz : s.heap.objs.size ≤ hh.objs.size := Nat.le_of_lt (Nat.lt_of_le_of_lt kge klt)
    have freshC : H ca = none := I.hok.fresh kge
    have J := inv_table (t' := tk) (more := #[rawInt ps0.line, rawInt ps0.col, .ref ca]) (h' := hh.push (PySem.W.kla_obj "<lambda>" (X.env.qual ++ "<lambda>") pr bd sc (cloFrom X.env.cells sc.names []) ((X.mg "__name__").getD .none) ca ctv)) I hTb
      (fun b o hb e => Heap.get?_push_of_some _ (kx b o hb e)) (Heap.get?_push_of_some _ ktb) kge ⟨oc, us, t, Heap.get?_push_of_some _ hoc, dat, nm⟩
    have elist : (tbv ++ #[rawInt ps0.line, rawInt ps0.col, .ref ca]).toList = tbv.toList ++ [rawInt ps0.line, rawInt ps0.col, .ref ca] := by simp
    have newF : upd (upd H PP (.tbl (tbv ++ #[rawInt ps0.line, rawInt ps0.col, .ref ca]))) ca (CodeO ca (X.env.qual ++ "<lambda>")) hh.objs.size = none := by
      have b1 : hh.objs.size ≠ ca := (Nat.ne_of_lt klt).symm
      have b2 : hh.objs.size ≠ PP := (Nat.ne_of_lt (Nat.lt_of_lt_of_le (Heap.lt_size objP) ksz)).symm
      rw [upd_ne b1, upd_ne b2]
      exact I.hok.fresh ksz
    refine go hh.objs.size ca ((X.mg "__name__").getD .none) ctv _ _ tbv (tbv ++ #[rawInt ps0.line, rawInt ps0.col, .ref ca]) J ksz (I.hok.fresh ksz) newF (Heap.get?_push_size _ rfl) upd_same hTb
      (by rw [upd_ne (ne_of_none hTb freshC), upd_same]) (by rw [elist]; exact PySem.TriplesOk_snoc _ _ _ _ trip) (fun p9 cv hcv => ?_) (fun b o e nb => by rw [upd_ne (ne_of_none e freshC), upd_ne nb]; exact e) (.inl freshC)
    rw [elist] at hcv
    exact among_app _ trip hcv
/-- an object that is new and untracked is tracked from here on -/
theorem Inv.track {H0 : Hp} {σ0 : L2.St} {s0 : Shared} {f : Addr} {φ : Heap → Prop} {oe : Obj} (I0 : Inv X pins σ0 H0 s0) (I : Inv X pins σ H s) (hge : s0.heap.objs.size ≤ f) (hn : H f = none) (he : s.heap.get? f = some oe) (hφ : φ s.heap) (st : ∀ h1 h2 : Heap, φ h1 → (∀ o, h1.get? f = some o → h2.get? f = some o) → φ h2) : Inv X pins σ (upd H f (.ext φ)) s := by
  have lt0 : ∀ {b : Addr} {o : Obj}, s0.heap.get? b = some o → b ≠ f := fun {b o} q z => by
    rw [z] at q
    exact Nat.lt_irrefl _ (Nat.lt_of_lt_of_le (Heap.lt_size q) hge)
  have nn : ∀ {b : Addr} {u : HO}, H b = some u → b ≠ f := fun {b u} q z => by rw [z, hn] at q; cases q
  have n0 : ∀ {b : Addr} {o : Obj}, X.s_0.heap.get? b = some o → b ≠ f := fun {b o} q z => by
    rw [z] at q
    exact Nat.lt_irrefl _ (Nat.lt_of_lt_of_le (Heap.lt_size q) (Nat.le_trans I0.sz hge))
  have nc : ∀ {x : Str} {c : Addr}, X.env.cells.lookup x = some c → c ≠ f := fun {x c} q => by
    obtain ⟨v, o, ho, hdat⟩ := I0.cell x c q
    exact lt0 ho
  have nl : X.env.locals ≠ f := Nat.ne_of_lt (Nat.lt_of_lt_of_le I0.lt hge)
  refine ⟨I.ok, I.os, I.bare, ⟨I.base.keep, I.base.slot, fun b o q n hx => ?_, I.base.there, fun b xs q => ?_, fun b o u q => ?_, fun b ps q => ?_⟩, I.loc, I.cell, ?_, fun x c q => ?_, fun p hm => ?_, fun b u q => ?_, I.len⟩
  · rw [upd_ne (n0 q)]
    exact I.base.free b o q n hx
  · have q2 := I.base.tups b xs q
    rw [upd_ne (nn q2)]
    exact q2
  · have q2 := I.base.frzs b o u q
    rw [upd_ne (nn q2)]
    exact q2
  · obtain ⟨m, q2⟩ := I.base.tbls b ps q
    exact ⟨m, by rw [upd_ne (nn q2)]; exact q2⟩
  · rw [upd_ne nl]
    exact I.free
  · rw [upd_ne (nc q)]
    exact I.freeC x c q
  · obtain ⟨f1, f2, f3, f4, f5⟩ := I.pin p hm
    obtain ⟨g1, _⟩ := I0.pin p hm
    exact ⟨f1, by rw [upd_ne (lt0 g1)]; exact f2, f3, f4, f5⟩
  · by_cases hb : b = f
    · subst hb
      rw [upd_same] at q
      cases q
      exact ⟨hφ, ⟨oe, he⟩, st⟩
    · rw [upd_ne hb] at q
      exact (I.hok b u q).stay (fun c v _ r => r) (fun c r => by rw [upd_ne (nn r)]; exact r) fun c xs r => by rw [upd_ne (nn r)]; exact r
end
/-- the lambda at k, as it is made in X -/
def lamD (X : Cx) (k : Nat) (pr : Arguments) (bd : Expr) (sc : Scope) : LamD := ⟨k, X.env.qual ++ "<lambda>", pr, bd, sc, cloFrom X.env.cells sc.names []⟩
open Classical in
/-- the lambda as a value -/
noncomputable def eLam (P : Addr) (l : LamD) : EM := fun _ s => if (P, l.q) ∈ s.tb ∧ ∀ r ∈ s.tb, r.1 = P → r.2 = l.q then .ok (.fn l) s else .bad
theorem eLam_run {P : Addr} {l : LamD} {ρ : Env} {s : S} (h : (P, l.q) ∈ s.tb ∧ ∀ r ∈ s.tb, r.1 = P → r.2 = l.q) : eLam P l ρ s = .ok (.fn l) s := if_pos h
theorem de_lam {X : Cx} {W : WX} {k : Nat} {cc PP : Addr} {pr : Arguments} {bd : Expr} {sc : Scope} {ps0 : Pos} (B : TabB X.base X.mg cc PP) (hcc : X.env.code = .ref cc) (L : LamS X.env.scope sc) (hno : defaultsOf pr X.env = ([], [])) :
    PE X (.Lambda pr bd sc ps0) (tE X.K W (eLam PP (lamD X k pr bd sc))) := by
  refine ⟨fun pins s σ H Q I h => ?_⟩
  obtain ⟨F, Z, ρ, s1, hs, he, hd, h⟩ := h
  unfold eLam at h
  split at h
  case isFalse => exact h.elim
  rename_i hT
  refine lam_new I B hcc hT.1 (hd.2.1.tabs hs) hno (L.has I.ok) fun fa ca pm ctv H1 s2 tb0 tb1 I1 hge hf hf1 hobj hca hP0 hP1 trip among old hnew => ?_
  have I2 := Inv.track (φ := fun h => ∃ pm ctv, h.get? fa = some (PySem.W.kla_obj "<lambda>" (X.env.qual ++ "<lambda>") pr bd sc (cloFrom X.env.cells sc.names []) pm ca ctv)) I I1 hge hf1 hobj ⟨pm, ctv, hobj⟩ fun h1 h2 ⟨pm, ctv, e⟩ k => ⟨pm, ctv, k _ e⟩
  refine ⟨.ref fa, _, I2, rfl, ?_⟩
  have hcf : ca ≠ fa := fun z => by rw [z, hf1] at hca; cases hca
  have fF : F fa = none := hs.free hf
  have fP : F PP = none := hd.2.1.2 _ hT.1
  obtain ⟨tb0', e0, trip0, codes0⟩ := hd.2.1.1 _ hT.1
  rw [hP0] at e0
  cases e0
  have nP : PP ≠ fa := fun z => by rw [z, hf] at hP0; cases hP0
  have nPc : PP ≠ ca := fun z => by rw [← z, hP1] at hca; unfold CodeO at hca; cases hca
  -- the code object: frozen before, or new
  have cF : F ca = some (CodeO ca (X.env.qual ++ "<lambda>")) ∨ (F ca = none ∧ H ca = none) := by
    rcases hnew with z | ⟨p9, z⟩
    · exact .inr ⟨hs.free z, z⟩
    · obtain ⟨c, e1, e2⟩ := codes0 p9 _ z
      cases e1
      exact .inl e2
  have f1 : upd (upd F ca (CodeO ca (X.env.qual ++ "<lambda>"))) fa (lamO (lamD X k pr bd sc) fa ca) fa = _ := upd_same
  have sF : Same F (upd (upd F ca (CodeO ca (X.env.qual ++ "<lambda>"))) fa (lamO (lamD X k pr bd sc) fa ca)) := fun a o e => by
    rw [upd_ne (ne_of_none e fF)]
    by_cases z : a = ca
    · subst z
      rcases cF with y | ⟨y, _⟩
      · rw [upd_same, ← y]; exact e
      · rw [y] at e; cases e
    · rw [upd_ne z]; exact e
  have keepH : ∀ b o, H b = some o → b ≠ PP → upd H1 fa (lamO (lamD X k pr bd sc) fa ca) b = some o := fun b o e nb => by
    rw [upd_ne (ne_of_none e hf)]
    exact old b o e nb
  have Zs : ∃ z, Z = some z := by
    cases Z with
    | some z => exact ⟨z, rfl⟩
    | none =>
      have e1 : s1.tb = [] := hd.1
      rw [e1] at hT
      cases hT.1
  obtain ⟨z, rfl⟩ := Zs
  refine h (upd (upd F ca (CodeO ca (X.env.qual ++ "<lambda>"))) fa (lamO (lamD X k pr bd sc) fa ca)) (upd H1 fa (lamO (lamD X k pr bd sc) fa ca)) _ ⟨sF, fun a o e => ?_, fun a o e => ?_, fun a o e1 e2 => ?_⟩ ⟨?_, ⟨fun r hr => ?_, fun r hr => ?_⟩, fun F3 g => hd.2.2 F3 (sF.trans g)⟩ (.fn upd_same (by rw [upd_ne hcf, upd_same]; rfl))
  · by_cases z1 : a = fa
    · subst z1
      rw [upd_same] at e ⊢
      exact e
    · rw [upd_ne z1] at e ⊢
      by_cases z2 : a = ca
      · subst z2
        rw [upd_same] at e
        rw [← e]; exact hca
      · rw [upd_ne z2] at e
        exact old a o (hs _ _ e) (ne_of_none e fP)
  · by_cases z1 : a = PP
    · subst z1
      rw [hP0] at e
      cases e
      refine ⟨.tbl tb1, by rw [upd_ne nP]; exact hP1, fun _ nt => ?_⟩
      rcases nt with nt | nt
      · cases nt
      · exact absurd rfl (nt _)
    · exact ⟨o, keepH a o e z1, fun _ _ => rfl⟩
  · rw [upd_ne (ne_of_none e2 hf)]
    by_cases z2 : a = ca
    · subst z2
      rcases cF with y | ⟨_, y⟩
      · rw [y] at e1; cases e1
      · rw [y] at e2; cases e2
    · rw [upd_ne z2]; exact e1
  · obtain ⟨d1, d2, d3, d4, d5⟩ := hd.1
    have no : ∀ b vs, H b = some (.lst vs) → b ≠ PP ∧ b ≠ fa ∧ b ≠ ca := fun b vs e => by
      refine ⟨(fun z => by rw [z, hP0] at e; cases e), ne_of_none e hf, fun z => ?_⟩
      subst z
      rcases cF with y | ⟨_, y⟩
      · have := hs _ _ y
        rw [e] at this
        unfold CodeO at this
        cases this
      · rw [y] at e; cases e
    obtain ⟨a1, a2, a3⟩ := no _ _ d2
    obtain ⟨b1, b2, b3⟩ := no _ _ d3
    exact ⟨d1, keepH _ _ d2 a1, keepH _ _ d3 b1, by rw [upd_ne a2, upd_ne a3]; exact d4, by rw [upd_ne b2, upd_ne b3]; exact d5⟩
  · by_cases hb : r.1 = PP
    · refine ⟨tb1, by rw [hb, upd_ne nP]; exact hP1, trip, fun p9 cv hc => ?_⟩
      have e9 : r.2 = X.env.qual ++ "<lambda>" := hT.2 r hr hb
      rcases among p9 cv hc with y | y
      · obtain ⟨c, x1, x2⟩ := codes0 p9 cv y
        exact ⟨c, x1, sF _ _ (by rw [e9]; exact x2)⟩
      · exact ⟨ca, y, by rw [upd_ne hcf, upd_same, e9]⟩
    · obtain ⟨ps, y1, y2, y3⟩ := hd.2.1.1 r hr
      refine ⟨ps, keepH _ _ y1 hb, y2, fun p9 cv hc => ?_⟩
      obtain ⟨c, x1, x2⟩ := y3 p9 cv hc
      exact ⟨c, x1, sF _ _ x2⟩
  · have e8 := hd.2.1.2 r hr
    obtain ⟨ps, e7⟩ := hd.2.1.tbl hr
    rw [upd_ne (ne_of_none e7 hf)]
    by_cases z2 : r.1 = ca
    · rcases cF with y | ⟨_, y⟩
      · rw [z2, y] at e8; cases e8
      · rw [z2, y] at e7; cases e7
    · rw [upd_ne z2]; exact e8
end FL
set_option Elab.async false
set_option linter.all false
set_option maxRecDepth 100000
set_option maxHeartbeats 4000000
/-! ## FL, 21: a def that calls what it got; a lambda handed to it -/
namespace FL
open PySem PySem.Spec PyProof.Rows L2 LamX
section
variable {P : Program} {w : World} {K : PySem.W.Frag} {mg : Str → Option Value} {base : Heap}
/-- one call of a def, at one state -/
theorem run_atc {x qual : Str} {st : Stmt} {f : Addr} {fd : FuncData} {N ps : List Str} {k : Nat} (T : L2.Fun K x qual st f fd) (Sc : FnScope N ps (defScope st)) {A : Around} {outer : List PySem.Env} {s : Shared} {H : Hp} {args : Args} {us : List Value} {vs : List V} {Q : VK} {E : XK}
    (hr : Rm (k + 1) A) (e0 : Env0 P w K mg base A outer s H) (hbd : BindsTo s fd args (ps.zip us)) (rv : Vals vs us) (hlv : vs.length = ps.length)
    (hbody : ∀ cdv : Value, cdv = fd.code → Rm k (A.deeper (envOfC qual (defScope st) s.heap.objs.size f cdv)) → ∃ t, PSs (cxOf (L2.CX P w) P w K mg base N qual (defScope st) f cdv A outer s H E) (defBody st) t ∧ t { nx := fun _ H2 => Q .non H2, rt := Q } (L2.start N vs) H) :
    codeAny (model P w) A (.call (.ref f) args) (CR (L2.CX P w) outer P w H s Q E) s := by
  obtain ⟨oc, od, kV, doc, pm, an, cdv, ct, osl, rfl, lk, hcd⟩ := T.ex
  have KX : K.In s.heap := e0.mod.kin.keeps fun b ob y => (e0.bs b ob y).1
  have lim : s.heap.NoLimit := e0.mod.nolimit.keeps fun b ob y => (e0.bs b ob y).1
  have kinds : ∀ y ∈ ps.zip us, (defScope st).names.lookup y.1 = some .local ∨ ((defScope st).names.lookup y.1 = some .cell ∧ ((cellsFrom (s.heap.objs.size + 1) (defScope st).names []).lookup y.1).isSome = true) := fun ⟨nm, v⟩ hy => by
    rcases Sc.par nm (List.of_mem_zip hy).1 with q | q
    · exact .inl q
    · exact .inr ⟨q, PySem.W.cellsFrom_some _ _ _ (.inl q)⟩
  obtain ⟨t, ht, hq⟩ := hbody cdv rfl (hr.deeper _)
  refine codeAny_call_function hr.r.depth (KX _ _ lk) rfl Sc.co Sc.gen rfl (PySem.W.codeRec_of KX hcd) (hbd _ _ _ _ ?_)
  refine wpAny_newFunctionEnv_cells Sc.kind kinds fun env2 he2 s1 x2 => ?_
  subst he2
  refine ⟨lim.keeps x2.toInCall.keep, codeAny_func ?_⟩
  have I : Inv (cxOf (L2.CX P w) P w K mg base N qual (defScope st) f cdv A outer s H E) [] (L2.start N vs) H s1 := inv_start Sc hr.r.hd e0 hlv rv x2
  refine wpAny_mono (ht.run [] s1 (L2.start N vs) H _ I hq) (fun fl s2 hs2 => ?_) fun e s2 hs2 => hs2
  have fin : ∀ {σ2 : L2.St} {H2 : Hp} {v : V} {u : Value}, Inv (cxOf (L2.CX P w) P w K mg base N qual (defScope st) f cdv A outer s H E) [] σ2 H2 s2 → RelV v u → Q v H2 → CE outer P w H s Q u s2 :=
    fun {σ2 H2 v u} J r2 q => ⟨v, H2, J.os, J.bare, J.base, J.hok, r2, q⟩
  cases fl with
  | ret u =>
    obtain ⟨v, σ2, H2, J, r2, q⟩ := hs2
    exact fin J r2 q
  | next =>
    obtain ⟨σ2, H2, J, q⟩ := hs2
    exact fin (v := V.non) (u := Value.none) J rfl q
  | brk =>
    obtain ⟨_, _, _, q⟩ := hs2
    exact q.elim
  | cont =>
    obtain ⟨_, _, _, q⟩ := hs2
    exact q.elim
theorem run_at {x qual : Str} {st : Stmt} {f : Addr} {fd : FuncData} {N ps : List Str} {k : Nat} (T : L2.Fun K x qual st f fd) (Sc : FnScope N ps (defScope st)) {A : Around} {outer : List PySem.Env} {s : Shared} {H : Hp} {args : Args} {us : List Value} {vs : List V} {Q : VK} {E : XK}
    (hr : Rm (k + 1) A) (e0 : Env0 P w K mg base A outer s H) (hbd : BindsTo s fd args (ps.zip us)) (rv : Vals vs us) (hlv : vs.length = ps.length)
    (hbody : ∀ cdv : Value, Rm k (A.deeper (envOfC qual (defScope st) s.heap.objs.size f cdv)) → ∃ t, PSs (cxOf (L2.CX P w) P w K mg base N qual (defScope st) f cdv A outer s H E) (defBody st) t ∧ t { nx := fun _ H2 => Q .non H2, rt := Q } (L2.start N vs) H) :
    codeAny (model P w) A (.call (.ref f) args) (CR (L2.CX P w) outer P w H s Q E) s := run_atc T Sc hr e0 hbd rv hlv fun cdv _ => hbody cdv
/-- the slots at a def's begin -/
theorem start_at {Z : Option Zt} {F H : Hp} {N : List Str} {vs : List V} {ds : List D} {s : S} (hs : Same F H) (av : AtAll K F Z vs ds) (hd : DrAt Z F H s) : At0 K Z F H F H (L2.start N vs) (ds.map (fun d => some (Sl.dat d)) ++ List.replicate (N.length - ds.length) none) s := by
  refine ⟨Ext.refl hs, hd, ⟨?_, fun i d q => ?_, fun i xs q => absurd q owns_start, fun i j xs ys a q1 => absurd q1 owns_start⟩⟩
  · unfold L2.start
    rw [List.length_append, List.length_append, List.length_map, List.length_map, List.length_replicate, List.length_replicate, av.length]
  · unfold L2.start
    by_cases hi : i < ds.length
    · rw [List.getElem?_append_left (by rw [List.length_map]; exact hi), List.getElem?_map] at q
      cases e : ds[i]? with
      | none => rw [e] at q; cases q
      | some d' =>
        rw [e] at q
        cases q
        obtain ⟨v, h1, h2⟩ := av.get e
        exact ⟨v, by rw [List.getElem?_append_left (by rw [List.length_map, av.length]; exact hi), List.getElem?_map, h1]; rfl, h2⟩
    · rw [List.getElem?_append_right (by rw [List.length_map]; omega), List.getElem?_replicate] at q
      split at q <;> cases q
end
/-- what must be known of a lambda that stands in X's text -/
structure LamOk (X : Cx) (l : LamD) : Prop where
  s : LamS X.env.scope l.scope
  q : l.q = X.env.qual ++ "<lambda>"
  cl : l.cl = cloFrom X.env.cells l.scope.names []
  b : ∀ (pm cv ctv : Value), bindArgs (PySem.W.kla_fn "<lambda>" l.q l.params l.body l.scope l.cl pm cv ctv) ⟨[], []⟩ = pure []
section
variable {X : Cx} {pins : List (Addr × Obj)} {σ : L2.St} {H : Hp} {s : Shared}
/-- x(), in the def that was called from X at s -/
theorem pe_act2 {CXg : CXT} {Eg : XK} {Ng : List Str} {qg : Str} {sg : Scope} {g : Addr} {cdg : Value} {l : LamD} {k i : Nat} {a : Str} {pn : List (Addr × Obj)} {xe : Value → Shared → Prop} {W : WX} {tb : XK → TE} {p1 p2 : Pos}
    (I : Inv X pins σ H s) (L : LamOk X l) (tk : Takes ((cxOf CXg X.prog X.w X.K X.mg X.base Ng qg sg g cdg X.A X.stack s H Eg).tr pn xe) W) (hr : Rm (k + 1) (X.A.deeper (envOfC qg sg s.heap.objs.size g cdg)))
    (hbody : ∀ (E : XK) (A : Around) (outer : List PySem.Env) (s2 : Shared) (H2 : Hp) (f c : Addr), Rm k (A.deeper (lamEnv X l.scope s2.heap.objs.size f c)) → PE (lamCx X A outer s2 H2 E l.scope f c) l.body (tb E))
    (hN : Ng[i]? = some a) (hv : Vis sg a) (hd : (a == ("__debug__" : Str)) = false := by decide) (hcd : (a == ("__classdict__" : Str)) = false := by decide) :
    PE ((cxOf CXg X.prog X.w X.K X.mg X.base Ng qg sg g cdg X.A X.stack s H Eg).tr pn xe) (.Call (.Name a p1) [] [] p2)
      (fun σZ HZ Q => ∃ f c, σZ[i]? = some (some (.ref f)) ∧ HZ f = some (lamO l f c) ∧ HZ c = some (CodeO c l.q) ∧ tb (WE W σZ) σ HZ Q) := by
  refine ⟨fun pinsZ sZ σZ HZ Q IZ h => ?_⟩
  obtain ⟨f, c, h0, hlam, hcode, ht⟩ := h
  refine wpAny_Call_Name_kw (thn ((pe_var (pos := p1) (i := i) hN hv hd hcd).run pinsZ sZ σZ HZ (fun v H1 => v = .ref f ∧ H1 = HZ) IZ ⟨.ref f, h0, rfl, rfl⟩) fun u s1 ⟨v, H1, I1, r1, q1⟩ => ?_)
  obtain ⟨ev, eH⟩ := q1
  subst ev
  rw [eH] at I1
  obtain rfl : u = Value.ref f := r1
  obtain ⟨⟨pm, ctv, of1⟩, _, _⟩ := I1.hok f _ hlam
  obtain ⟨⟨oc, us, t, hoc, dat, nm⟩, _, _⟩ := I1.hok c _ hcode
  have un : Un (frs X.stack) [] H HZ s.heap s1.heap := I1.base
  refine PySem.W.callWith_F0 ⟨_, _, _, _, of1⟩ ?_
  have run : codeAny (model X.prog X.w) (X.A.deeper (envOfC qg sg s.heap.objs.size g cdg)) (.call (.ref f) ⟨[], []⟩) (CR (L2.CX X.prog X.w) (envOfC qg sg s.heap.objs.size g cdg :: X.stack) X.prog X.w HZ s1 Q (WE W σZ)) s1 := by
    refine PySem.W.kla_callFunE hr.r.depth of1 rfl L.s.co L.s.gen rfl ⟨c, oc, us, t, rfl, hoc, dat, nm⟩ ?_
    rw [L.b]
    refine wpAny_pure (wpAny_newFunctionEnv (fun y hy => (L.s.own y hy).2) (fun y hy => absurd hy (by simp)) (fun hh hns hsb => ⟨I1.nolimit.fresh _ hsb, ?_⟩) L.s.kind)
    have kp : ∀ b o, s1.heap.get? b = some o → hh.get? b = some o := fun b o e => hsb.extBut b o (Nat.ne_of_lt (Heap.lt_size e)) (Heap.get?_push_of_some _ e)
    have J : Inv (lamCx X (X.A.deeper (envOfC qg sg s.heap.objs.size g cdg)) (envOfC qg sg s.heap.objs.size g cdg :: X.stack) s1 HZ (WE W σZ) l.scope f c) [] σ HZ { s1 with heap := hh, toks := s1.toks + ([] : List (Str × Value)).length } :=
      lam_start2 I L.s I1.env0 hr.r.hd un hns kp
    have el : PySem.W.envX l.q l.scope s1.heap.objs.size f (.ref c) l.cl = lamEnv X l.scope s1.heap.objs.size f c := by rw [L.q, L.cl]
    show codeAny _ _ (.expr l.body (PySem.W.envX l.q l.scope s1.heap.objs.size f (.ref c) l.cl)) _ _
    rw [el]
    have ed : (X.A.deeper (envOfC qg sg s.heap.objs.size g cdg)).deeper (PySem.W.envX l.q l.scope s1.heap.objs.size f (.ref c) l.cl) = (X.A.deeper (envOfC qg sg s.heap.objs.size g cdg)).deeper (lamEnv X l.scope s1.heap.objs.size f c) := by rw [el]
    refine PySem.W.kla_codeExpr (wpAny_mono ((hbody _ _ _ s1 HZ f c (hr.deeper _)).run [] _ _ HZ Q J ht) (fun v s2 hq => ?_) fun e s2 hq => hq)
    obtain ⟨w2, H2, J2, rv, q⟩ := hq
    exact ⟨w2, H2, J2.os, J2.bare, J2.base, J2.hok, rv, q⟩
  refine wpAny_call (codeAny_mono run fun r s2 hq => ?_)
  cases r with
  | error e => exact passAt tk σZ pinsZ HZ s1 e s2 I1 hq
  | ok fl =>
    cases fl with
    | ret u => exact I1.after hq
    | next => exact hq.elim
    | brk => exact hq.elim
    | cont => exact hq.elim
end
/-! ### a def that calls its argument, by content -/
open Classical in
noncomputable def eAct (l : LamD) (th : S → RE D) : EM := fun ρ s => match ρ[0]? with
  | some (some (FL.D.fn l2)) => if l2 = l then th s else .bad
  | _ => .bad
open Classical in
/-- what is done where the maker is known -/
noncomputable def thJ (j : Hp → Option Zt → Prop) (m : S → RE FL.D) : S → RE FL.D := fun s => if s.inv = j then m s else .bad
/-- ctx: the def called from X at s; what its argument is worth there -/
def ActIn (Y : Cx) (a : Str) (l : LamD) (th : S → RE D) : Prop := ∀ (W : WX) (pn : List (Addr × Obj)) (xe : Value → Shared → Prop) (p1 p2 : Pos), Takes (Y.tr pn xe) W → PE (Y.tr pn xe) (.Call (.Name a p1) [] [] p2) (tE Y.K W (eAct l th))
/-- the def told at g: with whatever stands for its argument -/
structure FnT (P : Program) (w : World) (K : PySem.W.Frag) (mg : Str → Option Value) (base : Heap) (k : Nat) (x a : Str) (st : Stmt) (g : Addr) (fd : FuncData) (N : List Str) (mT : LamD → (S → RE D) → SM) : Prop where
  T : L2.Fun K x x st g fd
  Sc : FnScope N [a] (defScope st)
  n0 : N[0]? = some a
  v : Vis (defScope st) a
  go : ∀ (l : LamD) (th : S → RE D) (cdv : Value) (A : Around) (outer : List PySem.Env) (s : Shared) (H : Hp) (E : XK), Rm k (A.deeper (envOfC x (defScope st) s.heap.objs.size g cdv)) → ActIn (cxOf (L2.CX P w) P w K mg base N x (defScope st) g cdv A outer s H E) a l th →
    PSs (cxOf (L2.CX P w) P w K mg base N x (defScope st) g cdv A outer s H E) (defBody st) (tS K (fun c dd _ H => E c dd H) (mT l th))
/-- what the lambda l is worth, called by whom X called -/
structure LamIs (X : Cx) (k : Nat) (l : LamD) (mb : EM) : Prop where
  ok : LamOk X l
  go : ∀ (E : XK) (A : Around) (outer : List PySem.Env) (s2 : Shared) (H2 : Hp) (f c : Addr), Rm k (A.deeper (lamEnv X l.scope s2.heap.objs.size f c)) → PE (lamCx X A outer s2 H2 E l.scope f c) l.body (tE X.K (fun cls d _ H => E cls d H) mb)
section
variable {X : Cx} {pins : List (Addr × Obj)} {σ : L2.St} {H : Hp} {s : Shared}
/-- the def g, called with the lambda l from X at s; ρ: what X's slots hold -/
theorem told_run {k : Nat} {x a : Str} {st : Stmt} {g f : Addr} {fd : FuncData} {N : List Str} {mT : LamD → (S → RE D) → SM} {l : LamD} {mb : EM} {Z : Option Zt} {F : Hp} {ρ : Env} {sd : S} {d : D} {Q : VK} {E : XK} (I : Inv X pins σ H s) (G : FnT X.prog X.w X.K X.mg X.base (k + 1) x a st g fd N mT)
    (hd : (a == ("__debug__" : Str)) = false) (hcd : (a == ("__classdict__" : Str)) = false) (hb : Binds X.K fd [a] []) (L : LamIs X k l mb) (hr : Rm (k + 2) X.A) (hs : Same F H) (he : EnvAt X.K F Z σ ρ) (hdr : DrAt Z F H sd) (hf : At X.K F Z (.ref f) (.fn l))
    (hm : ∀ j : Hp → Option Zt → Prop, fnOf N.length 1 (mT l (thJ j (mb ρ))) [.fn l] { sd with inv := j } = .ok d { sd with inv := j }) (hq : ∀ F2 H2 v, Ext Z F H F2 H2 → DrAt Z F2 H2 sd → At X.K F2 Z v d → Q v H2) :
    codeAny (model X.prog X.w) X.A (.call (.ref g) ⟨[.ref f], []⟩) (CR (L2.CX X.prog X.w) X.stack X.prog X.w H s Q E) s := by
  have bb := hb s [.ref f] I.kIn rfl
  refine run_at (N := N) (ps := [a]) (us := [.ref f]) (vs := [.ref f]) G.T G.Sc hr I.env0 bb (.cons rfl .nil) rfl fun cdv hr2 => ?_
  refine ⟨_, G.go l (thJ (fun F Z => EnvAt X.K F Z σ ρ) (mb ρ)) cdv X.A X.stack s H E hr2 fun W pn xe p1 p2 tk => ?_, ?_⟩
  · refine pe_weak (pe_act2 (k := k) (i := 0) (l := l) I L.ok tk hr2 (fun E2 A outer s2 H2 f2 c2 h => L.go E2 A outer s2 H2 f2 c2 h) G.n0 G.v hd hcd) fun σZ HZ Q2 ⟨F2, Z2, ρ2, s2, hs2, he2, hd2, h2⟩ => ?_
    unfold eAct at h2
    split at h2
    · rename_i l2 e2
      split at h2
      · rename_i el
        subst el
        obtain ⟨v, h3, h4⟩ := he2 0 _ e2
        unfold thJ at h2
        split at h2
        · rename_i ei
          have h5 := hd2.2.2 F2 (Same.refl F2)
          rw [ei] at h5
          cases h4 with
          | fn h6 h7 => exact ⟨_, _, h3, hs2 _ _ h6, hs2 _ _ h7, F2, Z2, ρ, s2, hs2, h5, hd2, post_wish h2 fun _ _ _ q => q⟩
        · exact h2.elim
      · exact h2.elim
    · exact h2.elim
  · have hdj : DrAt Z F H { sd with inv := fun F Z => EnvAt X.K F Z σ ρ } := ⟨by
      have := hdr.1
      cases Z with
      | none => exact this
      | some z => exact this, hdr.2.1, fun F3 g => he.mono g⟩
    have st0 := start_at (N := N) (ds := [.fn l]) hs (.cons hf .nil) hdj
    refine ⟨F, H, Z, F, _, _, st0, ?_⟩
    have e := hm fun F Z => EnvAt X.K F Z σ ρ
    unfold fnOf at e
    rw [if_pos (show [FL.D.fn l].length = 1 from rfl)] at e
    have back : ∀ {F2 H2}, Ext Z F H F2 H2 → DrAt Z F2 H2 { sd with inv := fun F Z => EnvAt X.K F Z σ ρ } → DrAt Z F2 H2 sd := fun {F2 H2} ex dj => ⟨by
      have := dj.1
      cases Z with
      | none => exact this
      | some z => exact this, dj.2.1, fun F3 g => hdr.2.2 F3 (ex.f.trans g)⟩
    show PostS X.K _ Z F H _ (mT l (thJ (fun F Z => EnvAt X.K F Z σ ρ) (mb ρ)) (([FL.D.fn l].map fun d => some (Sl.dat d)) ++ List.replicate (N.length - 1) none) _)
    cases r : mT l (thJ (fun F Z => EnvAt X.K F Z σ ρ) (mb ρ)) (([FL.D.fn l].map fun d => some (Sl.dat d)) ++ List.replicate (N.length - 1) none) { sd with inv := fun F Z => EnvAt X.K F Z σ ρ } with
    | nx ρ2 s2 =>
      rw [r] at e
      cases e
      exact fun F2 H2 σ2 ex d2 _ => hq F2 H2 _ ex (back ex d2) .non
    | rt d2 s2 =>
      rw [r] at e
      cases e
      exact fun F2 H2 v ex d2 av => hq F2 H2 v ex (back ex d2) av
    | ex C fs ρ2 s2 => rw [r] at e; cases e
    | bk _ _ => rw [r] at e; cases e
    | ct _ _ => rw [r] at e; cases e
    | bad => rw [r] at e; cases e
end
open Classical in
/-- what told says of a lambda whose body is worth mb, whichever it is -/
noncomputable def toldA (n : Nat) (mT : LamD → (S → RE FL.D) → SM) (mb : S → RE FL.D) (s : S) : Option FL.D :=
  if h : ∃ d, ∀ (l : LamD) (j : Hp → Option Zt → Prop), fnOf n 1 (mT l (thJ j mb)) [.fn l] { s with inv := j } = .ok d { s with inv := j } then some (Classical.choose h) else none
theorem toldA_run {n : Nat} {mT : LamD → (S → RE FL.D) → SM} {mb : S → RE FL.D} {s : S} {d : FL.D} (h : ∀ (l : LamD) (j : Hp → Option Zt → Prop), fnOf n 1 (mT l (thJ j mb)) [.fn l] { s with inv := j } = .ok d { s with inv := j }) : toldA n mT mb s = some d := by
  have ex : ∃ d, ∀ (l : LamD) (j : Hp → Option Zt → Prop), fnOf n 1 (mT l (thJ j mb)) [.fn l] { s with inv := j } = .ok d { s with inv := j } := ⟨d, h⟩
  unfold toldA
  rw [dif_pos ex]
  have e := (Classical.choose_spec ex) default s.inv
  rw [h default s.inv] at e
  have e2 : d = Classical.choose ex := by
    injection e
  rw [← e2]
theorem toldA_spec {n : Nat} {mT : LamD → (S → RE FL.D) → SM} {mb : S → RE FL.D} {s : S} {d : FL.D} (h : toldA n mT mb s = some d) : ∀ (l : LamD) (j : Hp → Option Zt → Prop), fnOf n 1 (mT l (thJ j mb)) [.fn l] { s with inv := j } = .ok d { s with inv := j } := by
  unfold toldA at h
  split at h
  · rename_i ex
    cases h
    exact Classical.choose_spec ex
  · cases h
open Classical in
/-- told(e), e a lambda -/
noncomputable def eTold (n : Nat) (mT : LamD → (S → RE FL.D) → SM) (tab : Nat → Option (LamD × EM)) (vs : List Nat) (me : EM) : EM := fun ρ s => (me ρ s).bind fun d s1 => match d with
  | .fn l => match tab l.k with
    | some (l2, mb) => if l = l2 then lift (toldA n mT (mb (wipeE ρ vs)) s1) s1 else .bad
    | none => .bad
  | _ => .bad
open Classical in
/-- told(lambda: b), the maker's table at P -/
noncomputable def eToldD (P : Addr) (q : Str) (n : Nat) (mT : LamD → (S → RE FL.D) → SM) (mb : EM) : EM := fun ρ s => if (P, q) ∈ s.tb ∧ ∀ r ∈ s.tb, r.1 = P → r.2 = q then lift (toldA n mT (mb ρ) s) s else .bad
section
variable {X : Cx} {W : WX} {k : Nat} {x a : Str} {st : Stmt} {g : Addr} {fd : FuncData} {N : List Str} {mT : LamD → (S → RE FL.D) → SM} {tab : Nat → Option (LamD × EM)} {e : Expr} {me : EM} {p pos : Pos}
theorem de_told (G : FnT X.prog X.w X.K X.mg X.base (k + 1) x a st g fd N mT) (hL : ∀ i l mb, tab i = some (l, mb) → LamIs X k l mb) (hr : Rm (k + 2) X.A) (hg : Gl X x) (hm : X.mg x = some (.ref g)) (hk : PySem.W.keepIn X.K (.ref g) = true) (hb : Binds X.K fd [a] []) (hx : ∀ σ, PassesAt (L2.CX X.prog X.w) X σ (WE W σ))
    (he : PE X e (tE X.K W me)) (hd : (a == ("__debug__" : Str)) = false := by decide) (hcd : (a == ("__classdict__" : Str)) = false := by decide)
    (hdb : (x == ("__debug__" : Str)) = false := by decide) (hst : starEach [e] X.env = (false, eval e X.env) :: starEach [] X.env := by rfl) (hpl : (backTo pos (starEach [] X.env)).any (·.1) = false := by rfl) :
    PE X (.Call (.Name x p) [e] [] pos) (tE X.K W (eTold N.length mT tab [] me)) := by
  refine ⟨fun pins s σ H Q I h => ?_⟩
  refine wpAny_Call_Name_kw (ld_glob I hg hm ?_ hdb)
  obtain ⟨F, Z, ρ, sd, hs, henv, hdr, h⟩ := h
  have h1 : tE X.K W me σ H fun v H1 => ∃ f l l2 mb F1 sd1, v = .ref f ∧ tab l.k = some (l2, mb) ∧ l = l2 ∧ Same F1 H1 ∧ EnvAt X.K F1 Z σ ρ ∧ DrAt Z F1 H1 sd1 ∧ At X.K F1 Z (.ref f) (.fn l) ∧ PostE X.K W Z F1 H1 σ (lift (toldA N.length mT (mb ρ) sd1) sd1) Q := by
    refine tE_then hs henv hdr h fun d s1 F1 H1 v e1 he1 hd1 a1 h => ?_
    cases d with
    | fn l =>
      dsimp only at h
      cases q : tab l.k with
      | none => rw [q] at h; exact h.elim
      | some pr =>
        obtain ⟨l2, mb⟩ := pr
        rw [q] at h
        dsimp only at h
        split at h
        · rename_i el
          cases a1 with
          | fn h6 h7 => exact ⟨_, l, l2, mb, F1, s1, rfl, q, el, e1.fh, he1, hd1, .fn h6 h7, h⟩
        · exact h.elim
    | _ => exact h.elim
  have h2 : tCons (tE X.K W me) tNil σ H fun vs H1 => ∃ f l l2 mb F1 sd1, vs = [.ref f] ∧ tab l.k = some (l2, mb) ∧ l = l2 ∧ Same F1 H1 ∧ EnvAt X.K F1 Z σ ρ ∧ DrAt Z F1 H1 sd1 ∧ At X.K F1 Z (.ref f) (.fn l) ∧ PostE X.K W Z F1 H1 σ (lift (toldA N.length mT (mb ρ) sd1) sd1) Q := by
    obtain ⟨F0, Z0, ρ0, s0, x1, x2, x3, x4⟩ := h1
    refine ⟨F0, Z0, ρ0, s0, x1, x2, x3, ?_⟩
    cases r : me ρ0 s0 with
    | bad => rw [r] at x4; exact x4
    | ex C fs s5 => rw [r] at x4; exact x4
    | ok d s5 =>
      rw [r] at x4
      intro F5 H5 v ex d5 a5
      obtain ⟨f, l, l2, mb, F1, sd1, ev, rest⟩ := x4 F5 H5 v ex d5 a5
      exact ⟨f, l, l2, mb, F1, sd1, by rw [ev], rest⟩
  refine PySem.W.callWith_K (h₀ := X.base) I.ok.mod.kin hk (thn ((pa_cons he pa_nil hst).run pos pins s σ H _ I h2) fun us s2 ⟨vs, H2, I2, r2, q2⟩ => ⟨I2.kIn, ?_⟩) hst hpl
  obtain ⟨f, l, l2, mb, F1, sd1, rfl, q, rfl, hs1, he1, hd1, a1, h3⟩ := q2
  have eu : us = [.ref f] := by
    cases r2 with
    | cons r0 rr =>
      cases rr
      rw [show _ = Value.ref f from r0]
  subst eu
  cases q3 : toldA N.length mT (mb ρ) sd1 with
  | none => rw [q3] at h3; exact h3.elim
  | some d =>
    rw [q3] at h3
    refine wpAny_call (codeAny_mono (told_run (k := k) (E := WE W σ) (Q := Q) (d := d) I2 G hd hcd hb (hL _ _ _ q) hr hs1 he1 hd1 a1 (toldA_spec q3 l) h3) fun rr s3 hq => ?_)
    cases rr with
    | error er => exact hx σ pins H2 s2 er s3 I2 hq
    | ok fl =>
      cases fl with
      | ret u => exact I2.after hq
      | next => exact hq.elim
      | brk => exact hq.elim
      | cont => exact hq.elim
open Classical in
theorem de_toldD {n : Nat} {cc PP : Addr} {q : Str} {pr : Arguments} {bd : Expr} {sc : Scope} {ps0 : Pos} {mb : EM} (B : TabB X.base X.mg cc PP) (hcc : X.env.code = .ref cc) (L : LamIs X k (lamD X 0 pr bd sc) mb) (hno : defaultsOf pr X.env = ([], [])) (hq : X.env.qual ++ "<lambda>" = q)  (hn : N.length = n)
    (G : FnT X.prog X.w X.K X.mg X.base (k + 1) x a st g fd N mT) (hr : Rm (k + 2) X.A) (hg : Gl X x) (hm : X.mg x = some (.ref g)) (hk : PySem.W.keepIn X.K (.ref g) = true) (hb : Binds X.K fd [a] []) (hx : ∀ σ, PassesAt (L2.CX X.prog X.w) X σ (WE W σ))
    (hd : (a == ("__debug__" : Str)) = false := by decide) (hcd : (a == ("__classdict__" : Str)) = false := by decide)
    (hdb : (x == ("__debug__" : Str)) = false := by decide) (hst : starEach [.Lambda pr bd sc ps0] X.env = (false, eval (.Lambda pr bd sc ps0) X.env) :: starEach [] X.env := by rfl) (hpl : (backTo pos (starEach [] X.env)).any (·.1) = false := by rfl) :
    PE X (.Call (.Name x p) [.Lambda pr bd sc ps0] [] pos) (tE X.K W (eToldD PP q n mT mb)) := by
  subst hn
  refine pe_weak (de_told (tab := fun i => if i = 0 then some (lamD X 0 pr bd sc, mb) else none) G (fun i l m2 e => ?_) hr hg hm hk hb hx (de_lam (k := 0) B hcc L.ok.s hno) hd hcd hdb hst hpl) fun σ H Q ⟨F, Z, ρ, s, hs, he, hdr, h⟩ => ⟨F, Z, ρ, s, hs, he, hdr, ?_⟩
  · have e : (if i = 0 then some (lamD X 0 pr bd sc, mb) else none) = some (l, m2) := e
    split at e
    · cases e; exact L
    · cases e
  · unfold eToldD at h
    split at h
    case isFalse => exact h.elim
    rename_i ht
    subst hq
    unfold eTold
    rw [eLam_run (l := lamD X 0 pr bd sc) ht, bind_ok]
    show PostE X.K W Z F H σ (if lamD X 0 pr bd sc = lamD X 0 pr bd sc then lift (toldA N.length mT (mb ρ) s) s else .bad) Q
    rw [if_pos rfl]
    exact h
end
/-- THE RULE for a def that makes lambdas: its code object is known -/
theorem Fun.okGc {P : Program} {w : World} {K : PySem.W.Frag} {mg : Str → Option Value} {base : Heap} {x qual : Str} {st : Stmt} {f : Addr} {fd : FuncData} {N ps : List Str} {k : Nat} {mb : SM} (T : L2.Fun K x qual st f fd) (Sc : FnScope N ps (defScope st))
    (hbody : ∀ (cdv : Value) (A : Around) (outer : List PySem.Env) (s : Shared) (H : Hp) (E : XK), cdv = fd.code → Rm k (A.deeper (envOfC qual (defScope st) s.heap.objs.size f cdv)) →
      PSs (cxOf (L2.CX P w) P w K mg base N qual (defScope st) f cdv A outer s H E) (defBody st) (tS K (fun c dd _ H => E c dd H) mb)) :
    FnG P w K mg base (k + 1) f fd ps (fnOf N.length ps.length mb) := by
  refine ⟨fun ds s e => if_neg e, fun A outer s H args us vs Q E hr e0 hbd rv hsp => ?_⟩
  obtain ⟨F, Z, ds, s2, hs, av, hd, p⟩ := hsp
  unfold fnOf at p
  by_cases hl : ds.length = ps.length
  · rw [if_pos hl] at p
    have hlv : vs.length = ps.length := by rw [av.length]; exact hl
    refine run_atc T Sc hr e0 hbd rv hlv fun cdv ec hr2 => ⟨_, hbody cdv A outer s H E ec hr2, ?_⟩
    have st0 := start_at (N := N) hs av hd
    rw [hl] at st0
    refine ⟨F, H, Z, F, _, _, st0, ?_⟩
    generalize ds.map (fun d => some (Sl.dat d)) ++ List.replicate (N.length - ps.length) none = ρ at p
    cases r : mb ρ s2 with
    | nx ρ2 s2 => rw [r] at p; exact fun F2 H2 σ2 ex d2 _ => p F2 H2 _ ex d2 .non
    | rt d s2 => rw [r] at p; exact p
    | ex C fs ρ2 s2 => rw [r] at p; exact fun F2 H2 σ2 dd ex d2 _ xd => p F2 H2 dd ex d2 xd
    | bk _ _ => rw [r] at p; exact p.elim
    | ct _ _ => rw [r] at p; exact p.elim
    | bad => rw [r] at p; exact p.elim
  · rw [if_neg hl] at p
    exact p.elim
end FL
set_option Elab.async false
set_option linter.all false
set_option maxRecDepth 100000
set_option maxHeartbeats 4000000
/-! ## FL, 22: a comprehension whose parts call what its maker knows -/
namespace FL
open PySem PySem.Spec PyProof.Rows L2 LamX
section
variable {X : Cx}
/-- a block's state is a state of the def around it -/
def Outer (X : Cx) (pins : List (Addr × Obj)) (σ : L2.St) (B : Cx) : Prop := ∀ {pb : List (Addr × Obj)} {σb : L2.St} {Hb : Hp} {sb : Shared}, Inv B pb σb Hb sb → Inv X pins σ Hb sb
theorem lc_known {pins : List (Addr × Obj)} {s : Shared} {σ : L2.St} {H : Hp} {Q : VK} {el t0 it0 : Expr} {fs : List Expr} {sc : Scope} {own : List (Str × Nat)} {p0 p1 : Pos} {wi : TI} {g : TG} {tt : TT} {te : TE}
    (calm : X.calm = true) (nd : X.N.Nodup) (I : Inv X pins σ H s) (hi : PI X t0 it0 wi) (ok : BlkOk X.N X.env.scope sc own)
    (hg : ∀ (s2 : Shared) (H2 : Hp) (C : Addr) (cl : List (Str × Addr)) (fp : List Addr), PG (X.blk s2 H2 sc (compEnvC sc cl C X.env) fp) t0 g)
    (ht : ∀ (s2 : Shared) (H2 : Hp) (C : Addr) (cl : List (Str × Addr)) (fp : List Addr), PTs (X.blk s2 H2 sc (compEnvC sc cl C X.env) fp) fs tt)
    (he : ∀ (s2 : Shared) (H2 : Hp) (C : Addr) (cl : List (Str × Addr)) (fp : List Addr), Outer X pins σ (X.blk s2 H2 sc (compEnvC sc cl C X.env) fp) → PE (X.blk s2 H2 sc (compEnvC sc cl C X.env) fp) el te)
    (folded : ∀ x, foldedSetIterable it0 X.env x = pure x) (h : tLc wi g tt te (own.map (·.2)) σ H Q) :
    wpAny (model X.prog X.w) X.A (eval (.ListComp el [⟨t0, it0, fs, 0⟩] sc p0) X.env) (EP X pins σ Q) X.xe s := by
  rw [eval_ListComp]
  have cells : ∀ y ∈ sc.names, y.2 = .free → ∃ c, X.env.cells.lookup y.1 = some c := fun y hy e => I.ok.has _ (ok.free y hy e)
  refine wpAny_comprehension_free rfl folded (closure_ok cells) ok.kind (fun y hy e => by rw [ok.uniq y hy, e]) (thn (hi.run pins s σ H _ I h) fun xv sA hA => thn hA fun iv sB hB => ?_)
  obtain ⟨it, fp, tn, J, HB, ei, IB, T, stB, fpB, q⟩ := hB
  subst ei
  refine wpAny_newObj_type (newEnv_comp ?_) (by show 0 ≤ sizeLine; decide)
  obtain ⟨W, ⟨m0, w0⟩, turn⟩ := q sB.heap.objs.size (IB.hok.fresh (Nat.le_refl _))
  have nL : HB sB.heap.objs.size = none := IB.hok.fresh (Nat.le_refl _)
  have IC : Inv X pins σ (upd HB sB.heap.objs.size (.lst [])) { sB with heap := sB.heap.push { cls := .type "list", data := .seq ([] : List Value).toArray } } :=
    IB.laid (t' := sB.toks) (fun b o e => Heap.get?_push_of_some _ e) (Nat.le_refl _) ⟨Nat.zero_le _, [], 0, .nil, Heap.get?_push_size _ rfl⟩
  have keepC : ∀ b o, sB.heap.get? b = some o → (sB.heap.push { cls := .type "list", data := .seq ([] : List Value).toArray }).get? b = some o := fun b o e => Heap.get?_push_of_some _ e
  have small : ∀ b ∈ fp, b < sB.heap.objs.size := fun b hb => by
    obtain ⟨o, e, _⟩ := T.obj _ _ stB b hb
    exact Heap.lt_size e
  have fpC : ∀ b ∈ fp, FpOk X pins (upd HB sB.heap.objs.size (.lst [])) b ∧ b < (sB.heap.push { cls := .type "list", data := .seq ([] : List Value).toArray }).objs.size := fun b hb => by
    refine ⟨⟨?_, (fpB b hb).2⟩, by rw [Heap.size_push]; exact Nat.lt_succ_of_lt (small b hb)⟩
    rw [upd_ne (Nat.ne_of_lt (small b hb))]
    exact (fpB b hb).1
  have stC : tn 0 (sB.heap.push { cls := .type "list", data := .seq ([] : List Value).toArray }) := T.keep _ _ _ stB fun b _ o e => keepC b o e
  generalize hsC : ({ sB with heap := sB.heap.push { cls := .type "list", data := .seq ([] : List Value).toArray } } : Shared) = sC at IC
  have hC : sC.heap = sB.heap.push { cls := .type "list", data := .seq ([] : List Value).toArray } := by rw [← hsC]
  rw [← hC] at fpC stC
  generalize hL : sB.heap.objs.size = L at *
  have ID := block_start IC ok nd fpC
  generalize hcl : cellsFrom (sC.heap.objs.size + 1) sc.names (cloFrom X.env.cells sc.names []) = cl at ID
  generalize hHC : upd HB L (.lst []) = HC at *
  have outer : Outer X pins σ (X.blk sC HC sc (compEnvC sc cl sC.heap.objs.size X.env) fp) := fun {pb σb Hb sb} Ib => IC.call' (ch := fp) Ib.os Ib.base Ib.hok Ib.bare fun b hb => ⟨(fpC b hb).1.2.2.2.1, (fpC b hb).1.2.1, (fpC b hb).1.2.2.2.2.1, (fpC b hb).1.2.2.2.2.2⟩
  have pg := hg sC HC sC.heap.objs.size cl fp
  have pt := ht sC HC sC.heap.objs.size cl fp
  have pe := he sC HC sC.heap.objs.size cl fp outer
  have stD : tn 0 (pushCells (sC.heap.push { cls := .type "dict", data := .dict #[] }) sc.names) := T.keep _ _ _ stC fun b _ o e => pushCells_keeps _ _ _ _ (Heap.get?_push_of_some _ e)
  have none0 : ∀ b ∈ fp, HC b = none := fun b hb => (fpC b hb).1.1
  generalize hB : X.blk sC HC sc (compEnvC sc cl sC.heap.objs.size X.env) fp = B at ID outer pg pt pe
  have stays : ∀ {σ2 : L2.St} {H2 : Hp} {s2 : Shared}, Inv B [] σ2 H2 s2 → (∀ b ∈ fp, H2 b = none) → ∀ b ∈ fp, FpOk B [] H2 b := fun {σ2 H2 s2} I2 hn b hb => by
    subst hB
    exact ⟨hn b hb, (I2.ok.exf b hb).1, I2.ok.exfs b hb, .inl hb, fun x c e => (I2.ok.exf b hb).2 x c e, fun p hp => absurd (show p ∈ ([] : List (Addr × Obj)) ++ [] from hp) (by simp)⟩
  have whole : codeAny (model X.prog X.w) X.A (.compLoop (.ListComp el [⟨t0, it0, fs, 0⟩] sc p0) 0 (.ref it) (.ref L) (compEnvC sc cl sC.heap.objs.size X.env)) (compPost (model X.prog X.w) X.A X.xe none (EP X pins σ Q) (.ref L) sC.heap.objs.size)
      { heap := pushCells (sC.heap.push { cls := .type "dict", data := .dict #[] }) sc.names, gens := sC.gens, drawn := sC.drawn, toks := sC.toks, os := sC.os } := by
    subst hB
    refine compLoop_any (fun n s2 => ∃ i H2, Inv (X.blk sC HC sc (compEnvC sc cl sC.heap.objs.size X.env) fp) [] (wipe σ (own.map (·.2))) H2 s2 ∧ tn i s2.heap ∧ (∀ b ∈ fp, H2 b = none) ∧ W i n H2) (fun n s2 hyp => ?_) m0 ⟨0, HC, ID, stD, none0, w0⟩
    obtain ⟨i, HE, IE, stE, nE, wE⟩ := hyp
    rcases turn i n HE wE with ⟨halt, fine⟩ | ⟨goes, Nx, less, turns⟩
    · refine thnF (T.done (X.blk sC HC sc (compEnvC sc cl sC.heap.objs.size X.env) fp) rfl rfl rfl calm i [] s2 _ HE (fun _ _ => False) IE (stays IE nE) stE halt) fun r sF ⟨er, IF⟩ => ?_
      subst er
      obtain ⟨mm, ns, _⟩ := IF.loc
      have IO : Inv X pins σ HE sF := outer IF
      have fr : HE sC.heap.objs.size = none := IF.free
      obtain ⟨f0, f1, f2, f3, f4, f5⟩ := IC.fpOk (Nat.le_refl _) fr
      exact ⟨mm, ns, fun h2 sb => ⟨.ref L, HE, IO.turned (t' := sF.toks) (fun b o nb => (sb.2 b nb).trans) f0 f1 f3 f4 f5, rfl, fine⟩⟩
    · refine thnF (T.item (X.blk sC HC sc (compEnvC sc cl sC.heap.objs.size X.env) fp) rfl rfl rfl calm i [] s2 _ HE (fun _ _ => False) IE (stays IE nE) stE goes) fun r sF ⟨u, er, hF⟩ => ?_
      subst er
      refine thnF hF fun _ sG ⟨xv2, HG, IG, rG, yG, stG, nG⟩ => ?_
      have IGp := IG.pinned (stays IG nG) (T.obj _ _ stG)
      refine thnF (pg.run _ sG _ HG xv2 u _ IGp rG (turns xv2 HG yG)) fun _ sK ⟨σK, HK, IK, wK, tK⟩ => ?_
      refine thnF (pt.run _ sK σK HK _ IK tK) fun yes sM ⟨HM, IM, tM⟩ => ?_
      have next : ∀ {sN : Shared} {HN : Hp}, Inv (X.blk sC HC sc (compEnvC sc cl sC.heap.objs.size X.env) fp) ([] ++ pinsAt fp sG.heap) σK HN sN → Nx HN →
          ∃ m, m < n ∧ ∃ i H2, Inv (X.blk sC HC sc (compEnvC sc cl sC.heap.objs.size X.env) fp) [] (wipe σ (own.map (·.2))) H2 sN ∧ tn i sN.heap ∧ (∀ b ∈ fp, H2 b = none) ∧ W i m H2 := fun {sN HN} IN nx => by
        obtain ⟨m2, lt2, w2⟩ := less HN nx
        have kept : ∀ b ∈ fp, ∀ o, sG.heap.get? b = some o → sN.heap.get? b = some o ∧ HN b = none := fun b hb o e => by
          obtain ⟨z1, z2, _⟩ := IN.pin (b, o) (List.mem_append_right _ (List.mem_append_right _ (mem_pinsAt hb e)))
          exact ⟨z1, z2⟩
        have len : (wipe σ (own.map (·.2))).length = σK.length := by rw [← wK, wipe_length]
        refine ⟨m2, lt2, i + 1, HN, (IN.unpinned (pins := [])).weak len fun j v e => ?_, T.keep _ _ _ stG fun b hb o e => (kept b hb o e).1, fun b hb => ?_, w2⟩
        · rw [← wK] at e
          exact (wipe_some e).1
        · obtain ⟨o, e, _⟩ := T.obj _ _ stG b hb
          exact (kept b hb o e).2
      cases yes with
      | false =>
        simp only [Bool.false_eq_true, if_false] at tM ⊢
        exact next IM tM
      | true =>
        simp only [if_true] at tM ⊢
        refine thnF (pe.run _ sM σK HM _ IM tM) fun z sN ⟨yv, HN, IN, rN, acc, hacc, room, nx⟩ => ?_
        exact app_ok (X := X.blk sC HC sc (compEnvC sc cl sC.heap.objs.size X.env) fp) IN hacc room rN fun sP IP => next IP nx
  exact codeAny_compStart_list whole (T.self X.A 0 _ _ _ stD whole)
/-- [e for x in xs], what X knows is known in its block -/
theorem pe_lcK {el t0 it0 : Expr} {fs : List Expr} {sc : Scope} {own : List (Str × Nat)} {p0 : Pos} {wi : TI} {g : TG} {tt : TT} {te : L2.St → TE}
    (calm : X.calm = true) (nd : X.N.Nodup) (hi : PI X t0 it0 wi) (ok : BlkOk X.N X.env.scope sc own)
    (hg : ∀ (s2 : Shared) (H2 : Hp) (C : Addr) (cl : List (Str × Addr)) (fp : List Addr), PG (X.blk s2 H2 sc (compEnvC sc cl C X.env) fp) t0 g)
    (ht : ∀ (s2 : Shared) (H2 : Hp) (C : Addr) (cl : List (Str × Addr)) (fp : List Addr), PTs (X.blk s2 H2 sc (compEnvC sc cl C X.env) fp) fs tt)
    (he : ∀ (pins : List (Addr × Obj)) (σ : L2.St) (s2 : Shared) (H2 : Hp) (C : Addr) (cl : List (Str × Addr)) (fp : List Addr), Outer X pins σ (X.blk s2 H2 sc (compEnvC sc cl C X.env) fp) → PE (X.blk s2 H2 sc (compEnvC sc cl C X.env) fp) el (te σ))
    (folded : ∀ x, foldedSetIterable it0 X.env x = pure x := by intro _; rfl) :
    PE X (.ListComp el [⟨t0, it0, fs, 0⟩] sc p0) (fun σ H Q => tLc wi g tt (te σ) (own.map (·.2)) σ H Q) :=
  ⟨fun pins s σ H Q I h => lc_known (p1 := p0) calm nd I hi ok hg ht (fun s2 H2 C cl fp o => he pins σ s2 H2 C cl fp o) folded h⟩
end
section
variable {X : Cx} {W : WX}
theorem lc_readK {vs : List Nat} {bnd : D → Env → Option Env} {mi : AM} {mt : TM} {me : EM} {g : TG} (hgd : TgE X.K vs g bnd) {σ : L2.St} {H : Hp} {Q : VK} (hlen : σ.length = X.N.length) (h : tE X.K W (eLc vs X.N.length bnd mi mt me) σ H Q) :
    tLc (tI X.K W mi) g (tT X.K W0 mt) (fun σb Hb Qb => wipe σb vs = wipe σ vs ∧ tE X.K W0 me σb Hb Qb) vs σ H Q := by
  obtain ⟨F, Z, ρ, s, hs, he, hd, h⟩ := h
  unfold eLc at h
  split at h
  · rename_i hn
    refine ⟨F, Z, ρ, s, hs, he, hd, post_bind h fun ds s1 F1 H1 J e1 hd1 w h => ?_⟩
    have w : Walk J ds.length (fun H => Same F1 H) (YD X.K Z F1 ds) := w
    have hev := wipeE_at (he.mono e1.f) vs
    have hwl : ∀ (ρ : Env) (us : List Nat), (wipeE ρ us).length = ρ.length := fun ρ us => by
      induction us with
      | nil => rfl
      | cons u us ih => unfold wipeE; rw [List.length_set, ih]
    intro L hL
    -- behind i turns: the frozen part F2 has grown from F1, the new list at L holds acc, what is left gives the rest
    refine lc_it (te := fun σb Hb Qb => wipe σb vs = wipe σ vs ∧ tE X.K W0 me σb Hb Qb) w (fun i H => ∃ F2 s2 accV acc, Ext Z F1 H1 F2 H ∧ DrAt Z F2 H s2 ∧ H L = some (.lst accV) ∧ F2 L = none ∧ AtAll X.K F2 Z accV acc ∧
      ∃ xs s3, lcL bnd mt me (wipeE ρ vs) (ds.drop i) s2 = .ok xs s3 ∧ (acc ++ xs).length ≤ sizeLine ∧ ∀ F' H' v, Ext Z F1 H1 F' H' → DrAt Z F' H' s3 → At X.K F' Z v (.lst (acc ++ xs)) → Q v H') ?_ (fun i H _ ⟨F2, _, _, _, b, _⟩ => b.f.trans b.fh) ?_ ?_
    · have fL : F1 L = none := e1.fh.free hL
      refine ⟨F1, s1, [], [], Ext.newH e1.fh hL, hd1.newH e1.fh hL, upd_same, fL, .nil, ?_⟩
      · unfold lcR at h
        cases q : lcL bnd mt me (wipeE ρ vs) ds s1 with
        | bad => rw [q] at h; exact h.elim
        | ex C fs s3 => rw [q] at h; exact h.elim
        | ok xs s3 =>
          rw [q] at h
          dsimp only at h
          split at h
          · rename_i hz
            exact ⟨xs, s3, by rw [List.drop_zero]; exact q, hz, h⟩
          · exact h.elim
    · rintro i x H2 H3 hi ⟨F2, s2, accV, acc, b, hd2, hL2, fL, aacc, xs, s3, hrun, hz, k⟩ y
      obtain ⟨d, F3, hdd, ex, ad, keep⟩ := yd_step b.f b.fh y
      have hdrop : ds.drop i = d :: ds.drop (i + 1) := by
        rw [List.drop_eq_getElem_cons hi]
        rw [List.getElem?_eq_getElem hi] at hdd
        cases hdd
        rfl
      rw [hdrop] at hrun
      unfold lcL at hrun
      have fL3 : F3 L = none := ex.n L _ fL hL2
      have hL3 : H3 L = some (.lst accV) := keep _ _ hL2
      have hd3 := hd2.keep ex keep
      cases q : bnd d (wipeE ρ vs) with
      | none => rw [q] at hrun; cases hrun
      | some ρ1 =>
        rw [q] at hrun
        dsimp only at hrun
        have hlw : (wipeE ρ vs).length ≤ (wipe σ vs).length := by rw [hwl, wipe_length, hlen]; exact hn
        refine hgd Z F3 H3 (wipe σ vs) (wipeE ρ vs) ρ1 x d _ ex.fh (hev.mono (b.f.trans ex.f)) ad q hlw fun σ2 he2 hl2 hr2 hne => ?_
        have hwp : wipe σ2 vs = wipe σ vs := (wipe_alike hl2 hne).trans (wipe_alike (wipe_length _ _) fun j hj => wipe_not hj)
        refine ⟨hwp, ?_⟩
        · cases r : mt ρ1 s2 with
          | bad => rw [r] at hrun; cases hrun
          | ex C fs s4 => rw [r] at hrun; cases hrun
          | ok bb s4 =>
            rw [r] at hrun
            refine ⟨F3, Z, ρ1, s2, ex.fh, he2, hd3, ?_⟩
            rw [r]
            intro F4 H4 bv ex4 hd4 hb
            subst hb
            have fL4 : F4 L = none := ex4.n L _ fL3 hL3
            obtain ⟨oL, hL4, hsame⟩ := ex4.h L _ hL3
            have nDr : ¬ DrA Z L := fun z => by
              cases Z with
              | none => exact z
              | some z' =>
                obtain ⟨_, d2, d3, _⟩ := hd1.1
                rcases z with z | z
                · rw [← z, hL] at d2; cases d2
                · rw [← z, hL] at d3; cases d3
            cases hsame nDr (.inr fun ps z => by cases z)
            cases bv with
            | false =>
              rw [if_neg Bool.false_ne_true]
              exact ⟨F4, s4, accV, acc, (b.trans ex).trans ex4, hd4, hL4, fL4, (aacc.mono ex.f).mono ex4.f, xs, s3, hrun, hz, k⟩
            | true =>
              rw [if_pos rfl]
              dsimp only at hrun
              cases t : me ρ1 s4 with
              | bad => rw [t] at hrun; cases hrun
              | ex C fs s5 => rw [t] at hrun; cases hrun
              | ok z s5 =>
                rw [t] at hrun
                dsimp only at hrun
                cases u : lcL bnd mt me (wipeE ρ vs) (ds.drop (i + 1)) s5 with
                | bad => rw [u] at hrun; cases hrun
                | ex C fs s6 => rw [u] at hrun; cases hrun
                | ok ys s6 =>
                  rw [u] at hrun
                  have hrun : RE.ok (z :: ys) s6 = .ok xs s3 := hrun
                  cases hrun
                  refine ⟨hwp, F4, Z, ρ1, s4, ex4.fh, he2.mono ex4.f, hd4, ?_⟩
                  rw [t]
                  intro F5 H5 v ex5 hd5 av
                  have fL5 : F5 L = none := ex5.n L _ fL4 hL4
                  obtain ⟨oL, hL5, hsame⟩ := ex5.h L _ hL4
                  cases hsame nDr (.inr fun ps z => by cases z)
                  have aacc5 := ((aacc.mono ex.f).mono ex4.f).mono ex5.f
                  refine ⟨accV, hL5, ?_, F5, s5, accV ++ [v], acc ++ [z], ?_, ?_, upd_same, fL5, aacc5.append (.cons av .nil), ys, _, u, ?_, ?_⟩
                  · rw [aacc5.length]
                    rw [List.length_append, List.length_cons] at hz
                    omega
                  · have b5 := ((b.trans ex).trans ex4).trans ex5
                    refine ⟨b5.f, fun a o e => ?_, fun a o e => ?_, b5.n⟩
                    · rw [upd_ne fun z => by rw [z, fL5] at e; cases e]
                      exact b5.fh a o e
                    · rw [upd_ne fun z => by rw [z, hL] at e; cases e]
                      exact b5.h a o e
                  · exact hd5.chgL hL5 nDr
                  · rw [List.append_assoc]; exact hz
                  · rw [List.append_assoc]; exact k
    · rintro H2 ⟨F2, s2, accV, acc, b, hd2, hL2, fL, aacc, xs, s3, hrun, hz, k⟩
      rw [List.drop_length] at hrun
      have hrun : RE.ok [] s2 = .ok xs s3 := hrun
      cases hrun
      rw [List.append_nil] at k
      have sF : Same F2 (upd F2 L (.lst accV)) := fun a o e => by rw [upd_ne fun z => by rw [z, fL] at e; cases e]; exact e
      refine k (upd F2 L (.lst accV)) H2 _ ⟨b.f.trans sF, fun a o e => ?_, b.h, fun a o e1' e2 => ?_⟩ ?_ (.lst upd_same (aacc.mono sF))
      · by_cases hz2 : a = L
        · subst hz2
          rw [upd_same] at e
          rw [hL2]
          exact e
        · rw [upd_ne hz2] at e
          exact b.fh a o e
      · rw [upd_ne fun z => by rw [z, hL] at e2; cases e2]
        exact b.n a o e1' e2
      · exact hd2.frzL fL hL2 (hd1.nDr hL)
  · exact h.elim
/-- in the block: told(work), work one of the maker's lambdas -/
theorem de_toldB {n : Nat} {pins : List (Addr × Obj)} {σ : L2.St} {s0 : Shared} {H0 : Hp} {sc : Scope} {ce : PySem.Env} {fp : List Addr} {vs : List Nat} {k : Nat} {x a : Str} {st : Stmt} {g : Addr} {fd : FuncData} {N : List Str} {mT : LamD → (S → RE FL.D) → SM} {tab : Nat → Option (LamD × EM)} {e : Expr} {me : EM} {p pos : Pos}
    (o : Outer X pins σ (X.blk s0 H0 sc ce fp)) (hn : N.length = n)
    (G : FnT X.prog X.w X.K X.mg X.base (k + 1) x a st g fd N mT) (hL : ∀ i l mb, tab i = some (l, mb) → LamIs X k l mb) (hr : Rm (k + 2) X.A) (hg : Gl (X.blk s0 H0 sc ce fp) x) (hm : X.mg x = some (.ref g)) (hk : PySem.W.keepIn X.K (.ref g) = true) (hb : Binds X.K fd [a] [])
    (he : PE (X.blk s0 H0 sc ce fp) e (tE X.K W0 me)) (hd : (a == ("__debug__" : Str)) = false := by decide) (hcd : (a == ("__classdict__" : Str)) = false := by decide)
    (hdb : (x == ("__debug__" : Str)) = false := by decide) (hst : starEach [e] ce = (false, eval e ce) :: starEach [] ce := by rfl) (hpl : (backTo pos (starEach [] ce)).any (·.1) = false := by rfl) :
    PE (X.blk s0 H0 sc ce fp) (.Call (.Name x p) [e] [] pos) (fun σb Hb Qb => wipe σb vs = wipe σ vs ∧ tE X.K W0 (eTold n mT tab vs me) σb Hb Qb) := by
  subst hn
  refine ⟨fun pb s σb H Q I h => ?_⟩
  refine wpAny_Call_Name_kw (ld_glob I hg hm ?_ hdb)
  obtain ⟨hw, F, Z, ρ, sd, hs, henv, hdr, h⟩ := h
  have maker : ∀ {F1 : Hp}, EnvAt X.K F1 Z σb ρ → EnvAt X.K F1 Z σ (wipeE ρ vs) := fun {F1} q i d z => by
    obtain ⟨v, h1, h2⟩ := wipeE_at q vs i d z
    rw [hw] at h1
    exact ⟨v, (wipe_some h1).1, h2⟩
  have h1 : tE X.K W0 me σb H fun v H1 => ∃ f l l2 mb F1 sd1, v = .ref f ∧ tab l.k = some (l2, mb) ∧ l = l2 ∧ Same F1 H1 ∧ EnvAt X.K F1 Z σb ρ ∧ DrAt Z F1 H1 sd1 ∧ At X.K F1 Z (.ref f) (.fn l) ∧ PostE X.K W0 Z F1 H1 σb (lift (toldA N.length mT (mb (wipeE ρ vs)) sd1) sd1) Q := by
    refine tE_then hs henv hdr h fun d s1 F1 H1 v e1 he1 hd1 a1 h => ?_
    cases d with
    | fn l =>
      dsimp only at h
      cases q : tab l.k with
      | none => rw [q] at h; exact h.elim
      | some pr =>
        obtain ⟨l2, mb⟩ := pr
        rw [q] at h
        dsimp only at h
        split at h
        · rename_i el
          cases a1 with
          | fn h6 h7 => exact ⟨_, l, l2, mb, F1, s1, rfl, q, el, e1.fh, he1, hd1, .fn h6 h7, h⟩
        · exact h.elim
    | _ => exact h.elim
  have h2 : tCons (tE X.K W0 me) tNil σb H fun ws H1 => ∃ f l l2 mb F1 sd1, ws = [.ref f] ∧ tab l.k = some (l2, mb) ∧ l = l2 ∧ Same F1 H1 ∧ EnvAt X.K F1 Z σb ρ ∧ DrAt Z F1 H1 sd1 ∧ At X.K F1 Z (.ref f) (.fn l) ∧ PostE X.K W0 Z F1 H1 σb (lift (toldA N.length mT (mb (wipeE ρ vs)) sd1) sd1) Q := by
    obtain ⟨F0, Z0, ρ0, s0, x1, x2, x3, x4⟩ := h1
    refine ⟨F0, Z0, ρ0, s0, x1, x2, x3, ?_⟩
    cases r : me ρ0 s0 with
    | bad => rw [r] at x4; exact x4
    | ex C fs s5 => rw [r] at x4; exact x4
    | ok d s5 =>
      rw [r] at x4
      intro F5 H5 v ex d5 a5
      obtain ⟨f, l, l2, mb, F1, sd1, ev, rest⟩ := x4 F5 H5 v ex d5 a5
      exact ⟨f, l, l2, mb, F1, sd1, by rw [ev], rest⟩
  refine PySem.W.callWith_K (h₀ := X.base) I.ok.mod.kin hk (thn ((pa_cons he pa_nil hst).run pos pb s σb H _ I h2) fun us s2 ⟨ws, H2, I2, r2, q2⟩ => ⟨I2.kIn, ?_⟩) hst hpl
  obtain ⟨f, l, l2, mb, F1, sd1, rfl, q, rfl, hs1, he1, hd1, a1, h3⟩ := q2
  have eu : us = [.ref f] := by
    cases r2 with
    | cons r0 rr =>
      cases rr
      rw [show _ = Value.ref f from r0]
  subst eu
  cases q3 : toldA N.length mT (mb (wipeE ρ vs)) sd1 with
  | none => rw [q3] at h3; exact h3.elim
  | some d =>
    rw [q3] at h3
    refine wpAny_call (codeAny_mono (told_run (X := X) (k := k) (E := fun _ _ _ => False) (Q := Q) (d := d) (o I2) G hd hcd hb (hL _ _ _ q) hr hs1 (maker he1) hd1 a1 (toldA_spec q3 l) h3) fun rr s3 hq => ?_)
    cases rr with
    | error er =>
      obtain ⟨_, _, _, _, _, _, _, _, _, _, _, _, z⟩ := hq
      exact z.elim
    | ok fl =>
      cases fl with
      | ret u => exact I2.after hq
      | next => exact hq.elim
      | brk => exact hq.elim
      | cont => exact hq.elim
theorem de_lcK {elt tg iter : Expr} {ifs : List Expr} {scope : Scope} {own : List (Str × Nat)} {pos : Pos} {bnd : D → Env → Option Env} {mi : AM} {mt : TM} {me : EM} {g : TG}
    (h : PE X (.ListComp elt [⟨tg, iter, ifs, 0⟩] scope pos) (fun σ H Q => tLc (tI X.K W mi) g (tT X.K W0 mt) (fun σb Hb Qb => wipe σb (own.map (·.2)) = wipe σ (own.map (·.2)) ∧ tE X.K W0 me σb Hb Qb) (own.map (·.2)) σ H Q))
    (hgd : TgE X.K (own.map (·.2)) g bnd) : PE X (.ListComp elt [⟨tg, iter, ifs, 0⟩] scope pos) (tE X.K W (eLc (own.map (·.2)) X.N.length bnd mi mt me)) :=
  ⟨fun pins s σ H Q I q => h.run pins s σ H Q I (lc_readK hgd I.len q)⟩
end
end FL
set_option Elab.async false
set_option linter.all false
set_option maxRecDepth 100000
set_option maxHeartbeats 4000000
/-! ## FL, 23: what a generated derivation names, further -/
namespace FL
open PySem PySem.Spec PyProof.Rows L2 LamX
theorem hu1 {A : Around} {k : Nat} (hr : Rm k A) : A.units + 1 < cLine := by
  have := hu64 hr
  omega
/-! ### list(range(e)) -/
def rngLF : List D → Option D
  | [.int j] => if 0 ≤ j ∧ j ≤ 1000000 then some (.lst (rangeD 0 j.toNat)) else none
  | _ => none
theorem at_range {K : PySem.W.Frag} {F : Hp} {Z : Option Zt} {j : Int} : AtAll K F Z (rgV 0 j) (rangeD 0 j.toNat) := by
  unfold rgV rangeD
  rw [Int.sub_zero]
  induction (List.range j.toNat) with
  | nil => exact .nil
  | cons i l ih => exact .cons (.int _) ih
section
variable {X : Cx} {W : WX} {e : Expr} {me : EM}
theorem de_listRg {p pos p2 pos2 : Pos} (hg : Gl X "list") (hm : X.mg "list" = none) (hg2 : Gl X "range") (hm2 : X.mg "range" = none) (he : PE X e (tE X.K W me)) (hc : X.calm = true := by rfl)
    (na : starEach [e] X.env = (false, eval e X.env) :: starEach [] X.env := by rfl) (na2 : starEach [.Call (.Name "range" p2) [e] [] pos2] X.env = (false, eval (.Call (.Name "range" p2) [e] [] pos2) X.env) :: starEach [] X.env := by rfl) :
    PE X (.Call (.Name "list" p) [.Call (.Name "range" p2) [e] [] pos2] [] pos) (tE X.K W (eOf rngLF (aCons me aNil))) := pe_weak (pe_listRg hc hg hm (prg_1 hg2 hm2 he na) na2) fun σ H Q ⟨F, Z, ρ, s, hs, henv, hd, h⟩ => by
  show tRg1 (tE X.K W me) σ H _
  refine ⟨F, Z, ρ, s, hs, henv, hd, ?_⟩
  cases q : me ρ s with
  | bad => rw [eOf_run, aCons_run, q] at h; exact h
  | ex C fs s1 => rw [eOf_run, aCons_run, q] at h; exact h
  | ok d s1 =>
    rw [eOf_run, aCons_run, q] at h
    simp only [bind_ok, aNil_run] at h
    intro F1 H1 v e1 hd1 a1
    obtain ⟨g, hg, k⟩ := post_now (Z := Z) (F := F) (H := H) h
    unfold rngLF at hg
    split at hg
    · rename_i j ej
      cases ej
      split at hg
      · rename_i hz
        cases hg
        cases a1
        refine ⟨j, rfl, ?_, fun p hp => ?_⟩
        · exact RgOk.of_le (by omega) (by omega) (by omega) hz.1
        · have nk := new_k (Q := Q) (d := .lst (rangeD 0 j.toNat)) (fun F2 H2 v2 e2 d2 a2 => k F2 H2 v2 (e1.trans e2) d2 a2) e1.fh hd1 hp (.lst upd_same at_range)
          exact nk
      · cases hg
    · cases hg
end
/-! ### x(b=.., a=..) -/
def eCall2 (mf : FM) (ma : AM) : EM := fun ρ s => (ma ρ s).bind fun ds s1 => match ds with
  | [a, b] => mf [b, a] s1
  | _ => .bad
section
variable {X : Cx} {W : WX} {k : Nat} {f : Addr} {fd : FuncData} {k1 k2 : Str} {mf : FM} {x : Str} {p pos : Pos} {kws : List Keyword} {ma : AM}
theorem run_K2 {pins : List (Addr × Obj)} {σ : L2.St} {H : Hp} {s : Shared} {Q : VK} {ws : List Value} {a b : V} (G : FnG X.prog X.w X.K X.mg X.base k f fd [k2, k1] mf) (hr : Rm k X.A) (hb : ∀ (s : Shared) (u v : Value), BindsTo s fd ⟨[], [(k1, u), (k2, v)]⟩ [(k2, v), (k1, u)])
    (hx : PassesAt (L2.CX X.prog X.w) X σ (WE W σ)) (I : Inv X pins σ H s) (r : Vals [a, b] ws) (h : spD X.K mf [b, a] H Q (WE W σ)) : wpAny (model X.prog X.w) X.A (call (.ref f) [] ([k1, k2].zip ws)) (EP X pins σ Q) X.xe s := by
  cases r with
  | cons r1 rr =>
    cases rr with
    | cons r2 rr2 =>
      cases rr2
      rename_i u v
      refine wpAny_call (codeAny_mono (G.go X.A X.stack s H ⟨[], [(k1, u), (k2, v)]⟩ [v, u] [b, a] Q (WE W σ) hr I.env0 (hb s u v) (.cons r2 (.cons r1 .nil)) h) fun rr s3 hq => ?_)
      cases rr with
      | error er => exact hx pins H s er s3 I hq
      | ok fl =>
        cases fl with
        | ret u => exact I.after hq
        | next => exact hq.elim
        | brk => exact hq.elim
        | cont => exact hq.elim
theorem de_callK2 (G : FnG X.prog X.w X.K X.mg X.base k f fd [k2, k1] mf) (hr : Rm k X.A) (hg : Gl X x) (hm : X.mg x = some (.ref f)) (hk : PySem.W.keepIn X.K (.ref f) = true)
    (hb : ∀ (s : Shared) (u v : Value), BindsTo s fd ⟨[], [(k1, u), (k2, v)]⟩ [(k2, v), (k1, u)]) (hx : ∀ σ, PassesAt (L2.CX X.prog X.w) X σ (WE W σ)) (hkw : PK X kws (tA X.K W ma))
    (hall : (backToKw pos (keywordEach kws X.env)).all (·.1.isSome) = true := by rfl) (hks : (backToKw pos (keywordEach kws X.env)).filterMap (·.1) = [k1, k2] := by rfl) (hdb : (x == ("__debug__" : Str)) = false := by decide)
    (hpl : ((backTo pos (starEach [] X.env)).any (·.1) || (backToKw pos (keywordEach kws X.env)).any (·.1.isNone)) = false := by rfl) :
    PE X (.Call (.Name x p) [] kws pos) (tE X.K W (eCall2 mf ma)) := by
  refine ⟨fun pins s σ H Q I h => ?_⟩
  refine wpAny_Call_Name_kw (ld_glob I hg hm ?_ hdb)
  obtain ⟨F, Z, ρ, s1, hs, he, hd, h⟩ := h
  refine PySem.W.callWith_KW0 (h₀ := X.base) I.ok.mod.kin hk hall (thn (hkw.run pos pins s σ H (fun zs H2 => ∃ a b, zs = [a, b] ∧ spD X.K mf [b, a] H2 Q (WE W σ)) I ?_) fun ws s2 ⟨zs, H2, I2, rz, q2⟩ => ⟨I2.kIn, ?_⟩) hpl
  · refine tA_then hs he hd h fun ds s1 F1 H1 vs e1 he1 hd1 a1 h => ?_
    rcases ds with _ | ⟨a, _ | ⟨b, _ | ⟨c, r⟩⟩⟩
    · exact h.elim
    · exact h.elim
    · obtain ⟨u, v, ev, b1, b2⟩ := two_inv a1
      exact ⟨u, v, ev, F1, Z, [b, a], s1, e1.fh, .cons b2 (.cons b1 .nil), hd1, post_wish h fun _ _ _ q => q⟩
    · exact h.elim
  · rw [hks]
    obtain ⟨a, b, rfl, q3⟩ := q2
    exact run_K2 G hr hb (hx σ) I2 rz q3
end
/-! ### a, b = e -/
def sAsgT (bnd : D → Sls → Option Sls) (me : EM) : SM := fun ρ s => after (runD me ρ s) ρ fun d s' => match bnd d ρ with
  | some ρ' => .nx ρ' s'
  | none => .bad
theorem ds_asgT {X : Cx} {W : WX} {st : Stmt} {me : EM} {g : TG} {bnd : D → Sls → Option Sls} (h : PS X st (tAsg (tE X.K W me) g)) (hgd : TgD X.K g bnd) : PS X st (tS X.K W (sAsgT bnd me)) := ps_weak h fun D σ H ⟨F0, H0, Z, F, ρ, s, a, h⟩ =>
  run_read a (after_post a h fun d s' F' H' v a' _ av p => by
    cases q : bnd d ρ with
    | none => rw [q] at p; exact p.elim
    | some ρ' =>
      rw [q] at p
      exact hgd Z F0 H0 F' H' σ ρ ρ' s' v d _ a' av q fun σ2 b => post_nx p b)
end FL
set_option Elab.async false
set_option linter.all false
set_option maxRecDepth 100000
set_option maxHeartbeats 4000000
/-! ## FL, 24: a law's def, called by the judge; its defs make lambdas -/
namespace FL
open PySem PySem.Spec PyProof.Rows L2 LamX
def tabObj0 : Obj := { cls := .none, data := .fields #[] }
section
variable {P : Program} {w : World} {K : PySem.W.Frag} {mg : Str → Option Value} {base : Heap}
/-- what is known at the head's heap of the code objects that make lambdas, and of their tables -/
structure TabsK (K : PySem.W.Frag) (mg : Str → Option Value) (cs : List (Addr × Addr)) (h : Heap) : Prop where
  obj : ∀ p ∈ cs, h.get? p.2 = some tabObj0
  out : ∀ p ∈ cs, K.lookup p.2 = none
  hd : ∀ p ∈ cs, PySem.W.CodeHd h p.1 p.2
/-- a part of a heap in which what H tracks is hidden -/
theorem tabs_hid {cs : List (Addr × Addr)} {s1 : Shared} {H : Hp} (t : TabsK K mg cs s1.heap) (gl : s1.heap.Ns mainGlobals mg) (mb : ∃ (bm : Addr) (ob : Obj), mg "__builtins__" = some (.ref bm) ∧ bm ≠ builtinsNs ∧ s1.heap.get? bm = some ob ∧ ob.cls = .type "module" ∧ ob.dict = some builtinsNs ∧ ob.data = .plain)
    (nf : ∀ {b : Addr} {o : Obj}, s1.heap.get? b = some o → (∀ us n, o.data ≠ .seq us n) → o.data ≠ .fields #[] → H b = none) : ∀ p ∈ cs, TabB (hidT s1.heap H) mg p.1 p.2 := fun p hp => by
  have ot := t.obj p hp
  refine ⟨?_, ?_, fun z => ?_⟩
  · obtain ⟨o, us, file, tf, fl, tg, inF, text, tt, g1, g2, g3, g4, g5, g6, g7, g8, g9, ne⟩ := t.hd p hp
    refine ⟨o, us, file, tf, fl, tg, inF, text, tt, hidT_get g1 (nf g1 (fun u n z => ?_) fun z => ?_), g2, g3, g4, g5, g6, g7, g8, g9, ne⟩
    · rw [g3] at z
      cases z
    · rw [g3] at z
      cases z
      simp at g4
  · obtain ⟨bm, ob, k1, k2, k3, k4, k5, k6⟩ := mb
    have nG : bm ≠ mainGlobals := fun q => by
      obtain ⟨o, es, ep, e, hd, _⟩ := gl
      rw [q, e] at k3
      cases k3
      rw [hd] at k6
      cases k6
    have nP : bm ≠ p.2 := fun q => by
      rw [q, ot] at k3
      cases k3
      cases k6
    refine ⟨bm, ob, k1, k2, nG, nP, hidT_get k3 (nf k3 (fun u n z => ?_) fun z => ?_), k4, k5, k6⟩
    · rw [k6] at z
      cases z
    · rw [k6] at z
      cases z
  · obtain ⟨o, es, ep, e, hd, _⟩ := gl
    rw [z, ot] at e
    cases e
    cases hd
/-- one call at an abstract heap that tracks the tables and, perhaps, the script -/
theorem call_atT {cs : List (Addr × Addr)} {k : Nat} {fa a : Addr} {fd : FuncData} {x : Str} {sp : Sp} {s1 : Shared} {mb : Str → Option Value} {vs : List Value} {H : Hp} (t : TabsK K mg cs s1.heap) (inK : K.In s1.heap) (gl : s1.heap.Ns mainGlobals mg) (bl : s1.heap.Ns builtinsNs mb) (bo : ∀ y : Str, y ≠ "__name__" → mb y = bootBuiltins y)
    (nl : s1.heap.NoLimit) (gn : s1.gens = #[]) (bm : ∃ (bm : Addr) (ob : Obj), mg "__builtins__" = some (.ref bm) ∧ bm ≠ builtinsNs ∧ s1.heap.get? bm = some ob ∧ ob.cls = .type "module" ∧ ob.dict = some builtinsNs ∧ ob.data = .plain)
    (hobj : s1.heap.get? a = some { cls := .type "list", data := .seq vs.toArray }) (room : Rm k callerA) (hF : ∀ b : Heap, K.In b → b.Ns mainGlobals mg → (∀ p ∈ cs, TabB b mg p.1 p.2) → FnX P w K mg b k fa fd [x] sp)
    (bnd : ∀ (s : Shared) (u : Value), BindsTo s fd ⟨[u], []⟩ [(x, u)]) (only : ∀ b, H b = none ∨ b ∈ cs.map (·.2) ∨ ∃ o xs, H b = some (.frz o (.lst xs))) (hs : sp [.ref a] H (fun v _ => v = .bl true) fun _ _ _ => False) (okH : HOk P w H s1.heap)
    (atA : ∀ b, H b ≠ none → b = a ∨ b ∈ cs.map (·.2)) (hH : ∀ p ∈ cs, H p.2 = some (.tbl #[])) (notK : H a ≠ none → K.lookup a = none) :
    codeAny (model P w) callerA (.call (.ref fa) ⟨[.ref a], []⟩) (LawEnd s1) s1 := by
  have isT : ∀ b, b ∈ cs.map (·.2) → s1.heap.get? b = some tabObj0 ∧ K.lookup b = none := fun b hb => by
    obtain ⟨p, hp, e⟩ := List.mem_map.mp hb
    rw [← e]
    exact ⟨t.obj p hp, t.out p hp⟩
  have nf : ∀ {b : Addr} {o : Obj}, s1.heap.get? b = some o → (∀ us n, o.data ≠ .seq us n) → o.data ≠ .fields #[] → H b = none := fun {b o} e h1 h2 => by
    rcases hb : H b with _ | u
    · rfl
    · rcases atA b (fun z => by rw [hb] at z; cases z) with h3 | h3
      · rw [h3, hobj] at e
        cases e
        exact absurd rfl (h1 _ _)
      · rw [(isT b h3).1] at e
        cases e
        exact absurd rfl h2
  have toB : ∀ {b : Addr} {o : Obj}, s1.heap.get? b = some o → H b = none → (hidT s1.heap H).get? b = some o := fun h1 h2 => hidT_get h1 h2
  have nsB : ∀ {b : Addr} {m : Str → Option Value}, s1.heap.Ns b m → (hidT s1.heap H).Ns b m := fun {b m} hn => by
    obtain ⟨o, es, ep, h1, h2, h3⟩ := hn
    refine ⟨o, es, ep, toB h1 (nf h1 (fun us n z => ?_) fun z => ?_), h2, h3⟩
    · rw [h2] at z; cases z
    · rw [h2] at z; cases z
  have inB : K.In (hidT s1.heap H) := fun b o h1 => by
    refine toB (inK b o h1) ?_
    rcases hb : H b with _ | u
    · rfl
    · rcases atA b (fun z => by rw [hb] at z; cases z) with h3 | h3
      · subst h3
        have h4 := notK fun z => by rw [hb] at z; cases z
        rw [h4] at h1
        cases h1
      · rw [(isT b h3).2] at h1
        cases h1
  have mo : Mod K mg (hidT s1.heap H) := by
    obtain ⟨mc, n1, n2⟩ := nl
    exact ⟨inB, nsB gl, ⟨mb, nsB bl, bo⟩, ⟨mc, nsB n1, n2⟩⟩
  have env : Env0 P w K mg (hidT s1.heap H) callerA [] s1 H := by
    refine ⟨rfl, mo, fun b o h1 => of_hidT h1, Nat.le_of_eq (hidT_size _ _), trivial, fun b h1 => ?_, okH, AllBare.of_eq gn⟩
    exact absurd (show b ∈ ([] : List Addr) from h1) List.not_mem_nil
  have run := (hF _ inB (nsB gl) (tabs_hid t gl bm nf)).go callerA [] s1 H ⟨[.ref a], []⟩ [.ref a] [.ref a] _ _ room env (bnd s1 (.ref a)) (Paired.cons rfl Paired.nil) hs
  refine codeAny_mono run fun res s2 hres => ?_
  match res, hres with
  | .error e, hres =>
    obtain ⟨_, _, _, _, _, _, _, _, _, _, _, _, z⟩ := hres
    exact z.elim
  | .ok .next, hres => exact hres.elim
  | .ok .brk, hres => exact hres.elim
  | .ok .cont, hres => exact hres.elim
  | .ok (.ret u), hres =>
    obtain ⟨v, H2, os2, bare2, un, ok2, ru, hv⟩ := hres
    subst hv
    have eu : u = Value.bool true := ru
    subst eu
    have same : ∀ b o, b ∉ cs.map (·.2) → s1.heap.get? b = some o → s2.heap.get? b = some o := fun b o nb hb => by
      rcases only b with hn | hn | ⟨ob, xs, hz⟩
      · exact un.keep b o hb hn (fun z => absurd (show b ∈ ([] : List Addr) from z) List.not_mem_nil) List.not_mem_nil
      · exact absurd hn nb
      · have h1 := (okH b _ hz).1
        rw [hb] at h1
        cases h1
        exact (ok2 b _ (un.frzs b _ _ hz)).1
    have grew : ∀ p ∈ cs, ∃ more : Array Value, s2.heap.get? p.2 = some { cls := .none, data := .fields more } := fun p hp => by
      obtain ⟨more, z⟩ := un.tbls p.2 #[] (hH p hp)
      exact ⟨_, ok2 p.2 _ z⟩
    refine ⟨rfl, ⟨fun b o e => ?_, fun b o e => ?_⟩, os2, bare2⟩
    · by_cases hb : b ∈ cs.map (·.2)
      · obtain ⟨p, hp, ep⟩ := List.mem_map.mp hb
        obtain ⟨more, hm⟩ := grew p hp
        have ot := t.obj p hp
        subst ep
        rw [ot] at e
        cases e
        exact .inr (.inl ⟨((t.hd p hp).tab ot).isCodeTable, rfl, #[], more, rfl, by rw [Array.empty_append]; exact hm⟩)
      · exact .inl (same b o hb e)
    · by_cases hb : b ∈ cs.map (·.2)
      · obtain ⟨p, hp, ep⟩ := List.mem_map.mp hb
        obtain ⟨more, hm⟩ := grew p hp
        subst ep
        exact ⟨_, hm⟩
      · exact ⟨o, same b o hb e⟩
theorem call_lawT {cs : List (Addr × Addr)} {k : Nat} {fa a : Addr} {fd : FuncData} {x : Str} {sp : Sp} {s1 : Shared} {mb : Str → Option Value} {vs : List Value} {ns : List Int} (t : TabsK K mg cs s1.heap) (inK : K.In s1.heap) (gl : s1.heap.Ns mainGlobals mg) (bl : s1.heap.Ns builtinsNs mb) (bo : ∀ y : Str, y ≠ "__name__" → mb y = bootBuiltins y)
    (nl : s1.heap.NoLimit) (gn : s1.gens = #[]) (bm : ∃ (bm : Addr) (ob : Obj), mg "__builtins__" = some (.ref bm) ∧ bm ≠ builtinsNs ∧ s1.heap.get? bm = some ob ∧ ob.cls = .type "module" ∧ ob.dict = some builtinsNs ∧ ob.data = .plain)
    (hobj : s1.heap.get? a = some { cls := .type "list", data := .seq vs.toArray }) (hin : IntsAre vs ns) (few : ns.length ≤ sizeLine) (room : Rm k callerA) (hF : ∀ b : Heap, K.In b → b.Ns mainGlobals mg → (∀ p ∈ cs, TabB b mg p.1 p.2) → FnX P w K mg b k fa fd [x] sp)
    (bnd : ∀ (s : Shared) (u : Value), BindsTo s fd ⟨[u], []⟩ [(x, u)]) (hs : ∀ H : Hp, (∀ p ∈ cs, H p.2 = some (.tbl #[])) → SqL K H a (ns.map V.int) → sp [.ref a] H (fun v _ => v = .bl true) fun _ _ _ => False) :
    codeAny (model P w) callerA (.call (.ref fa) ⟨[.ref a], []⟩) (LawEnd s1) s1 := by
  have rel := vals_ints hin
  have memT : ∀ p ∈ cs, p.2 ∈ cs.map (·.2) := fun p hp => List.mem_map.mpr ⟨p, hp, rfl⟩
  have isT : ∀ b, b ∈ cs.map (·.2) → s1.heap.get? b = some tabObj0 := fun b hb => by
    obtain ⟨p, hp, e⟩ := List.mem_map.mp hb
    rw [← e]
    exact t.obj p hp
  have aT : a ∉ cs.map (·.2) := fun z => by
    have q := isT a z
    rw [hobj] at q
    cases q
  rcases hk : K.lookup a with _ | o
  · -- the script is tracked
    have yesA : ∀ b, b = a → (fun b => if b = a then some (HO.frz { cls := .type "list", data := .seq vs.toArray } (.lst (ns.map V.int))) else if b ∈ cs.map (·.2) then some (.tbl #[]) else none : Hp) b = some (HO.frz { cls := .type "list", data := .seq vs.toArray } (.lst (ns.map V.int))) := fun b h => if_pos h
    have yesT : ∀ b, b ∈ cs.map (·.2) → (fun b => if b = a then some (HO.frz { cls := .type "list", data := .seq vs.toArray } (.lst (ns.map V.int))) else if b ∈ cs.map (·.2) then some (.tbl #[]) else none : Hp) b = some (.tbl #[]) := fun b h => (if_neg fun z => aT (by rw [← z]; exact h)).trans (if_pos h)
    have noO : ∀ b, b ≠ a → b ∉ cs.map (·.2) → (fun b => if b = a then some (HO.frz { cls := .type "list", data := .seq vs.toArray } (.lst (ns.map V.int))) else if b ∈ cs.map (·.2) then some (.tbl #[]) else none : Hp) b = none := fun b h1 h2 => (if_neg h1).trans (if_neg h2)
    generalize (fun b => if b = a then some (HO.frz { cls := .type "list", data := .seq vs.toArray } (.lst (ns.map V.int))) else if b ∈ cs.map (·.2) then some (.tbl #[]) else none : Hp) = H at yesA yesT noO
    have cases3 : ∀ b, b = a ∨ b ∈ cs.map (·.2) ∨ H b = none := fun b => by
      by_cases h1 : b = a
      · exact .inl h1
      · by_cases h2 : b ∈ cs.map (·.2)
        · exact .inr (.inl h2)
        · exact .inr (.inr (noO b h1 h2))
    refine call_atT (H := H) t inK gl bl bo nl gn bm hobj room hF bnd (fun b => ?_) (hs H (fun p hp => yesT _ (memT p hp)) (.inl (.inr ⟨_, yesA a rfl⟩))) (fun b u hb => ?_) (fun b hb => ?_) (fun p hp => yesT _ (memT p hp)) fun _ => hk
    · rcases cases3 b with h | h | h
      · exact .inr (.inr ⟨_, _, yesA b h⟩)
      · exact .inr (.inl h)
      · exact .inl h
    · rcases cases3 b with h | h | h
      · have h2 := (yesA b h).symm.trans hb
        cases h2
        subst h
        exact ⟨hobj, by rw [List.length_map]; exact few, vs, _, rel, hobj⟩
      · have h2 := (yesT b h).symm.trans hb
        cases h2
        exact isT b h
      · rw [h] at hb; cases hb
    · rcases cases3 b with h | h | h
      · exact .inl h
      · exact .inr h
      · exact absurd h hb
  · have h1 := inK a o hk
    rw [hobj] at h1
    cases h1
    have yesT : ∀ b, b ∈ cs.map (·.2) → (fun b => if b ∈ cs.map (·.2) then some (.tbl #[]) else none : Hp) b = some (.tbl #[]) := fun b h => if_pos h
    have noO : ∀ b, b ∉ cs.map (·.2) → (fun b => if b ∈ cs.map (·.2) then some (.tbl #[]) else none : Hp) b = none := fun b h2 => if_neg h2
    generalize (fun b => if b ∈ cs.map (·.2) then some (.tbl #[]) else none : Hp) = H at yesT noO
    have cases2 : ∀ b, b ∈ cs.map (·.2) ∨ H b = none := fun b => by
      by_cases h2 : b ∈ cs.map (·.2)
      · exact .inl h2
      · exact .inr (noO b h2)
    refine call_atT (H := H) t inK gl bl bo nl gn bm hobj room hF bnd (fun b => ?_) (hs H (fun p hp => yesT _ (memT p hp)) (.inr ⟨_, vs.toArray, _, hk, rfl, rfl, rfl, ?_, ?_⟩)) (fun b u hb => ?_) (fun b hb => ?_) (fun p hp => yesT _ (memT p hp)) fun hb => absurd (noO a aT) hb
    · rcases cases2 b with h | h
      · exact .inr (.inl h)
      · exact .inl h
    · rw [List.size_toArray, hin.length]; exact few
    · rw [List.toList_toArray]; exact rel
    · rcases cases2 b with h | h
      · have h2 := (yesT b h).symm.trans hb
        cases h2
        exact isT b h
      · rw [h] at hb; cases hb
    · rcases cases2 b with h | h
      · exact .inr h
      · exact absurd h hb
end
theorem walk_XT {l : PySem.W.OpenLaw} {n k : Nat} {q : Program} {loose : List Str} {XP : (Str → Option Value) → Heap → Prop} {YP : World → Heap → Prop} {d : DefRec} {K : Params → PySem.W.Frag} {x : Str}
    (hn : l.most = some n) (hn2 : n ≤ sizeLine) (hdf : d.params.defaults = []) (room : Rm k callerA) (hY : ∀ (w : World) (h : Heap), YP w h → (K w.params).In h)
    (F : ∀ (w : World) (mg : Str → Option Value) (fa : Addr) (h : Heap), YP w h → (K w.params).In h → h.Ns mainGlobals mg → mg d.name = some (.ref fa) →
      ∃ (fd : FuncData) (cs : List (Addr × Addr)) (sp : Sp), TabsK (K w.params) mg cs h ∧ (∀ (s : Shared) (u : Value), BindsTo s fd ⟨[u], []⟩ [(x, u)]) ∧
        (∀ (H : Hp) (a : Addr) (ns : List Int), ns.length ≤ n → (∀ z ∈ ns, Builtin.Int.intBits z ≤ 1048576) → (∀ p ∈ cs, H p.2 = some (.tbl #[])) → SqL (K w.params) H a (ns.map V.int) → sp [.ref a] H (fun v _ => v = .bl true) fun _ _ _ => False) ∧
        ∀ b : Heap, (K w.params).In b → b.Ns mainGlobals mg → (∀ p ∈ cs, TabB b mg p.1 p.2) → FnX l.prog w (K w.params) mg b k fa fd [x] sp) :
    PySem.W.WalkO q loose XP YP l.row.toRowW d [] (fun f vs => PySem.call f vs) := by
  refine Att.attach_callB hn hdf fun w s0 s1 mg mb fa o pm cd doc a vs ns G Y h1 h2 h3 h4 h5 h6 h7 h8 h9 => ?_
  have inK := hY w _ Y
  obtain ⟨fd, cs, sp, t, bnd, hsp, hF⟩ := F w mg fa _ Y inK G.T.g h4
  exact call_lawT t inK G.T.g G.T.b G.T.builtins G.T.nolimit h9 G.T.bmain h5 h6 (Nat.le_trans h7 hn2) room hF bnd fun H hT hS => hsp H a ns h7 h8 hT hS
end FL
set_option Elab.async false
set_option linter.all false
set_option maxRecDepth 100000
set_option maxHeartbeats 4000000
/-! ## FL, 25: insert, its place told with the list itself at hand -/
namespace FL
open PySem PySem.Spec PyProof.Rows L2
/-- x.insert(e1, e2), each read for itself -/
def sIns2 (i : Nat) (m1 m2 : EM) : SM := fun ρ s => match ρ[i]? with
  | some (some (.own xs)) => after (runD m1 ρ s) ρ fun x s1 => after (runD m2 ρ s1) ρ fun d s2 => match x with
    | .int k => if 0 ≤ k ∧ k < 2 ^ 63 ∧ xs.length < sizeLine then .nx (ρ.set i (some (.own (xs.take k.toNat ++ [d] ++ xs.drop k.toNat)))) s2 else .bad
    | _ => .bad
  | _ => .bad
section
variable {X : Cx} {W : WX} {st : Stmt} {i : Nat} {m1 m2 : EM}
theorem ds_ins2 (h : PS X st (tDrop (tBM X.K "list" (fun x vs H Q => ∃ (l : Addr) (xs : List V) (i : Int) (y : V), x = .ref l ∧ vs = [.int i, y] ∧ H l = some (.lst xs) ∧ xs.length < sizeLine ∧ 0 ≤ i ∧ i < 2 ^ 63 ∧ Q .non (upd H l (.lst (xs.take i.toNat ++ [y] ++ xs.drop i.toNat)))) (tVar i) (tCons (tE X.K W m1) (tCons (tE X.K W m2) tNil))))) : PS X st (tS X.K W (sIns2 i m1 m2)) := ps_weak h fun D σ H ⟨F0, H0, Z, F, ρ, s, a, h⟩ => by
  unfold sIns2 at h
  split at h
  · rename_i xs q
    obtain ⟨p, vs, r1, r2, _⟩ := a.sl.own i xs q
    refine ⟨_, r1, .inl ⟨rfl, vs, .of r2⟩, run_read a (after_post a h fun x s1 F1 H1 w1 a1 _ b1 h => ?_)⟩
    refine run_read a1 (after_post a1 h fun d s2 F2 H2 w2 a2 e2 b2 h => ?_)
    split at h
    · split at h
      · rename_i hz
        obtain ⟨p', vs', u1, u2, u3, _⟩ := a2.sl.own i xs q
        rw [r1] at u1
        cases u1
        cases b1
        exact ⟨_, vs', _, w2, rfl, rfl, u2, by rw [u3.length]; exact hz.2.2, hz.1, hz.2.1, post_nx h (SlAt.chg a2 q r1 (u3.insert _ b2))⟩
      · exact h.elim
    · exact h.elim
  · exact h.elim
end
end FL
set_option Elab.async false
set_option linter.all false
set_option maxRecDepth 100000
set_option maxHeartbeats 4000000
/-! # The second law: its defs by content -/
namespace FL.K2
open PySem PySem.Spec PyProof.Rows L2 FL LamX
def top (i : Nat) : Stmt := PySem.Challenge.pw_lookthrough_k02_what_rows_hang_on.main.body.getD i (.Pass ⟨0, 0, 0, 0⟩)
/-- of the classes that are asked: is an error of row's kind one of them -/
def subT (c : Nat → Addr) : List (List Value × Bool) := [([.ref (c 2)], true)]
def subC (c : Nat → Addr) (C : Addr) (us : List Value) : Option Bool := if C = c 2 then (subT c).lookup us else none
def tab_ROW_LENGTHS (z : Str) : Option D := if z = "false" then some (.int 1) else if z = "does" then some (.int 3) else if z = "not" then some (.int 2) else if z = "and" then some (.int 3) else if z = "or" then some (.int 3) else if z = "shown" then some (.int 3) else some .non
/-- what the top has written: defs at f, classes at c, tables of code objects at P -/
structure Fx (K : PySem.W.Frag) (w : World) (mg : Str → Option Value) (base : Heap) (c : Nat → Addr) (P : Nat → Addr) (f : Nat → Addr) (fd : Nat → FuncData) : Prop where
  d_is_list : DefOk K mg "is_list" (top 10) (f 10) (fd 10) ["thing"]
  d_is_number : DefOk K mg "is_number" (top 11) (f 11) (fd 11) ["thing"]
  d_is_below : DefOk K mg "is_below" (top 12) (f 12) (fd 12) ["thing", "bound"]
  d_is_move : DefOk K mg "is_move" (top 13) (f 13) (fd 13) ["thing"]
  d_parts_of : DefOk K mg "parts_of" (top 14) (f 14) (fd 14) ["row"]
  d_is_row : DefOk K mg "is_row" (top 15) (f 15) (fd 15) ["thing", "at"]
  d_need_rows : DefOk K mg "need_rows" (top 16) (f 16) (fd 16) ["rows"]
  d_need_some : DefOk K mg "need_some" (top 17) (f 17) (fd 17) ["rows", "some"]
  d_downs : DefOk K mg "downs" (top 18) (f 18) (fd 18) ["rows"]
  d_looks_down : DefOk K mg "looks_down" (top 19) (f 19) (fd 19) ["rows", "at"]
  d_hangs_on : DefOk K mg "hangs_on" (top 20) (f 20) (fd 20) ["rows", "some"]
  d_showns : DefOk K mg "showns" (top 21) (f 21) (fd 21) ["rows", "some"]
  d__law_begin : DefOk K mg "_law_begin" (top 23) (f 23) (fd 23) ["script"]
  d__law_take : DefOk K mg "_law_take" (top 24) (f 24) (fd 24) ["draw", "size"]
  d__law_pick : DefOk K mg "_law_pick" (top 25) (f 25) (fd 25) ["draw", "menu"]
  d__law_words : DefOk K mg "_law_words" (top 26) (f 26) (fd 26) ["draw", "many"]
  d__law_lines : DefOk K mg "_law_lines" (top 27) (f 27) (fd 27) ["draw", "many", "words", "highest"]
  d__law_named : DefOk K mg "_law_named" (top 28) (f 28) (fd 28) ["line"]
  d__law_is_down : DefOk K mg "_law_is_down" (top 29) (f 29) (fd 29) ["lines", "here"]
  d__law_reached : DefOk K mg "_law_reached" (top 30) (f 30) (fd 30) ["lines", "few"]
  d__law_told : DefOk K mg "_law_told" (top 31) (f 31) (fd 31) ["work"]
  d__law_due : DefOk K mg "_law_due" (top 32) (f 32) (fd 32) ["lines", "few"]
  d__law_right : DefOk K mg "_law_right" (top 33) (f 33) (fd 33) ["draw", "lines"]
  d_law : DefOk K mg "law" (top 34) (f 34) (fd 34) ["script"]
  z_abs : mg "abs" = none
  z_all : mg "all" = none
  z_bool : mg "bool" = none
  z_enumerate : mg "enumerate" = none
  z_int : mg "int" = none
  z_isinstance : mg "isinstance" = none
  z_len : mg "len" = none
  z_list : mg "list" = none
  z_min : mg "min" = none
  z_range : mg "range" = none
  z_repr : mg "repr" = none
  z_reversed : mg "reversed" = none
  z_sorted : mg "sorted" = none
  z_str : mg "str" = none
  z_tuple : mg "tuple" = none
  c_LETTERS : ∃ u, mg "LETTERS" = some u ∧ RelV (.str "abcdefghijklmnopqrstuvwxyz") u
  c_LONGEST_MOVE : ∃ u, mg "LONGEST_MOVE" = some u ∧ RelV (.int 8) u
  c_MOST_ROWS : ∃ u, mg "MOST_ROWS" = some u ∧ RelV (.int 2000) u
  c_FARTHEST_SEAT : ∃ u, mg "FARTHEST_SEAT" = some u ∧ RelV (.int 3) u
  c_GREATEST_SHOWN : ∃ u, mg "GREATEST_SHOWN" = some u ∧ RelV (.int 99) u
  k_SightError : mg "SightError" = some (.ref (c 1))
  k_NoRow : mg "NoRow" = some (.ref (c 2))
  cd__law_right : (fd 33).code = .ref (c 333)
  tb__law_right : LamX.TabB base mg (c 333) (P 33)
  cd_law : (fd 34).code = .ref (c 334)
  tb_law : LamX.TabB base mg (c 334) (P 34)
  kc_hangs_on : ∀ (s : Shared) (u v : Value), BindsTo s (fd 20) ⟨[], [("some", u), ("rows", v)]⟩ [("rows", v), ("some", u)]
  kc_looks_down : ∀ (s : Shared) (u v : Value), BindsTo s (fd 19) ⟨[], [("at", u), ("rows", v)]⟩ [("rows", v), ("at", u)]
  kb_showns : ∀ (s : Shared) (us : List Value), us.length = (["rows", "some"] : List Str).length → BindsTo s (fd 21) ⟨[], (["rows", "some"] : List Str).zip us⟩ ((["rows", "some"] : List Str).zip us)
  c_ROW_LENGTHS : mg "ROW_LENGTHS" = some (.ref (c 9))
  dk_ROW_LENGTHS : ∃ es n, KDict K w (c 9) es n
  tab_ROW_LENGTHS : ∀ z g, tab_ROW_LENGTHS z = some g → ∃ r v, PySem.W.nsIn K (c 9) z = some r ∧ RelV v (r.getD .none) ∧ ∀ F Z, At K F Z v g
  ox_NoRow : OexC K (c 2)
  ix_NoRow : PySem.W.findIn K (.ref (c 2)) "__init__" = some (some (.ref (f 102)))
  tx_NoRow : PySem.W.typeIn K (.ref (f 102)) = some (.type "function")
  fi_NoRow : L2.Fun K "__init__" "NoRow.__init__" (inClass (top 2) 0) (f 102) (fd 102)
  bx_NoRow : Binds K (fd 102) ["self", "at"] []
  no_NoRow : PySem.W.findIn K (.ref (c 2)) "at" = some none
  xf_at : ∀ D, decide (D = c 2) = true → XfC K D ∧ PySem.W.findIn K (.ref D) "at" = some none
  sub : ∀ C us b, subC c C us = some b → ExcC K C ∧ PySem.W.kitAny K (.ref C) us = some b ∧ ∀ u, us = [u] → PySem.W.kitOne K (.ref C) u = some b
  exm : ∀ C, decide (C = c 2) = true → PySem.W.exmOne K (.ref C) (.ref (c 1)) = some true
section
variable {Pr : Program} {w : World} {K : PySem.W.Frag} {mg : Str → Option Value} {base : Heap} {c P f : Nat → Addr} {fd : Nat → FuncData}
theorem sc_init : FnScope ["self", "at"] ["self", "at"] (defScope (inClass (top 2) 0)) := ⟨rfl, rfl, rfl, by decide +kernel, rfl, by decide +kernel, by decide +kernel⟩
theorem ok_init_NoRow (T : Fx K w mg base c P f fd) : FnOk Pr w K mg base CX0 1 (f 102) (fd 102) ["self", "at"] (spI (c 2) "at") := ok_excInit T.fi_NoRow sc_init T.ox_NoRow T.no_NoRow (Or.inl rfl) (Or.inl rfl) rfl rfl rfl
/-! ### the draw -/
theorem sc__law_take : FnScope ["draw", "size", "cells", "spot", "cell"] ["draw", "size"] (defScope (top 24)) := ⟨rfl, rfl, rfl, by decide +kernel, rfl, by decide +kernel, by decide +kernel⟩
def mf__law_take : FM := fnOf 5 2 mTake
theorem ok__law_take (T : Fx K w mg base c P f fd) : FnG Pr w K mg base 3 (f 24) (fd 24) ["draw", "size"] mf__law_take := Fun.okG T.d__law_take.fn sc__law_take fun cdv A outer s H E hr => by
  show PSs _ (defBody (top 24)) _
  refine pss_weak ?_ take_read
  exact pss_cons (ps_set (i := 2) sc__law_take.nd rfl (Or.inl rfl) (pe_ix ix_seq (pv 0) pe_int (by intro _ _; rfl)))
    (pss_cons (ps_set (i := 3) sc__law_take.nd rfl (Or.inl rfl) (pe_op op_mod (pe_ix ix_seq (pv 0) pe_int (by intro _ _; rfl)) (pe_callB call_len rfl T.z_len bb_len (pa_cons (pv 2) pa_nil))))
    (pss_cons (ps_set (i := 4) sc__law_take.nd rfl (Or.inl rfl) (pe_ix ix_seq (pv 2) (pv 3) (by intro _ _; rfl)))
    (pss_cons (ps_if (pt_cmpR op_ge (pv 4) (pe_op op_pow pe_int pe_int) (nomark _)) (pss_cons (ps_asg (pe_op op_fdivW (pv 4) (pv 1)) (pg_sub (pv 2) (pv 3) set_list)) (pss_one (ps_ret (pe_op op_mod (pv 4) (pv 1))))) pss_nil)
    (pss_cons (ps_asg (pe_op op_add (pe_ix ix_seq (pv 0) pe_int (by intro _ _; rfl)) pe_int) (pg_sub (pv 0) pe_int set_list))
    (pss_cons (ps_asg (pe_op op_mod (pe_op op_add (pe_op op_add (pe_op op_mul (pe_ix ix_seq (pv 0) pe_int (by intro _ _; rfl)) pe_int) (pv 4)) pe_int) pe_int) (pg_sub (pv 0) pe_int set_list))
    (pss_one (ps_ret (pe_op op_mod (pe_op op_fdivW (pe_op op_mod (pe_op op_mul (pe_ix ix_seq (pv 0) pe_int (by intro _ _; rfl)) (pe_ix ix_seq (pv 0) pe_int (by intro _ _; rfl))) pe_int) pe_int) (pv 1)))))))))
theorem sc__law_begin : FnScope ["script", "cells", "cell"] ["script"] (defScope (top 23)) := ⟨rfl, rfl, rfl, by decide +kernel, rfl, by decide +kernel, by decide +kernel⟩
theorem ok__law_begin (T : Fx K w mg base c P f fd) : FnOk Pr w K mg base (L2.CX Pr w) 3 (f 23) (fd 23) ["script"] (spB K) := by
  refine T.d__law_begin.fn.okX sc__law_begin (fun vs H Q E h => ?_) fun cdv A outer s H vs Q E hr h => ⟨tB K (fun c dd _ H => E c dd H), ?_, begin_pure vs H Q E h⟩
  · obtain ⟨a, ns, rfl, _⟩ := h
    rfl
  · show PSs _ (defBody (top 23)) _
    exact pss_cons (ds_ownLc (ps_setLc (i := 1) (own := [("cell", 2)]) (hc := rfl) (hN := sc__law_begin.nd) (hy := rfl) (hyl := rfl) (hsw := by rfl) (di_any (de_slice sl_G sd_G (de_var (pv 0)) do_none (do_some de_int))) (blkOk_by rfl) (fun _ _ _ _ _ => pg_name (i := 2) sc__law_begin.nd rfl (by first | exact Or.inl rfl | exact Or.inr rfl)) (fun _ _ _ _ _ => dt_yes) (fun _ _ _ _ _ => de_callB call_abs cd_abs rfl T.z_abs bb_abs (da_cons (de_var (pv 2)) da_nil))) (tge_name 2))
      (pss_cons (ds_if (dt_cmp (op_eqG hr.units) od_eqG (de_var (pv 1)) (de_lst da_nil) (nomark _)) (dss_one (ds_own (i := 1) sc__law_begin.nd rfl (Or.inl rfl) (da_cons de_int da_nil))) dss_nil)
      (pss_one (ps_ret (pe_lst (pa_cons (pv 1) (pa_cons pe_int (pa_cons pe_int pa_nil)))))))

/-! ### is_list -/
theorem sc_is_list : FnScope ["thing"] ["thing"] (defScope (top 10)) := ⟨rfl, rfl, rfl, by decide +kernel, rfl, by decide +kernel, by decide +kernel⟩
def m_is_list : SM := sRet (eOf isiF (aCons (eVar 0) (aCons (eOf tupF1 (aCons (eC (.ty "list")) (aCons (eC (.ty "tuple")) (aNil)))) (aNil))))
def mf_is_list : FM := fnOf 1 1 (m_is_list)
theorem ok_is_list (T : Fx K w mg base c P f fd) : FnG Pr w K mg base 3 (f 10) (fd 10) ["thing"] (mf_is_list) := Fun.okG T.d_is_list.fn sc_is_list fun cdv A outer s H E hr => by
  show PSs _ (defBody (top 10)) _
  refine dss_one ?_
  exact (ds_ret (de_callB call_isG cd_is rfl T.z_isinstance bb_isinstance (da_cons (de_var (pv 0)) (da_cons (de_tup (da_cons (de_type rfl T.z_list bt_list) (da_cons (de_type rfl T.z_tuple bt_tuple) (da_nil)))) (da_nil)))))
/-! ### is_number -/
theorem sc_is_number : FnScope ["thing"] ["thing"] (defScope (top 11)) := ⟨rfl, rfl, rfl, by decide +kernel, rfl, by decide +kernel, by decide +kernel⟩
def m_is_number : SM := sRet (eAnd (eOf isiF (aCons (eVar 0) (aCons (eC (.ty "int")) (aNil)))) (eNot (eOf isiF (aCons (eVar 0) (aCons (eC (.ty "bool")) (aNil))))))
def mf_is_number : FM := fnOf 1 1 (m_is_number)
theorem ok_is_number (T : Fx K w mg base c P f fd) : FnG Pr w K mg base 3 (f 11) (fd 11) ["thing"] (mf_is_number) := Fun.okG T.d_is_number.fn sc_is_number fun cdv A outer s H E hr => by
  show PSs _ (defBody (top 11)) _
  refine dss_one ?_
  exact (ds_ret (de_and (de_callB call_isG cd_is rfl T.z_isinstance bb_isinstance (da_cons (de_var (pv 0)) (da_cons (de_type rfl T.z_int bt_int) (da_nil)))) (de_one (de_not (de_callB call_isG cd_is rfl T.z_isinstance bb_isinstance (da_cons (de_var (pv 0)) (da_cons (de_type rfl T.z_bool bt_bool) (da_nil))))))))
/-! ### is_below -/
theorem sc_is_below : FnScope ["thing", "bound"] ["thing", "bound"] (defScope (top 12)) := ⟨rfl, rfl, rfl, by decide +kernel, rfl, by decide +kernel, by decide +kernel⟩
def m_is_below : SM := sRet (eAnd (eCall (mf_is_number) (aCons (eVar 0) (aNil))) (eChain leF ltF (eC (.int 0)) (eVar 0) (eVar 1)))
def mf_is_below : FM := fnOf 2 2 (m_is_below)
theorem ok_is_below (T : Fx K w mg base c P f fd) : FnG Pr w K mg base 4 (f 12) (fd 12) ["thing", "bound"] (mf_is_below) := Fun.okG T.d_is_below.fn sc_is_below fun cdv A outer s H E hr => by
  show PSs _ (defBody (top 12)) _
  refine dss_one ?_
  exact (ds_ret (de_and (de_call (ok_is_number T) (hr.mono (by decide)) rfl T.d_is_number.g T.d_is_number.fn.kp T.d_is_number.b (fun σ => passAt (takes_of rfl rfl rfl rfl) σ) (da_cons (de_var (pv 0)) (da_nil))) (de_one (de_chain op_le op_lt od_le od_lt (de_int) (de_var (pv 0)) (de_var (pv 1))))))
/-! ### is_move -/
theorem sc_is_move : FnScope ["thing", "sign"] ["thing"] (defScope (top 13)) := ⟨rfl, rfl, rfl, by decide +kernel, rfl, by decide +kernel, by decide +kernel⟩
def m_is_move : SM := sSeq (sIf (mOr (mNot (mTru (eOf isiF (aCons (eVar 0) (aCons (eC (.ty "str")) (aNil)))))) (mNot (mBl (eChain leF leF (eC (.int 1)) (eOf lenF (aCons (eVar 0) (aNil))) (eC (.int 8)))))) (sRet (eC (.bl false))) (sNext)) (sRet (eOf allF (aCons (eLc [1] 2 (c1 1) (iOf itemsF (eVar 0)) (tYesD) (eOp (inG false) (eVar 1) (eC (.str "abcdefghijklmnopqrstuvwxyz")))) (aNil))))
def mf_is_move : FM := fnOf 2 1 (m_is_move)
theorem ok_is_move (T : Fx K w mg base c P f fd) : FnG Pr w K mg base 3 (f 13) (fd 13) ["thing"] (mf_is_move) := Fun.okG T.d_is_move.fn sc_is_move fun cdv A outer s H E hr => by
  show PSs _ (defBody (top 13)) _
  refine dss_cons ?_ ?_
  · refine ds_if (PW.pt (dw_or (dt_not (dt_val (de_callB call_isG cd_is rfl T.z_isinstance bb_isinstance (da_cons (de_var (pv 0)) (da_cons (de_type rfl T.z_str bt_str) (da_nil)))))) (dw_or1 (dt_not (dt_chain op_le op_le od_le od_le (de_int) (de_callB call_len cd_len rfl T.z_len bb_len (da_cons (de_var (pv 0)) (da_nil))) (de_globE rfl T.c_LONGEST_MOVE fun _ _ => .int _)))))) ?_ ?_
    · refine dss_one ?_
      exact (ds_ret (de_bl))
    · exact dss_nil
  refine dss_one ?_
  exact (ds_ret (de_callB (cr_all rfl) cd_all rfl T.z_all bb_all (da_cons (de_lc (own := [("sign", 1)]) (pe_lc (own := [("sign", 1)]) rfl sc_is_move.nd (di_any (de_var (pv 0))) (blkOk_by rfl) (fun _ _ _ _ _ => pg_name (i := 1) sc_is_move.nd rfl (by first | exact Or.inl rfl | exact Or.inr rfl)) (fun _ _ _ _ _ => dt_yes) (fun _ _ _ _ _ => de_cmp op_inG od_inG (de_var (pv 1)) (de_globE rfl T.c_LETTERS fun _ _ => .str _) (by first | exact nomark _ | rfl | with_unfolding_all rfl))) (tge_name 1)) (da_nil))))
/-! ### parts_of -/
theorem sc_parts_of : FnScope ["row"] ["row"] (defScope (top 14)) := ⟨rfl, rfl, rfl, by decide +kernel, rfl, by decide +kernel, by decide +kernel⟩
def m_parts_of : SM := sSeq (sIf (mBl (eOp eqG (eOp ixF (eVar 0) (eC (.int 0))) (eC (.str "shown")))) (sRet (eSl slF (eVar 0) (oSome (eC (.int 2))) (oNone))) (sNext)) (sSeq (sIf (mBl (eOp (inG false) (eOp ixF (eVar 0) (eC (.int 0))) (eOf tupF1 (aCons (eC (.str "not")) (aCons (eC (.str "and")) (aCons (eC (.str "or")) (aNil))))))) (sRet (eSl slF (eVar 0) (oSome (eC (.int 1))) (oNone))) (sNext)) (sRet (eOf tupF1 (aNil))))
def mf_parts_of : FM := fnOf 1 1 (m_parts_of)
theorem ok_parts_of (T : Fx K w mg base c P f fd) : FnG Pr w K mg base 3 (f 14) (fd 14) ["row"] (mf_parts_of) := Fun.okG T.d_parts_of.fn sc_parts_of fun cdv A outer s H E hr => by
  show PSs _ (defBody (top 14)) _
  refine dss_cons ?_ ?_
  · refine ds_if (dt_cmp (op_eqG (hu64 hr)) od_eqG (de_ix ix_seq od_ix (de_var (pv 0)) (de_int) (by intro _ _; rfl)) (de_str) (by first | exact nomark _ | rfl | with_unfolding_all rfl)) ?_ ?_
    · refine dss_one ?_
      exact (ds_ret (de_slice sl_G sd_G (de_var (pv 0)) (do_some (de_int)) (do_none)))
    · exact dss_nil
  refine dss_cons ?_ ?_
  · refine ds_if (dt_cmp op_inG od_inG (de_ix ix_seq od_ix (de_var (pv 0)) (de_int) (by intro _ _; rfl)) (de_tup (da_cons (de_str) (da_cons (de_str) (da_cons (de_str) (da_nil))))) (by first | exact nomark _ | rfl | with_unfolding_all rfl)) ?_ ?_
    · refine dss_one ?_
      exact (ds_ret (de_slice sl_G sd_G (de_var (pv 0)) (do_some (de_int)) (do_none)))
    · exact dss_nil
  refine dss_one ?_
  exact (ds_ret (de_tup (da_nil)))
/-! ### is_row -/
theorem sc_is_row : FnScope ["thing", "at", "word", "part"] ["thing", "at"] (defScope (top 15)) := ⟨rfl, rfl, rfl, by decide +kernel, rfl, by decide +kernel, by decide +kernel⟩
def m_is_row : SM := sSeq (sIf (mOr (mNot (mTru (eOf isiF (aCons (eVar 0) (aCons (eC (.ty "tuple")) (aNil)))))) (mOr (mNot (mTru (eVar 0))) (mNot (mTru (eOf isiF (aCons (eOp ixF (eVar 0) (eC (.int 0))) (aCons (eC (.ty "str")) (aNil)))))))) (sRet (eC (.bl false))) (sNext)) (sSeq (sSet 2 (eOp ixF (eVar 0) (eC (.int 0)))) (sSeq (sIf (mBl (eOp neG (eUn (getF tab_ROW_LENGTHS) (eVar 2)) (eOf lenF (aCons (eVar 0) (aNil))))) (sRet (eC (.bl false))) (sNext)) (sSeq (sIf (mBl (eOp eqG (eVar 2) (eC (.str "does")))) (sRet (eAnd (eCall (mf_is_below) (aCons (eOp ixF (eVar 0) (eC (.int 1))) (aCons (eOp addF (eC (.int 3)) (eC (.int 1))) (aNil)))) (eCall (mf_is_move) (aCons (eOp ixF (eVar 0) (eC (.int 2))) (aNil))))) (sNext)) (sSeq (sIf (mAnd (mBl (eOp eqG (eVar 2) (eC (.str "shown")))) (mNot (mTru (eCall (mf_is_below) (aCons (eOp ixF (eVar 0) (eC (.int 1))) (aCons (eOp addF (eC (.int 99)) (eC (.int 1))) (aNil))))))) (sRet (eC (.bl false))) (sNext)) (sRet (eOf allF (aCons (eLc [3] 4 (c1 3) (iOf itemsF (eCall (mf_parts_of) (aCons (eVar 0) (aNil)))) (tYesD) (eCall (mf_is_below) (aCons (eVar 3) (aCons (eVar 1) (aNil))))) (aNil))))))))
def mf_is_row : FM := fnOf 4 2 (m_is_row)
theorem ok_is_row (T : Fx K w mg base c P f fd) : FnG Pr w K mg base 5 (f 15) (fd 15) ["thing", "at"] (mf_is_row) := Fun.okG T.d_is_row.fn sc_is_row fun cdv A outer s H E hr => by
  show PSs _ (defBody (top 15)) _
  refine dss_cons ?_ ?_
  · refine ds_if (PW.pt (dw_or (dt_not (dt_val (de_callB call_isG cd_is rfl T.z_isinstance bb_isinstance (da_cons (de_var (pv 0)) (da_cons (de_type rfl T.z_tuple bt_tuple) (da_nil)))))) (dw_or (dt_not (dt_val (de_var (pv 0)))) (dw_or1 (dt_not (dt_val (de_callB call_isG cd_is rfl T.z_isinstance bb_isinstance (da_cons (de_ix ix_seq od_ix (de_var (pv 0)) (de_int) (by intro _ _; rfl)) (da_cons (de_type rfl T.z_str bt_str) (da_nil)))))))))) ?_ ?_
    · refine dss_one ?_
      exact (ds_ret (de_bl))
    · exact dss_nil
  refine dss_cons ?_ ?_
  · exact (ds_set (i := 2) sc_is_row.nd rfl (by first | exact Or.inl rfl | exact Or.inr rfl) (de_ix ix_seq od_ix (de_var (pv 0)) (de_int) (by intro _ _; rfl)))
  refine dss_cons ?_ ?_
  · refine ds_if (dt_cmp (op_neG (hu64 hr)) od_neG (de_getKE T.dk_ROW_LENGTHS (pe_glob rfl T.c_ROW_LENGTHS rfl) (de_var (pv 2)) T.tab_ROW_LENGTHS) (de_callB call_len cd_len rfl T.z_len bb_len (da_cons (de_var (pv 0)) (da_nil))) (by first | exact nomark _ | rfl | with_unfolding_all rfl)) ?_ ?_
    · refine dss_one ?_
      exact (ds_ret (de_bl))
    · exact dss_nil
  refine dss_cons ?_ ?_
  · refine ds_if (dt_cmp (op_eqG (hu64 hr)) od_eqG (de_var (pv 2)) (de_str) (by first | exact nomark _ | rfl | with_unfolding_all rfl)) ?_ ?_
    · refine dss_one ?_
      exact (ds_ret (de_and (de_call (ok_is_below T) (hr.mono (by decide)) rfl T.d_is_below.g T.d_is_below.fn.kp T.d_is_below.b (fun σ => passAt (takes_of rfl rfl rfl rfl) σ) (da_cons (de_ix ix_seq od_ix (de_var (pv 0)) (de_int) (by intro _ _; rfl)) (da_cons (de_op op_addG od_add (de_globE rfl T.c_FARTHEST_SEAT fun _ _ => .int _) (de_int)) (da_nil)))) (de_one (de_call (ok_is_move T) (hr.mono (by decide)) rfl T.d_is_move.g T.d_is_move.fn.kp T.d_is_move.b (fun σ => passAt (takes_of rfl rfl rfl rfl) σ) (da_cons (de_ix ix_seq od_ix (de_var (pv 0)) (de_int) (by intro _ _; rfl)) (da_nil))))))
    · exact dss_nil
  refine dss_cons ?_ ?_
  · refine ds_if (PW.pt (dw_and (dt_cmp (op_eqG (hu64 hr)) od_eqG (de_var (pv 2)) (de_str) (by first | exact nomark _ | rfl | with_unfolding_all rfl)) (dw_and1 (dt_not (dt_val (de_call (ok_is_below T) (hr.mono (by decide)) rfl T.d_is_below.g T.d_is_below.fn.kp T.d_is_below.b (fun σ => passAt (takes_of rfl rfl rfl rfl) σ) (da_cons (de_ix ix_seq od_ix (de_var (pv 0)) (de_int) (by intro _ _; rfl)) (da_cons (de_op op_addG od_add (de_globE rfl T.c_GREATEST_SHOWN fun _ _ => .int _) (de_int)) (da_nil))))))))) ?_ ?_
    · refine dss_one ?_
      exact (ds_ret (de_bl))
    · exact dss_nil
  refine dss_one ?_
  exact (ds_ret (de_callB (cr_all rfl) cd_all rfl T.z_all bb_all (da_cons (de_lc (own := [("part", 3)]) (pe_lc (own := [("part", 3)]) rfl sc_is_row.nd (di_any (de_call (ok_parts_of T) (hr.mono (by decide)) rfl T.d_parts_of.g T.d_parts_of.fn.kp T.d_parts_of.b (fun σ => passAt (takes_of rfl rfl rfl rfl) σ) (da_cons (de_var (pv 0)) (da_nil)))) (blkOk_by rfl) (fun _ _ _ _ _ => pg_name (i := 3) sc_is_row.nd rfl (by first | exact Or.inl rfl | exact Or.inr rfl)) (fun _ _ _ _ _ => dt_yes) (fun _ _ _ _ _ => de_call (ok_is_below T) (hr.mono (by decide)) rfl T.d_is_below.g T.d_is_below.fn.kp T.d_is_below.b (fun σ => passW0 σ) (da_cons (de_var (pv 3)) (da_cons (de_var (pv 1)) (da_nil))))) (tge_name 3)) (da_nil))))
/-! ### need_rows -/
theorem sc_need_rows : FnScope ["rows", "at", "row"] ["rows"] (defScope (top 16)) := ⟨rfl, rfl, rfl, by decide +kernel, rfl, by decide +kernel, by decide +kernel⟩
def m_need_rows (c : Nat → Addr) : SM := sSeq (sIf (mNot (mTru (eCall (mf_is_list) (aCons (eVar 0) (aNil))))) (sRaise (c 2) "at" (eC (.int 0))) (sNext)) (sSeq (sFor (bT [1, 2]) (iOf numdF (eSl slF (eVar 0) (oNone) (oSome (eC (.int 2000))))) (sIf (mNot (mTru (eCall (mf_is_row) (aCons (eVar 2) (aCons (eVar 1) (aNil)))))) (sRaise (c 2) "at" (eVar 1)) (sNext))) (sIf (mBl (eOp gtF (eOf lenF (aCons (eVar 0) (aNil))) (eC (.int 2000)))) (sRaise (c 2) "at" (eC (.int 2000))) (sNext)))
def mf_need_rows (c : Nat → Addr) : FM := fnOf 3 1 (m_need_rows c)
theorem ok_need_rows (T : Fx K w mg base c P f fd) : FnG Pr w K mg base 6 (f 16) (fd 16) ["rows"] (mf_need_rows c) := Fun.okG T.d_need_rows.fn sc_need_rows fun cdv A outer s H E hr => by
  show PSs _ (defBody (top 16)) _
  refine dss_cons ?_ ?_
  · refine ds_if (dt_not (dt_val (de_call (ok_is_list T) (hr.mono (by decide)) rfl T.d_is_list.g T.d_is_list.fn.kp T.d_is_list.b (fun σ => passAt (takes_of rfl rfl rfl rfl) σ) (da_cons (de_var (pv 0)) (da_nil))))) ?_ ?_
    · refine dss_one ?_
      exact (ds_raise (ps_raise rfl (takes_of rfl rfl rfl rfl) (pmk_oex T.ox_NoRow T.ix_NoRow T.tx_NoRow (ok_init_NoRow T) (hr.r.mono (by decide)) T.bx_NoRow .nil pass0 rfl T.k_NoRow (pa_cons (de_int) pa_nil))))
    · exact dss_nil
  refine dss_cons ?_ ?_
  · refine ds_for (passes_of rfl) rfl (di_enum rfl T.z_enumerate (de_slice sl_G sd_G (de_var (pv 0)) (do_none) (do_some (de_globE rfl T.c_MOST_ROWS fun _ _ => .int _)))) (pg_tup rfl (pgs_cons (pg_name (i := 1) sc_need_rows.nd rfl (by first | exact Or.inl rfl | exact Or.inr rfl)) (pgs_cons (pg_name (i := 2) sc_need_rows.nd rfl (by first | exact Or.inl rfl | exact Or.inr rfl)) (pgs_nil)))) (tgd_tup [1, 2]) ?_
    refine dss_one ?_
    refine ds_if (dt_not (dt_val (de_call (ok_is_row T) (hr.mono (by decide)) rfl T.d_is_row.g T.d_is_row.fn.kp T.d_is_row.b (fun σ => passAt (takes_of rfl rfl rfl rfl) σ) (da_cons (de_var (pv 2)) (da_cons (de_var (pv 1)) (da_nil)))))) ?_ ?_
    · refine dss_one ?_
      exact (ds_raise (ps_raise rfl (takes_of rfl rfl rfl rfl) (pmk_oex T.ox_NoRow T.ix_NoRow T.tx_NoRow (ok_init_NoRow T) (hr.r.mono (by decide)) T.bx_NoRow .nil pass0 rfl T.k_NoRow (pa_cons (de_var (pv 1)) pa_nil))))
    · exact dss_nil
  refine dss_one ?_
  refine ds_if (dt_cmp op_gt od_gt (de_callB call_len cd_len rfl T.z_len bb_len (da_cons (de_var (pv 0)) (da_nil))) (de_globE rfl T.c_MOST_ROWS fun _ _ => .int _) (by first | exact nomark _ | rfl | with_unfolding_all rfl)) ?_ ?_
  · refine dss_one ?_
    exact (ds_raise (ps_raise rfl (takes_of rfl rfl rfl rfl) (pmk_oex T.ox_NoRow T.ix_NoRow T.tx_NoRow (ok_init_NoRow T) (hr.r.mono (by decide)) T.bx_NoRow .nil pass0 rfl T.k_NoRow (pa_cons (de_globE rfl T.c_MOST_ROWS fun _ _ => .int _) pa_nil))))
  · exact dss_nil
/-! ### need_some -/
theorem sc_need_some : FnScope ["rows", "some", "place", "at"] ["rows", "some"] (defScope (top 17)) := ⟨rfl, rfl, rfl, by decide +kernel, rfl, by decide +kernel, by decide +kernel⟩
def m_need_some (c : Nat → Addr) : SM := sSeq (sIf (mNot (mTru (eCall (mf_is_list) (aCons (eVar 1) (aNil))))) (sRaise (c 2) "at" (eC (.int 0))) (sNext)) (sFor (bT [2, 3]) (iOf numdF (eVar 1)) (sIf (mNot (mTru (eCall (mf_is_below) (aCons (eVar 3) (aCons (eOf lenF (aCons (eVar 0) (aNil))) (aNil)))))) (sRaise (c 2) "at" (eVar 2)) (sNext)))
def mf_need_some (c : Nat → Addr) : FM := fnOf 4 2 (m_need_some c)
theorem ok_need_some (T : Fx K w mg base c P f fd) : FnG Pr w K mg base 5 (f 17) (fd 17) ["rows", "some"] (mf_need_some c) := Fun.okG T.d_need_some.fn sc_need_some fun cdv A outer s H E hr => by
  show PSs _ (defBody (top 17)) _
  refine dss_cons ?_ ?_
  · refine ds_if (dt_not (dt_val (de_call (ok_is_list T) (hr.mono (by decide)) rfl T.d_is_list.g T.d_is_list.fn.kp T.d_is_list.b (fun σ => passAt (takes_of rfl rfl rfl rfl) σ) (da_cons (de_var (pv 1)) (da_nil))))) ?_ ?_
    · refine dss_one ?_
      exact (ds_raise (ps_raise rfl (takes_of rfl rfl rfl rfl) (pmk_oex T.ox_NoRow T.ix_NoRow T.tx_NoRow (ok_init_NoRow T) (hr.r.mono (by decide)) T.bx_NoRow .nil pass0 rfl T.k_NoRow (pa_cons (de_int) pa_nil))))
    · exact dss_nil
  refine dss_one ?_
  refine ds_for (passes_of rfl) rfl (di_enum rfl T.z_enumerate (de_var (pv 1))) (pg_tup rfl (pgs_cons (pg_name (i := 2) sc_need_some.nd rfl (by first | exact Or.inl rfl | exact Or.inr rfl)) (pgs_cons (pg_name (i := 3) sc_need_some.nd rfl (by first | exact Or.inl rfl | exact Or.inr rfl)) (pgs_nil)))) (tgd_tup [2, 3]) ?_
  refine dss_one ?_
  refine ds_if (dt_not (dt_val (de_call (ok_is_below T) (hr.mono (by decide)) rfl T.d_is_below.g T.d_is_below.fn.kp T.d_is_below.b (fun σ => passAt (takes_of rfl rfl rfl rfl) σ) (da_cons (de_var (pv 3)) (da_cons (de_callB call_len cd_len rfl T.z_len bb_len (da_cons (de_var (pv 0)) (da_nil))) (da_nil)))))) ?_ ?_
  · refine dss_one ?_
    exact (ds_raise (ps_raise rfl (takes_of rfl rfl rfl rfl) (pmk_oex T.ox_NoRow T.ix_NoRow T.tx_NoRow (ok_init_NoRow T) (hr.r.mono (by decide)) T.bx_NoRow .nil pass0 rfl T.k_NoRow (pa_cons (de_var (pv 2)) pa_nil))))
  · exact dss_nil
/-! ### downs -/
theorem sc_downs : FnScope ["rows", "down", "row", "part"] ["rows"] (defScope (top 18)) := ⟨rfl, rfl, rfl, by decide +kernel, rfl, by decide +kernel, by decide +kernel⟩
def m_downs : SM := sSeq (sOwn 1 (aNil)) (sSeq (sFor (b1 2) (iOf itemsF (eVar 0)) (sIf (mBl (eOp eqG (eOp ixF (eVar 2) (eC (.int 0))) (eC (.str "shown")))) (sApp 1 (eC (.bl true))) (sApp 1 (eAnd (eOp neG (eOp ixF (eVar 2) (eC (.int 0))) (eC (.str "does"))) (eOf allF (aCons (eLc [3] 4 (c1 3) (iOf itemsF (eCall (mf_parts_of) (aCons (eVar 2) (aNil)))) (tYesD) (eOp ixF (eVar 1) (eVar 3))) (aNil))))))) (fun ρ s => (sRet (eVar 1)) (frz 1 ρ) s))
def mf_downs : FM := fnOf 4 1 (m_downs)
theorem ok_downs (T : Fx K w mg base c P f fd) : FnG Pr w K mg base 4 (f 18) (fd 18) ["rows"] (mf_downs) := Fun.okG T.d_downs.fn sc_downs fun cdv A outer s H E hr => by
  show PSs _ (defBody (top 18)) _
  refine dss_cons ?_ ?_
  · exact (ds_own (i := 1) sc_downs.nd rfl (by first | exact Or.inl rfl | exact Or.inr rfl) (da_nil))
  refine dss_cons ?_ ?_
  · refine ds_for (passes_of rfl) rfl (di_any (de_var (pv 0))) (pg_name (i := 2) sc_downs.nd rfl (by first | exact Or.inl rfl | exact Or.inr rfl)) (tgd_name 2) ?_
    refine dss_one ?_
    refine ds_if (dt_cmp (op_eqG (hu64 hr)) od_eqG (de_ix ix_seq od_ix (de_var (pv 2)) (de_int) (by intro _ _; rfl)) (de_str) (by first | exact nomark _ | rfl | with_unfolding_all rfl)) ?_ ?_
    · refine dss_one ?_
      exact (ds_app (ps_expr (pe_bm PySem.F.plainAttrs_list PySem.F.slot_list_append PySem.F.type_list_append mt_append (pv 1) (pa_cons (de_bl) pa_nil))))
    · refine dss_one ?_
      exact (ds_app (ps_expr (pe_bm PySem.F.plainAttrs_list PySem.F.slot_list_append PySem.F.type_list_append mt_append (pv 1) (pa_cons (de_and (de_cmp (op_neG (hu64 hr)) od_neG (de_ix ix_seq od_ix (de_var (pv 2)) (de_int) (by intro _ _; rfl)) (de_str) (by first | exact nomark _ | rfl | with_unfolding_all rfl)) (de_one (de_callB (cr_all rfl) cd_all rfl T.z_all bb_all (da_cons (de_lc (own := [("part", 3)]) (pe_lc (own := [("part", 3)]) rfl sc_downs.nd (di_any (de_call (ok_parts_of T) (hr.mono (by decide)) rfl T.d_parts_of.g T.d_parts_of.fn.kp T.d_parts_of.b (fun σ => passAt (takes_of rfl rfl rfl rfl) σ) (da_cons (de_var (pv 2)) (da_nil)))) (blkOk_by rfl) (fun _ _ _ _ _ => pg_name (i := 3) sc_downs.nd rfl (by first | exact Or.inl rfl | exact Or.inr rfl)) (fun _ _ _ _ _ => dt_yes) (fun _ _ _ _ _ => de_ix ix_seq od_ix (de_var (pv 1)) (de_var (pv 3)) (by intro _ _; rfl))) (tge_name 3)) (da_nil))))) pa_nil))))
  refine dss_one ?_
  exact (ds_frz 1 (ds_ret (de_var (pv 1))))
/-! ### looks_down -/
theorem sc_looks_down : FnScope ["rows", "at"] ["rows", "at"] (defScope (top 19)) := ⟨rfl, rfl, rfl, by decide +kernel, rfl, by decide +kernel, by decide +kernel⟩
def m_looks_down (c : Nat → Addr) : SM := sSeq (sDrop (eCall (mf_need_rows c) (aCons (eVar 0) (aNil)))) (sSeq (sIf (mNot (mTru (eCall (mf_is_number) (aCons (eVar 1) (aNil))))) (sRaise (c 2) "at" (eC (.int 0))) (sNext)) (sSeq (sIf (mNot (mBl (eChain leF ltF (eC (.int 0)) (eVar 1) (eOf lenF (aCons (eVar 0) (aNil)))))) (sRaise (c 2) "at" (eVar 1)) (sNext)) (sRet (eOp ixF (eCall (mf_downs) (aCons (eSl slF (eVar 0) (oNone) (oSome (eOp addF (eVar 1) (eC (.int 1))))) (aNil))) (eVar 1)))))
def mf_looks_down (c : Nat → Addr) : FM := fnOf 2 2 (m_looks_down c)
theorem ok_looks_down (T : Fx K w mg base c P f fd) : FnG Pr w K mg base 7 (f 19) (fd 19) ["rows", "at"] (mf_looks_down c) := Fun.okG T.d_looks_down.fn sc_looks_down fun cdv A outer s H E hr => by
  show PSs _ (defBody (top 19)) _
  refine dss_cons ?_ ?_
  · exact (ds_expr (de_call (ok_need_rows T) (hr.mono (by decide)) rfl T.d_need_rows.g T.d_need_rows.fn.kp T.d_need_rows.b (fun σ => passAt (takes_of rfl rfl rfl rfl) σ) (da_cons (de_var (pv 0)) (da_nil))))
  refine dss_cons ?_ ?_
  · refine ds_if (dt_not (dt_val (de_call (ok_is_number T) (hr.mono (by decide)) rfl T.d_is_number.g T.d_is_number.fn.kp T.d_is_number.b (fun σ => passAt (takes_of rfl rfl rfl rfl) σ) (da_cons (de_var (pv 1)) (da_nil))))) ?_ ?_
    · refine dss_one ?_
      exact (ds_raise (ps_raise rfl (takes_of rfl rfl rfl rfl) (pmk_oex T.ox_NoRow T.ix_NoRow T.tx_NoRow (ok_init_NoRow T) (hr.r.mono (by decide)) T.bx_NoRow .nil pass0 rfl T.k_NoRow (pa_cons (de_int) pa_nil))))
    · exact dss_nil
  refine dss_cons ?_ ?_
  · refine ds_if (dt_not (dt_chain op_le op_lt od_le od_lt (de_int) (de_var (pv 1)) (de_callB call_len cd_len rfl T.z_len bb_len (da_cons (de_var (pv 0)) (da_nil))))) ?_ ?_
    · refine dss_one ?_
      exact (ds_raise (ps_raise rfl (takes_of rfl rfl rfl rfl) (pmk_oex T.ox_NoRow T.ix_NoRow T.tx_NoRow (ok_init_NoRow T) (hr.r.mono (by decide)) T.bx_NoRow .nil pass0 rfl T.k_NoRow (pa_cons (de_var (pv 1)) pa_nil))))
    · exact dss_nil
  refine dss_one ?_
  exact (ds_ret (de_ix ix_seq od_ix (de_call (ok_downs T) (hr.mono (by decide)) rfl T.d_downs.g T.d_downs.fn.kp T.d_downs.b (fun σ => passAt (takes_of rfl rfl rfl rfl) σ) (da_cons (de_slice sl_G sd_G (de_var (pv 0)) (do_none) (do_some (de_op op_addG od_add (de_var (pv 1)) (de_int)))) (da_nil))) (de_var (pv 1)) (by intro _ _; rfl)))
/-! ### hangs_on -/
theorem sc_hangs_on : FnScope ["rows", "some", "hung", "at", "part"] ["rows", "some"] (defScope (top 20)) := ⟨rfl, rfl, rfl, by decide +kernel, rfl, by decide +kernel, by decide +kernel⟩
def m_hangs_on (c : Nat → Addr) : SM := sSeq (sDrop (eCall (mf_need_rows c) (aCons (eVar 0) (aNil)))) (sSeq (sDrop (eCall (mf_need_some c) (aCons (eVar 0) (aCons (eVar 1) (aNil))))) (sSeq (sOwnR 2 (eOf lstF1 (aCons (eC (.bl false)) (aNil))) (eOf lenF (aCons (eVar 0) (aNil)))) (sSeq (sFor (b1 3) (iOf itemsF (eVar 1)) (sSetI 2 (eVar 3) (eC (.bl true)))) (sSeq (sFor (b1 3) (iOfA rev1F (aCons (eOf lenF (aCons (eVar 0) (aNil))) (aNil))) (sIf (mTru (eOp ixF (eVar 2) (eVar 3))) (sFor (b1 4) (iOf itemsF (eCall (mf_parts_of) (aCons (eOp ixF (eVar 0) (eVar 3)) (aNil)))) (sSetI 2 (eVar 4) (eC (.bl true)))) (sNext))) (fun ρ s => (sRet (eLc [3] 5 (c1 3) (iOfA rng1F (aCons (eOf lenF (aCons (eVar 0) (aNil))) (aNil))) (mTru (eOp ixF (eVar 2) (eVar 3))) (eVar 3))) (frz 2 ρ) s)))))
def mf_hangs_on (c : Nat → Addr) : FM := fnOf 5 2 (m_hangs_on c)
theorem ok_hangs_on (T : Fx K w mg base c P f fd) : FnG Pr w K mg base 7 (f 20) (fd 20) ["rows", "some"] (mf_hangs_on c) := Fun.okG T.d_hangs_on.fn sc_hangs_on fun cdv A outer s H E hr => by
  show PSs _ (defBody (top 20)) _
  refine dss_cons ?_ ?_
  · exact (ds_expr (de_call (ok_need_rows T) (hr.mono (by decide)) rfl T.d_need_rows.g T.d_need_rows.fn.kp T.d_need_rows.b (fun σ => passAt (takes_of rfl rfl rfl rfl) σ) (da_cons (de_var (pv 0)) (da_nil))))
  refine dss_cons ?_ ?_
  · exact (ds_expr (de_call (ok_need_some T) (hr.mono (by decide)) rfl T.d_need_some.g T.d_need_some.fn.kp T.d_need_some.b (fun σ => passAt (takes_of rfl rfl rfl rfl) σ) (da_cons (de_var (pv 0)) (da_cons (de_var (pv 1)) (da_nil)))))
  refine dss_cons ?_ ?_
  · exact (ds_ownR (ps_set (i := 2) sc_hangs_on.nd rfl (by first | exact Or.inl rfl | exact Or.inr rfl) (pe_op op_rep (de_lst (da_cons (de_bl) (da_nil))) (de_callB call_len cd_len rfl T.z_len bb_len (da_cons (de_var (pv 0)) (da_nil))))))
  refine dss_cons ?_ ?_
  · refine ds_for (passes_of rfl) rfl (di_any (de_var (pv 1))) (pg_name (i := 3) sc_hangs_on.nd rfl (by first | exact Or.inl rfl | exact Or.inr rfl)) (tgd_name 3) ?_
    refine dss_one ?_
    exact (ds_setI (ps_asg (de_bl) (pg_sub (pv 2) (de_var (pv 3)) set_list)))
  refine dss_cons ?_ ?_
  · refine ds_for (passes_of rfl) rfl (di_rev1 rfl T.z_reversed rfl T.z_range (de_callB call_len cd_len rfl T.z_len bb_len (da_cons (de_var (pv 0)) (da_nil)))) (pg_name (i := 3) sc_hangs_on.nd rfl (by first | exact Or.inl rfl | exact Or.inr rfl)) (tgd_name 3) ?_
    refine dss_one ?_
    refine ds_if (dt_val (de_ix ix_seq od_ix (de_var (pv 2)) (de_var (pv 3)) (by intro _ _; rfl))) ?_ ?_
    · refine dss_one ?_
      refine ds_for (passes_of rfl) rfl (di_any (de_call (ok_parts_of T) (hr.mono (by decide)) rfl T.d_parts_of.g T.d_parts_of.fn.kp T.d_parts_of.b (fun σ => passAt (takes_of rfl rfl rfl rfl) σ) (da_cons (de_ix ix_seq od_ix (de_var (pv 0)) (de_var (pv 3)) (by intro _ _; rfl)) (da_nil)))) (pg_name (i := 4) sc_hangs_on.nd rfl (by first | exact Or.inl rfl | exact Or.inr rfl)) (tgd_name 4) ?_
      refine dss_one ?_
      exact (ds_setI (ps_asg (de_bl) (pg_sub (pv 2) (de_var (pv 4)) set_list)))
    · exact dss_nil
  refine dss_one ?_
  exact (ds_frz 2 (ds_ret (de_lc (own := [("at", 3)]) (pe_lc (own := [("at", 3)]) rfl sc_hangs_on.nd (di_rng1 rfl T.z_range (da_cons (de_callB call_len cd_len rfl T.z_len bb_len (da_cons (de_var (pv 0)) (da_nil))) (da_nil))) (blkOk_by rfl) (fun _ _ _ _ _ => pg_name (i := 3) sc_hangs_on.nd rfl (by first | exact Or.inl rfl | exact Or.inr rfl)) (fun _ _ _ _ _ => dt_one (dt_val (de_ix ix_seq od_ix (de_var (pv 2)) (de_var (pv 3)) (by intro _ _; rfl)))) (fun _ _ _ _ _ => de_var (pv 3))) (tge_name 3))))
/-! ### showns -/
theorem sc_showns : FnScope ["rows", "some", "at"] ["rows", "some"] (defScope (top 21)) := ⟨rfl, rfl, rfl, by decide +kernel, rfl, by decide +kernel, by decide +kernel⟩
def m_showns (c : Nat → Addr) : SM := sRet (eLc [2] 3 (c1 2) (iOf itemsF (eCall (mf_hangs_on c) (aCons (eVar 0) (aCons (eVar 1) (aNil))))) (mBl (eOp eqG (eOp ixF (eOp ixF (eVar 0) (eVar 2)) (eC (.int 0))) (eC (.str "shown")))) (eVar 2))
def mf_showns (c : Nat → Addr) : FM := fnOf 3 2 (m_showns c)
theorem ok_showns (T : Fx K w mg base c P f fd) : FnG Pr w K mg base 8 (f 21) (fd 21) ["rows", "some"] (mf_showns c) := Fun.okG T.d_showns.fn sc_showns fun cdv A outer s H E hr => by
  show PSs _ (defBody (top 21)) _
  refine dss_one ?_
  exact (ds_ret (de_lc (own := [("at", 2)]) (pe_lc (own := [("at", 2)]) rfl sc_showns.nd (di_any (de_call (ok_hangs_on T) (hr.mono (by decide)) rfl T.d_hangs_on.g T.d_hangs_on.fn.kp T.d_hangs_on.b (fun σ => passAt (takes_of rfl rfl rfl rfl) σ) (da_cons (de_var (pv 0)) (da_cons (de_var (pv 1)) (da_nil))))) (blkOk_by rfl) (fun _ _ _ _ _ => pg_name (i := 2) sc_showns.nd rfl (by first | exact Or.inl rfl | exact Or.inr rfl)) (fun _ _ _ _ _ => dt_one (dt_cmp (op_eqG (hu64 hr)) od_eqG (de_ix ix_seq od_ix (de_ix ix_seq od_ix (de_var (pv 0)) (de_var (pv 2)) (by intro _ _; rfl)) (de_int) (by intro _ _; rfl)) (de_str) (by first | exact nomark _ | rfl | with_unfolding_all rfl))) (fun _ _ _ _ _ => de_var (pv 2))) (tge_name 2)))
/-! ### _law_pick -/
theorem sc__law_pick : FnScope ["draw", "menu"] ["draw", "menu"] (defScope (top 25)) := ⟨rfl, rfl, rfl, by decide +kernel, rfl, by decide +kernel, by decide +kernel⟩
def m__law_pick : SM := sRet (eOp ixF (eVar 1) (eCall (mf__law_take) (aCons (eVar 0) (aCons (eOf lenF (aCons (eVar 1) (aNil))) (aNil)))))
def mf__law_pick : FM := fnOf 2 2 (m__law_pick)
theorem ok__law_pick (T : Fx K w mg base c P f fd) : FnG Pr w K mg base 4 (f 25) (fd 25) ["draw", "menu"] (mf__law_pick) := Fun.okG T.d__law_pick.fn sc__law_pick fun cdv A outer s H E hr => by
  show PSs _ (defBody (top 25)) _
  refine dss_one ?_
  exact (ds_ret (de_ix ix_seq od_ix (de_var (pv 1)) (de_call (ok__law_take T) (hr.mono (by decide)) rfl T.d__law_take.g T.d__law_take.fn.kp T.d__law_take.b (fun σ => passAt (takes_of rfl rfl rfl rfl) σ) (da_cons (de_var (pv 0)) (da_cons (de_callB call_len cd_len rfl T.z_len bb_len (da_cons (de_var (pv 1)) (da_nil))) (da_nil)))) (by intro _ _; rfl)))
/-! ### _law_words -/
theorem sc__law_words : FnScope ["draw", "many", "signs", "found", "k", "word", "few", "sign", "j", "one"] ["draw", "many"] (defScope (top 26)) := ⟨rfl, rfl, rfl, by decide +kernel, rfl, by decide +kernel, by decide +kernel⟩
def m__law_words : SM := sSeq (sParO 2 3 (eC (.str "abcdefghijklmnopqrstuvwxyz"))) (sSeq (sFor (b1 4) (iOfA rng1F (aCons (eVar 1) (aNil))) (sSeq (sSet 5 (eCall (mf__law_pick) (aCons (eVar 0) (aCons (eOf lstF1 (aCons (eC (.str "c")) (aCons (eC (.str "d")) (aCons (eC (.str "shown")) (aCons (eC (.str "does")) (aCons (eC (.str "not")) (aCons (eC (.str "choose")) (aCons (eC (.str "false")) (aCons (eC (.str "moves")) (aCons (eC (.str "and")) (aCons (eC (.str "or")) (aCons (eC (.str "e")) (aCons (eC (.str "me")) (aNil)))))))))))))) (aNil))))) (sSeq (sIf (mBl (eOp eqG (eCall (mf__law_take) (aCons (eVar 0) (aCons (eC (.int 3)) (aNil)))) (eC (.int 0)))) (sSet 5 (eJoin (eC (.str "")) (eLc [8] 10 (c1 8) (iOfA rng1F (aCons (eOp addF (eC (.int 1)) (eCall (mf__law_take) (aCons (eVar 0) (aCons (eC (.int 8)) (aNil))))) (aNil))) (tYesD) (eCall (mf__law_pick) (aCons (eVar 0) (aCons (eVar 2) (aNil))))))) (sNext)) (sSeq (sSet 6 (eOp addF (eOf lstF1 (aCons (eVar 5) (aNil))) (eLc [7] 10 (c1 7) (iOf itemsF (eVar 2)) (tYesD) (eOp addF (eSl slF (eVar 5) (oNone) (oSome (eC (.int 7)))) (eVar 7))))) (sApp 3 (eOp ixF (eLc [9] 10 (c1 9) (iOf itemsF (eVar 6)) (mBl (eOp (inG true) (eVar 9) (eVar 3))) (eVar 9)) (eC (.int 0)))))))) (fun ρ s => (sRet (eVar 3)) (frz 3 ρ) s))
def mf__law_words : FM := fnOf 10 2 (m__law_words)
theorem ok__law_words (T : Fx K w mg base c P f fd) : FnG Pr w K mg base 5 (f 26) (fd 26) ["draw", "many"] (mf__law_words) := Fun.okG T.d__law_words.fn sc__law_words fun cdv A outer s H E hr => by
  show PSs _ (defBody (top 26)) _
  refine dss_cons ?_ ?_
  · exact (ds_tupO (ps_asg (pe_tup (pa_cons (de_str) (pa_cons (pe_lst pa_nil) pa_nil))) (pg_tup rfl (pgs_cons (pg_name (i := 2) sc__law_words.nd rfl (by first | exact Or.inl rfl | exact Or.inr rfl)) (pgs_cons (pg_name (i := 3) sc__law_words.nd rfl (by first | exact Or.inl rfl | exact Or.inr rfl)) (pgs_nil))))))
  refine dss_cons ?_ ?_
  · refine ds_for (passes_of rfl) rfl (di_rng1 rfl T.z_range (da_cons (de_var (pv 1)) (da_nil))) (pg_name (i := 4) sc__law_words.nd rfl (by first | exact Or.inl rfl | exact Or.inr rfl)) (tgd_name 4) ?_
    refine dss_cons ?_ ?_
    · exact (ds_set (i := 5) sc__law_words.nd rfl (by first | exact Or.inl rfl | exact Or.inr rfl) (de_call (ok__law_pick T) (hr.mono (by decide)) rfl T.d__law_pick.g T.d__law_pick.fn.kp T.d__law_pick.b (fun σ => passAt (takes_of rfl rfl rfl rfl) σ) (da_cons (de_var (pv 0)) (da_cons (de_lst (da_cons (de_str) (da_cons (de_str) (da_cons (de_str) (da_cons (de_str) (da_cons (de_str) (da_cons (de_str) (da_cons (de_str) (da_cons (de_str) (da_cons (de_str) (da_cons (de_str) (da_cons (de_str) (da_cons (de_str) (da_nil)))))))))))))) (da_nil)))))
    refine dss_cons ?_ ?_
    · refine ds_if (dt_cmp (op_eqG (hu64 hr)) od_eqG (de_call (ok__law_take T) (hr.mono (by decide)) rfl T.d__law_take.g T.d__law_take.fn.kp T.d__law_take.b (fun σ => passAt (takes_of rfl rfl rfl rfl) σ) (da_cons (de_var (pv 0)) (da_cons (de_int) (da_nil)))) (de_int) (by first | exact nomark _ | rfl | with_unfolding_all rfl)) ?_ ?_
      · refine dss_one ?_
        exact (ds_set (i := 5) sc__law_words.nd rfl (by first | exact Or.inl rfl | exact Or.inr rfl) (de_join (de_str) (de_lc (own := [("j", 8)]) (pe_lc (own := [("j", 8)]) rfl sc__law_words.nd (di_rng1 rfl T.z_range (da_cons (de_op op_addG od_add (de_int) (de_call (ok__law_take T) (hr.mono (by decide)) rfl T.d__law_take.g T.d__law_take.fn.kp T.d__law_take.b (fun σ => passAt (takes_of rfl rfl rfl rfl) σ) (da_cons (de_var (pv 0)) (da_cons (de_int) (da_nil))))) (da_nil))) (blkOk_by rfl) (fun _ _ _ _ _ => pg_name (i := 8) sc__law_words.nd rfl (by first | exact Or.inl rfl | exact Or.inr rfl)) (fun _ _ _ _ _ => dt_yes) (fun _ _ _ _ _ => de_call (ok__law_pick T) (hr.mono (by decide)) rfl T.d__law_pick.g T.d__law_pick.fn.kp T.d__law_pick.b (fun σ => passW0 σ) (da_cons (de_var (pv 0)) (da_cons (de_var (pv 2)) (da_nil))))) (tge_name 8))))
      · exact dss_nil
    refine dss_cons ?_ ?_
    · exact (ds_set (i := 6) sc__law_words.nd rfl (by first | exact Or.inl rfl | exact Or.inr rfl) (de_op op_addG od_add (de_lst (da_cons (de_var (pv 5)) (da_nil))) (de_lc (own := [("sign", 7)]) (pe_lc (own := [("sign", 7)]) rfl sc__law_words.nd (di_any (de_var (pv 2))) (blkOk_by rfl) (fun _ _ _ _ _ => pg_name (i := 7) sc__law_words.nd rfl (by first | exact Or.inl rfl | exact Or.inr rfl)) (fun _ _ _ _ _ => dt_yes) (fun _ _ _ _ _ => de_op op_addG od_add (de_slice sl_G sd_G (de_var (pv 5)) (do_none) (do_some (de_int))) (de_var (pv 7)))) (tge_name 7))))
    refine dss_one ?_
    exact (ds_app (ps_expr (pe_bm PySem.F.plainAttrs_list PySem.F.slot_list_append PySem.F.type_list_append mt_append (pv 3) (pa_cons (de_ix ix_seq od_ix (de_lc (own := [("one", 9)]) (pe_lc (own := [("one", 9)]) rfl sc__law_words.nd (di_any (de_var (pv 6))) (blkOk_by rfl) (fun _ _ _ _ _ => pg_name (i := 9) sc__law_words.nd rfl (by first | exact Or.inl rfl | exact Or.inr rfl)) (fun _ _ _ _ _ => dt_one (dt_cmp op_notInG od_notInG (de_var (pv 9)) (de_var (pv 3)) (by first | exact nomark _ | rfl | with_unfolding_all rfl))) (fun _ _ _ _ _ => de_var (pv 9))) (tge_name 9)) (de_int) (by intro _ _; rfl)) pa_nil))))
  refine dss_one ?_
  exact (ds_frz 3 (ds_ret (de_var (pv 3))))
/-! ### _law_lines -/
theorem sc__law_lines : FnScope ["draw", "many", "words", "highest", "found", "here", "kind", "i", "j", "inner"] ["draw", "many", "words", "highest"] (defScope (top 27)) := ⟨rfl, rfl, rfl, by decide +kernel, rfl, by decide +kernel, by decide +kernel⟩
def m__law_lines : SM := sSeq (sOwn 4 (aCons (eOf tupF1 (aCons (eC (.str "false")) (aNil))) (aNil))) (sSeq (sFor (b1 5) (iOfA rng2F (aCons (eC (.int 1)) (aCons (eVar 1) (aNil)))) (sSeq (sPar [6, 7, 8] (aCons (eCall (mf__law_take) (aCons (eVar 0) (aCons (eC (.int 8)) (aNil)))) (aCons (eCall (mf__law_take) (aCons (eVar 0) (aCons (eVar 5) (aNil)))) (aCons (eCall (mf__law_take) (aCons (eVar 0) (aCons (eVar 5) (aNil)))) (aNil))))) (sIf (mBl (eOp ltF (eVar 6) (eC (.int 2)))) (sApp 4 (eOf tupF1 (aCons (eC (.str "does")) (aCons (eCall (mf__law_pick) (aCons (eVar 0) (aCons (eOf lstF1 (aCons (eC (.int 0)) (aCons (eC (.int 1)) (aCons (eC (.int 1)) (aCons (eC (.int 2)) (aCons (eC (.int 3)) (aNil))))))) (aNil)))) (aCons (eCall (mf__law_pick) (aCons (eVar 0) (aCons (eVar 2) (aNil)))) (aNil)))))) (sIf (mBl (eOp ltF (eVar 6) (eC (.int 5)))) (sSeq (sSet 9 (eCall (mf__law_pick) (aCons (eVar 0) (aCons (eOf lstF1 (aCons (eVar 7) (aCons (eOp subF (eVar 5) (eC (.int 1))) (aNil)))) (aNil))))) (sApp 4 (eOf tupF1 (aCons (eC (.str "shown")) (aCons (eCall (mf__law_pick) (aCons (eVar 0) (aCons (eOf lstF1 (aCons (eC (.int 0)) (aCons (eC (.int 0)) (aCons (eC (.int 1)) (aCons (eCall (mf__law_take) (aCons (eVar 0) (aCons (eOp addF (eVar 3) (eC (.int 1))) (aNil)))) (aNil)))))) (aNil)))) (aCons (eVar 9) (aNil))))))) (sApp 4 (eOp ixF (eOf lstF1 (aCons (eOf tupF1 (aCons (eC (.str "not")) (aCons (eVar 7) (aNil)))) (aCons (eOf tupF1 (aCons (eC (.str "and")) (aCons (eVar 7) (aCons (eVar 8) (aNil))))) (aCons (eOf tupF1 (aCons (eC (.str "or")) (aCons (eVar 7) (aCons (eVar 8) (aNil))))) (aNil))))) (eOp subF (eVar 6) (eC (.int 5))))))))) (fun ρ s => (sRet (eVar 4)) (frz 4 ρ) s))
def mf__law_lines : FM := fnOf 10 4 (m__law_lines)
theorem ok__law_lines (T : Fx K w mg base c P f fd) : FnG Pr w K mg base 5 (f 27) (fd 27) ["draw", "many", "words", "highest"] (mf__law_lines) := Fun.okG T.d__law_lines.fn sc__law_lines fun cdv A outer s H E hr => by
  show PSs _ (defBody (top 27)) _
  refine dss_cons ?_ ?_
  · exact (ds_own (i := 4) sc__law_lines.nd rfl (by first | exact Or.inl rfl | exact Or.inr rfl) (da_cons (de_tup (da_cons (de_str) (da_nil))) (da_nil)))
  refine dss_cons ?_ ?_
  · refine ds_for (passes_of rfl) rfl (di_rng2 rfl T.z_range (da_cons (de_int) (da_cons (de_var (pv 1)) (da_nil)))) (pg_name (i := 5) sc__law_lines.nd rfl (by first | exact Or.inl rfl | exact Or.inr rfl)) (tgd_name 5) ?_
    refine dss_cons ?_ ?_
    · exact (ds_par3 (ps_par3 (i := 6) (j := 7) (l := 8) rfl sc__law_lines.nd rfl rfl rfl (by decide) (by decide) (by decide) rfl rfl rfl (da_cons (de_call (ok__law_take T) (hr.mono (by decide)) rfl T.d__law_take.g T.d__law_take.fn.kp T.d__law_take.b (fun σ => passAt (takes_of rfl rfl rfl rfl) σ) (da_cons (de_var (pv 0)) (da_cons (de_int) (da_nil)))) (da_cons (de_call (ok__law_take T) (hr.mono (by decide)) rfl T.d__law_take.g T.d__law_take.fn.kp T.d__law_take.b (fun σ => passAt (takes_of rfl rfl rfl rfl) σ) (da_cons (de_var (pv 0)) (da_cons (de_var (pv 5)) (da_nil)))) (da_cons (de_call (ok__law_take T) (hr.mono (by decide)) rfl T.d__law_take.g T.d__law_take.fn.kp T.d__law_take.b (fun σ => passAt (takes_of rfl rfl rfl rfl) σ) (da_cons (de_var (pv 0)) (da_cons (de_var (pv 5)) (da_nil)))) (da_nil)))) rfl))
    refine dss_one ?_
    refine ds_if (dt_cmp op_lt od_lt (de_var (pv 6)) (de_int) (by first | exact nomark _ | rfl | with_unfolding_all rfl)) ?_ ?_
    · refine dss_one ?_
      exact (ds_app (ps_expr (pe_bm PySem.F.plainAttrs_list PySem.F.slot_list_append PySem.F.type_list_append mt_append (pv 4) (pa_cons (de_tup (da_cons (de_str) (da_cons (de_call (ok__law_pick T) (hr.mono (by decide)) rfl T.d__law_pick.g T.d__law_pick.fn.kp T.d__law_pick.b (fun σ => passAt (takes_of rfl rfl rfl rfl) σ) (da_cons (de_var (pv 0)) (da_cons (de_lst (da_cons (de_int) (da_cons (de_int) (da_cons (de_int) (da_cons (de_int) (da_cons (de_int) (da_nil))))))) (da_nil)))) (da_cons (de_call (ok__law_pick T) (hr.mono (by decide)) rfl T.d__law_pick.g T.d__law_pick.fn.kp T.d__law_pick.b (fun σ => passAt (takes_of rfl rfl rfl rfl) σ) (da_cons (de_var (pv 0)) (da_cons (de_var (pv 2)) (da_nil)))) (da_nil))))) pa_nil))))
    · refine dss_one ?_
      refine ds_if (dt_cmp op_lt od_lt (de_var (pv 6)) (de_int) (by first | exact nomark _ | rfl | with_unfolding_all rfl)) ?_ ?_
      · refine dss_cons ?_ ?_
        · exact (ds_set (i := 9) sc__law_lines.nd rfl (by first | exact Or.inl rfl | exact Or.inr rfl) (de_call (ok__law_pick T) (hr.mono (by decide)) rfl T.d__law_pick.g T.d__law_pick.fn.kp T.d__law_pick.b (fun σ => passAt (takes_of rfl rfl rfl rfl) σ) (da_cons (de_var (pv 0)) (da_cons (de_lst (da_cons (de_var (pv 7)) (da_cons (de_op op_sub od_sub (de_var (pv 5)) (de_int)) (da_nil)))) (da_nil)))))
        refine dss_one ?_
        exact (ds_app (ps_expr (pe_bm PySem.F.plainAttrs_list PySem.F.slot_list_append PySem.F.type_list_append mt_append (pv 4) (pa_cons (de_tup (da_cons (de_str) (da_cons (de_call (ok__law_pick T) (hr.mono (by decide)) rfl T.d__law_pick.g T.d__law_pick.fn.kp T.d__law_pick.b (fun σ => passAt (takes_of rfl rfl rfl rfl) σ) (da_cons (de_var (pv 0)) (da_cons (de_lst (da_cons (de_int) (da_cons (de_int) (da_cons (de_int) (da_cons (de_call (ok__law_take T) (hr.mono (by decide)) rfl T.d__law_take.g T.d__law_take.fn.kp T.d__law_take.b (fun σ => passAt (takes_of rfl rfl rfl rfl) σ) (da_cons (de_var (pv 0)) (da_cons (de_op op_addG od_add (de_var (pv 3)) (de_int)) (da_nil)))) (da_nil)))))) (da_nil)))) (da_cons (de_var (pv 9)) (da_nil))))) pa_nil))))
      · refine dss_one ?_
        exact (ds_app (ps_expr (pe_bm PySem.F.plainAttrs_list PySem.F.slot_list_append PySem.F.type_list_append mt_append (pv 4) (pa_cons (de_ix ix_seq od_ix (de_lst (da_cons (de_tup (da_cons (de_str) (da_cons (de_var (pv 7)) (da_nil)))) (da_cons (de_tup (da_cons (de_str) (da_cons (de_var (pv 7)) (da_cons (de_var (pv 8)) (da_nil))))) (da_cons (de_tup (da_cons (de_str) (da_cons (de_var (pv 7)) (da_cons (de_var (pv 8)) (da_nil))))) (da_nil))))) (de_op op_sub od_sub (de_var (pv 6)) (de_int)) (by intro _ _; rfl)) pa_nil))))
  refine dss_one ?_
  exact (ds_frz 4 (ds_ret (de_var (pv 4))))
/-! ### _law_named -/
theorem sc__law_named : FnScope ["line"] ["line"] (defScope (top 28)) := ⟨rfl, rfl, rfl, by decide +kernel, rfl, by decide +kernel, by decide +kernel⟩
def m__law_named : SM := sSeq (sIf (mBl (eOp (inG false) (eOp ixF (eVar 0) (eC (.int 0))) (eOf tupF1 (aCons (eC (.str "false")) (aCons (eC (.str "does")) (aNil)))))) (sRet (eOf lstF1 (aNil))) (sNext)) (sRet (eIf (mBl (eOp eqG (eOp ixF (eVar 0) (eC (.int 0))) (eC (.str "shown")))) (eOf lstF1 (aCons (eOp ixF (eVar 0) (eC (.int 2))) (aNil))) (eOf listF (aCons (eSl slF (eVar 0) (oSome (eC (.int 1))) (oNone)) (aNil)))))
def mf__law_named : FM := fnOf 1 1 (m__law_named)
theorem ok__law_named (T : Fx K w mg base c P f fd) : FnG Pr w K mg base 3 (f 28) (fd 28) ["line"] (mf__law_named) := Fun.okG T.d__law_named.fn sc__law_named fun cdv A outer s H E hr => by
  show PSs _ (defBody (top 28)) _
  refine dss_cons ?_ ?_
  · refine ds_if (dt_cmp op_inG od_inG (de_ix ix_seq od_ix (de_var (pv 0)) (de_int) (by intro _ _; rfl)) (de_tup (da_cons (de_str) (da_cons (de_str) (da_nil)))) (by first | exact nomark _ | rfl | with_unfolding_all rfl)) ?_ ?_
    · refine dss_one ?_
      exact (ds_ret (de_lst (da_nil)))
    · exact dss_nil
  refine dss_one ?_
  exact (ds_ret (de_if (dt_cmp (op_eqG (hu64 hr)) od_eqG (de_ix ix_seq od_ix (de_var (pv 0)) (de_int) (by intro _ _; rfl)) (de_str) (by first | exact nomark _ | rfl | with_unfolding_all rfl)) (de_lst (da_cons (de_ix ix_seq od_ix (de_var (pv 0)) (de_int) (by intro _ _; rfl)) (da_nil))) (de_callTy call_list_of cd_list rfl T.z_list bt_list (da_cons (de_slice sl_G sd_G (de_var (pv 0)) (do_some (de_int)) (do_none)) (da_nil)))))
/-! ### _law_is_down -/
theorem sc__law_is_down : FnScope ["lines", "here", "line", "waiting", "met", "one"] ["lines", "here"] (defScope (top 29)) := ⟨rfl, rfl, rfl, by decide +kernel, rfl, by decide +kernel, by decide +kernel⟩
def m__law_is_down : SM := sSeq (sP3 2 3 4 (aNil) (aCons (eVar 1) (aNil))) (sSeq (sWhile 1000000 (mBl (eOp neG (eVar 3) (eOf lstF1 (aNil)))) (sSeq (sPop 5 3) (sSeq (sIf (mBl (eOp eqG (eOp ixF (eOp ixF (eVar 0) (eVar 5)) (eC (.int 0))) (eC (.str "does")))) (sRet (eC (.bl false))) (sNext)) (sSeq (sIf (mAnd (mBl (eOp (dinF true) (eVar 5) (eVar 4))) (mBl (eOp neG (eOp ixF (eOp ixF (eVar 0) (eVar 5)) (eC (.int 0))) (eC (.str "shown"))))) (sExt 3 (eCall (mf__law_named) (aCons (eOp ixF (eVar 0) (eVar 5)) (aNil)))) (sNext)) (sDSet 4 (eVar 5) (eC (.bl true))))))) (sRet (eC (.bl true))))
def mf__law_is_down : FM := fnOf 6 2 (m__law_is_down)
theorem ok__law_is_down (T : Fx K w mg base c P f fd) : FnG Pr w K mg base 4 (f 29) (fd 29) ["lines", "here"] (mf__law_is_down) := Fun.okG T.d__law_is_down.fn sc__law_is_down fun cdv A outer s H E hr => by
  show PSs _ (defBody (top 29)) _
  refine dss_cons ?_ ?_
  · exact (ds_q3 (ps_par3 (i := 2) (j := 3) (l := 4) rfl sc__law_is_down.nd rfl rfl rfl (by decide) (by decide) (by decide) rfl rfl rfl (pa_cons (pe_lst (da_nil)) (pa_cons (pe_lst (da_cons (de_var (pv 1)) (da_nil))) (pa_cons pe_dnewK pa_nil))) rfl))
  refine dss_cons ?_ ?_
  · refine ds_while (passes_of rfl) (dt_cmp (op_neG (hu64 hr)) od_neG (de_var (pv 3)) (de_lst (da_nil)) (by first | exact nomark _ | rfl | with_unfolding_all rfl)) ?_
    refine dss_cons ?_ ?_
    · exact (ds_pop (ps_set (i := 5) sc__law_is_down.nd rfl (by first | exact Or.inl rfl | exact Or.inr rfl) (pe_bm0 PySem.F.plainAttrs_list PySem.F.slot_list_pop PySem.F.type_list_pop mt_pop (pv 3))))
    refine dss_cons ?_ ?_
    · refine ds_if (dt_cmp (op_eqG (hu64 hr)) od_eqG (de_ix ix_seq od_ix (de_ix ix_seq od_ix (de_var (pv 0)) (de_var (pv 5)) (by intro _ _; rfl)) (de_int) (by intro _ _; rfl)) (de_str) (by first | exact nomark _ | rfl | with_unfolding_all rfl)) ?_ ?_
      · refine dss_one ?_
        exact (ds_ret (de_bl))
      · exact dss_nil
    refine dss_cons ?_ ?_
    · refine ds_if (PW.pt (dw_and (dt_dnotin (hu1 hr) (de_var (pv 5)) (de_var (pv 4))) (dw_and1 (dt_cmp (op_neG (hu64 hr)) od_neG (de_ix ix_seq od_ix (de_ix ix_seq od_ix (de_var (pv 0)) (de_var (pv 5)) (by intro _ _; rfl)) (de_int) (by intro _ _; rfl)) (de_str) (by first | exact nomark _ | rfl | with_unfolding_all rfl))))) ?_ ?_
      · refine dss_one ?_
        exact (ds_ext (ps_expr (pe_bm PySem.F.plainAttrs_list PySem.F.slot_list_extend PySem.F.type_list_extend mt_extend (pv 3) (pa_cons (de_call (ok__law_named T) (hr.mono (by decide)) rfl T.d__law_named.g T.d__law_named.fn.kp T.d__law_named.b (fun σ => passAt (takes_of rfl rfl rfl rfl) σ) (da_cons (de_ix ix_seq od_ix (de_var (pv 0)) (de_var (pv 5)) (by intro _ _; rfl)) (da_nil))) pa_nil))))
      · exact dss_nil
    refine dss_one ?_
    exact (ds_dset (ps_asg (de_bl) (pg_sub (pv 4) (de_var (pv 5)) (set_dict (hu1 hr)))))
  refine dss_one ?_
  exact (ds_ret (de_bl))
/-! ### _law_reached -/
theorem sc__law_reached : FnScope ["lines", "few", "met", "waiting", "one"] ["lines", "few"] (defScope (top 30)) := ⟨rfl, rfl, rfl, by decide +kernel, rfl, by decide +kernel, by decide +kernel⟩
def m__law_reached : SM := sSeq (sP2 2 3 (aCons (eVar 1) (aNil))) (sSeq (sWhile 1000000 (mBl (eOp neG (eVar 3) (eOf lstF1 (aNil)))) (sSeq (sPop 4 3) (sIf (mBl (eOp (dinF true) (eVar 4) (eVar 2))) (sSeq (sDSet 2 (eVar 4) (eC (.bl true))) (sExt 3 (eCall (mf__law_named) (aCons (eOp ixF (eVar 0) (eVar 4)) (aNil))))) (sNext)))) (fun ρ s => (sRet (eOf sortDF (aCons (eVar 2) (aNil)))) (frz 2 ρ) s))
def mf__law_reached : FM := fnOf 5 2 (m__law_reached)
theorem ok__law_reached (T : Fx K w mg base c P f fd) : FnG Pr w K mg base 4 (f 30) (fd 30) ["lines", "few"] (mf__law_reached) := Fun.okG T.d__law_reached.fn sc__law_reached fun cdv A outer s H E hr => by
  show PSs _ (defBody (top 30)) _
  refine dss_cons ?_ ?_
  · exact (ds_q2 (ps_par (i := 2) (j := 3) rfl sc__law_reached.nd rfl rfl (by decide) rfl rfl (pa_cons pe_dnewK (pa_cons (pe_callTy call_list_of rfl T.z_list bt_list (da_cons (de_var (pv 1)) (da_nil))) pa_nil)) rfl))
  refine dss_cons ?_ ?_
  · refine ds_while (passes_of rfl) (dt_cmp (op_neG (hu64 hr)) od_neG (de_var (pv 3)) (de_lst (da_nil)) (by first | exact nomark _ | rfl | with_unfolding_all rfl)) ?_
    refine dss_cons ?_ ?_
    · exact (ds_pop (ps_set (i := 4) sc__law_reached.nd rfl (by first | exact Or.inl rfl | exact Or.inr rfl) (pe_bm0 PySem.F.plainAttrs_list PySem.F.slot_list_pop PySem.F.type_list_pop mt_pop (pv 3))))
    refine dss_one ?_
    refine ds_if (dt_dnotin (hu1 hr) (de_var (pv 4)) (de_var (pv 2))) ?_ ?_
    · refine dss_cons ?_ ?_
      · exact (ds_dset (ps_asg (de_bl) (pg_sub (pv 2) (de_var (pv 4)) (set_dict (hu1 hr)))))
      refine dss_one ?_
      exact (ds_ext (ps_expr (pe_bm PySem.F.plainAttrs_list PySem.F.slot_list_extend PySem.F.type_list_extend mt_extend (pv 3) (pa_cons (de_call (ok__law_named T) (hr.mono (by decide)) rfl T.d__law_named.g T.d__law_named.fn.kp T.d__law_named.b (fun σ => passAt (takes_of rfl rfl rfl rfl) σ) (da_cons (de_ix ix_seq od_ix (de_var (pv 0)) (de_var (pv 4)) (by intro _ _; rfl)) (da_nil))) pa_nil))))
    · exact dss_nil
  refine dss_one ?_
  exact (ds_frz 2 (ds_ret (de_callB (call_sortedDI rfl) cd_sortD rfl T.z_sorted bb_sorted (da_cons (de_var (pv 2)) (da_nil)))))
/-! ### _law_told -/
theorem sc__law_told : FnScope ["work", "error", "found", "e"] ["work"] (defScope (top 31)) := ⟨rfl, rfl, rfl, by decide +kernel, rfl, by decide +kernel, by decide +kernel⟩
noncomputable def m__law_told (c : Nat → Addr) (l : LamD) (th : S → RE D) : SM := sSeq (sAsgT (bT [1, 2]) (eOf tupF1 (aCons (eC .non) (aCons (eC .non) (aNil))))) (sSeq (sTry (fun a => decide (a = c 2)) 3 1 (sSet 2 (eAct l th))) (sSeq (sIf (mBl (eOp isNF (eVar 1) (eC .non))) (sRet (eOf tupF1 (aCons (eC (.str "told")) (aCons (eVar 2) (aNil))))) (sNext)) (sRet (eOf tupF1 (aCons (eC (.str "refused")) (aCons (eIf (mTru (eOf (isaF (subC c)) (aCons (eVar 1) (aCons (eC (.cls (c 2))) (aNil))))) (eUn (xfF (fun a => decide (a = c 2)) "at") (eVar 1)) (eC (.str "other"))) (aNil)))))))
theorem ok__law_told (T : Fx K w mg base c P f fd) : FnT Pr w K mg base 9 "_law_told" "work" (top 31) (f 31) (fd 31) ["work", "error", "found", "e"] (m__law_told c) := ⟨T.d__law_told.fn, sc__law_told, rfl, Or.inl rfl, fun l th cdv A outer s H E hr act => by
  show PSs _ (defBody (top 31)) _
  refine dss_cons ?_ ?_
  · exact (ds_asgT (ps_asg (de_tup (da_cons (de_non) (da_cons (de_non) (da_nil)))) (pg_tup rfl (pgs_cons (pg_name (i := 1) sc__law_told.nd rfl (by first | exact Or.inl rfl | exact Or.inr rfl)) (pgs_cons (pg_name (i := 2) sc__law_told.nd rfl (by first | exact Or.inl rfl | exact Or.inr rfl)) (pgs_nil))))) (tgd_tup [1, 2]))
  refine dss_cons ?_ ?_
  · refine ds_try (i := 3) (j := 1) (c := .ref (c 1)) T.exm (ps_try_keep (tb := fun W => tS K W (sSet 2 (eAct l th))) (i := 3) (j := 1) rfl rfl rfl sc__law_told.nd rfl rfl rfl rfl (by decide) (by decide) ⟨rfl, by decide, Or.inl T.k_SightError⟩ (fun W pn xe tk hp => ?_))
    refine dss_one ?_
    exact (ds_set (i := 2) sc__law_told.nd rfl (by first | exact Or.inl rfl | exact Or.inr rfl) (act _ _ _ _ _ tk))
  refine dss_cons ?_ ?_
  · refine ds_if (dt_cmp op_isN od_isN (de_var (pv 1)) (de_non) (by first | exact nomark _ | rfl | with_unfolding_all rfl)) ?_ ?_
    · refine dss_one ?_
      exact (ds_ret (de_tup (da_cons (de_str) (da_cons (de_var (pv 2)) (da_nil)))))
    · exact dss_nil
  refine dss_one ?_
  exact (ds_ret (de_tup (da_cons (de_str) (da_cons (de_if (dt_val (de_callB call_isA (cd_isa T.sub) rfl T.z_isinstance bb_isinstance (da_cons (de_var (pv 1)) (da_cons (de_class rfl T.k_NoRow) (da_nil))))) (de_xf (C := fun a => decide (a = c 2)) T.xf_at (de_var (pv 1))) (de_str)) (da_nil)))))⟩
/-! ### _law_due -/
theorem sc__law_due : FnScope ["lines", "few", "place", "one", "met"] ["lines", "few"] (defScope (top 32)) := ⟨rfl, rfl, rfl, by decide +kernel, rfl, by decide +kernel, by decide +kernel⟩
def m__law_due : SM := sSeq (sIf (mNot (mTru (eOf isiF (aCons (eVar 1) (aCons (eOf tupF1 (aCons (eC (.ty "list")) (aCons (eC (.ty "tuple")) (aNil)))) (aNil)))))) (sRet (eOp mulF (eOf lstF1 (aCons (eOf tupF1 (aCons (eC (.str "refused")) (aCons (eC (.int 0)) (aNil)))) (aNil))) (eC (.int 2)))) (sNext)) (sSeq (sFor (bT [2, 3]) (iOf numdF (eVar 1)) (sIf (mOr (mNot (mTru (eOf isiF (aCons (eVar 3) (aCons (eC (.ty "int")) (aNil)))))) (mOr (mTru (eOf isiF (aCons (eVar 3) (aCons (eC (.ty "bool")) (aNil))))) (mNot (mBl (eChain leF ltF (eC (.int 0)) (eVar 3) (eOf lenF (aCons (eVar 0) (aNil)))))))) (sRet (eOp mulF (eOf lstF1 (aCons (eOf tupF1 (aCons (eC (.str "refused")) (aCons (eVar 2) (aNil)))) (aNil))) (eC (.int 2)))) (sNext))) (sSeq (sSet 4 (eCall (mf__law_reached) (aCons (eVar 0) (aCons (eVar 1) (aNil))))) (sRet (eOf lstF1 (aCons (eOf tupF1 (aCons (eC (.str "told")) (aCons (eVar 4) (aNil)))) (aCons (eOf tupF1 (aCons (eC (.str "told")) (aCons (eLc [3] 5 (c1 3) (iOf itemsF (eVar 4)) (mBl (eOp eqG (eOp ixF (eOp ixF (eVar 0) (eVar 3)) (eC (.int 0))) (eC (.str "shown")))) (eVar 3)) (aNil)))) (aNil)))))))
def mf__law_due : FM := fnOf 5 2 (m__law_due)
theorem ok__law_due (T : Fx K w mg base c P f fd) : FnG Pr w K mg base 5 (f 32) (fd 32) ["lines", "few"] (mf__law_due) := Fun.okG T.d__law_due.fn sc__law_due fun cdv A outer s H E hr => by
  show PSs _ (defBody (top 32)) _
  refine dss_cons ?_ ?_
  · refine ds_if (dt_not (dt_val (de_callB call_isG cd_is rfl T.z_isinstance bb_isinstance (da_cons (de_var (pv 1)) (da_cons (de_tup (da_cons (de_type rfl T.z_list bt_list) (da_cons (de_type rfl T.z_tuple bt_tuple) (da_nil)))) (da_nil)))))) ?_ ?_
    · refine dss_one ?_
      exact (ds_ret (de_op op_mulG od_mul (de_lst (da_cons (de_tup (da_cons (de_str) (da_cons (de_int) (da_nil)))) (da_nil))) (de_int)))
    · exact dss_nil
  refine dss_cons ?_ ?_
  · refine ds_for (passes_of rfl) rfl (di_enum rfl T.z_enumerate (de_var (pv 1))) (pg_tup rfl (pgs_cons (pg_name (i := 2) sc__law_due.nd rfl (by first | exact Or.inl rfl | exact Or.inr rfl)) (pgs_cons (pg_name (i := 3) sc__law_due.nd rfl (by first | exact Or.inl rfl | exact Or.inr rfl)) (pgs_nil)))) (tgd_tup [2, 3]) ?_
    refine dss_one ?_
    refine ds_if (PW.pt (dw_or (dt_not (dt_val (de_callB call_isG cd_is rfl T.z_isinstance bb_isinstance (da_cons (de_var (pv 3)) (da_cons (de_type rfl T.z_int bt_int) (da_nil)))))) (dw_or (dt_val (de_callB call_isG cd_is rfl T.z_isinstance bb_isinstance (da_cons (de_var (pv 3)) (da_cons (de_type rfl T.z_bool bt_bool) (da_nil))))) (dw_or1 (dt_not (dt_chain op_le op_lt od_le od_lt (de_int) (de_var (pv 3)) (de_callB call_len cd_len rfl T.z_len bb_len (da_cons (de_var (pv 0)) (da_nil))))))))) ?_ ?_
    · refine dss_one ?_
      exact (ds_ret (de_op op_mulG od_mul (de_lst (da_cons (de_tup (da_cons (de_str) (da_cons (de_var (pv 2)) (da_nil)))) (da_nil))) (de_int)))
    · exact dss_nil
  refine dss_cons ?_ ?_
  · exact (ds_set (i := 4) sc__law_due.nd rfl (by first | exact Or.inl rfl | exact Or.inr rfl) (de_call (ok__law_reached T) (hr.mono (by decide)) rfl T.d__law_reached.g T.d__law_reached.fn.kp T.d__law_reached.b (fun σ => passAt (takes_of rfl rfl rfl rfl) σ) (da_cons (de_var (pv 0)) (da_cons (de_var (pv 1)) (da_nil)))))
  refine dss_one ?_
  exact (ds_ret (de_lst (da_cons (de_tup (da_cons (de_str) (da_cons (de_var (pv 4)) (da_nil)))) (da_cons (de_tup (da_cons (de_str) (da_cons (de_lc (own := [("one", 3)]) (pe_lc (own := [("one", 3)]) rfl sc__law_due.nd (di_any (de_var (pv 4))) (blkOk_by rfl) (fun _ _ _ _ _ => pg_name (i := 3) sc__law_due.nd rfl (by first | exact Or.inl rfl | exact Or.inr rfl)) (fun _ _ _ _ _ => dt_one (dt_cmp (op_eqG (hu64 hr)) od_eqG (de_ix ix_seq od_ix (de_ix ix_seq od_ix (de_var (pv 0)) (de_var (pv 3)) (by intro _ _; rfl)) (de_int) (by intro _ _; rfl)) (de_str) (by first | exact nomark _ | rfl | with_unfolding_all rfl))) (fun _ _ _ _ _ => de_var (pv 3))) (tge_name 3)) (da_nil)))) (da_nil)))))
/-! ### _law_right -/
theorem sc__law_right : FnScope ["draw", "lines", "odd", "few", "copy", "found", "here", "due", "k"] ["draw", "lines"] (defScope (top 33)) := ⟨rfl, rfl, rfl, by decide +kernel, rfl, by decide +kernel, by decide +kernel⟩
noncomputable def m__law_right (c : Nat → Addr) (P : Nat → Addr) : SM := sSeq (sSet 2 (eOf lstF1 (aCons (eC .non) (aCons (eC (.bl true)) (aCons (eUn negF (eC (.int 1))) (aCons (eOf lenF (aCons (eVar 1) (aNil))) (aCons (eOp addF (eOf lenF (aCons (eVar 1) (aNil))) (eC (.int 5))) (aCons (eC (.str "0")) (aCons (eOf tupF1 (aCons (eC (.int 0)) (aNil))) (aCons (eOp powF (eC (.int 10)) (eC (.int 30))) (aNil))))))))))) (sSeq (sOwnLc 3 [8] 9 (c1 8) (iOfA rng1F (aCons (eCall (mf__law_take) (aCons (eVar 0) (aCons (eC (.int 5)) (aNil)))) (aNil))) (tYesD) (eCall (mf__law_take) (aCons (eVar 0) (aCons (eOf lenF (aCons (eVar 1) (aNil))) (aNil))))) (sSeq (sIf (mBl (eOp eqG (eCall (mf__law_take) (aCons (eVar 0) (aCons (eC (.int 4)) (aNil)))) (eC (.int 0)))) (sIns2 3 (eCall (mf__law_take) (aCons (eVar 0) (aCons (eOp addF (eOf lenF (aCons (eVar 3) (aNil))) (eC (.int 1))) (aNil)))) (eCall (mf__law_pick) (aCons (eVar 0) (aCons (eVar 2) (aNil))))) (sNext)) (sSeq (fun ρ s => (sSet 3 (eCall (mf__law_pick) (aCons (eVar 0) (aCons (eOf lstF1 (aCons (eVar 3) (aCons (eVar 3) (aCons (eVar 3) (aCons (eOf tupleF (aCons (eVar 3) (aNil))) (aCons (eCall (mf__law_pick) (aCons (eVar 0) (aCons (eOf lstF1 (aCons (eC .non) (aCons (eC (.int 5)) (aCons (eC (.dic [])) (aCons (eC (.str "0")) (aNil)))))) (aNil)))) (aNil))))))) (aNil))))) (frz 3 ρ) s) (sSeq (sSet 4 (eOf reprF (aCons (eOf tupF1 (aCons (eVar 3) (aCons (eVar 1) (aNil)))) (aNil)))) (sSeq (sOwn 5 (aCons (eToldD (P 33) "_law_right.<locals>.<lambda>" 4 (m__law_told c) (eCall (mf_hangs_on c) (aCons (eVar 1) (aCons (eVar 3) (aNil))))) (aNil))) (sSeq (sApp 5 (eToldD (P 33) "_law_right.<locals>.<lambda>" 4 (m__law_told c) (eCall (mf_showns c) (aCons (eVar 1) (aCons (eVar 3) (aNil)))))) (sSeq (sIf (mOr (mBl (eOp neG (eOf reprF (aCons (eVar 5) (aNil))) (eOf reprF (aCons (eCall (mf__law_due) (aCons (eVar 1) (aCons (eVar 3) (aNil)))) (aNil))))) (mBl (eOp neG (eOf reprF (aCons (eOf tupF1 (aCons (eVar 3) (aCons (eVar 1) (aNil)))) (aNil))) (eVar 4)))) (sRet (eC (.bl false))) (sNext)) (sSeq (sSet 6 (eCall (mf__law_pick) (aCons (eVar 0) (aCons (eOp addF (eVar 2) (eOp mulF (eOf rngLF (aCons (eOf lenF (aCons (eVar 1) (aNil))) (aNil))) (eC (.int 2)))) (aNil))))) (sSeq (sSet 7 (eOf tupF1 (aCons (eC (.str "refused")) (aCons (eIf (mAnd (mTru (eOf isiF (aCons (eVar 6) (aCons (eC (.ty "int")) (aNil))))) (mNot (mTru (eOf isiF (aCons (eVar 6) (aCons (eC (.ty "bool")) (aNil))))))) (eVar 6) (eC (.int 0))) (aNil))))) (sSeq (sIf (mAnd (mTru (eOf isiF (aCons (eVar 6) (aCons (eC (.ty "int")) (aNil))))) (mAnd (mNot (mTru (eOf isiF (aCons (eVar 6) (aCons (eC (.ty "bool")) (aNil)))))) (mBl (eChain leF ltF (eC (.int 0)) (eVar 6) (eOf lenF (aCons (eVar 1) (aNil))))))) (sSet 7 (eOf tupF1 (aCons (eC (.str "told")) (aCons (eCall (mf__law_is_down) (aCons (eVar 1) (aCons (eVar 6) (aNil)))) (aNil))))) (sNext)) (sRet (eOp eqG (eOf reprF (aCons (eToldD (P 33) "_law_right.<locals>.<lambda>" 4 (m__law_told c) (eCall (mf_looks_down c) (aCons (eVar 1) (aCons (eVar 6) (aNil))))) (aNil))) (eOf reprF (aCons (eVar 7) (aNil)))))))))))))))
noncomputable def mf__law_right (c : Nat → Addr) (P : Nat → Addr) : FM := fnOf 9 2 (m__law_right c P)
theorem ok__law_right (T : Fx K w mg base c P f fd) : FnG Pr w K mg base 13 (f 33) (fd 33) ["draw", "lines"] (mf__law_right c P) := Fun.okGc T.d__law_right.fn sc__law_right fun cdv A outer s H E hcd hr => by
  show PSs _ (defBody (top 33)) _
  refine dss_cons ?_ ?_
  · exact (ds_set (i := 2) sc__law_right.nd rfl (by first | exact Or.inl rfl | exact Or.inr rfl) (de_lst (da_cons (de_non) (da_cons (de_bl) (da_cons (de_neg (de_int)) (da_cons (de_callB call_len cd_len rfl T.z_len bb_len (da_cons (de_var (pv 1)) (da_nil))) (da_cons (de_op op_addG od_add (de_callB call_len cd_len rfl T.z_len bb_len (da_cons (de_var (pv 1)) (da_nil))) (de_int)) (da_cons (de_str) (da_cons (de_tup (da_cons (de_int) (da_nil))) (da_cons (de_op op_pow od_pow (de_int) (de_int)) (da_nil)))))))))))
  refine dss_cons ?_ ?_
  · refine ds_ownLc (vs := [8]) (ps_set (i := 3) sc__law_right.nd rfl (by first | exact Or.inl rfl | exact Or.inr rfl) (pe_lc (own := [("k", 8)]) rfl sc__law_right.nd (di_rng1 rfl T.z_range (da_cons (de_call (ok__law_take T) (hr.mono (by decide)) rfl T.d__law_take.g T.d__law_take.fn.kp T.d__law_take.b (fun σ => passAt (takes_of rfl rfl rfl rfl) σ) (da_cons (de_var (pv 0)) (da_cons (de_int) (da_nil)))) (da_nil))) (blkOk_by rfl) (fun _ _ _ _ _ => pg_name (i := 8) sc__law_right.nd rfl (by first | exact Or.inl rfl | exact Or.inr rfl)) (fun _ _ _ _ _ => dt_yes) (fun _ _ _ _ _ => de_call (ok__law_take T) (hr.mono (by decide)) rfl T.d__law_take.g T.d__law_take.fn.kp T.d__law_take.b (fun σ => passW0 σ) (da_cons (de_var (pv 0)) (da_cons (de_callB call_len cd_len rfl T.z_len bb_len (da_cons (de_var (pv 1)) (da_nil))) (da_nil)))))) (tge_name 8)
  refine dss_cons ?_ ?_
  · refine ds_if (dt_cmp (op_eqG (hu64 hr)) od_eqG (de_call (ok__law_take T) (hr.mono (by decide)) rfl T.d__law_take.g T.d__law_take.fn.kp T.d__law_take.b (fun σ => passAt (takes_of rfl rfl rfl rfl) σ) (da_cons (de_var (pv 0)) (da_cons (de_int) (da_nil)))) (de_int) (by first | exact nomark _ | rfl | with_unfolding_all rfl)) ?_ ?_
    · refine dss_one ?_
      exact (ds_ins2 (ps_expr (pe_bm PySem.F.plainAttrs_list PySem.F.slot_list_insert PySem.F.type_list_insert mt_insert (pv 3) (pa_cons (de_call (ok__law_take T) (hr.mono (by decide)) rfl T.d__law_take.g T.d__law_take.fn.kp T.d__law_take.b (fun σ => passAt (takes_of rfl rfl rfl rfl) σ) (da_cons (de_var (pv 0)) (da_cons (de_op op_addG od_add (de_callB call_len cd_len rfl T.z_len bb_len (da_cons (de_var (pv 3)) (da_nil))) (de_int)) (da_nil)))) (pa_cons (de_call (ok__law_pick T) (hr.mono (by decide)) rfl T.d__law_pick.g T.d__law_pick.fn.kp T.d__law_pick.b (fun σ => passAt (takes_of rfl rfl rfl rfl) σ) (da_cons (de_var (pv 0)) (da_cons (de_var (pv 2)) (da_nil)))) pa_nil)))))
    · exact dss_nil
  refine dss_cons ?_ ?_
  · exact (ds_frz 3 (ds_set (i := 3) sc__law_right.nd rfl (by first | exact Or.inl rfl | exact Or.inr rfl) (de_call (ok__law_pick T) (hr.mono (by decide)) rfl T.d__law_pick.g T.d__law_pick.fn.kp T.d__law_pick.b (fun σ => passAt (takes_of rfl rfl rfl rfl) σ) (da_cons (de_var (pv 0)) (da_cons (de_lst (da_cons (de_var (pv 3)) (da_cons (de_var (pv 3)) (da_cons (de_var (pv 3)) (da_cons (de_callTy call_tuple_of cd_tuple rfl T.z_tuple bt_tuple (da_cons (de_var (pv 3)) (da_nil))) (da_cons (de_call (ok__law_pick T) (hr.mono (by decide)) rfl T.d__law_pick.g T.d__law_pick.fn.kp T.d__law_pick.b (fun σ => passAt (takes_of rfl rfl rfl rfl) σ) (da_cons (de_var (pv 0)) (da_cons (de_lst (da_cons (de_non) (da_cons (de_int) (da_cons (de_dict0) (da_cons (de_str) (da_nil)))))) (da_nil)))) (da_nil))))))) (da_nil))))))
  refine dss_cons ?_ ?_
  · exact (ds_set (i := 4) sc__law_right.nd rfl (by first | exact Or.inl rfl | exact Or.inr rfl) (de_callB (call_reprG hr) cd_repr rfl T.z_repr bb_repr (da_cons (de_tup (da_cons (de_var (pv 3)) (da_cons (de_var (pv 1)) (da_nil)))) (da_nil))))
  refine dss_cons ?_ ?_
  · exact (ds_own (i := 5) sc__law_right.nd rfl (by first | exact Or.inl rfl | exact Or.inr rfl) (da_cons (de_toldD (T.tb__law_right) (by rw [hcd]; exact T.cd__law_right) ⟨⟨lamS_by (by rfl), rfl, rfl, fun _ _ _ => rfl⟩, fun _ _ _ _ _ _ _ hr => de_call (ok_hangs_on T) (hr.mono (by decide)) rfl T.d_hangs_on.g T.d_hangs_on.fn.kp T.d_hangs_on.b (fun σ => passAt (takes_of rfl rfl rfl rfl) σ) (da_cons (de_var (pv 1)) (da_cons (de_var (pv 3)) (da_nil)))⟩ rfl rfl rfl (ok__law_told T) (hr.mono (by decide)) rfl T.d__law_told.g T.d__law_told.fn.kp T.d__law_told.b (fun σ => passAt (takes_of rfl rfl rfl rfl) σ)) (da_nil)))
  refine dss_cons ?_ ?_
  · exact (ds_app (ps_expr (pe_bm PySem.F.plainAttrs_list PySem.F.slot_list_append PySem.F.type_list_append mt_append (pv 5) (pa_cons (de_toldD (T.tb__law_right) (by rw [hcd]; exact T.cd__law_right) ⟨⟨lamS_by (by rfl), rfl, rfl, fun _ _ _ => rfl⟩, fun _ _ _ _ _ _ _ hr => de_call (ok_showns T) (hr.mono (by decide)) rfl T.d_showns.g T.d_showns.fn.kp T.d_showns.b (fun σ => passAt (takes_of rfl rfl rfl rfl) σ) (da_cons (de_var (pv 1)) (da_cons (de_var (pv 3)) (da_nil)))⟩ rfl rfl rfl (ok__law_told T) (hr.mono (by decide)) rfl T.d__law_told.g T.d__law_told.fn.kp T.d__law_told.b (fun σ => passAt (takes_of rfl rfl rfl rfl) σ)) pa_nil))))
  refine dss_cons ?_ ?_
  · refine ds_if (PW.pt (dw_or (dt_cmp (op_neG (hu64 hr)) od_neG (de_callB (call_reprG hr) cd_repr rfl T.z_repr bb_repr (da_cons (de_var (pv 5)) (da_nil))) (de_callB (call_reprG hr) cd_repr rfl T.z_repr bb_repr (da_cons (de_call (ok__law_due T) (hr.mono (by decide)) rfl T.d__law_due.g T.d__law_due.fn.kp T.d__law_due.b (fun σ => passAt (takes_of rfl rfl rfl rfl) σ) (da_cons (de_var (pv 1)) (da_cons (de_var (pv 3)) (da_nil)))) (da_nil))) (by first | exact nomark _ | rfl | with_unfolding_all rfl)) (dw_or1 (dt_cmp (op_neG (hu64 hr)) od_neG (de_callB (call_reprG hr) cd_repr rfl T.z_repr bb_repr (da_cons (de_tup (da_cons (de_var (pv 3)) (da_cons (de_var (pv 1)) (da_nil)))) (da_nil))) (de_var (pv 4)) (by first | exact nomark _ | rfl | with_unfolding_all rfl))))) ?_ ?_
    · refine dss_one ?_
      exact (ds_ret (de_bl))
    · exact dss_nil
  refine dss_cons ?_ ?_
  · exact (ds_set (i := 6) sc__law_right.nd rfl (by first | exact Or.inl rfl | exact Or.inr rfl) (de_call (ok__law_pick T) (hr.mono (by decide)) rfl T.d__law_pick.g T.d__law_pick.fn.kp T.d__law_pick.b (fun σ => passAt (takes_of rfl rfl rfl rfl) σ) (da_cons (de_var (pv 0)) (da_cons (de_op op_addG od_add (de_var (pv 2)) (de_op op_mulG od_mul (de_listRg rfl T.z_list rfl T.z_range (de_callB call_len cd_len rfl T.z_len bb_len (da_cons (de_var (pv 1)) (da_nil)))) (de_int))) (da_nil)))))
  refine dss_cons ?_ ?_
  · exact (ds_set (i := 7) sc__law_right.nd rfl (by first | exact Or.inl rfl | exact Or.inr rfl) (de_tup (da_cons (de_str) (da_cons (de_if (PW.pt (dw_and (dt_val (de_callB call_isG cd_is rfl T.z_isinstance bb_isinstance (da_cons (de_var (pv 6)) (da_cons (de_type rfl T.z_int bt_int) (da_nil))))) (dw_and1 (dt_not (dt_val (de_callB call_isG cd_is rfl T.z_isinstance bb_isinstance (da_cons (de_var (pv 6)) (da_cons (de_type rfl T.z_bool bt_bool) (da_nil))))))))) (de_var (pv 6)) (de_int)) (da_nil)))))
  refine dss_cons ?_ ?_
  · refine ds_if (PW.pt (dw_and (dt_val (de_callB call_isG cd_is rfl T.z_isinstance bb_isinstance (da_cons (de_var (pv 6)) (da_cons (de_type rfl T.z_int bt_int) (da_nil))))) (dw_and (dt_not (dt_val (de_callB call_isG cd_is rfl T.z_isinstance bb_isinstance (da_cons (de_var (pv 6)) (da_cons (de_type rfl T.z_bool bt_bool) (da_nil)))))) (dw_and1 (dt_chain op_le op_lt od_le od_lt (de_int) (de_var (pv 6)) (de_callB call_len cd_len rfl T.z_len bb_len (da_cons (de_var (pv 1)) (da_nil)))))))) ?_ ?_
    · refine dss_one ?_
      exact (ds_set (i := 7) sc__law_right.nd rfl (by first | exact Or.inl rfl | exact Or.inr rfl) (de_tup (da_cons (de_str) (da_cons (de_call (ok__law_is_down T) (hr.mono (by decide)) rfl T.d__law_is_down.g T.d__law_is_down.fn.kp T.d__law_is_down.b (fun σ => passAt (takes_of rfl rfl rfl rfl) σ) (da_cons (de_var (pv 1)) (da_cons (de_var (pv 6)) (da_nil)))) (da_nil)))))
    · exact dss_nil
  refine dss_one ?_
  exact (ds_ret (de_cmp (op_eqG (hu64 hr)) od_eqG (de_callB (call_reprG hr) cd_repr rfl T.z_repr bb_repr (da_cons (de_toldD (T.tb__law_right) (by rw [hcd]; exact T.cd__law_right) ⟨⟨lamS_by (by rfl), rfl, rfl, fun _ _ _ => rfl⟩, fun _ _ _ _ _ _ _ hr => de_call (ok_looks_down T) (hr.mono (by decide)) rfl T.d_looks_down.g T.d_looks_down.fn.kp T.d_looks_down.b (fun σ => passAt (takes_of rfl rfl rfl rfl) σ) (da_cons (de_var (pv 1)) (da_cons (de_var (pv 6)) (da_nil)))⟩ rfl rfl rfl (ok__law_told T) (hr.mono (by decide)) rfl T.d__law_told.g T.d__law_told.fn.kp T.d__law_told.b (fun σ => passAt (takes_of rfl rfl rfl rfl) σ)) (da_nil))) (de_callB (call_reprG hr) cd_repr rfl T.z_repr bb_repr (da_cons (de_var (pv 7)) (da_nil))) (by first | exact nomark _ | rfl | with_unfolding_all rfl)))
/-! ### the law, behind its first row -/
theorem sc_law : FnScope ["script", "draw", "turn", "lines", "bad", "works", "chain", "work", "k"] ["script"] (defScope (top 34)) := ⟨rfl, rfl, rfl, by decide +kernel, rfl, by decide +kernel, by decide +kernel⟩
def tabL (c : Nat → Addr) (l0 l1 l2 : LamD) : Nat → Option (LamD × EM) := fun i => if i = 0 then some (l0, eCall (mf_looks_down c) (aCons (eVar 4) (aCons (eC (.str "0")) (aNil)))) else if i = 1 then some (l1, eCall (mf_hangs_on c) (aCons (eVar 4) (aCons (eC .non) (aNil)))) else if i = 2 then some (l2, eCall (mf_showns c) (aCons (eVar 4) (aCons (eOf lstF1 (aCons (eC (.int 0)) (aNil))) (aNil)))) else none
noncomputable def m_law (c P : Nat → Addr) (l0 l1 l2 : LamD) : SM := sSeq (sFor (b1 2) (iOfA rng1F (aCons (eOp addF (eC (.int 3)) (eOf min2F (aCons (eOf lenF (aCons (eVar 0) (aNil))) (aCons (eC (.int 12)) (aNil))))) (aNil))) (sSeq (sSet 3 (eCall (mf__law_lines) (aCons (eVar 1) (aCons (eOp addF (eC (.int 1)) (eCall (mf__law_take) (aCons (eVar 1) (aCons (eC (.int 20)) (aNil))))) (aCons (eCall (mf__law_words) (aCons (eVar 1) (aCons (eC (.int 3)) (aNil)))) (aCons (eC (.int 99)) (aNil))))))) (sSeq (sIf (mOr (mNot (mTru (eCall (mf__law_right c P) (aCons (eVar 1) (aCons (eVar 3) (aNil)))))) (mNot (mTru (eCall (mf__law_right c P) (aCons (eVar 1) (aCons (eOf tupleF (aCons (eVar 3) (aNil))) (aNil))))))) (sRet (eC (.bl false))) (sNext)) (sSeq (sSet 4 (eOp addF (eVar 3) (eOf lstF1 (aCons (eCall (mf__law_pick) (aCons (eVar 1) (aCons (eOf lstF1 (aCons (eC .non) (aCons (eOf tupF1 (aCons (eC (.str "not")) (aCons (eOf lenF (aCons (eVar 3) (aNil))) (aNil)))) (aCons (eOf tupF1 (aCons (eC (.str "does")) (aCons (eC (.int 4)) (aCons (eC (.str "c")) (aNil))))) (aCons (eOf lstF1 (aCons (eC (.str "false")) (aNil))) (aNil)))))) (aNil)))) (aNil))))) (sSeq (sOwn 5 (aCons (eLam (P 34) l0) (aNil))) (sSeq (sApp 5 (eLam (P 34) l1)) (sSeq (sApp 5 (eLam (P 34) l2)) (sIf (mBl (eOp neG (eLc [7] 9 (c1 7) (iOf itemsF (eVar 5)) (tYesD) (eTold 4 (m__law_told c) (tabL c l0 l1 l2) [7] (eVar 7))) (eOp mulF (eOf lstF1 (aCons (eOf tupF1 (aCons (eC (.str "refused")) (aCons (eOf lenF (aCons (eVar 3) (aNil))) (aNil)))) (aNil))) (eC (.int 3))))) (sRet (eC (.bl false))) (sNext))))))))) (sSeq (sSet 6 (eOp addF (eOp addF (eOf lstF1 (aCons (eOf tupF1 (aCons (eC (.str "does")) (aCons (eC (.int 1)) (aCons (eC (.str "c")) (aNil))))) (aNil))) (eLc [8] 9 (c1 8) (iOfA rng1F (aCons (eC (.int 1998)) (aNil))) (tYesD) (eOf tupF1 (aCons (eC (.str "not")) (aCons (eVar 8) (aNil)))))) (eOf lstF1 (aCons (eOf tupF1 (aCons (eC (.str "shown")) (aCons (eCall (mf__law_take) (aCons (eVar 1) (aCons (eC (.int 100)) (aNil)))) (aCons (eC (.int 1998)) (aNil))))) (aNil))))) (sSeq (sIf (mOr (mNot (mTru (eCall (mf_looks_down c) (aCons (eVar 6) (aCons (eC (.int 1999)) (aNil)))))) (mOr (mTru (eCall2 (mf_looks_down c) (aCons (eC (.int 1998)) (aCons (eVar 6) (aNil))))) (mBl (eOp neG (eCall (mf_showns c) (aCons (eVar 6) (aCons (eOf lstF1 (aCons (eC (.int 1999)) (aNil))) (aNil)))) (eOf lstF1 (aCons (eC (.int 1999)) (aNil))))))) (sRet (eC (.bl false))) (sNext)) (sRet (eOp eqG (eCall2 (mf_hangs_on c) (aCons (eOf tupF1 (aCons (eC (.int 1999)) (aCons (eC (.int 5)) (aCons (eC (.int 1999)) (aNil))))) (aCons (eVar 6) (aNil)))) (eOf rngLF (aCons (eC (.int 2000)) (aNil)))))))

end
end FL.K2
set_option Elab.async false
set_option linter.all false
set_option maxRecDepth 100000
set_option maxHeartbeats 4000000
namespace FL.K2
open PySem PySem.Spec PyProof.Rows L2 FL LamX
def inFor : Stmt → List Stmt
  | .For _ _ b _ _ => b
  | _ => []
def at_ (ss : List Stmt) (i : Nat) : Stmt := ss.getD i (.Pass ⟨0, 0, 0, 0⟩)
def lamOf : Stmt → Expr
  | .Assign _ (.List [e] _) _ => e
  | .Expr (.Call _ [e] _ _) _ => e
  | _ => default
def lam0 : Expr := lamOf (at_ (inFor (at_ (defBody (top 34)) 1)) 3)
def lam1 : Expr := lamOf (at_ (inFor (at_ (defBody (top 34)) 1)) 4)
def lam2 : Expr := lamOf (at_ (inFor (at_ (defBody (top 34)) 1)) 5)
def lamPr : Expr → Arguments
  | .Lambda a _ _ _ => a
  | _ => default
def lamBd : Expr → Expr
  | .Lambda _ b _ _ => b
  | _ => default
def lamSc : Expr → Scope
  | .Lambda _ _ s _ => s
  | _ => default
def lamL (X : Cx) (k : Nat) (e : Expr) : LamD := lamD X k (lamPr e) (lamBd e) (lamSc e)
/-- the tables of the two defs that make lambdas -/
def tbs (P : Nat → Addr) : List (Addr × Str) := [(P 33, "_law_right.<locals>.<lambda>"), (P 34, "law.<locals>.<lambda>")]
section
variable {Pr : Program} {w : World} {K : PySem.W.Frag} {mg : Str → Option Value} {base : Heap} {c P f : Nat → Addr} {fd : Nat → FuncData}
theorem law_rest (T : Fx K w mg base c P f fd) (cdv : Value) (A : Around) (outer : List PySem.Env) (s : Shared) (H : Hp) (E : XK) (hcd : cdv = (fd 34).code) (hr : Rm 13 (A.deeper (envOfC "law" (defScope (top 34)) s.heap.objs.size (f 34) cdv))) :
    PSs (cxOf (L2.CX Pr w) Pr w K mg base ["script", "draw", "turn", "lines", "bad", "works", "chain", "work", "k"] "law" (defScope (top 34)) (f 34) cdv A outer s H E) ((defBody (top 34)).drop 1) (tS K (fun c dd _ H => E c dd H) (m_law c P (lamL (cxOf (L2.CX Pr w) Pr w K mg base ["script", "draw", "turn", "lines", "bad", "works", "chain", "work", "k"] "law" (defScope (top 34)) (f 34) cdv A outer s H E) 0 lam0) (lamL (cxOf (L2.CX Pr w) Pr w K mg base ["script", "draw", "turn", "lines", "bad", "works", "chain", "work", "k"] "law" (defScope (top 34)) (f 34) cdv A outer s H E) 1 lam1) (lamL (cxOf (L2.CX Pr w) Pr w K mg base ["script", "draw", "turn", "lines", "bad", "works", "chain", "work", "k"] "law" (defScope (top 34)) (f 34) cdv A outer s H E) 2 lam2))) := by
  have hL : ∀ i l mb, tabL c (lamL (cxOf (L2.CX Pr w) Pr w K mg base ["script", "draw", "turn", "lines", "bad", "works", "chain", "work", "k"] "law" (defScope (top 34)) (f 34) cdv A outer s H E) 0 lam0) (lamL (cxOf (L2.CX Pr w) Pr w K mg base ["script", "draw", "turn", "lines", "bad", "works", "chain", "work", "k"] "law" (defScope (top 34)) (f 34) cdv A outer s H E) 1 lam1) (lamL (cxOf (L2.CX Pr w) Pr w K mg base ["script", "draw", "turn", "lines", "bad", "works", "chain", "work", "k"] "law" (defScope (top 34)) (f 34) cdv A outer s H E) 2 lam2) i = some (l, mb) → LamIs (cxOf (L2.CX Pr w) Pr w K mg base ["script", "draw", "turn", "lines", "bad", "works", "chain", "work", "k"] "law" (defScope (top 34)) (f 34) cdv A outer s H E) 8 l mb := fun i l mb e => by
    unfold tabL at e
    split at e
    · cases e
      refine ⟨⟨lamS_by (by rfl), rfl, rfl, fun _ _ _ => rfl⟩, fun _ _ _ _ _ _ _ hr => ?_⟩
      exact de_call (ok_looks_down T) (hr.mono (by decide)) rfl T.d_looks_down.g T.d_looks_down.fn.kp T.d_looks_down.b (fun σ => passAt (takes_of rfl rfl rfl rfl) σ) (da_cons (de_var (pv 4)) (da_cons (de_str) (da_nil)))
    · split at e
      · cases e
        refine ⟨⟨lamS_by (by rfl), rfl, rfl, fun _ _ _ => rfl⟩, fun _ _ _ _ _ _ _ hr => ?_⟩
        exact de_call (ok_hangs_on T) (hr.mono (by decide)) rfl T.d_hangs_on.g T.d_hangs_on.fn.kp T.d_hangs_on.b (fun σ => passAt (takes_of rfl rfl rfl rfl) σ) (da_cons (de_var (pv 4)) (da_cons (de_non) (da_nil)))
      · split at e
        · cases e
          refine ⟨⟨lamS_by (by rfl), rfl, rfl, fun _ _ _ => rfl⟩, fun _ _ _ _ _ _ _ hr => ?_⟩
          exact de_call (ok_showns T) (hr.mono (by decide)) rfl T.d_showns.g T.d_showns.fn.kp T.d_showns.b (fun σ => passAt (takes_of rfl rfl rfl rfl) σ) (da_cons (de_var (pv 4)) (da_cons (de_lst (da_cons (de_int) (da_nil))) (da_nil)))
        · cases e
  show PSs _ ((defBody (top 34)).drop 1) _
  refine dss_cons ?_ ?_
  · refine ds_for (passes_of rfl) rfl (di_rng1 rfl T.z_range (da_cons (de_op op_addG od_add (de_int) (de_callB (call_min2 rfl) cd_min2 rfl T.z_min bb_min (da_cons (de_callB call_len cd_len rfl T.z_len bb_len (da_cons (de_var (pv 0)) (da_nil))) (da_cons (de_int) (da_nil))))) (da_nil))) (pg_name (i := 2) sc_law.nd rfl (by first | exact Or.inl rfl | exact Or.inr rfl)) (tgd_name 2) ?_
    refine dss_cons ?_ ?_
    · exact (ds_set (i := 3) sc_law.nd rfl (by first | exact Or.inl rfl | exact Or.inr rfl) (de_call (ok__law_lines T) (hr.mono (by decide)) rfl T.d__law_lines.g T.d__law_lines.fn.kp T.d__law_lines.b (fun σ => passAt (takes_of rfl rfl rfl rfl) σ) (da_cons (de_var (pv 1)) (da_cons (de_op op_addG od_add (de_int) (de_call (ok__law_take T) (hr.mono (by decide)) rfl T.d__law_take.g T.d__law_take.fn.kp T.d__law_take.b (fun σ => passAt (takes_of rfl rfl rfl rfl) σ) (da_cons (de_var (pv 1)) (da_cons (de_int) (da_nil))))) (da_cons (de_call (ok__law_words T) (hr.mono (by decide)) rfl T.d__law_words.g T.d__law_words.fn.kp T.d__law_words.b (fun σ => passAt (takes_of rfl rfl rfl rfl) σ) (da_cons (de_var (pv 1)) (da_cons (de_int) (da_nil)))) (da_cons (de_int) (da_nil)))))))
    refine dss_cons ?_ ?_
    · refine ds_if (PW.pt (dw_or (dt_not (dt_val (de_call (ok__law_right T) (hr.mono (by decide)) rfl T.d__law_right.g T.d__law_right.fn.kp T.d__law_right.b (fun σ => passAt (takes_of rfl rfl rfl rfl) σ) (da_cons (de_var (pv 1)) (da_cons (de_var (pv 3)) (da_nil)))))) (dw_or1 (dt_not (dt_val (de_call (ok__law_right T) (hr.mono (by decide)) rfl T.d__law_right.g T.d__law_right.fn.kp T.d__law_right.b (fun σ => passAt (takes_of rfl rfl rfl rfl) σ) (da_cons (de_var (pv 1)) (da_cons (de_callTy call_tuple_of cd_tuple rfl T.z_tuple bt_tuple (da_cons (de_var (pv 3)) (da_nil))) (da_nil))))))))) ?_ ?_
      · refine dss_one ?_
        exact (ds_ret (de_bl))
      · exact dss_nil
    refine dss_cons ?_ ?_
    · exact (ds_set (i := 4) sc_law.nd rfl (by first | exact Or.inl rfl | exact Or.inr rfl) (de_op op_addG od_add (de_var (pv 3)) (de_lst (da_cons (de_call (ok__law_pick T) (hr.mono (by decide)) rfl T.d__law_pick.g T.d__law_pick.fn.kp T.d__law_pick.b (fun σ => passAt (takes_of rfl rfl rfl rfl) σ) (da_cons (de_var (pv 1)) (da_cons (de_lst (da_cons (de_non) (da_cons (de_tup (da_cons (de_str) (da_cons (de_callB call_len cd_len rfl T.z_len bb_len (da_cons (de_var (pv 3)) (da_nil))) (da_nil)))) (da_cons (de_tup (da_cons (de_str) (da_cons (de_int) (da_cons (de_str) (da_nil))))) (da_cons (de_lst (da_cons (de_str) (da_nil))) (da_nil)))))) (da_nil)))) (da_nil)))))
    refine dss_cons ?_ ?_
    · exact (ds_own (i := 5) sc_law.nd rfl (by first | exact Or.inl rfl | exact Or.inr rfl) (da_cons (de_lam (k := 0) T.tb_law (hcd.trans T.cd_law) (lamS_by (by rfl)) rfl) (da_nil)))
    refine dss_cons ?_ ?_
    · exact (ds_app (ps_expr (pe_bm PySem.F.plainAttrs_list PySem.F.slot_list_append PySem.F.type_list_append mt_append (pv 5) (pa_cons (de_lam (k := 1) T.tb_law (hcd.trans T.cd_law) (lamS_by (by rfl)) rfl) pa_nil))))
    refine dss_cons ?_ ?_
    · exact (ds_app (ps_expr (pe_bm PySem.F.plainAttrs_list PySem.F.slot_list_append PySem.F.type_list_append mt_append (pv 5) (pa_cons (de_lam (k := 2) T.tb_law (hcd.trans T.cd_law) (lamS_by (by rfl)) rfl) pa_nil))))
    refine dss_one ?_
    refine ds_if (dt_cmp (op_neG (hu64 hr)) od_neG (de_lcK (own := [("work", 7)]) (pe_lcK (own := [("work", 7)]) rfl sc_law.nd (di_any (de_var (pv 5))) (blkOk_by rfl) (fun _ _ _ _ _ => pg_name (i := 7) sc_law.nd rfl (by first | exact Or.inl rfl | exact Or.inr rfl)) (fun _ _ _ _ _ => dt_yes) (fun _ _ _ _ _ _ _ o => de_toldB (vs := [7]) o rfl (ok__law_told T) hL (hr.mono (by decide)) rfl T.d__law_told.g T.d__law_told.fn.kp T.d__law_told.b (de_var (pv 7)))) (tge_name 7)) (de_op op_mulG od_mul (de_lst (da_cons (de_tup (da_cons (de_str) (da_cons (de_callB call_len cd_len rfl T.z_len bb_len (da_cons (de_var (pv 3)) (da_nil))) (da_nil)))) (da_nil))) (de_int)) (by first | exact nomark _ | rfl | with_unfolding_all rfl)) ?_ ?_
    · refine dss_one ?_
      exact (ds_ret (de_bl))
    · exact dss_nil
  refine dss_cons ?_ ?_
  · exact (ds_set (i := 6) sc_law.nd rfl (by first | exact Or.inl rfl | exact Or.inr rfl) (de_op op_addG od_add (de_op op_addG od_add (de_lst (da_cons (de_tup (da_cons (de_str) (da_cons (de_int) (da_cons (de_str) (da_nil))))) (da_nil))) (de_lc (own := [("k", 8)]) (pe_lc (own := [("k", 8)]) rfl sc_law.nd (di_rng1 rfl T.z_range (da_cons (de_int) (da_nil))) (blkOk_by rfl) (fun _ _ _ _ _ => pg_name (i := 8) sc_law.nd rfl (by first | exact Or.inl rfl | exact Or.inr rfl)) (fun _ _ _ _ _ => dt_yes) (fun _ _ _ _ _ => de_tup (da_cons (de_str) (da_cons (de_var (pv 8)) (da_nil))))) (tge_name 8))) (de_lst (da_cons (de_tup (da_cons (de_str) (da_cons (de_call (ok__law_take T) (hr.mono (by decide)) rfl T.d__law_take.g T.d__law_take.fn.kp T.d__law_take.b (fun σ => passAt (takes_of rfl rfl rfl rfl) σ) (da_cons (de_var (pv 1)) (da_cons (de_int) (da_nil)))) (da_cons (de_int) (da_nil))))) (da_nil)))))
  refine dss_cons ?_ ?_
  · refine ds_if (PW.pt (dw_or (dt_not (dt_val (de_call (ok_looks_down T) (hr.mono (by decide)) rfl T.d_looks_down.g T.d_looks_down.fn.kp T.d_looks_down.b (fun σ => passAt (takes_of rfl rfl rfl rfl) σ) (da_cons (de_var (pv 6)) (da_cons (de_int) (da_nil)))))) (dw_or (dt_val (de_callK2 (k1 := "at") (k2 := "rows") (ok_looks_down T) (hr.mono (by decide)) rfl T.d_looks_down.g T.d_looks_down.fn.kp (fun s u v => T.kc_looks_down s u v) (fun σ => passAt (takes_of rfl rfl rfl rfl) σ) (dk_cons (de_int) (dk_cons (de_var (pv 6)) (dk_nil))))) (dw_or1 (dt_cmp (op_neG (hu64 hr)) od_neG (de_callK (ks := ["rows", "some"]) (ok_showns T) (hr.mono (by decide)) rfl T.d_showns.g T.d_showns.fn.kp (fun s us _ hl => T.kb_showns s us hl) (fun σ => passAt (takes_of rfl rfl rfl rfl) σ) (dk_cons (de_var (pv 6)) (dk_cons (de_lst (da_cons (de_int) (da_nil))) (dk_nil)))) (de_lst (da_cons (de_int) (da_nil))) (by first | exact nomark _ | rfl | with_unfolding_all rfl)))))) ?_ ?_
    · refine dss_one ?_
      exact (ds_ret (de_bl))
    · exact dss_nil
  refine dss_one ?_
  exact (ds_ret (de_cmp (op_eqG (hu64 hr)) od_eqG (de_callK2 (k1 := "some") (k2 := "rows") (ok_hangs_on T) (hr.mono (by decide)) rfl T.d_hangs_on.g T.d_hangs_on.fn.kp (fun s u v => T.kc_hangs_on s u v) (fun σ => passAt (takes_of rfl rfl rfl rfl) σ) (dk_cons (de_tup (da_cons (de_int) (da_cons (de_int) (da_cons (de_int) (da_nil))))) (dk_cons (de_var (pv 6)) (dk_nil)))) (de_listRg rfl T.z_list rfl T.z_range (de_int)) (by first | exact nomark _ | rfl | with_unfolding_all rfl)))
end
end FL.K2
set_option Elab.async false
set_option linter.all false
set_option maxRecDepth 100000
set_option maxHeartbeats 1000000
namespace FL.K2
open PySem PySem.Spec PyProof.Rows L2 FL
def numB : D → Bool
  | .int _ => true
  | _ => false
theorem is_number_run {d : D} (h : (tyOf d).isSome = true) (s : S) : mf_is_number [d] s = .ok (.bl (numB d)) s := by
  cases d <;> first | rfl | cases h
def belowB (d : D) (n : Int) : Bool := match d with
  | .int i => decide (0 ≤ i) && decide (i < n)
  | _ => false
theorem is_below_run {d : D} {n : Int} (h : (tyOf d).isSome = true) (s : S) : mf_is_below [d, .int n] s = .ok (.bl (belowB d n)) s := by
  refine fn_rt rfl ?_
  have e := is_number_run h s
  cases d with
  | int i =>
    unfold m_is_below
    simp [runD, e, numB, leF, ltF, intF, belowB]
    by_cases h0 : 0 ≤ i <;> simp [h0]
  | _ => first | rfl | cases h

/-! ### words -/
def lett : Str := "abcdefghijklmnopqrstuvwxyz"
def wordB : D → Bool
  | .str z => (decide (1 ≤ (z.length : Int)) && decide ((z.length : Int) ≤ 8)) && z.cps.toList.all fun c => decide (c ∈ lett.cps.toList)
  | _ => false
/-- a text that may be handed about -/
def txt (z : Str) : Prop := z.length ≤ 100 ∧ z.cps.toList.all (fun c => decide (c < 128)) = true
theorem line100 {n : Nat} (h : n ≤ 100) : n ≤ sizeLine := Nat.le_trans h (by rw [sizeLine_eq]; decide)
theorem in_sign (c : Nat) (w : Str) : inG false (.str ⟨#[c]⟩) (.str w) = some (.bl (decide (c ∈ w.cps.toList))) := rfl
theorem nin_sign (c : Nat) (w : Str) : inG true (.str ⟨#[c]⟩) (.str w) = some (.bl (!decide (c ∈ w.cps.toList))) := rfl
def sg (c : Nat) : D := .str ⟨#[c]⟩
theorem bools_map (f : Nat → Bool) : ∀ l : List Nat, bools (l.map fun c => .bl (f c)) = some (l.map f)
  | [] => rfl
  | c :: l => by
    show (bools (l.map fun c => .bl (f c))).map (f c :: ·) = _
    rw [bools_map f l]
    rfl
theorem all_word (l : List Nat) (h : l.length ≤ sizeLine) (s : S) (o : Option D) : eOf allF (aCons (eLc [1] 2 (c1 1) (iOf itemsF (eVar 0)) tYesD (eOp (inG false) (eVar 1) (eC (.str lett)))) aNil) [some (.str ⟨l.toArray⟩), o] s = .ok (.bl (l.all fun c => decide (c ∈ lett.cps.toList))) s := by
  have e : lcL (c1 1) tYesD (eOp (inG false) (eVar 1) (eC (.str lett))) [some (.str ⟨l.toArray⟩), none] (l.map sg) s = .ok ((l.map sg).map fun d => match d with | .str z => (match z.cps.toList with | [c] => .bl (decide (c ∈ lett.cps.toList)) | _ => d) | d => d) s :=
    lcL_map fun d hd => by
      obtain ⟨c, _, rfl⟩ := List.mem_map.mp hd
      exact ⟨_, rfl, rfl, rfl⟩
  have e2 : (eLc [1] 2 (c1 1) (iOf itemsF (eVar 0)) tYesD (eOp (inG false) (eVar 1) (eC (.str lett)))) [some (.str ⟨l.toArray⟩), o] s = .ok (.lst (l.map fun c => .bl (decide (c ∈ lett.cps.toList)))) s := by
    show lcR (lcL (c1 1) tYesD (eOp (inG false) (eVar 1) (eC (.str lett))) [some (.str ⟨l.toArray⟩), none] (l.map sg) s) = _
    rw [e, List.map_map]
    show (if (l.map _).length ≤ sizeLine then RE.ok (D.lst (l.map _)) s else .bad) = _
    rw [if_pos (by rw [List.length_map]; exact h)]
    rfl
  rw [eOf_run, aCons_run, e2]
  show lift ((bools (l.map fun c => D.bl (decide (c ∈ lett.cps.toList)))).map fun bs => D.bl (bs.all id)) s = _
  rw [bools_map (fun c => decide (c ∈ lett.cps.toList))]
  rw [Option.map_some, lift_some]
  rw [List.all_map]
  rfl
theorem is_move_run {d : D} (h : (tyOf d).isSome = true) (hz : ∀ z, d = .str z → txt z) (s : S) : mf_is_move [d] s = .ok (.bl (wordB d)) s := by
  refine fn_rt rfl ?_
  cases d with
  | str z =>
    obtain ⟨⟨l⟩⟩ := z
    have hl : (⟨⟨l⟩⟩ : Str).length ≤ 100 := (hz _ rfl).1
    have hl2 := line100 hl
    have hl3 : l.length ≤ sizeLine := hl2
    have aw := all_word l hl3 s none
    have e1 : (⟨l.toArray⟩ : Str) = ⟨⟨l⟩⟩ := rfl
    rw [e1] at aw
    have e0 : eOf isiF (aCons (eVar 0) (aCons (eC (.ty "str")) aNil)) [some (.str ⟨⟨l⟩⟩), none] s = .ok (.bl true) s := rfl
    have lenE : lenF [D.str ⟨⟨l⟩⟩] = some (.int ((⟨⟨l⟩⟩ : Str).length)) := if_pos hl2
    have out : ∀ b, runT (mOr (mNot (mTru (eOf isiF (aCons (eVar 0) (aCons (eC (.ty "str")) (aNil)))))) (mNot (mBl (eChain leF leF (eC (.int 1)) (eOf lenF (aCons (eVar 0) (aNil))) (eC (.int 8)))))) [some (.dat (.str ⟨⟨l⟩⟩)), none] s = .ok b s →
        (b = true → wordB (.str ⟨⟨l⟩⟩) = false) → (b = false → wordB (.str ⟨⟨l⟩⟩) = l.all fun c => decide (c ∈ lett.cps.toList)) → m_is_move [some (.dat (.str ⟨⟨l⟩⟩)), none] s = .rt (.bl (wordB (.str ⟨⟨l⟩⟩))) s := fun b t k1 k2 => by
      unfold m_is_move
      rw [sSeq_run, sIf_run, t]
      cases b with
      | true => rw [k1 rfl]; rfl
      | false =>
        show sRet _ [some (.dat (.str ⟨⟨l⟩⟩)), none] s = _
        rw [sRet_run, runD_ok aw, k2 rfl]
        rfl
    show m_is_move [some (.dat (.str ⟨⟨l⟩⟩)), none] s = _
    by_cases h1 : (1 : Int) ≤ ((⟨⟨l⟩⟩ : Str).length : Int)
    · by_cases h2 : ((⟨⟨l⟩⟩ : Str).length : Int) ≤ 8
      · exact out false (runT_ok (by simp [lenE, leF, intF, h1, h2, isiF, tyOf, tyTab, isT, truD])) (fun z => by cases z) fun _ => by simp [wordB, h1, h2]
      · exact out true (runT_ok (by simp [lenE, leF, intF, h1, h2, isiF, tyOf, tyTab, isT, truD])) (fun _ => by simp [wordB, h2]) fun z => by cases z
    · exact out true (runT_ok (by simp [lenE, leF, intF, h1, isiF, tyOf, tyTab, isT, truD])) (fun _ => by simp [wordB, h1]) fun z => by cases z
  | _ => first | rfl | cases h

/-! ### plain data, to the library -/
theorem toPs_sg : ∀ l : List Nat, toPs (l.map sg) = some (l.map fun c => PyData.str ⟨#[c]⟩)
  | [] => rfl
  | c :: l => by
    rw [List.map_cons]
    unfold toPs
    rw [toPs_sg l]
    rfl
theorem lay_sg : ∀ l : List Nat, l.all (fun c => decide (c < 128)) = true → PyData.canLayAll0 (l.map fun c => PyData.str ⟨#[c]⟩) = true
  | [], _ => rfl
  | c :: l, h => by
    rw [List.all_cons, Bool.and_eq_true] at h
    have hc : c < 128 := of_decide_eq_true h.1
    rw [List.map_cons]
    unfold PyData.canLayAll0
    rw [lay_sg l h.2, Bool.and_true]
    show PyData.strOk ⟨#[c]⟩ = true
    unfold PyData.strOk
    simp
    omega
theorem depth_sg : ∀ l : List Nat, PyData.depthAll (l.map fun c => PyData.str ⟨#[c]⟩) = 0
  | [] => rfl
  | c :: l => by
    rw [List.map_cons]
    unfold PyData.depthAll
    rw [depth_sg l]
    rfl
theorem sg_nil (l : List Nat) (h : l.all (fun c => decide (c < 128)) = true) : eqG (.lst (l.map sg)) (.lst []) = some (.bl l.isEmpty) := by
  have h1 : toP (.lst (l.map sg)) = some (.list (l.map fun c => PyData.str ⟨#[c]⟩)) := by
    unfold toP
    rw [toPs_sg]
    rfl
  have h2 : toP (.lst []) = some (.list []) := rfl
  have e0 : scF (.lst (l.map sg)) (.lst []) = none := rfl
  have sh : SeqAt.shaped (.list (l.map fun c => PyData.str ⟨#[c]⟩)) = true := by
    unfold SeqAt.shaped
    rw [Bool.and_eq_true]
    refine ⟨?_, decide_eq_true ?_⟩
    · unfold PyData.canLay0
      exact lay_sg l h
    · unfold PyData.depth
      rw [depth_sg]
      decide
  unfold eqG orF
  rw [e0]
  unfold eqF
  rw [h1, h2]
  dsimp only
  rw [if_pos ⟨sh, rfl⟩]
  cases l with
  | nil => rfl
  | cons a b => rfl
theorem filter_sg (p : Nat → Bool) (l : List Nat) (s : S) (o : Option D) (h : l.length ≤ sizeLine) : (eLc [1] 2 (c1 1) (iOf itemsF (eVar 0)) (mBl (eOp (inG true) (eVar 1) (eC (.str lett)))) (eVar 1)) [some (.str ⟨l.toArray⟩), o] s = .ok (.lst ((l.filter fun c => !decide (c ∈ lett.cps.toList)).map sg)) s := by
  have e : lcL (c1 1) (mBl (eOp (inG true) (eVar 1) (eC (.str lett)))) (eVar 1) [some (.str ⟨l.toArray⟩), none] (l.map sg) s = .ok (((l.map sg).filter fun d => match d with | .str z => (match z.cps.toList with | [c] => !decide (c ∈ lett.cps.toList) | _ => true) | _ => true).map id) s :=
    lcL_filter fun d hd => by
      obtain ⟨c, _, rfl⟩ := List.mem_map.mp hd
      exact ⟨_, rfl, rfl, fun _ => rfl⟩
  show lcR (lcL (c1 1) (mBl (eOp (inG true) (eVar 1) (eC (.str lett)))) (eVar 1) [some (.str ⟨l.toArray⟩), none] (l.map sg) s) = _
  rw [e, List.map_id, List.filter_map]
  show (if (List.map sg (l.filter fun c => !decide (c ∈ lett.cps.toList))).length ≤ sizeLine then RE.ok (D.lst (List.map sg (l.filter fun c => !decide (c ∈ lett.cps.toList)))) s else .bad) = _
  rw [if_pos]
  rw [List.length_map]
  exact Nat.le_trans (List.length_filter_le _ _) h
theorem all_not (l : List Nat) (p : Nat → Bool) : (l.filter fun c => !p c).isEmpty = l.all p := by
  induction l with
  | nil => rfl
  | cons a l ih =>
    rw [List.filter_cons, List.all_cons]
    cases p a with
    | true => simpa using ih
    | false => rfl
theorem all_filter (l : List Nat) (p q : Nat → Bool) (h : l.all p = true) : (l.filter q).all p = true := by
  rw [List.all_eq_true] at h ⊢
  exact fun x hx => h x (List.mem_filter.mp hx).1
end FL.K2
set_option Elab.async false
set_option linter.all false
set_option maxRecDepth 100000
set_option maxHeartbeats 4000000
namespace FL.K2
open PySem PySem.Spec PyProof.Rows L2 FL
def el (x : D) : Prop := (tyOf x).isSome = true ∧ ∀ z, x = .str z → txt z
theorem sl0 : (0 ≤ sizeLine) = True := by simp
theorem sl1 : (1 ≤ sizeLine) = True := by rw [sizeLine_eq]; simp
theorem sl2 : (2 ≤ sizeLine) = True := by rw [sizeLine_eq]; simp
theorem sl3 : (3 ≤ sizeLine) = True := by rw [sizeLine_eq]; simp
theorem sl4 : (4 ≤ sizeLine) = True := by rw [sizeLine_eq]; simp
theorem parts_shown (a b : D) (s : S) : mf_parts_of [.tup [.str "shown", a, b]] s = .ok (.tup [b]) s := by
  refine fn_rt rfl ?_
  rfl
theorem parts_not (a : D) (s : S) : mf_parts_of [.tup [.str "not", a]] s = .ok (.tup [a]) s := by
  refine fn_rt rfl ?_
  rfl
theorem parts_and (a b : D) (s : S) : mf_parts_of [.tup [.str "and", a, b]] s = .ok (.tup [a, b]) s := by
  refine fn_rt rfl ?_
  rfl
theorem parts_or (a b : D) (s : S) : mf_parts_of [.tup [.str "or", a, b]] s = .ok (.tup [a, b]) s := by
  refine fn_rt rfl ?_
  rfl
theorem parts_false (s : S) : mf_parts_of [.tup [.str "false"]] s = .ok (.tup []) s := by
  refine fn_rt rfl ?_
  rfl
def slo (d : D) (n : Int) : Sls := [some (.dat d), some (.dat (.int n)), none, none]
def rDoes : EM := eAnd (eCall (mf_is_below) (aCons (eOp ixF (eVar 0) (eC (.int 1))) (aCons (eOp addF (eC (.int 3)) (eC (.int 1))) (aNil)))) (eCall (mf_is_move) (aCons (eOp ixF (eVar 0) (eC (.int 2))) (aNil)))
theorem row_does {a b : D} (ha : el a) (hb : el b) (n : Int) (s : S) : m_is_row (slo (.tup [.str "does", a, b]) n) s = .rt (.bl (belowB a 4 && wordB b)) s := by
  have e1 := is_below_run (n := 4) ha.1 s
  have e2 := is_move_run hb.1 hb.2 s
  have e3 : rDoes [some (.tup [.str "does", a, b]), some (.int n), some (.str "does"), none] s = .ok (.bl (belowB a 4 && wordB b)) s := by
    show ((mf_is_below [a, .int 4] s).bind fun x s1 => match x with | .bl true => mf_is_move [b] s1 | .bl false => .ok (.bl false) s1 | _ => .bad) = _
    rw [e1]
    cases belowB a 4 with
    | true => exact e2
    | false => rfl
  obtain ⟨mR, e4⟩ : ∃ mR, m_is_row (slo (.tup [.str "does", a, b]) n) s = sSeq (sIf (mBl (eOp eqG (eVar 2) (eC (.str "does")))) (sRet rDoes) sNext) mR [some (.dat (.tup [.str "does", a, b])), some (.dat (.int n)), some (.dat (.str "does")), none] s := ⟨_, rfl⟩
  have e5 : runT (mBl (eOp eqG (eVar 2) (eC (.str "does")))) [some (.dat (.tup [.str "does", a, b])), some (.dat (.int n)), some (.dat (.str "does")), none] s = .ok true s := rfl
  rw [e4, sSeq_run, sIf_run, e5]
  show (match sRet rDoes _ s with | .nx ρ2 s2 => mR ρ2 s2 | r => r) = _
  rw [sRet_run, runD_ok e3]
  rfl
/-- the rest of the row: each part below -/
def rAll : EM := eOf allF (aCons (eLc [3] 4 (c1 3) (iOf itemsF (eCall (mf_parts_of) (aCons (eVar 0) (aNil)))) (tYesD) (eCall (mf_is_below) (aCons (eVar 3) (aCons (eVar 1) (aNil))))) (aNil))
theorem bools_mapD (f : D → Bool) : ∀ l : List D, bools (l.map fun c => .bl (f c)) = some (l.map f)
  | [] => rfl
  | c :: l => by
    show (bools (l.map fun c => .bl (f c))).map (f c :: ·) = _
    rw [bools_mapD f l]
    rfl
theorem all_run {d : D} {n : Int} {w : D} {ps : List D} {s : S} (hp : mf_parts_of [d] s = .ok (.tup ps) s) (he : ∀ x ∈ ps, el x) (hl : ps.length ≤ 3) : rAll [some d, some (.int n), some w, none] s = .ok (.bl (ps.all fun x => belowB x n)) s := by
  have e : lcL (c1 3) tYesD (eCall (mf_is_below) (aCons (eVar 3) (aCons (eVar 1) (aNil)))) [some d, some (.int n), some w, none] ps s = .ok (ps.map fun x => D.bl (belowB x n)) s :=
    lcL_map fun x hx => ⟨[some d, some (.int n), some w, some x], rfl, rfl, is_below_run (he x hx).1 s⟩
  have e2 : (eLc [3] 4 (c1 3) (iOf itemsF (eCall (mf_parts_of) (aCons (eVar 0) (aNil)))) (tYesD) (eCall (mf_is_below) (aCons (eVar 3) (aCons (eVar 1) (aNil))))) [some d, some (.int n), some w, none] s = .ok (.lst (ps.map fun x => D.bl (belowB x n))) s := by
    show (((mf_parts_of [d] s).bind fun d s1 => lift (itemsF d) s1).bind fun ds s1 => lcR (lcL (c1 3) tYesD (eCall (mf_is_below) (aCons (eVar 3) (aCons (eVar 1) (aNil)))) [some d, some (.int n), some w, none] ds s1)) = _
    rw [hp]
    show lcR (lcL (c1 3) tYesD (eCall (mf_is_below) (aCons (eVar 3) (aCons (eVar 1) (aNil)))) [some d, some (.int n), some w, none] ps s) = _
    rw [e]
    show (if (ps.map _).length ≤ sizeLine then _ else _) = _
    rw [if_pos]
    rw [List.length_map]
    exact Nat.le_trans hl (by rw [sizeLine_eq]; decide)
  unfold rAll
  rw [eOf_run, aCons_run, e2]
  show lift ((bools (ps.map fun x => D.bl (belowB x n))).map fun bs => D.bl (bs.all id)) s = _
  rw [bools_mapD (fun x => belowB x n), Option.map_some, lift_some, List.all_map]
  rfl
theorem row_not {a : D} (ha : el a) (n : Int) (s : S) : m_is_row (slo (.tup [.str "not", a]) n) s = .rt (.bl (belowB a n)) s := by
  have e3 := all_run (n := n) (w := .str "not") (parts_not a s) (fun x hx => by cases List.mem_singleton.mp hx; exact ha) (by simp)
  have e4 : m_is_row (slo (.tup [.str "not", a]) n) s = sRet rAll [some (.dat (.tup [.str "not", a])), some (.dat (.int n)), some (.dat (.str "not")), none] s := rfl
  rw [e4, sRet_run, runD_ok e3]
  simp
theorem two_el {a b : D} (ha : el a) (hb : el b) : ∀ x ∈ [a, b], el x := fun x hx => by
  rcases List.mem_cons.mp hx with rfl | hx
  · exact ha
  · cases List.mem_singleton.mp hx; exact hb
theorem row_and {a b : D} (ha : el a) (hb : el b) (n : Int) (s : S) : m_is_row (slo (.tup [.str "and", a, b]) n) s = .rt (.bl (belowB a n && belowB b n)) s := by
  have e3 := all_run (n := n) (w := .str "and") (parts_and a b s) (two_el ha hb) (by simp)
  have e4 : m_is_row (slo (.tup [.str "and", a, b]) n) s = sRet rAll [some (.dat (.tup [.str "and", a, b])), some (.dat (.int n)), some (.dat (.str "and")), none] s := rfl
  rw [e4, sRet_run, runD_ok e3]
  simp
theorem row_or {a b : D} (ha : el a) (hb : el b) (n : Int) (s : S) : m_is_row (slo (.tup [.str "or", a, b]) n) s = .rt (.bl (belowB a n && belowB b n)) s := by
  have e3 := all_run (n := n) (w := .str "or") (parts_or a b s) (two_el ha hb) (by simp)
  have e4 : m_is_row (slo (.tup [.str "or", a, b]) n) s = sRet rAll [some (.dat (.tup [.str "or", a, b])), some (.dat (.int n)), some (.dat (.str "or")), none] s := rfl
  rw [e4, sRet_run, runD_ok e3]
  simp
theorem row_false (n : Int) (s : S) : m_is_row (slo (.tup [.str "false"]) n) s = .rt (.bl true) s := by
  have e3 := all_run (n := n) (w := .str "false") (parts_false s) (fun x hx => (nomatch hx)) (by simp)
  have e4 : m_is_row (slo (.tup [.str "false"]) n) s = sRet rAll [some (.dat (.tup [.str "false"])), some (.dat (.int n)), some (.dat (.str "false")), none] s := rfl
  rw [e4, sRet_run, runD_ok e3]
  simp
def tShown : TM := mAnd (mBl (eOp eqG (eVar 2) (eC (.str "shown")))) (mNot (mTru (eCall (mf_is_below) (aCons (eOp ixF (eVar 0) (eC (.int 1))) (aCons (eOp addF (eC (.int 99)) (eC (.int 1))) (aNil))))))
theorem row_shown {a b : D} (ha : el a) (hb : el b) (n : Int) (s : S) : m_is_row (slo (.tup [.str "shown", a, b]) n) s = .rt (.bl (belowB a 100 && belowB b n)) s := by
  have e3 := all_run (n := n) (w := .str "shown") (parts_shown a b s) (fun x hx => by cases List.mem_singleton.mp hx; exact hb) (by simp)
  have e1 := is_below_run (n := 100) ha.1 s
  have e5 : tShown [some (.tup [.str "shown", a, b]), some (.int n), some (.str "shown"), none] s = .ok (!belowB a 100) s := by
    show ((mf_is_below [a, .int 100] s).bind fun d s1 => lift (truD d) s1).bind (fun x s1 => RE.ok (!x) s1) = _
    rw [e1]
    rfl
  have e4 : m_is_row (slo (.tup [.str "shown", a, b]) n) s = sSeq (sIf tShown (sRet (eC (.bl false))) sNext) (sRet rAll) [some (.dat (.tup [.str "shown", a, b])), some (.dat (.int n)), some (.dat (.str "shown")), none] s := rfl
  rw [e4, sSeq_run, sIf_run, runT_ok e5]
  cases belowB a 100 with
  | true =>
    show sRet rAll _ s = _
    rw [sRet_run, runD_ok e3]
    simp
  | false => rfl

def tHead : TM := mOr (mNot (mTru (eOf isiF (aCons (eVar 0) (aCons (eC (.ty "tuple")) (aNil)))))) (mOr (mNot (mTru (eVar 0))) (mNot (mTru (eOf isiF (aCons (eOp ixF (eVar 0) (eC (.int 0))) (aCons (eC (.ty "str")) (aNil)))))))
def tLen : TM := mBl (eOp neG (eUn (getF tab_ROW_LENGTHS) (eVar 2)) (eOf lenF (aCons (eVar 0) (aNil))))
theorem row_form : ∃ mR, m_is_row = sSeq (sIf tHead (sRet (eC (.bl false))) sNext) (sSeq (sSet 2 (eOp ixF (eVar 0) (eC (.int 0)))) (sSeq (sIf tLen (sRet (eC (.bl false))) sNext) mR)) := ⟨_, rfl⟩
theorem at0 (x : D) (r : List D) : ixF (.tup (x :: r)) (.int 0) = some x := by
  show atI (x :: r) 0 = some x
  unfold atI ixN
  rw [if_pos (by omega), if_pos (by rw [List.length_cons]; omega)]
  rfl
theorem head_no {d : D} (h : (tyOf d).isSome = true) (hn : ∀ w r, d ≠ .tup (.str w :: r)) (he : ∀ x r, d = .tup (x :: r) → (tyOf x).isSome = true) (o1 o2 o3 : Option D) (s : S) : tHead [some d, o1, o2, o3] s = .ok true s := by
  cases d with
  | tup xs =>
    cases xs with
    | nil => rfl
    | cons x r =>
      have hx := he x r rfl
      have e1 : eOp ixF (eVar 0) (eC (.int 0)) [some (.tup (x :: r)), o1, o2, o3] s = .ok x s := by
        rw [eOp_run]
        show lift (ixF (.tup (x :: r)) (.int 0)) s = _
        rw [at0]
        rfl
      have e2 : (mNot (mTru (eOf isiF (aCons (eOp ixF (eVar 0) (eC (.int 0))) (aCons (eC (.ty "str")) (aNil)))))) [some (.tup (x :: r)), o1, o2, o3] s = .ok true s := by
        rw [mNot_run, mTru_run, eOf_run, aCons_run, e1]
        cases x with
        | str w => exact absurd rfl (hn w r)
        | _ => first | rfl | cases hx
      unfold tHead
      rw [mOr_run]
      show (mOr (mNot (mTru (eVar 0))) (mNot (mTru (eOf isiF (aCons (eOp ixF (eVar 0) (eC (.int 0))) (aCons (eC (.ty "str")) (aNil))))))) [some (.tup (x :: r)), o1, o2, o3] s = _
      rw [mOr_run]
      show (mNot (mTru (eOf isiF (aCons (eOp ixF (eVar 0) (eC (.int 0))) (aCons (eC (.ty "str")) (aNil)))))) [some (.tup (x :: r)), o1, o2, o3] s = _
      exact e2
  | _ => first | rfl | cases h
theorem head_yes (w : Str) (r : List D) (o1 o2 o3 : Option D) (s : S) : tHead [some (.tup (.str w :: r)), o1, o2, o3] s = .ok false s := by
  have e1 : eOp ixF (eVar 0) (eC (.int 0)) [some (.tup (.str w :: r)), o1, o2, o3] s = .ok (.str w) s := by
    rw [eOp_run]
    show lift (ixF (.tup (.str w :: r)) (.int 0)) s = _
    rw [at0]
    rfl
  unfold tHead
  rw [mOr_run]
  show (mOr (mNot (mTru (eVar 0))) (mNot (mTru (eOf isiF (aCons (eOp ixF (eVar 0) (eC (.int 0))) (aCons (eC (.ty "str")) (aNil))))))) [some (.tup (.str w :: r)), o1, o2, o3] s = _
  rw [mOr_run]
  show (mNot (mTru (eOf isiF (aCons (eOp ixF (eVar 0) (eC (.int 0))) (aCons (eC (.ty "str")) (aNil)))))) [some (.tup (.str w :: r)), o1, o2, o3] s = _
  rw [mNot_run, mTru_run, eOf_run, aCons_run, e1]
  rfl
theorem row_no {d : D} (h : (tyOf d).isSome = true) (hn : ∀ w r, d ≠ .tup (.str w :: r)) (he : ∀ x r, d = .tup (x :: r) → (tyOf x).isSome = true) (n : Int) (s : S) : m_is_row (slo d n) s = .rt (.bl false) s := by
  obtain ⟨mR, e⟩ := row_form
  rw [e, sSeq_run, sIf_run, runT_ok (head_no h hn he _ _ _ s)]
  rfl
theorem row_len {w : Str} {r : List D} {g : D} (hg : tab_ROW_LENGTHS w = some g) (hne : neG g (.int ((r.length + 1 : Nat))) = some (.bl true)) (n : Int) (s : S) : m_is_row (slo (.tup (.str w :: r)) n) s = .rt (.bl false) s := by
  obtain ⟨mR, e⟩ := row_form
  have e1 : eOp ixF (eVar 0) (eC (.int 0)) [some (.tup (.str w :: r)), some (.int n), none, none] s = .ok (.str w) s := by
    rw [eOp_run]
    show lift (ixF (.tup (.str w :: r)) (.int 0)) s = _
    rw [at0]
    rfl
  have e2 : tLen [some (.tup (.str w :: r)), some (.int n), some (.str w), none] s = .ok true s := by
    show ((((lift (tab_ROW_LENGTHS w) s).bind fun x s1 => lift (neG x (.int ((r.length + 1 : Nat)))) s1) : RE D).bind fun d s1 => match d with | .bl b => RE.ok b s1 | _ => .bad) = _
    rw [hg, lift_some, bind_ok, hne]
    rfl
  rw [e, sSeq_run, sIf_run, runT_ok (head_yes w r _ _ _ s)]
  show sSeq (sSet 2 (eOp ixF (eVar 0) (eC (.int 0)))) _ (slo (.tup (.str w :: r)) n) s = _
  rw [sSeq_run, sSet_run, runD_ok e1]
  show sSeq (sIf tLen (sRet (eC (.bl false))) sNext) mR [some (.dat (.tup (.str w :: r))), some (.dat (.int n)), some (.dat (.str w)), none] s = _
  rw [sSeq_run, sIf_run, runT_ok e2]
  rfl
/-! ### what a row is -/
def rowB : D → Int → Bool
  | .tup [.str w], _ => decide (w = "false")
  | .tup [.str w, a], n => decide (w = "not") && belowB a n
  | .tup [.str w, a, b], n => if w = "does" then belowB a 4 && wordB b else if w = "and" then belowB a n && belowB b n else if w = "or" then belowB a n && belowB b n else if w = "shown" then belowB a 100 && belowB b n else false
  | _, _ => false
/-- a thing that may stand as a row -/
def ro (d : D) : Prop := (tyOf d).isSome = true ∧ ∀ xs, d = .tup xs → ∀ x ∈ xs, el x
theorem ne_len {k m : Int} (h : k ≠ m) : neG (.int k) (.int m) = some (.bl true) := by
  show some (D.bl (!decide (k = m))) = _
  rw [decide_eq_false h]
  rfl
theorem ne_non (m : Int) : neG .non (.int m) = some (.bl true) := rfl
theorem tab_of (w : Str) : (w = "false" ∧ tab_ROW_LENGTHS w = some (.int 1)) ∨ (w = "does" ∧ tab_ROW_LENGTHS w = some (.int 3)) ∨ (w = "not" ∧ tab_ROW_LENGTHS w = some (.int 2)) ∨ (w = "and" ∧ tab_ROW_LENGTHS w = some (.int 3)) ∨ (w = "or" ∧ tab_ROW_LENGTHS w = some (.int 3)) ∨ (w = "shown" ∧ tab_ROW_LENGTHS w = some (.int 3)) ∨
    (w ≠ "false" ∧ w ≠ "does" ∧ w ≠ "not" ∧ w ≠ "and" ∧ w ≠ "or" ∧ w ≠ "shown" ∧ tab_ROW_LENGTHS w = some .non) := by
  by_cases h1 : w = "false"
  · subst h1; exact .inl ⟨rfl, rfl⟩
  by_cases h2 : w = "does"
  · subst h2; exact .inr (.inl ⟨rfl, rfl⟩)
  by_cases h3 : w = "not"
  · subst h3; exact .inr (.inr (.inl ⟨rfl, rfl⟩))
  by_cases h4 : w = "and"
  · subst h4; exact .inr (.inr (.inr (.inl ⟨rfl, rfl⟩)))
  by_cases h5 : w = "or"
  · subst h5; exact .inr (.inr (.inr (.inr (.inl ⟨rfl, rfl⟩))))
  by_cases h6 : w = "shown"
  · subst h6; exact .inr (.inr (.inr (.inr (.inr (.inl ⟨rfl, rfl⟩)))))
  exact .inr (.inr (.inr (.inr (.inr (.inr ⟨h1, h2, h3, h4, h5, h6, by unfold tab_ROW_LENGTHS; rw [if_neg h1, if_neg h2, if_neg h3, if_neg h4, if_neg h5, if_neg h6]⟩)))))
theorem rowB_not {d : D} (hn : ∀ w r, d ≠ .tup (.str w :: r)) (n : Int) : rowB d n = false := by
  unfold rowB
  split
  · exact absurd rfl (hn _ _)
  · exact absurd rfl (hn _ _)
  · exact absurd rfl (hn _ _)
  · rfl
theorem is_row_run {d : D} (h : ro d) (n : Int) (s : S) : mf_is_row [d, .int n] s = .ok (.bl (rowB d n)) s := by
  refine fn_rt rfl ?_
  show m_is_row (slo d n) s = _
  by_cases hn : ∀ w r, d ≠ .tup (.str w :: r)
  · rw [rowB_not hn]
    exact row_no h.1 hn (fun x r e => (h.2 _ e x List.mem_cons_self).1) n s
  · have ⟨w, r, e⟩ : ∃ w r, d = .tup (.str w :: r) := by
      apply Classical.byContradiction
      intro z
      exact hn fun w r e => z ⟨w, r, e⟩
    subst e
    have hel := h.2 _ rfl
    match r, hel with
    | [], hel =>
      rcases tab_of w with ⟨rfl, t⟩ | ⟨rfl, t⟩ | ⟨rfl, t⟩ | ⟨rfl, t⟩ | ⟨rfl, t⟩ | ⟨rfl, t⟩ | ⟨h1, _, _, _, _, _, t⟩
      · exact row_false n s
      · exact row_len t (ne_len (by simp)) n s
      · exact row_len t (ne_len (by simp)) n s
      · exact row_len t (ne_len (by simp)) n s
      · exact row_len t (ne_len (by simp)) n s
      · exact row_len t (ne_len (by simp)) n s
      · have e : rowB (.tup [.str w]) n = false := decide_eq_false h1
        rw [e]
        exact row_len t (ne_non _) n s
    | [a], hel =>
      have ha : el a := hel a (by simp)
      rcases tab_of w with ⟨rfl, t⟩ | ⟨rfl, t⟩ | ⟨rfl, t⟩ | ⟨rfl, t⟩ | ⟨rfl, t⟩ | ⟨rfl, t⟩ | ⟨_, _, h1, _, _, _, t⟩
      · exact row_len t (ne_len (by simp)) n s
      · exact row_len t (ne_len (by simp)) n s
      · exact row_not ha n s
      · exact row_len t (ne_len (by simp)) n s
      · exact row_len t (ne_len (by simp)) n s
      · exact row_len t (ne_len (by simp)) n s
      · have e : rowB (.tup [.str w, a]) n = false := by
          show (decide (w = "not") && belowB a n) = false
          rw [decide_eq_false h1]
          rfl
        rw [e]
        exact row_len t (ne_non _) n s
    | [a, b], hel =>
      have ha : el a := hel a (by simp)
      have hb : el b := hel b (by simp)
      rcases tab_of w with ⟨rfl, t⟩ | ⟨rfl, t⟩ | ⟨rfl, t⟩ | ⟨rfl, t⟩ | ⟨rfl, t⟩ | ⟨rfl, t⟩ | ⟨_, h2, _, h4, h5, h6, t⟩
      · exact row_len t (ne_len (by simp)) n s
      · exact row_does ha hb n s
      · exact row_len t (ne_len (by simp)) n s
      · exact row_and ha hb n s
      · exact row_or ha hb n s
      · exact row_shown ha hb n s
      · have e : rowB (.tup [.str w, a, b]) n = false := by
          show (if w = "does" then belowB a 4 && wordB b else if w = "and" then belowB a n && belowB b n else if w = "or" then belowB a n && belowB b n else if w = "shown" then belowB a 100 && belowB b n else false) = false
          rw [if_neg h2, if_neg h4, if_neg h5, if_neg h6]
        rw [e]
        exact row_len t (ne_non _) n s
    | a :: b :: c :: r, hel =>
      have e : rowB (.tup (.str w :: a :: b :: c :: r)) n = false := rfl
      rw [e]
      rcases tab_of w with ⟨rfl, t⟩ | ⟨rfl, t⟩ | ⟨rfl, t⟩ | ⟨rfl, t⟩ | ⟨rfl, t⟩ | ⟨rfl, t⟩ | ⟨_, _, _, _, _, _, t⟩
      · exact row_len t (ne_len (by simp only [List.length_cons]; omega)) n s
      · exact row_len t (ne_len (by simp only [List.length_cons]; omega)) n s
      · exact row_len t (ne_len (by simp only [List.length_cons]; omega)) n s
      · exact row_len t (ne_len (by simp only [List.length_cons]; omega)) n s
      · exact row_len t (ne_len (by simp only [List.length_cons]; omega)) n s
      · exact row_len t (ne_len (by simp only [List.length_cons]; omega)) n s
      · exact row_len t (ne_non _) n s
end FL.K2
set_option Elab.async false
set_option linter.all false
set_option maxRecDepth 100000
set_option maxHeartbeats 4000000
namespace FL.K2
open PySem PySem.Spec PyProof.Rows L2 FL
def firstBad : List D → Nat → Option Nat
  | [], _ => none
  | x :: r, k => if rowB x k = true then firstBad r (k + 1) else some k
def bodyN (c : Nat → Addr) : SM := sIf (mNot (mTru (eCall (mf_is_row) (aCons (eVar 2) (aCons (eVar 1) (aNil)))))) (sRaise (c 2) "at" (eVar 1)) (sNext)
def tNum (ys : List D) (k : Nat) : List D := (ys.zipIdx k).map fun p => .tup [.int (p.2 : Nat), p.1]
theorem tNum_cons (x : D) (r : List D) (k : Nat) : tNum (x :: r) k = .tup [.int (k : Nat), x] :: tNum r (k + 1) := rfl
theorem numd_tNum (xs : List D) : numd xs = tNum xs 0 := rfl
theorem bodyN_run {c : Nat → Addr} {d x : D} {k : Int} (h : ro x) (s : S) : bodyN c [some (.dat d), some (.dat (.int k)), some (.dat x)] s = if rowB x k = true then .nx [some (.dat d), some (.dat (.int k)), some (.dat x)] s else .ex (c 2) [("at", .int k)] [some (.dat d), some (.dat (.int k)), some (.dat x)] s := by
  have e : runT (mNot (mTru (eCall (mf_is_row) (aCons (eVar 2) (aCons (eVar 1) (aNil)))))) [some (.dat d), some (.dat (.int k)), some (.dat x)] s = .ok (!rowB x k) s := runT_ok (by
    show ((mf_is_row [x, .int k] s).bind fun d s1 => lift (truD d) s1).bind (fun x s1 => RE.ok (!x) s1) = _
    rw [is_row_run h]
    rfl)
  unfold bodyN
  cases hr : rowB x k with
  | true =>
    rw [hr] at e
    rw [if_nx e, if_pos rfl]
  | false =>
    rw [hr] at e
    rw [if_yes e, if_neg Bool.false_ne_true]
    rfl
theorem loopN {c : Nat → Addr} {d : D} {s : S} : ∀ (ys : List D) (k : Nat) (a b : Option Sl), (∀ x ∈ ys, ro x) →
    (firstBad ys k = none → ∃ a' b', forL (bT [1, 2]) (bodyN c) (tNum ys k) [some (.dat d), a, b] s = .nx [some (.dat d), a', b'] s) ∧
    (∀ i, firstBad ys k = some i → ∃ ρ, forL (bT [1, 2]) (bodyN c) (tNum ys k) [some (.dat d), a, b] s = .ex (c 2) [("at", .int (i : Nat))] ρ s)
  | [], k, a, b, _ => ⟨fun _ => ⟨a, b, rfl⟩, fun i h => by cases h⟩
  | x :: r, k, a, b, h => by
    have hx := h x List.mem_cons_self
    have ih := loopN (c := c) (d := d) (s := s) r (k + 1) (some (.dat (.int (k : Nat)))) (some (.dat x)) fun y hy => h y (List.mem_cons_of_mem _ hy)
    have e := bodyN_run (c := c) (d := d) (k := (k : Nat)) hx s
    rw [tNum_cons]
    unfold forL firstBad
    show (_ → ∃ a' b', (match bodyN c [some (.dat d), some (.dat (.int (k : Nat))), some (.dat x)] s with
      | .nx ρ2 s2 => forL (bT [1, 2]) (bodyN c) (tNum r (k + 1)) ρ2 s2
      | .ct ρ2 s2 => forL (bT [1, 2]) (bodyN c) (tNum r (k + 1)) ρ2 s2
      | .bk ρ2 s2 => RS.nx ρ2 s2
      | .rt d s2 => .rt d s2
      | .ex C fs ρ2 s2 => .ex C fs ρ2 s2
      | .bad => .bad) = _) ∧ ∀ i, _ → ∃ ρ, (match bodyN c [some (.dat d), some (.dat (.int (k : Nat))), some (.dat x)] s with
      | .nx ρ2 s2 => forL (bT [1, 2]) (bodyN c) (tNum r (k + 1)) ρ2 s2
      | .ct ρ2 s2 => forL (bT [1, 2]) (bodyN c) (tNum r (k + 1)) ρ2 s2
      | .bk ρ2 s2 => RS.nx ρ2 s2
      | .rt d s2 => .rt d s2
      | .ex C fs ρ2 s2 => .ex C fs ρ2 s2
      | .bad => .bad) = _
    rw [e]
    cases hr : rowB x k with
    | true =>
      rw [if_pos rfl, if_pos rfl]
      exact ih
    | false =>
      rw [if_neg Bool.false_ne_true, if_neg Bool.false_ne_true]
      refine ⟨fun z => (by cases z), fun i z => ?_⟩
      cases z
      exact ⟨_, rfl⟩
/-- at which number a list of rows is refused -/
def needB (xs : List D) : Option Nat := match firstBad (xs.take 2000) 0 with
  | some i => some i
  | none => if 2000 < xs.length then some 2000 else none
def outN (c : Nat → Addr) (s : S) : Option Nat → RE D
  | some i => .ex (c 2) [("at", .int (i : Nat))] s
  | none => .ok .non s
theorem cut2000 (xs : List D) : cutL xs none (some 2000) = xs.take 2000 := by
  unfold cutL
  show (xs.drop 0).take (HT.sIx xs.length xs.length (some ((2000 : Nat) : Int)) - 0) = _
  rw [HT.sIx_nat, List.drop_zero, Nat.sub_zero]
  by_cases h : 2000 ≤ xs.length
  · rw [Nat.min_eq_left h]
  · rw [Nat.min_eq_right (by omega), List.take_length, List.take_of_length_le (by omega)]
def lsT (d : D) (xs : List D) : Prop := d = .lst xs ∨ d = .tup xs
theorem need_run {c : Nat → Addr} {d : D} {xs : List D} (hd : lsT d xs) (h : ∀ x ∈ xs, ro x) (s : S) : mf_need_rows c [d] s = outN c s (needB xs) := by
  have e1 : runT (mNot (mTru (eCall (mf_is_list) (aCons (eVar 0) (aNil))))) [some (.dat d), none, none] s = .ok false s := runT_ok (by rcases hd with rfl | rfl <;> rfl)
  have e2 : runA (iOf numdF (eSl slF (eVar 0) (oNone) (oSome (eC (.int 2000))))) [some (.dat d), none, none] s = .ok (tNum (xs.take 2000) 0) s := by
    rw [← numd_tNum, ← cut2000]
    rcases hd with rfl | rfl <;> rfl
  have e3 : ∀ a b, runT (mBl (eOp gtF (eOf lenF (aCons (eVar 0) (aNil))) (eC (.int 2000)))) [some (.dat d), a, b] s = .ok (decide ((2000 : Int) < (xs.length : Nat))) s := fun a b => runT_ok (by
    have e0 : (mBl (eOp gtF (eOf lenF (aCons (eVar 0) (aNil))) (eC (.int 2000)))) (some d :: dats [a, b]) s = .ok (decide ((2000 : Int) < (xs.length : Nat))) s := by rcases hd with rfl | rfl <;> rfl
    exact e0)
  have form : m_need_rows c = sSeq (sIf (mNot (mTru (eCall (mf_is_list) (aCons (eVar 0) (aNil))))) (sRaise (c 2) "at" (eC (.int 0))) (sNext)) (sSeq (sFor (bT [1, 2]) (iOf numdF (eSl slF (eVar 0) (oNone) (oSome (eC (.int 2000))))) (bodyN c)) (sIf (mBl (eOp gtF (eOf lenF (aCons (eVar 0) (aNil))) (eC (.int 2000)))) (sRaise (c 2) "at" (eC (.int 2000))) (sNext))) := rfl
  have hf : ∀ r, sFor (bT [1, 2]) (iOf numdF (eSl slF (eVar 0) (oNone) (oSome (eC (.int 2000))))) (bodyN c) [some (.dat d), none, none] s = r ↔ forL (bT [1, 2]) (bodyN c) (tNum (xs.take 2000) 0) [some (.dat d), none, none] s = r := fun r => by
    unfold sFor
    rw [e2]
    exact Iff.rfl
  obtain ⟨l1, l2⟩ := loopN (c := c) (d := d) (s := s) (xs.take 2000) 0 none none fun x hx => h x (List.mem_of_mem_take hx)
  unfold needB
  cases hb : firstBad (xs.take 2000) 0 with
  | some i =>
    obtain ⟨ρ, e⟩ := l2 i hb
    refine fn_ex (ρ' := ρ) rfl ?_
    show m_need_rows c [some (.dat d), none, none] s = _
    rw [form, seq_nx (if_nx e1)]
    exact seq_ex ((hf _).mpr e)
  | none =>
    obtain ⟨a, b, e⟩ := l1 hb
    by_cases hl : 2000 < xs.length
    · have d1 : decide ((2000 : Int) < (xs.length : Nat)) = true := decide_eq_true (by omega)
      rw [if_pos hl]
      refine fn_ex (ρ' := [some (.dat d), a, b]) rfl ?_
      show m_need_rows c [some (.dat d), none, none] s = _
      rw [form, seq_nx (if_nx e1), seq_nx ((hf _).mpr e), if_yes (by rw [e3, d1])]
      rfl
    · have d1 : decide ((2000 : Int) < (xs.length : Nat)) = false := decide_eq_false (by omega)
      rw [if_neg hl]
      refine fn_nx (ρ' := [some (.dat d), a, b]) rfl ?_
      show m_need_rows c [some (.dat d), none, none] s = _
      rw [form, seq_nx (if_nx e1), seq_nx ((hf _).mpr e), if_nx (by rw [e3, d1])]
theorem need_no {c : Nat → Addr} {d : D} (h : (tyOf d).isSome = true) (hl : ∀ xs, ¬ lsT d xs) (s : S) : mf_need_rows c [d] s = .ex (c 2) [("at", .int 0)] s := by
  cases d with
  | lst xs => exact absurd (.inl rfl) (hl xs)
  | tup xs => exact absurd (.inr rfl) (hl xs)
  | _ => first | rfl | cases h

/-! ### what is told -/
def sayD : Option Nat → D
  | some i => .int (i : Nat)
  | none => .non
end FL.K2
set_option Elab.async false
set_option linter.all false
set_option maxRecDepth 100000
set_option maxHeartbeats 4000000
namespace FL.K2
open PySem PySem.Spec PyProof.Rows L2 FL
variable {P : Nat → Addr}
/-! ### what is drawn -/
def GS (P : Nat → Addr) (s : S) : Prop := 0 < s.cells.length ∧ -18446744073709551616 < s.mix ∧ s.mix < 18446744073709551616 ∧ s.tb = tbs P
theorem take_run {s : S} {n : Int} (g : GS P s) (h0 : 0 < n) (h1 : n < 18446744073709551616) : ∃ r s2, mf__law_take [.drw, .int n] s = .ok (.int r) s2 ∧ 0 ≤ r ∧ r < n ∧ GS P s2 := by
  obtain ⟨g1, g2, g3, g4⟩ := g
  have hL : (0 : Int) < (s.cells.length : Int) := by omega
  have m1 := Int.emod_nonneg s.pos (Int.ne_of_gt hL)
  have m2 := Int.emod_lt_of_pos s.pos hL
  have hi : (s.pos % (s.cells.length : Int)).toNat < s.cells.length := by omega
  have e0 : takeS s n = (match s.cells[(s.pos % (s.cells.length : Int)).toNat]? with
    | some c => if 1000000000000000000 ≤ c then some (c % n, { s with cells := s.cells.set (s.pos % (s.cells.length : Int)).toNat (c / n) })
      else some ((s.mix * 48271 + c + 12345) % 2147483647 * ((s.mix * 48271 + c + 12345) % 2147483647) % 2147483629 / 16 % n, { s with pos := s.pos + 1, mix := (s.mix * 48271 + c + 12345) % 2147483647 })
    | none => none) := if_pos ⟨h0, h1, g2, g3, g1⟩
  rw [List.getElem?_eq_getElem hi] at e0
  have run : ∀ r s2, takeS s n = some (r, s2) → mf__law_take [.drw, .int n] s = .ok (.int r) s2 := fun r s2 e => by
    refine fn_rt rfl ?_
    show (match takeS s n with | some (r, s2) => RS.rt (.int r) s2 | none => .bad) = _
    rw [e]
  dsimp only at e0
  by_cases hc : 1000000000000000000 ≤ s.cells[(s.pos % (s.cells.length : Int)).toNat]
  · rw [if_pos hc] at e0
    exact ⟨_, _, run _ _ e0, Int.emod_nonneg _ (by omega), Int.emod_lt_of_pos _ h0, by show 0 < (s.cells.set _ _).length; rw [List.length_set]; exact g1, g2, g3, g4⟩
  · rw [if_neg hc] at e0
    refine ⟨_, _, run _ _ e0, Int.emod_nonneg _ (by omega), Int.emod_lt_of_pos _ h0, g1, ?_, ?_, g4⟩
    · show -18446744073709551616 < (s.mix * 48271 + s.cells[(s.pos % (s.cells.length : Int)).toNat] + 12345) % 2147483647
      have := Int.emod_nonneg (s.mix * 48271 + s.cells[(s.pos % (s.cells.length : Int)).toNat] + 12345) (show (2147483647 : Int) ≠ 0 by decide)
      omega
    · show (s.mix * 48271 + s.cells[(s.pos % (s.cells.length : Int)).toNat] + 12345) % 2147483647 < 18446744073709551616
      have := Int.emod_lt_of_pos (s.mix * 48271 + s.cells[(s.pos % (s.cells.length : Int)).toNat] + 12345) (show (0 : Int) < 2147483647 by decide)
      omega
theorem at_in {xs : List D} {r : Int} (h0 : 0 ≤ r) (h1 : r < (xs.length : Nat)) : ∃ x, atI xs r = some x ∧ x ∈ xs := by
  have hi : r.toNat < xs.length := by omega
  refine ⟨xs[r.toNat], ?_, List.getElem_mem hi⟩
  unfold atI
  rw [ix_in h0 h1]
  show xs[r.toNat]? = _
  exact List.getElem?_eq_getElem hi
theorem pick_run {s : S} {xs : List D} (g : GS P s) (h0 : xs ≠ []) (h1 : xs.length ≤ 1000000) : ∃ x s2, mf__law_pick [.drw, .lst xs] s = .ok x s2 ∧ x ∈ xs ∧ GS P s2 := by
  have hp : 0 < xs.length := List.length_pos_iff.mpr h0
  obtain ⟨r, s2, e, r0, r1, g2⟩ := take_run (n := (xs.length : Nat)) g (by omega) (by omega)
  obtain ⟨x, ex, mx⟩ := at_in r0 r1
  refine ⟨x, s2, fn_rt rfl (ret_run (runD_ok ?_)), mx, g2⟩
  show ((mf__law_take [.drw, .int (xs.length : Nat)] s).bind fun y s2 => lift (ixF (.lst xs) y) s2) = _
  rw [e]
  show lift (atI xs r) s2 = _
  rw [ex]
  rfl
theorem pickS_run {s : S} {z : Str} (g : GS P s) (h0 : 0 < z.length) (h1 : z.length ≤ 100) : ∃ k s2, mf__law_pick [.drw, .str z] s = .ok (sg k) s2 ∧ k ∈ z.cps.toList ∧ GS P s2 := by
  obtain ⟨r, s2, e, r0, r1, g2⟩ := take_run (n := (z.length : Nat)) g (by omega) (by omega)
  have hz : z.length = z.cps.toList.length := rfl
  have hi : r.toNat < z.cps.toList.length := by omega
  refine ⟨z.cps.toList[r.toNat], s2, fn_rt rfl (ret_run (runD_ok ?_)), List.getElem_mem hi, g2⟩
  have el : lenF [D.str z] = some (.int (z.length : Nat)) := if_pos (line100 h1)
  have e2 : (eOf lenF (aCons (eVar 1) aNil)) [some .drw, some (.str z)] s = .ok (.int (z.length : Nat)) s := by
    show lift (lenF [D.str z]) s = _
    rw [el]
    rfl
  have e3 : (eCall mf__law_take (aCons (eVar 0) (aCons (eOf lenF (aCons (eVar 1) aNil)) aNil))) [some .drw, some (.str z)] s = .ok (.int r) s2 := by
    rw [eCall_run, aCons_run]
    show (((aCons (eOf lenF (aCons (eVar 1) aNil)) aNil) [some .drw, some (.str z)] s).bind fun xs s2 => RE.ok (D.drw :: xs) s2).bind (fun ds s1 => mf__law_take ds s1) = _
    rw [aCons_run, e2]
    exact e
  show (eOp ixF (eVar 1) (eCall mf__law_take (aCons (eVar 0) (aCons (eOf lenF (aCons (eVar 1) aNil)) aNil)))) [some .drw, some (.str z)] s = _
  rw [eOp_run]
  show ((eCall mf__law_take (aCons (eVar 0) (aCons (eOf lenF (aCons (eVar 1) aNil)) aNil))) [some .drw, some (.str z)] s).bind (fun y s2 => lift (ixF (.str z) y) s2) = _
  rw [e3]
  show lift (if z.length ≤ sizeLine then (atI z.cps.toList r).map fun c => D.str ⟨#[c]⟩ else none) s2 = _
  rw [if_pos (line100 h1)]
  unfold atI
  rw [ix_in r0 (by omega)]
  show lift ((z.cps.toList[r.toNat]?).map fun c => D.str ⟨#[c]⟩) s2 = _
  rw [List.getElem?_eq_getElem hi]
  rfl

/-! ### words -/
/-- a drawn word -/
def lw (z : Str) : Prop := 1 ≤ z.length ∧ z.length ≤ 8 ∧ z.cps.toList.all (fun c => decide (c ∈ lett.cps.toList)) = true
def wd (d : D) : Prop := ∃ z, d = .str z ∧ z.length ≤ 9 ∧ z.cps.toList.all (fun c => decide (c < 128)) = true ∧ lw z
theorem app_len (a b : Str) : (a ++ b).length = a.length + b.length := by
  show (a.cps ++ b.cps).size = _
  rw [Array.size_append]
  rfl
theorem app_list (a b : Str) : (a ++ b).cps.toList = a.cps.toList ++ b.cps.toList := by
  show (a.cps ++ b.cps).toList = _
  rw [Array.toList_append]
def kinds : List D := [.str "c", .str "d", .str "shown", .str "does", .str "not", .str "choose", .str "false", .str "moves", .str "and", .str "or", .str "e", .str "me"]
theorem wd_kinds : ∀ d ∈ kinds, wd d := by
  intro d hd
  unfold kinds at hd
  simp only [List.mem_cons, List.not_mem_nil, or_false] at hd
  rcases hd with rfl | rfl | rfl | rfl | rfl | rfl | rfl | rfl | rfl | rfl | rfl | rfl <;> exact ⟨_, rfl, by decide +kernel, by decide +kernel, by decide +kernel, by decide +kernel, by decide +kernel⟩
theorem lett_len : lett.length = 26 := by decide +kernel
theorem lett_asc : lett.cps.toList.all (fun c => decide (c < 128)) = true := by decide +kernel

theorem join_sg : ∀ ls : List Nat, (Txt.join (Str.ofString "") (ls.map fun k => (⟨#[k]⟩ : Str))).cps.toList = ls := fun ls => by
  have e : ∀ ls : List Nat, (Str.join (Str.ofString "") (ls.map fun k => (⟨#[k]⟩ : Str))).cps.toList = ls := by
    intro ls
    induction ls with
    | nil => rfl
    | cons a r ih =>
      cases r with
      | nil => rfl
      | cons b r =>
        show ((⟨#[a]⟩ : Str) ++ Str.ofString "" ++ Str.join (Str.ofString "") ((b :: r).map fun k => (⟨#[k]⟩ : Str))).cps.toList = _
        rw [app_list, ih]
        rfl
  show (Builtin.Str.glued (Str.ofString "") _).cps.toList = _
  rw [StrLaws.glued_eq_join]
  exact e ls
theorem strs_sg : ∀ ls : List Nat, strsD (ls.map sg) = some (ls.map fun k => (⟨#[k]⟩ : Str))
  | [] => rfl
  | k :: ls => by
    show (strsD (ls.map sg)).map ((⟨#[k]⟩ : Str) :: ·) = _
    rw [strs_sg ls]
    rfl
theorem sum_sg : ∀ ls : List Nat, ((ls.map fun k => (⟨#[k]⟩ : Str)).map (·.length)).sum = ls.length
  | [] => rfl
  | k :: ls => by
    have h := sum_sg ls
    simp only [List.map_cons, List.sum_cons, List.length_cons] at h ⊢
    rw [h]
    show 1 + ls.length = _
    omega
theorem joinG_sg (ls : List Nat) (h : ls.length ≤ 9) : joinG (Str.ofString "") (ls.map sg) = some (.str (Txt.join (Str.ofString "") (ls.map fun k => (⟨#[k]⟩ : Str)))) := by
  unfold joinG
  rw [strs_sg]
  show (if ((ls.map fun k => (⟨#[k]⟩ : Str)).map (·.length)).sum + (ls.map fun k => (⟨#[k]⟩ : Str)).length * (Str.ofString "").length ≤ 16777216 then some (D.str _) else none) = _
  rw [if_pos]
  rw [sum_sg]
  have e : (Str.ofString "").length = 0 := by decide +kernel
  rw [e]
  omega
/-- drawn signs, one after another, are a list of signs -/
theorem lett_lt {k : Nat} (h : k ∈ lett.cps.toList) : k < 128 := of_decide_eq_true (List.all_eq_true.mp lett_asc k h)
theorem sgs_of : ∀ {xs : List D}, (∀ x ∈ xs, ∃ k, x = sg k ∧ k ∈ lett.cps.toList) → ∃ ls : List Nat, xs = ls.map sg ∧ ls.all (fun c => decide (c ∈ lett.cps.toList)) = true
  | [], _ => ⟨[], rfl, rfl⟩
  | x :: r, h => by
    obtain ⟨k, rfl, hk⟩ := h x List.mem_cons_self
    obtain ⟨ls, rfl, ha⟩ := sgs_of (xs := r) fun y hy => h y (List.mem_cons_of_mem _ hy)
    refine ⟨k :: ls, rfl, ?_⟩
    rw [List.all_cons, ha, decide_eq_true hk]
    rfl
def wEnv (m : Int) (o3 a4 a5 a6 : Option D) : Env := [some .drw, some (.int m), some (.str lett), o3, a4, a5, a6, none, none, none]
def eWord : EM := eJoin (eC (.str "")) (eLc [8] 10 (c1 8) (iOfA rng1F (aCons (eOp addF (eC (.int 1)) (eCall mf__law_take (aCons (eVar 0) (aCons (eC (.int 8)) (aNil))))) (aNil))) (tYesD) (eCall (mf__law_pick) (aCons (eVar 0) (aCons (eVar 2) (aNil)))))
theorem rangeD_len (lo : Int) (n : Nat) : (rangeD lo n).length = n := by
  unfold rangeD
  rw [List.length_map, List.length_range]
theorem word_run {m : Int} {a4 a5 a6 : Option D} {s : S} (g : GS P s) : ∃ w s2, eWord (wEnv m none a4 a5 a6) s = .ok w s2 ∧ wd w ∧ GS P s2 := by
  obtain ⟨r, s1, e, r0, r1, g1⟩ := take_run (n := 8) g (by decide) (by decide)
  have em : (iOfA rng1F (aCons (eOp addF (eC (.int 1)) (eCall mf__law_take (aCons (eVar 0) (aCons (eC (.int 8)) (aNil))))) (aNil))) (wEnv m none a4 a5 a6) s = .ok (rangeD 0 (1 + r).toNat) s1 := by
    have e1 : (eOp addF (eC (.int 1)) (eCall mf__law_take (aCons (eVar 0) (aCons (eC (.int 8)) (aNil))))) (wEnv m none a4 a5 a6) s = .ok (.int (1 + r)) s1 := by
      show ((mf__law_take [.drw, .int 8] s).bind fun y s2 => lift (addF (.int 1) y) s2) = _
      rw [e]
      rfl
    rw [iOfA_run, aCons_run, e1]
    show lift (if -(2 ^ 62) ≤ 1 + r ∧ 1 + r < 2 ^ 62 then some (rangeD 0 (1 + r).toNat) else none) s1 = _
    rw [if_pos ⟨by omega, by omega⟩]
    rfl
  obtain ⟨xs, s2, e2, hl, hp, g2⟩ := lcL_inv (bnd := c1 8) (mt := tYesD) (me := eCall (mf__law_pick) (aCons (eVar 0) (aCons (eVar 2) (aNil)))) (ρ := wEnv m none a4 a5 a6) (G := GS P) (P := fun x => ∃ k, x = sg k ∧ k ∈ lett.cps.toList) (ds := rangeD 0 (1 + r).toNat) g1 fun d _ s g => by
    obtain ⟨k, s2, ek, hk, g2⟩ := pickS_run (z := lett) g (by rw [lett_len]; decide) (by rw [lett_len]; decide)
    exact ⟨_, sg k, s2, rfl, rfl, ek, ⟨k, rfl, hk⟩, g2⟩
  rw [rangeD_len] at hl
  obtain ⟨ls, rfl, ha⟩ := sgs_of hp
  rw [List.length_map] at hl
  have l9 : ls.length ≤ 9 := by omega
  have e3 : (eLc [8] 10 (c1 8) (iOfA rng1F (aCons (eOp addF (eC (.int 1)) (eCall mf__law_take (aCons (eVar 0) (aCons (eC (.int 8)) (aNil))))) (aNil))) (tYesD) (eCall (mf__law_pick) (aCons (eVar 0) (aCons (eVar 2) (aNil))))) (wEnv m none a4 a5 a6) s = .ok (.lst (ls.map sg)) s2 := by
    unfold eLc
    rw [if_pos (show (wEnv m none a4 a5 a6).length ≤ 10 from Nat.le_refl 10), em, bind_ok]
    show lcR (lcL (c1 8) tYesD (eCall (mf__law_pick) (aCons (eVar 0) (aCons (eVar 2) (aNil)))) (wEnv m none a4 a5 a6) (rangeD 0 (1 + r).toNat) s1) = _
    rw [e2]
    show (if (ls.map sg).length ≤ sizeLine then RE.ok (D.lst (ls.map sg)) s2 else .bad) = _
    rw [if_pos]
    rw [List.length_map, sizeLine_eq]
    omega
  refine ⟨.str (Txt.join (Str.ofString "") (ls.map fun k => (⟨#[k]⟩ : Str))), s2, ?_, ⟨_, rfl, ?_, ?_, ?_, ?_, ?_⟩, g2⟩
  · unfold eWord eJoin
    rw [eC_run, bind_ok]
    dsimp only
    rw [e3, bind_ok]
    show lift (joinG (Str.ofString "") (ls.map sg)) s2 = _
    rw [joinG_sg ls l9]
    rfl
  · show (Txt.join (Str.ofString "") (ls.map fun k => (⟨#[k]⟩ : Str))).cps.toList.length ≤ 9
    rw [join_sg]
    exact l9
  · rw [join_sg]
    rw [List.all_eq_true] at ha ⊢
    exact fun x hx => decide_eq_true (lett_lt (of_decide_eq_true (ha x hx)))
  · show 1 ≤ (Txt.join (Str.ofString "") (ls.map fun k => (⟨#[k]⟩ : Str))).cps.toList.length
    rw [join_sg]
    omega
  · show (Txt.join (Str.ofString "") (ls.map fun k => (⟨#[k]⟩ : Str))).cps.toList.length ≤ 8
    rw [join_sg]
    omega
  · rw [join_sg]
    exact ha
end FL.K2
set_option Elab.async false
set_option linter.all false
set_option maxRecDepth 100000
set_option maxHeartbeats 4000000
namespace FL.K2
open PySem PySem.Spec PyProof.Rows L2 FL
variable {P : Nat → Addr}
/-! ### the list of words -/
theorem addF_lst {xs ys : List D} (h : xs.length + ys.length ≤ sizeLine) : addF (.lst xs) (.lst ys) = some (.lst (xs ++ ys)) := by
  show ((none : Option D).or ((none : Option D).or ((if xs.length + ys.length ≤ sizeLine then some (D.lst (xs ++ ys)) else none).or none))) = _
  rw [if_pos h]
  rfl
theorem addF_str {a b : Str} (h : a.length + b.length ≤ sizeLine) : addF (.str a) (.str b) = some (.str (a ++ b)) := by
  show ((none : Option D).or ((if a.length + b.length ≤ sizeLine then some (D.str (a ++ b)) else none).or ((none : Option D).or none))) = _
  rw [if_pos h]
  rfl
theorem addF_tup {xs ys : List D} (h : xs.length + ys.length ≤ sizeLine) : addF (.tup xs) (.tup ys) = some (.tup (xs ++ ys)) := by
  show ((none : Option D).or ((none : Option D).or ((none : Option D).or (if xs.length + ys.length ≤ sizeLine then some (D.tup (xs ++ ys)) else none)))) = _
  rw [if_pos h]
  rfl
def eKinds : EM := eOf lstF1 (aCons (eC (.str "c")) (aCons (eC (.str "d")) (aCons (eC (.str "shown")) (aCons (eC (.str "does")) (aCons (eC (.str "not")) (aCons (eC (.str "choose")) (aCons (eC (.str "false")) (aCons (eC (.str "moves")) (aCons (eC (.str "and")) (aCons (eC (.str "or")) (aCons (eC (.str "e")) (aCons (eC (.str "me")) (aNil)))))))))))))
def ePick : EM := eCall (mf__law_pick) (aCons (eVar 0) (aCons eKinds (aNil)))
def tTake3 : TM := mBl (eOp eqG (eCall (mf__law_take) (aCons (eVar 0) (aCons (eC (.int 3)) (aNil)))) (eC (.int 0)))
def eSome : EM := eOp addF (eOf lstF1 (aCons (eVar 5) (aNil))) (eLc [7] 10 (c1 7) (iOf itemsF (eVar 2)) (tYesD) (eOp addF (eSl slF (eVar 5) (oNone) (oSome (eC (.int 7)))) (eVar 7)))
def eFirst : EM := eOp ixF (eLc [9] 10 (c1 9) (iOf itemsF (eVar 6)) (mBl (eOp (inG true) (eVar 9) (eVar 3))) (eVar 9)) (eC (.int 0))
def wBody : SM := sSeq (sSet 5 ePick) (sSeq (sIf tTake3 (sSet 5 eWord) sNext) (sSeq (sSet 6 eSome) (sApp 3 eFirst)))
theorem words_form : m__law_words = sSeq (sParO 2 3 (eC (.str lett))) (sSeq (sFor (b1 4) (iOfA rng1F (aCons (eVar 1) (aNil))) wBody) (fun ρ s => (sRet (eVar 3)) (frz 3 ρ) s)) := rfl
def wS (m : Int) (found : List D) (a4 a5 a6 : Option Sl) : Sls := [some (.dat .drw), some (.dat (.int m)), some (.dat (.str lett)), some (.own found), a4, a5, a6, none, none, none]
/-- the first seven signs and one more -/
def cut7 (w : Str) (k : Nat) : Str := cutS w none (some 7) ++ ⟨#[k]⟩
theorem cut7_len (w : Str) : (cutS w none (some 7)).length ≤ 7 := by
  show (((w.cps.toList.drop 0).take (HT.sIx w.length w.length (some ((7 : Nat) : Int)) - 0)).toArray).size ≤ 7
  rw [List.size_toArray, List.length_take, HT.sIx_nat]
  omega
theorem cut7_asc {w : Str} (h : w.cps.toList.all (fun c => decide (c < 128)) = true) : (cutS w none (some 7)).cps.toList.all (fun c => decide (c < 128)) = true := by
  show (((w.cps.toList.drop 0).take (HT.sIx w.length w.length (some ((7 : Nat) : Int)) - 0)).toArray).toList.all _ = true
  rw [List.toList_toArray, List.all_eq_true] at *
  exact fun x hx => h x (List.mem_of_mem_drop (List.mem_of_mem_take hx))
theorem cut7_let {w : Str} (h : w.cps.toList.all (fun c => decide (c ∈ lett.cps.toList)) = true) : (cutS w none (some 7)).cps.toList.all (fun c => decide (c ∈ lett.cps.toList)) = true := by
  show (((w.cps.toList.drop 0).take (HT.sIx w.length w.length (some ((7 : Nat) : Int)) - 0)).toArray).toList.all _ = true
  rw [List.toList_toArray, List.all_eq_true] at *
  exact fun x hx => h x (List.mem_of_mem_drop (List.mem_of_mem_take hx))
theorem wd_cut {w : Str} {k : Nat} (h : w.cps.toList.all (fun c => decide (c < 128)) = true) (hw : lw w) (hk : k ∈ lett.cps.toList) : wd (.str (cut7 w k)) := by
  have l1 : (⟨#[k]⟩ : Str).length = 1 := rfl
  refine ⟨_, rfl, ?_, ?_, ?_, ?_, ?_⟩
  rotate_left
  rotate_left
  · unfold cut7
    rw [app_len, l1]
    omega
  · unfold cut7
    have h1 := cut7_len w
    rw [app_len, l1]
    omega
  · unfold cut7
    rw [app_list, List.all_append, cut7_let hw.2.2]
    show (List.all [k] fun c => decide (c ∈ lett.cps.toList)) = true
    simpa using hk
  · unfold cut7
    rw [app_len]
    have h1 := cut7_len w
    have h2 : (⟨#[k]⟩ : Str).length = 1 := rfl
    omega
  · unfold cut7
    rw [app_list, List.all_append, cut7_asc h]
    show (List.all [k] fun c => decide (c < 128)) = true
    simpa using lett_lt hk
def manyW (w : Str) : List D := .str w :: lett.cps.toList.map fun k => .str (cut7 w k)
theorem some_run {w : Str} {m : Int} {a4 a6 : Option D} {s : S} (hw : w.length ≤ 9) : eSome [some .drw, some (.int m), some (.str lett), none, a4, some (.str w), a6, none, none, none] s = .ok (.lst (manyW w)) s := by
  have ec : ∀ k, (eOp addF (eSl slF (eVar 5) (oNone) (oSome (eC (.int 7)))) (eVar 7)) [some .drw, some (.int m), some (.str lett), none, a4, some (.str w), a6, some (sg k), none, none] s = .ok (.str (cut7 w k)) s := fun k => by
    have e1 : (eSl slF (eVar 5) (oNone) (oSome (eC (.int 7)))) [some .drw, some (.int m), some (.str lett), none, a4, some (.str w), a6, some (sg k), none, none] s = .ok (.str (cutS w none (some 7))) s := by
      show lift (if w.length ≤ sizeLine then some (D.str (cutS w none (some 7))) else none) s = _
      rw [if_pos (line100 (by omega))]
      rfl
    rw [eOp_run, e1]
    show lift (addF (.str (cutS w none (some 7))) (.str ⟨#[k]⟩)) s = _
    have e2 : addF (.str (cutS w none (some 7))) (.str ⟨#[k]⟩) = some (.str (cut7 w k)) := addF_str (by
      have h1 := cut7_len w
      have h2 : (⟨#[k]⟩ : Str).length = 1 := rfl
      rw [sizeLine_eq]
      omega)
    rw [e2]
    rfl
  have el : lcL (c1 7) tYesD (eOp addF (eSl slF (eVar 5) (oNone) (oSome (eC (.int 7)))) (eVar 7)) [some .drw, some (.int m), some (.str lett), none, a4, some (.str w), a6, none, none, none] (lett.cps.toList.map sg) s = .ok ((lett.cps.toList.map sg).map fun d => match d with | .str z => (match z.cps.toList with | [k] => .str (cut7 w k) | _ => d) | d => d) s := lcL_map fun d hd => by
    obtain ⟨k, _, rfl⟩ := List.mem_map.mp hd
    exact ⟨_, rfl, rfl, ec k⟩
  have e2 : (eLc [7] 10 (c1 7) (iOf itemsF (eVar 2)) (tYesD) (eOp addF (eSl slF (eVar 5) (oNone) (oSome (eC (.int 7)))) (eVar 7))) [some .drw, some (.int m), some (.str lett), none, a4, some (.str w), a6, none, none, none] s = .ok (.lst (lett.cps.toList.map fun k => D.str (cut7 w k))) s := by
    show lcR (lcL (c1 7) tYesD (eOp addF (eSl slF (eVar 5) (oNone) (oSome (eC (.int 7)))) (eVar 7)) [some .drw, some (.int m), some (.str lett), none, a4, some (.str w), a6, none, none, none] (lett.cps.toList.map sg) s) = _
    have hm : ((lett.cps.toList.map sg).map fun d => match d with | .str z => (match z.cps.toList with | [k] => D.str (cut7 w k) | _ => d) | d => d) = lett.cps.toList.map fun k => D.str (cut7 w k) := by
      rw [List.map_map]
      rfl
    rw [el, hm]
    show (if (lett.cps.toList.map fun k => D.str (cut7 w k)).length ≤ sizeLine then RE.ok (D.lst (lett.cps.toList.map fun k => D.str (cut7 w k))) s else .bad) = _
    rw [if_pos (by rw [List.length_map]; show lett.length ≤ sizeLine; rw [lett_len, sizeLine_eq]; decide)]
  unfold eSome
  rw [eOp_run]
  show ((eLc [7] 10 (c1 7) (iOf itemsF (eVar 2)) (tYesD) (eOp addF (eSl slF (eVar 5) (oNone) (oSome (eC (.int 7)))) (eVar 7))) [some .drw, some (.int m), some (.str lett), none, a4, some (.str w), a6, none, none, none] s).bind (fun y s2 => lift (addF (.lst [.str w]) y) s2) = _
  rw [e2, bind_ok]
  have e3 : addF (.lst [.str w]) (.lst (lett.cps.toList.map fun k => D.str (cut7 w k))) = some (.lst (manyW w)) := addF_lst (by
    rw [List.length_map]
    show 1 + lett.length ≤ sizeLine
    rw [lett_len, sizeLine_eq]
    decide)
  rw [e3]
  rfl
theorem many_wd {w : Str} (h : w.length ≤ 9) (ha : w.cps.toList.all (fun c => decide (c < 128)) = true ∧ lw w) : ∀ d ∈ manyW w, wd d := by
  intro d hd
  rcases List.mem_cons.mp hd with rfl | hd
  · exact ⟨w, rfl, h, ha⟩
  · obtain ⟨k, hk, rfl⟩ := List.mem_map.mp hd
    exact wd_cut ha.1 ha.2 hk
theorem wd_flat {d : D} (h : wd d) : flatD d = true := by
  obtain ⟨z, rfl, _⟩ := h
  rfl
theorem app_inj {a : Str} {k l : Nat} (h : a ++ (⟨#[k]⟩ : Str) = a ++ (⟨#[l]⟩ : Str)) : k = l := by
  have e : (a ++ (⟨#[k]⟩ : Str)).cps.toList = (a ++ (⟨#[l]⟩ : Str)).cps.toList := by rw [h]
  rw [app_list, app_list] at e
  have e2 := List.append_cancel_left e
  have e3 : [k] = [l] := e2
  cases e3
  rfl
/-- of three unlike ones one stands not among two -/
theorem not_all {found : List D} (hf : found.length ≤ 2) {a b c : Str} (h1 : a ≠ b) (h2 : a ≠ c) (h3 : b ≠ c) : inS (.str a) found = false ∨ inS (.str b) found = false ∨ inS (.str c) found = false := by
  have key : ∀ (x : D) (u v : Str), eqS x (.str u) = true → eqS x (.str v) = true → u = v := fun x u v e1 e2 => by
    cases x with
    | str z =>
      have f1 : (z == u) = true := e1
      have f2 : (z == v) = true := e2
      rw [← beq_iff_eq.mp f1, ← beq_iff_eq.mp f2]
    | _ => cases e1
  have two : ∀ (x : D), (eqS x (.str a) = false ∧ eqS x (.str b) = false) ∨ (eqS x (.str a) = false ∧ eqS x (.str c) = false) ∨ (eqS x (.str b) = false ∧ eqS x (.str c) = false) := fun x => by
    cases ea : eqS x (.str a) with
    | true =>
      refine .inr (.inr ⟨?_, ?_⟩)
      · cases eb : eqS x (.str b) with
        | true => exact absurd (key x a b ea eb) h1
        | false => rfl
      · cases ec : eqS x (.str c) with
        | true => exact absurd (key x a c ea ec) h2
        | false => rfl
    | false =>
      cases eb : eqS x (.str b) with
      | true =>
        refine .inr (.inl ⟨rfl, ?_⟩)
        cases ec : eqS x (.str c) with
        | true => exact absurd (key x b c eb ec) h3
        | false => rfl
      | false => exact .inl ⟨rfl, rfl⟩
  unfold inS
  match found, hf with
  | [], _ => exact .inl rfl
  | [x], _ =>
    simp only [List.any_cons, List.any_nil, Bool.or_false]
    rcases two x with h | h | h
    · exact .inl h.1
    · exact .inl h.1
    · exact .inr (.inl h.1)
  | [x, y], _ =>
    simp only [List.any_cons, List.any_nil, Bool.or_false, Bool.or_eq_false_iff]
    rcases two x with h | h | h <;> rcases two y with h2 | h2 | h2
    · exact .inl ⟨h.1, h2.1⟩
    · exact .inl ⟨h.1, h2.1⟩
    · exact .inr (.inl ⟨h.2, h2.1⟩)
    · exact .inl ⟨h.1, h2.1⟩
    · exact .inl ⟨h.1, h2.1⟩
    · exact .inr (.inr ⟨h.2, h2.2⟩)
    · exact .inr (.inl ⟨h.1, h2.2⟩)
    · exact .inr (.inr ⟨h.2, h2.2⟩)
    · exact .inr (.inl ⟨h.1, h2.1⟩)

theorem in_strs {x : D} {ys : List D} (hx : flatD x = true) (hy : ∀ y ∈ ys, flatD y = true) : inG true x (.lst ys) = some (.bl (!inS x ys)) := by
  have e : inF true x (.lst ys) = some (.bl (!inS x ys)) := if_pos ⟨hx, List.all_eq_true.mpr hy⟩
  show (orF (inF true) (signF true)) _ _ = _
  unfold orF
  rw [e]
  rfl
def lcF : EM := eLc [9] 10 (c1 9) (iOf itemsF (eVar 6)) (mBl (eOp (inG true) (eVar 9) (eVar 3))) (eVar 9)
theorem first_eq (ρ : Env) (s : S) : eFirst ρ s = (lcF ρ s).bind fun x s1 => lift (ixF x (.int 0)) s1 := rfl
theorem first_run {w : Str} {found : List D} {m : Int} {a4 a5 : Option D} {s : S} (hf : ∀ d ∈ found, wd d) (hl : found.length ≤ 2) (hw : w.length ≤ 9) (ha : w.cps.toList.all (fun c => decide (c < 128)) = true ∧ lw w) :
    eFirst [some .drw, some (.int m), some (.str lett), none, a4, a5, some (.lst (manyW w)), none, none, none] s = .bad ∧
    ∃ d, wd d ∧ eFirst [some .drw, some (.int m), some (.str lett), some (.lst found), a4, a5, some (.lst (manyW w)), none, none, none] s = .ok d s := by
  refine ⟨?_, ?_⟩
  · have e : lcF [some .drw, some (.int m), some (.str lett), none, a4, a5, some (.lst (manyW w)), none, none, none] s = .bad := rfl
    rw [first_eq, e]
    rfl
  · have e1 : lcL (c1 9) (mBl (eOp (inG true) (eVar 9) (eVar 3))) (eVar 9) [some .drw, some (.int m), some (.str lett), some (.lst found), a4, a5, some (.lst (manyW w)), none, none, none] (manyW w) s = .ok (((manyW w).filter fun d => !inS d found).map id) s := lcL_filter fun d hd => by
      refine ⟨[some .drw, some (.int m), some (.str lett), some (.lst found), a4, a5, some (.lst (manyW w)), none, none, some d], rfl, ?_, fun _ => rfl⟩
      show ((lift (inG true d (.lst found)) s).bind fun d s1 => match d with | .bl b => RE.ok b s1 | _ => .bad) = _
      rw [in_strs (wd_flat (many_wd hw ha d hd)) fun y hy => wd_flat (hf y hy)]
      rfl
    rw [List.map_id] at e1
    have hlen : ((manyW w).filter fun d => !inS d found).length ≤ sizeLine := by
      refine Nat.le_trans (List.length_filter_le _ _) ?_
      show (lett.cps.toList.map fun k => D.str (cut7 w k)).length + 1 ≤ sizeLine
      rw [List.length_map]
      show lett.length + 1 ≤ sizeLine
      rw [lett_len, sizeLine_eq]
      decide
    have e2 : lcF [some .drw, some (.int m), some (.str lett), some (.lst found), a4, a5, some (.lst (manyW w)), none, none, none] s = .ok (.lst ((manyW w).filter fun d => !inS d found)) s := by
      show lcR (lcL (c1 9) (mBl (eOp (inG true) (eVar 9) (eVar 3))) (eVar 9) [some .drw, some (.int m), some (.str lett), some (.lst found), a4, a5, some (.lst (manyW w)), none, none, none] (manyW w) s) = _
      rw [e1]
      exact if_pos hlen
    have ka : 97 ∈ lett.cps.toList := by decide +kernel
    have kb : 98 ∈ lett.cps.toList := by decide +kernel
    have kc : 99 ∈ lett.cps.toList := by decide +kernel
    have mem : ∀ {k : Nat}, k ∈ lett.cps.toList → D.str (cut7 w k) ∈ manyW w := fun {k} hk => List.mem_cons_of_mem _ (List.mem_map.mpr ⟨k, hk, rfl⟩)
    have ne : ∀ {k l : Nat}, k ≠ l → cut7 w k ≠ cut7 w l := fun {k l} h z => h (app_inj z)
    have some_in : ∃ d, d ∈ (manyW w).filter fun d => !inS d found := by
      rcases not_all hl (ne (show 97 ≠ 98 by decide)) (ne (show 97 ≠ 99 by decide)) (ne (show 98 ≠ 99 by decide)) with h | h | h
      · exact ⟨_, List.mem_filter.mpr ⟨mem ka, by rw [h]; rfl⟩⟩
      · exact ⟨_, List.mem_filter.mpr ⟨mem kb, by rw [h]; rfl⟩⟩
      · exact ⟨_, List.mem_filter.mpr ⟨mem kc, by rw [h]; rfl⟩⟩
    cases hfl : (manyW w).filter fun d => !inS d found with
    | nil =>
      rw [hfl] at some_in
      obtain ⟨d, hd⟩ := some_in
      exact absurd hd List.not_mem_nil
    | cons d r =>
      refine ⟨d, many_wd hw ha d (List.mem_filter.mp (by rw [hfl]; exact List.mem_cons_self)).1, ?_⟩
      show (lcF [some .drw, some (.int m), some (.str lett), some (.lst found), a4, a5, some (.lst (manyW w)), none, none, none] s).bind (fun x s1 => lift (ixF x (.int 0)) s1) = _
      rw [e2, hfl]
      show lift (ixF (.lst (d :: r)) (.int 0)) s = _
      have e : ixF (.lst (d :: r)) (.int 0) = some d := at0 d r
      rw [e]
      rfl
theorem ePick_run {m : Int} {a4 a5 a6 : Option D} {s : S} (g : GS P s) : ∃ d s2, ePick (wEnv m none a4 a5 a6) s = .ok d s2 ∧ wd d ∧ GS P s2 := by
  obtain ⟨d, s2, e, hm, g2⟩ := pick_run (xs := kinds) g (by unfold kinds; simp) (by unfold kinds; decide)
  refine ⟨d, s2, ?_, wd_kinds d hm, g2⟩
  have e0 : eKinds (wEnv m none a4 a5 a6) s = .ok (.lst kinds) s := by
    show lift (lstF1 kinds) s = _
    have e2 : lstF1 kinds = some (.lst kinds) := if_pos (by unfold kinds; rw [sizeLine_eq]; decide)
    rw [e2]
    rfl
  show (((eKinds (wEnv m none a4 a5 a6) s).bind fun x s1 => RE.ok [x] s1).bind fun xs s2 => RE.ok (D.drw :: xs) s2).bind (fun ds s1 => mf__law_pick ds s1) = _
  rw [e0]
  exact e
theorem wBody_run {m : Int} {found : List D} {a4 : D} {a5 a6 : Option Sl} {s : S} (g : GS P s) (h5 : ∀ xs, a5 ≠ some (.own xs)) (h6 : ∀ xs, a6 ≠ some (.own xs)) (hf : ∀ d ∈ found, wd d) (hl : found.length ≤ 2) : ∃ d b5 b6 s2, wBody (wS m found (some (.dat a4)) a5 a6) s = .nx (wS m (found ++ [d]) (some (.dat a4)) (some (.dat b5)) (some (.dat b6))) s2 ∧ wd d ∧ GS P s2 := by
  have env : ∀ f5 f6 : Option Sl, dats (wS m found (some (.dat a4)) f5 f6) = wEnv m none (some a4) (datOf f5) (datOf f6) := fun f5 f6 => rfl
  obtain ⟨w1, s1, e1, hw1, g1⟩ := ePick_run (m := m) (a4 := some a4) (a5 := datOf a5) (a6 := datOf a6) g
  obtain ⟨r, s2, e2, r0, r1, g2⟩ := take_run (n := 3) g1 (by decide) (by decide)
  have t2 : ∀ f5, runT tTake3 (wS m found (some (.dat a4)) f5 a6) s1 = .ok (decide (r = 0)) s2 := fun f5 => runT_ok (by
    rw [env]
    show (((mf__law_take [.drw, .int 3] s1).bind fun x s1 => lift (eqG x (.int 0)) s1).bind fun d s1 => match d with | .bl b => RE.ok b s1 | _ => .bad) = _
    rw [e2]
    rfl)
  have step2 : ∃ w2 s3, sIf tTake3 (sSet 5 eWord) sNext (wS m found (some (.dat a4)) (some (.dat w1)) a6) s1 = .nx (wS m found (some (.dat a4)) (some (.dat w2)) a6) s3 ∧ wd w2 ∧ GS P s3 := by
    by_cases hr : r = 0
    · obtain ⟨w2, s3, e3, hw2, g3⟩ := word_run (m := m) (a4 := some a4) (a5 := some w1) (a6 := datOf a6) g2
      refine ⟨w2, s3, ?_, hw2, g3⟩
      rw [if_yes (by rw [t2, decide_eq_true hr]), set_run (runD_ok (by rw [env]; exact e3))]
      rfl
    · exact ⟨w1, s2, by rw [if_nx (by rw [t2, decide_eq_false hr])], hw1, g2⟩
  obtain ⟨w2, s3, e3, ⟨z, rfl, hz1, hz2⟩, g3⟩ := step2
  have e4 := some_run (w := z) (m := m) (a4 := some a4) (a6 := datOf a6) (s := s3) hz1
  obtain ⟨f1, d, hd, f2⟩ := first_run (w := z) (found := found) (m := m) (a4 := some a4) (a5 := some (.str z)) (s := s3) hf hl hz1 hz2
  refine ⟨d, .str z, .lst (manyW z), s3, ?_, hd, g3⟩
  unfold wBody
  rw [seq_nx (set_run (runD_ok (by rw [env]; exact e1)))]
  show sSeq (sIf tTake3 (sSet 5 eWord) sNext) _ (wS m found (some (.dat a4)) (some (.dat w1)) a6) s1 = _
  rw [seq_nx e3, seq_nx (set_run (runD_ok (by rw [env]; exact e4)))]
  show sApp 3 eFirst (wS m found (some (.dat a4)) (some (.dat (.str z))) (some (.dat (.lst (manyW z))))) s3 = _
  have ev : runD eFirst (wS m found (some (.dat a4)) (some (.dat (.str z))) (some (.dat (.lst (manyW z))))) s3 = .ok d s3 := runD_vis f1 f2 (wd_flat hd)
  unfold sApp
  show after (runD eFirst (wS m found (some (.dat a4)) (some (.dat (.str z))) (some (.dat (.lst (manyW z))))) s3) _ _ = _
  rw [ev]
  show (if found.length < sizeLine then RS.nx _ s3 else .bad) = _
  rw [if_pos (by rw [sizeLine_eq]; omega)]
  rfl
theorem wLoop {m : Int} : ∀ (is found : List D) (a4 a5 a6 : Option Sl) (s : S), GS P s → (∀ xs, a5 ≠ some (.own xs)) → (∀ xs, a6 ≠ some (.own xs)) → (∀ d ∈ found, wd d) → found.length + is.length ≤ 3 →
    ∃ ws b4 b5 b6 s2, forL (b1 4) wBody is (wS m found a4 a5 a6) s = .nx (wS m ws b4 b5 b6) s2 ∧ ws.length = found.length + is.length ∧ (∀ d ∈ ws, wd d) ∧ GS P s2 := by
  intro is
  induction is with
  | nil =>
    intro found a4 a5 a6 s g _ _ hf _
    exact ⟨found, a4, a5, a6, s, rfl, rfl, hf, g⟩
  | cons i is ih =>
    intro found a4 a5 a6 s g h5 h6 hf hz
    rw [List.length_cons] at hz
    obtain ⟨d, b5, b6, s2, e, hd, g2⟩ := wBody_run (m := m) (a4 := i) (a5 := a5) (a6 := a6) g h5 h6 hf (by omega)
    have hf2 : ∀ x ∈ found ++ [d], wd x := fun x hx => by
      rcases List.mem_append.mp hx with hx | hx
      · exact hf x hx
      · cases List.mem_singleton.mp hx; exact hd
    have hl2 : (found ++ [d]).length = found.length + 1 := by rw [List.length_append, List.length_singleton]
    obtain ⟨ws, c4, c5, c6, s3, e3, l3, w3, g3⟩ := ih (found ++ [d]) (some (.dat i)) (some (.dat b5)) (some (.dat b6)) s2 g2 (fun _ z => by cases z) (fun _ z => by cases z) hf2 (by omega)
    refine ⟨ws, c4, c5, c6, s3, ?_, by rw [l3, hl2, List.length_cons]; omega, w3, g3⟩
    unfold forL
    show (match wBody (wS m found (some (.dat i)) a5 a6) s with
      | .nx ρ2 s2 => forL (b1 4) wBody is ρ2 s2
      | .ct ρ2 s2 => forL (b1 4) wBody is ρ2 s2
      | .bk ρ2 s2 => RS.nx ρ2 s2
      | .rt d s2 => .rt d s2
      | .ex C fs ρ2 s2 => .ex C fs ρ2 s2
      | .bad => .bad) = _
    rw [e]
    exact e3
theorem rng1_run {j : Int} (h1 : -(2 ^ 62) ≤ j) (h2 : j < 2 ^ 62) : rng1F [.int j] = some (rangeD 0 j.toNat) := if_pos ⟨h1, h2⟩
theorem rng2_run {i j : Int} (h1 : -(2 ^ 62) ≤ i) (h2 : i < 2 ^ 62) (h3 : -(2 ^ 62) ≤ j) (h4 : j < 2 ^ 62) : rng2F [.int i, .int j] = some (rangeD i (j - i).toNat) := if_pos ⟨h1, h2, h3, h4⟩
theorem words_run {m : Nat} {s : S} (g : GS P s) (hm : m ≤ 3) : ∃ ws s2, mf__law_words [.drw, .int (m : Nat)] s = .ok (.lst ws) s2 ∧ ws.length = m ∧ (∀ d ∈ ws, wd d) ∧ GS P s2 := by
  obtain ⟨ws, b4, b5, b6, s2, e, hl, hw, g2⟩ := wLoop (m := (m : Nat)) (rangeD 0 m) [] none none none s g (fun _ z => by cases z) (fun _ z => by cases z) (fun _ h => nomatch h) (by rw [rangeD_len, List.length_nil]; omega)
  refine ⟨ws, s2, fn_rt rfl ?_, by rw [hl, rangeD_len]; simp, hw, g2⟩
  show m__law_words [some (.dat .drw), some (.dat (.int (m : Nat))), none, none, none, none, none, none, none, none] s = _
  have e0 : sParO 2 3 (eC (.str lett)) [some (.dat .drw), some (.dat (.int (m : Nat))), none, none, none, none, none, none, none, none] s = .nx (wS (m : Nat) [] none none none) s := rfl
  have e1 : runA (iOfA rng1F (aCons (eVar 1) (aNil))) (wS (m : Nat) [] none none none) s = .ok (rangeD 0 m) s := by
    have e3 : rng1F [D.int (m : Nat)] = some (rangeD 0 m) := rng1_run (by omega) (by omega)
    have e4 : (aCons (eVar 1) aNil) (dats (wS (m : Nat) [] none none none)) s = .ok [.int (m : Nat)] s := rfl
    unfold runA
    rw [iOfA_run, e4, bind_ok, e3, lift_some]
  have e2 : sFor (b1 4) (iOfA rng1F (aCons (eVar 1) (aNil))) wBody (wS (m : Nat) [] none none none) s = .nx (wS (m : Nat) ws b4 b5 b6) s2 := by
    unfold sFor
    rw [e1]
    exact e
  rw [words_form, seq_nx e0, seq_nx e2]
  rfl
end FL.K2
set_option Elab.async false
set_option linter.all false
set_option maxRecDepth 100000
set_option maxHeartbeats 4000000
namespace FL.K2
open PySem PySem.Spec PyProof.Rows L2 FL
/-! ### things that have a short text -/
def pz (W k : Nat) (d : D) : Prop := ∃ p, toR d = some p ∧ p.leavesShort 40 = true ∧ p.showable = true ∧ p.weight ≤ W ∧ p.depth ≤ k
def pzs (W k : Nat) (xs : List D) : Prop := ∃ ps, toRs xs = some ps ∧ PyData.leavesShortAll 40 ps = true ∧ PyData.showableAll ps = true ∧ PyData.weightAll ps ≤ xs.length * (W + 1) ∧ PyData.depthAll ps ≤ k
theorem pz_mono {W W2 k k2 : Nat} {d : D} (h : pz W k d) (h1 : W ≤ W2) (h2 : k ≤ k2) : pz W2 k2 d := by
  obtain ⟨p, e, a, b, c, q⟩ := h
  exact ⟨p, e, a, b, Nat.le_trans c h1, Nat.le_trans q h2⟩
theorem pzs_of {W k : Nat} : ∀ {xs : List D}, (∀ x ∈ xs, pz W k x) → pzs W k xs
  | [], _ => ⟨[], rfl, rfl, rfl, Nat.zero_le _, Nat.zero_le _⟩
  | x :: r, h => by
    obtain ⟨p, e, a, b, c, q⟩ := h x List.mem_cons_self
    obtain ⟨ps, e2, a2, b2, c2, q2⟩ := pzs_of (xs := r) fun y hy => h y (List.mem_cons_of_mem _ hy)
    refine ⟨p :: ps, ?_, ?_, ?_, ?_, ?_⟩
    · show (match toR x, toRs r with | some p, some ps => some (p :: ps) | _, _ => none) = _
      rw [e, e2]
    · unfold PyData.leavesShortAll
      rw [a, a2]
      rfl
    · unfold PyData.showableAll
      rw [b, b2]
      rfl
    · unfold PyData.weightAll
      rw [List.length_cons, Nat.succ_mul]
      omega
    · unfold PyData.depthAll
      exact Nat.max_le.mpr ⟨q, q2⟩
theorem pz_tup {W k n : Nat} {xs : List D} (h : ∀ x ∈ xs, pz W k x) (hn : xs.length ≤ n) : pz (n * (W + 1)) (k + 1) (.tup xs) := by
  obtain ⟨ps, e, a, b, c, q⟩ := pzs_of h
  refine ⟨.tuple ps, ?_, ?_, ?_, ?_, ?_⟩
  · show (toRs xs).map PyData.tuple = _
    rw [e]
    rfl
  · unfold PyData.leavesShort; exact a
  · unfold PyData.showable; exact b
  · unfold PyData.weight; exact Nat.le_trans c (Nat.mul_le_mul_right _ hn)
  · unfold PyData.depth; omega
theorem pz_lst {W k n : Nat} {xs : List D} (h : ∀ x ∈ xs, pz W k x) (hn : xs.length ≤ n) : pz (n * (W + 1)) (k + 1) (.lst xs) := by
  obtain ⟨ps, e, a, b, c, q⟩ := pzs_of h
  refine ⟨.list ps, ?_, ?_, ?_, ?_, ?_⟩
  · show (toRs xs).map PyData.list = _
    rw [e]
    rfl
  · unfold PyData.leavesShort; exact a
  · unfold PyData.showable; exact b
  · unfold PyData.weight; exact Nat.le_trans c (Nat.mul_le_mul_right _ hn)
  · unfold PyData.depth; omega
theorem int_log {i : Int} (h : i.natAbs < 1000000000000) : i.natAbs.log2 < 41 := by
  by_cases h0 : i.natAbs = 0
  · rw [h0]; decide
  · exact (Nat.log2_lt h0).mpr (Nat.lt_of_lt_of_le h (by decide))
theorem pz_int {i : Int} (h : i.natAbs < 1000000000000) : pz 100 0 (.int i) := by
  refine ⟨.int i, rfl, ?_, ?_, ?_, Nat.le_refl _⟩
  · unfold PyData.leavesShort
    have := PyData.shown_int_le (i := i) (by have e : (10 : Nat) ^ 12 = 1000000000000 := by decide
                                             omega)
    exact decide_eq_true (by omega)
  · unfold PyData.showable
    have := int_log h
    exact decide_eq_true (by omega)
  · unfold PyData.weight
    have := int_log h
    split <;> omega
theorem pz_str {z : Str} (h : z.length ≤ 100) (ha : z.cps.toList.all (fun c => decide (c < 128)) = true) : pz 100 0 (.str z) := by
  refine ⟨.str z, rfl, ?_, rfl, h, Nat.le_refl _⟩
  unfold PyData.leavesShort
  rw [List.all_eq_true] at ha ⊢
  intro c hc
  have h1 : c < 128 := of_decide_eq_true (ha c hc)
  have e : (16 : Nat) ^ 8 = 4294967296 := by decide
  exact decide_eq_true (by omega)
theorem pz_non : pz 100 0 .non := ⟨_, rfl, rfl, rfl, Nat.zero_le _, Nat.le_refl _⟩
theorem pz_bl (b : Bool) : pz 100 0 (.bl b) := ⟨_, rfl, rfl, rfl, Nat.zero_le _, Nat.le_refl _⟩
theorem pz_dic : pz 100 1 (.dic []) := ⟨_, rfl, rfl, rfl, Nat.zero_le _, by decide⟩
/-! ### things that stand in rows, and rows -/
def el2 (x : D) : Prop := el x ∧ pz 210 2 x ∧ ∀ xs, x = .tup xs → ∀ y ∈ xs, el y
def con (d : D) (xs : List D) : Prop := d = .tup xs ∨ d = .lst xs
def Row (n : Nat) (d : D) : Prop := (el2 d ∧ ∀ xs, ¬ con d xs) ∨ ∃ xs, con d xs ∧ xs.length ≤ n ∧ ∀ x ∈ xs, el2 x
theorem Row.ro {n : Nat} {d : D} (h : Row n d) : ro d := by
  rcases h with ⟨⟨h1, _, h3⟩, _⟩ | ⟨xs, hc, _, h⟩
  · exact ⟨h1.1, h3⟩
  · rcases hc with rfl | rfl
    · refine ⟨rfl, fun ys e x hx => ?_⟩
      cases e
      exact (h x hx).1
    · exact ⟨rfl, fun ys e => by cases e⟩
theorem Row.mono {n m : Nat} {d : D} (h : Row n d) (hm : n ≤ m) : Row m d := by
  rcases h with h | ⟨xs, hc, hl, h⟩
  · exact .inl h
  · exact .inr ⟨xs, hc, Nat.le_trans hl hm, h⟩
theorem Row.pz {d : D} (h : Row 8 d) : pz 2000 3 d := by
  rcases h with ⟨⟨_, h2, _⟩, _⟩ | ⟨xs, hc, hl, h⟩
  · exact pz_mono h2 (by decide) (by decide)
  · rcases hc with rfl | rfl
    · exact pz_mono (pz_tup (fun x hx => (h x hx).2.1) hl) (by decide) (by decide)
    · exact pz_mono (pz_lst (fun x hx => (h x hx).2.1) hl) (by decide) (by decide)
theorem el2_int {i : Int} (h : i.natAbs < 1000000000000) : el2 (.int i) := ⟨⟨rfl, fun z e => by cases e⟩, pz_mono (pz_int h) (by decide) (by decide), fun _ e => by cases e⟩
theorem el2_str {z : Str} (h : z.length ≤ 100) (ha : z.cps.toList.all (fun c => decide (c < 128)) = true) : el2 (.str z) := ⟨⟨rfl, fun z2 e => by cases e; exact ⟨h, ha⟩⟩, pz_mono (pz_str h ha) (by decide) (by decide), fun _ e => by cases e⟩
theorem el2_non : el2 .non := ⟨⟨rfl, fun z e => by cases e⟩, pz_mono pz_non (by decide) (by decide), fun _ e => by cases e⟩
theorem el2_bl (b : Bool) : el2 (.bl b) := ⟨⟨rfl, fun z e => by cases e⟩, pz_mono (pz_bl b) (by decide) (by decide), fun _ e => by cases e⟩
theorem el2_dic : el2 (.dic []) := ⟨⟨rfl, fun z e => by cases e⟩, pz_mono pz_dic (by decide) (by decide), fun _ e => by cases e⟩
theorem el2_wd {d : D} (h : wd d) : el2 d := by
  obtain ⟨z, rfl, h1, h2⟩ := h
  exact el2_str (by omega) h2.1
/-- a list of rows has a text -/
theorem repr_run {xs : List D} (h : ∀ x ∈ xs, Row 8 x) (hn : xs.length ≤ 40) : ∃ z, reprF [.lst xs] = some (.str z) := by
  obtain ⟨p, e, a, b, c, q⟩ := pz_lst (W := 2000) (k := 3) (n := 40) (fun x hx => (h x hx).pz) hn
  have hz : p.shown.length ≤ sizeLine := by
    have := PyData.shown_le 40 (by decide) p a
    rw [sizeLine_eq]
    omega
  refine ⟨p.shown, ?_⟩
  have f : reprF [.lst xs] = (match toR (.lst xs) with
    | some p => if (tyOf (.lst xs) = some "list" ∨ tyOf (.lst xs) = some "tuple") ∧ p.showable = true ∧ p.shown.length ≤ sizeLine ∧ p.depth ≤ 40 then some (D.str p.shown) else none
    | none => none) := rfl
  rw [f, e]
  exact if_pos ⟨.inl rfl, b, hz, by omega⟩
end FL.K2
set_option Elab.async false
set_option linter.all false
set_option maxRecDepth 100000
set_option maxHeartbeats 4000000
namespace FL.K2
open PySem PySem.Spec PyProof.Rows L2 FL
variable {P : Nat → Addr}
/-! ### rows, as such -/
inductive Rw where
  | fls | does (k : Nat) (w : Str) | nt (i : Nat) | an (i j : Nat) | or (i j : Nat) | sh (k i : Nat)
def enc : Rw → D
  | .fls => .tup [.str "false"]
  | .does k w => .tup [.str "does", .int (k : Nat), .str w]
  | .nt i => .tup [.str "not", .int (i : Nat)]
  | .an i j => .tup [.str "and", .int (i : Nat), .int (j : Nat)]
  | .or i j => .tup [.str "or", .int (i : Nat), .int (j : Nat)]
  | .sh k i => .tup [.str "shown", .int (k : Nat), .int (i : Nat)]
/-- may stand as the row of number n -/
def Rw.ok (n : Nat) : Rw → Prop
  | .fls => True
  | .does k w => k ≤ 3 ∧ lw w
  | .nt i => i < n
  | .an i j => i < n ∧ j < n
  | .or i j => i < n ∧ j < n
  | .sh k i => k ≤ 99 ∧ i < n
/-! ### drawn rows -/
def lPar : AM := aCons (eCall (mf__law_take) (aCons (eVar 0) (aCons (eC (.int 8)) (aNil)))) (aCons (eCall (mf__law_take) (aCons (eVar 0) (aCons (eVar 5) (aNil)))) (aCons (eCall (mf__law_take) (aCons (eVar 0) (aCons (eVar 5) (aNil)))) (aNil)))
def lDoes : EM := eOf tupF1 (aCons (eC (.str "does")) (aCons (eCall (mf__law_pick) (aCons (eVar 0) (aCons (eOf lstF1 (aCons (eC (.int 0)) (aCons (eC (.int 1)) (aCons (eC (.int 1)) (aCons (eC (.int 2)) (aCons (eC (.int 3)) (aNil))))))) (aNil)))) (aCons (eCall (mf__law_pick) (aCons (eVar 0) (aCons (eVar 2) (aNil)))) (aNil))))
def lInner : EM := eCall (mf__law_pick) (aCons (eVar 0) (aCons (eOf lstF1 (aCons (eVar 7) (aCons (eOp subF (eVar 5) (eC (.int 1))) (aNil)))) (aNil)))
def lFour : EM := eOf lstF1 (aCons (eC (.int 0)) (aCons (eC (.int 0)) (aCons (eC (.int 1)) (aCons (eCall (mf__law_take) (aCons (eVar 0) (aCons (eOp addF (eVar 3) (eC (.int 1))) (aNil)))) (aNil)))))
def lShown : EM := eOf tupF1 (aCons (eC (.str "shown")) (aCons (eCall (mf__law_pick) (aCons (eVar 0) (aCons lFour (aNil)))) (aCons (eVar 9) (aNil))))
def lRest : EM := eOp ixF (eOf lstF1 (aCons (eOf tupF1 (aCons (eC (.str "not")) (aCons (eVar 7) (aNil)))) (aCons (eOf tupF1 (aCons (eC (.str "and")) (aCons (eVar 7) (aCons (eVar 8) (aNil))))) (aCons (eOf tupF1 (aCons (eC (.str "or")) (aCons (eVar 7) (aCons (eVar 8) (aNil))))) (aNil))))) (eOp subF (eVar 6) (eC (.int 5)))
def lBody : SM := sSeq (sPar [6, 7, 8] lPar) (sIf (mBl (eOp ltF (eVar 6) (eC (.int 2)))) (sApp 4 lDoes) (sIf (mBl (eOp ltF (eVar 6) (eC (.int 5)))) (sSeq (sSet 9 lInner) (sApp 4 lShown)) (sApp 4 lRest)))
theorem lines_form : m__law_lines = sSeq (sOwn 4 (aCons (eOf tupF1 (aCons (eC (.str "false")) (aNil))) (aNil))) (sSeq (sFor (b1 5) (iOfA rng2F (aCons (eC (.int 1)) (aCons (eVar 1) (aNil)))) lBody) (fun ρ s => (sRet (eVar 4)) (frz 4 ρ) s)) := rfl
def lS (m : Int) (ws : List D) (hi : Int) (found : List D) (a5 a6 a7 a8 a9 : Option Sl) : Sls := [some (.dat .drw), some (.dat (.int m)), some (.dat (.lst ws)), some (.dat (.int hi)), some (.own found), a5, a6, a7, a8, a9]
section
variable {m hi h kd i j : Int} {ws : List D} {s : S}
def lE (m : Int) (ws : List D) (hi : Int) (a5 a6 a7 a8 a9 : Option D) : Env := [some .drw, some (.int m), some (.lst ws), some (.int hi), none, a5, a6, a7, a8, a9]
theorem par_run (g : GS P s) (h1 : 0 < h) (h2 : h < 1000000) (a6 a7 a8 a9 : Option D) : ∃ kd i j s2, lPar (lE m ws hi (some (.int h)) a6 a7 a8 a9) s = .ok [.int kd, .int i, .int j] s2 ∧ (0 ≤ kd ∧ kd < 8) ∧ (0 ≤ i ∧ i < h) ∧ (0 ≤ j ∧ j < h) ∧ GS P s2 := by
  obtain ⟨k, s1, e1, k0, k1, g1⟩ := take_run (n := 8) g (by decide) (by decide)
  obtain ⟨i, s2, e2, i0, i1, g2⟩ := take_run (n := h) g1 h1 (by omega)
  obtain ⟨j, s3, e3, j0, j1, g3⟩ := take_run (n := h) g2 h1 (by omega)
  refine ⟨k, i, j, s3, ?_, ⟨k0, k1⟩, ⟨i0, i1⟩, ⟨j0, j1⟩, g3⟩
  unfold lPar
  rw [aCons_run]
  show ((mf__law_take [.drw, .int 8] s).bind fun x s1 => ((aCons (eCall (mf__law_take) (aCons (eVar 0) (aCons (eVar 5) (aNil)))) (aCons (eCall (mf__law_take) (aCons (eVar 0) (aCons (eVar 5) (aNil)))) (aNil))) (lE m ws hi (some (.int h)) a6 a7 a8 a9) s1).bind fun xs s2 => RE.ok (x :: xs) s2) = _
  rw [e1, bind_ok, aCons_run]
  show (((mf__law_take [.drw, .int h] s1).bind fun x s1 => ((aCons (eCall (mf__law_take) (aCons (eVar 0) (aCons (eVar 5) (aNil)))) (aNil)) (lE m ws hi (some (.int h)) a6 a7 a8 a9) s1).bind fun xs s2 => RE.ok (x :: xs) s2).bind fun xs s2 => RE.ok (D.int k :: xs) s2) = _
  rw [e2, bind_ok, aCons_run]
  show ((((mf__law_take [.drw, .int h] s2).bind fun x s1 => RE.ok [x] s1).bind fun xs s2 => RE.ok (D.int i :: xs) s2).bind fun xs s2 => RE.ok (D.int k :: xs) s2) = _
  rw [e3]
  rfl
theorem tup1 {xs : List D} (h : xs.length ≤ 20) : tupF1 xs = some (.tup xs) := if_pos (Nat.le_trans h (by rw [sizeLine_eq]; decide))
theorem lst1 {xs : List D} (h : xs.length ≤ 40) : lstF1 xs = some (.lst xs) := if_pos (Nat.le_trans h (by rw [sizeLine_eq]; decide))
theorem does_run (g : GS P s) (hw : ∀ d ∈ ws, wd d) (h0 : ws ≠ []) (hl : ws.length ≤ 10) (a5 a6 a7 a8 a9 : Option D) : ∃ x w s2, lDoes (lE m ws hi a5 a6 a7 a8 a9) s = .ok (enc (.does x w)) s2 ∧ x ≤ 3 ∧ lw w ∧ GS P s2 := by
  obtain ⟨x, s1, e1, mx, g1⟩ := pick_run (xs := [.int 0, .int 1, .int 1, .int 2, .int 3]) g (by simp) (by simp)
  obtain ⟨w, s2, e2, mw, g2⟩ := pick_run (xs := ws) g1 h0 (by omega)
  obtain ⟨z, rfl, _, _, hz⟩ := hw w mw
  have hx : ∃ n : Nat, x = .int (n : Nat) ∧ n ≤ 3 := by
    simp only [List.mem_cons, List.not_mem_nil, or_false] at mx
    rcases mx with rfl | rfl | rfl | rfl | rfl
    · exact ⟨0, rfl, by decide⟩
    · exact ⟨1, rfl, by decide⟩
    · exact ⟨1, rfl, by decide⟩
    · exact ⟨2, rfl, by decide⟩
    · exact ⟨3, rfl, by decide⟩
  obtain ⟨n, rfl, hn⟩ := hx
  refine ⟨n, z, s2, ?_, hn, hz, g2⟩
  · unfold lDoes
    rw [eOf_run, aCons_run, eC_run, bind_ok, aCons_run]
    have f1 : (eCall (mf__law_pick) (aCons (eVar 0) (aCons (eOf lstF1 (aCons (eC (.int 0)) (aCons (eC (.int 1)) (aCons (eC (.int 1)) (aCons (eC (.int 2)) (aCons (eC (.int 3)) (aNil))))))) (aNil)))) (lE m ws hi a5 a6 a7 a8 a9) s = .ok (.int (n : Nat)) s1 := by
      have q : (eOf lstF1 (aCons (eC (.int 0)) (aCons (eC (.int 1)) (aCons (eC (.int 1)) (aCons (eC (.int 2)) (aCons (eC (.int 3)) (aNil))))))) (lE m ws hi a5 a6 a7 a8 a9) s = .ok (.lst [.int 0, .int 1, .int 1, .int 2, .int 3]) s := by
        show lift (lstF1 [.int 0, .int 1, .int 1, .int 2, .int 3]) s = _
        rw [lst1 (by simp)]
        rfl
      rw [eCall_run, aCons_run]
      show (((aCons (eOf lstF1 (aCons (eC (.int 0)) (aCons (eC (.int 1)) (aCons (eC (.int 1)) (aCons (eC (.int 2)) (aCons (eC (.int 3)) (aNil))))))) (aNil)) (lE m ws hi a5 a6 a7 a8 a9) s).bind fun xs s2 => RE.ok (D.drw :: xs) s2).bind (fun ds s1 => mf__law_pick ds s1) = _
      rw [aCons_run, q]
      exact e1
    rw [f1, bind_ok, aCons_run]
    show (((((mf__law_pick [.drw, .lst ws] s1).bind fun x s1 => RE.ok [x] s1).bind fun xs s2 => RE.ok (D.int (n : Nat) :: xs) s2).bind fun xs s2 => RE.ok (D.str "does" :: xs) s2).bind fun xs s1 => lift (tupF1 xs) s1) = _
    rw [e2]
    show lift (tupF1 [.str "does", .int (n : Nat), .str z]) s2 = _
    rw [tup1 (by simp)]
    rfl
theorem inner_run (g : GS P s) (h1 : 0 < h) (h2 : h < 1000000) (i0 : 0 ≤ i) (i1 : i < h) (a6 a8 a9 : Option D) : ∃ (x : Nat) (s2 : S), lInner (lE m ws hi (some (.int h)) a6 (some (.int i)) a8 a9) s = .ok (.int (x : Nat)) s2 ∧ (x : Int) < h ∧ GS P s2 := by
  obtain ⟨x, s1, e1, mx, g1⟩ := pick_run (xs := [.int i, .int (h - 1)]) g (by simp) (by simp)
  have hx : ∃ n : Nat, x = .int (n : Nat) ∧ (n : Int) < h := by
    simp only [List.mem_cons, List.not_mem_nil, or_false] at mx
    rcases mx with rfl | rfl
    · exact ⟨i.toNat, by rw [Int.toNat_of_nonneg i0], by omega⟩
    · exact ⟨(h - 1).toNat, by rw [Int.toNat_of_nonneg (by omega)], by omega⟩
  obtain ⟨n, rfl, hn⟩ := hx
  refine ⟨n, s1, ?_, hn, g1⟩
  · have q : (eOf lstF1 (aCons (eVar 7) (aCons (eOp subF (eVar 5) (eC (.int 1))) (aNil)))) (lE m ws hi (some (.int h)) a6 (some (.int i)) a8 a9) s = .ok (.lst [.int i, .int (h - 1)]) s := by
      show lift (lstF1 [.int i, .int (h - 1)]) s = _
      rw [lst1 (by simp)]
      rfl
    unfold lInner
    rw [eCall_run, aCons_run]
    show (((aCons (eOf lstF1 (aCons (eVar 7) (aCons (eOp subF (eVar 5) (eC (.int 1))) (aNil)))) (aNil)) (lE m ws hi (some (.int h)) a6 (some (.int i)) a8 a9) s).bind fun xs s2 => RE.ok (D.drw :: xs) s2).bind (fun ds s1 => mf__law_pick ds s1) = _
    rw [aCons_run, q]
    simp only [bind_ok, aNil_run]
    exact e1
theorem shown_run {x : Nat} (g : GS P s) (hh : 0 ≤ hi) (hh2 : hi ≤ 99) (a5 a6 a7 a8 : Option D) : ∃ (y : Nat) (s2 : S), lShown (lE m ws hi a5 a6 a7 a8 (some (.int (x : Nat)))) s = .ok (enc (.sh y x)) s2 ∧ y ≤ 99 ∧ GS P s2 := by
  obtain ⟨r, s1, e1, r0, r1, g1⟩ := take_run (n := hi + 1) g (by omega) (by omega)
  obtain ⟨y, s2, e2, my, g2⟩ := pick_run (xs := [.int 0, .int 0, .int 1, .int r]) g1 (by simp) (by simp)
  have hy : ∃ n : Nat, y = .int (n : Nat) ∧ n ≤ 99 := by
    simp only [List.mem_cons, List.not_mem_nil, or_false] at my
    rcases my with rfl | rfl | rfl | rfl
    · exact ⟨0, rfl, by decide⟩
    · exact ⟨0, rfl, by decide⟩
    · exact ⟨1, rfl, by decide⟩
    · exact ⟨r.toNat, by rw [Int.toNat_of_nonneg r0], by omega⟩
  obtain ⟨n, rfl, hn⟩ := hy
  refine ⟨n, s2, ?_, hn, g2⟩
  · have q : lFour (lE m ws hi a5 a6 a7 a8 (some (.int (x : Nat)))) s = .ok (.lst [.int 0, .int 0, .int 1, .int r]) s1 := by
      have q0 : (eOp addF (eVar 3) (eC (.int 1))) (lE m ws hi a5 a6 a7 a8 (some (.int (x : Nat)))) s = .ok (.int (hi + 1)) s := rfl
      have q1 : (eVar 0) (lE m ws hi a5 a6 a7 a8 (some (.int (x : Nat)))) s = .ok .drw s := rfl
      unfold lFour
      simp only [eOf_run, aCons_run, eC_run, bind_ok, aNil_run, eCall_run, q0, q1, e1]
      rw [lst1 (by simp), lift_some]
    have q2 : (eCall (mf__law_pick) (aCons (eVar 0) (aCons lFour (aNil)))) (lE m ws hi a5 a6 a7 a8 (some (.int (x : Nat)))) s = .ok (.int (n : Nat)) s2 := by
      show (((lFour (lE m ws hi a5 a6 a7 a8 (some (.int (x : Nat)))) s).bind fun x s1 => RE.ok [x] s1).bind fun xs s2 => RE.ok (D.drw :: xs) s2).bind (fun ds s1 => mf__law_pick ds s1) = _
      rw [q]
      simp only [bind_ok]
      exact e2
    unfold lShown
    rw [eOf_run, aCons_run, eC_run, bind_ok, aCons_run, q2]
    show lift (tupF1 [.str "shown", .int (n : Nat), .int (x : Nat)]) s2 = _
    rw [tup1 (by simp)]
    rfl
theorem kw {z : Str} (h : z ∈ ([("false" : Str), "does", "not", "and", "or", "shown"] : List Str)) : el2 (.str z) := by
  simp only [List.mem_cons, List.not_mem_nil, or_false] at h
  rcases h with rfl | rfl | rfl | rfl | rfl | rfl <;> exact el2_str (by decide +kernel) (by decide +kernel)
theorem rest_run {i j n : Nat} (k0 : 5 ≤ kd) (k1 : kd < 8) (hi0 : i < n) (hj0 : j < n) (a5 a9 : Option D) : ∃ d, lRest (lE m ws hi a5 (some (.int kd)) (some (.int (i : Nat))) (some (.int (j : Nat))) a9) s = .ok (enc d) s ∧ d.ok n := by
  have q : ∀ n : Int, kd = n + 5 → lRest (lE m ws hi a5 (some (.int kd)) (some (.int (i : Nat))) (some (.int (j : Nat))) a9) s = lift (ixF (.lst [.tup [.str "not", .int (i : Nat)], .tup [.str "and", .int (i : Nat), .int (j : Nat)], .tup [.str "or", .int (i : Nat), .int (j : Nat)]]) (.int n)) s := fun n hn => by
    have e : kd - 5 = n := by omega
    have f : lRest (lE m ws hi a5 (some (.int kd)) (some (.int (i : Nat))) (some (.int (j : Nat))) a9) s = lift (ixF (.lst [.tup [.str "not", .int (i : Nat)], .tup [.str "and", .int (i : Nat), .int (j : Nat)], .tup [.str "or", .int (i : Nat), .int (j : Nat)]]) (.int (kd - 5))) s := rfl
    rw [f, e]
  have h3 : kd = 0 + 5 ∨ kd = 1 + 5 ∨ kd = 2 + 5 := by omega
  rcases h3 with h | h | h
  · exact ⟨.nt i, (q _ h).trans rfl, hi0⟩
  · exact ⟨.an i j, (q _ h).trans rfl, hi0, hj0⟩
  · exact ⟨.or i j, (q _ h).trans rfl, hi0, hj0⟩
end
end FL.K2
set_option Elab.async false
set_option linter.all false
set_option maxRecDepth 100000
set_option maxHeartbeats 4000000
namespace FL.K2
open PySem PySem.Spec PyProof.Rows L2 FL
variable {P : Nat → Addr}
section
variable {m hi h : Int} {ws found : List D} {s : S}
theorem lS_dats (a5 a6 a7 a8 a9 : Option Sl) : dats (lS m ws hi found a5 a6 a7 a8 a9) = lE m ws hi (datOf a5) (datOf a6) (datOf a7) (datOf a8) (datOf a9) := rfl
theorem app_run {d : D} {e : EM} {s1 : S} {a5 a6 a7 a8 a9 : Option Sl} (hr : e (lE m ws hi (datOf a5) (datOf a6) (datOf a7) (datOf a8) (datOf a9)) s = .ok d s1) (hf : found.length < 1000) : sApp 4 e (lS m ws hi found a5 a6 a7 a8 a9) s = .nx (lS m ws hi (found ++ [d]) a5 a6 a7 a8 a9) s1 := by
  have ev : runD e (lS m ws hi found a5 a6 a7 a8 a9) s = .ok d s1 := runD_ok hr
  unfold sApp
  show after (runD e (lS m ws hi found a5 a6 a7 a8 a9) s) _ _ = _
  rw [ev]
  show (if found.length < sizeLine then RS.nx _ s1 else .bad) = _
  rw [if_pos (by rw [sizeLine_eq]; omega)]
  rfl
theorem lBody_run {n : Nat} (g : GS P s) (en : h = (n : Nat)) (h1 : 0 < h) (h2 : h < 1000000) (hh : 0 ≤ hi) (hh2 : hi ≤ 99) (hw : ∀ d ∈ ws, wd d) (h0 : ws ≠ []) (hl : ws.length ≤ 10) (hf : found.length < 1000) (a6 a7 a8 a9 : Option Sl) :
    ∃ d b6 b7 b8 b9 s2, lBody (lS m ws hi found (some (.dat (.int h))) a6 a7 a8 a9) s = .nx (lS m ws hi (found ++ [enc d]) (some (.dat (.int h))) b6 b7 b8 b9) s2 ∧ d.ok n ∧ GS P s2 := by
  obtain ⟨kd, i, j, s1, e1, ⟨k0, k1⟩, ⟨i0, i1⟩, ⟨j0, j1⟩, g1⟩ := par_run (m := m) (hi := hi) (ws := ws) g h1 h2 (datOf a6) (datOf a7) (datOf a8) (datOf a9)
  have p1 : sPar [6, 7, 8] lPar (lS m ws hi found (some (.dat (.int h))) a6 a7 a8 a9) s = .nx (lS m ws hi found (some (.dat (.int h))) (some (.dat (.int kd))) (some (.dat (.int i))) (some (.dat (.int j))) a9) s1 := by
    have r1 : runA lPar (lS m ws hi found (some (.dat (.int h))) a6 a7 a8 a9) s = .ok [.int kd, .int i, .int j] s1 := e1
    unfold sPar
    rw [r1]
    rfl
  have t2 : runT (mBl (eOp ltF (eVar 6) (eC (.int 2)))) (lS m ws hi found (some (.dat (.int h))) (some (.dat (.int kd))) (some (.dat (.int i))) (some (.dat (.int j))) a9) s1 = .ok (decide (kd < 2)) s1 := runT_ok rfl
  have t5 : runT (mBl (eOp ltF (eVar 6) (eC (.int 5)))) (lS m ws hi found (some (.dat (.int h))) (some (.dat (.int kd))) (some (.dat (.int i))) (some (.dat (.int j))) a9) s1 = .ok (decide (kd < 5)) s1 := runT_ok rfl
  obtain ⟨iN, rfl⟩ : ∃ q : Nat, i = (q : Nat) := ⟨i.toNat, by omega⟩
  obtain ⟨jN, rfl⟩ : ∃ q : Nat, j = (q : Nat) := ⟨j.toNat, by omega⟩
  unfold lBody
  rw [seq_nx p1]
  by_cases c2 : kd < 2
  · obtain ⟨x, w, s2, e2, hx, hw2, g2⟩ := does_run (m := m) (hi := hi) g1 hw h0 hl (some (.int h)) (some (.int kd)) (some (.int (iN : Nat))) (some (.int (jN : Nat))) (datOf a9)
    refine ⟨_, _, _, _, _, s2, by rw [if_yes (by rw [t2, decide_eq_true c2])]; exact app_run e2 hf, show (Rw.does x w).ok n from ⟨hx, hw2⟩, g2⟩
  · by_cases c5 : kd < 5
    · obtain ⟨x, s2, e2, hx, g2⟩ := inner_run (m := m) (hi := hi) (ws := ws) (i := (iN : Nat)) g1 h1 h2 i0 i1 (some (.int kd)) (some (.int (jN : Nat))) (datOf a9)
      obtain ⟨y, s3, e3, hy, g3⟩ := shown_run (m := m) (hi := hi) (ws := ws) (x := x) g2 hh hh2 (some (.int h)) (some (.int kd)) (some (.int (iN : Nat))) (some (.int (jN : Nat)))
      have p9 : sSet 9 lInner (lS m ws hi found (some (.dat (.int h))) (some (.dat (.int kd))) (some (.dat (.int (iN : Nat)))) (some (.dat (.int (jN : Nat)))) a9) s1 = .nx (lS m ws hi found (some (.dat (.int h))) (some (.dat (.int kd))) (some (.dat (.int (iN : Nat)))) (some (.dat (.int (jN : Nat)))) (some (.dat (.int (x : Nat))))) s2 := by
        have e4 : lInner (dats (lS m ws hi found (some (.dat (.int h))) (some (.dat (.int kd))) (some (.dat (.int (iN : Nat)))) (some (.dat (.int (jN : Nat)))) a9)) s1 = .ok (.int (x : Nat)) s2 := by
          rw [lS_dats]
          exact e2
        rw [set_run (runD_ok e4)]
        rfl
      refine ⟨_, _, _, _, _, s3, by rw [if_no (by rw [t2, decide_eq_false c2]), if_yes (by rw [t5, decide_eq_true c5]), seq_nx p9]; exact app_run e3 hf, show (Rw.sh y x).ok n from ⟨hy, by omega⟩, g3⟩
    · obtain ⟨d, e2, hd⟩ := rest_run (m := m) (hi := hi) (ws := ws) (s := s1) (kd := kd) (i := iN) (j := jN) (n := n) (by omega) k1 (by omega) (by omega) (some (.int h)) (datOf a9)
      exact ⟨d, _, _, _, _, s1, by rw [if_no (by rw [t2, decide_eq_false c2]), if_no (by rw [t5, decide_eq_false c5])]; exact app_run e2 hf, hd, g1⟩
end
/-- each may stand where it stands -/
def okL (rs : List Rw) : Prop := ∀ (i : Nat) (r : Rw), rs[i]? = some r → r.ok i
theorem okL_snoc {rs : List Rw} {r : Rw} (h : okL rs) (hr : r.ok rs.length) : okL (rs ++ [r]) := fun i x e => by
  rcases Nat.lt_trichotomy i rs.length with q | q | q
  · rw [List.getElem?_append_left q] at e
    exact h i x e
  · subst q
    rw [List.getElem?_append_right (Nat.le_refl _), Nat.sub_self] at e
    cases e
    exact hr
  · rw [List.getElem?_eq_none (by rw [List.length_append, List.length_singleton]; omega)] at e
    cases e
theorem lLoop {m hi : Int} {ws : List D} (hh : 0 ≤ hi) (hh2 : hi ≤ 99) (hw : ∀ d ∈ ws, wd d) (h0 : ws ≠ []) (hl : ws.length ≤ 10) : ∀ (is : List Int) (found : List Rw) (a5 a6 a7 a8 a9 : Option Sl) (s : S), GS P s → (∀ (k : Nat) (i : Int), is[k]? = some i → i = ((found.length + k : Nat) : Int)) → okL found → 0 < found.length → found.length + is.length ≤ 900 →
    ∃ rs b5 b6 b7 b8 b9 s2, forL (b1 5) lBody (is.map D.int) (lS m ws hi (found.map enc) a5 a6 a7 a8 a9) s = .nx (lS m ws hi (rs.map enc) b5 b6 b7 b8 b9) s2 ∧ rs.length = found.length + is.length ∧ okL rs ∧ GS P s2 := by
  intro is
  induction is with
  | nil =>
    intro found a5 a6 a7 a8 a9 s g _ hf _ _
    exact ⟨found, a5, a6, a7, a8, a9, s, rfl, rfl, hf, g⟩
  | cons i is ih =>
    intro found a5 a6 a7 a8 a9 s g hi2 hf hp hz
    rw [List.length_cons] at hz
    have ei : i = ((found.length : Nat) : Int) := hi2 0 i rfl
    obtain ⟨d, b6, b7, b8, b9, s2, e, hd, g2⟩ := lBody_run (m := m) (found := found.map enc) (n := found.length) g ei (by omega) (by omega) hh hh2 hw h0 hl (by rw [List.length_map]; omega) a6 a7 a8 a9
    have hf2 : okL (found ++ [d]) := okL_snoc hf hd
    have em : (found ++ [d]).map enc = found.map enc ++ [enc d] := by rw [List.map_append]; rfl
    have hl2 : (found ++ [d]).length = found.length + 1 := by rw [List.length_append, List.length_singleton]
    obtain ⟨rs, c5, c6, c7, c8, c9, s3, e3, l3, w3, g3⟩ := ih (found ++ [d]) (some (.dat (.int i))) b6 b7 b8 b9 s2 g2 (fun k j hj => by rw [hl2, hi2 (k + 1) j hj]; congr 1; omega) hf2 (by omega) (by omega)
    refine ⟨rs, c5, c6, c7, c8, c9, s3, ?_, by rw [l3, hl2, List.length_cons]; omega, w3, g3⟩
    rw [List.map_cons]
    unfold forL
    rw [em] at e3
    show (match lBody (lS m ws hi (found.map enc) (some (.dat (.int i))) a6 a7 a8 a9) s with
      | .nx ρ2 s2 => forL (b1 5) lBody (is.map D.int) ρ2 s2
      | .ct ρ2 s2 => forL (b1 5) lBody (is.map D.int) ρ2 s2
      | .bk ρ2 s2 => RS.nx ρ2 s2
      | .rt d s2 => .rt d s2
      | .ex C fs ρ2 s2 => .ex C fs ρ2 s2
      | .bad => .bad) = _
    rw [e]
    exact e3
theorem lines_run {m : Nat} {hi : Int} {ws : List D} {s : S} (g : GS P s) (hm : 1 ≤ m) (hm2 : m ≤ 100) (hh : 0 ≤ hi) (hh2 : hi ≤ 99) (hw : ∀ d ∈ ws, wd d) (h0 : ws ≠ []) (hl : ws.length ≤ 10) :
    ∃ rs s2, mf__law_lines [.drw, .int (m : Nat), .lst ws, .int hi] s = .ok (.lst (rs.map enc)) s2 ∧ rs.length = m ∧ okL rs ∧ GS P s2 := by
  have hr : rangeD 1 (((m : Nat) : Int) - 1).toNat = ((List.range (((m : Nat) : Int) - 1).toNat).map fun i => (1 : Int) + (i : Nat)).map D.int := by
    unfold rangeD
    rw [List.map_map]
    rfl
  obtain ⟨rs, b5, b6, b7, b8, b9, s2, e, hl2, hw2, g2⟩ := lLoop (m := (m : Nat)) hh hh2 hw h0 hl ((List.range (((m : Nat) : Int) - 1).toNat).map fun i => (1 : Int) + (i : Nat)) [.fls] none none none none none s g (fun k i hi => by
    rw [List.getElem?_map] at hi
    obtain ⟨q, hq, rfl⟩ := Option.map_eq_some_iff.mp hi
    have := List.getElem?_eq_some_iff.mp hq
    obtain ⟨hq1, hq2⟩ := this
    rw [List.getElem_range] at hq2
    subst hq2
    rw [List.length_singleton]
    omega) (fun i r e => by
    match i, e with
    | 0, e => cases e; trivial
    | i + 1, e => cases e) (by decide) (by rw [List.length_map, List.length_range, List.length_singleton]; omega)
  rw [← hr] at e
  refine ⟨rs, s2, fn_rt rfl ?_, by rw [hl2, List.length_map, List.length_range, List.length_singleton]; omega, hw2, g2⟩
  show m__law_lines [some (.dat .drw), some (.dat (.int (m : Nat))), some (.dat (.lst ws)), some (.dat (.int hi)), none, none, none, none, none, none] s = _
  have e0 : sOwn 4 (aCons (eOf tupF1 (aCons (eC (.str "false")) (aNil))) (aNil)) [some (.dat .drw), some (.dat (.int (m : Nat))), some (.dat (.lst ws)), some (.dat (.int hi)), none, none, none, none, none, none] s = .nx (lS (m : Nat) ws hi [.tup [.str "false"]] none none none none none) s := by
    have r0 : runA (aCons (eOf tupF1 (aCons (eC (.str "false")) (aNil))) (aNil)) [some (.dat .drw), some (.dat (.int (m : Nat))), some (.dat (.lst ws)), some (.dat (.int hi)), none, none, none, none, none, none] s = .ok [.tup [.str "false"]] s := by
      unfold runA
      simp only [aCons_run, eOf_run, eC_run, bind_ok, aNil_run]
      rw [tup1 (by simp)]
      rfl
    unfold sOwn
    rw [r0]
    show (if ([D.tup [.str "false"]] : List D).length ≤ sizeLine then RS.nx _ s else .bad) = _
    rw [if_pos (by rw [sizeLine_eq]; decide)]
    rfl
  have e1 : runA (iOfA rng2F (aCons (eC (.int 1)) (aCons (eVar 1) (aNil)))) (lS (m : Nat) ws hi [.tup [.str "false"]] none none none none none) s = .ok (rangeD 1 (((m : Nat) : Int) - 1).toNat) s := by
    have e3 : rng2F [D.int 1, D.int (m : Nat)] = some (rangeD 1 (((m : Nat) : Int) - 1).toNat) := rng2_run (by decide) (by decide) (by omega) (by omega)
    have e4 : (aCons (eC (.int 1)) (aCons (eVar 1) aNil)) (dats (lS (m : Nat) ws hi [.tup [.str "false"]] none none none none none)) s = .ok [.int 1, .int (m : Nat)] s := rfl
    unfold runA
    rw [iOfA_run, e4, bind_ok, e3, lift_some]
  have e2 : sFor (b1 5) (iOfA rng2F (aCons (eC (.int 1)) (aCons (eVar 1) (aNil)))) lBody (lS (m : Nat) ws hi [.tup [.str "false"]] none none none none none) s = .nx (lS (m : Nat) ws hi (rs.map enc) b5 b6 b7 b8 b9) s2 := by
    unfold sFor
    rw [e1]
    exact e
  rw [lines_form, seq_nx e0, seq_nx e2]
  rfl
end FL.K2
set_option Elab.async false
set_option linter.all false
set_option maxRecDepth 100000
set_option maxHeartbeats 4000000
namespace FL.K2
open PySem PySem.Spec PyProof.Rows L2 FL
variable {P : Nat → Addr}
/-! ### rows: what they name, and which look down -/
def Rw.parts : Rw → List Nat
  | .nt i => [i]
  | .an i j => [i, j]
  | .or i j => [i, j]
  | .sh _ i => [i]
  | _ => []
def Rw.isSh : Rw → Bool
  | .sh _ _ => true
  | _ => false
def Rw.isDoes : Rw → Bool
  | .does _ _ => true
  | _ => false
def nI (n : Nat) : D := .int (n : Nat)
theorem ok_parts {r : Rw} {n : Nat} (h : r.ok n) : ∀ p ∈ r.parts, p < n := fun p hp => by
  cases r with
  | fls => cases hp
  | does k w => cases hp
  | nt i => cases List.mem_singleton.mp hp; exact h
  | an i j =>
    simp only [Rw.parts, List.mem_cons, List.not_mem_nil, or_false] at hp
    rcases hp with rfl | rfl
    · exact h.1
    · exact h.2
  | or i j =>
    simp only [Rw.parts, List.mem_cons, List.not_mem_nil, or_false] at hp
    rcases hp with rfl | rfl
    · exact h.1
    · exact h.2
  | sh k i => cases List.mem_singleton.mp hp; exact h.2
theorem parts_len (r : Rw) : r.parts.length ≤ 2 := by cases r <;> simp [Rw.parts]
def Rw.word : Rw → Str
  | .fls => "false"
  | .does _ _ => "does"
  | .nt _ => "not"
  | .an _ _ => "and"
  | .or _ _ => "or"
  | .sh _ _ => "shown"
theorem rword_run (r : Rw) (ρ : Env) (s : S) (e : EM) (h : e ρ s = .ok (enc r) s) : (eOp ixF e (eC (.int 0))) ρ s = .ok (.str r.word) s := by
  rw [eOp_run, h, bind_ok, eC_run, bind_ok]
  cases r <;> rfl
theorem parts_run (r : Rw) (s : S) : mf_parts_of [enc r] s = .ok (.tup (r.parts.map nI)) s := by
  cases r with
  | fls => exact parts_false s
  | does k w =>
    refine fn_rt rfl ?_
    rfl
  | nt i => exact parts_not _ s
  | an i j => exact parts_and _ _ s
  | or i j => exact parts_or _ _ s
  | sh k i => exact parts_shown _ _ s
/-- the row's word, held against shown -/
theorem word_sh (r : Rw) (ρ : Env) (s : S) (e : EM) (h : e ρ s = .ok (enc r) s) : (mBl (eOp eqG (eOp ixF e (eC (.int 0))) (eC (.str "shown")))) ρ s = .ok r.isSh s := by
  rw [mBl_run, eOp_run, eOp_run, h, bind_ok, eC_run, bind_ok]
  cases r <;> rfl
theorem word_does (r : Rw) (ρ : Env) (s : S) (e : EM) (h : e ρ s = .ok (enc r) s) : (eOp neG (eOp ixF e (eC (.int 0))) (eC (.str "does"))) ρ s = .ok (.bl (!r.isDoes)) s := by
  rw [eOp_run, eOp_run, h, bind_ok, eC_run, bind_ok]
  cases r <;> rfl
theorem named_run (r : Rw) (s : S) : mf__law_named [enc r] s = .ok (.lst (r.parts.map nI)) s := by
  refine fn_rt rfl ?_
  show m__law_named [some (.dat (enc r))] s = _
  have e0 : (eOf tupF1 (aCons (eC (.str "false")) (aCons (eC (.str "does")) (aNil)))) [some (enc r)] s = .ok (.tup [.str "false", .str "does"]) s := by
    rw [eOf_run, aCons_run, eC_run, bind_ok, aCons_run, eC_run, bind_ok, aNil_run, bind_ok, bind_ok, bind_ok, tup1 (by simp), lift_some]
  have t : ∀ b : Bool, inG false (.str r.word) (.tup [.str "false", .str "does"]) = some (.bl b) →
      runT (mBl (eOp (inG false) (eOp ixF (eVar 0) (eC (.int 0))) (eOf tupF1 (aCons (eC (.str "false")) (aCons (eC (.str "does")) (aNil)))))) [some (.dat (enc r))] s = .ok b s := fun b h => by
    refine runT_ok ?_
    show (mBl (eOp (inG false) (eOp ixF (eVar 0) (eC (.int 0))) (eOf tupF1 (aCons (eC (.str "false")) (aCons (eC (.str "does")) (aNil)))))) [some (enc r)] s = _
    rw [mBl_run, eOp_run, rword_run r _ s (eVar 0) rfl, bind_ok, e0, bind_ok, h]
    rfl
  have l1 : ∀ x : D, lstF1 [x] = some (.lst [x]) := fun x => lst1 (by simp)
  have lst : ∀ r2 : Rw, (∃ a b, enc r2 = .tup (a :: b) ∧ r2.isSh = false ∧ b = r2.parts.map nI) → (eIf (mBl (eOp eqG (eOp ixF (eVar 0) (eC (.int 0))) (eC (.str "shown")))) (eOf lstF1 (aCons (eOp ixF (eVar 0) (eC (.int 2))) (aNil))) (eOf listF (aCons (eSl slF (eVar 0) (oSome (eC (.int 1))) (oNone)) (aNil)))) [some (enc r2)] s = .ok (.lst (r2.parts.map nI)) s := fun r2 ⟨a, b, h1, h2, h3⟩ => by
    rw [eIf_run, word_sh r2 _ s (eVar 0) rfl, bind_ok, h2]
    rw [if_neg Bool.false_ne_true, ← h3]
    rw [eOf_run, aCons_run, eSl_run]
    have e1 : (eVar 0) [some (enc r2)] s = .ok (.tup (a :: b)) s := by rw [← h1]; rfl
    rw [e1, bind_ok]
    have e2 : (oSome (eC (.int 1))) [some (enc r2)] s = .ok (some 1) s := rfl
    rw [e2, bind_ok, oNone_run, bind_ok]
    have e3 : slF (.tup (a :: b)) (some 1) none = some (.tup b) := by
      show some (D.tup (cutL (a :: b) (some 1) none)) = _
      have : cutL (a :: b) (some 1) none = b := by
        unfold cutL
        have s1 : HT.sIx (a :: b).length 0 (some ((1 : Nat) : Int)) = min 1 (a :: b).length := HT.sIx_nat ..
        have s2 : HT.sIx (a :: b).length (a :: b).length none = (a :: b).length := rfl
        show List.take (HT.sIx (a :: b).length (a :: b).length none - HT.sIx (a :: b).length 0 (some ((1 : Nat) : Int))) (List.drop (HT.sIx (a :: b).length 0 (some ((1 : Nat) : Int))) (a :: b)) = b
        rw [s1, s2]
        simp
      rw [this]
    rw [e3, lift_some, bind_ok, aNil_run, bind_ok, bind_ok]
    rfl
  unfold m__law_named
  cases r with
  | fls =>
    have e1 : (eOf lstF1 (aNil)) (dats [some (.dat (enc .fls))]) s = .ok (.lst []) s := by rw [eOf_run, aNil_run, bind_ok, lst1 (by simp), lift_some]
    exact seq_rt (if_ret (t true rfl) (runD_ok e1))
  | does k w =>
    have e1 : (eOf lstF1 (aNil)) (dats [some (.dat (enc (.does k w)))]) s = .ok (.lst []) s := by rw [eOf_run, aNil_run, bind_ok, lst1 (by simp), lift_some]
    exact seq_rt (if_ret (t true rfl) (runD_ok e1))
  | nt i => rw [seq_nx (if_nx (t false rfl))]; exact ret_run (runD_ok (lst (.nt i) ⟨_, _, rfl, rfl, rfl⟩))
  | an i j => rw [seq_nx (if_nx (t false rfl))]; exact ret_run (runD_ok (lst (.an i j) ⟨_, _, rfl, rfl, rfl⟩))
  | or i j => rw [seq_nx (if_nx (t false rfl))]; exact ret_run (runD_ok (lst (.or i j) ⟨_, _, rfl, rfl, rfl⟩))
  | sh k i =>
    rw [seq_nx (if_nx (t false rfl))]
    refine ret_run (runD_ok ?_)
    show (eIf (mBl (eOp eqG (eOp ixF (eVar 0) (eC (.int 0))) (eC (.str "shown")))) (eOf lstF1 (aCons (eOp ixF (eVar 0) (eC (.int 2))) (aNil))) (eOf listF (aCons (eSl slF (eVar 0) (oSome (eC (.int 1))) (oNone)) (aNil)))) [some (enc (.sh k i))] s = _
    rw [eIf_run, word_sh (.sh k i) _ s (eVar 0) rfl, bind_ok]
    show (eOf lstF1 (aCons (eOp ixF (eVar 0) (eC (.int 2))) (aNil))) [some (enc (.sh k i))] s = _
    have e1 : (eOp ixF (eVar 0) (eC (.int 2))) [some (enc (.sh k i))] s = .ok (nI i) s := rfl
    rw [eOf_run, aCons_run, e1, bind_ok, aNil_run, bind_ok, bind_ok, l1, lift_some]
    rfl
end FL.K2
set_option Elab.async false
set_option linter.all false
set_option maxRecDepth 100000
set_option maxHeartbeats 4000000
namespace FL.K2
open PySem PySem.Spec PyProof.Rows L2 FL
variable {P : Nat → Addr}
/-! ### which rows look down -/
def dnStep (bs : List Bool) (r : Rw) : Bool := r.isSh || (!r.isDoes && r.parts.all fun p => bs.getD p false)
def dn (rs : List Rw) : List Bool := rs.foldl (fun bs r => bs ++ [dnStep bs r]) []
def dAll : EM := eOf allF (aCons (eLc [3] 4 (c1 3) (iOf itemsF (eCall (mf_parts_of) (aCons (eVar 2) (aNil)))) (tYesD) (eOp ixF (eVar 1) (eVar 3))) (aNil))
def dNot : EM := eOp neG (eOp ixF (eVar 2) (eC (.int 0))) (eC (.str "does"))
def dElse : EM := eAnd dNot dAll
def dBody : SM := sIf (mBl (eOp eqG (eOp ixF (eVar 2) (eC (.int 0))) (eC (.str "shown")))) (sApp 1 (eC (.bl true))) (sApp 1 dElse)
theorem downs_form : m_downs = sSeq (sOwn 1 (aNil)) (sSeq (sFor (b1 2) (iOf itemsF (eVar 0)) dBody) (fun ρ s => (sRet (eVar 1)) (frz 1 ρ) s)) := rfl
theorem ix_bool {bs : List Bool} {p : Nat} (h : p < bs.length) : ixF (.lst (bs.map D.bl)) (nI p) = some (.bl (bs.getD p false)) := by
  show atI (bs.map D.bl) ((p : Nat) : Int) = _
  unfold atI
  rw [ix_in (by omega) (by rw [List.length_map]; omega)]
  show (bs.map D.bl)[(p : Int).toNat]? = _
  rw [Int.toNat_natCast, List.getElem?_map, List.getElem?_eq_getElem h]
  show some (D.bl bs[p]) = _
  rw [List.getD_eq_getElem?_getD, List.getElem?_eq_getElem h]
  rfl
theorem all_bools (f : Nat → Bool) : ∀ l : List Nat, bools (l.map fun p => D.bl (f p)) = some (l.map f)
  | [] => rfl
  | p :: l => by
    show (bools (l.map fun p => D.bl (f p))).map (f p :: ·) = _
    rw [all_bools f l]
    rfl
theorem dAll_run {d : D} {bs : List Bool} {r : Rw} {o : Option D} {s : S} (h : ∀ p ∈ r.parts, p < bs.length) : dAll [some d, some (.lst (bs.map D.bl)), some (enc r), o] s = .ok (.bl (r.parts.all fun p => bs.getD p false)) s := by
  have e1 : lcL (c1 3) tYesD (eOp ixF (eVar 1) (eVar 3)) [some d, some (.lst (bs.map D.bl)), some (enc r), none] (r.parts.map nI) s = .ok ((r.parts.map nI).map fun x => match x with | .int i => .bl (bs.getD i.toNat false) | x => x) s := lcL_map fun x hx => by
    obtain ⟨p, hp, rfl⟩ := List.mem_map.mp hx
    refine ⟨[some d, some (.lst (bs.map D.bl)), some (enc r), some (nI p)], rfl, rfl, ?_⟩
    show lift (ixF (.lst (bs.map D.bl)) (nI p)) s = _
    rw [ix_bool (h p hp)]
    rfl
  have e2 : (eLc [3] 4 (c1 3) (iOf itemsF (eCall (mf_parts_of) (aCons (eVar 2) (aNil)))) (tYesD) (eOp ixF (eVar 1) (eVar 3))) [some d, some (.lst (bs.map D.bl)), some (enc r), o] s = .ok (.lst (r.parts.map fun p => .bl (bs.getD p false))) s := by
    have e3 : (iOf itemsF (eCall (mf_parts_of) (aCons (eVar 2) (aNil)))) [some d, some (.lst (bs.map D.bl)), some (enc r), o] s = .ok (r.parts.map nI) s := by
      show ((mf_parts_of [enc r] s).bind fun d s1 => lift (itemsF d) s1) = _
      rw [parts_run]
      rfl
    unfold eLc
    rw [if_pos (show ([some d, some (.lst (bs.map D.bl)), some (enc r), o] : Env).length ≤ 4 from Nat.le_refl 4), e3, bind_ok]
    show lcR (lcL (c1 3) tYesD (eOp ixF (eVar 1) (eVar 3)) [some d, some (.lst (bs.map D.bl)), some (enc r), none] (r.parts.map nI) s) = _
    rw [e1, List.map_map]
    show (if (r.parts.map _).length ≤ sizeLine then RE.ok (D.lst (r.parts.map _)) s else .bad) = _
    rw [if_pos (by rw [List.length_map, sizeLine_eq]; have := parts_len r; omega)]
    rfl
  unfold dAll
  rw [eOf_run, aCons_run, e2, bind_ok, aNil_run, bind_ok, bind_ok]
  show lift ((bools (r.parts.map fun p => D.bl (bs.getD p false))).map fun bs => D.bl (bs.all id)) s = _
  rw [all_bools (fun p => bs.getD p false)]
  show RE.ok (D.bl ((r.parts.map fun p => bs.getD p false).all id)) s = _
  rw [List.all_map]
  rfl
def dS (d : D) (bs : List Bool) (a b : Option Sl) : Sls := [some (.dat d), some (.own (bs.map D.bl)), a, b]
theorem dApp {d : D} {bs : List Bool} {a b : Option Sl} {e : EM} {x : Bool} {s : S} (h : runD e (dS d bs a b) s = .ok (.bl x) s) (hl : bs.length < 100000) : sApp 1 e (dS d bs a b) s = .nx (dS d (bs ++ [x]) a b) s := by
  unfold sApp
  show after (runD e (dS d bs a b) s) _ _ = _
  rw [h]
  show (if (bs.map D.bl).length < sizeLine then RS.nx _ s else .bad) = _
  rw [if_pos (by rw [List.length_map, sizeLine_eq]; omega)]
  unfold dS
  rw [List.map_append]
  rfl
theorem dElse_run {d : D} {bs : List Bool} {r : Rw} {b : Option Sl} {s : S} (h : ∀ p ∈ r.parts, p < bs.length) (hs : r.isSh = false) : runD dElse (dS d bs (some (.dat (enc r))) b) s = .ok (.bl (dnStep bs r)) s := by
  have v2 : ∀ (o1 o3 : Option D), dNot [some d, o1, some (enc r), o3] s = .ok (.bl (!r.isDoes)) s := fun o1 o3 => word_does r _ s (eVar 2) rfl
  have st : dnStep bs r = (!r.isDoes && r.parts.all fun p => bs.getD p false) := by unfold dnStep; rw [hs, Bool.false_or]
  rw [st]
  cases hd : r.isDoes with
  | true =>
    refine runD_ok ?_
    show dElse [some d, none, some (enc r), datOf b] s = _
    unfold dElse
    rw [eAnd_run, v2, bind_ok, hd]
    rfl
  | false =>
    have vis1 : dElse (vis (dS d bs (some (.dat (enc r))) b)) s = .ok (.bl (r.parts.all fun p => bs.getD p false)) s := by
      show dElse [some d, some (.lst (bs.map D.bl)), some (enc r), visOf b] s = _
      unfold dElse
      rw [eAnd_run, v2, bind_ok, hd]
      exact dAll_run h
    have dat1 : dElse (dats (dS d bs (some (.dat (enc r))) b)) s = dAll [some d, none, some (enc r), datOf b] s := by
      show dElse [some d, none, some (enc r), datOf b] s = _
      unfold dElse
      rw [eAnd_run, v2, bind_ok, hd]
      rfl
    have got : runD dElse (dS d bs (some (.dat (enc r))) b) s = .ok (.bl (r.parts.all fun p => bs.getD p false)) s := by
      cases r with
      | fls =>
        refine runD_ok (dat1.trans ?_)
        rfl
      | does k w => cases hd
      | nt i => exact runD_vis (dat1.trans rfl) vis1 rfl
      | an i j => exact runD_vis (dat1.trans rfl) vis1 rfl
      | or i j => exact runD_vis (dat1.trans rfl) vis1 rfl
      | sh k i => cases hs
    rw [got]
    rfl
theorem dBody_run {d : D} {bs : List Bool} {r : Rw} {b : Option Sl} {s : S} (h : ∀ p ∈ r.parts, p < bs.length) (hl : bs.length < 100000) : dBody (dS d bs (some (.dat (enc r))) b) s = .nx (dS d (bs ++ [dnStep bs r]) (some (.dat (enc r))) b) s := by
  have t : runT (mBl (eOp eqG (eOp ixF (eVar 2) (eC (.int 0))) (eC (.str "shown")))) (dS d bs (some (.dat (enc r))) b) s = .ok r.isSh s := runT_ok (word_sh r _ s (eVar 2) rfl)
  unfold dBody
  cases hs : r.isSh with
  | true =>
    rw [hs] at t
    rw [if_yes t]
    have st : dnStep bs r = true := by unfold dnStep; rw [hs, Bool.true_or]
    rw [st]
    exact dApp (runD_ok rfl) hl
  | false =>
    rw [hs] at t
    rw [if_no t]
    exact dApp (dElse_run h hs) hl
theorem dLoop {d : D} {s : S} : ∀ (rs : List Rw) (bs : List Bool) (a b : Option Sl), (∀ (i : Nat) (r : Rw), rs[i]? = some r → r.ok (bs.length + i)) → bs.length + rs.length < 100000 →
    ∃ a2, forL (b1 2) dBody (rs.map enc) (dS d bs a b) s = .nx (dS d (rs.foldl (fun bs r => bs ++ [dnStep bs r]) bs) a2 b) s := by
  intro rs
  induction rs with
  | nil => intro bs a b _ _; exact ⟨a, rfl⟩
  | cons r rs ih =>
    intro bs a b h hl
    rw [List.length_cons] at hl
    have h0 : r.ok bs.length := h 0 r rfl
    obtain ⟨a2, e⟩ := ih (bs ++ [dnStep bs r]) (some (.dat (enc r))) b (fun i x e => by
      have := h (i + 1) x e
      rw [List.length_append, List.length_singleton]
      have e2 : bs.length + 1 + i = bs.length + (i + 1) := by omega
      rw [e2]; exact this) (by rw [List.length_append, List.length_singleton]; omega)
    refine ⟨a2, ?_⟩
    rw [List.map_cons]
    unfold forL
    show (match dBody (dS d bs (some (.dat (enc r))) b) s with
      | .nx ρ2 s2 => forL (b1 2) dBody (rs.map enc) ρ2 s2
      | .ct ρ2 s2 => forL (b1 2) dBody (rs.map enc) ρ2 s2
      | .bk ρ2 s2 => RS.nx ρ2 s2
      | .rt d s2 => .rt d s2
      | .ex C fs ρ2 s2 => .ex C fs ρ2 s2
      | .bad => .bad) = _
    rw [dBody_run (ok_parts h0) (by omega)]
    exact e
theorem downs_run {d : D} {rs : List Rw} {s : S} (hd : lsT d (rs.map enc)) (h : okL rs) (hl : rs.length < 100000) : mf_downs [d] s = .ok (.lst ((dn rs).map D.bl)) s := by
  refine fn_rt rfl ?_
  show m_downs [some (.dat d), none, none, none] s = _
  obtain ⟨a2, e⟩ := dLoop (d := d) (s := s) rs [] none none (fun i r q => by rw [List.length_nil, Nat.zero_add]; exact h i r q) (by rw [List.length_nil]; omega)
  have e0 : sOwn 1 (aNil) [some (.dat d), none, none, none] s = .nx (dS d [] none none) s := by
    unfold sOwn
    show (if ([] : List D).length ≤ sizeLine then RS.nx _ s else .bad) = _
    rw [if_pos (show ([] : List D).length ≤ sizeLine from Nat.zero_le _)]
    rfl
  have e1 : (iOf itemsF (eVar 0)) (dats (dS d [] none none)) s = .ok (rs.map enc) s := by
    rcases hd with rfl | rfl <;> rfl
  rw [downs_form, seq_nx e0]
  have e2 : sFor (b1 2) (iOf itemsF (eVar 0)) dBody (dS d [] none none) s = .nx (dS d (dn rs) a2 none) s := by
    show after (runA (iOf itemsF (eVar 0)) (dS d [] none none) s) _ _ = _
    have : runA (iOf itemsF (eVar 0)) (dS d [] none none) s = .ok (rs.map enc) s := e1
    rw [this, after_ok]
    exact e
  rw [seq_nx e2]
  rfl
end FL.K2
set_option Elab.async false
set_option linter.all false
set_option maxRecDepth 100000
set_option maxHeartbeats 4000000
namespace FL.K2
open PySem PySem.Spec PyProof.Rows L2 FL
variable {P : Nat → Addr} {c : Nat → Addr}
/-! ### good rows are let by -/
theorem lw_txt {z : Str} (h : lw z) : txt z := by
  refine ⟨by have := h.2.1; omega, ?_⟩
  rw [List.all_eq_true]
  intro q hq
  have h2 : q ∈ lett.cps.toList := of_decide_eq_true (List.all_eq_true.mp h.2.2 q hq)
  have h3 : lett.cps.toList.all (fun c => decide (c < 128)) = true := by decide +kernel
  exact List.all_eq_true.mp h3 q h2
theorem lw_word {z : Str} (h : lw z) : wordB (.str z) = true := by
  show ((decide (1 ≤ (z.length : Int)) && decide ((z.length : Int) ≤ 8)) && z.cps.toList.all fun c => decide (c ∈ lett.cps.toList)) = true
  have h1 := h.1
  have h2 := h.2.1
  rw [decide_eq_true (by omega), decide_eq_true (by omega), h.2.2]
  rfl
theorem below_nat {n : Nat} {m : Int} (h : (n : Int) < m) : belowB (.int (n : Nat)) m = true := by
  show (decide (0 ≤ ((n : Nat) : Int)) && decide (((n : Nat) : Int) < m)) = true
  rw [decide_eq_true (by omega), decide_eq_true h]
  rfl
theorem rowB_enc {r : Rw} {n : Nat} (h : r.ok n) : rowB (enc r) n = true := by
  cases r with
  | fls => rfl
  | does k w =>
    show (belowB (.int (k : Nat)) 4 && wordB (.str w)) = true
    have h1 := h.1
    rw [below_nat (by omega), lw_word h.2]
    rfl
  | nt i =>
    show (true && belowB (.int (i : Nat)) n) = true
    have h1 : i < n := h
    rw [below_nat (by omega)]
    rfl
  | an i j =>
    show (belowB (.int (i : Nat)) n && belowB (.int (j : Nat)) n) = true
    have h1 := h.1
    have h2 := h.2
    rw [below_nat (by omega), below_nat (by omega)]
    rfl
  | or i j =>
    show (belowB (.int (i : Nat)) n && belowB (.int (j : Nat)) n) = true
    have h1 := h.1
    have h2 := h.2
    rw [below_nat (by omega), below_nat (by omega)]
    rfl
  | sh k i =>
    show (belowB (.int (k : Nat)) 100 && belowB (.int (i : Nat)) n) = true
    have h1 := h.1
    have h2 := h.2
    rw [below_nat (by omega), below_nat (by omega)]
    rfl
theorem el_nat (n : Nat) : el (.int (n : Nat)) := ⟨rfl, fun z e => by cases e⟩
theorem el_txt {z : Str} (h : txt z) : el (.str z) := ⟨rfl, fun z2 e => by cases e; exact h⟩
theorem ro_enc {r : Rw} {n : Nat} (h : r.ok n) : ro (enc r) := by
  have f : ∀ xs : List D, (∀ x ∈ xs, el x) → ro (.tup xs) := fun xs hx => ⟨rfl, fun ys e => by cases e; exact hx⟩
  have k : ∀ w ∈ ([("false" : Str), "does", "not", "and", "or", "shown"] : List Str), el (.str w) := fun w hw => (kw hw).1
  have two : ∀ (a b : D), el a → el b → ∀ x ∈ [a, b], el x := fun a b ha hb => two_el ha hb
  have three : ∀ (a b d : D), el a → el b → el d → ∀ x ∈ [a, b, d], el x := fun a b d ha hb hd x hx => by
    rcases List.mem_cons.mp hx with rfl | hx
    · exact ha
    · exact two_el hb hd x hx
  cases r with
  | fls => exact f _ fun x hx => by cases List.mem_singleton.mp hx; exact k _ (by simp)
  | does a w => exact f _ (three _ _ _ (k _ (by simp)) (el_nat a) (el_txt (lw_txt h.2)))
  | nt i => exact f _ (two _ _ (k _ (by simp)) (el_nat i))
  | an i j => exact f _ (three _ _ _ (k _ (by simp)) (el_nat i) (el_nat j))
  | or i j => exact f _ (three _ _ _ (k _ (by simp)) (el_nat i) (el_nat j))
  | sh a i => exact f _ (three _ _ _ (k _ (by simp)) (el_nat a) (el_nat i))
theorem first_ok : ∀ (rs : List Rw) (k : Nat), (∀ (i : Nat) (r : Rw), rs[i]? = some r → r.ok (k + i)) → firstBad (rs.map enc) k = none
  | [], _, _ => rfl
  | r :: rs, k, h => by
    have h0 : r.ok k := h 0 r rfl
    show (if rowB (enc r) k = true then firstBad (rs.map enc) (k + 1) else some k) = none
    rw [if_pos (rowB_enc h0)]
    exact first_ok rs (k + 1) fun i x e => by
      have := h (i + 1) x e
      have e2 : k + 1 + i = k + (i + 1) := by omega
      rw [e2]; exact this
theorem okL_take {rs : List Rw} (h : okL rs) (n : Nat) : okL (rs.take n) := fun i r e => by
  rw [List.getElem?_take] at e
  split at e
  · exact h i r e
  · cases e
theorem ro_all {rs : List Rw} (h : okL rs) : ∀ x ∈ rs.map enc, ro x := fun x hx => by
  obtain ⟨r, hr, rfl⟩ := List.mem_map.mp hx
  obtain ⟨i, hi⟩ := List.getElem?_of_mem hr
  exact ro_enc (h i r hi)
theorem needB_ok {rs : List Rw} (h : okL rs) (hl : rs.length ≤ 2000) : needB (rs.map enc) = none := by
  unfold needB
  rw [List.take_of_length_le (by rw [List.length_map]; exact hl), first_ok rs 0 fun i r e => by rw [Nat.zero_add]; exact h i r e]
  rw [List.length_map]
  exact if_neg (by omega)
theorem need_ok {d : D} {rs : List Rw} (hd : lsT d (rs.map enc)) (h : okL rs) (hl : rs.length ≤ 2000) (s : S) : mf_need_rows c [d] s = .ok .non s := by
  rw [need_run hd (ro_all h), needB_ok h hl]
  rfl
/-! ### whether a row looks down -/
theorem dn_snoc (rs : List Rw) (r : Rw) : dn (rs ++ [r]) = dn rs ++ [dnStep (dn rs) r] := by
  unfold dn
  rw [List.foldl_append]
  rfl
theorem dn_app : ∀ (ts rs : List Rw), ∃ bs, dn (rs ++ ts) = dn rs ++ bs ∧ bs.length = ts.length
  | [], rs => ⟨[], by rw [List.append_nil, List.append_nil], rfl⟩
  | t :: ts, rs => by
    obtain ⟨bs, h, hl⟩ := dn_app ts (rs ++ [t])
    refine ⟨dnStep (dn rs) t :: bs, ?_, by rw [List.length_cons, List.length_cons, hl]⟩
    rw [List.append_assoc, List.singleton_append] at h
    rw [h, dn_snoc, List.append_assoc, List.singleton_append]
theorem dn_len (rs : List Rw) : (dn rs).length = rs.length := by
  obtain ⟨bs, h, hl⟩ := dn_app rs []
  rw [List.nil_append] at h
  rw [h]
  show ([] ++ bs : List Bool).length = _
  rw [List.nil_append, hl]
theorem dn_take (rs : List Rw) {n k : Nat} (hn : n < k) (hk : k ≤ rs.length) : (dn (rs.take k)).getD n false = (dn rs).getD n false := by
  obtain ⟨bs, h, _⟩ := dn_app (rs.drop k) (rs.take k)
  rw [List.take_append_drop] at h
  rw [h, List.getD_eq_getElem?_getD, List.getD_eq_getElem?_getD, List.getElem?_append_left]
  rw [dn_len, List.length_take]
  omega
theorem dn_at {rs : List Rw} {n : Nat} {r : Rw} (h : rs[n]? = some r) : (dn rs).getD n false = dnStep (dn (rs.take n)) r := by
  have hn : n < rs.length := by
    rcases Nat.lt_or_ge n rs.length with q | q
    · exact q
    · rw [List.getElem?_eq_none q] at h; cases h
  have e : rs.take (n + 1) = rs.take n ++ [r] := by
    rw [List.take_add_one, h]
    rfl
  rw [← dn_take rs (Nat.lt_succ_self n) hn, e, dn_snoc, List.getD_eq_getElem?_getD, List.getElem?_append_right (by rw [dn_len, List.length_take]; omega), dn_len, List.length_take]
  have : n - min n rs.length = 0 := by omega
  rw [this]
  rfl
theorem cutN {α : Type} (xs : List α) (k : Nat) : cutL xs none (some (k : Int)) = xs.take k := by
  unfold cutL
  show (xs.drop 0).take (HT.sIx xs.length xs.length (some ((k : Nat) : Int)) - 0) = _
  rw [HT.sIx_nat, List.drop_zero, Nat.sub_zero]
  by_cases h : k ≤ xs.length
  · rw [Nat.min_eq_left h]
  · rw [Nat.min_eq_right (by omega), List.take_length, List.take_of_length_le (by omega)]
def kRange : TM := mNot (mBl (eChain leF ltF (eC (.int 0)) (eVar 1) (eOf lenF (aCons (eVar 0) (aNil)))))
def kEnd : EM := eOp ixF (eCall (mf_downs) (aCons (eSl slF (eVar 0) (oNone) (oSome (eOp addF (eVar 1) (eC (.int 1))))) (aNil))) (eVar 1)
def kRest (c : Nat → Addr) : SM := sSeq (sIf (mNot (mTru (eCall (mf_is_number) (aCons (eVar 1) (aNil))))) (sRaise (c 2) "at" (eC (.int 0))) (sNext)) (sSeq (sIf kRange (sRaise (c 2) "at" (eVar 1)) (sNext)) (sRet kEnd))
theorem looks_form : m_looks_down c = sSeq (sDrop (eCall (mf_need_rows c) (aCons (eVar 0) (aNil)))) (kRest c) := rfl
theorem drop_ok {e : EM} {ρ : Sls} {s s1 : S} {d : D} (h : runD e ρ s = .ok d s1) : sDrop e ρ s = .nx ρ s1 := by
  unfold sDrop
  rw [h]
  rfl
theorem drop_ex {e : EM} {ρ : Sls} {s s1 : S} {C : Addr} {fs : List (Str × D)} (h : runD e ρ s = .ex C fs s1) : sDrop e ρ s = .ex C fs ρ s1 := by
  unfold sDrop
  rw [h]
  rfl
theorem call1 {f : FM} {d : D} {ρ : Env} {s : S} {r : RE D} (h : f [d] s = r) (h0 : ρ[0]? = some (some d)) : (eCall f (aCons (eVar 0) (aNil))) ρ s = r := by
  have e : (eVar 0) ρ s = .ok d s := by
    unfold eVar
    rw [h0]
  rw [eCall_run, aCons_run, e, bind_ok, aNil_run, bind_ok, bind_ok, h]
theorem runD_ex {m : EM} {ρ : Sls} {s s1 : S} {C : Addr} {fs : List (Str × D)} (h : m (dats ρ) s = .ex C fs s1) : runD m ρ s = .ex C fs s1 := by
  unfold runD
  rw [h]
section
variable {d x : D} {rs : List Rw} {s : S}
theorem looks_head (hd : lsT d (rs.map enc)) (h : okL rs) (hl : rs.length ≤ 2000) : m_looks_down c [some (.dat d), some (.dat x)] s = kRest c [some (.dat d), some (.dat x)] s := by
  rw [looks_form, seq_nx (drop_ok (runD_ok (call1 (need_ok hd h hl s) rfl)))]
theorem isnum_run (hx : (tyOf x).isSome = true) : runT (mNot (mTru (eCall (mf_is_number) (aCons (eVar 1) (aNil))))) [some (.dat d), some (.dat x)] s = .ok (!numB x) s := runT_ok (by
  show ((mf_is_number [x] s).bind fun d s1 => lift (truD d) s1).bind (fun x s1 => RE.ok (!x) s1) = _
  rw [is_number_run hx]
  rfl)
theorem looks_no (hd : lsT d (rs.map enc)) (h : okL rs) (hl : rs.length ≤ 2000) (hx : (tyOf x).isSome = true) (hn : numB x = false) : mf_looks_down c [d, x] s = .ex (c 2) [("at", .int 0)] s := by
  refine fn_ex (ρ' := [some (.dat d), some (.dat x)]) rfl ?_
  show m_looks_down c [some (.dat d), some (.dat x)] s = _
  rw [looks_head hd h hl]
  unfold kRest
  refine seq_ex ?_
  rw [if_yes (by rw [isnum_run hx, hn]; rfl)]
  rfl
theorem kRange_run (hd : lsT d (rs.map enc)) (i : Int) : runT kRange [some (.dat d), some (.dat (.int i))] s = .ok (!(decide (0 ≤ i) && decide (i < (rs.length : Nat)))) s := runT_ok (by
  have e1 : (eOf lenF (aCons (eVar 0) (aNil))) [some d, some (.int i)] s = .ok (.int (rs.length : Nat)) s := by
    have : ((rs.map enc).length : Nat) = rs.length := List.length_map ..
    rw [← this]
    rcases hd with rfl | rfl <;> rfl
  have e2 : (eChain leF ltF (eC (.int 0)) (eVar 1) (eOf lenF (aCons (eVar 0) (aNil)))) [some d, some (.int i)] s = .ok (.bl (decide (0 ≤ i) && decide (i < (rs.length : Nat)))) s := by
    show (lift (some (D.bl (decide (0 ≤ i)))) s).bind (fun z s3 => match z with
      | .bl true => ((eOf lenF (aCons (eVar 0) (aNil))) [some d, some (.int i)] s3).bind fun w s4 => lift (ltF (.int i) w) s4
      | .bl false => .ok (.bl false) s3
      | _ => .bad) = _
    rw [lift_some, bind_ok]
    cases decide (0 ≤ i) with
    | true =>
      show ((eOf lenF (aCons (eVar 0) (aNil))) [some d, some (.int i)] s).bind (fun w s4 => lift (ltF (.int i) w) s4) = _
      rw [e1]
      rfl
    | false => rfl
  show ((mBl (eChain leF ltF (eC (.int 0)) (eVar 1) (eOf lenF (aCons (eVar 0) (aNil)))) [some d, some (.int i)] s).bind (fun x s1 => RE.ok (!x) s1)) = _
  rw [mBl_run, e2]
  rfl)
theorem looks_off {i : Int} (hd : lsT d (rs.map enc)) (h : okL rs) (hl : rs.length ≤ 2000) (hi : ¬ (0 ≤ i ∧ i < (rs.length : Nat))) : mf_looks_down c [d, .int i] s = .ex (c 2) [("at", .int i)] s := by
  refine fn_ex (ρ' := [some (.dat d), some (.dat (.int i))]) rfl ?_
  show m_looks_down c [some (.dat d), some (.dat (.int i))] s = _
  rw [looks_head hd h hl]
  unfold kRest
  rw [seq_nx (if_nx (by rw [isnum_run rfl]; rfl))]
  refine seq_ex ?_
  have e : (!(decide (0 ≤ i) && decide (i < (rs.length : Nat)))) = true := by
    rw [← Bool.decide_and, decide_eq_false hi]
    rfl
  rw [if_yes (by rw [kRange_run hd, e])]
  rfl
theorem looks_run {n : Nat} (hd : lsT d (rs.map enc)) (h : okL rs) (hl : rs.length ≤ 2000) (hn : n < rs.length) : mf_looks_down c [d, .int (n : Nat)] s = .ok (.bl ((dn rs).getD n false)) s := by
  refine fn_rt rfl ?_
  show m_looks_down c [some (.dat d), some (.dat (.int (n : Nat)))] s = _
  rw [looks_head hd h hl]
  unfold kRest
  have e : (!(decide (0 ≤ ((n : Nat) : Int)) && decide (((n : Nat) : Int) < (rs.length : Nat)))) = false := by
    rw [decide_eq_true (by omega), decide_eq_true (by omega)]
    rfl
  rw [seq_nx (if_nx (by rw [isnum_run rfl]; rfl)), seq_nx (if_nx (by rw [kRange_run hd, e]))]
  refine ret_run (runD_ok ?_)
  show kEnd [some d, some (.int (n : Nat))] s = _
  have e2 : (eSl slF (eVar 0) (oNone) (oSome (eOp addF (eVar 1) (eC (.int 1))))) [some d, some (.int (n : Nat))] s = lift (slF d none (some (((n + 1 : Nat)) : Int))) s := rfl
  have e3 : ∃ d2, slF d none (some (((n + 1 : Nat)) : Int)) = some d2 ∧ lsT d2 ((rs.take (n + 1)).map enc) := by
    rcases hd with rfl | rfl
    · refine ⟨_, rfl, .inl ?_⟩
      rw [cutN, List.map_take]
    · refine ⟨_, rfl, .inr ?_⟩
      rw [cutN, List.map_take]
  obtain ⟨d2, e4, hd2⟩ := e3
  have e5 : (eCall (mf_downs) (aCons (eSl slF (eVar 0) (oNone) (oSome (eOp addF (eVar 1) (eC (.int 1))))) (aNil))) [some d, some (.int (n : Nat))] s = .ok (.lst ((dn (rs.take (n + 1))).map D.bl)) s := by
    rw [eCall_run, aCons_run, e2, e4, lift_some, bind_ok, aNil_run, bind_ok, bind_ok, downs_run hd2 (okL_take h _) (by rw [List.length_take]; omega)]
  unfold kEnd
  rw [eOp_run, e5, bind_ok]
  show lift (ixF (.lst ((dn (rs.take (n + 1))).map D.bl)) (nI n)) s = _
  rw [ix_bool (by rw [dn_len, List.length_take]; omega), dn_take rs (Nat.lt_succ_self n) (by omega), lift_some]
end
end FL.K2
set_option Elab.async false
set_option linter.all false
set_option maxRecDepth 100000
set_option maxHeartbeats 4000000
namespace FL.K2
open PySem PySem.Spec PyProof.Rows L2 FL
variable {P : Nat → Addr} {c : Nat → Addr}
theorem runT_vis {m : TM} {r : Sls} {s s1 : S} {b : Bool} (h0 : m (dats r) s = .bad) (h : m (vis r) s = .ok b s1) : runT m r s = .ok b { s1 with inv := s.inv } := by
  unfold runT
  rw [h0]
  dsimp only
  rw [h]
/-! ### numbers of rows -/
def offB (n : Int) : List D → Nat → Option Nat
  | [], _ => none
  | x :: r, k => if belowB x n = true then offB n r (k + 1) else some k
def bodyS (c : Nat → Addr) : SM := sIf (mNot (mTru (eCall (mf_is_below) (aCons (eVar 3) (aCons (eOf lenF (aCons (eVar 0) (aNil))) (aNil)))))) (sRaise (c 2) "at" (eVar 2)) (sNext)
theorem some_form : m_need_some c = sSeq (sIf (mNot (mTru (eCall (mf_is_list) (aCons (eVar 1) (aNil))))) (sRaise (c 2) "at" (eC (.int 0))) (sNext)) (sFor (bT [2, 3]) (iOf numdF (eVar 1)) (bodyS c)) := rfl
section
variable {d e x : D} {s : S} {n : Nat}
theorem len_run {d : D} {rs : List Rw} (hd : lsT d (rs.map enc)) (ρ : Env) (s : S) (h0 : ρ[0]? = some (some d)) : (eOf lenF (aCons (eVar 0) (aNil))) ρ s = .ok (.int (rs.length : Nat)) s := by
  have e1 : (eVar 0) ρ s = .ok d s := by
    unfold eVar
    rw [h0]
  have e2 : lenF [d] = some (.int (rs.length : Nat)) := by
    have : ((rs.map enc).length : Nat) = rs.length := List.length_map ..
    rw [← this]
    rcases hd with rfl | rfl <;> rfl
  rw [eOf_run, aCons_run, e1, bind_ok, aNil_run, bind_ok, bind_ok, e2, lift_some]
theorem bodyS_run {rs : List Rw} {k : Int} (hd : lsT d (rs.map enc)) (h : (tyOf x).isSome = true) (s : S) : bodyS c [some (.dat d), some (.dat e), some (.dat (.int k)), some (.dat x)] s = if belowB x (rs.length : Nat) = true then .nx [some (.dat d), some (.dat e), some (.dat (.int k)), some (.dat x)] s else .ex (c 2) [("at", .int k)] [some (.dat d), some (.dat e), some (.dat (.int k)), some (.dat x)] s := by
  have q : runT (mNot (mTru (eCall (mf_is_below) (aCons (eVar 3) (aCons (eOf lenF (aCons (eVar 0) (aNil))) (aNil)))))) [some (.dat d), some (.dat e), some (.dat (.int k)), some (.dat x)] s = .ok (!belowB x (rs.length : Nat)) s := runT_ok (by
    have q1 : (eCall (mf_is_below) (aCons (eVar 3) (aCons (eOf lenF (aCons (eVar 0) (aNil))) (aNil)))) [some d, some e, some (.int k), some x] s = .ok (.bl (belowB x (rs.length : Nat))) s := by
      have v : (eVar 3) [some d, some e, some (.int k), some x] s = .ok x s := rfl
      rw [eCall_run, aCons_run, v, bind_ok, aCons_run, len_run hd _ s rfl, bind_ok, aNil_run, bind_ok, bind_ok, bind_ok, is_below_run h]
    show (((eCall (mf_is_below) (aCons (eVar 3) (aCons (eOf lenF (aCons (eVar 0) (aNil))) (aNil)))) [some d, some e, some (.int k), some x] s).bind fun d s1 => lift (truD d) s1).bind (fun x s1 => RE.ok (!x) s1) = _
    rw [q1]
    rfl)
  unfold bodyS
  cases hr : belowB x (rs.length : Nat) with
  | true =>
    rw [hr] at q
    rw [if_nx q, if_pos rfl]
  | false =>
    rw [hr] at q
    rw [if_yes q, if_neg Bool.false_ne_true]
    rfl
theorem loopS {rs : List Rw} (hd : lsT d (rs.map enc)) : ∀ (ys : List D) (k : Nat) (a b : Option Sl), (∀ x ∈ ys, (tyOf x).isSome = true) →
    (offB (rs.length : Nat) ys k = none → ∃ a' b', forL (bT [2, 3]) (bodyS c) (tNum ys k) [some (.dat d), some (.dat e), a, b] s = .nx [some (.dat d), some (.dat e), a', b'] s) ∧
    (∀ i, offB (rs.length : Nat) ys k = some i → ∃ ρ, forL (bT [2, 3]) (bodyS c) (tNum ys k) [some (.dat d), some (.dat e), a, b] s = .ex (c 2) [("at", .int (i : Nat))] ρ s)
  | [], k, a, b, _ => ⟨fun _ => ⟨a, b, rfl⟩, fun i h => by cases h⟩
  | x :: r, k, a, b, h => by
    have hx := h x List.mem_cons_self
    have ih := loopS hd r (k + 1) (some (.dat (.int (k : Nat)))) (some (.dat x)) fun y hy => h y (List.mem_cons_of_mem _ hy)
    have q := bodyS_run (c := c) (e := e) (k := (k : Nat)) hd hx s
    rw [tNum_cons]
    unfold forL offB
    show (_ → ∃ a' b', (match bodyS c [some (.dat d), some (.dat e), some (.dat (.int (k : Nat))), some (.dat x)] s with
      | .nx ρ2 s2 => forL (bT [2, 3]) (bodyS c) (tNum r (k + 1)) ρ2 s2
      | .ct ρ2 s2 => forL (bT [2, 3]) (bodyS c) (tNum r (k + 1)) ρ2 s2
      | .bk ρ2 s2 => RS.nx ρ2 s2
      | .rt d s2 => .rt d s2
      | .ex C fs ρ2 s2 => .ex C fs ρ2 s2
      | .bad => .bad) = _) ∧ ∀ i, _ → ∃ ρ, (match bodyS c [some (.dat d), some (.dat e), some (.dat (.int (k : Nat))), some (.dat x)] s with
      | .nx ρ2 s2 => forL (bT [2, 3]) (bodyS c) (tNum r (k + 1)) ρ2 s2
      | .ct ρ2 s2 => forL (bT [2, 3]) (bodyS c) (tNum r (k + 1)) ρ2 s2
      | .bk ρ2 s2 => RS.nx ρ2 s2
      | .rt d s2 => .rt d s2
      | .ex C fs ρ2 s2 => .ex C fs ρ2 s2
      | .bad => .bad) = _
    rw [q]
    cases hr : belowB x (rs.length : Nat) with
    | true =>
      rw [if_pos rfl, if_pos rfl]
      exact ih
    | false =>
      rw [if_neg Bool.false_ne_true, if_neg Bool.false_ne_true]
      refine ⟨fun z => (by cases z), fun i z => ?_⟩
      cases z
      exact ⟨_, rfl⟩
theorem nsome_run {rs : List Rw} {fs : List D} (hd : lsT d (rs.map enc)) (he : lsT e fs) (h : ∀ x ∈ fs, (tyOf x).isSome = true) (s : S) : mf_need_some c [d, e] s = outN c s (offB (rs.length : Nat) fs 0) := by
  have e1 : runT (mNot (mTru (eCall (mf_is_list) (aCons (eVar 1) (aNil))))) [some (.dat d), some (.dat e), none, none] s = .ok false s := runT_ok (by rcases he with rfl | rfl <;> rfl)
  have e2 : runA (iOf numdF (eVar 1)) [some (.dat d), some (.dat e), none, none] s = .ok (tNum fs 0) s := by
    rw [← numd_tNum]
    rcases he with rfl | rfl <;> rfl
  have hf : ∀ r, sFor (bT [2, 3]) (iOf numdF (eVar 1)) (bodyS c) [some (.dat d), some (.dat e), none, none] s = r ↔ forL (bT [2, 3]) (bodyS c) (tNum fs 0) [some (.dat d), some (.dat e), none, none] s = r := fun r => by
    unfold sFor
    rw [e2]
    exact Iff.rfl
  obtain ⟨l1, l2⟩ := loopS (c := c) (e := e) (s := s) hd fs 0 none none h
  cases hb : offB (rs.length : Nat) fs 0 with
  | some i =>
    obtain ⟨ρ, q⟩ := l2 i hb
    refine fn_ex (ρ' := ρ) rfl ?_
    show m_need_some c [some (.dat d), some (.dat e), none, none] s = _
    rw [some_form, seq_nx (if_nx e1)]
    exact (hf _).mpr q
  | none =>
    obtain ⟨a, b, q⟩ := l1 hb
    refine fn_nx (ρ' := [some (.dat d), some (.dat e), a, b]) rfl ?_
    show m_need_some c [some (.dat d), some (.dat e), none, none] s = _
    rw [some_form, seq_nx (if_nx e1)]
    exact (hf _).mpr q
theorem nsome_no (h : (tyOf e).isSome = true) (hl : ∀ xs, ¬ lsT e xs) (s : S) : mf_need_some c [d, e] s = .ex (c 2) [("at", .int 0)] s := by
  cases e with
  | lst xs => exact absurd (.inl rfl) (hl xs)
  | tup xs => exact absurd (.inr rfl) (hl xs)
  | _ => first | rfl | cases h
end
theorem offB_nats {n : Nat} : ∀ (fs : List Nat) (k : Nat), (∀ p ∈ fs, p < n) → offB (n : Nat) (fs.map nI) k = none
  | [], _, _ => rfl
  | p :: fs, k, h => by
    have h1 := h p List.mem_cons_self
    show (if belowB (.int (p : Nat)) (n : Nat) = true then offB (n : Nat) (fs.map nI) (k + 1) else some k) = none
    rw [if_pos (below_nat (by omega))]
    exact offB_nats fs (k + 1) fun q hq => h q (List.mem_cons_of_mem _ hq)
end FL.K2
set_option Elab.async false
set_option linter.all false
set_option maxRecDepth 100000
set_option maxHeartbeats 4000000
namespace FL.K2
open PySem PySem.Spec PyProof.Rows L2 FL
variable {P : Nat → Addr} {c : Nat → Addr}
/-! ### what some rows hang on: the sweep -/
def mark (hs : List Bool) (ps : List Nat) : List Bool := ps.foldl (fun hs p => hs.set p true) hs
def partsAt (rs : List Rw) (k : Nat) : List Nat := match rs[k]? with
  | some r => r.parts
  | none => []
def sweep (rs : List Rw) : Nat → List Bool → List Bool
  | 0, hs => hs
  | k + 1, hs => sweep rs k (if hs.getD k false = true then mark hs (partsAt rs k) else hs)
def hung (rs : List Rw) (fs : List Nat) : List Bool := sweep rs rs.length (mark (List.replicate rs.length false) fs)
def hangs (rs : List Rw) (fs : List Nat) : List Nat := (List.range rs.length).filter fun p => (hung rs fs).getD p false
theorem mark_len : ∀ (ps : List Nat) (hs : List Bool), (mark hs ps).length = hs.length
  | [], _ => rfl
  | p :: ps, hs => by
    show (mark (hs.set p true) ps).length = _
    rw [mark_len ps, List.length_set]
theorem sweep_len (rs : List Rw) : ∀ (k : Nat) (hs : List Bool), (sweep rs k hs).length = hs.length
  | 0, _ => rfl
  | k + 1, hs => by
    show (sweep rs k (if hs.getD k false = true then mark hs (partsAt rs k) else hs)).length = _
    rw [sweep_len rs k]
    split
    · exact mark_len _ _
    · rfl
theorem revR_succ (n : Nat) : revR (n + 1) = nI n :: revR n := by
  unfold revR
  rw [List.range_succ_eq_map, List.map_cons, List.map_map]
  refine List.cons_eq_cons.mpr ⟨?_, List.map_congr_left fun i _ => ?_⟩
  · show D.int _ = D.int _
    congr 1
    omega
  · show D.int _ = D.int _
    congr 1
    simp only [Nat.succ_eq_add_one]
    omega
theorem rev1_run {j : Int} (h1 : -(2 ^ 62) ≤ j) (h2 : j < 2 ^ 62) : rev1F [.int j] = some (revR j.toNat) := if_pos ⟨h1, h2⟩
theorem rep_one {x : D} {k : Int} (h1 : -(2 ^ 63) ≤ k) (h2 : k < 2 ^ 63) (h3 : [x].length * k.toNat ≤ sizeLine) : repF (.lst [x]) (.int k) = some (.lst (List.replicate k.toNat [x]).flatten) := if_pos ⟨h1, h2, h3⟩
theorem ownR_run {i : Nat} {m1 m2 : EM} {ρ : Sls} {s s1 s2 : S} {d e : D} {xs : List D} (h1 : runD m1 ρ s = .ok d s1) (h2 : runD m2 ρ s1 = .ok e s2) (h3 : repF d e = some (.lst xs)) : sOwnR i m1 m2 ρ s = .nx (ρ.set i (some (.own xs))) s2 := by
  unfold sOwnR
  rw [h1, after_ok, h2, after_ok, h3]
def hS (d e : D) (hs : List Bool) (a b : Option Sl) : Sls := [some (.dat d), some (.dat e), some (.own (hs.map D.bl)), a, b]
section
variable {d e : D} {hs : List Bool} {a b : Option Sl} {s : S} {rs : List Rw}
theorem setI_run {j : Nat} {p : Nat} (hj : runD (eVar j) (hS d e hs a b) s = .ok (nI p) s) (hp : p < hs.length) : sSetI 2 (eVar j) (eC (.bl true)) (hS d e hs a b) s = .nx (hS d e (hs.set p true) a b) s := by
  unfold sSetI
  show after (runD (eC (.bl true)) (hS d e hs a b) s) _ _ = _
  have q : runD (eC (.bl true)) (hS d e hs a b) s = .ok (.bl true) s := rfl
  rw [q]
  show after (runD (eVar j) (hS d e hs a b) s) _ _ = _
  rw [hj]
  show (match ixN (hs.map D.bl).length ((p : Nat) : Int) with
    | some j => RS.nx ((hS d e hs a b).set 2 (some (.own ((hs.map D.bl).set j (.bl true))))) s
    | none => .bad) = _
  rw [ix_in (by omega) (by rw [List.length_map]; omega)]
  show RS.nx ((hS d e hs a b).set 2 (some (.own ((hs.map D.bl).set (p : Int).toNat (.bl true))))) s = _
  rw [Int.toNat_natCast, ← List.map_set]
  rfl
theorem hLoop1 : ∀ (fs : List Nat) (hs : List Bool) (a : Option Sl), (∀ p ∈ fs, p < hs.length) → ∃ a2, forL (b1 3) (sSetI 2 (eVar 3) (eC (.bl true))) (fs.map nI) (hS d e hs a b) s = .nx (hS d e (mark hs fs) a2 b) s
  | [], hs, a, _ => ⟨a, rfl⟩
  | p :: fs, hs, a, h => by
    have h1 := h p List.mem_cons_self
    obtain ⟨a2, q⟩ := hLoop1 fs (hs.set p true) (some (.dat (nI p))) fun x hx => by rw [List.length_set]; exact h x (List.mem_cons_of_mem _ hx)
    refine ⟨a2, ?_⟩
    rw [List.map_cons]
    unfold forL
    show (match sSetI 2 (eVar 3) (eC (.bl true)) (hS d e hs (some (.dat (nI p))) b) s with
      | .nx ρ2 s2 => forL (b1 3) (sSetI 2 (eVar 3) (eC (.bl true))) (fs.map nI) ρ2 s2
      | .ct ρ2 s2 => forL (b1 3) (sSetI 2 (eVar 3) (eC (.bl true))) (fs.map nI) ρ2 s2
      | .bk ρ2 s2 => RS.nx ρ2 s2
      | .rt d s2 => .rt d s2
      | .ex C fs ρ2 s2 => .ex C fs ρ2 s2
      | .bad => .bad) = _
    rw [setI_run rfl h1]
    exact q
theorem hLoop2 : ∀ (fs : List Nat) (hs : List Bool) (b : Option Sl), (∀ p ∈ fs, p < hs.length) → ∃ b2, forL (b1 4) (sSetI 2 (eVar 4) (eC (.bl true))) (fs.map nI) (hS d e hs a b) s = .nx (hS d e (mark hs fs) a b2) s
  | [], hs, b, _ => ⟨b, rfl⟩
  | p :: fs, hs, b, h => by
    have h1 := h p List.mem_cons_self
    obtain ⟨b2, q⟩ := hLoop2 fs (hs.set p true) (some (.dat (nI p))) fun x hx => by rw [List.length_set]; exact h x (List.mem_cons_of_mem _ hx)
    refine ⟨b2, ?_⟩
    rw [List.map_cons]
    unfold forL
    show (match sSetI 2 (eVar 4) (eC (.bl true)) (hS d e hs a (some (.dat (nI p)))) s with
      | .nx ρ2 s2 => forL (b1 4) (sSetI 2 (eVar 4) (eC (.bl true))) (fs.map nI) ρ2 s2
      | .ct ρ2 s2 => forL (b1 4) (sSetI 2 (eVar 4) (eC (.bl true))) (fs.map nI) ρ2 s2
      | .bk ρ2 s2 => RS.nx ρ2 s2
      | .rt d s2 => .rt d s2
      | .ex C fs ρ2 s2 => .ex C fs ρ2 s2
      | .bad => .bad) = _
    rw [setI_run rfl h1]
    exact q
def hParts : AM := iOf itemsF (eCall (mf_parts_of) (aCons (eOp ixF (eVar 0) (eVar 3)) (aNil)))
def hIn : SM := sFor (b1 4) hParts (sSetI 2 (eVar 4) (eC (.bl true)))
def hBody : SM := sIf (mTru (eOp ixF (eVar 2) (eVar 3))) hIn (sNext)
def hBack : EM := eLc [3] 5 (c1 3) (iOfA rng1F (aCons (eOf lenF (aCons (eVar 0) (aNil))) (aNil))) (mTru (eOp ixF (eVar 2) (eVar 3))) (eVar 3)
theorem hangs_form : m_hangs_on c = sSeq (sDrop (eCall (mf_need_rows c) (aCons (eVar 0) (aNil)))) (sSeq (sDrop (eCall (mf_need_some c) (aCons (eVar 0) (aCons (eVar 1) (aNil))))) (sSeq (sOwnR 2 (eOf lstF1 (aCons (eC (.bl false)) (aNil))) (eOf lenF (aCons (eVar 0) (aNil)))) (sSeq (sFor (b1 3) (iOf itemsF (eVar 1)) (sSetI 2 (eVar 3) (eC (.bl true)))) (sSeq (sFor (b1 3) (iOfA rev1F (aCons (eOf lenF (aCons (eVar 0) (aNil))) (aNil))) hBody) (fun ρ s => (sRet hBack) (frz 2 ρ) s))))) := rfl
theorem ix_row {k : Nat} {r : Rw} (hd : lsT d (rs.map enc)) (hr : rs[k]? = some r) : ixF d (nI k) = some (enc r) := by
  have hk : k < rs.length := by
    rcases Nat.lt_or_ge k rs.length with q | q
    · exact q
    · rw [List.getElem?_eq_none q] at hr; cases hr
  have e : atI (rs.map enc) ((k : Nat) : Int) = some (enc r) := by
    unfold atI
    rw [ix_in (by omega) (by rw [List.length_map]; omega)]
    show (rs.map enc)[(k : Int).toNat]? = _
    rw [Int.toNat_natCast, List.getElem?_map, hr]
    rfl
  rcases hd with rfl | rfl <;> exact e
theorem parts_lt (h : okL rs) {k : Nat} : ∀ p ∈ partsAt rs k, p < k := fun p hp => by
  unfold partsAt at hp
  cases hr : rs[k]? with
  | none => rw [hr] at hp; cases hp
  | some r => rw [hr] at hp; exact ok_parts (h k r hr) p hp
theorem hBody_run {k : Nat} (hd : lsT d (rs.map enc)) (h : okL rs) (hk : k < rs.length) (hl : hs.length = rs.length) : ∃ b2, hBody (hS d e hs (some (.dat (nI k))) b) s = .nx (hS d e (if hs.getD k false = true then mark hs (partsAt rs k) else hs) (some (.dat (nI k))) b2) s := by
  have t : runT (mTru (eOp ixF (eVar 2) (eVar 3))) (hS d e hs (some (.dat (nI k))) b) s = .ok (hs.getD k false) s := by
    have := runT_vis (m := mTru (eOp ixF (eVar 2) (eVar 3))) (r := hS d e hs (some (.dat (nI k))) b) (s := s) (s1 := s) (b := hs.getD k false) rfl (by
      show (lift (ixF (.lst (hs.map D.bl)) (nI k)) s).bind (fun d s1 => lift (truD d) s1) = _
      rw [ix_bool (by omega)]
      rfl)
    rw [this]
  obtain ⟨r, hr⟩ : ∃ r, rs[k]? = some r := ⟨_, List.getElem?_eq_getElem hk⟩
  have pe : partsAt rs k = r.parts := by unfold partsAt; rw [hr]
  unfold hBody
  cases hb : hs.getD k false with
  | false =>
    rw [hb] at t
    rw [if_nx t, if_neg Bool.false_ne_true]
    exact ⟨b, rfl⟩
  | true =>
    rw [hb] at t
    rw [if_yes t, if_pos rfl]
    have e1 : runA hParts (hS d e hs (some (.dat (nI k))) b) s = .ok ((partsAt rs k).map nI) s := by
      show (((lift (ixF d (nI k)) s).bind fun x s1 => RE.ok [x] s1).bind fun ds s1 => mf_parts_of ds s1).bind (fun d s1 => lift (itemsF d) s1) = _
      rw [ix_row hd hr, pe]
      show (mf_parts_of [enc r] s).bind (fun d s1 => lift (itemsF d) s1) = _
      rw [parts_run]
      rfl
    obtain ⟨b2, q⟩ := hLoop2 (d := d) (e := e) (a := some (.dat (nI k))) (s := s) (partsAt rs k) hs b fun p hp => by have := parts_lt h p hp; omega
    refine ⟨b2, ?_⟩
    unfold hIn sFor
    rw [e1]
    exact q
theorem hLoop3 (hd : lsT d (rs.map enc)) (h : okL rs) : ∀ (k : Nat) (hs : List Bool) (a b : Option Sl), k ≤ rs.length → hs.length = rs.length → ∃ a2 b2, forL (b1 3) hBody (revR k) (hS d e hs a b) s = .nx (hS d e (sweep rs k hs) a2 b2) s
  | 0, hs, a, b, _, _ => ⟨a, b, rfl⟩
  | k + 1, hs, a, b, hk, hl => by
    obtain ⟨b2, q⟩ := hBody_run (e := e) (hs := hs) (b := b) (s := s) hd h (show k < rs.length by omega) hl
    obtain ⟨a3, b3, q2⟩ := hLoop3 hd h k (if hs.getD k false = true then mark hs (partsAt rs k) else hs) (some (.dat (nI k))) b2 (by omega) (by
      split
      · rw [mark_len]; exact hl
      · exact hl)
    refine ⟨a3, b3, ?_⟩
    rw [revR_succ]
    unfold forL
    show (match hBody (hS d e hs (some (.dat (nI k))) b) s with
      | .nx ρ2 s2 => forL (b1 3) hBody (revR k) ρ2 s2
      | .ct ρ2 s2 => forL (b1 3) hBody (revR k) ρ2 s2
      | .bk ρ2 s2 => RS.nx ρ2 s2
      | .rt d s2 => .rt d s2
      | .ex C fs ρ2 s2 => .ex C fs ρ2 s2
      | .bad => .bad) = _
    rw [q]
    exact q2
theorem rangeD_nats (n : Nat) : rangeD 0 n = (List.range n).map nI := by
  unfold rangeD
  refine List.map_congr_left fun i _ => ?_
  show D.int _ = D.int _
  rw [Int.zero_add]
theorem hBack_run {o1 o3 o4 : Option D} (hd : lsT d (rs.map enc)) (hl : hs.length = rs.length) (h2 : rs.length ≤ 2000) : hBack [some d, o1, some (.lst (hs.map D.bl)), o3, o4] s = .ok (.lst (((List.range rs.length).filter fun p => hs.getD p false).map nI)) s := by
  have e1 : (iOfA rng1F (aCons (eOf lenF (aCons (eVar 0) (aNil))) (aNil))) [some d, o1, some (.lst (hs.map D.bl)), o3, o4] s = .ok (rangeD 0 rs.length) s := by
    have e3 : rng1F [D.int (rs.length : Nat)] = some (rangeD 0 rs.length) := rng1_run (by omega) (by omega)
    show ((aCons (eOf lenF (aCons (eVar 0) (aNil))) (aNil)) [some d, o1, some (.lst (hs.map D.bl)), o3, o4] s).bind (fun d s1 => lift (rng1F d) s1) = _
    rw [aCons_run, len_run hd _ s rfl, bind_ok, aNil_run, bind_ok, bind_ok, e3, lift_some]
  have e2 : lcL (c1 3) (mTru (eOp ixF (eVar 2) (eVar 3))) (eVar 3) [some d, o1, some (.lst (hs.map D.bl)), none, o4] (rangeD 0 rs.length) s = .ok (((rangeD 0 rs.length).filter fun x => match x with | .int i => hs.getD i.toNat false | _ => false).map id) s := lcL_filter fun x hx => by
    rw [rangeD_nats] at hx
    obtain ⟨p, hp, rfl⟩ := List.mem_map.mp hx
    have hp2 := List.mem_range.mp hp
    refine ⟨[some d, o1, some (.lst (hs.map D.bl)), some (nI p), o4], rfl, ?_, fun _ => rfl⟩
    show (lift (ixF (.lst (hs.map D.bl)) (nI p)) s).bind (fun d s1 => lift (truD d) s1) = _
    rw [ix_bool (by omega)]
    rfl
  unfold hBack eLc
  rw [if_pos (show ([some d, o1, some (.lst (hs.map D.bl)), o3, o4] : Env).length ≤ 5 from Nat.le_refl 5), e1, bind_ok]
  show lcR (lcL (c1 3) (mTru (eOp ixF (eVar 2) (eVar 3))) (eVar 3) [some d, o1, some (.lst (hs.map D.bl)), none, o4] (rangeD 0 rs.length) s) = _
  rw [e2, List.map_id, rangeD_nats, List.filter_map]
  show (if (((List.range rs.length).filter (fun p => hs.getD ((p : Nat) : Int).toNat false)).map nI).length ≤ sizeLine then RE.ok (D.lst _) s else .bad) = _
  rw [if_pos]
  · rfl
  · rw [List.length_map, sizeLine_eq]
    have := List.length_filter_le (fun p : Nat => hs.getD ((p : Nat) : Int).toNat false) (List.range rs.length)
    rw [List.length_range] at this
    omega
end
section
variable {d e : D} {rs : List Rw} {s : S}
theorem call2 {f : FM} {d e : D} {ρ : Env} {s : S} {r : RE D} (h : f [d, e] s = r) (h0 : ρ[0]? = some (some d)) (h1 : ρ[1]? = some (some e)) : (eCall f (aCons (eVar 0) (aCons (eVar 1) (aNil)))) ρ s = r := by
  have e0 : (eVar 0) ρ s = .ok d s := by
    unfold eVar
    rw [h0]
  have e1 : (eVar 1) ρ s = .ok e s := by
    unfold eVar
    rw [h1]
  rw [eCall_run, aCons_run, e0, bind_ok, aCons_run, e1, bind_ok, aNil_run, bind_ok, bind_ok, bind_ok, h]
theorem hangs_bad {k : Nat} (hd : lsT d (rs.map enc)) (h : okL rs) (hl : rs.length ≤ 2000) (hb : mf_need_some c [d, e] s = .ex (c 2) [("at", nI k)] s) : mf_hangs_on c [d, e] s = .ex (c 2) [("at", nI k)] s := by
  refine fn_ex (ρ' := [some (.dat d), some (.dat e), none, none, none]) rfl ?_
  show m_hangs_on c [some (.dat d), some (.dat e), none, none, none] s = _
  rw [hangs_form, seq_nx (drop_ok (runD_ok (call1 (need_ok hd h hl s) rfl)))]
  exact seq_ex (drop_ex (runD_ex (call2 hb rfl rfl)))
theorem hangs_run {fs : List Nat} (hd : lsT d (rs.map enc)) (he : lsT e (fs.map nI)) (h : okL rs) (hl : rs.length ≤ 2000) (hf : ∀ p ∈ fs, p < rs.length) : mf_hangs_on c [d, e] s = .ok (.lst ((hangs rs fs).map nI)) s := by
  refine fn_rt rfl ?_
  show m_hangs_on c [some (.dat d), some (.dat e), none, none, none] s = _
  have hn : mf_need_some c [d, e] s = .ok .non s := by
    rw [nsome_run hd he (fun x hx => by obtain ⟨p, _, rfl⟩ := List.mem_map.mp hx; rfl), offB_nats fs 0 hf]
    rfl
  rw [hangs_form, seq_nx (drop_ok (runD_ok (call1 (need_ok hd h hl s) rfl))), seq_nx (drop_ok (runD_ok (call2 hn rfl rfl)))]
  have e1 : sOwnR 2 (eOf lstF1 (aCons (eC (.bl false)) (aNil))) (eOf lenF (aCons (eVar 0) (aNil))) [some (.dat d), some (.dat e), none, none, none] s = .nx (hS d e (List.replicate rs.length false) none none) s := by
    have q1 : runD (eOf lstF1 (aCons (eC (.bl false)) (aNil))) [some (.dat d), some (.dat e), none, none, none] s = .ok (.lst [.bl false]) s := runD_ok (by
      rw [eOf_run, aCons_run, eC_run, bind_ok, aNil_run, bind_ok, bind_ok, lst1 (by simp), lift_some])
    have q2 : runD (eOf lenF (aCons (eVar 0) (aNil))) [some (.dat d), some (.dat e), none, none, none] s = .ok (.int (rs.length : Nat)) s := runD_ok (len_run hd _ s rfl)
    have q3 : repF (.lst [.bl false]) (.int (rs.length : Nat)) = some (.lst ((List.replicate rs.length false).map D.bl)) := by
      rw [rep_one (by omega) (by omega) (by rw [sizeLine_eq, List.length_singleton]; omega), Int.toNat_natCast, List.map_replicate, List.flatten_replicate_singleton]
    exact ownR_run q1 q2 q3
  rw [seq_nx e1]
  obtain ⟨a2, q4⟩ := hLoop1 (d := d) (e := e) (b := none) (s := s) fs (List.replicate rs.length false) none fun p hp => by rw [List.length_replicate]; exact hf p hp
  have e2 : sFor (b1 3) (iOf itemsF (eVar 1)) (sSetI 2 (eVar 3) (eC (.bl true))) (hS d e (List.replicate rs.length false) none none) s = .nx (hS d e (mark (List.replicate rs.length false) fs) a2 none) s := by
    have : runA (iOf itemsF (eVar 1)) (hS d e (List.replicate rs.length false) none none) s = .ok (fs.map nI) s := by rcases he with rfl | rfl <;> rfl
    unfold sFor
    rw [this]
    exact q4
  rw [seq_nx e2]
  obtain ⟨a3, b3, q5⟩ := hLoop3 (e := e) (s := s) hd h rs.length (mark (List.replicate rs.length false) fs) a2 none (Nat.le_refl _) (by rw [mark_len, List.length_replicate])
  have e3 : sFor (b1 3) (iOfA rev1F (aCons (eOf lenF (aCons (eVar 0) (aNil))) (aNil))) hBody (hS d e (mark (List.replicate rs.length false) fs) a2 none) s = .nx (hS d e (hung rs fs) a3 b3) s := by
    have e4 : rev1F [D.int (rs.length : Nat)] = some (revR rs.length) := rev1_run (by omega) (by omega)
    have : runA (iOfA rev1F (aCons (eOf lenF (aCons (eVar 0) (aNil))) (aNil))) (hS d e (mark (List.replicate rs.length false) fs) a2 none) s = .ok (revR rs.length) s := by
      show ((aCons (eOf lenF (aCons (eVar 0) (aNil))) (aNil)) (dats (hS d e (mark (List.replicate rs.length false) fs) a2 none)) s).bind (fun d s1 => lift (rev1F d) s1) = _
      rw [aCons_run, len_run hd _ s rfl, bind_ok, aNil_run, bind_ok, bind_ok, e4, lift_some]
    unfold sFor
    rw [this]
    exact q5
  rw [seq_nx e3]
  show sRet hBack (frz 2 (hS d e (hung rs fs) a3 b3)) s = _
  refine ret_run (runD_ok ?_)
  show hBack [some d, some e, some (.lst ((hung rs fs).map D.bl)), datOf a3, datOf b3] s = _
  rw [hBack_run hd (by unfold hung; rw [sweep_len, mark_len, List.length_replicate]) hl]
  rfl
end
end FL.K2
set_option Elab.async false
set_option linter.all false
set_option maxRecDepth 100000
set_option maxHeartbeats 4000000
namespace FL.K2
open PySem PySem.Spec PyProof.Rows L2 FL
variable {P : Nat → Addr} {c : Nat → Addr}
/-! ### what hangs on what -/
inductive Rch (rs : List Rw) (fs : List Nat) : Nat → Prop
  | base {p : Nat} : p ∈ fs → Rch rs fs p
  | step {q p : Nat} : Rch rs fs q → p ∈ partsAt rs q → Rch rs fs p
theorem get_lt {hs : List Bool} {p : Nat} (h : hs.getD p false = true) : p < hs.length := by
  rcases Nat.lt_or_ge p hs.length with q | q
  · exact q
  · rw [List.getD_eq_getElem?_getD, List.getElem?_eq_none q] at h; cases h
theorem set_get {hs : List Bool} {q p : Nat} : (hs.set q true).getD p false = true ↔ hs.getD p false = true ∨ (p < hs.length ∧ p = q) := by
  rw [List.getD_eq_getElem?_getD, List.getD_eq_getElem?_getD, List.getElem?_set]
  by_cases e : q = p
  · subst e
    rw [if_pos rfl]
    by_cases l : q < hs.length
    · rw [if_pos l]
      exact ⟨fun _ => .inr ⟨l, rfl⟩, fun _ => rfl⟩
    · rw [if_neg l, List.getElem?_eq_none (by omega)]
      exact ⟨fun h => (nomatch h), fun h => h.elim (fun h => (nomatch h)) (fun h => absurd h.1 l)⟩
  · rw [if_neg e]
    exact ⟨fun h => .inl h, fun h => h.elim id (fun h => absurd h.2.symm e)⟩
theorem mark_get : ∀ (ps : List Nat) (hs : List Bool) (p : Nat), (mark hs ps).getD p false = true ↔ hs.getD p false = true ∨ (p < hs.length ∧ p ∈ ps)
  | [], hs, p => ⟨fun h => .inl h, fun h => h.elim id (fun h => nomatch h.2)⟩
  | q :: ps, hs, p => by
    show (mark (hs.set q true) ps).getD p false = true ↔ _
    rw [mark_get ps, set_get, List.length_set, List.mem_cons]
    constructor
    · rintro ((h | h) | h)
      · exact .inl h
      · exact .inr ⟨h.1, .inl h.2⟩
      · exact .inr ⟨h.1, .inr h.2⟩
    · rintro (h | ⟨h1, h2 | h2⟩)
      · exact .inl (.inl h)
      · exact .inl (.inr ⟨h1, h2⟩)
      · exact .inr ⟨h1, h2⟩
theorem sweep_sound {rs : List Rw} {R : Nat → Prop} (hR : ∀ q p, R q → p ∈ partsAt rs q → R p) : ∀ (k : Nat) (hs : List Bool), (∀ p, hs.getD p false = true → R p) → ∀ p, (sweep rs k hs).getD p false = true → R p
  | 0, _, h => h
  | k + 1, hs, h => by
    show ∀ p, (sweep rs k (if hs.getD k false = true then mark hs (partsAt rs k) else hs)).getD p false = true → R p
    refine sweep_sound hR k _ fun p hp => ?_
    by_cases hk : hs.getD k false = true
    · rw [if_pos hk] at hp
      rcases (mark_get _ _ _).mp hp with q | q
      · exact h p q
      · exact hR k p (h k hk) q.2
    · rw [if_neg hk] at hp
      exact h p hp
theorem sweep_closed {rs : List Rw} (ok : okL rs) : ∀ (k : Nat) (hs : List Bool), k ≤ rs.length → hs.length = rs.length → (∀ q, k ≤ q → hs.getD q false = true → ∀ p ∈ partsAt rs q, hs.getD p false = true) →
    (∀ q, (sweep rs k hs).getD q false = true → ∀ p ∈ partsAt rs q, (sweep rs k hs).getD p false = true) ∧ (∀ q, hs.getD q false = true → (sweep rs k hs).getD q false = true)
  | 0, hs, _, _, h => ⟨fun q => h q (Nat.zero_le _), fun _ h => h⟩
  | k + 1, hs, hk, hl, h => by
    have hm : ∀ q, hs.getD q false = true → (if hs.getD k false = true then mark hs (partsAt rs k) else hs).getD q false = true := fun q hq => by
      split
      · exact (mark_get _ _ _).mpr (.inl hq)
      · exact hq
    have ih := sweep_closed ok k (if hs.getD k false = true then mark hs (partsAt rs k) else hs) (by omega) (by
      split
      · rw [mark_len]; exact hl
      · exact hl) (fun q hq hqt p hp => by
      by_cases b : hs.getD k false = true
      · rw [if_pos b] at hqt ⊢
        refine (mark_get _ _ _).mpr ?_
        rcases Nat.lt_or_ge k q with z | z
        · rcases (mark_get _ _ _).mp hqt with y | y
          · exact .inl (h q z y p hp)
          · have := parts_lt ok q y.2
            omega
        · have e : q = k := by omega
          subst e
          have := parts_lt ok p hp
          exact .inr ⟨by omega, hp⟩
      · rw [if_neg b] at hqt ⊢
        rcases Nat.lt_or_ge k q with z | z
        · exact h q z hqt p hp
        · have e : q = k := by omega
          subst e
          exact absurd hqt b)
    exact ⟨ih.1, fun q hq => ih.2 q (hm q hq)⟩
theorem rep_get (n p : Nat) : (List.replicate n false).getD p false = false := by
  rw [List.getD_eq_getElem?_getD, List.getElem?_replicate]
  split <;> rfl
theorem hung_iff {rs : List Rw} {fs : List Nat} (ok : okL rs) (hf : ∀ p ∈ fs, p < rs.length) (p : Nat) : (hung rs fs).getD p false = true ↔ Rch rs fs p := by
  constructor
  · refine sweep_sound (R := Rch rs fs) (fun q p h1 h2 => .step h1 h2) _ _ (fun p hp => ?_) p
    rcases (mark_get _ _ _).mp hp with q | q
    · rw [rep_get] at q; cases q
    · exact .base q.2
  · obtain ⟨c1, c2⟩ := sweep_closed ok rs.length (mark (List.replicate rs.length false) fs) (Nat.le_refl _) (by rw [mark_len, List.length_replicate]) (fun q hq h => by
      have := get_lt h
      rw [mark_len, List.length_replicate] at this
      omega)
    intro h
    induction h with
    | base h => exact c2 _ ((mark_get _ _ _).mpr (.inr ⟨by rw [List.length_replicate]; exact hf _ h, h⟩))
    | step _ h2 ih => exact c1 _ ih _ h2
theorem rch_lt {rs : List Rw} {fs : List Nat} (ok : okL rs) (hf : ∀ p ∈ fs, p < rs.length) {p : Nat} (h : Rch rs fs p) : p < rs.length := by
  induction h with
  | base h => exact hf _ h
  | step _ h2 ih => have := parts_lt ok _ h2; omega
theorem hangs_mem {rs : List Rw} {fs : List Nat} (ok : okL rs) (hf : ∀ p ∈ fs, p < rs.length) (p : Nat) : p ∈ hangs rs fs ↔ Rch rs fs p := by
  unfold hangs
  rw [List.mem_filter, List.mem_range, hung_iff ok hf]
  exact ⟨fun h => h.2, fun h => ⟨rch_lt ok hf h, h⟩⟩
theorem hangs_nodup (rs : List Rw) (fs : List Nat) : (hangs rs fs).Nodup := List.nodup_range.filter _
theorem hangs_rise (rs : List Rw) (fs : List Nat) : (hangs rs fs).Pairwise (· < ·) := List.pairwise_lt_range.filter _
/-- told by the numbers that are come to, in whatever order -/
theorem hangs_sort {rs : List Rw} {fs ks : List Nat} (ok : okL rs) (hf : ∀ p ∈ fs, p < rs.length) (hn : ks.Nodup) (h : ∀ p, p ∈ ks ↔ Rch rs fs p) : (sortI (ks.map fun k : Nat => (k : Int))).map D.int = (hangs rs fs).map nI := by
  have pm : (hangs rs fs).Perm ks := (List.perm_ext_iff_of_nodup (hangs_nodup rs fs) hn).mpr fun p => by rw [hangs_mem ok hf, h]
  rw [← sortI_uniq (ys := (hangs rs fs).map fun k : Nat => (k : Int)) (pm.map _) (List.pairwise_map.mpr ((hangs_rise rs fs).imp fun h => by omega)), List.map_map]
  rfl
/-! ### the showns among these -/
def shAt (rs : List Rw) (p : Nat) : Bool := match rs[p]? with
  | some r => r.isSh
  | none => false
def shList (d : D) : TM := mBl (eOp eqG (eOp ixF (eOp ixF (eVar 0) (eVar 2)) (eC (.int 0))) (eC (.str "shown")))
section
variable {d e : D} {rs : List Rw} {s : S}
theorem showns_form : m_showns c = sRet (eLc [2] 3 (c1 2) (iOf itemsF (eCall (mf_hangs_on c) (aCons (eVar 0) (aCons (eVar 1) (aNil))))) (mBl (eOp eqG (eOp ixF (eOp ixF (eVar 0) (eVar 2)) (eC (.int 0))) (eC (.str "shown")))) (eVar 2)) := rfl
theorem showns_bad {k : Nat} (h : mf_hangs_on c [d, e] s = .ex (c 2) [("at", nI k)] s) : mf_showns c [d, e] s = .ex (c 2) [("at", nI k)] s := by
  refine fn_ex (ρ' := [some (.dat d), some (.dat e), none]) rfl ?_
  show m_showns c [some (.dat d), some (.dat e), none] s = _
  rw [showns_form]
  have q : runD (eLc [2] 3 (c1 2) (iOf itemsF (eCall (mf_hangs_on c) (aCons (eVar 0) (aCons (eVar 1) (aNil))))) (mBl (eOp eqG (eOp ixF (eOp ixF (eVar 0) (eVar 2)) (eC (.int 0))) (eC (.str "shown")))) (eVar 2)) [some (.dat d), some (.dat e), none] s = .ex (c 2) [("at", nI k)] s := runD_ex (by
    unfold eLc
    rw [if_pos (show (dats [some (.dat d), some (.dat e), none]).length ≤ 3 from Nat.le_refl 3)]
    show (((eCall (mf_hangs_on c) (aCons (eVar 0) (aCons (eVar 1) (aNil)))) [some d, some e, none] s).bind fun d s1 => lift (itemsF d) s1).bind _ = _
    rw [call2 h rfl rfl]
    rfl)
  rw [sRet_run, q]
  rfl
theorem showns_run {hs : List Nat} (hd : lsT d (rs.map enc)) (hl : hs.length ≤ 2000) (hp : ∀ p ∈ hs, p < rs.length) (h : mf_hangs_on c [d, e] s = .ok (.lst (hs.map nI)) s) : mf_showns c [d, e] s = .ok (.lst ((hs.filter (shAt rs)).map nI)) s := by
  refine fn_rt rfl ?_
  show m_showns c [some (.dat d), some (.dat e), none] s = _
  rw [showns_form]
  refine ret_run (runD_ok ?_)
  show (eLc [2] 3 (c1 2) (iOf itemsF (eCall (mf_hangs_on c) (aCons (eVar 0) (aCons (eVar 1) (aNil))))) (mBl (eOp eqG (eOp ixF (eOp ixF (eVar 0) (eVar 2)) (eC (.int 0))) (eC (.str "shown")))) (eVar 2)) [some d, some e, none] s = _
  have e1 : (iOf itemsF (eCall (mf_hangs_on c) (aCons (eVar 0) (aCons (eVar 1) (aNil))))) [some d, some e, none] s = .ok (hs.map nI) s := by
    show ((eCall (mf_hangs_on c) (aCons (eVar 0) (aCons (eVar 1) (aNil)))) [some d, some e, none] s).bind (fun d s1 => lift (itemsF d) s1) = _
    rw [call2 h rfl rfl]
    rfl
  have e2 : lcL (c1 2) (mBl (eOp eqG (eOp ixF (eOp ixF (eVar 0) (eVar 2)) (eC (.int 0))) (eC (.str "shown")))) (eVar 2) [some d, some e, none] (hs.map nI) s = .ok (((hs.map nI).filter fun x => match x with | .int i => shAt rs i.toNat | _ => false).map id) s := lcL_filter fun x hx => by
    obtain ⟨p, hp1, rfl⟩ := List.mem_map.mp hx
    obtain ⟨r, hr⟩ : ∃ r, rs[p]? = some r := ⟨_, List.getElem?_eq_getElem (hp p hp1)⟩
    refine ⟨[some d, some e, some (nI p)], rfl, ?_, fun _ => rfl⟩
    have q : (eOp ixF (eVar 0) (eVar 2)) [some d, some e, some (nI p)] s = .ok (enc r) s := by
      show lift (ixF d (nI p)) s = _
      rw [ix_row hd hr, lift_some]
    rw [word_sh r _ s _ q]
    show _ = RE.ok (shAt rs ((p : Nat) : Int).toNat) s
    rw [Int.toNat_natCast]
    unfold shAt
    rw [hr]
  unfold eLc
  rw [if_pos (show ([some d, some e, none] : Env).length ≤ 3 from Nat.le_refl 3), e1, bind_ok]
  show lcR (lcL (c1 2) (mBl (eOp eqG (eOp ixF (eOp ixF (eVar 0) (eVar 2)) (eC (.int 0))) (eC (.str "shown")))) (eVar 2) [some d, some e, none] (hs.map nI) s) = _
  rw [e2, List.map_id, List.filter_map]
  show (if ((hs.filter (fun p => shAt rs ((p : Nat) : Int).toNat)).map nI).length ≤ sizeLine then RE.ok (D.lst _) s else .bad) = _
  rw [if_pos]
  · rfl
  · rw [List.length_map, sizeLine_eq]
    have := List.length_filter_le (fun p : Nat => shAt rs ((p : Nat) : Int).toNat) hs
    omega
end
end FL.K2
set_option Elab.async false
set_option linter.all false
set_option maxRecDepth 100000
set_option maxHeartbeats 4000000
namespace FL.K2
open PySem PySem.Spec PyProof.Rows L2 FL
/-! ### what looking down means -/
def doesAt (rs : List Rw) (p : Nat) : Bool := match rs[p]? with
  | some r => r.isDoes
  | none => false
inductive Thr (rs : List Rw) (n : Nat) : Nat → Prop
  | base : Thr rs n n
  | step {q p : Nat} : Thr rs n q → shAt rs q = false → p ∈ partsAt rs q → Thr rs n p
theorem thr_front {rs : List Rw} {n p q : Nat} (hs : shAt rs n = false) (hp : p ∈ partsAt rs n) (h : Thr rs p q) : Thr rs n q := by
  induction h with
  | base => exact .step .base hs hp
  | step _ h2 h3 ih => exact .step ih h2 h3
theorem thr_head {rs : List Rw} {n q : Nat} (h : Thr rs n q) : q = n ∨ (shAt rs n = false ∧ ∃ p ∈ partsAt rs n, Thr rs p q) := by
  induction h with
  | base => exact .inl rfl
  | step h1 h2 h3 ih =>
    rcases ih with rfl | ⟨h4, p, h5, h6⟩
    · exact .inr ⟨h2, _, h3, .base⟩
    · exact .inr ⟨h4, p, h5, .step h6 h2 h3⟩
theorem dn_iff {rs : List Rw} (ok : okL rs) : ∀ (m n : Nat), n < m → n < rs.length → ((dn rs).getD n false = true ↔ ∀ q, Thr rs n q → doesAt rs q = false)
  | 0, n, h, _ => absurd h (Nat.not_lt_zero n)
  | m + 1, n, hm, hn => by
    obtain ⟨r, hr⟩ : ∃ r, rs[n]? = some r := ⟨_, List.getElem?_eq_getElem hn⟩
    have pe : partsAt rs n = r.parts := by unfold partsAt; rw [hr]
    have se : shAt rs n = r.isSh := by unfold shAt; rw [hr]
    have de : doesAt rs n = r.isDoes := by unfold doesAt; rw [hr]
    have al : (r.parts.all fun p => (dn (rs.take n)).getD p false) = r.parts.all fun p => (dn rs).getD p false := by
      rw [Bool.eq_iff_iff, List.all_eq_true, List.all_eq_true]
      refine forall_congr' fun p => forall_congr' fun hp => ?_
      rw [dn_take rs (ok_parts (ok n r hr) p hp) (by omega)]
    rw [dn_at hr]
    unfold dnStep
    rw [al]
    cases hs : r.isSh with
    | true =>
      rw [Bool.true_or]
      refine ⟨fun _ q hq => ?_, fun _ => rfl⟩
      rcases thr_head hq with rfl | ⟨h4, _⟩
      · rw [de]
        cases r <;> first | rfl | cases hs
      · rw [se, hs] at h4; cases h4
    | false =>
      rw [Bool.false_or, Bool.and_eq_true, List.all_eq_true]
      constructor
      · rintro ⟨h1, h2⟩ q hq
        rcases thr_head hq with rfl | ⟨_, p, h5, h6⟩
        · rw [de]
          cases hd : r.isDoes with
          | true => rw [hd] at h1; cases h1
          | false => rfl
        · rw [pe] at h5
          have lt := ok_parts (ok n r hr) p h5
          exact (dn_iff ok m p (by omega) (by omega)).mp (h2 p h5) q h6
      · intro h
        refine ⟨?_, fun p hp => ?_⟩
        · have := h n .base
          rw [de] at this
          rw [this]
          rfl
        · have lt := ok_parts (ok n r hr) p hp
          exact (dn_iff ok m p (by omega) (by omega)).mpr fun q hq => h q (thr_front (by rw [se]; exact hs) (by rw [pe]; exact hp) hq)
end FL.K2
set_option Elab.async false
set_option linter.all false
set_option maxRecDepth 100000
set_option maxHeartbeats 4000000
namespace FL.K2
open PySem PySem.Spec PyProof.Rows L2 FL
/-! ### lists of numbers, dicts of numbers -/
def pN (p : Nat) : PyData := .int (p : Nat)
theorem toPs_nats : ∀ w : List Nat, toPs (w.map nI) = some (w.map pN)
  | [] => rfl
  | p :: w => by
    show (match toP (nI p), toPs (w.map nI) with
      | some p, some ps => some (p :: ps)
      | _, _ => none) = _
    rw [toPs_nats w]
    rfl
theorem lay_nats : ∀ w : List Nat, PyData.canLayAll0 (w.map pN) = true ∧ PyData.depthAll (w.map pN) = 0
  | [] => ⟨rfl, rfl⟩
  | p :: w => by
    obtain ⟨h1, h2⟩ := lay_nats w
    rw [List.map_cons]
    constructor
    · simp only [PyData.canLayAll0, h1, pN, PyData.canLay0, Bool.and_self]
    · simp only [PyData.depthAll, h2, pN, PyData.depth, Nat.max_self]
theorem shape_nats (w : List Nat) : SeqAt.shaped (.list (w.map pN)) = true := by
  obtain ⟨h1, h2⟩ := lay_nats w
  unfold SeqAt.shaped
  rw [Bool.and_eq_true]
  refine ⟨?_, decide_eq_true ?_⟩
  · simp only [PyData.canLay0, h1]
  · simp only [PyData.depth, h2]
    decide
theorem toP_nats (w : List Nat) : toP (.lst (w.map nI)) = some (.list (w.map pN)) := by
  simp only [toP, toPs_nats, Option.map_some]
theorem ne_nats (w v : List Nat) : neG (.lst (w.map nI)) (.lst (v.map nI)) = some (.bl (!PyData.eqv (.list (w.map pN)) (.list (v.map pN)))) := by
  show neF (.lst (w.map nI)) (.lst (v.map nI)) = _
  unfold neF
  rw [toP_nats, toP_nats]
  exact if_pos ⟨shape_nats w, shape_nats v⟩
theorem ne_nil_run (w : List Nat) : neG (.lst (w.map nI)) (.lst []) = some (.bl (!w.isEmpty)) := by
  have := ne_nats w []
  rw [List.map_nil] at this
  rw [this]
  cases w with
  | nil => simp [PyData.eqv, PyData.eqvAll]
  | cons p w => simp [PyData.eqv, PyData.eqvAll]
def kv (ms : List Nat) : List (Key × D) := ms.map fun p => (.inl ((p : Nat) : Int), .bl true)
theorem kv_any (ms : List Nat) (q : Nat) : ((kv ms).any fun x => decide (x.1 = .inl ((q : Nat) : Int))) = decide (q ∈ ms) := by
  unfold kv
  rw [List.any_map]
  rw [Bool.eq_iff_iff, List.any_eq_true, decide_eq_true_iff]
  constructor
  · rintro ⟨p, hp, h⟩
    have h2 : (Sum.inl ((p : Nat) : Int) : Key) = .inl ((q : Nat) : Int) := of_decide_eq_true h
    have h3 : ((p : Nat) : Int) = (q : Nat) := Sum.inl.inj h2
    have h4 : p = q := by omega
    exact h4 ▸ hp
  · intro h
    exact ⟨q, h, decide_eq_true rfl⟩
def put (ms : List Nat) (q : Nat) : List Nat := if q ∈ ms then ms else ms ++ [q]
theorem kv_put (ms : List Nat) (q : Nat) : putD (kv ms) (.inl ((q : Nat) : Int)) (.bl true) = kv (put ms q) := by
  unfold putD put
  rw [kv_any]
  by_cases h : q ∈ ms
  · rw [if_pos (decide_eq_true h), if_pos h]
    unfold kv
    rw [List.map_map]
    refine List.map_congr_left fun p _ => ?_
    show (if (Sum.inl ((p : Nat) : Int) : Key) = .inl ((q : Nat) : Int) then _ else _) = _
    split <;> rfl
  · rw [if_neg (by rw [decide_eq_false h]; exact Bool.false_ne_true), if_neg h]
    unfold kv
    rw [List.map_append]
    rfl
def unm (l ms : List Nat) : Nat := (l.filter fun p => !decide (p ∈ ms)).length
theorem unm_cons (p : Nat) (l ms : List Nat) : unm (p :: l) ms = (if p ∈ ms then 0 else 1) + unm l ms := by
  unfold unm
  rw [List.filter_cons]
  by_cases h : p ∈ ms
  · rw [if_neg (by simp [h]), if_pos h, Nat.zero_add]
  · rw [if_pos (by simp [h]), if_neg h, List.length_cons, Nat.add_comm]
theorem unm_le (q : Nat) (ms : List Nat) : ∀ l : List Nat, unm l (ms ++ [q]) ≤ unm l ms
  | [] => Nat.le_refl _
  | p :: l => by
    have ih := unm_le q ms l
    rw [unm_cons, unm_cons]
    by_cases h : p ∈ ms
    · rw [if_pos h, if_pos (List.mem_append_left _ h)]
      omega
    · rw [if_neg h]
      split <;> omega
theorem unm_lt {q : Nat} {ms : List Nat} (hm : q ∉ ms) : ∀ l : List Nat, q ∈ l → unm l (ms ++ [q]) + 1 ≤ unm l ms
  | p :: l, h => by
    rw [unm_cons, unm_cons]
    have le := unm_le q ms l
    by_cases e : p = q
    · subst e
      rw [if_pos (by simp), if_neg hm]
      omega
    · have ih := unm_lt hm l (by
        rcases List.mem_cons.mp h with z | z
        · exact absurd z.symm e
        · exact z)
      by_cases h2 : p ∈ ms
      · rw [if_pos h2, if_pos (List.mem_append_left _ h2)]
        omega
      · rw [if_neg h2, if_neg (by simp [h2, e])]
        omega
theorem unm_top (l : List Nat) : unm l [] ≤ l.length := List.length_filter_le _ _
/-! ### the law's own walk: does it look down -/
def dTest : TM := mBl (eOp neG (eVar 3) (eOf lstF1 (aNil)))
def dDoes : TM := mBl (eOp eqG (eOp ixF (eOp ixF (eVar 0) (eVar 5)) (eC (.int 0))) (eC (.str "does")))
def dOpen : TM := mAnd (mBl (eOp (dinF true) (eVar 5) (eVar 4))) (mBl (eOp neG (eOp ixF (eOp ixF (eVar 0) (eVar 5)) (eC (.int 0))) (eC (.str "shown"))))
def dName : EM := eCall (mf__law_named) (aCons (eOp ixF (eVar 0) (eVar 5)) (aNil))
def dWalk : SM := sSeq (sPop 5 3) (sSeq (sIf dDoes (sRet (eC (.bl false))) (sNext)) (sSeq (sIf dOpen (sExt 3 dName) (sNext)) (sDSet 4 (eVar 5) (eC (.bl true)))))
theorem isdown_form : m__law_is_down = sSeq (sP3 2 3 4 (aNil) (aCons (eVar 1) (aNil))) (sSeq (sWhile 1000000 dTest dWalk) (sRet (eC (.bl true)))) := rfl
def wD (d : D) (n : Nat) (ws ms : List Nat) (o : Option Sl) : Sls := [some (.dat d), some (.dat (nI n)), some (.own []), some (.own (ws.map nI)), some (.odc (kv ms)), o]
section
variable {d : D} {rs : List Rw} {n q : Nat} {ws ms : List Nat} {o : Option Sl} {s : S} {r : Rw}
theorem dTest_run : runT dTest (wD d n ws ms o) s = .ok (!ws.isEmpty) s := by
  have e0 : (eOf lstF1 (aNil)) (vis (wD d n ws ms o)) s = .ok (.lst []) s := by rw [eOf_run, aNil_run, bind_ok, lst1 (by simp), lift_some]
  have := runT_vis (m := dTest) (r := wD d n ws ms o) (s := s) (s1 := s) (b := !ws.isEmpty) rfl (by
    have v : (eVar 3) (vis (wD d n ws ms o)) s = .ok (.lst (ws.map nI)) s := rfl
    unfold dTest
    rw [mBl_run, eOp_run, v, bind_ok, e0, bind_ok, ne_nil_run]
    rfl)
  rw [this]
theorem word_eq_does (r : Rw) (ρ : Env) (s : S) (e : EM) (h : e ρ s = .ok (enc r) s) : (mBl (eOp eqG (eOp ixF e (eC (.int 0))) (eC (.str "does")))) ρ s = .ok r.isDoes s := by
  rw [mBl_run, eOp_run, eOp_run, h, bind_ok, eC_run, bind_ok]
  cases r <;> rfl
theorem word_ne_sh (r : Rw) (ρ : Env) (s : S) (e : EM) (h : e ρ s = .ok (enc r) s) : (mBl (eOp neG (eOp ixF e (eC (.int 0))) (eC (.str "shown")))) ρ s = .ok (!r.isSh) s := by
  rw [mBl_run, eOp_run, eOp_run, h, bind_ok, eC_run, bind_ok]
  cases r <;> rfl
theorem dPop_run : sPop 5 3 (wD d n (ws ++ [q]) ms o) s = .nx (wD d n ws ms (some (.dat (nI q)))) s := by
  unfold sPop
  show (match ((ws ++ [q]).map nI).getLast? with
    | some x => RS.nx (((wD d n (ws ++ [q]) ms o).set 3 (some (.own ((ws ++ [q]).map nI).dropLast))).set 5 (some (.dat x))) s
    | none => .bad) = _
  rw [List.map_append, List.map_singleton, List.getLast?_concat, List.dropLast_concat]
  rfl
theorem dDoes_run (hd : lsT d (rs.map enc)) (hr : rs[q]? = some r) : runT dDoes (wD d n ws ms (some (.dat (nI q)))) s = .ok r.isDoes s := runT_ok (word_eq_does r _ s _ (by
  show lift (ixF d (nI q)) s = _
  rw [ix_row hd hr, lift_some]))
theorem dOpen_run (hd : lsT d (rs.map enc)) (hr : rs[q]? = some r) : runT dOpen (wD d n ws ms (some (.dat (nI q)))) s = .ok (!decide (q ∈ ms) && !r.isSh) s := by
  have e2 : (mBl (eOp neG (eOp ixF (eOp ixF (eVar 0) (eVar 5)) (eC (.int 0))) (eC (.str "shown")))) (vis (wD d n ws ms (some (.dat (nI q))))) s = .ok (!r.isSh) s := word_ne_sh r _ s _ (by
    show lift (ixF d (nI q)) s = _
    rw [ix_row hd hr, lift_some])
  have e1 : (mBl (eOp (dinF true) (eVar 5) (eVar 4))) (vis (wD d n ws ms (some (.dat (nI q))))) s = .ok (!decide (q ∈ ms)) s := by
    show (RE.ok (D.bl (!((kv ms).any fun x => decide (x.1 = .inl ((q : Nat) : Int))))) s).bind _ = _
    rw [kv_any]
    rfl
  have := runT_vis (m := dOpen) (r := wD d n ws ms (some (.dat (nI q)))) (s := s) (s1 := s) (b := !decide (q ∈ ms) && !r.isSh) rfl (by
    unfold dOpen
    rw [mAnd_run, e1, bind_ok]
    cases decide (q ∈ ms) with
    | true => rfl
    | false => exact e2)
  rw [this]
theorem dExt_run (hd : lsT d (rs.map enc)) (hr : rs[q]? = some r) (hl : ws.length ≤ 90000) : sExt 3 dName (wD d n ws ms (some (.dat (nI q)))) s = .nx (wD d n (ws ++ r.parts) ms (some (.dat (nI q)))) s := by
  have e : runD dName (wD d n ws ms (some (.dat (nI q)))) s = .ok (.lst (r.parts.map nI)) s := runD_ok (by
    have q0 : (eOp ixF (eVar 0) (eVar 5)) (dats (wD d n ws ms (some (.dat (nI q))))) s = .ok (enc r) s := by
      show lift (ixF d (nI q)) s = _
      rw [ix_row hd hr, lift_some]
    unfold dName
    rw [eCall_run, aCons_run, q0, bind_ok, aNil_run, bind_ok, bind_ok, named_run])
  unfold sExt
  show after (runD dName (wD d n ws ms (some (.dat (nI q)))) s) _ _ = _
  rw [e, after_ok]
  show (if (ws.map nI).length + (r.parts.map nI).length ≤ sizeLine then RS.nx ((wD d n ws ms (some (.dat (nI q)))).set 3 (some (.own (ws.map nI ++ r.parts.map nI)))) s else .bad) = _
  rw [if_pos (by rw [List.length_map, List.length_map, sizeLine_eq]; have := parts_len r; omega), ← List.map_append]
  rfl
theorem dPut_run (hl : ms.length ≤ 90000) : sDSet 4 (eVar 5) (eC (.bl true)) (wD d n ws ms (some (.dat (nI q)))) s = .nx (wD d n ws (put ms q) (some (.dat (nI q)))) s := by
  unfold sDSet
  show (if (kv ms).length < sizeLine then RS.nx ((wD d n ws ms (some (.dat (nI q)))).set 4 (some (.odc (putD (kv ms) (.inl ((q : Nat) : Int)) (.bl true))))) s else .bad) = _
  rw [if_pos (by unfold kv; rw [List.length_map, sizeLine_eq]; omega), kv_put]
  rfl
theorem dWalk_run (hd : lsT d (rs.map enc)) (hr : rs[q]? = some r) (h1 : ws.length ≤ 90000) (h2 : ms.length ≤ 90000) : dWalk (wD d n (ws ++ [q]) ms o) s = if r.isDoes = true then .rt (.bl false) s else .nx (wD d n (if q ∉ ms ∧ r.isSh = false then ws ++ r.parts else ws) (put ms q) (some (.dat (nI q)))) s := by
  unfold dWalk
  rw [seq_nx dPop_run]
  have t1 := dDoes_run (n := n) (ws := ws) (ms := ms) (s := s) hd hr
  cases h : r.isDoes with
  | true =>
    rw [h] at t1
    rw [if_pos rfl]
    exact seq_rt (if_ret t1 (runD_ok rfl))
  | false =>
    rw [h] at t1
    rw [if_neg Bool.false_ne_true, seq_nx (if_nx t1)]
    have t2 := dOpen_run (n := n) (ws := ws) (ms := ms) (s := s) hd hr
    by_cases z : q ∉ ms ∧ r.isSh = false
    · have e : (!decide (q ∈ ms) && !r.isSh) = true := by rw [decide_eq_false z.1, z.2]; rfl
      rw [e] at t2
      rw [if_pos z, seq_nx ((if_yes t2).trans (dExt_run hd hr h1)), dPut_run h2]
    · have e : (!decide (q ∈ ms) && !r.isSh) = false := by
        by_cases y : q ∈ ms
        · rw [decide_eq_true y]; rfl
        · cases x : r.isSh with
          | true => rw [decide_eq_false y]; rfl
          | false => exact absurd ⟨y, x⟩ z
      rw [e] at t2
      rw [if_neg z, seq_nx (if_nx t2), dPut_run h2]
end
end FL.K2
set_option Elab.async false
set_option linter.all false
set_option maxRecDepth 100000
set_option maxHeartbeats 4000000
namespace FL.K2
open PySem PySem.Spec PyProof.Rows L2 FL
theorem mem_put {ms : List Nat} {q m : Nat} : m ∈ put ms q ↔ m ∈ ms ∨ m = q := by
  unfold put
  by_cases h : q ∈ ms
  · rw [if_pos h]
    exact ⟨.inl, fun z => z.elim id fun e => e ▸ h⟩
  · rw [if_neg h, List.mem_append, List.mem_singleton]
theorem put_len (ms : List Nat) (q : Nat) : (put ms q).length ≤ ms.length + 1 := by
  unfold put
  split
  · omega
  · rw [List.length_append, List.length_singleton]
    exact Nat.le_refl _
structure DI (rs : List Rw) (n : Nat) (ws ms : List Nat) : Prop where
  wt : ∀ w ∈ ws, Thr rs n w
  wl : ∀ w ∈ ws, w < rs.length
  md : ∀ m ∈ ms, doesAt rs m = false
  mc : ∀ m ∈ ms, shAt rs m = false → ∀ p ∈ partsAt rs m, p ∈ ms ∨ p ∈ ws
  st : n ∈ ms ∨ n ∈ ws
section
variable {d : D} {rs : List Rw} {n : Nat} {s : S}
theorem whileL_run {t : TM} {body : SM} {k : Nat} {ρ : Sls} {s s1 : S} {b : Bool} (h : runT t ρ s = .ok b s1) : whileL t body (k + 1) ρ s = if b = true then (match body ρ s1 with
      | .nx ρ2 s2 => whileL t body k ρ2 s2
      | .ct ρ2 s2 => whileL t body k ρ2 s2
      | .bk ρ2 s2 => .nx ρ2 s2
      | r => r) else .nx ρ s1 := by
  show after (runT t ρ s) ρ _ = _
  rw [h]
  rfl
theorem dWhile (hd : lsT d (rs.map enc)) (ok : okL rs) : ∀ (k : Nat) (ws ms : List Nat) (o : Option Sl), DI rs n ws ms → 3 * unm (List.range rs.length) ms + ws.length < k → ms.length + (3 * unm (List.range rs.length) ms + ws.length) ≤ 90000 →
    (∃ ρ, whileL dTest dWalk k (wD d n ws ms o) s = .nx ρ s ∧ ∀ q, Thr rs n q → doesAt rs q = false) ∨ (whileL dTest dWalk k (wD d n ws ms o) s = .rt (.bl false) s ∧ ∃ q, Thr rs n q ∧ doesAt rs q = true)
  | 0, ws, ms, o, _, h, _ => absurd h (Nat.not_lt_zero _)
  | k + 1, ws, ms, o, I, hk, hB => by
    rw [whileL_run dTest_run]
    rcases List.eq_nil_or_concat ws with rfl | ⟨w, q, rfl⟩
    · rw [if_neg (by simp)]
      refine .inl ⟨_, rfl, fun q hq => I.md q ?_⟩
      induction hq with
      | base => exact I.st.elim id fun h => nomatch h
      | step _ h2 h3 ih => exact (I.mc _ ih h2 _ h3).elim id fun h => nomatch h
    · rw [List.concat_eq_append] at I hk hB ⊢
      rw [List.length_append, List.length_singleton] at hk hB
      rw [if_pos (by simp)]
      have hq : q < rs.length := I.wl q (by simp)
      obtain ⟨r, hr⟩ : ∃ r, rs[q]? = some r := ⟨_, List.getElem?_eq_getElem hq⟩
      have pe : partsAt rs q = r.parts := by unfold partsAt; rw [hr]
      have se : shAt rs q = r.isSh := by unfold shAt; rw [hr]
      have de : doesAt rs q = r.isDoes := by unfold doesAt; rw [hr]
      have tq : Thr rs n q := I.wt q (by simp)
      rw [dWalk_run hd hr (by omega) (by omega)]
      by_cases hx : r.isDoes = true
      · rw [if_pos hx]
        exact .inr ⟨rfl, q, tq, de.trans hx⟩
      · rw [if_neg hx]
        have hx2 : r.isDoes = false := by cases h : r.isDoes <;> simp_all
        have pl := parts_len r
        have ul : q ∉ ms → unm (List.range rs.length) (put ms q) + 1 ≤ unm (List.range rs.length) ms := fun h => by
          unfold put
          rw [if_neg h]
          exact unm_lt h _ (List.mem_range.mpr hq)
        have wl2 : (if q ∉ ms ∧ r.isSh = false then w ++ r.parts else w).length ≤ w.length + 2 := by
          split
          · rw [List.length_append]; omega
          · omega
        have pm := put_len ms q
        have me : 3 * unm (List.range rs.length) (put ms q) + (if q ∉ ms ∧ r.isSh = false then w ++ r.parts else w).length + 1 ≤ 3 * unm (List.range rs.length) ms + (w.length + 1) := by
          by_cases h : q ∈ ms
          · rw [if_neg fun z => z.1 h]
            unfold put
            rw [if_pos h]
            omega
          · have := ul h
            omega
        refine dWhile hd ok k _ _ _ ⟨fun x hx => ?_, fun x hx => ?_, fun x hx => ?_, fun x hx h2 p hp => ?_, ?_⟩ (by omega) (by omega)
        · split at hx
          · rename_i z
            rcases List.mem_append.mp hx with y | y
            · exact I.wt x (List.mem_append_left _ y)
            · exact .step tq (se.trans z.2) (pe ▸ y)
          · exact I.wt x (List.mem_append_left _ hx)
        · split at hx
          · rcases List.mem_append.mp hx with y | y
            · exact I.wl x (List.mem_append_left _ y)
            · have := ok_parts (ok q r hr) x y
              omega
          · exact I.wl x (List.mem_append_left _ hx)
        · rcases mem_put.mp hx with y | rfl
          · exact I.md x y
          · exact de.trans hx2
        · by_cases y : x ∈ ms
          · rcases I.mc x y h2 p hp with z | z
            · exact .inl (mem_put.mpr (.inl z))
            · rcases List.mem_append.mp z with z | z
              · refine .inr ?_
                split
                · exact List.mem_append_left _ z
                · exact z
              · exact .inl (mem_put.mpr (.inr (List.mem_singleton.mp z)))
          · have e : x = q := (mem_put.mp hx).elim (fun z => absurd z y) id
            subst e
            refine .inr ?_
            rw [if_pos ⟨y, se ▸ h2⟩]
            exact List.mem_append_right _ (pe ▸ hp)
        · rcases I.st with z | z
          · exact .inl (mem_put.mpr (.inl z))
          · rcases List.mem_append.mp z with z | z
            · refine .inr ?_
              split
              · exact List.mem_append_left _ z
              · exact z
            · exact .inl (mem_put.mpr (.inr (List.mem_singleton.mp z)))
theorem isdown_run (hd : lsT d (rs.map enc)) (ok : okL rs) (hl : rs.length ≤ 2000) (hn : n < rs.length) : mf__law_is_down [d, nI n] s = .ok (.bl ((dn rs).getD n false)) s := by
  refine fn_rt rfl ?_
  show m__law_is_down [some (.dat d), some (.dat (nI n)), none, none, none, none] s = _
  have e0 : sP3 2 3 4 (aNil) (aCons (eVar 1) (aNil)) [some (.dat d), some (.dat (nI n)), none, none, none, none] s = .nx (wD d n [n] [] none) s := by
    unfold sP3
    show (if ([] : List D).length ≤ sizeLine then (if ([nI n] : List D).length ≤ sizeLine then RS.nx _ s else .bad) else .bad) = _
    rw [if_pos (show ([] : List D).length ≤ sizeLine from Nat.zero_le _), if_pos (show ([nI n] : List D).length ≤ sizeLine by rw [sizeLine_eq, List.length_singleton]; decide)]
    rfl
  rw [isdown_form, seq_nx e0]
  have um := unm_top (List.range rs.length)
  rw [List.length_range] at um
  have I : DI rs n [n] [] := ⟨fun w h => by cases List.mem_singleton.mp h; exact .base, fun w h => by cases List.mem_singleton.mp h; exact hn, (fun _ h => nomatch h), (fun _ h => nomatch h), .inr (List.mem_singleton.mpr rfl)⟩
  rcases dWhile (s := s) hd ok 1000000 [n] [] none I (by rw [List.length_singleton]; omega) (by rw [List.length_singleton, List.length_nil]; omega) with ⟨ρ, e, h⟩ | ⟨e, q, h1, h2⟩
  · have e2 : sWhile 1000000 dTest dWalk (wD d n [n] [] none) s = .nx ρ s := e
    rw [seq_nx e2, (dn_iff ok (n + 1) n (Nat.lt_succ_self n) hn).mpr h]
    exact ret_run (runD_ok rfl)
  · have e2 : sWhile 1000000 dTest dWalk (wD d n [n] [] none) s = .rt (.bl false) s := e
    rw [seq_rt e2]
    cases hb : (dn rs).getD n false with
    | false => rfl
    | true =>
      have := (dn_iff ok (n + 1) n (Nat.lt_succ_self n) hn).mp hb q h1
      rw [h2] at this
      cases this
end
end FL.K2
set_option Elab.async false
set_option linter.all false
set_option maxRecDepth 100000
set_option maxHeartbeats 4000000
namespace FL.K2
open PySem PySem.Spec PyProof.Rows L2 FL
/-! ### the law's own closure -/
def rTest : TM := mBl (eOp neG (eVar 3) (eOf lstF1 (aNil)))
def rNew : TM := mBl (eOp (dinF true) (eVar 4) (eVar 2))
def rName : EM := eCall (mf__law_named) (aCons (eOp ixF (eVar 0) (eVar 4)) (aNil))
def rWalk : SM := sSeq (sPop 4 3) (sIf rNew (sSeq (sDSet 2 (eVar 4) (eC (.bl true))) (sExt 3 rName)) (sNext))
theorem reached_form : m__law_reached = sSeq (sP2 2 3 (aCons (eVar 1) (aNil))) (sSeq (sWhile 1000000 rTest rWalk) (fun ρ s => (sRet (eOf sortDF (aCons (eVar 2) (aNil)))) (frz 2 ρ) s)) := rfl
def wR (d e : D) (ws ms : List Nat) (o : Option Sl) : Sls := [some (.dat d), some (.dat e), some (.odc (kv ms)), some (.own (ws.map nI)), o]
theorem put_nodup {ms : List Nat} {q : Nat} (h : ms.Nodup) : (put ms q).Nodup := by
  unfold put
  split
  · exact h
  · rename_i z
    refine List.nodup_append.mpr ⟨h, by simp, fun a ha b hb e => ?_⟩
    cases List.mem_singleton.mp hb
    exact z (e ▸ ha)
structure RI (rs : List Rw) (fs ws ms : List Nat) : Prop where
  wt : ∀ w ∈ ws, Rch rs fs w
  wl : ∀ w ∈ ws, w < rs.length
  mt : ∀ m ∈ ms, Rch rs fs m
  mc : ∀ m ∈ ms, ∀ p ∈ partsAt rs m, p ∈ ms ∨ p ∈ ws
  st : ∀ f ∈ fs, f ∈ ms ∨ f ∈ ws
  nd : ms.Nodup
section
variable {d e : D} {rs : List Rw} {fs ws ms : List Nat} {q : Nat} {o : Option Sl} {s : S} {r : Rw}
theorem rTest_run : runT rTest (wR d e ws ms o) s = .ok (!ws.isEmpty) s := by
  have e0 : (eOf lstF1 (aNil)) (vis (wR d e ws ms o)) s = .ok (.lst []) s := by rw [eOf_run, aNil_run, bind_ok, lst1 (by simp), lift_some]
  have := runT_vis (m := rTest) (r := wR d e ws ms o) (s := s) (s1 := s) (b := !ws.isEmpty) rfl (by
    have v : (eVar 3) (vis (wR d e ws ms o)) s = .ok (.lst (ws.map nI)) s := rfl
    unfold rTest
    rw [mBl_run, eOp_run, v, bind_ok, e0, bind_ok, ne_nil_run]
    rfl)
  rw [this]
theorem rPop_run : sPop 4 3 (wR d e (ws ++ [q]) ms o) s = .nx (wR d e ws ms (some (.dat (nI q)))) s := by
  unfold sPop
  show (match ((ws ++ [q]).map nI).getLast? with
    | some x => RS.nx (((wR d e (ws ++ [q]) ms o).set 3 (some (.own ((ws ++ [q]).map nI).dropLast))).set 4 (some (.dat x))) s
    | none => .bad) = _
  rw [List.map_append, List.map_singleton, List.getLast?_concat, List.dropLast_concat]
  rfl
theorem rNew_run : runT rNew (wR d e ws ms (some (.dat (nI q)))) s = .ok (!decide (q ∈ ms)) s := by
  have := runT_vis (m := rNew) (r := wR d e ws ms (some (.dat (nI q)))) (s := s) (s1 := s) (b := !decide (q ∈ ms)) rfl (by
    unfold rNew
    show (RE.ok (D.bl (!((kv ms).any fun x => decide (x.1 = .inl ((q : Nat) : Int))))) s).bind _ = _
    rw [kv_any]
    rfl)
  rw [this]
theorem rPut_run (hl : ms.length ≤ 90000) : sDSet 2 (eVar 4) (eC (.bl true)) (wR d e ws ms (some (.dat (nI q)))) s = .nx (wR d e ws (put ms q) (some (.dat (nI q)))) s := by
  unfold sDSet
  show (if (kv ms).length < sizeLine then RS.nx ((wR d e ws ms (some (.dat (nI q)))).set 2 (some (.odc (putD (kv ms) (.inl ((q : Nat) : Int)) (.bl true))))) s else .bad) = _
  rw [if_pos (by unfold kv; rw [List.length_map, sizeLine_eq]; omega), kv_put]
  rfl
theorem rExt_run (hd : lsT d (rs.map enc)) (hr : rs[q]? = some r) (hl : ws.length ≤ 90000) : sExt 3 rName (wR d e ws ms (some (.dat (nI q)))) s = .nx (wR d e (ws ++ r.parts) ms (some (.dat (nI q)))) s := by
  have e : runD rName (wR d e ws ms (some (.dat (nI q)))) s = .ok (.lst (r.parts.map nI)) s := runD_ok (by
    have q0 : (eOp ixF (eVar 0) (eVar 4)) (dats (wR d e ws ms (some (.dat (nI q))))) s = .ok (enc r) s := by
      show lift (ixF d (nI q)) s = _
      rw [ix_row hd hr, lift_some]
    unfold rName
    rw [eCall_run, aCons_run, q0, bind_ok, aNil_run, bind_ok, bind_ok, named_run])
  unfold sExt
  show after (runD rName (wR d _ ws ms (some (.dat (nI q)))) s) _ _ = _
  rw [e, after_ok]
  show (if (ws.map nI).length + (r.parts.map nI).length ≤ sizeLine then RS.nx ((wR d _ ws ms (some (.dat (nI q)))).set 3 (some (.own (ws.map nI ++ r.parts.map nI)))) s else .bad) = _
  rw [if_pos (by rw [List.length_map, List.length_map, sizeLine_eq]; have := parts_len r; omega), ← List.map_append]
  rfl
theorem rWalk_run (hd : lsT d (rs.map enc)) (hr : rs[q]? = some r) (h1 : ws.length ≤ 90000) (h2 : ms.length ≤ 90000) : rWalk (wR d e (ws ++ [q]) ms o) s = .nx (wR d e (if q ∉ ms then ws ++ r.parts else ws) (put ms q) (some (.dat (nI q)))) s := by
  unfold rWalk
  rw [seq_nx rPop_run]
  have t := rNew_run (d := d) (e := e) (ws := ws) (ms := ms) (q := q) (s := s)
  by_cases z : q ∈ ms
  · rw [decide_eq_true z] at t
    rw [if_nx t, if_neg fun y => y z]
    unfold put
    rw [if_pos z]
  · rw [decide_eq_false z] at t
    rw [if_yes t, seq_nx (rPut_run h2), if_pos z]
    exact rExt_run hd hr h1
theorem rWhile (hd : lsT d (rs.map enc)) (ok : okL rs) : ∀ (k : Nat) (ws ms : List Nat) (o : Option Sl), RI rs fs ws ms → 3 * unm (List.range rs.length) ms + ws.length < k → ms.length + (3 * unm (List.range rs.length) ms + ws.length) ≤ 90000 →
    ∃ ks o2, whileL rTest rWalk k (wR d e ws ms o) s = .nx (wR d e [] ks o2) s ∧ ks.Nodup ∧ ∀ p, p ∈ ks ↔ Rch rs fs p
  | 0, ws, ms, o, _, h, _ => absurd h (Nat.not_lt_zero _)
  | k + 1, ws, ms, o, I, hk, hB => by
    rw [whileL_run rTest_run]
    rcases List.eq_nil_or_concat ws with rfl | ⟨w, q, rfl⟩
    · rw [if_neg (by simp)]
      refine ⟨ms, o, rfl, I.nd, fun p => ⟨I.mt p, fun h => ?_⟩⟩
      induction h with
      | base h => exact (I.st _ h).elim id fun h => nomatch h
      | step _ h2 ih => exact (I.mc _ ih _ h2).elim id fun h => nomatch h
    · rw [List.concat_eq_append] at I hk hB ⊢
      rw [List.length_append, List.length_singleton] at hk hB
      rw [if_pos (by simp)]
      have hq : q < rs.length := I.wl q (by simp)
      obtain ⟨r, hr⟩ : ∃ r, rs[q]? = some r := ⟨_, List.getElem?_eq_getElem hq⟩
      have pe : partsAt rs q = r.parts := by unfold partsAt; rw [hr]
      have tq : Rch rs fs q := I.wt q (by simp)
      rw [rWalk_run hd hr (by omega) (by omega)]
      have pl := parts_len r
      have pm := put_len ms q
      have me : 3 * unm (List.range rs.length) (put ms q) + (if q ∉ ms then w ++ r.parts else w).length + 1 ≤ 3 * unm (List.range rs.length) ms + (w.length + 1) := by
        by_cases h : q ∈ ms
        · rw [if_neg fun z => z h]
          unfold put
          rw [if_pos h]
          omega
        · rw [if_pos h, List.length_append]
          unfold put
          rw [if_neg h]
          have := unm_lt h _ (List.mem_range.mpr hq)
          omega
      have inW : ∀ x ∈ w, x ∈ (if q ∉ ms then w ++ r.parts else w) := fun x hx => by
        split
        · exact List.mem_append_left _ hx
        · exact hx
      have old : ∀ p, p ∈ ms ∨ p ∈ w ++ [q] → p ∈ put ms q ∨ p ∈ (if q ∉ ms then w ++ r.parts else w) := fun p h => by
        rcases h with z | z
        · exact .inl (mem_put.mpr (.inl z))
        · rcases List.mem_append.mp z with z | z
          · exact .inr (inW p z)
          · exact .inl (mem_put.mpr (.inr (List.mem_singleton.mp z)))
      refine rWhile hd ok k _ _ _ ⟨fun x hx => ?_, fun x hx => ?_, fun x hx => ?_, fun x hx p hp => ?_, fun f hf => old f (I.st f hf), put_nodup I.nd⟩ (by omega) (by omega)
      · split at hx
        · rcases List.mem_append.mp hx with y | y
          · exact I.wt x (List.mem_append_left _ y)
          · exact .step tq (pe ▸ y)
        · exact I.wt x (List.mem_append_left _ hx)
      · split at hx
        · rcases List.mem_append.mp hx with y | y
          · exact I.wl x (List.mem_append_left _ y)
          · have := ok_parts (ok q r hr) x y
            omega
        · exact I.wl x (List.mem_append_left _ hx)
      · rcases mem_put.mp hx with y | rfl
        · exact I.mt x y
        · exact tq
      · by_cases y : x ∈ ms
        · exact old p (I.mc x y p hp)
        · have e : x = q := (mem_put.mp hx).elim (fun z => absurd z y) id
          subst e
          refine .inr ?_
          rw [if_pos y]
          exact List.mem_append_right _ (pe ▸ hp)
theorem keys_nats : ∀ ms : List Nat, intKeys (kv ms) = some (ms.map fun p : Nat => (p : Int))
  | [] => rfl
  | p :: ms => by
    show (intKeys (kv ms)).map (((p : Nat) : Int) :: ·) = _
    rw [keys_nats ms]
    rfl
theorem sort_nats {ms : List Nat} (h : ms.length < 64) : sortDF [.dic (kv ms)] = some (.lst ((sortI (ms.map fun p : Nat => (p : Int))).map D.int)) := by
  show (match intKeys (kv ms) with
    | some ks => if ks.length < 64 then some (D.lst ((sortI ks).map D.int)) else none
    | none => none) = _
  rw [keys_nats]
  exact if_pos (by rw [List.length_map]; exact h)
theorem reached_run (hd : lsT d (rs.map enc)) (he : lsT e (fs.map nI)) (ok : okL rs) (hl : rs.length ≤ 60) (hf : ∀ p ∈ fs, p < rs.length) (hfl : fs.length ≤ 1000) : mf__law_reached [d, e] s = .ok (.lst ((hangs rs fs).map nI)) s := by
  refine fn_rt rfl ?_
  show m__law_reached [some (.dat d), some (.dat e), none, none, none] s = _
  have e0 : sP2 2 3 (aCons (eVar 1) (aNil)) [some (.dat d), some (.dat e), none, none, none] s = .nx (wR d e fs [] none) s := by
    rcases he with rfl | rfl <;> rfl
  rw [reached_form, seq_nx e0]
  have um := unm_top (List.range rs.length)
  rw [List.length_range] at um
  have I : RI rs fs fs [] := ⟨fun w h => .base h, hf, (fun _ h => nomatch h), (fun _ h => nomatch h), fun f h => .inr h, List.nodup_nil⟩
  obtain ⟨ks, o2, e1, h1, h2⟩ := rWhile (e := e) (s := s) hd ok 1000000 fs [] none I (by omega) (by rw [List.length_nil]; omega)
  have e2 : sWhile 1000000 rTest rWalk (wR d e fs [] none) s = .nx (wR d e [] ks o2) s := e1
  rw [seq_nx e2]
  show sRet (eOf sortDF (aCons (eVar 2) (aNil))) (frz 2 (wR d e [] ks o2)) s = _
  refine ret_run (runD_ok ?_)
  have pm : (hangs rs fs).Perm ks := (List.perm_ext_iff_of_nodup (hangs_nodup rs fs) h1).mpr fun p => by rw [hangs_mem ok hf, h2]
  have kl : ks.length < 64 := by
    have h3 : (hangs rs fs).length ≤ (List.range rs.length).length := List.length_filter_le _ _
    rw [pm.length_eq, List.length_range] at h3
    omega
  show lift (sortDF [.dic (kv ks)]) s = _
  rw [sort_nats kl, hangs_sort ok hf h1 h2, lift_some]
end
end FL.K2
set_option Elab.async false
set_option linter.all false
set_option maxRecDepth 100000
set_option maxHeartbeats 4000000
namespace FL.K2
open PySem PySem.Spec PyProof.Rows L2 FL
/-! ### what some work tells, or how it is refused -/
def tup2F (a b : D) : D := .tup [a, b]
theorem tup2_run {a b : D} {ea eb : EM} {ρ : Env} {s : S} (h1 : ea ρ s = .ok a s) (h2 : eb ρ s = .ok b s) : (eOf tupF1 (aCons ea (aCons eb (aNil)))) ρ s = .ok (.tup [a, b]) s := by
  rw [eOf_run, aCons_run, h1, bind_ok, aCons_run, h2, bind_ok, aNil_run, bind_ok, bind_ok, bind_ok, tup1 (by simp), lift_some]
def tEnd (c : Nat → Addr) : EM := eIf (mTru (eOf (isaF (subC c)) (aCons (eVar 1) (aCons (eC (.cls (c 2))) (aNil))))) (eUn (xfF (fun a => decide (a = c 2)) "at") (eVar 1)) (eC (.str "other"))
noncomputable def tTry (c : Nat → Addr) (l : LamD) (th : S → RE D) : SM := sTry (fun a => decide (a = c 2)) 3 1 (sSet 2 (eAct l th))
def tRest (c : Nat → Addr) : SM := sSeq (sIf (mBl (eOp isNF (eVar 1) (eC .non))) (sRet (eOf tupF1 (aCons (eC (.str "told")) (aCons (eVar 2) (aNil))))) (sNext)) (sRet (eOf tupF1 (aCons (eC (.str "refused")) (aCons (tEnd c) (aNil)))))
theorem ltold_form (c : Nat → Addr) (l : LamD) (th : S → RE D) : m__law_told c l th = sSeq (sAsgT (bT [1, 2]) (eOf tupF1 (aCons (eC .non) (aCons (eC .non) (aNil))))) (sSeq (tTry c l th) (tRest c)) := rfl
def tS (l : LamD) (a b o : Option Sl) : Sls := [some (.dat (.fn l)), a, b, o]
section
variable {c : Nat → Addr} {l : LamD} {mb : S → RE D} {s : S} {d x : D} {j : Hp → Option Zt → Prop}
theorem toHead (th : S → RE D) : m__law_told c l th (tS l none none none) s = sSeq (tTry c l th) (tRest c) (tS l (some (.dat .non)) (some (.dat .non)) none) s := by
  have e : sAsgT (bT [1, 2]) (eOf tupF1 (aCons (eC .non) (aCons (eC .non) (aNil)))) (tS l none none none) s = .nx (tS l (some (.dat .non)) (some (.dat .non)) none) s := by
    have q : runD (eOf tupF1 (aCons (eC .non) (aCons (eC .non) (aNil)))) (tS l none none none) s = .ok (.tup [.non, .non]) s := runD_ok (tup2_run rfl rfl)
    unfold sAsgT
    rw [q]
    rfl
  rw [ltold_form, seq_nx e]
theorem act_run {ρ : Sls} {r : RE D} (h : mb { s with inv := j } = r) (h0 : (dats ρ)[0]? = some (some (.fn l))) : (eAct l (thJ j mb)) (dats ρ) { s with inv := j } = r := by
  unfold eAct
  rw [h0]
  refine (if_pos rfl).trans ?_
  unfold thJ
  exact (if_pos rfl).trans h
theorem told_fin (h : ∀ s, mb s = .ok d s) : toldA 4 (m__law_told c) mb s = some (.tup [.str "told", d]) := toldA_run fun l j => by
  refine fn_rt rfl ?_
  show m__law_told c l (thJ j mb) (tS l none none none) { s with inv := j } = _
  rw [toHead]
  have e : tTry c l (thJ j mb) (tS l (some (.dat .non)) (some (.dat .non)) none) { s with inv := j } = .nx (tS l (some (.dat .non)) (some (.dat d)) none) { s with inv := j } := by
    have q : sSet 2 (eAct l (thJ j mb)) (tS l (some (.dat .non)) (some (.dat .non)) none) { s with inv := j } = .nx (tS l (some (.dat .non)) (some (.dat d)) none) { s with inv := j } := set_run (runD_ok (act_run (h _) rfl))
    unfold tTry sTry
    rw [q]
  rw [seq_nx e]
  unfold tRest
  exact seq_rt (if_ret (runT_ok rfl) (runD_ok (tup2_run rfl rfl)))
theorem isa_at (fs : List (Str × D)) : isaF (subC c) [.exc (c 2) fs, .cls (c 2)] = some (.bl true) := by
  show (isxF (subC c) [.exc (c 2) fs, .cls (c 2)]) = _
  show (subC c (c 2) [.ref (c 2)]).map D.bl = _
  have e : subC c (c 2) [.ref (c 2)] = some true := by
    unfold subC
    rw [if_pos rfl]
    simp [subT, List.lookup]
  rw [e]
  rfl
theorem told_off (h : ∀ s, mb s = .ex (c 2) [("at", x)] s) : toldA 4 (m__law_told c) mb s = some (.tup [.str "refused", x]) := toldA_run fun l j => by
  refine fn_rt rfl ?_
  show m__law_told c l (thJ j mb) (tS l none none none) { s with inv := j } = _
  rw [toHead]
  have e : tTry c l (thJ j mb) (tS l (some (.dat .non)) (some (.dat .non)) none) { s with inv := j } = .nx (tS l (some (.dat (.exc (c 2) [("at", x)]))) (some (.dat .non)) none) { s with inv := j } := by
    have q : sSet 2 (eAct l (thJ j mb)) (tS l (some (.dat .non)) (some (.dat .non)) none) { s with inv := j } = .ex (c 2) [("at", x)] (tS l (some (.dat .non)) (some (.dat .non)) none) { s with inv := j } := by
      rw [sSet_run, runD_ex (act_run (h _) rfl)]
      rfl
    unfold tTry sTry
    rw [q]
    show (if decide (c 2 = c 2) = true ∧ 3 ≠ 1 then RS.nx (((tS l (some (.dat .non)) (some (.dat .non)) none).set 1 (some (.dat (.exc (c 2) [("at", x)])))).set 3 none) { s with inv := j } else .bad) = _
    rw [if_pos ⟨decide_eq_true rfl, by decide⟩]
    rfl
  rw [seq_nx e]
  unfold tRest
  rw [seq_nx (if_nx (runT_ok rfl))]
  refine ret_run (runD_ok (tup2_run rfl ?_))
  have v : (eVar 1) (dats (tS l (some (.dat (.exc (c 2) [("at", x)]))) (some (.dat .non)) none)) { s with inv := j } = .ok (.exc (c 2) [("at", x)]) { s with inv := j } := rfl
  unfold tEnd
  rw [eIf_run, mTru_run, eOf_run, aCons_run, v, bind_ok, aCons_run, eC_run, bind_ok, aNil_run, bind_ok, bind_ok, bind_ok, isa_at, lift_some, bind_ok]
  refine Eq.trans (b := (eUn (xfF (fun a => decide (a = c 2)) "at") (eVar 1)) (dats (tS l (some (.dat (.exc (c 2) [("at", x)]))) (some (.dat .non)) none)) { s with inv := j }) rfl ?_
  rw [eUn_run, v, bind_ok]
  show lift (if decide (c 2 = c 2) = true then ([("at", x)] : List (Str × D)).lookup ("at" : Str) else none) { s with inv := j } = _
  rw [if_pos (decide_eq_true rfl)]
  rfl
end
end FL.K2
set_option Elab.async false
set_option linter.all false
set_option maxRecDepth 100000
set_option maxHeartbeats 4000000
namespace FL.K2
open PySem PySem.Spec PyProof.Rows L2 FL
/-! ### what is due -/
def isTy (i : Nat) (z : String) : TM := mTru (eOf isiF (aCons (eVar i) (aCons (eC (.ty z)) (aNil))))
def uTest : TM := mOr (mNot (isTy 3 "int")) (mOr (isTy 3 "bool") (mNot (mBl (eChain leF ltF (eC (.int 0)) (eVar 3) (eOf lenF (aCons (eVar 0) (aNil)))))))
def uRet (e : EM) : EM := eOp mulF (eOf lstF1 (aCons (eOf tupF1 (aCons (eC (.str "refused")) (aCons e (aNil)))) (aNil))) (eC (.int 2))
def uBody : SM := sIf uTest (sRet (uRet (eVar 2))) (sNext)
def uList : TM := mNot (mTru (eOf isiF (aCons (eVar 1) (aCons (eOf tupF1 (aCons (eC (.ty "list")) (aCons (eC (.ty "tuple")) (aNil)))) (aNil)))))
def uLc : EM := eLc [3] 5 (c1 3) (iOf itemsF (eVar 4)) (mBl (eOp eqG (eOp ixF (eOp ixF (eVar 0) (eVar 3)) (eC (.int 0))) (eC (.str "shown")))) (eVar 3)
def uEnd : EM := eOf lstF1 (aCons (eOf tupF1 (aCons (eC (.str "told")) (aCons (eVar 4) (aNil)))) (aCons (eOf tupF1 (aCons (eC (.str "told")) (aCons uLc (aNil)))) (aNil)))
theorem due_form : m__law_due = sSeq (sIf uList (sRet (uRet (eC (.int 0)))) (sNext)) (sSeq (sFor (bT [2, 3]) (iOf numdF (eVar 1)) uBody) (sSeq (sSet 4 (eCall (mf__law_reached) (aCons (eVar 0) (aCons (eVar 1) (aNil))))) (sRet uEnd))) := rfl
def dueBad (x : D) : D := .lst [.tup [.str "refused", x], .tup [.str "refused", x]]
def dueOk (rs : List Rw) (hs : List Nat) : D := .lst [.tup [.str "told", .lst (hs.map nI)], .tup [.str "told", .lst ((hs.filter (shAt rs)).map nI)]]
theorem mul_two (v : D) : mulF (.lst [v]) (.int 2) = some (.lst [v, v]) := by
  show repF (.lst [v]) (.int 2) = _
  rw [rep_one (by decide) (by decide) (by rw [sizeLine_eq, List.length_singleton]; decide)]
  rfl
theorem uRet_run {e : EM} {x : D} {ρ : Env} {s : S} (h : e ρ s = .ok x s) : uRet e ρ s = .ok (dueBad x) s := by
  unfold uRet
  have q : (eOf lstF1 (aCons (eOf tupF1 (aCons (eC (.str "refused")) (aCons e (aNil)))) (aNil))) ρ s = .ok (.lst [.tup [.str "refused", x]]) s := by
    rw [eOf_run, aCons_run, tup2_run rfl h, bind_ok, aNil_run, bind_ok, bind_ok, lst1 (by simp), lift_some]
  rw [eOp_run, q, bind_ok, eC_run, bind_ok, mul_two, lift_some]
  rfl
section
variable {d e x : D} {rs : List Rw} {s : S} {o : Option Sl}
theorem uTest_run {k : Int} (hd : lsT d (rs.map enc)) (h : (tyOf x).isSome = true) : runT uTest [some (.dat d), some (.dat e), some (.dat (.int k)), some (.dat x), o] s = .ok (!belowB x (rs.length : Nat)) s := runT_ok (by
  have other : ∀ b1 : Bool, isiF [x, .ty "int"] = some (.bl b1) → (b1 = true → isiF [x, .ty "bool"] = some (.bl true)) → belowB x (rs.length : Nat) = false → uTest (dats [some (.dat d), some (.dat e), some (.dat (.int k)), some (.dat x), o]) s = .ok (!belowB x (rs.length : Nat)) s := fun b1 h1 h2 h3 => by
    have t1 : (isTy 3 "int") (dats [some (.dat d), some (.dat e), some (.dat (.int k)), some (.dat x), o]) s = .ok b1 s := by
      show (lift (isiF [x, .ty "int"]) s).bind (fun d s1 => lift (truD d) s1) = _
      rw [h1]
      rfl
    unfold uTest
    rw [h3, mOr_run, mNot_run, t1, bind_ok, bind_ok]
    cases b1 with
    | false => rfl
    | true =>
      rw [if_neg (by decide), mOr_run]
      show ((lift (isiF [x, .ty "bool"]) s).bind (fun d s1 => lift (truD d) s1)).bind _ = _
      rw [h2 rfl]
      rfl
  cases x with
  | int i =>
    have e0 : (eOf lenF (aCons (eVar 0) (aNil))) (dats [some (.dat d), some (.dat e), some (.dat (.int k)), some (.dat (.int i)), o]) s = .ok (.int (rs.length : Nat)) s := len_run hd _ s rfl
    have e2 : (eChain leF ltF (eC (.int 0)) (eVar 3) (eOf lenF (aCons (eVar 0) (aNil)))) (dats [some (.dat d), some (.dat e), some (.dat (.int k)), some (.dat (.int i)), o]) s = .ok (.bl (belowB (.int i) (rs.length : Nat))) s := by
      show (lift (some (D.bl (decide (0 ≤ i)))) s).bind (fun z s3 => match z with
        | .bl true => ((eOf lenF (aCons (eVar 0) (aNil))) (dats [some (.dat d), some (.dat e), some (.dat (.int k)), some (.dat (.int i)), o]) s3).bind fun w s4 => lift (ltF (.int i) w) s4
        | .bl false => .ok (.bl false) s3
        | _ => .bad) = RE.ok (.bl (decide (0 ≤ i) && decide (i < (rs.length : Nat)))) s
      rw [lift_some, bind_ok]
      cases decide (0 ≤ i) with
      | true =>
        show ((eOf lenF (aCons (eVar 0) (aNil))) (dats [some (.dat d), some (.dat e), some (.dat (.int k)), some (.dat (.int i)), o]) s).bind (fun w s4 => lift (ltF (.int i) w) s4) = _
        rw [e0]
        rfl
      | false => rfl
    show (mNot (mBl (eChain leF ltF (eC (.int 0)) (eVar 3) (eOf lenF (aCons (eVar 0) (aNil)))))) (dats [some (.dat d), some (.dat e), some (.dat (.int k)), some (.dat (.int i)), o]) s = _
    rw [mNot_run, mBl_run, e2]
    rfl
  | bl b => exact other true rfl (fun _ => rfl) rfl
  | fn l => cases h
  | _ => first | exact other false rfl (fun z => by cases z) rfl | cases h)
theorem uBody_run {k : Int} (hd : lsT d (rs.map enc)) (h : (tyOf x).isSome = true) : uBody [some (.dat d), some (.dat e), some (.dat (.int k)), some (.dat x), o] s = if belowB x (rs.length : Nat) = true then .nx [some (.dat d), some (.dat e), some (.dat (.int k)), some (.dat x), o] s else .rt (dueBad (.int k)) s := by
  have t := uTest_run (e := e) (o := o) (k := k) (s := s) hd h
  unfold uBody
  cases hr : belowB x (rs.length : Nat) with
  | true =>
    rw [hr] at t
    rw [if_nx t, if_pos rfl]
  | false =>
    rw [hr] at t
    rw [if_neg Bool.false_ne_true]
    exact if_ret t (runD_ok (uRet_run rfl))
theorem loopU (hd : lsT d (rs.map enc)) : ∀ (ys : List D) (k : Nat) (a b : Option Sl), (∀ x ∈ ys, (tyOf x).isSome = true) →
    (offB (rs.length : Nat) ys k = none → ∃ a' b', forL (bT [2, 3]) uBody (tNum ys k) [some (.dat d), some (.dat e), a, b, o] s = .nx [some (.dat d), some (.dat e), a', b', o] s) ∧
    (∀ i, offB (rs.length : Nat) ys k = some i → forL (bT [2, 3]) uBody (tNum ys k) [some (.dat d), some (.dat e), a, b, o] s = .rt (dueBad (nI i)) s)
  | [], k, a, b, _ => ⟨fun _ => ⟨a, b, rfl⟩, fun i h => by cases h⟩
  | x :: r, k, a, b, h => by
    have hx := h x List.mem_cons_self
    have ih := loopU hd r (k + 1) (some (.dat (.int (k : Nat)))) (some (.dat x)) fun y hy => h y (List.mem_cons_of_mem _ hy)
    have q := uBody_run (e := e) (k := (k : Nat)) (o := o) (s := s) hd hx
    rw [tNum_cons]
    unfold forL offB
    show (_ → ∃ a' b', (match uBody [some (.dat d), some (.dat e), some (.dat (.int (k : Nat))), some (.dat x), o] s with
      | .nx ρ2 s2 => forL (bT [2, 3]) uBody (tNum r (k + 1)) ρ2 s2
      | .ct ρ2 s2 => forL (bT [2, 3]) uBody (tNum r (k + 1)) ρ2 s2
      | .bk ρ2 s2 => RS.nx ρ2 s2
      | .rt d s2 => .rt d s2
      | .ex C fs ρ2 s2 => .ex C fs ρ2 s2
      | .bad => .bad) = _) ∧ ∀ i, _ → (match uBody [some (.dat d), some (.dat e), some (.dat (.int (k : Nat))), some (.dat x), o] s with
      | .nx ρ2 s2 => forL (bT [2, 3]) uBody (tNum r (k + 1)) ρ2 s2
      | .ct ρ2 s2 => forL (bT [2, 3]) uBody (tNum r (k + 1)) ρ2 s2
      | .bk ρ2 s2 => RS.nx ρ2 s2
      | .rt d s2 => .rt d s2
      | .ex C fs ρ2 s2 => .ex C fs ρ2 s2
      | .bad => .bad) = _
    rw [q]
    cases hr : belowB x (rs.length : Nat) with
    | true =>
      rw [if_pos rfl, if_pos rfl]
      exact ih
    | false =>
      rw [if_neg Bool.false_ne_true, if_neg Bool.false_ne_true]
      refine ⟨fun z => (by cases z), fun i z => ?_⟩
      cases z
      rfl
theorem uList_run {b : Bool} (h : isiF [e, .tup [.ty "list", .ty "tuple"]] = some (.bl b)) : runT uList [some (.dat d), some (.dat e), none, none, none] s = .ok (!b) s := runT_ok (by
  have q : (eOf tupF1 (aCons (eC (.ty "list")) (aCons (eC (.ty "tuple")) (aNil)))) (dats [some (.dat d), some (.dat e), none, none, none]) s = .ok (.tup [.ty "list", .ty "tuple"]) s := tup2_run rfl rfl
  have v : (eVar 1) (dats [some (.dat d), some (.dat e), none, none, none]) s = .ok e s := rfl
  unfold uList
  rw [mNot_run, mTru_run, eOf_run, aCons_run, v, bind_ok, aCons_run, q, bind_ok, aNil_run, bind_ok, bind_ok, bind_ok, h]
  rfl)
theorem due_no (h : (tyOf e).isSome = true) (hl : ∀ xs, ¬ lsT e xs) : mf__law_due [d, e] s = .ok (dueBad (.int 0)) s := by
  refine fn_rt rfl ?_
  show m__law_due [some (.dat d), some (.dat e), none, none, none] s = _
  rw [due_form]
  have t : isiF [e, .tup [.ty "list", .ty "tuple"]] = some (.bl false) := by
    cases e with
    | lst xs => exact absurd (.inl rfl) (hl xs)
    | tup xs => exact absurd (.inr rfl) (hl xs)
    | _ => first | rfl | cases h
  exact seq_rt (if_ret (uList_run t) (runD_ok (uRet_run rfl)))
theorem due_head {fs : List D} (he : lsT e fs) : m__law_due [some (.dat d), some (.dat e), none, none, none] s = (sSeq (sFor (bT [2, 3]) (iOf numdF (eVar 1)) uBody) (sSeq (sSet 4 (eCall (mf__law_reached) (aCons (eVar 0) (aCons (eVar 1) (aNil))))) (sRet uEnd))) [some (.dat d), some (.dat e), none, none, none] s := by
  have t : isiF [e, .tup [.ty "list", .ty "tuple"]] = some (.bl true) := by rcases he with rfl | rfl <;> rfl
  rw [due_form, seq_nx (if_nx (uList_run t))]
theorem uFor {fs : List D} {r : RS} (he : lsT e fs) (h : forL (bT [2, 3]) uBody (tNum fs 0) [some (.dat d), some (.dat e), none, none, none] s = r) : sFor (bT [2, 3]) (iOf numdF (eVar 1)) uBody [some (.dat d), some (.dat e), none, none, none] s = r := by
  have e2 : runA (iOf numdF (eVar 1)) [some (.dat d), some (.dat e), none, none, none] s = .ok (tNum fs 0) s := by
    rw [← numd_tNum]
    rcases he with rfl | rfl <;> rfl
  unfold sFor
  rw [e2]
  exact h
theorem due_off {fs : List D} {i : Nat} (hd : lsT d (rs.map enc)) (he : lsT e fs) (h : ∀ x ∈ fs, (tyOf x).isSome = true) (hb : offB (rs.length : Nat) fs 0 = some i) : mf__law_due [d, e] s = .ok (dueBad (nI i)) s := by
  refine fn_rt rfl ?_
  show m__law_due [some (.dat d), some (.dat e), none, none, none] s = _
  rw [due_head he]
  exact seq_rt (uFor he ((loopU hd fs 0 none none h).2 i hb))
theorem uLc_run {hs : List Nat} {o1 o2 o3 : Option D} (hd : lsT d (rs.map enc)) (hp : ∀ p ∈ hs, p < rs.length) (hl : hs.length ≤ 2000) : uLc [some d, o1, o2, o3, some (.lst (hs.map nI))] s = .ok (.lst ((hs.filter (shAt rs)).map nI)) s := by
  have e2 : lcL (c1 3) (mBl (eOp eqG (eOp ixF (eOp ixF (eVar 0) (eVar 3)) (eC (.int 0))) (eC (.str "shown")))) (eVar 3) [some d, o1, o2, none, some (.lst (hs.map nI))] (hs.map nI) s = .ok (((hs.map nI).filter fun x => match x with | .int i => shAt rs i.toNat | _ => false).map id) s := lcL_filter fun x hx => by
    obtain ⟨p, hp1, rfl⟩ := List.mem_map.mp hx
    obtain ⟨r, hr⟩ : ∃ r, rs[p]? = some r := ⟨_, List.getElem?_eq_getElem (hp p hp1)⟩
    refine ⟨[some d, o1, o2, some (nI p), some (.lst (hs.map nI))], rfl, ?_, fun _ => rfl⟩
    have q : (eOp ixF (eVar 0) (eVar 3)) [some d, o1, o2, some (nI p), some (.lst (hs.map nI))] s = .ok (enc r) s := by
      show lift (ixF d (nI p)) s = _
      rw [ix_row hd hr, lift_some]
    rw [word_sh r _ s _ q]
    show _ = RE.ok (shAt rs ((p : Nat) : Int).toNat) s
    rw [Int.toNat_natCast]
    unfold shAt
    rw [hr]
  unfold uLc eLc
  rw [if_pos (show ([some d, o1, o2, o3, some (.lst (hs.map nI))] : Env).length ≤ 5 from Nat.le_refl 5)]
  show lcR (lcL (c1 3) (mBl (eOp eqG (eOp ixF (eOp ixF (eVar 0) (eVar 3)) (eC (.int 0))) (eC (.str "shown")))) (eVar 3) [some d, o1, o2, none, some (.lst (hs.map nI))] (hs.map nI) s) = _
  rw [e2, List.map_id, List.filter_map]
  show (if ((hs.filter (fun p => shAt rs ((p : Nat) : Int).toNat)).map nI).length ≤ sizeLine then RE.ok (D.lst _) s else .bad) = _
  rw [if_pos]
  · rfl
  · rw [List.length_map, sizeLine_eq]
    have := List.length_filter_le (fun p : Nat => shAt rs ((p : Nat) : Int).toNat) hs
    omega
theorem due_ok {fs : List Nat} (hd : lsT d (rs.map enc)) (he : lsT e (fs.map nI)) (ok : okL rs) (hl : rs.length ≤ 60) (hf : ∀ p ∈ fs, p < rs.length) (hfl : fs.length ≤ 1000) : mf__law_due [d, e] s = .ok (dueOk rs (hangs rs fs)) s := by
  refine fn_rt rfl ?_
  show m__law_due [some (.dat d), some (.dat e), none, none, none] s = _
  rw [due_head he]
  obtain ⟨a, b, q⟩ := (loopU (d := d) (e := e) (o := none) (s := s) hd (fs.map nI) 0 none none fun x hx => by obtain ⟨p, _, rfl⟩ := List.mem_map.mp hx; rfl).1 (offB_nats fs 0 hf)
  have e1 : sSet 4 (eCall (mf__law_reached) (aCons (eVar 0) (aCons (eVar 1) (aNil)))) [some (.dat d), some (.dat e), a, b, none] s = .nx [some (.dat d), some (.dat e), a, b, some (.dat (.lst ((hangs rs fs).map nI)))] s := set_run (runD_ok (call2 (reached_run hd he ok hl hf hfl) rfl rfl))
  have hlen : (hangs rs fs).length ≤ 2000 := by
    have h3 : (hangs rs fs).length ≤ (List.range rs.length).length := List.length_filter_le _ _
    rw [List.length_range] at h3
    omega
  rw [seq_nx (uFor he q), seq_nx e1]
  refine ret_run (runD_ok ?_)
  show uEnd [some d, some e, datOf a, datOf b, some (.lst ((hangs rs fs).map nI))] s = _
  have q2 := uLc_run (o1 := some e) (o2 := datOf a) (o3 := datOf b) (s := s) hd (fun p hp => rch_lt ok hf ((hangs_mem ok hf p).mp hp)) hlen
  unfold uEnd
  rw [eOf_run, aCons_run, tup2_run rfl rfl, bind_ok, aCons_run, tup2_run rfl q2, bind_ok, aNil_run, bind_ok, bind_ok, bind_ok, lst1 (by simp), lift_some]
  rfl
end
end FL.K2
set_option Elab.async false
set_option linter.all false
set_option maxRecDepth 100000
set_option maxHeartbeats 4000000
namespace FL.K2
open PySem PySem.Spec PyProof.Rows L2 FL
/-! ### texts of what is told and handed in -/
theorem repr_pz {W k : Nat} {d : D} (h : pz W k d) (hW : W ≤ 83000) (hk : k ≤ 40) (ht : tyOf d = some "list" ∨ tyOf d = some "tuple") : ∃ z, reprF [d] = some (.str z) := by
  obtain ⟨p, e, a, b, c, q⟩ := h
  have hz : p.shown.length ≤ sizeLine := by
    have := PyData.shown_le 40 (by decide) p a
    rw [sizeLine_eq]
    omega
  refine ⟨p.shown, ?_⟩
  have f : reprF [d] = (match toR d with
    | some p => if (tyOf d = some "list" ∨ tyOf d = some "tuple") ∧ p.showable = true ∧ p.shown.length ≤ sizeLine ∧ p.depth ≤ 40 then some (D.str p.shown) else none
    | none => none) := rfl
  rw [f, e]
  exact if_pos ⟨ht, b, hz, by omega⟩
theorem pz_nat {n : Nat} (h : n ≤ 100000) : pz 100 0 (nI n) := pz_int (by show ((n : Nat) : Int).natAbs < _; omega)
theorem pz_far : pz 100 0 (.int (10 ^ 30)) := ⟨.int (10 ^ 30), rfl, by decide +kernel, by decide +kernel, by decide +kernel, by decide +kernel⟩
theorem pz_kw {z : Str} (h : z.length ≤ 100 ∧ z.cps.toList.all (fun c => decide (c < 128)) = true) : pz 100 0 (.str z) := pz_str h.1 h.2
theorem pz_enc {r : Rw} {n : Nat} (h : r.ok n) (hn : n ≤ 100000) : pz 310 1 (enc r) := by
  have kk : ∀ w ∈ ([("false" : Str), "does", "not", "and", "or", "shown"] : List Str), pz 100 0 (.str w) := fun w hw => by
    simp only [List.mem_cons, List.not_mem_nil, or_false] at hw
    rcases hw with rfl | rfl | rfl | rfl | rfl | rfl <;> exact pz_kw ⟨by decide +kernel, by decide +kernel⟩
  have three : ∀ xs : List D, xs.length ≤ 3 → (∀ x ∈ xs, pz 100 0 x) → pz 310 1 (.tup xs) := fun xs hl hx => pz_mono (pz_tup hx hl) (by decide) (by decide)
  have two : ∀ (a b : D), pz 100 0 a → pz 100 0 b → ∀ x ∈ [a, b], pz 100 0 x := fun a b ha hb x hx => by
    rcases List.mem_cons.mp hx with rfl | hx
    · exact ha
    · cases List.mem_singleton.mp hx; exact hb
  have thr : ∀ (a b d : D), pz 100 0 a → pz 100 0 b → pz 100 0 d → ∀ x ∈ [a, b, d], pz 100 0 x := fun a b d ha hb hd x hx => by
    rcases List.mem_cons.mp hx with rfl | hx
    · exact ha
    · exact two b d hb hd x hx
  cases r with
  | fls => exact three _ (by simp) fun x hx => by cases List.mem_singleton.mp hx; exact kk _ (by simp)
  | does a w =>
    have h1 := h.1
    have t := lw_txt h.2
    exact three _ (by simp) (thr _ _ _ (kk _ (by simp)) (pz_nat (by omega)) (pz_str t.1 t.2))
  | nt i =>
    have h1 : i < n := h
    exact three _ (by simp) (two _ _ (kk _ (by simp)) (pz_nat (by omega)))
  | an i j =>
    have h1 := h.1
    have h2 := h.2
    exact three _ (by simp) (thr _ _ _ (kk _ (by simp)) (pz_nat (by omega)) (pz_nat (by omega)))
  | or i j =>
    have h1 := h.1
    have h2 := h.2
    exact three _ (by simp) (thr _ _ _ (kk _ (by simp)) (pz_nat (by omega)) (pz_nat (by omega)))
  | sh a i =>
    have h1 := h.1
    have h2 := h.2
    exact three _ (by simp) (thr _ _ _ (kk _ (by simp)) (pz_nat (by omega)) (pz_nat (by omega)))
theorem pz_two {W k : Nat} {a b : D} (h1 : pz W k a) (h2 : pz W k b) : ∀ x ∈ [a, b], pz W k x := fun x hx => by
  rcases List.mem_cons.mp hx with rfl | hx
  · exact h1
  · cases List.mem_singleton.mp hx; exact h2
theorem pz_rows {d : D} {rs : List Rw} (hd : lsT d (rs.map enc)) (ok : okL rs) (hl : rs.length ≤ 20) : pz 7000 2 d := by
  have h : ∀ x ∈ rs.map enc, pz 310 1 x := fun x hx => by
    obtain ⟨r, hr, rfl⟩ := List.mem_map.mp hx
    obtain ⟨i, hi⟩ := List.getElem?_of_mem hr
    have lt : i < rs.length := by
      rcases Nat.lt_or_ge i rs.length with q | q
      · exact q
      · rw [List.getElem?_eq_none q] at hi; cases hi
    exact pz_enc (ok i r hi) (by omega)
  have hl2 : (rs.map enc).length ≤ 20 := by rw [List.length_map]; exact hl
  rcases hd with rfl | rfl
  · exact pz_mono (pz_lst h hl2) (by decide) (by decide)
  · exact pz_mono (pz_tup h hl2) (by decide) (by decide)
theorem pz_nats {hs : List Nat} (h : ∀ p ∈ hs, p ≤ 100000) (hl : hs.length ≤ 20) : pz 2020 1 (.lst (hs.map nI)) := pz_lst (fun x hx => by
  obtain ⟨p, hp, rfl⟩ := List.mem_map.mp hx
  exact pz_nat (h p hp)) (by rw [List.length_map]; exact hl)
theorem pz_says {W k : Nat} {z : Str} {d : D} (hz : z = "told" ∨ z = "refused") (h : pz W k d) (hW : 100 ≤ W) : pz (2 * (W + 1)) (k + 1) (.tup [.str z, d]) := by
  refine pz_tup (pz_two ?_ h) (by simp)
  refine pz_mono (pz_kw ?_) hW (Nat.zero_le _)
  rcases hz with rfl | rfl <;> exact ⟨by decide +kernel, by decide +kernel⟩
theorem repr_dueOk {rs : List Rw} {hs : List Nat} (h : ∀ p ∈ hs, p ≤ 100000) (hl : hs.length ≤ 20) : ∃ z, reprF [dueOk rs hs] = some (.str z) := by
  have p1 : pz 2020 1 (.lst (hs.map nI)) := pz_nats h hl
  have p2 : pz 2020 1 (.lst ((hs.filter (shAt rs)).map nI)) := pz_nats (fun p hp => h p (List.mem_filter.mp hp).1) (Nat.le_trans (List.length_filter_le _ _) hl)
  exact repr_pz (pz_lst (n := 2) (pz_two (pz_says (.inl rfl) p1 (by decide)) (pz_says (.inl rfl) p2 (by decide))) (by simp)) (by decide) (by decide) (.inl rfl)
theorem repr_dueBad {x : D} (h : pz 210 2 x) : ∃ z, reprF [dueBad x] = some (.str z) :=
  repr_pz (pz_lst (n := 2) (pz_two (pz_says (.inr rfl) h (by decide)) (pz_says (.inr rfl) h (by decide))) (by simp)) (by decide) (by decide) (.inl rfl)
theorem repr_says {z : Str} {x : D} (hz : z = "told" ∨ z = "refused") (h : pz 210 2 x) : ∃ t, reprF [.tup [.str z, x]] = some (.str t) :=
  repr_pz (pz_says hz h (by decide)) (by decide) (by decide) (.inr rfl)
theorem repr_in {e d : D} {rs : List Rw} (he : pz 7000 3 e) (hd : lsT d (rs.map enc)) (ok : okL rs) (hl : rs.length ≤ 20) : ∃ t, reprF [.tup [e, d]] = some (.str t) :=
  repr_pz (pz_tup (n := 2) (pz_two he (pz_mono (pz_rows hd ok hl) (Nat.le_refl _) (by decide))) (by simp)) (by decide) (by decide) (.inr rfl)
end FL.K2
set_option Elab.async false
set_option linter.all false
set_option maxRecDepth 100000
set_option maxHeartbeats 4000000
namespace FL.K2
open PySem PySem.Spec PyProof.Rows L2 FL
variable {P : Nat → Addr} {c : Nat → Addr}
/-! ### all is told right: the two ends -/
theorem toldD_run {mT : LamD → (S → RE D) → SM} {mb : EM} {ρ : Env} {s : S} {d : D} (g : GS P s) (hP : P 33 ≠ P 34) (h : toldA 4 mT (mb ρ) s = some d) : eToldD (P 33) "_law_right.<locals>.<lambda>" 4 mT mb ρ s = .ok d s := by
  have t : (P 33, ("_law_right.<locals>.<lambda>" : Str)) ∈ s.tb ∧ ∀ r ∈ s.tb, r.1 = P 33 → r.2 = ("_law_right.<locals>.<lambda>" : Str) := by
    rw [g.2.2.2]
    refine ⟨List.mem_cons_self, fun r hr e => ?_⟩
    rcases List.mem_cons.mp hr with rfl | hr
    · rfl
    · cases List.mem_singleton.mp hr
      exact absurd e.symm hP
  unfold eToldD
  rw [if_pos t, h, lift_some]
theorem offB_lt {n : Int} : ∀ (ys : List D) (k i : Nat), offB n ys k = some i → i < k + ys.length
  | [], _, _, h => by cases h
  | x :: r, k, i, h => by
    unfold offB at h
    split at h
    · have := offB_lt r (k + 1) i h
      rw [List.length_cons]
      omega
    · cases h
      rw [List.length_cons]
      omega
theorem offB_none {n : Nat} : ∀ (ys : List D) (k : Nat), offB (n : Nat) ys k = none → ∃ fs : List Nat, ys = fs.map nI ∧ ∀ p ∈ fs, p < n
  | [], _, _ => ⟨[], rfl, fun _ h => nomatch h⟩
  | x :: r, k, h => by
    unfold offB at h
    split at h
    · rename_i hb
      obtain ⟨fs, rfl, hf⟩ := offB_none r (k + 1) h
      cases x with
      | int i =>
        have hb2 : (decide (0 ≤ i) && decide (i < (n : Nat))) = true := hb
        rw [Bool.and_eq_true, decide_eq_true_iff, decide_eq_true_iff] at hb2
        refine ⟨i.toNat :: fs, ?_, fun p hp => ?_⟩
        · rw [List.map_cons]
          unfold nI
          rw [Int.toNat_of_nonneg hb2.1]
        · rcases List.mem_cons.mp hp with rfl | hp
          · omega
          · exact hf p hp
      | _ => cases hb
    · cases h
/-- what is handed in as some numbers -/
def fewB (e : D) (fs : List D) : Prop := (lsT e fs ∧ fs.length ≤ 1000 ∧ ∀ x ∈ fs, (tyOf x).isSome = true) ∨ ((tyOf e).isSome = true ∧ ∀ xs, ¬ lsT e xs)
section
variable {d e x : D} {rs : List Rw} {fs : List D} {s : S}
theorem mid_run (hd : lsT d (rs.map enc)) (ok : okL rs) (hl : rs.length ≤ 20) (he : fewB e fs) :
    ∃ v1 v2 z, toldA 4 (m__law_told c) (fun s => mf_hangs_on c [d, e] s) s = some v1 ∧ toldA 4 (m__law_told c) (fun s => mf_showns c [d, e] s) s = some v2 ∧ mf__law_due [d, e] s = .ok (.lst [v1, v2]) s ∧ reprF [.lst [v1, v2]] = some (.str z) := by
  have bad : ∀ i : Nat, i ≤ 100000 → (∀ s, mf_need_some c [d, e] s = .ex (c 2) [("at", nI i)] s) → mf__law_due [d, e] s = .ok (dueBad (nI i)) s → ∃ v1 v2 z, toldA 4 (m__law_told c) (fun s => mf_hangs_on c [d, e] s) s = some v1 ∧ toldA 4 (m__law_told c) (fun s => mf_showns c [d, e] s) s = some v2 ∧ mf__law_due [d, e] s = .ok (.lst [v1, v2]) s ∧ reprF [.lst [v1, v2]] = some (.str z) := fun i hi h1 h2 => by
    obtain ⟨z, hz⟩ := repr_dueBad (pz_mono (pz_nat hi) (by decide) (by decide))
    exact ⟨_, _, z, told_off fun s => hangs_bad hd ok (by omega) (h1 s), told_off fun s => showns_bad (hangs_bad hd ok (by omega) (h1 s)), h2, hz⟩
  rcases he with ⟨h1, h2, h3⟩ | ⟨h1, h2⟩
  · cases hb : offB (rs.length : Nat) fs 0 with
    | some i =>
      have lt := offB_lt fs 0 i hb
      exact bad i (by omega) (fun s => by rw [nsome_run hd h1 h3, hb]; rfl) (due_off hd h1 h3 hb)
    | none =>
      obtain ⟨gs, rfl, hf⟩ := offB_none fs 0 hb
      rw [List.length_map] at h2
      have hlen : (hangs rs gs).length ≤ 20 := by
        have h3 : (hangs rs gs).length ≤ (List.range rs.length).length := List.length_filter_le _ _
        rw [List.length_range] at h3
        omega
      have hin : ∀ p ∈ hangs rs gs, p < rs.length := fun p hp => rch_lt ok hf ((hangs_mem ok hf p).mp hp)
      obtain ⟨z, hz⟩ := repr_dueOk (rs := rs) (hs := hangs rs gs) (fun p hp => by have := hin p hp; omega) hlen
      exact ⟨_, _, z, told_fin fun s => hangs_run hd h1 ok (by omega) hf, told_fin fun s => showns_run hd (by omega) hin (hangs_run hd h1 ok (by omega) hf), due_ok hd h1 ok (by omega) hf h2, hz⟩
  · exact bad 0 (by omega) (fun s => nsome_no h1 h2 s) (due_no h1 h2)
/-- what the law says of one row -/
def saysDown (rs : List Rw) (x : D) : D := if belowB x (rs.length : Nat) = true then (match x with
    | .int i => .tup [.str "told", .bl ((dn rs).getD i.toNat false)]
    | _ => .non) else if numB x = true then .tup [.str "refused", x] else .tup [.str "refused", .int 0]
theorem last_run (hd : lsT d (rs.map enc)) (ok : okL rs) (hl : rs.length ≤ 20) (hx : (tyOf x).isSome = true) (hp : pz 210 2 x) :
    ∃ z, toldA 4 (m__law_told c) (fun s => mf_looks_down c [d, x] s) s = some (saysDown rs x) ∧ reprF [saysDown rs x] = some (.str z) := by
  unfold saysDown
  by_cases hb : belowB x (rs.length : Nat) = true
  · rw [if_pos hb]
    cases x with
    | int i =>
      have hb2 : (decide (0 ≤ i) && decide (i < (rs.length : Nat))) = true := hb
      rw [Bool.and_eq_true, decide_eq_true_iff, decide_eq_true_iff] at hb2
      have e : (D.int i) = .int (i.toNat : Nat) := by rw [Int.toNat_of_nonneg hb2.1]
      obtain ⟨z, hz⟩ := repr_says (z := "told") (x := .bl ((dn rs).getD i.toNat false)) (.inl rfl) (pz_mono (pz_bl _) (by decide) (by decide))
      refine ⟨z, told_fin fun s => ?_, hz⟩
      rw [e]
      exact looks_run hd ok (by omega) (by omega)
    | _ => cases hb
  · rw [if_neg hb]
    cases hn : numB x with
    | true =>
      rw [if_pos rfl]
      obtain ⟨z, hz⟩ := repr_says (z := "refused") (x := x) (.inr rfl) hp
      refine ⟨z, told_off fun s => ?_, hz⟩
      cases x with
      | int i =>
        refine looks_off hd ok (by omega) fun hi => hb ?_
        show (decide (0 ≤ i) && decide (i < (rs.length : Nat))) = true
        rw [decide_eq_true hi.1, decide_eq_true hi.2]
        rfl
      | _ => cases hn
    | false =>
      rw [if_neg Bool.false_ne_true]
      obtain ⟨z, hz⟩ := repr_says (z := "refused") (x := .int 0) (.inr rfl) (pz_mono (pz_int (by decide)) (by decide) (by decide))
      exact ⟨z, told_off fun s => looks_no hd ok (by omega) hx hn, hz⟩
end
end FL.K2
set_option Elab.async false
set_option linter.all false
set_option maxRecDepth 100000
set_option maxHeartbeats 4000000
namespace FL.K2
open PySem PySem.Spec PyProof.Rows L2 FL
variable {P : Nat → Addr} {c : Nat → Addr}
/-! ### the numbers that are drawn -/
def yOdd : EM := eOf lstF1 (aCons (eC .non) (aCons (eC (.bl true)) (aCons (eUn negF (eC (.int 1))) (aCons (eOf lenF (aCons (eVar 1) (aNil))) (aCons (eOp addF (eOf lenF (aCons (eVar 1) (aNil))) (eC (.int 5))) (aCons (eC (.str "0")) (aCons (eOf tupF1 (aCons (eC (.int 0)) (aNil))) (aCons (eOp powF (eC (.int 10)) (eC (.int 30))) (aNil)))))))))
def yLen : EM := eCall (mf__law_take) (aCons (eVar 0) (aCons (eOf lenF (aCons (eVar 1) (aNil))) (aNil)))
def yFew : SM := sOwnLc 3 [8] 9 (c1 8) (iOfA rng1F (aCons (eCall (mf__law_take) (aCons (eVar 0) (aCons (eC (.int 5)) (aNil)))) (aNil))) (tYesD) yLen
def yAt : EM := eCall (mf__law_take) (aCons (eVar 0) (aCons (eOp addF (eOf lenF (aCons (eVar 3) (aNil))) (eC (.int 1))) (aNil)))
def yWhat : EM := eCall (mf__law_pick) (aCons (eVar 0) (aCons (eVar 2) (aNil)))
def yFour : TM := mBl (eOp eqG (eCall (mf__law_take) (aCons (eVar 0) (aCons (eC (.int 4)) (aNil)))) (eC (.int 0)))
def yIns : SM := sIf yFour (sIns2 3 yAt yWhat) (sNext)
def yNone : EM := eCall (mf__law_pick) (aCons (eVar 0) (aCons (eOf lstF1 (aCons (eC .non) (aCons (eC (.int 5)) (aCons (eC (.dic [])) (aCons (eC (.str "0")) (aNil)))))) (aNil)))
def yAny : EM := eOf lstF1 (aCons (eVar 3) (aCons (eVar 3) (aCons (eVar 3) (aCons (eOf tupleF (aCons (eVar 3) (aNil))) (aCons yNone (aNil))))))
def yPick : SM := fun ρ s => (sSet 3 (eCall (mf__law_pick) (aCons (eVar 0) (aCons yAny (aNil))))) (frz 3 ρ) s
def oddL (n : Nat) : List D := [.non, .bl true, .int (-1), .int (n : Nat), .int ((n : Nat) + 5), .str "0", .tup [.int 0], .int (10 ^ 30)]
def fw (n : Nat) (x : D) : Prop := (∃ p : Nat, x = nI p ∧ p < n) ∨ x ∈ oddL n
theorem odd_ok {n : Nat} (hn : n ≤ 2000) {x : D} (h : x ∈ oddL n) : (tyOf x).isSome = true ∧ pz 210 2 x := by
  unfold oddL at h
  simp only [List.mem_cons, List.not_mem_nil, or_false] at h
  rcases h with rfl | rfl | rfl | rfl | rfl | rfl | rfl | rfl
  · exact ⟨rfl, pz_mono pz_non (by decide) (by decide)⟩
  · exact ⟨rfl, pz_mono (pz_bl _) (by decide) (by decide)⟩
  · exact ⟨rfl, pz_mono (pz_int (by decide)) (by decide) (by decide)⟩
  · exact ⟨rfl, pz_mono (pz_int (by omega)) (by decide) (by decide)⟩
  · exact ⟨rfl, pz_mono (pz_int (by omega)) (by decide) (by decide)⟩
  · exact ⟨rfl, pz_mono (pz_kw ⟨by decide +kernel, by decide +kernel⟩) (by decide) (by decide)⟩
  · exact ⟨rfl, pz_mono (pz_tup (n := 1) (fun x hx => by cases List.mem_singleton.mp hx; exact pz_int (by decide)) (by simp)) (by decide) (by decide)⟩
  · exact ⟨rfl, pz_mono pz_far (by decide) (by decide)⟩
theorem fw_ok {n : Nat} (hn : n ≤ 2000) {x : D} (h : fw n x) : (tyOf x).isSome = true ∧ pz 210 2 x := by
  rcases h with ⟨p, rfl, hp⟩ | h
  · exact ⟨rfl, pz_mono (pz_nat (by omega)) (by decide) (by decide)⟩
  · exact odd_ok hn h
section
variable {d e x : D} {rs : List Rw} {fs : List D} {s : S}
theorem lenV (i : Nat) (hd : lsT d (rs.map enc)) (ρ : Env) (s : S) (h0 : ρ[i]? = some (some d)) : (eOf lenF (aCons (eVar i) (aNil))) ρ s = .ok (.int (rs.length : Nat)) s := by
  have e1 : (eVar i) ρ s = .ok d s := by
    unfold eVar
    rw [h0]
  have e2 : lenF [d] = some (.int (rs.length : Nat)) := by
    have : ((rs.map enc).length : Nat) = rs.length := List.length_map ..
    rw [← this]
    rcases hd with rfl | rfl <;> rfl
  rw [eOf_run, aCons_run, e1, bind_ok, aNil_run, bind_ok, bind_ok, e2, lift_some]
theorem pow_far : powF (.int 10) (.int 30) = some (.int (10 ^ 30)) := by
  have h : CPow 10 30 := by decide
  show (if CPow 10 30 then some (D.int ((10 : Int) ^ (30 : Int).toNat)) else none) = _
  rw [if_pos h]
  rfl
theorem odd_run {ρ : Env} (hd : lsT d (rs.map enc)) (h1 : ρ[1]? = some (some d)) : yOdd ρ s = .ok (.lst (oddL rs.length)) s := by
  have n1 : (eUn negF (eC (.int 1))) ρ s = .ok (.int (-1)) s := rfl
  have n2 := lenV 1 hd ρ s h1
  have n3 : (eOp addF (eOf lenF (aCons (eVar 1) (aNil))) (eC (.int 5))) ρ s = .ok (.int ((rs.length : Nat) + 5)) s := by
    rw [eOp_run, n2, bind_ok, eC_run, bind_ok]
    rfl
  have n4 : (eOf tupF1 (aCons (eC (.int 0)) (aNil))) ρ s = .ok (.tup [.int 0]) s := by
    rw [eOf_run, aCons_run, eC_run, bind_ok, aNil_run, bind_ok, bind_ok, tup1 (by simp), lift_some]
  have n5 : (eOp powF (eC (.int 10)) (eC (.int 30))) ρ s = .ok (.int (10 ^ 30)) s := by
    rw [eOp_run, eC_run, bind_ok, eC_run, bind_ok, pow_far, lift_some]
  unfold yOdd
  rw [eOf_run, aCons_run, eC_run, bind_ok, aCons_run, eC_run, bind_ok, aCons_run, n1, bind_ok, aCons_run, n2, bind_ok, aCons_run, n3, bind_ok, aCons_run, eC_run, bind_ok, aCons_run, n4, bind_ok, aCons_run, n5, bind_ok, aNil_run]
  show lift (lstF1 (oddL rs.length)) s = _
  rw [lst1 (by unfold oddL; simp), lift_some]
def yS (d : D) (n : Nat) (X : Option Sl) : Sls := [some (.dat .drw), some (.dat d), some (.dat (.lst (oddL n))), X, none, none, none, none, none]
theorem few_run (g : GS P s) (hd : lsT d (rs.map enc)) (h0 : 0 < rs.length) (hl : rs.length ≤ 2000) :
    ∃ fs s2, yFew (yS d rs.length none) s = .nx (yS d rs.length (some (.own fs))) s2 ∧ fs.length ≤ 4 ∧ (∀ x ∈ fs, fw rs.length x) ∧ GS P s2 := by
  obtain ⟨r, s1, e1, r0, r1, g1⟩ := take_run (n := 5) g (by decide) (by decide)
  have i1 : (iOfA rng1F (aCons (eCall (mf__law_take) (aCons (eVar 0) (aCons (eC (.int 5)) (aNil)))) (aNil))) (dats (yS d rs.length none)) s = .ok (rangeD 0 r.toNat) s1 := by
    have q : (eCall (mf__law_take) (aCons (eVar 0) (aCons (eC (.int 5)) (aNil)))) (dats (yS d rs.length none)) s = .ok (.int r) s1 := e1
    rw [iOfA_run, aCons_run, q, bind_ok, aNil_run, bind_ok, bind_ok, rng1_run (by omega) (by omega), lift_some]
  obtain ⟨xs, s2, e2, xl, xa, g2⟩ := lcL_inv (bnd := c1 8) (mt := tYesD) (me := yLen) (ρ := wipeE (dats (yS d rs.length none)) [8]) (G := GS P) (P := fw rs.length) (ds := rangeD 0 r.toNat) g1 fun y _ s g => by
    obtain ⟨k, s3, e3, k0, k1, g3⟩ := take_run (n := (rs.length : Nat)) g (by omega) (by omega)
    refine ⟨[some .drw, some d, some (.lst (oddL rs.length)), none, none, none, none, none, some y], .int k, s3, rfl, rfl, ?_, .inl ⟨k.toNat, ?_, by omega⟩, g3⟩
    · have v : (eVar 0) [some .drw, some d, some (.lst (oddL rs.length)), none, none, none, none, none, some y] s = .ok .drw s := rfl
      unfold yLen
      rw [eCall_run, aCons_run, v, bind_ok, aCons_run, lenV 1 hd _ s rfl, bind_ok, aNil_run, bind_ok, bind_ok, bind_ok, e3]
    · unfold nI
      rw [Int.toNat_of_nonneg k0]
  rw [rangeD_len] at xl
  refine ⟨xs, s2, ?_, by omega, xa, g2⟩
  have q : lcO [8] 9 (c1 8) (iOfA rng1F (aCons (eCall (mf__law_take) (aCons (eVar 0) (aCons (eC (.int 5)) (aNil)))) (aNil))) tYesD yLen (dats (yS d rs.length none)) s = some (xs, s2) := by
    unfold lcO
    rw [if_pos (show (dats (yS d rs.length none)).length ≤ 9 from Nat.le_refl 9), i1]
    dsimp only
    rw [e2]
    dsimp only
    rw [if_pos (by rw [sizeLine_eq]; omega)]
  unfold yFew sOwnLc
  rw [q]
  rfl
end
end FL.K2
set_option Elab.async false
set_option linter.all false
set_option maxRecDepth 100000
set_option maxHeartbeats 4000000
namespace FL.K2
open PySem PySem.Spec PyProof.Rows L2 FL
variable {P : Nat → Addr} {c : Nat → Addr}
/-! ### the numbers that are drawn, 2 -/
section
variable {d e x : D} {rs : List Rw} {fs : List D} {s : S} {n : Nat}
theorem GS.inv (g : GS P s) (j : Hp → Option Zt → Prop) : GS P { s with inv := j } := g
theorem ins_run (g : GS P s) (hn : n ≤ 2000) (hl : fs.length ≤ 4) (hf : ∀ x ∈ fs, fw n x) :
    ∃ gs s2, yIns (yS d n (some (.own fs))) s = .nx (yS d n (some (.own gs))) s2 ∧ gs.length ≤ 5 ∧ (∀ x ∈ gs, fw n x) ∧ GS P s2 := by
  obtain ⟨r, s1, e1, r0, r1, g1⟩ := take_run (n := 4) g (by decide) (by decide)
  have t : runT yFour (yS d n (some (.own fs))) s = .ok (decide (r = 0)) s1 := runT_ok (by
    have q : (eCall (mf__law_take) (aCons (eVar 0) (aCons (eC (.int 4)) (aNil)))) (dats (yS d n (some (.own fs)))) s = .ok (.int r) s1 := e1
    unfold yFour
    rw [mBl_run, eOp_run, q, bind_ok, eC_run, bind_ok]
    rfl)
  unfold yIns
  by_cases hr : r = 0
  · rw [decide_eq_true hr] at t
    rw [if_yes t]
    obtain ⟨k, s2, e2, k0, k1, g2⟩ := take_run (n := (fs.length : Nat) + 1) g1 (by omega) (by omega)
    have b0 : yAt (dats (yS d n (some (.own fs)))) s1 = .bad := rfl
    have a1 : runD yAt (yS d n (some (.own fs))) s1 = .ok (.int k) { s2 with inv := s1.inv } := runD_vis b0 (by
      have v : (eVar 0) (vis (yS d n (some (.own fs)))) s1 = .ok .drw s1 := rfl
      have l : (eOp addF (eOf lenF (aCons (eVar 3) (aNil))) (eC (.int 1))) (vis (yS d n (some (.own fs)))) s1 = .ok (.int ((fs.length : Nat) + 1)) s1 := by
        have l0 : (eOf lenF (aCons (eVar 3) (aNil))) (vis (yS d n (some (.own fs)))) s1 = .ok (.int (fs.length : Nat)) s1 := rfl
        rw [eOp_run, l0, bind_ok, eC_run, bind_ok]
        rfl
      unfold yAt
      rw [eCall_run, aCons_run, v, bind_ok, aCons_run, l, bind_ok, aNil_run, bind_ok, bind_ok, bind_ok, e2]) rfl
    obtain ⟨y, s3, e3, my, g3⟩ := pick_run (xs := oddL n) (GS.inv g2 s1.inv) (by unfold oddL; exact List.cons_ne_nil _ _) (Nat.le_trans (show (oddL n).length ≤ 8 from Nat.le_refl 8) (by omega))
    have a2 : runD yWhat (yS d n (some (.own fs))) { s2 with inv := s1.inv } = .ok y s3 := runD_ok (by
      have v0 : (eVar 0) (dats (yS d n (some (.own fs)))) { s2 with inv := s1.inv } = .ok .drw { s2 with inv := s1.inv } := rfl
      have v2 : (eVar 2) (dats (yS d n (some (.own fs)))) { s2 with inv := s1.inv } = .ok (.lst (oddL n)) { s2 with inv := s1.inv } := rfl
      unfold yWhat
      rw [eCall_run, aCons_run, v0, bind_ok, aCons_run, v2, bind_ok, aNil_run, bind_ok, bind_ok, bind_ok, e3])
    refine ⟨fs.take k.toNat ++ [y] ++ fs.drop k.toNat, s3, ?_, ?_, fun x hx => ?_, g3⟩
    · unfold sIns2
      show after (runD yAt (yS d n (some (.own fs))) s1) _ _ = _
      rw [a1, after_ok, a2, after_ok]
      dsimp only
      rw [if_pos (show 0 ≤ k ∧ k < 2 ^ 63 ∧ fs.length < sizeLine from ⟨k0, by omega, by rw [sizeLine_eq]; omega⟩)]
      rfl
    · rw [List.length_append, List.length_append, List.length_take, List.length_drop, List.length_singleton]
      omega
    · rw [List.mem_append, List.mem_append] at hx
      rcases hx with (hx | hx) | hx
      · exact hf x (List.mem_of_mem_take hx)
      · cases List.mem_singleton.mp hx
        exact .inr my
      · exact hf x (List.mem_of_mem_drop hx)
  · rw [decide_eq_false hr] at t
    rw [if_nx t]
    exact ⟨fs, s1, rfl, by omega, hf, g1⟩
theorem ypick_run (g : GS P s) (hn : n ≤ 2000) (hl : fs.length ≤ 5) (hf : ∀ x ∈ fs, fw n x) :
    ∃ e s2, yPick (yS d n (some (.own fs))) s = .nx (yS d n (some (.dat e))) s2 ∧ fewB e fs ∧ pz 7000 3 e ∧ GS P s2 := by
  have hp : ∀ x ∈ fs, pz 210 2 x := fun x hx => (fw_ok hn (hf x hx)).2
  have hb : ∀ e, lsT e fs → fewB e fs ∧ pz 7000 3 e := fun e he => by
    refine ⟨.inl ⟨he, by omega, fun x hx => (fw_ok hn (hf x hx)).1⟩, ?_⟩
    rcases he with rfl | rfl
    · exact pz_mono (pz_lst hp hl) (by decide) (by decide)
    · exact pz_mono (pz_tup hp hl) (by decide) (by decide)
  have ho : ∀ e ∈ ([.non, .int 5, .dic [], .str "0"] : List D), fewB e fs ∧ pz 7000 3 e := fun e he => by
    have no : ∀ xs, ¬ lsT e xs := fun xs h => by
      simp only [List.mem_cons, List.not_mem_nil, or_false] at he
      rcases he with rfl | rfl | rfl | rfl <;> (rcases h with h | h <;> cases h)
    refine ⟨.inr ⟨?_, no⟩, ?_⟩
    · simp only [List.mem_cons, List.not_mem_nil, or_false] at he
      rcases he with rfl | rfl | rfl | rfl <;> rfl
    · simp only [List.mem_cons, List.not_mem_nil, or_false] at he
      rcases he with rfl | rfl | rfl | rfl
      · exact pz_mono pz_non (by decide) (by decide)
      · exact pz_mono (pz_int (by decide)) (by decide) (by decide)
      · exact pz_mono pz_dic (by decide) (by decide)
      · exact pz_mono (pz_kw ⟨by decide +kernel, by decide +kernel⟩) (by decide) (by decide)
  obtain ⟨w, s1, e1, mw, g1⟩ := pick_run (xs := [.non, .int 5, .dic [], .str "0"]) g (by simp) (by simp)
  obtain ⟨e, s2, e2, me, g2⟩ := pick_run (xs := [.lst fs, .lst fs, .lst fs, .tup fs, w]) g1 (by simp) (by simp)
  have fz : frz 3 (yS d n (some (.own fs))) = yS d n (some (.dat (.lst fs))) := rfl
  have v0 : (eVar 0) (dats (yS d n (some (.dat (.lst fs))))) s = .ok .drw s := rfl
  have v3 : ∀ s, (eVar 3) (dats (yS d n (some (.dat (.lst fs))))) s = .ok (.lst fs) s := fun s => rfl
  have q0 : (eOf lstF1 (aCons (eC .non) (aCons (eC (.int 5)) (aCons (eC (.dic [])) (aCons (eC (.str "0")) (aNil)))))) (dats (yS d n (some (.dat (.lst fs))))) s = .ok (.lst [.non, .int 5, .dic [], .str "0"]) s := by
    rw [eOf_run, aCons_run, eC_run, bind_ok, aCons_run, eC_run, bind_ok, aCons_run, eC_run, bind_ok, aCons_run, eC_run, bind_ok, aNil_run]
    show lift (lstF1 [.non, .int 5, .dic [], .str "0"]) s = _
    rw [lst1 (by simp), lift_some]
  have q1 : yNone (dats (yS d n (some (.dat (.lst fs))))) s = .ok w s1 := by
    unfold yNone
    rw [eCall_run, aCons_run, v0, bind_ok, aCons_run, q0, bind_ok, aNil_run, bind_ok, bind_ok, bind_ok, e1]
  have q2 : (eOf tupleF (aCons (eVar 3) (aNil))) (dats (yS d n (some (.dat (.lst fs))))) s = .ok (.tup fs) s := rfl
  have q3 : yAny (dats (yS d n (some (.dat (.lst fs))))) s = .ok (.lst [.lst fs, .lst fs, .lst fs, .tup fs, w]) s1 := by
    unfold yAny
    rw [eOf_run, aCons_run, v3, bind_ok, aCons_run, v3, bind_ok, aCons_run, v3, bind_ok, aCons_run, q2, bind_ok, aCons_run, q1, bind_ok, aNil_run]
    show lift (lstF1 [.lst fs, .lst fs, .lst fs, .tup fs, w]) s1 = _
    rw [lst1 (by simp), lift_some]
  have q4 : (eCall (mf__law_pick) (aCons (eVar 0) (aCons yAny (aNil)))) (dats (yS d n (some (.dat (.lst fs))))) s = .ok e s2 := by
    rw [eCall_run, aCons_run, v0, bind_ok, aCons_run, q3, bind_ok, aNil_run, bind_ok, bind_ok, bind_ok, e2]
  have hfin : fewB e fs ∧ pz 7000 3 e := by
    simp only [List.mem_cons, List.not_mem_nil, or_false] at me
    rcases me with rfl | rfl | rfl | rfl | rfl
    · exact hb _ (.inl rfl)
    · exact hb _ (.inl rfl)
    · exact hb _ (.inl rfl)
    · exact hb _ (.inr rfl)
    · exact ho _ mw
  refine ⟨e, s2, ?_, hfin.1, hfin.2, g2⟩
  show (sSet 3 (eCall (mf__law_pick) (aCons (eVar 0) (aCons yAny (aNil))))) (frz 3 (yS d n (some (.own fs)))) s = _
  rw [fz, set_run (runD_ok q4)]
  rfl
end
end FL.K2
set_option Elab.async false
set_option linter.all false
set_option maxRecDepth 100000
set_option maxHeartbeats 4000000
namespace FL.K2
open PySem PySem.Spec PyProof.Rows L2 FL
variable {P : Nat → Addr} {c : Nat → Addr}
/-! ### what both tell of the numbers -/
noncomputable def zHang (c P : Nat → Addr) : EM := eToldD (P 33) "_law_right.<locals>.<lambda>" 4 (m__law_told c) (eCall (mf_hangs_on c) (aCons (eVar 1) (aCons (eVar 3) (aNil))))
noncomputable def zShow (c P : Nat → Addr) : EM := eToldD (P 33) "_law_right.<locals>.<lambda>" 4 (m__law_told c) (eCall (mf_showns c) (aCons (eVar 1) (aCons (eVar 3) (aNil))))
def zText : EM := eOf reprF (aCons (eOf tupF1 (aCons (eVar 3) (aCons (eVar 1) (aNil)))) (aNil))
def zTest : TM := mOr (mBl (eOp neG (eOf reprF (aCons (eVar 5) (aNil))) (eOf reprF (aCons (eCall (mf__law_due) (aCons (eVar 1) (aCons (eVar 3) (aNil)))) (aNil))))) (mBl (eOp neG zText (eVar 4)))
def zS (d e : D) (n : Nat) (a b : Option Sl) : Sls := [some (.dat .drw), some (.dat d), some (.dat (.lst (oddL n))), some (.dat e), a, b, none, none, none]
section
variable {d e : D} {rs : List Rw} {fs : List D} {s : S} {n : Nat}
theorem ne_same (z : Str) : neG (.str z) (.str z) = some (.bl false) := by
  show some (D.bl (!decide (z = z))) = _
  rw [decide_eq_true rfl]
  rfl
theorem zText_run {ρ : Env} {t : Str} (h1 : (eVar 1) ρ s = .ok d s) (h3 : (eVar 3) ρ s = .ok e s) (hz : reprF [.tup [e, d]] = some (.str t)) : zText ρ s = .ok (.str t) s := by
  unfold zText
  rw [eOf_run, aCons_run, tup2_run h3 h1, bind_ok, aNil_run, bind_ok, bind_ok, hz, lift_some]
theorem zRows_run (g : GS P s) (hP : P 33 ≠ P 34) (hd : lsT d (rs.map enc)) (ok : okL rs) (hl : rs.length ≤ 20) (he : fewB e fs) (hp : pz 7000 3 e) (m : SM) :
    ∃ t v1 v2, (sSeq (sSet 4 zText) (sSeq (sOwn 5 (aCons (zHang c P) (aNil))) (sSeq (sApp 5 (zShow c P)) (sSeq (sIf zTest (sRet (eC (.bl false))) (sNext)) m)))) (zS d e n none none) s = m (zS d e n (some (.dat (.str t))) (some (.own [v1, v2]))) s := by
  obtain ⟨t, ht⟩ := repr_in hp hd ok hl
  obtain ⟨v1, v2, z, a1, a2, a3, a4⟩ := mid_run (c := c) (s := s) hd ok hl he
  refine ⟨t, v1, v2, ?_⟩
  have e1 : sSet 4 zText (zS d e n none none) s = .nx (zS d e n (some (.dat (.str t))) none) s := set_run (runD_ok (zText_run rfl rfl ht))
  have h1 : ∀ b, zHang c P (dats (zS d e n (some (.dat (.str t))) b)) s = .ok v1 s := fun b => toldD_run g hP a1
  have h2 : ∀ b, zShow c P (dats (zS d e n (some (.dat (.str t))) b)) s = .ok v2 s := fun b => toldD_run g hP a2
  have e2 : sOwn 5 (aCons (zHang c P) (aNil)) (zS d e n (some (.dat (.str t))) none) s = .nx (zS d e n (some (.dat (.str t))) (some (.own [v1]))) s := by
    have q : runA (aCons (zHang c P) (aNil)) (zS d e n (some (.dat (.str t))) none) s = .ok [v1] s := by
      show (aCons (zHang c P) (aNil)) (dats (zS d e n (some (.dat (.str t))) none)) s = _
      rw [aCons_run, h1, bind_ok, aNil_run, bind_ok]
    unfold sOwn
    rw [q, after_ok, if_pos (show [v1].length ≤ sizeLine by rw [sizeLine_eq, List.length_singleton]; decide)]
    rfl
  have e3 : sApp 5 (zShow c P) (zS d e n (some (.dat (.str t))) (some (.own [v1]))) s = .nx (zS d e n (some (.dat (.str t))) (some (.own [v1, v2]))) s := by
    unfold sApp
    show after (runD (zShow c P) (zS d e n (some (.dat (.str t))) (some (.own [v1]))) s) _ _ = _
    rw [runD_ok (h2 _), after_ok, if_pos (show [v1].length < sizeLine by rw [sizeLine_eq, List.length_singleton]; decide)]
    rfl
  have e4 : runT zTest (zS d e n (some (.dat (.str t))) (some (.own [v1, v2]))) s = .ok false s := by
    have b0 : zTest (dats (zS d e n (some (.dat (.str t))) (some (.own [v1, v2])))) s = .bad := rfl
    have := runT_vis (b := false) (s1 := s) b0 (by
      have w1 : (eVar 1) (vis (zS d e n (some (.dat (.str t))) (some (.own [v1, v2])))) s = .ok d s := rfl
      have w3 : (eVar 3) (vis (zS d e n (some (.dat (.str t))) (some (.own [v1, v2])))) s = .ok e s := rfl
      have w4 : (eVar 4) (vis (zS d e n (some (.dat (.str t))) (some (.own [v1, v2])))) s = .ok (.str t) s := rfl
      have w5 : (eVar 5) (vis (zS d e n (some (.dat (.str t))) (some (.own [v1, v2])))) s = .ok (.lst [v1, v2]) s := rfl
      have u1 : (eOf reprF (aCons (eVar 5) (aNil))) (vis (zS d e n (some (.dat (.str t))) (some (.own [v1, v2])))) s = .ok (.str z) s := by
        rw [eOf_run, aCons_run, w5, bind_ok, aNil_run, bind_ok, bind_ok, a4, lift_some]
      have u2 : (eOf reprF (aCons (eCall (mf__law_due) (aCons (eVar 1) (aCons (eVar 3) (aNil)))) (aNil))) (vis (zS d e n (some (.dat (.str t))) (some (.own [v1, v2])))) s = .ok (.str z) s := by
        rw [eOf_run, aCons_run, eCall_run, aCons_run, w1, bind_ok, aCons_run, w3, bind_ok, aNil_run, bind_ok, bind_ok, bind_ok, a3, bind_ok, aNil_run, bind_ok, bind_ok, a4, lift_some]
      unfold zTest
      rw [mOr_run, mBl_run, eOp_run, u1, bind_ok, u2, bind_ok, ne_same, lift_some, bind_ok, bind_ok, if_neg Bool.false_ne_true, mBl_run, eOp_run, zText_run w1 w3 ht, bind_ok, w4, bind_ok, ne_same, lift_some, bind_ok])
    rw [this]
  rw [seq_nx e1, seq_nx e2, seq_nx e3, seq_nx (if_nx e4)]
end
end FL.K2
set_option Elab.async false
set_option linter.all false
set_option maxRecDepth 100000
set_option maxHeartbeats 4000000
namespace FL.K2
open PySem PySem.Spec PyProof.Rows L2 FL
variable {P : Nat → Addr} {c : Nat → Addr}
/-! ### one row, and what is told of it -/
theorem mul_twice {xs : List D} (h : xs.length * 2 ≤ 1000000) : mulF (.lst xs) (.int 2) = some (.lst (xs ++ xs)) := by
  have q : repF (.lst xs) (.int 2) = some (.lst (List.replicate 2 xs).flatten) := if_pos ⟨by decide, by decide, by rw [sizeLine_eq]; exact Nat.le_trans h (by decide)⟩
  show repF (.lst xs) (.int 2) = _
  rw [q]
  show some (D.lst (xs ++ (xs ++ []))) = _
  rw [List.append_nil]
theorem rngL_run {n : Nat} (h : n ≤ 1000000) : rngLF [.int (n : Nat)] = some (.lst ((List.range n).map nI)) := by
  have q : rngLF [.int (n : Nat)] = some (.lst (rangeD 0 ((n : Nat) : Int).toNat)) := if_pos ⟨by omega, by omega⟩
  rw [q, Int.toNat_natCast, rangeD_nats]
def hMenu : EM := eOp addF (eVar 2) (eOp mulF (eOf rngLF (aCons (eOf lenF (aCons (eVar 1) (aNil))) (aNil))) (eC (.int 2)))
def hSet : SM := sSet 6 (eCall (mf__law_pick) (aCons (eVar 0) (aCons hMenu (aNil))))
def uS (d e : D) (n : Nat) (a b x y : Option Sl) : Sls := [some (.dat .drw), some (.dat d), some (.dat (.lst (oddL n))), some (.dat e), a, b, x, y, none]
section
variable {d e x : D} {rs : List Rw} {s : S} {a b : Option Sl}
theorem here_run (g : GS P s) (hd : lsT d (rs.map enc)) (hl : rs.length ≤ 2000) : ∃ x s2, hSet (uS d e rs.length a b none none) s = .nx (uS d e rs.length a b (some (.dat x)) none) s2 ∧ fw rs.length x ∧ GS P s2 := by
  have ln : ((List.range rs.length).map nI).length = rs.length := by rw [List.length_map, List.length_range]
  have ol : (oddL rs.length).length = 8 := rfl
  obtain ⟨x, s2, e2, mx, g2⟩ := pick_run (xs := oddL rs.length ++ ((List.range rs.length).map nI ++ (List.range rs.length).map nI)) g (by
    intro h
    have := congrArg List.length h
    rw [List.length_append, ol, List.length_nil] at this
    omega) (by
    rw [List.length_append, List.length_append, ol, ln]
    omega)
  have v0 : (eVar 0) (dats (uS d e rs.length a b none none)) s = .ok .drw s := rfl
  have v2 : (eVar 2) (dats (uS d e rs.length a b none none)) s = .ok (.lst (oddL rs.length)) s := rfl
  have m1 : (eOf rngLF (aCons (eOf lenF (aCons (eVar 1) (aNil))) (aNil))) (dats (uS d e rs.length a b none none)) s = .ok (.lst ((List.range rs.length).map nI)) s := by
    rw [eOf_run, aCons_run, lenV 1 hd _ s rfl, bind_ok, aNil_run, bind_ok, bind_ok, rngL_run (by omega), lift_some]
  have m2 : hMenu (dats (uS d e rs.length a b none none)) s = .ok (.lst (oddL rs.length ++ ((List.range rs.length).map nI ++ (List.range rs.length).map nI))) s := by
    unfold hMenu
    rw [eOp_run, v2, bind_ok, eOp_run, m1, bind_ok, eC_run, bind_ok, mul_twice (by rw [ln]; omega), lift_some, bind_ok, addF_lst (by rw [List.length_append, ol, ln, sizeLine_eq]; omega), lift_some]
  refine ⟨x, s2, set_run (runD_ok (by rw [eCall_run, aCons_run, v0, bind_ok, aCons_run, m2, bind_ok, aNil_run, bind_ok, bind_ok, bind_ok, e2])), ?_, g2⟩
  have hn : x ∈ (List.range rs.length).map nI → fw rs.length x := fun h => by
    obtain ⟨p, hp, rfl⟩ := List.mem_map.mp h
    exact .inl ⟨p, rfl, List.mem_range.mp hp⟩
  rcases List.mem_append.mp mx with h | h
  · exact .inr h
  · exact (List.mem_append.mp h).elim hn hn
end
end FL.K2
set_option Elab.async false
set_option linter.all false
set_option maxRecDepth 100000
set_option maxHeartbeats 4000000
namespace FL.K2
open PySem PySem.Spec PyProof.Rows L2 FL
variable {P : Nat → Addr} {c : Nat → Addr}
/-! ### one row, and what is told of it, 2 -/
def vNum : TM := mAnd (isTy 6 "int") (mNot (isTy 6 "bool"))
def vDue : SM := sSet 7 (eOf tupF1 (aCons (eC (.str "refused")) (aCons (eIf vNum (eVar 6) (eC (.int 0))) (aNil))))
def vIn : TM := mAnd (isTy 6 "int") (mAnd (mNot (isTy 6 "bool")) (mBl (eChain leF ltF (eC (.int 0)) (eVar 6) (eOf lenF (aCons (eVar 1) (aNil))))))
def vTold : EM := eOf tupF1 (aCons (eC (.str "told")) (aCons (eCall (mf__law_is_down) (aCons (eVar 1) (aCons (eVar 6) (aNil)))) (aNil)))
def vDue2 : SM := sIf vIn (sSet 7 vTold) (sNext)
noncomputable def vEnd (c P : Nat → Addr) : EM := eOp eqG (eOf reprF (aCons (eToldD (P 33) "_law_right.<locals>.<lambda>" 4 (m__law_told c) (eCall (mf_looks_down c) (aCons (eVar 1) (aCons (eVar 6) (aNil))))) (aNil))) (eOf reprF (aCons (eVar 7) (aNil)))
section
variable {d e x y : D} {rs : List Rw} {s : S} {a b : Option Sl} {n : Nat}
theorem ty_of {ρ : Env} (h6 : (eVar 6) ρ s = .ok x s) (hx : (tyOf x).isSome = true) : ∃ i l : Bool, (isTy 6 "int") ρ s = .ok i s ∧ (isTy 6 "bool") ρ s = .ok l s ∧ (i && !l) = numB x := by
  have f : ∀ (z : String) (r : Bool), isiF [x, .ty z] = some (.bl r) → (isTy 6 z) ρ s = .ok r s := fun z r h => by
    unfold isTy
    rw [mTru_run, eOf_run, aCons_run, h6, bind_ok, aCons_run, eC_run, bind_ok, aNil_run, bind_ok, bind_ok, bind_ok, h, lift_some, bind_ok]
    rfl
  cases x with
  | int i => exact ⟨true, false, f _ _ rfl, f _ _ rfl, rfl⟩
  | bl b => exact ⟨true, true, f _ _ rfl, f _ _ rfl, rfl⟩
  | fn l => cases hx
  | _ => first | exact ⟨false, false, f _ _ rfl, f _ _ rfl, rfl⟩ | cases hx
theorem vNum_run {ρ : Env} (h6 : (eVar 6) ρ s = .ok x s) (hx : (tyOf x).isSome = true) : vNum ρ s = .ok (numB x) s := by
  obtain ⟨i, l, h1, h2, h3⟩ := ty_of h6 hx
  unfold vNum
  rw [mAnd_run, h1, bind_ok, ← h3]
  cases i with
  | false => rfl
  | true =>
    rw [if_pos rfl, mNot_run, h2, bind_ok]
    rfl
theorem below_num {n : Int} (h : numB x = false) : belowB x n = false := by
  cases x <;> first | rfl | cases h
theorem vIn_run {ρ : Env} (hd : lsT d (rs.map enc)) (h1 : ρ[1]? = some (some d)) (h6 : (eVar 6) ρ s = .ok x s) (hx : (tyOf x).isSome = true) : vIn ρ s = .ok (belowB x (rs.length : Nat)) s := by
  obtain ⟨i, l, t1, t2, t3⟩ := ty_of h6 hx
  unfold vIn
  rw [mAnd_run, t1, bind_ok]
  cases i with
  | false =>
    rw [below_num t3.symm]
    rfl
  | true =>
    rw [if_pos rfl, mAnd_run, mNot_run, t2, bind_ok, bind_ok]
    cases l with
    | true =>
      rw [below_num t3.symm]
      rfl
    | false =>
      have hn : numB x = true := t3.symm
      cases x with
      | int j =>
        have e2 : (eChain leF ltF (eC (.int 0)) (eVar 6) (eOf lenF (aCons (eVar 1) (aNil)))) ρ s = .ok (.bl (belowB (.int j) (rs.length : Nat))) s := by
          rw [eChain_run, eC_run, bind_ok, h6, bind_ok]
          show (lift (some (D.bl (decide (0 ≤ j)))) s).bind _ = RE.ok (D.bl (decide (0 ≤ j) && decide (j < (rs.length : Nat)))) s
          rw [lift_some, bind_ok]
          cases decide (0 ≤ j) with
          | true =>
            show ((eOf lenF (aCons (eVar 1) (aNil))) ρ s).bind (fun w s4 => lift (ltF (.int j) w) s4) = _
            rw [lenV 1 hd ρ s h1]
            rfl
          | false => rfl
        rw [if_pos (show (!false) = true from rfl), mBl_run, e2]
        rfl
      | _ => cases hn
theorem vDue_run (hx : (tyOf x).isSome = true) : vDue (uS d e n a b (some (.dat x)) none) s = .nx (uS d e n a b (some (.dat x)) (some (.dat (.tup [.str "refused", if numB x = true then x else .int 0])))) s := by
  have v6 : (eVar 6) (dats (uS d e n a b (some (.dat x)) none)) s = .ok x s := rfl
  have q : (eIf vNum (eVar 6) (eC (.int 0))) (dats (uS d e n a b (some (.dat x)) none)) s = .ok (if numB x = true then x else .int 0) s := by
    rw [eIf_run, vNum_run v6 hx, bind_ok]
    split
    · exact v6
    · rfl
  exact set_run (runD_ok (tup2_run rfl q))
theorem vDue2_run (hd : lsT d (rs.map enc)) (ok : okL rs) (hl : rs.length ≤ 2000) (hx : (tyOf x).isSome = true) : vDue2 (uS d e n a b (some (.dat x)) (some (.dat (.tup [.str "refused", if numB x = true then x else .int 0])))) s = .nx (uS d e n a b (some (.dat x)) (some (.dat (saysDown rs x)))) s := by
  have t : runT vIn (uS d e n a b (some (.dat x)) (some (.dat (.tup [.str "refused", if numB x = true then x else .int 0])))) s = .ok (belowB x (rs.length : Nat)) s := runT_ok (vIn_run hd rfl rfl hx)
  unfold vDue2 saysDown
  cases hb : belowB x (rs.length : Nat) with
  | false =>
    rw [hb] at t
    rw [if_nx t, if_neg Bool.false_ne_true]
    cases numB x <;> rfl
  | true =>
    rw [hb] at t
    rw [if_yes t, if_pos rfl]
    cases x with
    | int i =>
      have hb2 : (decide (0 ≤ i) && decide (i < (rs.length : Nat))) = true := hb
      rw [Bool.and_eq_true, decide_eq_true_iff, decide_eq_true_iff] at hb2
      have e1 : mf__law_is_down [d, .int i] s = .ok (.bl ((dn rs).getD i.toNat false)) s := by
        have := isdown_run (n := i.toNat) (s := s) hd ok hl (by omega)
        unfold nI at this
        rw [Int.toNat_of_nonneg hb2.1] at this
        exact this
      refine set_run (runD_ok (tup2_run rfl ?_))
      exact e1
    | _ => cases hb
theorem eq_same (z : Str) : eqG (.str z) (.str z) = some (.bl true) := by
  show some (D.bl (decide (z = z))) = _
  rw [decide_eq_true rfl]
theorem vEnd_run (g : GS P s) (hP : P 33 ≠ P 34) (hd : lsT d (rs.map enc)) (ok : okL rs) (hl : rs.length ≤ 20) (hx : (tyOf x).isSome = true) (hp : pz 210 2 x) : sRet (vEnd c P) (uS d e n a b (some (.dat x)) (some (.dat (saysDown rs x)))) s = .rt (.bl true) s := by
  obtain ⟨z, h1, h2⟩ := last_run (c := c) (s := s) hd ok hl hx hp
  refine ret_run (runD_ok ?_)
  have q : eToldD (P 33) "_law_right.<locals>.<lambda>" 4 (m__law_told c) (eCall (mf_looks_down c) (aCons (eVar 1) (aCons (eVar 6) (aNil)))) (dats (uS d e n a b (some (.dat x)) (some (.dat (saysDown rs x))))) s = .ok (saysDown rs x) s := toldD_run g hP h1
  have v7 : (eVar 7) (dats (uS d e n a b (some (.dat x)) (some (.dat (saysDown rs x))))) s = .ok (saysDown rs x) s := rfl
  unfold vEnd
  rw [eOp_run, eOf_run, aCons_run, q, bind_ok, aNil_run, bind_ok, bind_ok, h2, lift_some, bind_ok, eOf_run, aCons_run, v7, bind_ok, aNil_run, bind_ok, bind_ok, h2, lift_some, bind_ok, eq_same, lift_some]
end
end FL.K2
set_option Elab.async false
set_option linter.all false
set_option maxRecDepth 100000
set_option maxHeartbeats 4000000
namespace FL.K2
open PySem PySem.Spec PyProof.Rows L2 FL
variable {P : Nat → Addr} {c : Nat → Addr}
/-! ### all is told right -/
theorem right_form : m__law_right c P = sSeq (sSet 2 yOdd) (sSeq yFew (sSeq yIns (sSeq yPick (sSeq (sSet 4 zText) (sSeq (sOwn 5 (aCons (zHang c P) (aNil))) (sSeq (sApp 5 (zShow c P)) (sSeq (sIf zTest (sRet (eC (.bl false))) (sNext)) (sSeq hSet (sSeq vDue (sSeq vDue2 (sRet (vEnd c P)))))))))))) := rfl
section
variable {d : D} {rs : List Rw} {s : S}
theorem right_run (g : GS P s) (hP : P 33 ≠ P 34) (hd : lsT d (rs.map enc)) (ok : okL rs) (h0 : 0 < rs.length) (hl : rs.length ≤ 20) : ∃ s2, mf__law_right c P [.drw, d] s = .ok (.bl true) s2 ∧ GS P s2 := by
  have e1 : sSet 2 yOdd [some (.dat .drw), some (.dat d), none, none, none, none, none, none, none] s = .nx (yS d rs.length none) s := set_run (runD_ok (odd_run hd rfl))
  obtain ⟨fs, s1, e2, l2, f2, g1⟩ := few_run g hd h0 (by omega)
  obtain ⟨gs, s2, e3, l3, f3, g2⟩ := ins_run (d := d) (fs := fs) g1 (show rs.length ≤ 2000 by omega) l2 f2
  obtain ⟨e, s3, e4, b4, p4, g3⟩ := ypick_run (d := d) (fs := gs) g2 (show rs.length ≤ 2000 by omega) l3 f3
  obtain ⟨t, v1, v2, e5⟩ := zRows_run (c := c) (n := rs.length) g3 hP hd ok hl b4 p4 (sSeq hSet (sSeq vDue (sSeq vDue2 (sRet (vEnd c P)))))
  obtain ⟨x, s4, e6, fx, g4⟩ := here_run (e := e) (a := some (.dat (.str t))) (b := some (.own [v1, v2])) g3 hd (by omega)
  obtain ⟨tx, px⟩ := fw_ok (by omega) fx
  refine ⟨s4, fn_rt rfl ?_, g4⟩
  show m__law_right c P [some (.dat .drw), some (.dat d), none, none, none, none, none, none, none] s = _
  rw [right_form, seq_nx e1, seq_nx e2, seq_nx e3, seq_nx e4]
  refine Eq.trans e5 ?_
  have e7 : hSet (zS d e rs.length (some (.dat (.str t))) (some (.own [v1, v2]))) s3 = .nx (uS d e rs.length (some (.dat (.str t))) (some (.own [v1, v2])) (some (.dat x)) none) s4 := e6
  rw [seq_nx e7, seq_nx (vDue_run tx), seq_nx (vDue2_run hd ok (by omega) tx)]
  exact vEnd_run g4 hP hd ok hl tx px
end
end FL.K2
set_option Elab.async false
set_option linter.all false
set_option maxRecDepth 100000
set_option maxHeartbeats 4000000
namespace FL.K2
open PySem PySem.Spec PyProof.Rows L2 FL
/-! ### the chain of two thousand -/
def chn (k m : Nat) : List Rw := Rw.does 1 "c" :: (List.range m).map (fun i => Rw.nt i) ++ [Rw.sh k m]
theorem chn_len (k m : Nat) : (chn k m).length = m + 2 := by
  unfold chn
  rw [List.length_append, List.length_cons, List.length_map, List.length_range, List.length_singleton]
theorem chn_0 (k m : Nat) : (chn k m)[0]? = some (Rw.does 1 "c") := rfl
theorem chn_mid {k m i : Nat} (h : i < m) : (chn k m)[i + 1]? = some (Rw.nt i) := by
  unfold chn
  rw [List.getElem?_append_left (by rw [List.length_cons, List.length_map, List.length_range]; omega), List.getElem?_cons_succ, List.getElem?_map, List.getElem?_range h]
  rfl
theorem chn_end (k m : Nat) : (chn k m)[m + 1]? = some (Rw.sh k m) := by
  unfold chn
  rw [List.getElem?_append_right (by rw [List.length_cons, List.length_map, List.length_range]; omega), List.length_cons, List.length_map, List.length_range, Nat.sub_self]
  rfl
theorem chn_ok {k m : Nat} (hk : k ≤ 99) : okL (chn k m) := fun i r h => by
  have hi : i < m + 2 := by
    rcases Nat.lt_or_ge i (m + 2) with q | q
    · exact q
    · rw [List.getElem?_eq_none (by rw [chn_len]; exact q)] at h; cases h
  rcases Nat.eq_zero_or_pos i with rfl | h0
  · rw [chn_0] at h
    cases h
    exact ⟨by decide, by decide, by decide, by decide +kernel⟩
  · by_cases he : i = m + 1
    · subst he
      rw [chn_end] at h
      cases h
      exact ⟨hk, Nat.lt_succ_self m⟩
    · obtain ⟨j, rfl⟩ : ∃ j, i = j + 1 := ⟨i - 1, by omega⟩
      rw [chn_mid (by omega)] at h
      cases h
      exact Nat.lt_succ_self j
theorem chn_parts {k m i : Nat} (h : i ≤ m) : i ∈ partsAt (chn k m) (i + 1) := by
  unfold partsAt
  by_cases he : i = m
  · subst he
    rw [chn_end]
    exact List.mem_singleton.mpr rfl
  · rw [chn_mid (by omega)]
    exact List.mem_singleton.mpr rfl
theorem chn_thr {k m : Nat} : ∀ j i : Nat, i + j ≤ m → Thr (chn k m) (i + j) i
  | 0, i, _ => .base
  | j + 1, i, h => by
    have ih := chn_thr (k := k) (m := m) j (i + 1) (by omega)
    have e : i + 1 + j = i + (j + 1) := by omega
    rw [e] at ih
    refine .step ih ?_ (chn_parts (i := i) (by omega))
    unfold shAt
    rw [chn_mid (by omega)]
    rfl
theorem chn_down {k m : Nat} (hk : k ≤ 99) : (dn (chn k m)).getD m false = false := by
  cases h : (dn (chn k m)).getD m false with
  | false => rfl
  | true =>
    have := (dn_iff (chn_ok hk) (m + 1) m (Nat.lt_succ_self m) (by rw [chn_len]; omega)).mp h 0 (by
      have := chn_thr (k := k) (m := m) m 0 (by omega)
      rw [Nat.zero_add] at this
      exact this)
    unfold doesAt at this
    rw [chn_0] at this
    cases this
theorem chn_top {k m : Nat} (hk : k ≤ 99) : (dn (chn k m)).getD (m + 1) false = true := by
  refine (dn_iff (chn_ok hk) (m + 2) (m + 1) (Nat.lt_succ_self _) (by rw [chn_len]; omega)).mpr fun q hq => ?_
  have e : shAt (chn k m) (m + 1) = true := by unfold shAt; rw [chn_end]; rfl
  rcases thr_head hq with rfl | ⟨h, _⟩
  · unfold doesAt
    rw [chn_end]
    rfl
  · rw [e] at h
    cases h
theorem chn_rch {k m : Nat} {fs : List Nat} (h : m + 1 ∈ fs) : ∀ j i : Nat, i + j = m + 1 → Rch (chn k m) fs i
  | 0, i, e => by
    rw [Nat.add_zero] at e
    exact .base (e ▸ h)
  | j + 1, i, e => .step (chn_rch h j (i + 1) (by omega)) (chn_parts (i := i) (by omega))
theorem chn_hangs {k m : Nat} {fs : List Nat} (hk : k ≤ 99) (h : m + 1 ∈ fs) (hf : ∀ p ∈ fs, p < m + 2) : hangs (chn k m) fs = List.range (m + 2) := by
  unfold hangs
  rw [chn_len]
  refine List.filter_eq_self.mpr fun p hp => ?_
  have hp2 := List.mem_range.mp hp
  exact (hung_iff (chn_ok hk) (by rw [chn_len]; exact hf) p).mpr (chn_rch h (m + 1 - p) p (by omega))
theorem chn_showns (k m : Nat) : (List.range (m + 2)).filter (shAt (chn k m)) = [m + 1] := by
  rw [List.range_succ, List.filter_append]
  have e1 : (List.range (m + 1)).filter (shAt (chn k m)) = [] := by
    rw [List.filter_eq_nil_iff]
    intro p hp
    have hp2 := List.mem_range.mp hp
    unfold shAt
    rcases Nat.eq_zero_or_pos p with rfl | h0
    · rw [chn_0]
      exact Bool.false_ne_true
    · obtain ⟨j, rfl⟩ : ∃ j, p = j + 1 := ⟨p - 1, by omega⟩
      rw [chn_mid (by omega)]
      exact Bool.false_ne_true
  have e2 : shAt (chn k m) (m + 1) = true := by unfold shAt; rw [chn_end]; rfl
  rw [e1, List.nil_append, List.filter_cons_of_pos e2, List.filter_nil]
end FL.K2
set_option Elab.async false
set_option linter.all false
set_option maxRecDepth 100000
set_option maxHeartbeats 4000000
namespace FL.K2
open PySem PySem.Spec PyProof.Rows L2 FL
variable {P : Nat → Addr} {c : Nat → Addr}
/-! ### rows of which the last is none -/
theorem first_app {x : D} : ∀ (rs : List Rw) (k : Nat), (∀ (i : Nat) (r : Rw), rs[i]? = some r → r.ok (k + i)) → rowB x ((k + rs.length : Nat)) = false → firstBad (rs.map enc ++ [x]) k = some (k + rs.length)
  | [], k, _, h => by
    show (if rowB x k = true then _ else some k) = _
    rw [if_neg (by intro z; rw [show ((k + ([] : List Rw).length : Nat) : Int) = (k : Nat) from rfl] at h; rw [h] at z; cases z)]
    rfl
  | r :: rs, k, ok, h => by
    have h0 : r.ok k := ok 0 r rfl
    show (if rowB (enc r) k = true then firstBad (rs.map enc ++ [x]) (k + 1) else some k) = _
    rw [if_pos (rowB_enc h0)]
    have e : k + 1 + rs.length = k + (r :: rs).length := by rw [List.length_cons]; omega
    rw [← e]
    exact first_app rs (k + 1) (fun i y q => by
      have := ok (i + 1) y q
      have e2 : k + 1 + i = k + (i + 1) := by omega
      rw [e2]; exact this) (by rw [e]; exact h)
theorem needB_app {x : D} {rs : List Rw} (ok : okL rs) (hl : rs.length < 2000) (h : rowB x (rs.length : Nat) = false) : needB (rs.map enc ++ [x]) = some rs.length := by
  unfold needB
  rw [List.take_of_length_le (by rw [List.length_append, List.length_map, List.length_singleton]; omega), first_app rs 0 (fun i r e => by rw [Nat.zero_add]; exact ok i r e) (by rw [Nat.zero_add]; exact h), Nat.zero_add]
section
variable {x y : D} {rs : List Rw} {s : S}
theorem need_bad (ok : okL rs) (hl : rs.length < 2000) (hx : ro x) (h : rowB x (rs.length : Nat) = false) (s : S) : mf_need_rows c [.lst (rs.map enc ++ [x])] s = .ex (c 2) [("at", nI rs.length)] s := by
  rw [need_run (.inl rfl) (fun z hz => by
    rcases List.mem_append.mp hz with q | q
    · exact ro_all ok z q
    · cases List.mem_singleton.mp q; exact hx), needB_app ok hl h]
  rfl
theorem looks_bad (ok : okL rs) (hl : rs.length < 2000) (hx : ro x) (h : rowB x (rs.length : Nat) = false) (s : S) : mf_looks_down c [.lst (rs.map enc ++ [x]), y] s = .ex (c 2) [("at", nI rs.length)] s := by
  refine fn_ex (ρ' := [some (.dat (.lst (rs.map enc ++ [x]))), some (.dat y)]) rfl ?_
  show m_looks_down c [some (.dat (.lst (rs.map enc ++ [x]))), some (.dat y)] s = _
  rw [looks_form]
  exact seq_ex (drop_ex (runD_ex (call1 (need_bad ok hl hx h s) rfl)))
theorem hangs_off (ok : okL rs) (hl : rs.length < 2000) (hx : ro x) (h : rowB x (rs.length : Nat) = false) (s : S) : mf_hangs_on c [.lst (rs.map enc ++ [x]), y] s = .ex (c 2) [("at", nI rs.length)] s := by
  refine fn_ex (ρ' := [some (.dat (.lst (rs.map enc ++ [x]))), some (.dat y), none, none, none]) rfl ?_
  show m_hangs_on c [some (.dat (.lst (rs.map enc ++ [x]))), some (.dat y), none, none, none] s = _
  rw [hangs_form]
  exact seq_ex (drop_ex (runD_ex (call1 (need_bad ok hl hx h s) rfl)))
theorem showns_off (ok : okL rs) (hl : rs.length < 2000) (hx : ro x) (h : rowB x (rs.length : Nat) = false) (s : S) : mf_showns c [.lst (rs.map enc ++ [x]), y] s = .ex (c 2) [("at", nI rs.length)] s := showns_bad (hangs_off ok hl hx h s)
/-- the four things that are no row at that number -/
def offL (n : Nat) : List D := [.non, .tup [.str "not", .int (n : Nat)], .tup [.str "does", .int 4, .str "c"], .lst [.str "false"]]
theorem off_ok {n : Nat} (h : x ∈ offL n) : ro x ∧ rowB x (n : Nat) = false := by
  have k1 : ∀ w ∈ ([("false" : Str), "does", "not", "and", "or", "shown"] : List Str), el (.str w) := fun w hw => (kw hw).1
  unfold offL at h
  simp only [List.mem_cons, List.not_mem_nil, or_false] at h
  rcases h with rfl | rfl | rfl | rfl
  · exact ⟨⟨rfl, fun ys e => by cases e⟩, rfl⟩
  · refine ⟨⟨rfl, fun ys e => by cases e; exact two_el (k1 _ (by simp)) (el_nat n)⟩, ?_⟩
    show (true && (decide (0 ≤ ((n : Nat) : Int)) && decide (((n : Nat) : Int) < (n : Nat)))) = false
    rw [decide_eq_false (Int.lt_irrefl _), Bool.and_false, Bool.and_false]
  · refine ⟨⟨rfl, fun ys e z hz => ?_⟩, rfl⟩
    cases e
    rcases List.mem_cons.mp hz with rfl | hz
    · exact k1 _ (by simp)
    · exact two_el ⟨rfl, fun z e => by cases e⟩ (el_txt ⟨by decide +kernel, by decide +kernel⟩) z hz
  · exact ⟨⟨rfl, fun ys e => by cases e⟩, rfl⟩
end
end FL.K2
set_option Elab.async false
set_option linter.all false
set_option maxRecDepth 100000
set_option maxHeartbeats 4000000
namespace FL.K2
open PySem PySem.Spec PyProof.Rows L2 FL
variable {P : Nat → Addr} {c : Nat → Addr}
/-! ### three works that are refused -/
def tOff (n : Nat) : D := .tup [.str "refused", nI n]
theorem ne_three (n : Nat) : neG (.lst [tOff n, tOff n, tOff n]) (.lst [tOff n, tOff n, tOff n]) = some (.bl false) := by
  have t : toP (.lst [tOff n, tOff n, tOff n]) = some (.list [.tuple [.str "refused", .int (n : Nat)], .tuple [.str "refused", .int (n : Nat)], .tuple [.str "refused", .int (n : Nat)]]) := rfl
  have sh : SeqAt.shaped (.list [.tuple [.str "refused", .int (n : Nat)], .tuple [.str "refused", .int (n : Nat)], .tuple [.str "refused", .int (n : Nat)]]) = true := by
    have k : PyData.strOk ("refused" : Str) = true := by decide +kernel
    unfold SeqAt.shaped
    rw [Bool.and_eq_true]
    refine ⟨?_, decide_eq_true ?_⟩
    · simp only [PyData.canLay0, PyData.canLayAll0, k, Bool.and_self]
    · simp only [PyData.depth, PyData.depthAll]
      decide
  show neF (.lst [tOff n, tOff n, tOff n]) (.lst [tOff n, tOff n, tOff n]) = _
  unfold neF
  rw [t]
  refine (if_pos ⟨sh, sh⟩).trans ?_
  simp [PyData.eqv, PyData.eqvAll]
theorem mul_three (v : D) : mulF (.lst [v]) (.int 3) = some (.lst [v, v, v]) := by
  show repF (.lst [v]) (.int 3) = _
  rw [rep_one (by decide) (by decide) (by rw [sizeLine_eq, List.length_singleton]; decide)]
  rfl
section
variable {l0 l1 l2 : LamD} {rs : List Rw} {x : D} {s : S} {a0 a1 a2 a3 a6 a8 : Option D}
noncomputable def wTold (c : Nat → Addr) (l0 l1 l2 : LamD) : EM := eTold 4 (m__law_told c) (tabL c l0 l1 l2) [7] (eVar 7)
def wE (a0 a1 a2 a3 : Option D) (b : D) (a5 a6 a7 a8 : Option D) : Env := [a0, a1, a2, a3, some b, a5, a6, a7, a8]
theorem eTold_run {l : LamD} {mb : EM} {ρ : Env} {d : D} (h7 : (eVar 7) ρ s = .ok (.fn l) s) (ht : tabL c l0 l1 l2 l.k = some (l, mb)) (h : toldA 4 (m__law_told c) (mb (wipeE ρ [7])) s = some d) : wTold c l0 l1 l2 ρ s = .ok d s := by
  unfold wTold eTold
  rw [h7, bind_ok]
  dsimp only
  rw [ht]
  dsimp only
  refine (if_pos rfl).trans ?_
  rw [h, lift_some]
theorem three_run (h0 : l0.k = 0) (h1 : l1.k = 1) (h2 : l2.k = 2) (ok : okL rs) (hl : rs.length < 2000) (hx : x ∈ offL rs.length) :
    (eLc [7] 9 (c1 7) (iOf itemsF (eVar 5)) tYesD (wTold c l0 l1 l2)) (wE a0 a1 a2 a3 (.lst (rs.map enc ++ [x])) (some (.lst [.fn l0, .fn l1, .fn l2])) a6 none a8) s = .ok (.lst [tOff rs.length, tOff rs.length, tOff rs.length]) s := by
  obtain ⟨ro1, rb⟩ := off_ok hx
  have i5 : (iOf itemsF (eVar 5)) (wE a0 a1 a2 a3 (.lst (rs.map enc ++ [x])) (some (.lst [.fn l0, .fn l1, .fn l2])) a6 none a8) s = .ok [.fn l0, .fn l1, .fn l2] s := rfl
  have q : lcL (c1 7) tYesD (wTold c l0 l1 l2) (wipeE (wE a0 a1 a2 a3 (.lst (rs.map enc ++ [x])) (some (.lst [.fn l0, .fn l1, .fn l2])) a6 none a8) [7]) [.fn l0, .fn l1, .fn l2] s = .ok ([D.fn l0, .fn l1, .fn l2].map fun _ => tOff rs.length) s := lcL_map fun y hy => by
    simp only [List.mem_cons, List.not_mem_nil, or_false] at hy
    rcases hy with rfl | rfl | rfl
    · refine ⟨wE a0 a1 a2 a3 (.lst (rs.map enc ++ [x])) (some (.lst [.fn l0, .fn l1, .fn l2])) a6 (some (.fn l0)) a8, rfl, rfl, eTold_run rfl (by rw [h0]; rfl) (told_off fun s => ?_)⟩
      have := looks_bad (c := c) (y := .str "0") ok hl ro1 rb s
      exact this
    · refine ⟨wE a0 a1 a2 a3 (.lst (rs.map enc ++ [x])) (some (.lst [.fn l0, .fn l1, .fn l2])) a6 (some (.fn l1)) a8, rfl, rfl, eTold_run rfl (by rw [h1]; rfl) (told_off fun s => ?_)⟩
      have := hangs_off (c := c) (y := .non) ok hl ro1 rb s
      exact this
    · refine ⟨wE a0 a1 a2 a3 (.lst (rs.map enc ++ [x])) (some (.lst [.fn l0, .fn l1, .fn l2])) a6 (some (.fn l2)) a8, rfl, rfl, eTold_run rfl (by rw [h2]; rfl) (told_off fun s => ?_)⟩
      have := showns_off (c := c) (y := .lst [.int 0]) ok hl ro1 rb s
      exact this
  unfold eLc
  rw [if_pos (show (wE a0 a1 a2 a3 (.lst (rs.map enc ++ [x])) (some (.lst [.fn l0, .fn l1, .fn l2])) a6 none a8).length ≤ 9 from Nat.le_refl 9), i5, bind_ok, q]
  show (if ([D.fn l0, .fn l1, .fn l2].map fun _ => tOff rs.length).length ≤ sizeLine then RE.ok (D.lst _) s else .bad) = _
  rw [if_pos (show ([D.fn l0, .fn l1, .fn l2].map fun _ => tOff rs.length).length ≤ sizeLine by rw [List.length_map, sizeLine_eq]; simp)]
  rfl
end
end FL.K2
set_option Elab.async false
set_option linter.all false
set_option maxRecDepth 100000
set_option maxHeartbeats 4000000
namespace FL.K2
open PySem PySem.Spec PyProof.Rows L2 FL
variable {P : Nat → Addr} {c : Nat → Addr}
/-! ### one turn -/
def bLines : SM := sSet 3 (eCall (mf__law_lines) (aCons (eVar 1) (aCons (eOp addF (eC (.int 1)) (eCall (mf__law_take) (aCons (eVar 1) (aCons (eC (.int 20)) (aNil))))) (aCons (eCall (mf__law_words) (aCons (eVar 1) (aCons (eC (.int 3)) (aNil)))) (aCons (eC (.int 99)) (aNil))))))
noncomputable def bRight (c P : Nat → Addr) : SM := sIf (mOr (mNot (mTru (eCall (mf__law_right c P) (aCons (eVar 1) (aCons (eVar 3) (aNil)))))) (mNot (mTru (eCall (mf__law_right c P) (aCons (eVar 1) (aCons (eOf tupleF (aCons (eVar 3) (aNil))) (aNil))))))) (sRet (eC (.bl false))) (sNext)
def bOff : EM := eOf lstF1 (aCons (eC .non) (aCons (eOf tupF1 (aCons (eC (.str "not")) (aCons (eOf lenF (aCons (eVar 3) (aNil))) (aNil)))) (aCons (eOf tupF1 (aCons (eC (.str "does")) (aCons (eC (.int 4)) (aCons (eC (.str "c")) (aNil))))) (aCons (eOf lstF1 (aCons (eC (.str "false")) (aNil))) (aNil)))))
def bBad : SM := sSet 4 (eOp addF (eVar 3) (eOf lstF1 (aCons (eCall (mf__law_pick) (aCons (eVar 1) (aCons bOff (aNil)))) (aNil))))
noncomputable def bCmp (c : Nat → Addr) (l0 l1 l2 : LamD) : SM := sIf (mBl (eOp neG (eLc [7] 9 (c1 7) (iOf itemsF (eVar 5)) (tYesD) (wTold c l0 l1 l2)) (eOp mulF (eOf lstF1 (aCons (eOf tupF1 (aCons (eC (.str "refused")) (aCons (eOf lenF (aCons (eVar 3) (aNil))) (aNil)))) (aNil))) (eC (.int 3))))) (sRet (eC (.bl false))) (sNext)
noncomputable def bTurn (c P : Nat → Addr) (l0 l1 l2 : LamD) : SM := sSeq bLines (sSeq (bRight c P) (sSeq bBad (sSeq (sOwn 5 (aCons (eLam (P 34) l0) (aNil))) (sSeq (sApp 5 (eLam (P 34) l1)) (sSeq (sApp 5 (eLam (P 34) l2)) (bCmp c l0 l1 l2))))))
theorem law_form (c P : Nat → Addr) (l0 l1 l2 : LamD) : ∃ r, m_law c P l0 l1 l2 = sSeq (sFor (b1 2) (iOfA rng1F (aCons (eOp addF (eC (.int 3)) (eOf min2F (aCons (eOf lenF (aCons (eVar 0) (aNil))) (aCons (eC (.int 12)) (aNil))))) (aNil))) (bTurn c P l0 l1 l2)) r := ⟨_, rfl⟩
section
variable {l0 l1 l2 : LamD} {s : S} {ns : List Int} {o2 o3 o4 o5 o6 o8 : Option Sl} {d x : D} {rs : List Rw}
def wL (ns : List Int) (o2 o3 o4 o5 o6 o8 : Option Sl) : Sls := [some (.dat (.scr ns)), some (.dat .drw), o2, o3, o4, o5, o6, none, o8]
theorem bLines_run (g : GS P s) : ∃ rs s2, bLines (wL ns o2 o3 o4 o5 o6 o8) s = .nx (wL ns o2 (some (.dat (.lst (rs.map enc)))) o4 o5 o6 o8) s2 ∧ okL rs ∧ 0 < rs.length ∧ rs.length ≤ 20 ∧ GS P s2 := by
  obtain ⟨r, s1, e1, r0, r1, g1⟩ := take_run (n := 20) g (by decide) (by decide)
  obtain ⟨ws, s2, e2, wl, wa, g2⟩ := words_run (m := 3) g1 (by decide)
  obtain ⟨rs, s3, e3, rl, ok, g3⟩ := lines_run (m := 1 + r.toNat) (hi := 99) (ws := ws) g2 (by omega) (by omega) (by decide) (by decide) wa (by intro h; rw [h] at wl; cases wl) (by omega)
  refine ⟨rs, s3, ?_, ok, by omega, by omega, g3⟩
  have v1 : ∀ s, (eVar 1) (dats (wL ns o2 o3 o4 o5 o6 o8)) s = .ok .drw s := fun s => rfl
  have q1 : (eOp addF (eC (.int 1)) (eCall (mf__law_take) (aCons (eVar 1) (aCons (eC (.int 20)) (aNil))))) (dats (wL ns o2 o3 o4 o5 o6 o8)) s = .ok (.int ((1 + r.toNat : Nat))) s1 := by
    rw [eOp_run, eC_run, bind_ok, eCall_run, aCons_run, v1, bind_ok, aCons_run, eC_run, bind_ok, aNil_run, bind_ok, bind_ok, bind_ok, e1, bind_ok]
    have : ((1 + r.toNat : Nat) : Int) = 1 + r := by omega
    rw [this]
    rfl
  have q2 : (eCall (mf__law_words) (aCons (eVar 1) (aCons (eC (.int 3)) (aNil)))) (dats (wL ns o2 o3 o4 o5 o6 o8)) s1 = .ok (.lst ws) s2 := by
    rw [eCall_run, aCons_run, v1, bind_ok, aCons_run, eC_run, bind_ok, aNil_run, bind_ok, bind_ok, bind_ok]
    exact e2
  exact set_run (runD_ok (by rw [eCall_run, aCons_run, v1, bind_ok, aCons_run, q1, bind_ok, aCons_run, q2, bind_ok, aCons_run, eC_run, bind_ok, aNil_run, bind_ok, bind_ok, bind_ok, bind_ok, bind_ok, e3]))
theorem bRight_run (g : GS P s) (hP : P 33 ≠ P 34) (ok : okL rs) (h0 : 0 < rs.length) (hl : rs.length ≤ 20) : ∃ s2, bRight c P (wL ns o2 (some (.dat (.lst (rs.map enc)))) o4 o5 o6 o8) s = .nx (wL ns o2 (some (.dat (.lst (rs.map enc)))) o4 o5 o6 o8) s2 ∧ GS P s2 := by
  obtain ⟨s1, e1, g1⟩ := right_run (c := c) (d := .lst (rs.map enc)) g hP (.inl rfl) ok h0 hl
  obtain ⟨s2, e2, g2⟩ := right_run (c := c) (d := .tup (rs.map enc)) g1 hP (.inr rfl) ok h0 hl
  refine ⟨s2, if_nx (runT_ok ?_), g2⟩
  have v1 : ∀ s, (eVar 1) (dats (wL ns o2 (some (.dat (.lst (rs.map enc)))) o4 o5 o6 o8)) s = .ok .drw s := fun s => rfl
  have v3 : ∀ s, (eVar 3) (dats (wL ns o2 (some (.dat (.lst (rs.map enc)))) o4 o5 o6 o8)) s = .ok (.lst (rs.map enc)) s := fun s => rfl
  have t3 : ∀ s, (eOf tupleF (aCons (eVar 3) (aNil))) (dats (wL ns o2 (some (.dat (.lst (rs.map enc)))) o4 o5 o6 o8)) s = .ok (.tup (rs.map enc)) s := fun s => rfl
  have tb : ∀ s, lift (truD (.bl true)) s = RE.ok true s := fun s => rfl
  rw [mOr_run, mNot_run, mTru_run, eCall_run, aCons_run, v1, bind_ok, aCons_run, v3, bind_ok, aNil_run, bind_ok, bind_ok, bind_ok, e1, bind_ok, tb, bind_ok, bind_ok, if_neg (show ¬ (!true) = true by decide), mNot_run, mTru_run, eCall_run, aCons_run, v1, bind_ok, aCons_run, t3, bind_ok, aNil_run, bind_ok, bind_ok, bind_ok, e2, bind_ok, tb, bind_ok]
  rfl
end
end FL.K2
set_option Elab.async false
set_option linter.all false
set_option maxRecDepth 100000
set_option maxHeartbeats 4000000
namespace FL.K2
open PySem PySem.Spec PyProof.Rows L2 FL
variable {P : Nat → Addr} {c : Nat → Addr}
/-! ### one turn, 2 -/
section
variable {l0 l1 l2 : LamD} {s : S} {ns : List Int} {o2 o3 o4 o5 o6 o8 : Option Sl} {d x : D} {rs : List Rw}
theorem bBad_run (g : GS P s) (hl : rs.length ≤ 20) : ∃ x s2, bBad (wL ns o2 (some (.dat (.lst (rs.map enc)))) o4 o5 o6 o8) s = .nx (wL ns o2 (some (.dat (.lst (rs.map enc)))) (some (.dat (.lst (rs.map enc ++ [x])))) o5 o6 o8) s2 ∧ x ∈ offL rs.length ∧ GS P s2 := by
  obtain ⟨x, s1, e1, mx, g1⟩ := pick_run (xs := offL rs.length) g (by unfold offL; exact List.cons_ne_nil _ _) (Nat.le_trans (show (offL rs.length).length ≤ 4 from Nat.le_refl 4) (by omega))
  refine ⟨x, s1, ?_, mx, g1⟩
  have v1 : (eVar 1) (dats (wL ns o2 (some (.dat (.lst (rs.map enc)))) o4 o5 o6 o8)) s = .ok .drw s := rfl
  have v3 : (eVar 3) (dats (wL ns o2 (some (.dat (.lst (rs.map enc)))) o4 o5 o6 o8)) s = .ok (.lst (rs.map enc)) s := rfl
  have ln := lenV 3 (.inl rfl) (dats (wL ns o2 (some (.dat (.lst (rs.map enc)))) o4 o5 o6 o8)) s (rs := rs) rfl
  have q3 : (eOf tupF1 (aCons (eC (.str "does")) (aCons (eC (.int 4)) (aCons (eC (.str "c")) (aNil))))) (dats (wL ns o2 (some (.dat (.lst (rs.map enc)))) o4 o5 o6 o8)) s = .ok (.tup [.str "does", .int 4, .str "c"]) s := by
    rw [eOf_run, aCons_run, eC_run, bind_ok, aCons_run, eC_run, bind_ok, aCons_run, eC_run, bind_ok, aNil_run, bind_ok, bind_ok, bind_ok, bind_ok, tup1 (by simp), lift_some]
  have q4 : (eOf lstF1 (aCons (eC (.str "false")) (aNil))) (dats (wL ns o2 (some (.dat (.lst (rs.map enc)))) o4 o5 o6 o8)) s = .ok (.lst [.str "false"]) s := by
    rw [eOf_run, aCons_run, eC_run, bind_ok, aNil_run, bind_ok, bind_ok, lst1 (by simp), lift_some]
  have q5 : bOff (dats (wL ns o2 (some (.dat (.lst (rs.map enc)))) o4 o5 o6 o8)) s = .ok (.lst (offL rs.length)) s := by
    unfold bOff
    rw [eOf_run, aCons_run, eC_run, bind_ok, aCons_run, tup2_run rfl ln, bind_ok, aCons_run, q3, bind_ok, aCons_run, q4, bind_ok, aNil_run]
    show lift (lstF1 (offL rs.length)) s = _
    rw [lst1 (Nat.le_trans (show (offL rs.length).length ≤ 4 from Nat.le_refl 4) (by omega)), lift_some]
  have q6 : (eOf lstF1 (aCons (eCall (mf__law_pick) (aCons (eVar 1) (aCons bOff (aNil)))) (aNil))) (dats (wL ns o2 (some (.dat (.lst (rs.map enc)))) o4 o5 o6 o8)) s = .ok (.lst [x]) s1 := by
    rw [eOf_run, aCons_run, eCall_run, aCons_run, v1, bind_ok, aCons_run, q5, bind_ok, aNil_run, bind_ok, bind_ok, bind_ok, e1, bind_ok, aNil_run, bind_ok, bind_ok, lst1 (by simp), lift_some]
  exact set_run (runD_ok (by rw [eOp_run, v3, bind_ok, q6, bind_ok, addF_lst (by rw [List.length_map, List.length_singleton, sizeLine_eq]; omega), lift_some]))
theorem lam_run {l : LamD} (g : GS P s) (hP : P 33 ≠ P 34) (hq : l.q = "law.<locals>.<lambda>") (ρ : Env) : eLam (P 34) l ρ s = .ok (.fn l) s := eLam_run (by
  rw [g.2.2.2, hq]
  refine ⟨List.mem_cons_of_mem _ (List.mem_singleton.mpr rfl), fun r hr e => ?_⟩
  rcases List.mem_cons.mp hr with rfl | hr
  · exact absurd e hP
  · cases List.mem_singleton.mp hr
    rfl)
theorem bTurn_run (g : GS P s) (hP : P 33 ≠ P 34) (h0 : l0.k = 0 ∧ l0.q = "law.<locals>.<lambda>") (h1 : l1.k = 1 ∧ l1.q = "law.<locals>.<lambda>") (h2 : l2.k = 2 ∧ l2.q = "law.<locals>.<lambda>") :
    ∃ p3 p4 p5 s2, bTurn c P l0 l1 l2 (wL ns o2 o3 o4 o5 o6 o8) s = .nx (wL ns o2 p3 p4 p5 o6 o8) s2 ∧ GS P s2 := by
  obtain ⟨rs, s1, e1, ok, r0, rl, g1⟩ := bLines_run (ns := ns) (o2 := o2) (o3 := o3) (o4 := o4) (o5 := o5) (o6 := o6) (o8 := o8) g
  obtain ⟨s2, e2, g2⟩ := bRight_run (c := c) (ns := ns) (o2 := o2) (o4 := o4) (o5 := o5) (o6 := o6) (o8 := o8) g1 hP ok r0 rl
  obtain ⟨x, s3, e3, mx, g3⟩ := bBad_run (ns := ns) (o2 := o2) (o4 := o4) (o5 := o5) (o6 := o6) (o8 := o8) g2 rl
  refine ⟨some (.dat (.lst (rs.map enc))), some (.dat (.lst (rs.map enc ++ [x]))), some (.own [.fn l0, .fn l1, .fn l2]), s3, ?_, g3⟩
  have e4 : sOwn 5 (aCons (eLam (P 34) l0) (aNil)) (wL ns o2 (some (.dat (.lst (rs.map enc)))) (some (.dat (.lst (rs.map enc ++ [x])))) o5 o6 o8) s3 = .nx (wL ns o2 (some (.dat (.lst (rs.map enc)))) (some (.dat (.lst (rs.map enc ++ [x])))) (some (.own [.fn l0])) o6 o8) s3 := by
    have q : runA (aCons (eLam (P 34) l0) (aNil)) (wL ns o2 (some (.dat (.lst (rs.map enc)))) (some (.dat (.lst (rs.map enc ++ [x])))) o5 o6 o8) s3 = .ok [.fn l0] s3 := by
      show (aCons (eLam (P 34) l0) (aNil)) (dats _) s3 = _
      rw [aCons_run, lam_run g3 hP h0.2, bind_ok, aNil_run, bind_ok]
    unfold sOwn
    rw [q, after_ok, if_pos (show [D.fn l0].length ≤ sizeLine by rw [sizeLine_eq, List.length_singleton]; decide)]
    rfl
  have app : ∀ (l : LamD) (xs : List D), l.q = "law.<locals>.<lambda>" → xs.length ≤ 2 → sApp 5 (eLam (P 34) l) (wL ns o2 (some (.dat (.lst (rs.map enc)))) (some (.dat (.lst (rs.map enc ++ [x])))) (some (.own xs)) o6 o8) s3 = .nx (wL ns o2 (some (.dat (.lst (rs.map enc)))) (some (.dat (.lst (rs.map enc ++ [x])))) (some (.own (xs ++ [.fn l]))) o6 o8) s3 := fun l xs hq hx => by
    unfold sApp
    show after (runD (eLam (P 34) l) (wL ns o2 (some (.dat (.lst (rs.map enc)))) (some (.dat (.lst (rs.map enc ++ [x])))) (some (.own xs)) o6 o8) s3) _ _ = _
    rw [runD_ok (lam_run g3 hP hq _), after_ok, if_pos (show xs.length < sizeLine by rw [sizeLine_eq]; omega)]
    rfl
  have e5 := app l1 [.fn l0] h1.2 (by simp)
  have e6 := app l2 [.fn l0, .fn l1] h2.2 (by simp)
  have e7 : bCmp c l0 l1 l2 (wL ns o2 (some (.dat (.lst (rs.map enc)))) (some (.dat (.lst (rs.map enc ++ [x])))) (some (.own [.fn l0, .fn l1, .fn l2])) o6 o8) s3 = .nx (wL ns o2 (some (.dat (.lst (rs.map enc)))) (some (.dat (.lst (rs.map enc ++ [x])))) (some (.own [.fn l0, .fn l1, .fn l2])) o6 o8) s3 := by
    refine if_nx ?_
    have b0 : (mBl (eOp neG (eLc [7] 9 (c1 7) (iOf itemsF (eVar 5)) (tYesD) (wTold c l0 l1 l2)) (eOp mulF (eOf lstF1 (aCons (eOf tupF1 (aCons (eC (.str "refused")) (aCons (eOf lenF (aCons (eVar 3) (aNil))) (aNil)))) (aNil))) (eC (.int 3))))) (dats (wL ns o2 (some (.dat (.lst (rs.map enc)))) (some (.dat (.lst (rs.map enc ++ [x])))) (some (.own [.fn l0, .fn l1, .fn l2])) o6 o8)) s3 = .bad := rfl
    have := runT_vis (b := false) (s1 := s3) b0 (by
      have w : vis (wL ns o2 (some (.dat (.lst (rs.map enc)))) (some (.dat (.lst (rs.map enc ++ [x])))) (some (.own [.fn l0, .fn l1, .fn l2])) o6 o8) = wE (some (.scr ns)) (some .drw) (visOf o2) (some (.lst (rs.map enc))) (.lst (rs.map enc ++ [x])) (some (.lst [.fn l0, .fn l1, .fn l2])) (visOf o6) none (visOf o8) := rfl
      rw [w]
      have ln := lenV 3 (.inl rfl) (wE (some (.scr ns)) (some .drw) (visOf o2) (some (.lst (rs.map enc))) (.lst (rs.map enc ++ [x])) (some (.lst [.fn l0, .fn l1, .fn l2])) (visOf o6) none (visOf o8)) s3 (rs := rs) rfl
      rw [mBl_run, eOp_run, three_run h0.1 h1.1 h2.1 ok (by omega) mx, bind_ok, eOp_run, eOf_run, aCons_run, tup2_run rfl ln, bind_ok, aNil_run, bind_ok, bind_ok, lst1 (by simp), lift_some, bind_ok, eC_run, bind_ok, mul_three, lift_some, bind_ok]
      show (lift (neG (.lst [tOff rs.length, tOff rs.length, tOff rs.length]) (.lst [tOff rs.length, tOff rs.length, tOff rs.length])) s3).bind _ = _
      rw [ne_three, lift_some, bind_ok])
    rw [this]
  unfold bTurn
  rw [seq_nx e1, seq_nx e2, seq_nx e3, seq_nx e4, seq_nx e5]
  exact (seq_nx e6).trans e7
end
end FL.K2
set_option Elab.async false
set_option linter.all false
set_option maxRecDepth 100000
set_option maxHeartbeats 4000000
namespace FL.K2
open PySem PySem.Spec PyProof.Rows L2 FL
variable {P : Nat → Addr} {c : Nat → Addr}
/-! ### all turns, the chain, the end -/
def zTurns : AM := iOfA rng1F (aCons (eOp addF (eC (.int 3)) (eOf min2F (aCons (eOf lenF (aCons (eVar 0) (aNil))) (aCons (eC (.int 12)) (aNil))))) (aNil))
def zNots : EM := eLc [8] 9 (c1 8) (iOfA rng1F (aCons (eC (.int 1998)) (aNil))) (tYesD) (eOf tupF1 (aCons (eC (.str "not")) (aCons (eVar 8) (aNil))))
def zChain : EM := eOp addF (eOp addF (eOf lstF1 (aCons (eOf tupF1 (aCons (eC (.str "does")) (aCons (eC (.int 1)) (aCons (eC (.str "c")) (aNil))))) (aNil))) zNots) (eOf lstF1 (aCons (eOf tupF1 (aCons (eC (.str "shown")) (aCons (eCall (mf__law_take) (aCons (eVar 1) (aCons (eC (.int 100)) (aNil)))) (aCons (eC (.int 1998)) (aNil))))) (aNil)))
def zBad (c : Nat → Addr) : TM := mOr (mNot (mTru (eCall (mf_looks_down c) (aCons (eVar 6) (aCons (eC (.int 1999)) (aNil)))))) (mOr (mTru (eCall2 (mf_looks_down c) (aCons (eC (.int 1998)) (aCons (eVar 6) (aNil))))) (mBl (eOp neG (eCall (mf_showns c) (aCons (eVar 6) (aCons (eOf lstF1 (aCons (eC (.int 1999)) (aNil))) (aNil)))) (eOf lstF1 (aCons (eC (.int 1999)) (aNil))))))
def zEnd (c : Nat → Addr) : EM := eOp eqG (eCall2 (mf_hangs_on c) (aCons (eOf tupF1 (aCons (eC (.int 1999)) (aCons (eC (.int 5)) (aCons (eC (.int 1999)) (aNil))))) (aCons (eVar 6) (aNil)))) (eOf rngLF (aCons (eC (.int 2000)) (aNil)))
theorem law_form2 (c P : Nat → Addr) (l0 l1 l2 : LamD) : m_law c P l0 l1 l2 = sSeq (sFor (b1 2) zTurns (bTurn c P l0 l1 l2)) (sSeq (sSet 6 zChain) (sSeq (sIf (zBad c) (sRet (eC (.bl false))) (sNext)) (sRet (zEnd c)))) := rfl
theorem eqv_self : ∀ w : List Nat, PyData.eqvAll (w.map pN) (w.map pN) = true
  | [] => by simp [PyData.eqvAll]
  | p :: w => by
    have ih := eqv_self w
    rw [List.map_cons]
    simp only [PyData.eqvAll, ih, pN, PyData.eqv, beq_self_eq_true, Bool.and_self]
theorem eq_nats (w : List Nat) : eqG (.lst (w.map nI)) (.lst (w.map nI)) = some (.bl true) := by
  have q : eqF (.lst (w.map nI)) (.lst (w.map nI)) = some (.bl true) := by
    unfold eqF
    rw [toP_nats]
    refine (if_pos ⟨shape_nats w, shape_nats w⟩).trans ?_
    simp only [PyData.eqv, eqv_self]
  show ((none : Option D).or ((eqF (.lst (w.map nI)) (.lst (w.map nI))).or (eqNilF _ _))) = _
  rw [q]
  rfl
theorem ne_self (w : List Nat) : neG (.lst (w.map nI)) (.lst (w.map nI)) = some (.bl false) := by
  rw [ne_nats]
  simp only [PyData.eqv, eqv_self, Bool.not_true]
section
variable {l0 l1 l2 : LamD} {s : S} {ns : List Int} {o2 o3 o4 o5 o6 o8 : Option Sl}
theorem zTurns_run (hn : ns.length ≤ 63) : ∃ is, runA zTurns (wL ns o2 o3 o4 o5 o6 o8) s = .ok is s := by
  have v0 : (eVar 0) (dats (wL ns o2 o3 o4 o5 o6 o8)) s = .ok (.scr ns) s := rfl
  have f1 : lenF [.scr ns] = some (.int (ns.length : Nat)) := rfl
  have f2 : min2F [.int (ns.length : Nat), .int 12] = some (.int (if (12 : Int) < (ns.length : Nat) then 12 else (ns.length : Nat))) := rfl
  have f3 : ∀ j : Int, addF (.int 3) (.int j) = some (.int (3 + j)) := fun j => rfl
  have b : ∃ j : Int, (if (12 : Int) < (ns.length : Nat) then 12 else ((ns.length : Nat) : Int)) = j ∧ 0 ≤ j ∧ j ≤ 12 := ⟨_, rfl, by split <;> omega, by split <;> omega⟩
  obtain ⟨j, ej, j0, j1⟩ := b
  rw [ej] at f2
  have q : rng1F [.int (3 + j)] = some (rangeD 0 (3 + j).toNat) := rng1_run (by omega) (by omega)
  refine ⟨rangeD 0 (3 + j).toNat, ?_⟩
  show zTurns (dats (wL ns o2 o3 o4 o5 o6 o8)) s = _
  unfold zTurns
  rw [iOfA_run, aCons_run, eOp_run, eC_run, bind_ok, eOf_run, aCons_run, eOf_run, aCons_run, v0, bind_ok, aNil_run, bind_ok, bind_ok, f1, lift_some, bind_ok, aCons_run, eC_run, bind_ok, aNil_run, bind_ok, bind_ok, bind_ok, f2, lift_some, bind_ok, f3, lift_some, bind_ok, aNil_run, bind_ok, bind_ok, q, lift_some]
theorem zLoop (hP : P 33 ≠ P 34) (h0 : l0.k = 0 ∧ l0.q = "law.<locals>.<lambda>") (h1 : l1.k = 1 ∧ l1.q = "law.<locals>.<lambda>") (h2 : l2.k = 2 ∧ l2.q = "law.<locals>.<lambda>") : ∀ (is : List D) (o2 o3 o4 o5 : Option Sl) (s : S), GS P s →
    ∃ p2 p3 p4 p5 s2, forL (b1 2) (bTurn c P l0 l1 l2) is (wL ns o2 o3 o4 o5 o6 o8) s = .nx (wL ns p2 p3 p4 p5 o6 o8) s2 ∧ GS P s2
  | [], o2, o3, o4, o5, s, g => ⟨o2, o3, o4, o5, s, rfl, g⟩
  | i :: is, o2, o3, o4, o5, s, g => by
    obtain ⟨p3, p4, p5, s1, e1, g1⟩ := bTurn_run (c := c) (ns := ns) (o2 := some (.dat i)) (o3 := o3) (o4 := o4) (o5 := o5) (o6 := o6) (o8 := o8) g hP h0 h1 h2
    obtain ⟨q2, q3, q4, q5, s2, e2, g2⟩ := zLoop hP h0 h1 h2 is (some (.dat i)) p3 p4 p5 s1 g1
    refine ⟨q2, q3, q4, q5, s2, ?_, g2⟩
    unfold forL
    show (match bTurn c P l0 l1 l2 (wL ns (some (.dat i)) o3 o4 o5 o6 o8) s with
      | .nx ρ2 s2 => forL (b1 2) (bTurn c P l0 l1 l2) is ρ2 s2
      | .ct ρ2 s2 => forL (b1 2) (bTurn c P l0 l1 l2) is ρ2 s2
      | .bk ρ2 s2 => RS.nx ρ2 s2
      | .rt d s2 => .rt d s2
      | .ex C fs ρ2 s2 => .ex C fs ρ2 s2
      | .bad => .bad) = _
    rw [e1]
    exact e2
end
end FL.K2
set_option Elab.async false
set_option linter.all false
set_option maxRecDepth 100000
set_option maxHeartbeats 4000000
namespace FL.K2
open PySem PySem.Spec PyProof.Rows L2 FL
variable {P : Nat → Addr} {c : Nat → Addr}
/-! ### the end -/
section
variable {l0 l1 l2 : LamD} {s : S} {ns : List Int} {o2 o3 o4 o5 o6 o8 : Option Sl} {k m : Nat}
theorem chn_enc (k m : Nat) : (chn k m).map enc = [enc (.does 1 "c")] ++ (List.range m).map (fun i => enc (.nt i)) ++ [enc (.sh k m)] := by
  unfold chn
  rw [List.map_append, List.map_cons, List.map_map]
  rfl
theorem zNots_run {a0 a1 a2 a3 a4 a5 a6 a7 : Option D} : zNots [a0, a1, a2, a3, a4, a5, a6, a7, none] s = .ok (.lst ((List.range 1998).map fun i => enc (.nt i))) s := by
  have e1 : (iOfA rng1F (aCons (eC (.int 1998)) (aNil))) [a0, a1, a2, a3, a4, a5, a6, a7, none] s = .ok (rangeD 0 1998) s := by
    rw [iOfA_run, aCons_run, eC_run, bind_ok, aNil_run, bind_ok, bind_ok, rng1_run (j := 1998) (by omega) (by omega), lift_some]
    rfl
  have e2 : lcL (c1 8) tYesD (eOf tupF1 (aCons (eC (.str "not")) (aCons (eVar 8) (aNil)))) [a0, a1, a2, a3, a4, a5, a6, a7, none] (rangeD 0 1998) s = .ok ((rangeD 0 1998).map fun x => .tup [.str "not", x]) s := lcL_map fun x _ => ⟨[a0, a1, a2, a3, a4, a5, a6, a7, some x], rfl, rfl, tup2_run rfl rfl⟩
  unfold zNots eLc
  rw [if_pos (show ([a0, a1, a2, a3, a4, a5, a6, a7, none] : Env).length ≤ 9 from Nat.le_refl 9), e1, bind_ok]
  refine Eq.trans (b := lcR (lcL (c1 8) tYesD (eOf tupF1 (aCons (eC (.str "not")) (aCons (eVar 8) (aNil)))) [a0, a1, a2, a3, a4, a5, a6, a7, none] (rangeD 0 1998) s)) rfl ?_
  rw [e2, rangeD_nats, List.map_map]
  unfold lcR
  dsimp only
  rw [if_pos (by rw [List.length_map, List.length_range, sizeLine_eq]; omega)]
  rfl
theorem zChain_run (g : GS P s) : ∃ k s2, sSet 6 zChain (wL ns o2 o3 o4 o5 none none) s = .nx (wL ns o2 o3 o4 o5 (some (.dat (.lst ((chn k 1998).map enc)))) none) s2 ∧ k ≤ 99 ∧ GS P s2 := by
  obtain ⟨r, s1, e1, r0, r1, g1⟩ := take_run (n := 100) g (by decide) (by decide)
  refine ⟨r.toNat, s1, ?_, by omega, g1⟩
  have v1 : (eVar 1) (dats (wL ns o2 o3 o4 o5 none none)) s = .ok .drw s := rfl
  have q1 : (eOf lstF1 (aCons (eOf tupF1 (aCons (eC (.str "does")) (aCons (eC (.int 1)) (aCons (eC (.str "c")) (aNil))))) (aNil))) (dats (wL ns o2 o3 o4 o5 none none)) s = .ok (.lst [enc (.does 1 "c")]) s := by
    rw [eOf_run, aCons_run, eOf_run, aCons_run, eC_run, bind_ok, aCons_run, eC_run, bind_ok, aCons_run, eC_run, bind_ok, aNil_run, bind_ok, bind_ok, bind_ok, bind_ok, tup1 (by simp), lift_some, bind_ok, aNil_run, bind_ok, bind_ok, lst1 (by simp), lift_some]
    rfl
  have q2 : zNots (dats (wL ns o2 o3 o4 o5 none none)) s = .ok (.lst ((List.range 1998).map fun i => enc (.nt i))) s := zNots_run
  have q3 : (eCall (mf__law_take) (aCons (eVar 1) (aCons (eC (.int 100)) (aNil)))) (dats (wL ns o2 o3 o4 o5 none none)) s = .ok (.int (r.toNat : Nat)) s1 := by
    rw [eCall_run, aCons_run, v1, bind_ok, aCons_run, eC_run, bind_ok, aNil_run, bind_ok, bind_ok, bind_ok, e1, Int.toNat_of_nonneg r0]
  have q4 : (eOf lstF1 (aCons (eOf tupF1 (aCons (eC (.str "shown")) (aCons (eCall (mf__law_take) (aCons (eVar 1) (aCons (eC (.int 100)) (aNil)))) (aCons (eC (.int 1998)) (aNil))))) (aNil))) (dats (wL ns o2 o3 o4 o5 none none)) s = .ok (.lst [enc (.sh r.toNat 1998)]) s1 := by
    rw [eOf_run, aCons_run, eOf_run, aCons_run, eC_run, bind_ok, aCons_run, q3, bind_ok, aCons_run, eC_run, bind_ok, aNil_run, bind_ok, bind_ok, bind_ok, bind_ok, tup1 (by simp), lift_some, bind_ok, aNil_run, bind_ok, bind_ok, lst1 (by simp), lift_some]
    rfl
  have ln : ((List.range 1998).map fun i => enc (.nt i)).length = 1998 := by rw [List.length_map, List.length_range]
  refine set_run (runD_ok ?_)
  unfold zChain
  rw [eOp_run, eOp_run, q1, bind_ok, q2, bind_ok, addF_lst (by rw [ln, List.length_singleton, sizeLine_eq]; omega), lift_some, bind_ok, q4, bind_ok, addF_lst (by rw [List.length_append, ln, List.length_singleton, List.length_singleton, sizeLine_eq]; omega), lift_some, chn_enc]
theorem zHangs (hk : k ≤ 99) {e : D} {fs : List Nat} (he : lsT e (fs.map nI)) (h : 1999 ∈ fs) (hf : ∀ p ∈ fs, p < 2000) (s : S) : mf_hangs_on c [.lst ((chn k 1998).map enc), e] s = .ok (.lst ((List.range 2000).map nI)) s := by
  rw [hangs_run (.inl rfl) he (chn_ok hk) (by rw [chn_len]; omega) (by rw [chn_len]; exact hf), chn_hangs (m := 1998) hk h hf]
theorem zBad_run (hk : k ≤ 99) : runT (zBad c) (wL ns o2 o3 o4 o5 (some (.dat (.lst ((chn k 1998).map enc)))) none) s = .ok false s := runT_ok (by
  have v6 : (eVar 6) (dats (wL ns o2 o3 o4 o5 (some (.dat (.lst ((chn k 1998).map enc)))) none)) s = .ok (.lst ((chn k 1998).map enc)) s := rfl
  have lk : ∀ n : Nat, n < 2000 → mf_looks_down c [.lst ((chn k 1998).map enc), .int (n : Nat)] s = .ok (.bl ((dn (chn k 1998)).getD n false)) s := fun n hn => looks_run (.inl rfl) (chn_ok hk) (by rw [chn_len]; omega) (by rw [chn_len]; omega)
  have l1 : mf_looks_down c [.lst ((chn k 1998).map enc), .int 1999] s = .ok (.bl true) s := (lk 1999 (by omega)).trans (by rw [chn_top (m := 1998) hk])
  have l2 : mf_looks_down c [.lst ((chn k 1998).map enc), .int 1998] s = .ok (.bl false) s := (lk 1998 (by omega)).trans (by rw [chn_down (m := 1998) hk])
  have h1 : mf_hangs_on c [.lst ((chn k 1998).map enc), .lst [.int 1999]] s = .ok (.lst ((List.range 2000).map nI)) s := zHangs (fs := [1999]) hk (.inl rfl) (by simp) (fun p hp => by cases List.mem_singleton.mp hp; omega) s
  have l3 : mf_showns c [.lst ((chn k 1998).map enc), .lst [.int 1999]] s = .ok (.lst ([1999].map nI)) s := by
    rw [showns_run (.inl rfl) (by rw [List.length_range]; omega) (fun p hp => by rw [chn_len]; exact List.mem_range.mp hp) h1, chn_showns k 1998]
  have q1 : (eOf lstF1 (aCons (eC (.int 1999)) (aNil))) (dats (wL ns o2 o3 o4 o5 (some (.dat (.lst ((chn k 1998).map enc)))) none)) s = .ok (.lst [.int 1999]) s := by
    rw [eOf_run, aCons_run, eC_run, bind_ok, aNil_run, bind_ok, bind_ok, lst1 (by simp), lift_some]
  have tb : ∀ b s, lift (truD (.bl b)) s = RE.ok b s := fun b s => rfl
  have n1 : neG (.lst ([1999].map nI)) (.lst [.int 1999]) = some (.bl false) := ne_self [1999]
  have c2 : (eCall2 (mf_looks_down c) (aCons (eC (.int 1998)) (aCons (eVar 6) (aNil)))) (dats (wL ns o2 o3 o4 o5 (some (.dat (.lst ((chn k 1998).map enc)))) none)) s = .ok (.bl false) s := by
    unfold eCall2
    rw [aCons_run, eC_run, bind_ok, aCons_run, v6, bind_ok, aNil_run, bind_ok, bind_ok, bind_ok]
    exact l2
  unfold zBad
  rw [mOr_run, mNot_run, mTru_run, eCall_run, aCons_run, v6, bind_ok, aCons_run, eC_run, bind_ok, aNil_run, bind_ok, bind_ok, bind_ok, l1, bind_ok, tb, bind_ok, bind_ok, if_neg (show ¬ (!true) = true by decide), mOr_run, mTru_run, c2, bind_ok, tb, bind_ok, if_neg Bool.false_ne_true, mBl_run, eOp_run, eCall_run, aCons_run, v6, bind_ok, aCons_run, q1, bind_ok, aNil_run, bind_ok, bind_ok, bind_ok, l3, bind_ok, q1, bind_ok, n1, lift_some, bind_ok])
theorem zEnd_run (hk : k ≤ 99) : sRet (zEnd c) (wL ns o2 o3 o4 o5 (some (.dat (.lst ((chn k 1998).map enc)))) none) s = .rt (.bl true) s := ret_run (runD_ok (by
  have v6 : (eVar 6) (dats (wL ns o2 o3 o4 o5 (some (.dat (.lst ((chn k 1998).map enc)))) none)) s = .ok (.lst ((chn k 1998).map enc)) s := rfl
  have h1 : mf_hangs_on c [.lst ((chn k 1998).map enc), .tup [.int 1999, .int 5, .int 1999]] s = .ok (.lst ((List.range 2000).map nI)) s := zHangs (fs := [1999, 5, 1999]) hk (.inr rfl) (by simp) (fun p hp => by simp at hp; omega) s
  have q1 : (eOf tupF1 (aCons (eC (.int 1999)) (aCons (eC (.int 5)) (aCons (eC (.int 1999)) (aNil))))) (dats (wL ns o2 o3 o4 o5 (some (.dat (.lst ((chn k 1998).map enc)))) none)) s = .ok (.tup [.int 1999, .int 5, .int 1999]) s := by
    rw [eOf_run, aCons_run, eC_run, bind_ok, aCons_run, eC_run, bind_ok, aCons_run, eC_run, bind_ok, aNil_run, bind_ok, bind_ok, bind_ok, bind_ok, tup1 (by simp), lift_some]
  have c2 : (eCall2 (mf_hangs_on c) (aCons (eOf tupF1 (aCons (eC (.int 1999)) (aCons (eC (.int 5)) (aCons (eC (.int 1999)) (aNil))))) (aCons (eVar 6) (aNil)))) (dats (wL ns o2 o3 o4 o5 (some (.dat (.lst ((chn k 1998).map enc)))) none)) s = .ok (.lst ((List.range 2000).map nI)) s := by
    unfold eCall2
    rw [aCons_run, q1, bind_ok, aCons_run, v6, bind_ok, aNil_run, bind_ok, bind_ok, bind_ok]
    exact h1
  have r1 : rngLF [.int 2000] = some (.lst ((List.range 2000).map nI)) := rngL_run (n := 2000) (by omega)
  unfold zEnd
  rw [eOp_run, c2, bind_ok, eOf_run, aCons_run, eC_run, bind_ok, aNil_run, bind_ok, bind_ok, r1, lift_some, bind_ok, eq_nats, lift_some]))
theorem begin_ne (ns : List Int) : 0 < (begC ns).length := by
  unfold begC
  split
  · exact Nat.one_pos
  · rename_i h
    rw [List.length_map]
    exact List.length_pos_iff.mpr h
theorem law_true' (c P : Nat → Addr) (hP : P 33 ≠ P 34) (l0 l1 l2 : LamD) (h0 : l0.k = 0 ∧ l0.q = "law.<locals>.<lambda>") (h1 : l1.k = 1 ∧ l1.q = "law.<locals>.<lambda>") (h2 : l2.k = 2 ∧ l2.q = "law.<locals>.<lambda>") (ns : List Int) (hn : ns.length ≤ 63) :
    ∃ s, m_law c P l0 l1 l2 [some (.dat (.scr ns)), some (.dat .drw), none, none, none, none, none, none, none] ⟨begC ns, 0, 1, tbs P, fun _ _ => True⟩ = .rt (.bl true) s := by
  have g0 : GS P ⟨begC ns, 0, 1, tbs P, fun _ _ => True⟩ := ⟨begin_ne ns, show (-18446744073709551616 : Int) < 1 by decide, show (1 : Int) < 18446744073709551616 by decide, rfl⟩
  obtain ⟨is, e1⟩ := zTurns_run (ns := ns) (s := ⟨begC ns, 0, 1, tbs P, fun _ _ => True⟩) (o2 := none) (o3 := none) (o4 := none) (o5 := none) (o6 := none) (o8 := none) hn
  obtain ⟨p2, p3, p4, p5, s1, e2, g1⟩ := zLoop (c := c) (ns := ns) (o6 := none) (o8 := none) hP h0 h1 h2 is none none none none _ g0
  obtain ⟨k, s2, e3, hk, g2⟩ := zChain_run (ns := ns) (o2 := p2) (o3 := p3) (o4 := p4) (o5 := p5) g1
  refine ⟨s2, ?_⟩
  show m_law c P l0 l1 l2 (wL ns none none none none none none) _ = _
  have e4 : sFor (b1 2) zTurns (bTurn c P l0 l1 l2) (wL ns none none none none none none) ⟨begC ns, 0, 1, tbs P, fun _ _ => True⟩ = .nx (wL ns p2 p3 p4 p5 none none) s1 := by
    unfold sFor
    rw [e1, after_ok]
    exact e2
  rw [law_form2, seq_nx e4, seq_nx e3, seq_nx (if_nx (zBad_run hk))]
  exact zEnd_run hk
end
end FL.K2
set_option Elab.async false
set_option linter.all false
set_option maxRecDepth 100000
set_option maxHeartbeats 0
/-! # The second law: the end -/
namespace FL.K2
open PySem PySem.Spec PyProof.Rows L2 FL LamX
def spLaw (P : Nat → Addr) (K : PySem.W.Frag) : Sp := fun vs H Q _ => ∃ (a : Addr) (ns : List Int), vs = [.ref a] ∧ SqL K H a (ns.map V.int) ∧ ns.length ≤ 63 ∧ H (P 33) = some (.tbl #[]) ∧ H (P 34) = some (.tbl #[]) ∧ ∀ H2, Q (.bl true) H2
section
variable {Pr : Program} {w : World} {K : PySem.W.Frag} {mg : Str → Option Value} {base : Heap} {c P f : Nat → Addr} {fd : Nat → FuncData}
theorem ok_law (T : Fx K w mg base c P f fd) (hP : P 33 ≠ P 34) : FnX Pr w K mg base 14 (f 34) (fd 34) ["script"] (spLaw P K) := by
  refine FnX.mk fun A outer s H args us vs Q E hr e0 hbd rv h => ?_
  obtain ⟨a, ns, rfl, hS, hn, t1, t2, k⟩ := h
  refine run_atc T.d_law.fn sc_law hr e0 hbd rv rfl fun cdv hcd hr2 => ⟨tSeq (tAsg (tCallS (spB K) (WE fun c dd _ H => E c dd H) (tCons (tVar 0) tNil)) (gName 1)) (FL.tS K (fun c dd _ H => E c dd H) (m_law c P (lamL (cxOf (L2.CX Pr w) Pr w K mg base ["script", "draw", "turn", "lines", "bad", "works", "chain", "work", "k"] "law" (defScope (top 34)) (f 34) cdv A outer s H E) 0 lam0) (lamL (cxOf (L2.CX Pr w) Pr w K mg base ["script", "draw", "turn", "lines", "bad", "works", "chain", "work", "k"] "law" (defScope (top 34)) (f 34) cdv A outer s H E) 1 lam1) (lamL (cxOf (L2.CX Pr w) Pr w K mg base ["script", "draw", "turn", "lines", "bad", "works", "chain", "work", "k"] "law" (defScope (top 34)) (f 34) cdv A outer s H E) 2 lam2))), ?_, ?_⟩
  · show PSs _ (defBody (top 34)) _
    exact pss_cons (ps_set (i := 1) sc_law.nd rfl (Or.inl rfl) (pe_callS (ok__law_begin T) (hr2.r.mono (by decide)) rfl T.d__law_begin.g T.d__law_begin.fn.kp T.d__law_begin.b (fun σ => passAt (takes_of rfl rfl rfl rfl) σ) (pa_cons (pv 0) pa_nil))) (law_rest T cdv A outer s H E hcd hr2)
  · refine ⟨_, rfl, a, ns, rfl, hS, fun H2 p q keep hp hq hne e1 e2 => ?_⟩
    have only1 : ∀ b o, (fun b => if b = a then H b else none : Hp) b = some o → H b = some o := fun b o e => by
      dsimp only at e
      split at e
      · exact e
      · cases e
    have sF0 : Same (fun b => if b = a then H b else none) H := only1
    have nT : ∀ x, H x = some (.tbl #[]) → SqL K H a (ns.map V.int) → ∃ F : Hp, Same F H ∧ SqL K F a (ns.map V.int) ∧ (∀ b, F b ≠ none → b = a ∧ ∀ ps, H b ≠ some (.tbl ps)) := fun x hx hS => by
      rcases hS with (h | ⟨o, h⟩) | h
      · exact ⟨_, sF0, .inl (.inl ((if_pos rfl).trans h)), fun b hb => by
          by_cases z : b = a
          · exact ⟨z, fun ps y => by rw [z, h] at y; cases y⟩
          · exact absurd (if_neg z) hb⟩
      · exact ⟨_, sF0, .inl (.inr ⟨o, (if_pos rfl).trans h⟩), fun b hb => by
          by_cases z : b = a
          · exact ⟨z, fun ps y => by rw [z, h] at y; cases y⟩
          · exact absurd (if_neg z) hb⟩
      · exact ⟨fun _ => none, (fun b o e => by cases e), .inr h, fun b hb => absurd rfl hb⟩
    obtain ⟨F, sF, hS2, fo⟩ := nT _ t1 hS
    have sF2 : Same F H2 := fun b o e => keep b o (sF b o e)
    have free : ∀ b, H b = none → F b = none := fun b hb => sF.free hb
    have fT : ∀ x, H x = some (.tbl #[]) → F x = none := fun x hx => by
      cases z : F x with
      | none => rfl
      | some o => exact absurd hx ((fo x (by rw [z]; simp)).2 _)
    have tb : TbAt (tbs P) F H2 := ⟨fun r hr => by
      unfold tbs at hr
      simp only [List.mem_cons, List.not_mem_nil, or_false] at hr
      rcases hr with rfl | rfl
      · exact ⟨#[], keep _ _ t1, trivial, fun pos cv hc => by simp [codeAmong] at hc⟩
      · exact ⟨#[], keep _ _ t2, trivial, fun pos cv hc => by simp [codeAmong] at hc⟩, fun r hr => by
      unfold tbs at hr
      simp only [List.mem_cons, List.not_mem_nil, or_false] at hr
      rcases hr with rfl | rfl
      · exact fT _ t1
      · exact fT _ t2⟩
    refine ⟨F, H2, some ⟨p, q⟩, F, [some (.dat (.scr ns)), some (.dat .drw), none, none, none, none, none, none, none], ⟨begC ns, 0, 1, tbs P, fun _ _ => True⟩, ⟨Ext.refl sF2, ⟨⟨hne, e1, e2, free p hp, free q hq⟩, tb, fun _ _ => trivial⟩, ⟨rfl, fun i d e => ?_, fun i xs e => ?_, fun i j xs ys b e => ?_⟩⟩, ?_⟩

    · match i, e with
      | 0, e => cases e; exact ⟨_, rfl, .scr hS2⟩
      | 1, e => cases e; exact ⟨_, rfl, .drw rfl⟩
      | 2, e => cases e
      | 3, e => cases e
      | 4, e => cases e
      | 5, e => cases e
      | 6, e => cases e
      | 7, e => cases e
      | 8, e => cases e
      | i + 9, e => simp at e
    · match i, e with
      | 0, e => cases e
      | 1, e => cases e
      | 2, e => cases e
      | 3, e => cases e
      | 4, e => cases e
      | 5, e => cases e
      | 6, e => cases e
      | 7, e => cases e
      | 8, e => cases e
      | i + 9, e => simp [owns] at e
    · match i, e with
      | 0, e => cases e
      | 1, e => cases e
      | 2, e => cases e
      | 3, e => cases e
      | 4, e => cases e
      | 5, e => cases e
      | 6, e => cases e
      | 7, e => cases e
      | 8, e => cases e
      | i + 9, e => simp [owns] at e
    obtain ⟨s2, e⟩ := law_true' c P hP (lamL (cxOf (L2.CX Pr w) Pr w K mg base ["script", "draw", "turn", "lines", "bad", "works", "chain", "work", "k"] "law" (defScope (top 34)) (f 34) cdv A outer s H E) 0 lam0) (lamL (cxOf (L2.CX Pr w) Pr w K mg base ["script", "draw", "turn", "lines", "bad", "works", "chain", "work", "k"] "law" (defScope (top 34)) (f 34) cdv A outer s H E) 1 lam1) (lamL (cxOf (L2.CX Pr w) Pr w K mg base ["script", "draw", "turn", "lines", "bad", "works", "chain", "work", "k"] "law" (defScope (top 34)) (f 34) cdv A outer s H E) 2 lam2) ⟨rfl, rfl⟩ ⟨rfl, rfl⟩ ⟨rfl, rfl⟩ ns hn
    rw [e]
    intro F3 H3 v _ _ a3
    have e4 := at_bl a3
    subst e4
    exact k H3
end

/-! ### the head -/
def CT (K : PySem.W.Frag) (x : Str) : Addr := match PySem.W.tabIn K x with
  | some (c, _) => c
  | none => 0
def PT (K : PySem.W.Frag) (x : Str) : Addr := match PySem.W.tabIn K x with
  | some (_, p) => p
  | none => 0
/-- the def's function has the code object at CT, whose table is at PT, which is not written -/
def codB (K : PySem.W.Frag) (x : Str) : Bool := match K.lookup (He.ga K x) with
  | some ⟨_, _, .func fd, _⟩ => (match fd.code with | .ref c => decide (c = CT K x) | _ => false) && (PySem.W.codeHdIn K (CT K x) (PT K x) && (K.lookup (PT K x)).isNone)
  | _ => false
theorem codB_ok {K : PySem.W.Frag} {x : Str} (h : codB K x = true) {oc : Value} {od : Option Addr} {fd : FuncData} {osl : Array (Option Value)} (e : K.lookup (He.ga K x) = some ⟨oc, od, .func fd, osl⟩) : fd.code = .ref (CT K x) ∧ PySem.W.codeHdIn K (CT K x) (PT K x) = true ∧ K.lookup (PT K x) = none := by
  unfold codB at h
  rw [e] at h
  obtain ⟨h1, h2⟩ := and2 h
  obtain ⟨h3, h4⟩ := and2 h2
  refine ⟨?_, h3, Option.isNone_iff_eq_none.mp h4⟩
  split at h1
  · rename_i c q
    rw [q, of_decide_eq_true h1]
  · cases h1
def tabL9 : List (Str × He.Dv) := [("false", .int 1), ("does", .int 3), ("not", .int 2), ("and", .int 3), ("or", .int 3), ("shown", .int 3)]
def tabK : List Str := ["false", "does", "not", "and", "or", "shown"]
def exB (K : PySem.W.Frag) : Bool := oexA K (He.ga K "NoRow") && (excA K (He.ga K "NoRow") && (xfB K (He.ga K "NoRow") && (decide (PySem.W.findIn K (.ref (He.ga K "NoRow")) "at" = some none) && (decide (PySem.W.findIn K (.ref (He.ga K "NoRow")) "__init__" = some (some (.ref (He.ma K (He.ga K "NoRow") "__init__")))) && (decide (PySem.W.typeIn K (.ref (He.ma K (He.ga K "NoRow") "__init__")) = some (.type "function")) && (decide (PySem.W.exmOne K (.ref (He.ga K "NoRow")) (.ref (He.ga K "SightError")) = some true) && (He.valsB K (He.ga K "ROW_LENGTHS") tabL9 && (decide (PySem.W.kitAny K (.ref (He.ga K "NoRow")) [.ref (He.ga K "NoRow")] = some true) && (codB K "_law_right" && (codB K "law"))))))))))
def fn : List He.DefD := [⟨("is_list", none), "is_list", "is_list", defArgs (top 10), defBody (top 10), defScope (top 10), [], []⟩,
  ⟨("is_number", none), "is_number", "is_number", defArgs (top 11), defBody (top 11), defScope (top 11), [], []⟩,
  ⟨("is_below", none), "is_below", "is_below", defArgs (top 12), defBody (top 12), defScope (top 12), [], []⟩,
  ⟨("is_move", none), "is_move", "is_move", defArgs (top 13), defBody (top 13), defScope (top 13), [], []⟩,
  ⟨("parts_of", none), "parts_of", "parts_of", defArgs (top 14), defBody (top 14), defScope (top 14), [], []⟩,
  ⟨("is_row", none), "is_row", "is_row", defArgs (top 15), defBody (top 15), defScope (top 15), [], []⟩,
  ⟨("need_rows", none), "need_rows", "need_rows", defArgs (top 16), defBody (top 16), defScope (top 16), [], []⟩,
  ⟨("need_some", none), "need_some", "need_some", defArgs (top 17), defBody (top 17), defScope (top 17), [], []⟩,
  ⟨("downs", none), "downs", "downs", defArgs (top 18), defBody (top 18), defScope (top 18), [], []⟩,
  ⟨("looks_down", none), "looks_down", "looks_down", defArgs (top 19), defBody (top 19), defScope (top 19), [], []⟩,
  ⟨("hangs_on", none), "hangs_on", "hangs_on", defArgs (top 20), defBody (top 20), defScope (top 20), [], []⟩,
  ⟨("showns", none), "showns", "showns", defArgs (top 21), defBody (top 21), defScope (top 21), [], []⟩,
  ⟨("_law_begin", none), "_law_begin", "_law_begin", defArgs (top 23), defBody (top 23), defScope (top 23), [], []⟩,
  ⟨("_law_take", none), "_law_take", "_law_take", defArgs (top 24), defBody (top 24), defScope (top 24), [], []⟩,
  ⟨("_law_pick", none), "_law_pick", "_law_pick", defArgs (top 25), defBody (top 25), defScope (top 25), [], []⟩,
  ⟨("_law_words", none), "_law_words", "_law_words", defArgs (top 26), defBody (top 26), defScope (top 26), [], []⟩,
  ⟨("_law_lines", none), "_law_lines", "_law_lines", defArgs (top 27), defBody (top 27), defScope (top 27), [], []⟩,
  ⟨("_law_named", none), "_law_named", "_law_named", defArgs (top 28), defBody (top 28), defScope (top 28), [], []⟩,
  ⟨("_law_is_down", none), "_law_is_down", "_law_is_down", defArgs (top 29), defBody (top 29), defScope (top 29), [], []⟩,
  ⟨("_law_reached", none), "_law_reached", "_law_reached", defArgs (top 30), defBody (top 30), defScope (top 30), [], []⟩,
  ⟨("_law_told", none), "_law_told", "_law_told", defArgs (top 31), defBody (top 31), defScope (top 31), [], []⟩,
  ⟨("_law_due", none), "_law_due", "_law_due", defArgs (top 32), defBody (top 32), defScope (top 32), [], []⟩,
  ⟨("_law_right", none), "_law_right", "_law_right", defArgs (top 33), defBody (top 33), defScope (top 33), [], []⟩,
  ⟨("law", none), "law", "law", defArgs (top 34), defBody (top 34), defScope (top 34), [], []⟩,
  ⟨("NoRow", some "__init__"), "__init__", "NoRow.__init__", defArgs (inClass (top 2) 0), defBody (inClass (top 2) 0), defScope (inClass (top 2) 0), [], []⟩]
def fa : List He.Fa := ([.glo "is_list", .glo "is_number", .glo "is_below", .glo "is_move", .glo "parts_of", .glo "is_row", .glo "need_rows", .glo "need_some", .glo "downs", .glo "looks_down", .glo "hangs_on", .glo "showns", .glo "_law_begin", .glo "_law_take", .glo "_law_pick", .glo "_law_words", .glo "_law_lines", .glo "_law_named", .glo "_law_is_down", .glo "_law_reached", .glo "_law_told", .glo "_law_due", .glo "_law_right", .glo "law", .free "abs", .free "all", .free "bool", .free "enumerate", .free "int", .free "isinstance"] : List He.Fa) ++ ([.free "len", .free "list", .free "min", .free "range", .free "repr", .free "reversed", .free "sorted", .free "str", .free "tuple", .str "LETTERS" "abcdefghijklmnopqrstuvwxyz", .int "LONGEST_MOVE" 8, .int "MOST_ROWS" 2000, .int "FARTHEST_SEAT" 3, .int "GREATEST_SHOWN" 99, .glo "ROW_LENGTHS", .glo "SightError", .glo "NoRow"] : List He.Fa)
def ts : List He.Tab := [(fun K => He.ga K "ROW_LENGTHS", tabK)]
theorem tab_ok {K : PySem.W.Frag} {P : Params} {a : Addr} (h1 : He.valsB K a tabL9 = true) (h2 : He.dicW K a = some (He.keysIn P tabK)) : ∀ z g, tab_ROW_LENGTHS z = some g → ∃ r v, PySem.W.nsIn K a z = some r ∧ RelV v (r.getD .none) ∧ ∀ F Z, At K F Z v g := by
  intro z g hg
  have got : ∀ (k : Str) (i : Int), (k, He.Dv.int i) ∈ tabL9 → ∃ r v, PySem.W.nsIn K a k = some r ∧ RelV v (r.getD .none) ∧ ∀ F Z, At K F Z v (.int i) := fun k i hm => by
    obtain ⟨u, e1, e2⟩ := He.valsB_ok h1 hm
    exact ⟨some u, .int i, e1, e2, fun _ _ => .int i⟩
  unfold tab_ROW_LENGTHS at hg
  split at hg
  · rename_i e; subst e; cases hg; exact got _ _ (by unfold tabL9; simp)
  · split at hg
    · rename_i e; subst e; cases hg; exact got _ _ (by unfold tabL9; simp)
    · split at hg
      · rename_i e; subst e; cases hg; exact got _ _ (by unfold tabL9; simp)
      · split at hg
        · rename_i e; subst e; cases hg; exact got _ _ (by unfold tabL9; simp)
        · split at hg
          · rename_i e; subst e; cases hg; exact got _ _ (by unfold tabL9; simp)
          · split at hg
            · rename_i e; subst e; cases hg; exact got _ _ (by unfold tabL9; simp)
            · rename_i n1 n2 n3 n4 n5 n6
              cases hg
              exact ⟨none, .non, dicW_miss h2 (by unfold tabK; simp [n1, n2, n3, n4, n5, n6]), rfl, fun _ _ => .non⟩
theorem sub_ok {K : PySem.W.Frag} (c : Nat → Addr) (X : ExcC K (c 2)) (h0 : PySem.W.kitAny K (.ref (c 2)) [.ref (c 2)] = some true) : ∀ C us b, subC c C us = some b → ExcC K C ∧ PySem.W.kitAny K (.ref C) us = some b ∧ ∀ u, us = [u] → PySem.W.kitOne K (.ref C) u = some b := by
  intro C us b h
  unfold subC at h
  split at h
  · rename_i e
    subst e
    have one : ∀ u b, PySem.W.kitAny K (.ref (c 2)) [u] = some b → PySem.W.kitOne K (.ref (c 2)) u = some b := fun u b h => by
      unfold PySem.W.kitAny at h
      cases q : PySem.W.kitOne K (.ref (c 2)) u with
      | none => rw [q] at h; cases h
      | some d =>
        rw [q] at h
        cases d with
        | true => exact h
        | false => exact h
    have all : PySem.W.kitAny K (.ref (c 2)) us = some b := by
      unfold subT at h
      simp only [List.lookup_cons] at h
      split at h
      · rename_i q; have e := beq_iff_eq.mp q; subst e; cases h; exact h0
      · cases h
    exact ⟨X, all, fun u e => one u b (by rw [← e]; exact all)⟩
  · cases h
theorem facts {w : World} {h : Heap} {K : PySem.W.Frag} {mg : Str → Option Value} (X : K.In h) (G : h.Ns mainGlobals mg) (c : He.SaysT fa fn ts w K) (cx : exB K = true) : ∃ (cc P f : Nat → Addr) (fd : Nat → FuncData), (mg "law" = some (.ref (f 34)) ∧ L2.Fun K "law" "law" (top 34) (f 34) (fd 34)) ∧ (P 33 = PT K "_law_right" ∧ P 34 = PT K "law") ∧ (PySem.W.codeHdIn K (CT K "_law_right") (PT K "_law_right") = true ∧ K.lookup (PT K "_law_right") = none ∧ PySem.W.codeHdIn K (CT K "law") (PT K "law") = true ∧ K.lookup (PT K "law") = none) ∧ ∀ base : Heap, (∀ p ∈ [(CT K "_law_right", PT K "_law_right"), (CT K "law", PT K "law")], TabB base mg p.1 p.2) → Fx K w mg base cc P f fd := by
  have d := c.d
  obtain ⟨fd10, F10⟩ := d.def_ 0 (d := ⟨("is_list", none), "is_list", "is_list", defArgs (top 10), defBody (top 10), defScope (top 10), [], []⟩) rfl
  obtain ⟨fd11, F11⟩ := d.def_ 1 (d := ⟨("is_number", none), "is_number", "is_number", defArgs (top 11), defBody (top 11), defScope (top 11), [], []⟩) rfl
  obtain ⟨fd12, F12⟩ := d.def_ 2 (d := ⟨("is_below", none), "is_below", "is_below", defArgs (top 12), defBody (top 12), defScope (top 12), [], []⟩) rfl
  obtain ⟨fd13, F13⟩ := d.def_ 3 (d := ⟨("is_move", none), "is_move", "is_move", defArgs (top 13), defBody (top 13), defScope (top 13), [], []⟩) rfl
  obtain ⟨fd14, F14⟩ := d.def_ 4 (d := ⟨("parts_of", none), "parts_of", "parts_of", defArgs (top 14), defBody (top 14), defScope (top 14), [], []⟩) rfl
  obtain ⟨fd15, F15⟩ := d.def_ 5 (d := ⟨("is_row", none), "is_row", "is_row", defArgs (top 15), defBody (top 15), defScope (top 15), [], []⟩) rfl
  obtain ⟨fd16, F16⟩ := d.def_ 6 (d := ⟨("need_rows", none), "need_rows", "need_rows", defArgs (top 16), defBody (top 16), defScope (top 16), [], []⟩) rfl
  obtain ⟨fd17, F17⟩ := d.def_ 7 (d := ⟨("need_some", none), "need_some", "need_some", defArgs (top 17), defBody (top 17), defScope (top 17), [], []⟩) rfl
  obtain ⟨fd18, F18⟩ := d.def_ 8 (d := ⟨("downs", none), "downs", "downs", defArgs (top 18), defBody (top 18), defScope (top 18), [], []⟩) rfl
  obtain ⟨fd19, F19⟩ := d.def_ 9 (d := ⟨("looks_down", none), "looks_down", "looks_down", defArgs (top 19), defBody (top 19), defScope (top 19), [], []⟩) rfl
  obtain ⟨fd20, F20⟩ := d.def_ 10 (d := ⟨("hangs_on", none), "hangs_on", "hangs_on", defArgs (top 20), defBody (top 20), defScope (top 20), [], []⟩) rfl
  obtain ⟨fd21, F21⟩ := d.def_ 11 (d := ⟨("showns", none), "showns", "showns", defArgs (top 21), defBody (top 21), defScope (top 21), [], []⟩) rfl
  obtain ⟨fd23, F23⟩ := d.def_ 12 (d := ⟨("_law_begin", none), "_law_begin", "_law_begin", defArgs (top 23), defBody (top 23), defScope (top 23), [], []⟩) rfl
  obtain ⟨fd24, F24⟩ := d.def_ 13 (d := ⟨("_law_take", none), "_law_take", "_law_take", defArgs (top 24), defBody (top 24), defScope (top 24), [], []⟩) rfl
  obtain ⟨fd25, F25⟩ := d.def_ 14 (d := ⟨("_law_pick", none), "_law_pick", "_law_pick", defArgs (top 25), defBody (top 25), defScope (top 25), [], []⟩) rfl
  obtain ⟨fd26, F26⟩ := d.def_ 15 (d := ⟨("_law_words", none), "_law_words", "_law_words", defArgs (top 26), defBody (top 26), defScope (top 26), [], []⟩) rfl
  obtain ⟨fd27, F27⟩ := d.def_ 16 (d := ⟨("_law_lines", none), "_law_lines", "_law_lines", defArgs (top 27), defBody (top 27), defScope (top 27), [], []⟩) rfl
  obtain ⟨fd28, F28⟩ := d.def_ 17 (d := ⟨("_law_named", none), "_law_named", "_law_named", defArgs (top 28), defBody (top 28), defScope (top 28), [], []⟩) rfl
  obtain ⟨fd29, F29⟩ := d.def_ 18 (d := ⟨("_law_is_down", none), "_law_is_down", "_law_is_down", defArgs (top 29), defBody (top 29), defScope (top 29), [], []⟩) rfl
  obtain ⟨fd30, F30⟩ := d.def_ 19 (d := ⟨("_law_reached", none), "_law_reached", "_law_reached", defArgs (top 30), defBody (top 30), defScope (top 30), [], []⟩) rfl
  obtain ⟨fd31, F31⟩ := d.def_ 20 (d := ⟨("_law_told", none), "_law_told", "_law_told", defArgs (top 31), defBody (top 31), defScope (top 31), [], []⟩) rfl
  obtain ⟨fd32, F32⟩ := d.def_ 21 (d := ⟨("_law_due", none), "_law_due", "_law_due", defArgs (top 32), defBody (top 32), defScope (top 32), [], []⟩) rfl
  obtain ⟨fd33, F33⟩ := d.def_ 22 (d := ⟨("_law_right", none), "_law_right", "_law_right", defArgs (top 33), defBody (top 33), defScope (top 33), [], []⟩) rfl
  obtain ⟨fd34, F34⟩ := d.def_ 23 (d := ⟨("law", none), "law", "law", defArgs (top 34), defBody (top 34), defScope (top 34), [], []⟩) rfl
  obtain ⟨fd102, F102⟩ := d.def_ 24 (d := ⟨("NoRow", some "__init__"), "__init__", "NoRow.__init__", defArgs (inClass (top 2) 0), defBody (inClass (top 2) 0), defScope (inClass (top 2) 0), [], []⟩) rfl
  obtain ⟨x0, y0⟩ := and2 cx
  obtain ⟨x1, y1⟩ := and2 y0
  obtain ⟨x2, y2⟩ := and2 y1
  obtain ⟨x3, y3⟩ := and2 y2
  obtain ⟨x4, y4⟩ := and2 y3
  obtain ⟨x5, y5⟩ := and2 y4
  obtain ⟨x6, y6⟩ := and2 y5
  obtain ⟨x7, y7⟩ := and2 y6
  obtain ⟨x8, y8⟩ := and2 y7
  obtain ⟨x9, x10⟩ := and2 y8
  have D10 := fun_of (st := top 10) F10
  have D11 := fun_of (st := top 11) F11
  have D12 := fun_of (st := top 12) F12
  have D13 := fun_of (st := top 13) F13
  have D14 := fun_of (st := top 14) F14
  have D15 := fun_of (st := top 15) F15
  have D16 := fun_of (st := top 16) F16
  have D17 := fun_of (st := top 17) F17
  have D18 := fun_of (st := top 18) F18
  have D19 := fun_of (st := top 19) F19
  have D20 := fun_of (st := top 20) F20
  have D21 := fun_of (st := top 21) F21
  have D23 := fun_of (st := top 23) F23
  have D24 := fun_of (st := top 24) F24
  have D25 := fun_of (st := top 25) F25
  have D26 := fun_of (st := top 26) F26
  have D27 := fun_of (st := top 27) F27
  have D28 := fun_of (st := top 28) F28
  have D29 := fun_of (st := top 29) F29
  have D30 := fun_of (st := top 30) F30
  have D31 := fun_of (st := top 31) F31
  have D32 := fun_of (st := top 32) F32
  have D33 := fun_of (st := top 33) F33
  have D34 := fun_of (st := top 34) F34
  have D102 := fun_of (st := inClass (top 2) 0) F102
  have C33 : fd33.code = .ref (CT K "_law_right") ∧ PySem.W.codeHdIn K (CT K "_law_right") (PT K "_law_right") = true ∧ K.lookup (PT K "_law_right") = none := by
    obtain ⟨oc, od, kV, doc, pm, an, cdv, ct, osl, e, lk, _⟩ := D33.ex
    exact codB_ok x9 lk
  have C34 : fd34.code = .ref (CT K "law") ∧ PySem.W.codeHdIn K (CT K "law") (PT K "law") = true ∧ K.lookup (PT K "law") = none := by
    obtain ⟨oc, od, kV, doc, pm, an, cdv, ct, osl, e, lk, _⟩ := D34.ex
    exact codB_ok x10 lk
  have kc20 : ∀ (s : Shared) (u v : Value), BindsTo s fd20 ⟨[], [("some", u), ("rows", v)]⟩ [("rows", v), ("some", u)] := fun s u v => by
    obtain ⟨oc, od, kV, doc, pm, an, cdv, ct, osl, e, _⟩ := D20.ex
    rw [e]
    exact .of_eq rfl
  have kc19 : ∀ (s : Shared) (u v : Value), BindsTo s fd19 ⟨[], [("at", u), ("rows", v)]⟩ [("rows", v), ("at", u)] := fun s u v => by
    obtain ⟨oc, od, kV, doc, pm, an, cdv, ct, osl, e, _⟩ := D19.ex
    rw [e]
    exact .of_eq rfl
  have kb21 : ∀ (s : Shared) (us : List Value), us.length = (["rows", "some"] : List Str).length → BindsTo s fd21 ⟨[], (["rows", "some"] : List Str).zip us⟩ ((["rows", "some"] : List Str).zip us) := fun s us hl => by
    obtain ⟨oc, od, kV, doc, pm, an, cdv, ct, osl, e, _⟩ := D21.ex
    rw [e]
    match us, hl with
    | [u0, u1], _ => exact .of_eq rfl
  refine ⟨fun n => match n with | 1 => He.ga K "SightError" | 2 => He.ga K "NoRow" | 333 => CT K "_law_right" | 334 => CT K "law" | 9 => He.ga K "ROW_LENGTHS" | _ => 0, fun n => match n with | 33 => PT K "_law_right" | 34 => PT K "law" | _ => 0, fun n => match n with | 10 => He.ga K "is_list" | 11 => He.ga K "is_number" | 12 => He.ga K "is_below" | 13 => He.ga K "is_move" | 14 => He.ga K "parts_of" | 15 => He.ga K "is_row" | 16 => He.ga K "need_rows" | 17 => He.ga K "need_some" | 18 => He.ga K "downs" | 19 => He.ga K "looks_down" | 20 => He.ga K "hangs_on" | 21 => He.ga K "showns" | 23 => He.ga K "_law_begin" | 24 => He.ga K "_law_take" | 25 => He.ga K "_law_pick" | 26 => He.ga K "_law_words" | 27 => He.ga K "_law_lines" | 28 => He.ga K "_law_named" | 29 => He.ga K "_law_is_down" | 30 => He.ga K "_law_reached" | 31 => He.ga K "_law_told" | 32 => He.ga K "_law_due" | 33 => He.ga K "_law_right" | 34 => He.ga K "law" | 102 => He.ma K (He.ga K "NoRow") "__init__" | _ => 0, fun n => match n with | 10 => fd10 | 11 => fd11 | 12 => fd12 | 13 => fd13 | 14 => fd14 | 15 => fd15 | 16 => fd16 | 17 => fd17 | 18 => fd18 | 19 => fd19 | 20 => fd20 | 21 => fd21 | 23 => fd23 | 24 => fd24 | 25 => fd25 | 26 => fd26 | 27 => fd27 | 28 => fd28 | 29 => fd29 | 30 => fd30 | 31 => fd31 | 32 => fd32 | 33 => fd33 | 34 => fd34 | 102 => fd102 | _ => fd102, ⟨He.glo_ok X G (d.fact 23 (f := .glo "law") rfl), D34⟩, ⟨rfl, rfl⟩, ⟨C33.2.1, C33.2.2, C34.2.1, C34.2.2⟩, fun base tb => ?_⟩
  exact {
    d_is_list := ⟨He.glo_ok X G (d.fact 0 (f := .glo "is_list") rfl), D10, D10.binds fun _ _ _ _ _ _ us hl => match us, hl with | [_], _ => rfl⟩
    d_is_number := ⟨He.glo_ok X G (d.fact 1 (f := .glo "is_number") rfl), D11, D11.binds fun _ _ _ _ _ _ us hl => match us, hl with | [_], _ => rfl⟩
    d_is_below := ⟨He.glo_ok X G (d.fact 2 (f := .glo "is_below") rfl), D12, D12.binds fun _ _ _ _ _ _ us hl => match us, hl with | [_, _], _ => rfl⟩
    d_is_move := ⟨He.glo_ok X G (d.fact 3 (f := .glo "is_move") rfl), D13, D13.binds fun _ _ _ _ _ _ us hl => match us, hl with | [_], _ => rfl⟩
    d_parts_of := ⟨He.glo_ok X G (d.fact 4 (f := .glo "parts_of") rfl), D14, D14.binds fun _ _ _ _ _ _ us hl => match us, hl with | [_], _ => rfl⟩
    d_is_row := ⟨He.glo_ok X G (d.fact 5 (f := .glo "is_row") rfl), D15, D15.binds fun _ _ _ _ _ _ us hl => match us, hl with | [_, _], _ => rfl⟩
    d_need_rows := ⟨He.glo_ok X G (d.fact 6 (f := .glo "need_rows") rfl), D16, D16.binds fun _ _ _ _ _ _ us hl => match us, hl with | [_], _ => rfl⟩
    d_need_some := ⟨He.glo_ok X G (d.fact 7 (f := .glo "need_some") rfl), D17, D17.binds fun _ _ _ _ _ _ us hl => match us, hl with | [_, _], _ => rfl⟩
    d_downs := ⟨He.glo_ok X G (d.fact 8 (f := .glo "downs") rfl), D18, D18.binds fun _ _ _ _ _ _ us hl => match us, hl with | [_], _ => rfl⟩
    d_looks_down := ⟨He.glo_ok X G (d.fact 9 (f := .glo "looks_down") rfl), D19, D19.binds fun _ _ _ _ _ _ us hl => match us, hl with | [_, _], _ => rfl⟩
    d_hangs_on := ⟨He.glo_ok X G (d.fact 10 (f := .glo "hangs_on") rfl), D20, D20.binds fun _ _ _ _ _ _ us hl => match us, hl with | [_, _], _ => rfl⟩
    d_showns := ⟨He.glo_ok X G (d.fact 11 (f := .glo "showns") rfl), D21, D21.binds fun _ _ _ _ _ _ us hl => match us, hl with | [_, _], _ => rfl⟩
    d__law_begin := ⟨He.glo_ok X G (d.fact 12 (f := .glo "_law_begin") rfl), D23, D23.binds fun _ _ _ _ _ _ us hl => match us, hl with | [_], _ => rfl⟩
    d__law_take := ⟨He.glo_ok X G (d.fact 13 (f := .glo "_law_take") rfl), D24, D24.binds fun _ _ _ _ _ _ us hl => match us, hl with | [_, _], _ => rfl⟩
    d__law_pick := ⟨He.glo_ok X G (d.fact 14 (f := .glo "_law_pick") rfl), D25, D25.binds fun _ _ _ _ _ _ us hl => match us, hl with | [_, _], _ => rfl⟩
    d__law_words := ⟨He.glo_ok X G (d.fact 15 (f := .glo "_law_words") rfl), D26, D26.binds fun _ _ _ _ _ _ us hl => match us, hl with | [_, _], _ => rfl⟩
    d__law_lines := ⟨He.glo_ok X G (d.fact 16 (f := .glo "_law_lines") rfl), D27, D27.binds fun _ _ _ _ _ _ us hl => match us, hl with | [_, _, _, _], _ => rfl⟩
    d__law_named := ⟨He.glo_ok X G (d.fact 17 (f := .glo "_law_named") rfl), D28, D28.binds fun _ _ _ _ _ _ us hl => match us, hl with | [_], _ => rfl⟩
    d__law_is_down := ⟨He.glo_ok X G (d.fact 18 (f := .glo "_law_is_down") rfl), D29, D29.binds fun _ _ _ _ _ _ us hl => match us, hl with | [_, _], _ => rfl⟩
    d__law_reached := ⟨He.glo_ok X G (d.fact 19 (f := .glo "_law_reached") rfl), D30, D30.binds fun _ _ _ _ _ _ us hl => match us, hl with | [_, _], _ => rfl⟩
    d__law_told := ⟨He.glo_ok X G (d.fact 20 (f := .glo "_law_told") rfl), D31, D31.binds fun _ _ _ _ _ _ us hl => match us, hl with | [_], _ => rfl⟩
    d__law_due := ⟨He.glo_ok X G (d.fact 21 (f := .glo "_law_due") rfl), D32, D32.binds fun _ _ _ _ _ _ us hl => match us, hl with | [_, _], _ => rfl⟩
    d__law_right := ⟨He.glo_ok X G (d.fact 22 (f := .glo "_law_right") rfl), D33, D33.binds fun _ _ _ _ _ _ us hl => match us, hl with | [_, _], _ => rfl⟩
    d_law := ⟨He.glo_ok X G (d.fact 23 (f := .glo "law") rfl), D34, D34.binds fun _ _ _ _ _ _ us hl => match us, hl with | [_], _ => rfl⟩
    z_abs := He.free_ok X G (d.fact 24 (f := .free "abs") rfl)
    z_all := He.free_ok X G (d.fact 25 (f := .free "all") rfl)
    z_bool := He.free_ok X G (d.fact 26 (f := .free "bool") rfl)
    z_enumerate := He.free_ok X G (d.fact 27 (f := .free "enumerate") rfl)
    z_int := He.free_ok X G (d.fact 28 (f := .free "int") rfl)
    z_isinstance := He.free_ok X G (d.fact 29 (f := .free "isinstance") rfl)
    z_len := He.free_ok X G (d.fact 30 (f := .free "len") rfl)
    z_list := He.free_ok X G (d.fact 31 (f := .free "list") rfl)
    z_min := He.free_ok X G (d.fact 32 (f := .free "min") rfl)
    z_range := He.free_ok X G (d.fact 33 (f := .free "range") rfl)
    z_repr := He.free_ok X G (d.fact 34 (f := .free "repr") rfl)
    z_reversed := He.free_ok X G (d.fact 35 (f := .free "reversed") rfl)
    z_sorted := He.free_ok X G (d.fact 36 (f := .free "sorted") rfl)
    z_str := He.free_ok X G (d.fact 37 (f := .free "str") rfl)
    z_tuple := He.free_ok X G (d.fact 38 (f := .free "tuple") rfl)
    c_LETTERS := let ⟨t, e⟩ := He.str_ok X G (d.fact 39 (f := .str "LETTERS" "abcdefghijklmnopqrstuvwxyz") rfl); ⟨_, e, ⟨t, rfl⟩⟩
    c_LONGEST_MOVE := let ⟨t, e⟩ := He.int_ok X G (d.fact 40 (f := .int "LONGEST_MOVE" 8) rfl); ⟨_, e, ⟨t, rfl⟩⟩
    c_MOST_ROWS := let ⟨t, e⟩ := He.int_ok X G (d.fact 41 (f := .int "MOST_ROWS" 2000) rfl); ⟨_, e, ⟨t, rfl⟩⟩
    c_FARTHEST_SEAT := let ⟨t, e⟩ := He.int_ok X G (d.fact 42 (f := .int "FARTHEST_SEAT" 3) rfl); ⟨_, e, ⟨t, rfl⟩⟩
    c_GREATEST_SHOWN := let ⟨t, e⟩ := He.int_ok X G (d.fact 43 (f := .int "GREATEST_SHOWN" 99) rfl); ⟨_, e, ⟨t, rfl⟩⟩
    k_SightError := He.glo_ok X G (d.fact 45 (f := .glo "SightError") rfl)
    k_NoRow := He.glo_ok X G (d.fact 46 (f := .glo "NoRow") rfl)
    cd__law_right := C33.1
    tb__law_right := tb (CT K "_law_right", PT K "_law_right") (by simp)
    cd_law := C34.1
    tb_law := tb (CT K "law", PT K "law") (by simp)
    kc_hangs_on := kc20
    kc_looks_down := kc19
    kb_showns := kb21
    c_ROW_LENGTHS := He.glo_ok X G (d.fact 44 (f := .glo "ROW_LENGTHS") rfl)
    dk_ROW_LENGTHS := c.tab 0 (t := (fun K => He.ga K "ROW_LENGTHS", tabK)) rfl
    tab_ROW_LENGTHS := tab_ok x7 (by have e : ts.map (fun t => He.dicW K (t.1 K)) = ts.map fun t => some (He.keysIn w.params t.2) := congrArg (fun z : He.AlT => z.2) c; exact List.head_eq_of_cons_eq e)
    ox_NoRow := oexA_ok x0
    ix_NoRow := of_decide_eq_true x4
    tx_NoRow := of_decide_eq_true x5
    fi_NoRow := D102
    bx_NoRow := D102.binds fun _ _ _ _ _ _ us hl => match us, hl with | [_, _], _ => rfl
    no_NoRow := of_decide_eq_true x3
    xf_at := fun D hD => by
      have e := of_decide_eq_true hD
      subst e
      exact ⟨xfB_ok x2, of_decide_eq_true x3⟩
    sub := sub_ok _ (excA_ok x1) (of_decide_eq_true x8)
    exm := fun D hD => by
      have e := of_decide_eq_true hD
      subst e
      exact of_decide_eq_true x6 }
theorem apart_tabs {K : PySem.W.Frag} {h : Heap} (X : K.In h) {a b : Str} (h1 : PySem.W.codeHdIn K (CT K a) (PT K a) = true) (h2 : PySem.W.codeHdIn K (CT K b) (PT K b) = true) (e : decide (PT K a ≠ PT K b) = true) : PT K a ≠ PT K b := of_decide_eq_true e
end FL.K2
set_option Elab.async false
set_option linter.all false
set_option maxRecDepth 100000
open PySem PySem.W PyProof.Rows in
set_option maxHeartbeats 0 in
theorem PySem.Challenge.cw_lookthrough_k02_what_rows_hang_on_holds : PySem.Challenge.rw_lookthrough_k02_what_rows_hang_on.Holds := by
  w_on; o_law; k_head; (case hw => w_witness2)
  k_fill
  refine FL.walk_XT (l := PySem.Challenge.rw_lookthrough_k02_what_rows_hang_on) (n := 63) (k := 14) (x := "script") rfl (by decide) (by kernel_rfl) ⟨⟨rfl, by decide, by decide⟩, rfl⟩ (fun w h Y => PySem.W.km_in_of Y) ?F
  intro w mg fa h Y KX G hmg
  obtain ⟨cc, P, f, fd, ⟨gl, fn⟩, ⟨p1, p2⟩, ⟨c1, n1, c2, n2⟩, T⟩ := FL.K2.facts KX G (show He.obsT FL.K2.fa FL.K2.fn FL.K2.ts _ = He.valT FL.K2.fn FL.K2.ts w by kernel_rfl) (by kernel_rfl)
  have tabs := PySem.W.km_tabs_of Y
  have e := (show mg ("law" : PySem.Str) = some (.ref fa) from hmg).symm.trans gl
  cases e
  have d12 := FL.K2.apart_tabs KX c1 c2 (by kernel_rfl)
  rw [← p1, ← p2] at d12
  refine ⟨fd 34, _, FL.K2.spLaw P _, ⟨fun p hp => ?_, fun p hp => ?_, fun p hp => ?_⟩, fun s v => ?_, fun H a ns hl _ hT hS => ⟨a, ns, rfl, hS, hl, ?_, ?_, fun _ => rfl⟩, fun b _ _ tb => FL.K2.ok_law (T b tb) d12⟩
  · simp only [List.mem_cons, List.not_mem_nil, or_false] at hp
    rcases hp with rfl | rfl
    · exact tabs _ (of_decide_eq_true (by kernel_rfl))
    · exact tabs _ (of_decide_eq_true (by kernel_rfl))
  · simp only [List.mem_cons, List.not_mem_nil, or_false] at hp
    rcases hp with rfl | rfl
    · exact n1
    · exact n2
  · simp only [List.mem_cons, List.not_mem_nil, or_false] at hp
    rcases hp with rfl | rfl
    · exact PySem.W.codeHd_of_K KX c1
    · exact PySem.W.codeHd_of_K KX c2
  · obtain ⟨oc, od, kV, doc, pm, an, cdv, ct, osl, e, _⟩ := fn.ex
    rw [e]
    exact .of_eq rfl
  · rw [p1]
    exact hT _ List.mem_cons_self
  · rw [p2]
    exact hT _ (List.mem_cons_of_mem _ List.mem_cons_self)
