import PyProof.Rows.All
import Wide.All
import OpenK.AllK
import Wide.FinOn
import HandS.ForMost
import HandS.ForExc
import HandS.ExcInit
import HandS.Walk
import HandS.TupAny
import HandS.IsInst
import HandS.Wide
import HandS.More
import HandS.Style
import KE.GoesMore
import HandS.ExcIs
import HandS.ExcField
import PyProof.ReprReads
import PyProof.ReprLen
import HandS.RaiseMore
import HandS.EndBits
import HandS.Head0
import HandS.Head1
import HandS.Head2
import HandS.HeadHook1
import HandS.HeadHook2
import HandS.HeadHook3
import HandS.HeadHook4
import PySem.Challenge.RW_lookthrough_k01_what_rows_are
set_option Elab.async false
set_option linter.all false
set_option maxRecDepth 100000
/-! ## FL: values by content over the hand layer. D is a value with all that stands in it; a frozen part F of the abstract heap holds it. One list of numbers with its cells (the draw) may change. -/
namespace FL
open PySem PySem.Spec PyProof.Rows L2

inductive D where
  | non | bl (b : Bool) | int (i : Int) | str (x : Str)
  | lst (xs : List D) | tup (xs : List D) | dic (kvs : List (Key × D))
  | drw
  | exc (C : Addr) (fs : List (Str × D))
  | scr (ns : List Int) | ty (n : String) | cls (C : Addr)
  deriving Inhabited

/-- the draw: its cells, its place, its mix -/
structure S where
  cells : List Int
  pos : Int
  mix : Int

/-- where the draw's two lists stand -/
structure Zt where
  dr : Addr
  cl : Addr
def DrA : Option Zt → Addr → Prop
  | none, _ => False
  | some z, a => a = z.dr ∨ a = z.cl

/-- an exception's object of the class at C, its own dict at dd -/
def xob (C a : Addr) (dd : Option Addr) : HO := .ext fun h => ∃ oe, h.get? a = some oe ∧ Zc (.ref C) dd oe ∧ ∃ vs, oe.data = .fields vs

mutual
inductive At (K : PySem.W.Frag) (F : Hp) (Z : Option Zt) : V → D → Prop
  | non : At K F Z .non .non
  | bl (b : Bool) : At K F Z (.bl b) (.bl b)
  | int (i : Int) : At K F Z (.int i) (.int i)
  | str (x : Str) : At K F Z (.str x) (.str x)
  | lst {a : Addr} {vs : List V} {ds : List D} : F a = some (.lst vs) → AtAll K F Z vs ds → At K F Z (.ref a) (.lst ds)
  | tup {a : Addr} {vs : List V} {ds : List D} : F a = some (.tup vs) → AtAll K F Z vs ds → At K F Z (.ref a) (.tup ds)
  | dic {a : Addr} {ws : List (Key × V)} {kvs : List (Key × D)} : F a = some (.dK ws) → AtKv K F Z ws kvs → At K F Z (.ref a) (.dic kvs)
  | drw {z : Zt} : Z = some z → At K F Z (.ref z.dr) .drw
  | exc0 {C a : Addr} : F a = some (xob C a none) → At K F Z (.ref a) (.exc C [])
  | exc {C a dd : Addr} {ws : List (Str × V)} {fs : List (Str × D)} : F a = some (xob C a (some dd)) → F dd = some (.xd ws) → AtFs K F Z ws fs → At K F Z (.ref a) (.exc C fs)
  | scr {a : Addr} {ns : List Int} : SqL K F a (ns.map V.int) → At K F Z (.ref a) (.scr ns)
  | ty (n : String) : At K F Z (.ty n) (.ty n)
  | cls (C : Addr) : At K F Z (.ref C) (.cls C)
inductive AtAll (K : PySem.W.Frag) (F : Hp) (Z : Option Zt) : List V → List D → Prop
  | nil : AtAll K F Z [] []
  | cons {v : V} {d : D} {vs : List V} {ds : List D} : At K F Z v d → AtAll K F Z vs ds → AtAll K F Z (v :: vs) (d :: ds)
inductive AtKv (K : PySem.W.Frag) (F : Hp) (Z : Option Zt) : List (Key × V) → List (Key × D) → Prop
  | nil : AtKv K F Z [] []
  | cons {k : Key} {v : V} {d : D} {vs : List (Key × V)} {ds : List (Key × D)} : At K F Z v d → AtKv K F Z vs ds → AtKv K F Z ((k, v) :: vs) ((k, d) :: ds)
inductive AtFs (K : PySem.W.Frag) (F : Hp) (Z : Option Zt) : List (Str × V) → List (Str × D) → Prop
  | nil : AtFs K F Z [] []
  | cons {k : Str} {v : V} {d : D} {vs : List (Str × V)} {ds : List (Str × D)} : At K F Z v d → AtFs K F Z vs ds → AtFs K F Z ((k, v) :: vs) ((k, d) :: ds)
end

theorem sqt_mono {K : PySem.W.Frag} {H H' : Hp} {a : Addr} {xs : List V} (e : Same H H') (h : SqT K H a xs) : SqT K H' a xs := by
  rcases h with (h | ⟨o, h⟩) | h
  · exact .inl (.inl (e _ _ h))
  · exact .inl (.inr ⟨o, e _ _ h⟩)
  · exact .inr h

mutual
theorem At.mono {K : PySem.W.Frag} {F F' : Hp} {Z : Option Zt} (e : Same F F') : ∀ {v : V} {d : D}, At K F Z v d → At K F' Z v d
  | _, _, .non => .non
  | _, _, .bl b => .bl b
  | _, _, .int i => .int i
  | _, _, .str x => .str x
  | _, _, .lst h k => .lst (e _ _ h) (k.mono e)
  | _, _, .scr h => .scr (e.seq h)
  | _, _, .ty n => .ty n
  | _, _, .cls C => .cls C
  | _, _, .tup h k => .tup (e _ _ h) (k.mono e)
  | _, _, .dic h k => .dic (e _ _ h) (k.mono e)
  | _, _, .drw h => .drw h
  | _, _, .exc0 h => .exc0 (e _ _ h)
  | _, _, .exc h h' k => .exc (e _ _ h) (e _ _ h') (k.mono e)
theorem AtAll.mono {K : PySem.W.Frag} {F F' : Hp} {Z : Option Zt} (e : Same F F') : ∀ {v : List V} {d : List D}, AtAll K F Z v d → AtAll K F' Z v d
  | _, _, .nil => .nil
  | _, _, .cons h k => .cons (h.mono e) (k.mono e)
theorem AtKv.mono {K : PySem.W.Frag} {F F' : Hp} {Z : Option Zt} (e : Same F F') : ∀ {v : List (Key × V)} {d : List (Key × D)}, AtKv K F Z v d → AtKv K F' Z v d
  | _, _, .nil => .nil
  | _, _, .cons h k => .cons (h.mono e) (k.mono e)
theorem AtFs.mono {K : PySem.W.Frag} {F F' : Hp} {Z : Option Zt} (e : Same F F') : ∀ {v : List (Str × V)} {d : List (Str × D)}, AtFs K F Z v d → AtFs K F' Z v d
  | _, _, .nil => .nil
  | _, _, .cons h k => .cons (h.mono e) (k.mono e)
end

section
variable {K : PySem.W.Frag} {F : Hp} {Z : Option Zt}
theorem AtAll.length : ∀ {vs : List V} {ds : List D}, AtAll K F Z vs ds → vs.length = ds.length
  | _, _, .nil => rfl
  | _, _, .cons _ k => congrArg (· + 1) k.length
theorem AtAll.append : ∀ {vs ws : List V} {ds es : List D}, AtAll K F Z vs ds → AtAll K F Z ws es → AtAll K F Z (vs ++ ws) (ds ++ es)
  | _, _, _, _, .nil, k => k
  | _, _, _, _, .cons h t, k => .cons h (t.append k)
theorem AtAll.take : ∀ {vs : List V} {ds : List D} (n : Nat), AtAll K F Z vs ds → AtAll K F Z (vs.take n) (ds.take n)
  | _, _, 0, _ => .nil
  | _, _, _ + 1, .nil => .nil
  | _, _, n + 1, .cons h t => .cons h (t.take n)
theorem AtAll.drop : ∀ {vs : List V} {ds : List D} (n : Nat), AtAll K F Z vs ds → AtAll K F Z (vs.drop n) (ds.drop n)
  | _, _, 0, h => h
  | _, _, _ + 1, .nil => .nil
  | _, _, n + 1, .cons _ t => t.drop n
theorem AtAll.get : ∀ {vs : List V} {ds : List D} {i : Nat} {d : D}, AtAll K F Z vs ds → ds[i]? = some d → ∃ v, vs[i]? = some v ∧ At K F Z v d
  | _, _, _, _, .nil, e => by simp at e
  | _, _, 0, _, .cons h _, e => by simp at e; subst e; exact ⟨_, rfl, h⟩
  | _, _, i + 1, d, .cons _ t, e => by
    obtain ⟨v, h1, h2⟩ := AtAll.get (i := i) (d := d) t (by simpa using e)
    exact ⟨v, by simpa using h1, h2⟩
theorem AtAll.getV : ∀ {vs : List V} {ds : List D} {i : Nat} {v : V}, AtAll K F Z vs ds → vs[i]? = some v → ∃ d, ds[i]? = some d ∧ At K F Z v d
  | _, _, _, _, .nil, e => by simp at e
  | _, _, 0, _, .cons h _, e => by simp at e; subst e; exact ⟨_, rfl, h⟩
  | _, _, i + 1, d, .cons _ t, e => by
    obtain ⟨v, h1, h2⟩ := AtAll.getV (i := i) (v := d) t (by simpa using e)
    exact ⟨v, by simpa using h1, h2⟩
theorem AtAll.set : ∀ {vs : List V} {ds : List D} {v : V} {d : D} (i : Nat), AtAll K F Z vs ds → At K F Z v d → AtAll K F Z (vs.set i v) (ds.set i d)
  | _, _, _, _, _, .nil, _ => .nil
  | _, _, _, _, 0, .cons _ t, h => .cons h t
  | _, _, _, _, i + 1, .cons g t, h => .cons g (t.set i h)
theorem AtAll.rep {vs : List V} {ds : List D} (h : AtAll K F Z vs ds) : ∀ k : Nat, AtAll K F Z (List.replicate k vs).flatten (List.replicate k ds).flatten
  | 0 => .nil
  | k + 1 => by
    rw [List.replicate_succ, List.replicate_succ, List.flatten_cons, List.flatten_cons]
    exact h.append (h.rep k)
theorem AtAll.dropLast {vs : List V} {ds : List D} (h : AtAll K F Z vs ds) : AtAll K F Z vs.dropLast ds.dropLast := by
  rw [List.dropLast_eq_take, List.dropLast_eq_take, h.length]
  exact h.take _
end

/-- from (F, H) on: what is frozen stays so; of what stood only the draw may be another; nothing that stood is frozen behind one's back -/
structure Ext (Z : Option Zt) (F H F' H' : Hp) : Prop where
  f : Same F F'
  fh : Same F' H'
  h : ∀ a o, H a = some o → ∃ o', H' a = some o' ∧ (¬ DrA Z a → o' = o)
  n : ∀ a o, F a = none → H a = some o → F' a = none
def DrAt (Z : Option Zt) (F H : Hp) (s : S) : Prop := match Z with
  | none => True
  | some z => z.dr ≠ z.cl ∧ H z.dr = some (.lst [.ref z.cl, .int s.pos, .int s.mix]) ∧ H z.cl = some (.lst (s.cells.map V.int)) ∧ F z.dr = none ∧ F z.cl = none
section
variable {K : PySem.W.Frag} {F H F' H' F'' H'' : Hp} {Z : Option Zt}
theorem Ext.refl (h : Same F H) : Ext Z F H F H := ⟨Same.refl F, h, fun _ o e => ⟨o, e, fun _ => rfl⟩, fun _ _ e _ => e⟩
theorem Ext.trans (a : Ext Z F H F' H') (b : Ext Z F' H' F'' H'') : Ext Z F H F'' H'' := by
  refine ⟨a.f.trans b.f, b.fh, fun c o e => ?_, fun c o e1 e2 => ?_⟩
  · obtain ⟨o1, e1, q1⟩ := a.h c o e
    obtain ⟨o2, e2, q2⟩ := b.h c o1 e1
    exact ⟨o2, e2, fun nd => (q2 nd).trans (q1 nd)⟩
  · obtain ⟨o1, e3, _⟩ := a.h c o e2
    exact b.n c o1 (a.n c o e1 e2) e3
/-- a new frozen object -/
theorem Ext.new {p : Addr} {o : HO} (h : Same F H) (hp : H p = none) : Ext Z F H (upd F p o) (upd H p o) := by
  have fp : F p = none := h.free hp
  refine ⟨fun a u e => ?_, fun a u e => ?_, fun a u e => ⟨u, ?_, fun _ => rfl⟩, fun a u e1 e2 => ?_⟩
  · rw [upd_ne (ne_of_none e fp)]; exact e
  · by_cases q : a = p
    · subst q
      rw [upd_same] at e ⊢
      exact e
    · rw [upd_ne q] at e ⊢
      exact h a u e
  · rw [upd_ne (ne_of_none e hp)]; exact e
  · rw [upd_ne (ne_of_none e2 hp)]; exact e1
/-- a new object that is not frozen -/
theorem Ext.newH {p : Addr} {o : HO} (h : Same F H) (hp : H p = none) : Ext Z F H F (upd H p o) := by
  refine ⟨Same.refl F, fun a u e => ?_, fun a u e => ⟨u, ?_, fun _ => rfl⟩, fun a u e1 e2 => e1⟩
  · rw [upd_ne (ne_of_none (h a u e) hp)]; exact h a u e
  · rw [upd_ne (ne_of_none e hp)]; exact e
theorem DrAt.keep {s : S} (h : DrAt Z F H s) (e : Ext Z F H F' H') (k : ∀ a o, H a = some o → H' a = some o) : DrAt Z F' H' s := by
  cases Z with
  | none => trivial
  | some z =>
    obtain ⟨h1, h2, h3, h4, h5⟩ := h
    exact ⟨h1, k _ _ h2, k _ _ h3, e.n _ _ h4 h2, e.n _ _ h5 h3⟩
theorem DrAt.new {s : S} {p : Addr} {o : HO} (h : DrAt Z F H s) (hs : Same F H) (hp : H p = none) : DrAt Z (upd F p o) (upd H p o) s :=
  h.keep (Ext.new hs hp) fun a u e => by rw [upd_ne (ne_of_none e hp)]; exact e
theorem DrAt.newH {s : S} {p : Addr} {o : HO} (h : DrAt Z F H s) (hs : Same F H) (hp : H p = none) : DrAt Z F (upd H p o) s :=
  h.keep (Ext.newH hs hp) fun a u e => by rw [upd_ne (ne_of_none e hp)]; exact e
end

/-! ### what an expression gives -/
inductive RE (α : Type) where
  | ok (a : α) (s : S)
  | ex (C : Addr) (fs : List (Str × D)) (s : S)
  | bad
namespace RE
def bind {α β : Type} (r : RE α) (k : α → S → RE β) : RE β := match r with
  | .ok a s => k a s
  | .ex C fs s => .ex C fs s
  | .bad => .bad
end RE
abbrev Env := List (Option D)
abbrev EM := Env → S → RE D
abbrev AM := Env → S → RE (List D)
def lift {α : Type} (o : Option α) (s : S) : RE α := match o with
  | some d => .ok d s
  | none => .bad

def EnvAt (K : PySem.W.Frag) (F : Hp) (Z : Option Zt) (σ : L2.St) (ρ : Env) : Prop := ∀ (i : Nat) (d : D), ρ[i]? = some (some d) → ∃ v, σ[i]? = some (some v) ∧ At K F Z v d
theorem EnvAt.mono {K : PySem.W.Frag} {F F' : Hp} {Z : Option Zt} {σ : L2.St} {ρ : Env} (e : Same F F') (h : EnvAt K F Z σ ρ) : EnvAt K F' Z σ ρ := fun i d q =>
  let ⟨v, h1, h2⟩ := h i d q
  ⟨v, h1, h2.mono e⟩
/-- how an exception's fields lie -/
def XdAt (K : PySem.W.Frag) (F H : Hp) (Z : Option Zt) (dd : Option Addr) (fs : List (Str × D)) : Prop :=
  (dd = none ∧ fs = []) ∨ ∃ d ws, dd = some d ∧ H d = some (.xd ws) ∧ F d = some (.xd ws) ∧ AtFs K F Z ws fs

/-- what is wanted behind: of a value, of an exception -/
def Post {α β : Type} (rel : PySem.W.Frag → Hp → Option Zt → β → α → Prop) (K : PySem.W.Frag) (W : WX) (Z : Option Zt) (F H : Hp) (σ : L2.St) (r : RE α) (Q : β → Hp → Prop) : Prop := match r with
  | .ok d s => ∀ F' H' v, Ext Z F H F' H' → DrAt Z F' H' s → rel K F' Z v d → Q v H'
  | .ex C fs s => ∀ F' H' dd, Ext Z F H F' H' → DrAt Z F' H' s → XdAt K F' H' Z dd fs → W (.ref C) dd σ H'
  | .bad => False
abbrev PostE := Post (α := D) (β := V) fun K F Z v d => At K F Z v d
abbrev PostA := Post (α := List D) (β := List V) fun K F Z v d => AtAll K F Z v d

def tE (K : PySem.W.Frag) (W : WX) (m : EM) : TE := fun σ H Q => ∃ F Z ρ s, Same F H ∧ EnvAt K F Z σ ρ ∧ DrAt Z F H s ∧ PostE K W Z F H σ (m ρ s) Q
def tA (K : PySem.W.Frag) (W : WX) (m : AM) : TA := fun σ H Q => ∃ F Z ρ s, Same F H ∧ EnvAt K F Z σ ρ ∧ DrAt Z F H s ∧ PostA K W Z F H σ (m ρ s) Q

section
variable {X : Cx}
theorem pe_weak {e : Expr} {t t' : TE} (h : PE X e t) (k : ∀ σ H Q, t' σ H Q → t σ H Q) : PE X e t' := ⟨fun pins s σ H Q I q => h.run pins s σ H Q I (k σ H Q q)⟩
theorem pt_weak {e : Expr} {t t' : TT} (h : PT X e t) (k : ∀ σ H Q, t' σ H Q → t σ H Q) : PT X e t' := ⟨fun pins s σ H Q I q => h.run pins s σ H Q I (k σ H Q q)⟩
theorem pa_weak {e : List Expr} {t t' : TA} (h : PA X e t) (k : ∀ σ H Q, t' σ H Q → t σ H Q) : PA X e t' := ⟨fun pos pins s σ H Q I q => h.run pos pins s σ H Q I (k σ H Q q)⟩
theorem ps_weak {e : Stmt} {t t' : TS} (h : PS X e t) (k : ∀ D σ H, t' D σ H → t D σ H) : PS X e t' := ⟨fun pins s σ H D I q => h.run pins s σ H D I (k D σ H q)⟩
theorem pss_weak {e : List Stmt} {t t' : TS} (h : PSs X e t) (k : ∀ D σ H, t' D σ H → t D σ H) : PSs X e t' := ⟨fun pins s σ H D I q => h.run pins s σ H D I (k D σ H q)⟩
end

section
variable {K : PySem.W.Frag} {W : WX} {Z : Option Zt} {F H : Hp} {σ : L2.St}
/-- one after another -/
theorem post_bind {α α' β β' : Type} {rel : PySem.W.Frag → Hp → Option Zt → β → α → Prop} {rel' : PySem.W.Frag → Hp → Option Zt → β' → α' → Prop} {r : RE α} {k : α → S → RE α'} {Q : β → Hp → Prop} {Q' : β' → Hp → Prop}
    (h : Post rel' K W Z F H σ (r.bind k) Q')
    (hk : ∀ d s F1 H1 v, Ext Z F H F1 H1 → DrAt Z F1 H1 s → rel K F1 Z v d → Post rel' K W Z F1 H1 σ (k d s) Q' → Q v H1) : Post rel K W Z F H σ r Q := by
  cases r with
  | bad => exact h
  | ex C fs s => exact h
  | ok d s =>
    intro F1 H1 v e dr a
    refine hk d s F1 H1 v e dr a ?_
    have h' : Post rel' K W Z F H σ (k d s) Q' := h
    cases hr : k d s with
    | bad => rw [hr] at h'; exact h'
    | ok d2 s2 => rw [hr] at h'; exact fun F2 H2 v2 e2 => h' F2 H2 v2 (e.trans e2)
    | ex C fs s2 => rw [hr] at h'; exact fun F2 H2 v2 e2 => h' F2 H2 v2 (e.trans e2)
/-- the value at once, nothing new -/
theorem post_now {α β : Type} {rel : PySem.W.Frag → Hp → Option Zt → β → α → Prop} {o : Option α} {s : S} {Q : β → Hp → Prop} (h : Post rel K W Z F H σ (lift o s) Q) : ∃ d, o = some d ∧ ∀ F' H' v, Ext Z F H F' H' → DrAt Z F' H' s → rel K F' Z v d → Q v H' := by
  cases o with
  | none => exact h.elim
  | some d => exact ⟨d, rfl, h⟩
theorem tE_of {m : EM} {Q : VK} {ρ : Env} {s : S} (h1 : Same F H) (h2 : EnvAt K F Z σ ρ) (h3 : DrAt Z F H s) (h : PostE K W Z F H σ (m ρ s) Q) : tE K W m σ H Q := ⟨F, Z, ρ, s, h1, h2, h3, h⟩
theorem tE_then {β' α' : Type} {rel' : PySem.W.Frag → Hp → Option Zt → β' → α' → Prop} {m : EM} {k : D → S → RE α'} {ρ : Env} {s : S} {Q : VK} {Q' : β' → Hp → Prop} (h1 : Same F H) (h2 : EnvAt K F Z σ ρ) (h3 : DrAt Z F H s) (h : Post rel' K W Z F H σ ((m ρ s).bind k) Q')
    (hk : ∀ d s1 F1 H1 v, Ext Z F H F1 H1 → EnvAt K F1 Z σ ρ → DrAt Z F1 H1 s1 → At K F1 Z v d → Post rel' K W Z F1 H1 σ (k d s1) Q' → Q v H1) : tE K W m σ H Q :=
  ⟨F, Z, ρ, s, h1, h2, h3, post_bind h fun d s1 F1 H1 v e dr a p => hk d s1 F1 H1 v e (h2.mono e.f) dr a p⟩
theorem tA_then {β' α' : Type} {rel' : PySem.W.Frag → Hp → Option Zt → β' → α' → Prop} {m : AM} {k : List D → S → RE α'} {ρ : Env} {s : S} {Q : List V → Hp → Prop} {Q' : β' → Hp → Prop} (h1 : Same F H) (h2 : EnvAt K F Z σ ρ) (h3 : DrAt Z F H s) (h : Post rel' K W Z F H σ ((m ρ s).bind k) Q')
    (hk : ∀ d s1 F1 H1 v, Ext Z F H F1 H1 → EnvAt K F1 Z σ ρ → DrAt Z F1 H1 s1 → AtAll K F1 Z v d → Post rel' K W Z F1 H1 σ (k d s1) Q' → Q v H1) : tA K W m σ H Q :=
  ⟨F, Z, ρ, s, h1, h2, h3, post_bind h fun d s1 F1 H1 v e dr a p => hk d s1 F1 H1 v e (h2.mono e.f) dr a p⟩
end

/-! ### expressions -/
section
variable {X : Cx} {W : WX} {a b : Expr} {ma mb : EM} {pos : Pos}
def eVar (i : Nat) : EM := fun ρ s => match ρ[i]? with
  | some (some d) => .ok d s
  | _ => .bad
def eC (d : D) : EM := fun _ s => .ok d s
theorem de_var {i : Nat} {x : Str} {pos : Pos} (h : PE X (.Name x pos) (tVar i)) : PE X (.Name x pos) (tE X.K W (eVar i)) := pe_weak h fun σ H Q ⟨F, Z, ρ, s, hs, he, hd, h⟩ => by
  unfold eVar at h
  split at h
  · rename_i d e
    obtain ⟨v, h1, h2⟩ := he i d e
    exact ⟨v, h1, h F H v (Ext.refl hs) hd h2⟩
  · exact h.elim
theorem de_const {d : D} {v : V} {e : Expr} (h : PE X e (tC v)) (r : ∀ F Z, At X.K F Z v d) : PE X e (tE X.K W (eC d)) := pe_weak h fun σ H Q ⟨F, Z, ρ, s, hs, he, hd, h⟩ =>
  h F H v (Ext.refl hs) hd (r F Z)
theorem de_int {i j pos} : PE X (.Constant (.int i) j pos) (tE X.K W (eC (.int i))) := de_const pe_int fun _ _ => .int i
theorem de_bl {i j pos} : PE X (.Constant (.bool i) j pos) (tE X.K W (eC (.bl i))) := de_const pe_bl fun _ _ => .bl i
theorem de_non {j pos} : PE X (.Constant .none j pos) (tE X.K W (eC .non)) := de_const pe_non fun _ _ => .non
theorem de_str {x j pos} : PE X (.Constant (.str x) j pos) (tE X.K W (eC (.str x))) := de_const pe_str fun _ _ => .str x

/-- an operation on two values, by content -/
def OpD (K : PySem.W.Frag) (r : R2) (f : D → D → Option D) : Prop := ∀ (F H : Hp) (Z : Option Zt) (s : S) (x y : V) (d e g : D) (Q : VK), Same F H → DrAt Z F H s → At K F Z x d → At K F Z y e → f d e = some g →
  (∀ F' H' v, Ext Z F H F' H' → DrAt Z F' H' s → At K F' Z v g → Q v H') → r x y H Q
theorem OpD.imp {K : PySem.W.Frag} {r : R2} {f f' : D → D → Option D} (h : OpD K r f) (k : ∀ d e g, f' d e = some g → f d e = some g) : OpD K r f' := fun F H Z s x y d e g Q h1 h2 h3 h4 h5 => h F H Z s x y d e g Q h1 h2 h3 h4 (k _ _ _ h5)
def orF (f g : D → D → Option D) : D → D → Option D := fun d e => (f d e).or (g d e)
theorem OpD.or {K : PySem.W.Frag} {r r' : R2} {f f' : D → D → Option D} (h : OpD K r f) (h' : OpD K r' f') : OpD K (fun x y H Q => r x y H Q ∨ r' x y H Q) (orF f f') := fun F H Z s x y d e g Q h1 h2 h3 h4 h5 h6 => by
  unfold orF at h5
  cases q : f d e with
  | none => rw [q, Option.none_or] at h5; exact .inr (h' F H Z s x y d e g Q h1 h2 h3 h4 h5 h6)
  | some u => rw [q, Option.some_or] at h5; cases h5; exact .inl (h F H Z s x y d e _ Q h1 h2 h3 h4 q h6)
def eOp (f : D → D → Option D) (ma mb : EM) : EM := fun ρ s => (ma ρ s).bind fun x s1 => (mb ρ s1).bind fun y s2 => lift (f x y) s2
theorem op_read {r : R2} {f : D → D → Option D} (ho : OpD X.K r f) {σ : L2.St} {H : Hp} {Q : VK} (h : tE X.K W (eOp f ma mb) σ H Q) : tOp r (tE X.K W ma) (tE X.K W mb) σ H Q := by
  obtain ⟨F, Z, ρ, s, hs, he, hd, h⟩ := h
  refine tE_then hs he hd h fun x s1 F1 H1 v1 e1 he1 hd1 a1 h => ?_
  refine tE_then e1.fh he1 hd1 h fun y s2 F2 H2 v2 e2 he2 hd2 a2 h => ?_
  obtain ⟨g, hg, k⟩ := post_now h
  exact ho F2 H2 Z s2 v1 v2 x y g Q e2.fh hd2 (a1.mono e2.f) a2 hg fun F' H' v e3 dr a => k F' H' v e3 dr a
theorem de_op {op : Operator} {r : R2} {f : D → D → Option D} (hr : OpR X (binaryOp op) r) (ho : OpD X.K r f) (ha : PE X a (tE X.K W ma)) (hb : PE X b (tE X.K W mb)) : PE X (.BinOp a op b pos) (tE X.K W (eOp f ma mb)) :=
  pe_weak (pe_op hr ha hb) fun σ H Q h => op_read ho h
theorem de_cmp {op : CmpOp} {r : R2} {f : D → D → Option D} (hr : OpR X (compareOp op) r) (ho : OpD X.K r f) (ha : PE X a (tE X.K W ma)) (hb : PE X b (tE X.K W mb)) (hm : behindInMarks op b = false) : PE X (.Compare a [op] [b] pos) (tE X.K W (eOp f ma mb)) :=
  pe_weak (pe_cmpR hr ha hb hm) fun σ H Q h => op_read ho h
theorem de_ix {r : R2} {f : D → D → Option D} (hr : IxR X r) (ho : OpD X.K r f) (ha : PE X a (tE X.K W ma)) (hb : PE X b (tE X.K W mb)) (hs : PlainIx b) : PE X (.Subscript a b pos) (tE X.K W (eOp f ma mb)) :=
  pe_weak (pe_ix hr ha hb hs) fun σ H Q h => op_read ho h
end
end FL
set_option Elab.async false
set_option linter.all false
set_option maxRecDepth 100000
/-! ## FL, 2: operators by content -/
namespace FL
open PySem PySem.Spec PyProof.Rows L2

theorem at_int {K : PySem.W.Frag} {F : Hp} {Z : Option Zt} {v : V} {i : Int} (h : At K F Z v (.int i)) : v = .int i := by cases h; rfl
theorem at_bl {K : PySem.W.Frag} {F : Hp} {Z : Option Zt} {v : V} {i : Bool} (h : At K F Z v (.bl i)) : v = .bl i := by cases h; rfl
theorem at_str {K : PySem.W.Frag} {F : Hp} {Z : Option Zt} {v : V} {i : Str} (h : At K F Z v (.str i)) : v = .str i := by cases h; rfl

def intF (f : Int → Int → Option D) : D → D → Option D
  | .int i, .int j => f i j
  | _, _ => none
def strF (f : Str → Str → Option D) : D → D → Option D
  | .str i, .str j => f i j
  | _, _ => none
def lstF (f : List D → List D → Option D) : D → D → Option D
  | .lst i, .lst j => f i j
  | _, _ => none
def tupF (f : List D → List D → Option D) : D → D → Option D
  | .tup i, .tup j => f i j
  | _, _ => none
section
variable {K : PySem.W.Frag}
theorem intF_inv {f : Int → Int → Option D} {d e g : D} (h : intF f d e = some g) : ∃ i j, d = .int i ∧ e = .int j ∧ f i j = some g := by
  unfold intF at h
  split at h
  · exact ⟨_, _, rfl, rfl, h⟩
  · cases h
theorem strF_inv {f : Str → Str → Option D} {d e g : D} (h : strF f d e = some g) : ∃ i j, d = .str i ∧ e = .str j ∧ f i j = some g := by
  unfold strF at h
  split at h
  · exact ⟨_, _, rfl, rfl, h⟩
  · cases h
theorem lstF_inv {f : List D → List D → Option D} {d e g : D} (h : lstF f d e = some g) : ∃ i j, d = .lst i ∧ e = .lst j ∧ f i j = some g := by
  unfold lstF at h
  split at h
  · exact ⟨_, _, rfl, rfl, h⟩
  · cases h
theorem tupF_inv {f : List D → List D → Option D} {d e g : D} (h : tupF f d e = some g) : ∃ i j, d = .tup i ∧ e = .tup j ∧ f i j = some g := by
  unfold tupF at h
  split at h
  · exact ⟨_, _, rfl, rfl, h⟩
  · cases h
/-- ints to a scalar -/
theorem od_int0 {g : Int → Int → V} {f : Int → Int → D} (r : ∀ K F Z i j, At K F Z (g i j) (f i j)) : OpD K (rI0 g) (intF fun i j => some (f i j)) := fun F H Z s x y d e w Q hs hd ax ay h k => by
  obtain ⟨i, j, rfl, rfl, q⟩ := intF_inv h
  cases q
  exact ⟨i, j, at_int ax, at_int ay, k F H _ (Ext.refl hs) hd (r _ _ _ _ _)⟩
theorem od_intC {C : Int → Int → Prop} {g : Int → Int → V} {f : Int → Int → Option D} (c : ∀ i j w, f i j = some w → C i j ∧ ∀ K F Z, At K F Z (g i j) w) : OpD K (rI C g) (intF f) := fun F H Z s x y d e w Q hs hd ax ay h k => by
  obtain ⟨i, j, rfl, rfl, q⟩ := intF_inv h
  obtain ⟨q1, q2⟩ := c _ _ _ q
  exact ⟨i, j, at_int ax, at_int ay, q1, k F H _ (Ext.refl hs) hd (q2 _ _ _)⟩
theorem od_str {C : Str → Str → Prop} {g : Str → Str → V} {f : Str → Str → Option D} (c : ∀ i j w, f i j = some w → C i j ∧ ∀ K F Z, At K F Z (g i j) w) : OpD K (fun x y H Q => ∃ i j, x = .str i ∧ y = .str j ∧ C i j ∧ Q (g i j) H) (strF f) := fun F H Z s x y d e w Q hs hd ax ay h k => by
  obtain ⟨i, j, rfl, rfl, q⟩ := strF_inv h
  obtain ⟨q1, q2⟩ := c _ _ _ q
  exact ⟨i, j, at_str ax, at_str ay, q1, k F H _ (Ext.refl hs) hd (q2 _ _ _)⟩
theorem od_str0 {g : Str → Str → V} {f : Str → Str → D} (c : ∀ K F Z i j, At K F Z (g i j) (f i j)) : OpD K (fun x y H Q => ∃ i j, x = .str i ∧ y = .str j ∧ Q (g i j) H) (strF fun i j => some (f i j)) := fun F H Z s x y d e w Q hs hd ax ay h k => by
  obtain ⟨i, j, rfl, rfl, q⟩ := strF_inv h
  cases q
  exact ⟨i, j, at_str ax, at_str ay, k F H _ (Ext.refl hs) hd (c _ _ _ _ _)⟩

theorem same_new {F H : Hp} {p : Addr} {o : HO} (hs : Same F H) (hp : H p = none) : Same F (upd F p o) := fun a u e => by
  rw [upd_ne (ne_of_none e (hs.free hp))]; exact e
/-- the value is a new frozen object -/
theorem new_k {F H : Hp} {Z : Option Zt} {s : S} {p : Addr} {o : HO} {d : D} {Q : VK} (k : ∀ F' H' v, Ext Z F H F' H' → DrAt Z F' H' s → At K F' Z v d → Q v H') (hs : Same F H) (hd : DrAt Z F H s) (hp : H p = none) (a : At K (upd F p o) Z (.ref p) d) :
    Q (.ref p) (upd H p o) := k _ _ _ (Ext.new hs hp) (hd.new hs hp) a
/-! ### a + b -/
def addF : D → D → Option D := orF (intF fun i j => some (.int (i + j))) (orF (strF fun i j => if i.length + j.length ≤ sizeLine then some (.str (i ++ j)) else none)
  (orF (lstF fun xs ys => if xs.length + ys.length ≤ sizeLine then some (.lst (xs ++ ys)) else none) (tupF fun xs ys => if xs.length + ys.length ≤ sizeLine then some (.tup (xs ++ ys)) else none)))
def rAddG (K : PySem.W.Frag) : R2 := fun x y H Q => rI0 (fun i j => .int (i + j)) x y H Q ∨ (∃ i j, x = .str i ∧ y = .str j ∧ i.length + j.length ≤ sizeLine ∧ Q (.str (i ++ j)) H) ∨ rCat x y H Q ∨ rCatA K x y H Q
theorem op_addG {X : Cx} : OpR X (binaryOp .Add) (rAddG X.K) := op_add.or (op_add_str.or (op_cat.or op_catA))
theorem od_cat : OpD K rCat (lstF fun xs ys => if xs.length + ys.length ≤ sizeLine then some (.lst (xs ++ ys)) else none) := fun F H Z s x y d e w Q hs hd ax ay h k => by
  obtain ⟨xs, ys, rfl, rfl, q⟩ := lstF_inv h
  split at q
  · rename_i hz
    cases q
    cases ax with
    | lst h1 k1 =>
      cases ay with
      | lst h2 k2 =>
        refine ⟨_, _, _, _, rfl, rfl, hs _ _ h1, hs _ _ h2, by rw [k1.length, k2.length]; exact hz, fun p hp => ?_⟩
        exact new_k k hs hd hp (.lst upd_same ((k1.mono (same_new hs hp)).append (k2.mono (same_new hs hp))))
  · cases q
theorem atAll_nil {K : PySem.W.Frag} {F : Hp} {Z : Option Zt} {vs : List V} {ds : List D} (h : AtAll K F Z vs ds) : vs = [] ↔ ds = [] := by
  cases h with
  | nil => exact ⟨fun _ => rfl, fun _ => rfl⟩
  | cons a b => exact ⟨fun e => (nomatch e), fun e => (nomatch e)⟩
theorem od_catA : OpD K (rCatA K) (tupF fun xs ys => if xs.length + ys.length ≤ sizeLine then some (.tup (xs ++ ys)) else none) := fun F H Z s x y d e w Q hs hd ax ay h k => by
  obtain ⟨xs, ys, rfl, rfl, q⟩ := tupF_inv h
  split at q
  · rename_i hz
    cases q
    cases ax with
    | tup h1 k1 =>
      cases ay with
      | tup h2 k2 =>
        refine ⟨_, _, _, _, rfl, rfl, .of (hs _ _ h1), .of (hs _ _ h2), by rw [k1.length, k2.length]; exact hz, fun e => ?_, fun _ e => ?_, fun _ _ p hp => ?_⟩
        · rw [(atAll_nil k1).mp e] at k
          exact k F H _ (Ext.refl hs) hd (.tup h2 k2)
        · rw [(atAll_nil k2).mp e, List.append_nil] at k
          exact k F H _ (Ext.refl hs) hd (.tup h1 k1)
        · exact new_k k hs hd hp (.tup upd_same ((k1.mono (same_new hs hp)).append (k2.mono (same_new hs hp))))
  · cases q
theorem od_add : OpD K (rAddG K) addF := OpD.or (od_int0 fun _ _ _ _ _ => .int _) (OpD.or (od_str fun i j w h => by
    split at h
    · rename_i hz
      cases h
      exact ⟨hz, fun _ _ _ => .str _⟩
    · cases h) (OpD.or od_cat od_catA))

/-! ### a - b, a * b, a // b, a % b, a ** b -/
def subF : D → D → Option D := intF fun i j => some (.int (i - j))
theorem od_sub : OpD K (rI0 fun i j => .int (i - j)) subF := od_int0 fun _ _ _ _ _ => .int _
def repF : D → D → Option D
  | .lst xs, .int k => if -(2 ^ 63) ≤ k ∧ k < 2 ^ 63 ∧ xs.length * k.toNat ≤ sizeLine then some (.lst (List.replicate k.toNat xs).flatten) else none
  | _, _ => none
instance {i j : Int} : Decidable (CMul i j) := by unfold CMul; exact inferInstance
instance {i j : Int} : Decidable (CPow i j) := by unfold CPow; exact inferInstance
def mulF : D → D → Option D := orF (intF fun i j => if CMul i j then some (.int (i * j)) else none) repF
theorem od_rep : OpD K rRep repF := fun F H Z s x y d e w Q hs hd ax ay h k => by
  unfold repF at h
  split at h
  · rename_i xs n
    split at h
    · rename_i hz
      cases h
      cases ax with
      | lst h1 k1 =>
        refine ⟨_, _, _, rfl, at_int ay, hs _ _ h1, hz.1, hz.2.1, by rw [k1.length]; exact hz.2.2, ?_⟩
        intro p hp
        exact new_k k hs hd hp (.lst upd_same ((k1.mono (same_new hs hp)).rep _))
    · cases h
  · cases h
def rMulG : R2 := fun x y H Q => rI CMul (fun i j => .int (i * j)) x y H Q ∨ rRep x y H Q
theorem op_mulG {X : Cx} : OpR X (binaryOp .Mult) rMulG := op_mul.or op_rep
theorem od_mul : OpD K rMulG mulF := OpD.or (od_intC fun i j w h => by
    split at h
    · rename_i hz
      cases h
      exact ⟨hz, fun _ _ _ => .int _⟩
    · cases h) od_rep
def modF : D → D → Option D := intF fun i j => if 0 < j then some (.int (i % j)) else none
theorem od_mod : OpD K (rI (fun _ j => 0 < j) fun i j => .int (i % j)) modF := od_intC fun i j w h => by
    split at h
    · rename_i hz
      cases h
      exact ⟨hz, fun _ _ _ => .int _⟩
    · cases h
def powF : D → D → Option D := intF fun i j => if CPow i j then some (.int (i ^ j.toNat)) else none
theorem od_pow : OpD K (rI CPow fun i j => .int (i ^ j.toNat)) powF := od_intC fun i j w h => by
    split at h
    · rename_i hz
      cases h
      exact ⟨hz, fun _ _ _ => .int _⟩
    · cases h

/-! ### comparisons -/
def ltF : D → D → Option D := intF fun i j => some (.bl (decide (i < j)))
def leF : D → D → Option D := intF fun i j => some (.bl (decide (i ≤ j)))
def gtF : D → D → Option D := intF fun i j => some (.bl (decide (j < i)))
def geF : D → D → Option D := intF fun i j => some (.bl (decide (j ≤ i)))
theorem od_lt : OpD K (rI0 fun i j => .bl (decide (i < j))) ltF := od_int0 fun _ _ _ _ _ => .bl _
theorem od_le : OpD K (rI0 fun i j => .bl (decide (i ≤ j))) leF := od_int0 fun _ _ _ _ _ => .bl _
theorem od_gt : OpD K (rI0 fun i j => .bl (decide (j < i))) gtF := od_int0 fun _ _ _ _ _ => .bl _
theorem od_ge : OpD K (rI0 fun i j => .bl (decide (j ≤ i))) geF := od_int0 fun _ _ _ _ _ => .bl _

/-! as the library's data -/
mutual
def toP : D → Option PyData
  | .non => some .none
  | .bl b => some (.bool b)
  | .int i => some (.int i)
  | .str x => some (.str x)
  | .lst xs => (toPs xs).map .list
  | .tup xs => (toPs xs).map .tuple
  | _ => none
def toPs : List D → Option (List PyData)
  | [] => some []
  | x :: xs => match toP x, toPs xs with
    | some p, some ps => some (p :: ps)
    | _, _ => none
end
mutual
theorem toP_dp {F : Hp} {Z : Option Zt} : ∀ {v : V} {d : D} {p : PyData}, At K F Z v d → toP d = some p → Dp K F v p
  | _, _, _, .non, e => by simp only [toP, Option.some.injEq] at e; subst e; exact .non
  | _, _, _, .bl b, e => by simp only [toP, Option.some.injEq] at e; subst e; exact .bl b
  | _, _, _, .int b, e => by simp only [toP, Option.some.injEq] at e; subst e; exact .int b
  | _, _, _, .str b, e => by simp only [toP, Option.some.injEq] at e; subst e; exact .str b
  | _, _, _, .lst h k, e => by
    simp only [toP, Option.map_eq_some_iff] at e
    obtain ⟨ps, e, rfl⟩ := e
    exact .lst (.inl (.inl h)) (toPs_dp k e)
  | _, _, _, .tup h k, e => by
    simp only [toP, Option.map_eq_some_iff] at e
    obtain ⟨ps, e, rfl⟩ := e
    exact .tup (.of h) (toPs_dp k e)
  | _, _, _, .dic _ _, e => by simp [toP] at e
  | _, _, _, .drw _, e => by simp [toP] at e
  | _, _, _, .exc0 _, e => by simp [toP] at e
  | _, _, _, .exc _ _ _, e => by simp [toP] at e
  | _, _, _, .scr _, e => by simp [toP] at e
  | _, _, _, .ty _, e => by simp [toP] at e
  | _, _, _, .cls _, e => by simp [toP] at e
theorem toPs_dp {F : Hp} {Z : Option Zt} : ∀ {v : List V} {d : List D} {p : List PyData}, AtAll K F Z v d → toPs d = some p → DpAll K F v p
  | _, _, _, .nil, e => by simp only [toPs, Option.some.injEq] at e; subst e; exact .nil
  | _, _, _, .cons h k, e => by
    simp only [toPs] at e
    split at e
    · rename_i p ps e1 e2
      cases e
      exact .cons (toP_dp h e1) (toPs_dp k e2)
    · cases e
end
theorem dp_mono {F H : Hp} (e : Same F H) : ∀ {v : V} {p : PyData}, Dp K F v p → Dp K H v p := fun {v p} h =>
  Dp.rec (motive_1 := fun v p _ => Dp K H v p) (motive_2 := fun v p _ => DpAll K H v p) .non .bl .int .str (fun a _ b => .lst (e.seq a) b) (fun a _ b => .tup (sqt_mono e a) b) .nil (fun _ _ a b => .cons a b) h
def eqF : D → D → Option D := fun d e => match toP d, toP e with
  | some p, some q => if SeqAt.shaped p = true ∧ SeqAt.shaped q = true then some (.bl (PyData.eqv p q)) else none
  | _, _ => none
def neF : D → D → Option D := fun d e => match toP d, toP e with
  | some p, some q => if SeqAt.shaped p = true ∧ SeqAt.shaped q = true then some (.bl (!PyData.eqv p q)) else none
  | _, _ => none
theorem od_eq : OpD K (rEqD K) eqF := fun F H Z s x y d e w Q hs hd ax ay h k => by
  unfold eqF at h
  split at h
  · rename_i p q e1 e2
    split at h
    · rename_i hz
      cases h
      exact ⟨p, q, dp_mono hs (toP_dp ax e1), dp_mono hs (toP_dp ay e2), hz.1, hz.2, k F H _ (Ext.refl hs) hd (.bl _)⟩
    · cases h
  · cases h
theorem od_ne : OpD K (rNeD K) neF := fun F H Z s x y d e w Q hs hd ax ay h k => by
  unfold neF at h
  split at h
  · rename_i p q e1 e2
    split at h
    · rename_i hz
      cases h
      exact ⟨p, q, dp_mono hs (toP_dp ax e1), dp_mono hs (toP_dp ay e2), hz.1, hz.2, k F H _ (Ext.refl hs) hd (.bl _)⟩
    · cases h
  · cases h
/-- a tuple == (), whatever stands in it -/
def eqNilF : D → D → Option D
  | .tup xs, .tup [] => some (.bl xs.isEmpty)
  | _, _ => none
def rEqNil (K : PySem.W.Frag) : R2 := fun x y H Q => ∃ a b xs, x = .ref a ∧ y = .ref b ∧ SqT K H a xs ∧ SqT K H b [] ∧ Q (.bl xs.isEmpty) H
theorem op_eqNil {X : Cx} (hu : X.A.units + 64 < cLine) : OpR X (compareOp .Eq) (rEqNil X.K) := by
  intro pins s σ H x y v u Q I rx ry h
  obtain ⟨a, b, xs, rfl, rfl, ha, hb, q⟩ := h
  cases rx
  cases ry
  obtain ⟨its, r1, p1, _⟩ := I.tuple ha
  obtain ⟨its2, r2, p2, _⟩ := I.tuple hb
  cases r2
  refine SeqAt.eq_tupleAt (e := fun _ => true) p1 p2 (by omega) (fun j h1 h2 => absurd h2 (by simp)) ?_
  refine ⟨.bl xs.isEmpty, H, I, ?_, q⟩
  cases r1 with
  | nil => rfl
  | cons _ _ => rfl
theorem od_eqNil : OpD K (rEqNil K) eqNilF := fun F H Z s x y d e w Q hs hd ax ay h k => by
  unfold eqNilF at h
  split at h
  · rename_i xs
    cases h
    cases ax with
    | tup h1 k1 =>
      cases ay with
      | tup h2 k2 =>
        cases k2
        refine ⟨_, _, _, rfl, rfl, .of (hs _ _ h1), .of (hs _ _ h2), ?_⟩
        have e2 : ∀ {vs : List V} {ds : List D}, AtAll K F Z vs ds → vs.isEmpty = ds.isEmpty := fun h => by cases h <;> rfl
        rw [e2 k1]
        exact k F H _ (Ext.refl hs) hd (.bl _)
  · cases h
/-- texts, whole numbers, truths: straight -/
def scF : D → D → Option D
  | .str a, .str b => some (.bl (decide (a = b)))
  | .int a, .int b => some (.bl (decide (a = b)))
  | .bl a, .bl b => some (.bl (decide (a = b)))
  | _, _ => none
def scNF : D → D → Option D
  | .str a, .str b => some (.bl (!decide (a = b)))
  | .int a, .int b => some (.bl (!decide (a = b)))
  | .bl a, .bl b => some (.bl (!decide (a = b)))
  | _, _ => none
theorem dec_str {a b : Str} : decide (V.str a = V.str b) = decide (a = b) := by
  by_cases h : a = b
  · subst h; simp
  · rw [decide_eq_false h, decide_eq_false fun z => h (V.str.inj z)]
theorem dec_i {a b : Int} : decide (V.int a = V.int b) = decide (a = b) := by
  by_cases h : a = b
  · subst h; simp
  · rw [decide_eq_false h, decide_eq_false fun z => h (V.int.inj z)]
theorem dec_b {a b : Bool} : decide (V.bl a = V.bl b) = decide (a = b) := by
  by_cases h : a = b
  · subst h; simp
  · rw [decide_eq_false h, decide_eq_false fun z => h (V.bl.inj z)]
theorem od_sc : OpD K rEq scF := fun F H Z s x y d e w Q hs hd ax ay h k => by
  unfold scF at h
  split at h
  · cases h
    cases ax
    cases ay
    refine ⟨rfl, ?_⟩
    rw [dec_str]
    exact k F H _ (Ext.refl hs) hd (.bl _)
  · cases h
    cases ax
    cases ay
    refine ⟨rfl, ?_⟩
    rw [dec_i]
    exact k F H _ (Ext.refl hs) hd (.bl _)
  · cases h
    cases ax
    cases ay
    refine ⟨rfl, ?_⟩
    rw [dec_b]
    exact k F H _ (Ext.refl hs) hd (.bl _)
  · cases h
theorem od_scN : OpD K rNe scNF := fun F H Z s x y d e w Q hs hd ax ay h k => by
  unfold scNF at h
  split at h
  · cases h
    cases ax
    cases ay
    refine ⟨rfl, ?_⟩
    rw [dec_str]
    exact k F H _ (Ext.refl hs) hd (.bl _)
  · cases h
    cases ax
    cases ay
    refine ⟨rfl, ?_⟩
    rw [dec_i]
    exact k F H _ (Ext.refl hs) hd (.bl _)
  · cases h
    cases ax
    cases ay
    refine ⟨rfl, ?_⟩
    rw [dec_b]
    exact k F H _ (Ext.refl hs) hd (.bl _)
  · cases h
def rEqG (K : PySem.W.Frag) : R2 := fun x y H Q => rEq x y H Q ∨ rEqD K x y H Q ∨ rEqNil K x y H Q
theorem op_eqG {X : Cx} (hu : X.A.units + 64 < cLine) : OpR X (compareOp .Eq) (rEqG X.K) := op_eq.or ((op_eqD hu).or (op_eqNil hu))
def eqG : D → D → Option D := orF scF (orF eqF eqNilF)
theorem od_eqG : OpD K (rEqG K) eqG := OpD.or od_sc (OpD.or od_eq od_eqNil)
def rNeG (K : PySem.W.Frag) : R2 := fun x y H Q => rNe x y H Q ∨ rNeD K x y H Q
theorem op_neG {X : Cx} (hu : X.A.units + 64 < cLine) : OpR X (compareOp .NotEq) (rNeG X.K) := op_ne.or (op_neD hu)
def neG : D → D → Option D := orF scNF neF
theorem od_neG : OpD K (rNeG K) neG := OpD.or od_scN od_ne
/-- is None -/
def isNone : D → Bool
  | .non => true
  | _ => false
def isNF : D → D → Option D
  | d, .non => some (.bl (isNone d))
  | _, _ => none
theorem at_non {F : Hp} {Z : Option Zt} {v : V} {d : D} (h : At K F Z v d) : decide (v = .non) = isNone d := by
  cases h <;> first | rfl | simp [isNone]
theorem od_isN : OpD K (fun x y H Q => y = .non ∧ Q (.bl (decide (x = .non))) H) isNF := fun F H Z s x y d e w Q hs hd ax ay h k => by
  unfold isNF at h
  split at h
  · cases h
    cases ay
    refine ⟨rfl, ?_⟩
    rw [at_non ax]
    exact k F H _ (Ext.refl hs) hd (.bl _)
  · cases h
def notNF : D → D → Option D
  | d, .non => some (.bl (!isNone d))
  | _, _ => none
theorem od_notN : OpD K (fun x y H Q => y = .non ∧ Q (.bl (!decide (x = .non))) H) notNF := fun F H Z s x y d e w Q hs hd ax ay h k => by
  unfold notNF at h
  split at h
  · cases h
    cases ay
    refine ⟨rfl, ?_⟩
    rw [at_non ax]
    exact k F H _ (Ext.refl hs) hd (.bl _)
  · cases h

/-! ### x in xs (flat things), c in s -/
def flatD : D → Bool
  | .non | .bl _ | .int _ | .str _ => true
  | _ => false
def eqS : D → D → Bool
  | .non, .non => true
  | .bl a, .bl b => a == b
  | .bl a, .int b => (if a then 1 else 0) == b
  | .int a, .bl b => a == (if b then 1 else 0)
  | .int a, .int b => a == b
  | .str a, .str b => a == b
  | _, _ => false
def inS (x : D) (xs : List D) : Bool := xs.any fun y => eqS y x
theorem flat_at {F : Hp} {Z : Option Zt} {v : V} {d : D} (h : At K F Z v d) : flatD d = true → flatV v = true := by
  cases h <;> intro q <;> first | rfl | cases q
theorem eqS_at {F : Hp} {Z : Option Zt} {v w : V} {d e : D} (h : At K F Z v d) (h' : At K F Z w e) (f : flatD d = true) (f' : flatD e = true) : eqV v w = eqS d e := by
  cases h <;> first | (cases f; done) | (cases h' <;> first | rfl | (cases f'; done))
theorem flat_all {F : Hp} {Z : Option Zt} : ∀ {vs : List V} {ds : List D}, AtAll K F Z vs ds → ds.all flatD = true → vs.all flatV = true
  | _, _, .nil, _ => rfl
  | _, _, .cons h k, q => by
    rw [List.all_cons, Bool.and_eq_true] at q ⊢
    exact ⟨flat_at h q.1, flat_all k q.2⟩
theorem in_at {F : Hp} {Z : Option Zt} {v : V} {d : D} (h : At K F Z v d) (f : flatD d = true) : ∀ {vs : List V} {ds : List D}, AtAll K F Z vs ds → ds.all flatD = true → inV v vs = inS d ds
  | _, _, .nil, _ => rfl
  | _, _, .cons g k, q => by
    rw [List.all_cons, Bool.and_eq_true] at q
    have e := in_at h f k q.2
    unfold inV inS at e ⊢
    rw [List.any_cons, List.any_cons, e, eqS_at g h q.1 f]
def inF (neg : Bool) : D → D → Option D
  | x, .lst ys => if flatD x = true ∧ ys.all flatD = true then some (.bl (if neg then !inS x ys else inS x ys)) else none
  | x, .tup ys => if flatD x = true ∧ ys.all flatD = true then some (.bl (if neg then !inS x ys else inS x ys)) else none
  | _, _ => none
theorem od_in {neg : Bool} : OpD K (rIn K neg) (inF neg) := fun F H Z s x y d e w Q hs hd ax ay h k => by
  unfold inF at h
  split at h
  · split at h
    · rename_i hz
      cases h
      cases ay with
      | lst h1 k1 =>
        refine ⟨_, _, rfl, .inl (.inl (.inl (hs _ _ h1))), flat_at ax hz.1, flat_all k1 hz.2, ?_⟩
        rw [in_at ax hz.1 k1 hz.2]
        exact k F H _ (Ext.refl hs) hd (.bl _)
    · cases h
  · split at h
    · rename_i hz
      cases h
      cases ay with
      | tup h1 k1 =>
        refine ⟨_, _, rfl, .inr (.of (hs _ _ h1)), flat_at ax hz.1, flat_all k1 hz.2, ?_⟩
        rw [in_at ax hz.1 k1 hz.2]
        exact k F H _ (Ext.refl hs) hd (.bl _)
    · cases h
  · cases h
/-- one sign in a text -/
def signF (neg : Bool) : D → D → Option D
  | .str c, .str z => match c.cps.toList with
    | [k] => some (.bl (if neg then !decide (k ∈ z.cps.toList) else decide (k ∈ z.cps.toList)))
    | _ => none
  | _, _ => none
end
end FL
set_option Elab.async false
set_option linter.all false
set_option maxRecDepth 100000
/-! ## FL, 3: subscripts, slices, displays, built-ins, tests -/
namespace FL
open PySem PySem.Spec PyProof.Rows L2
section
variable {K : PySem.W.Frag}
/-! ### xs[i] -/
def ixF : D → D → Option D
  | .lst ds, .int i => atI ds i
  | .tup ds, .int i => atI ds i
  | .str z, .int i => if z.length ≤ sizeLine then (atI z.cps.toList i).map fun c => .str ⟨#[c]⟩ else none
  | _, _ => none
theorem atI_at {F : Hp} {Z : Option Zt} {vs : List V} {ds : List D} {i : Int} {d : D} (h : AtAll K F Z vs ds) (e : atI ds i = some d) : ∃ v, atI vs i = some v ∧ At K F Z v d := by
  unfold atI at e ⊢
  rw [← h.length] at e
  cases q : ixN vs.length i with
  | none => rw [q] at e; cases e
  | some j =>
    rw [q] at e
    obtain ⟨v, h1, h2⟩ := h.get e
    exact ⟨v, h1, h2⟩
theorem od_ix : OpD K (rIx K) ixF := fun F H Z s x y d e w Q hs hd ax ay h k => by
  unfold ixF at h
  split at h
  · cases ax with
    | lst h1 k1 =>
      obtain ⟨v, e1, a1⟩ := atI_at k1 h
      exact .inl ⟨_, _, _, v, rfl, at_int ay, .of (hs _ _ h1), e1, k F H _ (Ext.refl hs) hd a1⟩
  · cases ax with
    | tup h1 k1 =>
      obtain ⟨v, e1, a1⟩ := atI_at k1 h
      exact .inr (.inl ⟨_, _, _, v, rfl, at_int ay, .of (hs _ _ h1), e1, k F H _ (Ext.refl hs) hd a1⟩)
  · split at h
    · rename_i hz
      rw [Option.map_eq_some_iff] at h
      obtain ⟨c, e1, rfl⟩ := h
      exact .inr (.inr ⟨_, _, c, at_str ax, at_int ay, hz, e1, k F H _ (Ext.refl hs) hd (.str _)⟩)
    · cases h
  · cases h
end
/-! ### slices -/
abbrev OM := Env → S → RE (Option Int)
def tO (K : PySem.W.Frag) (W : WX) (m : OM) : TO := fun σ H Q => ∃ F Z ρ s, Same F H ∧ EnvAt K F Z σ ρ ∧ DrAt Z F H s ∧ Post (α := Option Int) (β := Option Int) (fun _ _ _ v d => v = d) K W Z F H σ (m ρ s) Q
def oNone : OM := fun _ s => .ok none s
def oSome (m : EM) : OM := fun ρ s => (m ρ s).bind fun d s1 => match d with
  | .int i => .ok (some i) s1
  | _ => .bad
def cutL {α : Type} (xs : List α) (lo hi : Option Int) : List α := (xs.drop (HT.sIx xs.length 0 lo)).take (HT.sIx xs.length xs.length hi - HT.sIx xs.length 0 lo)
def slF : D → Option Int → Option Int → Option D
  | .lst ds, lo, hi => some (.lst (cutL ds lo hi))
  | .tup ds, lo, hi => some (.tup (cutL ds lo hi))
  | .str z, lo, hi => if z.length ≤ sizeLine then some (.str (cutS z lo hi)) else none
  | .scr ns, lo, hi => some (.lst ((cutL ns lo hi).map D.int))
  | _, _, _ => none
def SlD (K : PySem.W.Frag) (r : V → Option Int → Option Int → Hp → VK → Prop) (f : D → Option Int → Option Int → Option D) : Prop := ∀ (F H : Hp) (Z : Option Zt) (s : S) (x : V) (d g : D) (lo hi : Option Int) (Q : VK), Same F H → DrAt Z F H s → At K F Z x d → f d lo hi = some g →
  (∀ F' H' v, Ext Z F H F' H' → DrAt Z F' H' s → At K F' Z v g → Q v H') → r x lo hi H Q
section
variable {K : PySem.W.Frag}
theorem cutV_at {F : Hp} {Z : Option Zt} {vs : List V} {ds : List D} (h : AtAll K F Z vs ds) (lo hi : Option Int) : AtAll K F Z (cutV vs lo hi) (cutL ds lo hi) := by
  unfold cutV cutL
  rw [h.length]
  exact (h.drop _).take _
theorem ints_at {F : Hp} {Z : Option Zt} : ∀ ns : List Int, AtAll K F Z (ns.map V.int) (ns.map D.int)
  | [] => .nil
  | n :: ns => .cons (.int n) (ints_at ns)
theorem cutV_map (ns : List Int) (lo hi : Option Int) : cutV (ns.map V.int) lo hi = (cutL ns lo hi).map V.int := by
  unfold cutV cutL
  rw [List.length_map, List.map_take, List.map_drop]
def rSlG (K : PySem.W.Frag) : V → Option Int → Option Int → Hp → VK → Prop := fun x lo hi H Q => rSlL K x lo hi H Q ∨ rSlA K x lo hi H Q ∨ rSlS x lo hi H Q
theorem sl_G {X : Cx} : SlR X (rSlG X.K) := sl_list.or (sl_tupA.or sl_str)
theorem sd_G : SlD K (rSlG K) slF := fun F H Z s x d g lo hi Q hs hd ax h k => by
  unfold slF at h
  split at h
  · cases h
    cases ax with
    | lst h1 k1 => exact .inl ⟨_, _, rfl, .of (hs _ _ h1), fun p hp => new_k k hs hd hp (.lst upd_same (cutV_at (k1.mono (same_new hs hp)) _ _))⟩
  · cases h
    cases ax with
    | tup h1 k1 =>
      refine .inr (.inl ⟨_, _, rfl, .of (hs _ _ h1), fun hw => ?_, fun _ p hp => new_k k hs hd hp (.tup upd_same (cutV_at (k1.mono (same_new hs hp)) _ _))⟩)
      have e : ∀ {vs : List V} {ds : List D}, AtAll K F Z vs ds → HT.sIx vs.length 0 lo = 0 ∧ HT.sIx vs.length vs.length hi = vs.length → cutL ds lo hi = ds := fun {vs ds} k1 hw => by
        unfold cutL
        rw [← k1.length, hw.1, hw.2, Nat.sub_zero, List.drop_zero, k1.length, List.take_length]
      rw [e k1 hw] at k
      exact k F H _ (Ext.refl hs) hd (.tup h1 k1)
  · split at h
    · rename_i hz
      cases h
      have e := at_str ax
      subst e
      exact .inr (.inr ⟨_, rfl, hz, k F H _ (Ext.refl hs) hd (.str _)⟩)
    · cases h
  · cases h
    cases ax with
    | scr h1 =>
      refine .inl ⟨_, _, rfl, hs.seq h1, fun p hp => new_k k hs hd hp ?_⟩
      rw [cutV_map]
      exact .lst upd_same (ints_at _)
  · cases h
end
section
variable {X : Cx} {W : WX} {a b c : Expr} {ma mb mc : EM} {pos : Pos} {es : List Expr} {me : AM}
theorem do_none : PO X none (tO X.K W oNone) := ⟨fun pins s σ H Q I h => po_none.run pins s σ H Q I (by
  obtain ⟨F, Z, ρ, s', hs, he, hd, h⟩ := h
  exact h F H _ (Ext.refl hs) hd rfl)⟩
theorem do_some (ha : PE X a (tE X.K W ma)) : PO X (some a) (tO X.K W (oSome ma)) := ⟨fun pins s σ H Q I h => (po_some ha).run pins s σ H Q I (by
  obtain ⟨F, Z, ρ, s', hs, he, hd, h⟩ := h
  refine tE_then hs he hd h fun x s1 F1 H1 v1 e1 he1 hd1 a1 h => ?_
  cases x with
  | int i => exact ⟨i, at_int a1, h F1 H1 _ (Ext.refl e1.fh) hd1 rfl⟩
  | _ => exact h.elim)⟩
def eSl (f : D → Option Int → Option Int → Option D) (ma : EM) (ml mh : OM) : EM := fun ρ s => (ma ρ s).bind fun x s1 => (ml ρ s1).bind fun lo s2 => (mh ρ s2).bind fun hi s3 => lift (f x lo hi) s3
theorem tO_then {K : PySem.W.Frag} {Z : Option Zt} {F H : Hp} {σ : L2.St} {m : OM} {k : Option Int → S → RE D} {ρ : Env} {s : S} {Q : Option Int → Hp → Prop} {Q' : VK} (h1 : Same F H) (h2 : EnvAt K F Z σ ρ) (h3 : DrAt Z F H s) (h : PostE K W Z F H σ ((m ρ s).bind k) Q')
    (hk : ∀ d s1 F1 H1, Ext Z F H F1 H1 → EnvAt K F1 Z σ ρ → DrAt Z F1 H1 s1 → PostE K W Z F1 H1 σ (k d s1) Q' → Q d H1) : tO K W m σ H Q :=
  ⟨F, Z, ρ, s, h1, h2, h3, post_bind h fun d s1 F1 H1 v e dr a p => a ▸ hk d s1 F1 H1 e (h2.mono e.f) dr p⟩
theorem de_slice {lo hi : Option Expr} {ml mh : OM} {p2 : Pos} {r : V → Option Int → Option Int → Hp → VK → Prop} {f : D → Option Int → Option Int → Option D} (hr : SlR X r) (ho : SlD X.K r f) (ha : PE X a (tE X.K W ma)) (hl : PO X lo (tO X.K W ml)) (hh : PO X hi (tO X.K W mh)) :
    PE X (.Subscript a (.Slice lo hi none p2) pos) (tE X.K W (eSl f ma ml mh)) := pe_weak (pe_slice hr ha hl hh) fun σ H Q ⟨F, Z, ρ, s, hs, he, hd, h⟩ => by
  refine tE_then hs he hd h fun x s1 F1 H1 v1 e1 he1 hd1 a1 h => ?_
  refine tO_then e1.fh he1 hd1 h fun l s2 F2 H2 e2 he2 hd2 h => ?_
  refine tO_then e2.fh he2 hd2 h fun u s3 F3 H3 e3 he3 hd3 h => ?_
  obtain ⟨g, hg, k⟩ := post_now h
  exact ho F3 H3 Z s3 v1 x g l u Q e3.fh hd3 ((a1.mono e2.f).mono e3.f) hg k

/-! ### arguments, displays -/
def aNil : AM := fun _ s => .ok [] s
def aCons (m : EM) (mr : AM) : AM := fun ρ s => (m ρ s).bind fun x s1 => (mr ρ s1).bind fun xs s2 => .ok (x :: xs) s2
theorem da_nil : PA X [] (tA X.K W aNil) := pa_weak pa_nil fun σ H Q ⟨F, Z, ρ, s, hs, he, hd, h⟩ => h F H _ (Ext.refl hs) hd .nil
theorem da_cons (ha : PE X a (tE X.K W ma)) (hr : PA X es (tA X.K W me)) (hs : starEach (a :: es) X.env = (false, eval a X.env) :: starEach es X.env := by rfl) : PA X (a :: es) (tA X.K W (aCons ma me)) :=
  pa_weak (pa_cons ha hr hs) fun σ H Q ⟨F, Z, ρ, s, hs, he, hd, h⟩ => by
  refine tE_then hs he hd h fun x s1 F1 H1 v1 e1 he1 hd1 a1 h => ?_
  refine tA_then e1.fh he1 hd1 h fun xs s2 F2 H2 vs e2 he2 hd2 a2 h => ?_
  exact h F2 H2 _ (Ext.refl e2.fh) hd2 (.cons (a1.mono e2.f) a2)
/-- something of the arguments' values, at once -/
def eOf (f : List D → Option D) (me : AM) : EM := fun ρ s => (me ρ s).bind fun xs s1 => lift (f xs) s1
def CallD (K : PySem.W.Frag) (r : List V → Hp → VK → Prop) (f : List D → Option D) : Prop := ∀ (F H : Hp) (Z : Option Zt) (s : S) (xs : List V) (ds : List D) (g : D) (Q : VK), Same F H → DrAt Z F H s → AtAll K F Z xs ds → f ds = some g →
  (∀ F' H' v, Ext Z F H F' H' → DrAt Z F' H' s → At K F' Z v g → Q v H') → r xs H Q
theorem call_read {r : List V → Hp → VK → Prop} {f : List D → Option D} (ho : CallD X.K r f) {σ : L2.St} {H : Hp} {Q : VK} (h : tE X.K W (eOf f me) σ H Q) : tCB r (tA X.K W me) σ H Q := by
  obtain ⟨F, Z, ρ, s, hs, he, hd, h⟩ := h
  refine tA_then hs he hd h fun xs s1 F1 H1 vs e1 he1 hd1 a1 h => ?_
  obtain ⟨g, hg, k⟩ := post_now h
  exact ho F1 H1 Z s1 vs xs g Q e1.fh hd1 a1 hg k
theorem CallD.or {K : PySem.W.Frag} {r r' : List V → Hp → VK → Prop} {f f' : List D → Option D} (h : CallD K r f) (h' : CallD K r' f') : CallD K (fun xs H Q => r xs H Q ∨ r' xs H Q) (fun ds => (f ds).or (f' ds)) := fun F H Z s xs ds g Q h1 h2 h3 h5 h6 => by
  dsimp only at h5
  cases q : f ds with
  | none => rw [q, Option.none_or] at h5; exact .inr (h' F H Z s xs ds g Q h1 h2 h3 h5 h6)
  | some u => rw [q, Option.some_or] at h5; cases h5; exact .inl (h F H Z s xs ds _ Q h1 h2 h3 q h6)
section
variable {x : Str} {p : Pos} {id T : String} {r : List V → Hp → VK → Prop} {f : List D → Option D}
theorem de_callB (hc : CallR X (.builtin id) r) (ho : CallD X.K r f) (hg : Gl X x) (hm : X.mg x = none) (hv : bootBuiltins x = some (.builtin id)) (ha : PA X (a :: es) (tA X.K W me)) (hn : x ≠ "__name__" := by decide) (hdb : (x == ("__debug__" : Str)) = false := by decide)
    (he : starEach (a :: es) X.env = (false, eval a X.env) :: starEach es X.env := by rfl) (hpl : (backTo pos (starEach es X.env)).any (·.1) = false := by rfl) : PE X (.Call (.Name x p) (a :: es) [] pos) (tE X.K W (eOf f me)) :=
  pe_weak (pe_callB hc hg hm hv ha hn hdb he hpl) fun σ H Q h => call_read ho h
theorem de_callTy (hc : CallR X (.type T) r) (ho : CallD X.K r f) (hg : Gl X x) (hm : X.mg x = none) (hv : bootBuiltins x = some (.type T)) (ha : PA X (a :: es) (tA X.K W me)) (hn : x ≠ "__name__" := by decide) (hdb : (x == ("__debug__" : Str)) = false := by decide)
    (he : starEach (a :: es) X.env = (false, eval a X.env) :: starEach es X.env := by rfl) (hpl : (backTo pos (starEach es X.env)).any (·.1) = false := by rfl) : PE X (.Call (.Name x p) (a :: es) [] pos) (tE X.K W (eOf f me)) :=
  pe_weak (pe_callTy hc hg hm hv ha hn hdb he hpl) fun σ H Q h => call_read ho h
end
def tupF1 (xs : List D) : Option D := if xs.length ≤ sizeLine then some (.tup xs) else none
def lstF1 (xs : List D) : Option D := if xs.length ≤ sizeLine then some (.lst xs) else none
theorem de_tup {x1} (h : PA X es (tA X.K W me)) : PE X (.Tuple es x1 pos) (tE X.K W (eOf tupF1 me)) := pe_weak (pe_tup h) fun σ H Q ⟨F, Z, ρ, s, hs, he, hd, h⟩ => by
  refine tA_then hs he hd h fun xs s1 F1 H1 vs e1 he1 hd1 a1 h => ?_
  obtain ⟨g, hg, k⟩ := post_now h
  unfold tupF1 at hg
  split at hg
  · rename_i hz
    cases hg
    exact ⟨by rw [a1.length]; exact hz, fun p hp => new_k k e1.fh hd1 hp (.tup upd_same (a1.mono (same_new e1.fh hp)))⟩
  · cases hg
theorem de_lst (h : PA X es (tA X.K W me)) : PE X (.List es pos) (tE X.K W (eOf lstF1 me)) := pe_weak (pe_lst h) fun σ H Q ⟨F, Z, ρ, s, hs, he, hd, h⟩ => by
  refine tA_then hs he hd h fun xs s1 F1 H1 vs e1 he1 hd1 a1 h => ?_
  obtain ⟨g, hg, k⟩ := post_now h
  unfold lstF1 at hg
  split at hg
  · rename_i hz
    cases hg
    exact ⟨by rw [a1.length]; exact hz, fun p hp => new_k k e1.fh hd1 hp (.lst upd_same (a1.mono (same_new e1.fh hp)))⟩
  · cases hg
/-- {} -/
theorem de_dict0 : PE X (.Dict [] [] pos) (tE X.K W (eC (.dic []))) := pe_weak pe_dnewK fun σ H Q ⟨F, Z, ρ, s, hs, he, hd, h⟩ => fun p hp =>
  new_k (fun F' H' v => h F' H' v) hs hd hp (.dic upd_same .nil)
end

/-! ### len, isinstance, list, tuple, abs, min, max, all -/
section
variable {K : PySem.W.Frag}
theorem one_inv {F : Hp} {Z : Option Zt} {xs : List V} {d : D} (h : AtAll K F Z xs [d]) : ∃ v, xs = [v] ∧ At K F Z v d := by
  cases h with
  | cons a k => cases k; exact ⟨_, rfl, a⟩
theorem two_inv {F : Hp} {Z : Option Zt} {xs : List V} {d e : D} (h : AtAll K F Z xs [d, e]) : ∃ v w, xs = [v, w] ∧ At K F Z v d ∧ At K F Z w e := by
  cases h with
  | cons a k => cases k with
    | cons b k => cases k; exact ⟨_, _, rfl, a, b⟩
def lenF : List D → Option D
  | [.str x] => if x.length ≤ sizeLine then some (.int x.length) else none
  | [.lst xs] => some (.int xs.length)
  | [.tup xs] => some (.int xs.length)
  | [.scr xs] => some (.int xs.length)
  | _ => none
theorem cd_len : CallD K (fun xs H Q => ∃ x n, xs = [x] ∧ LenV K x H n ∧ Q (.int n) H) lenF := fun F H Z s xs ds g Q hs hd ax h k => by
  unfold lenF at h
  split at h
  · split at h
    · rename_i hz
      cases h
      obtain ⟨v, rfl, a⟩ := one_inv ax
      have e := at_str a
      subst e
      exact ⟨_, _, rfl, ⟨hz, rfl⟩, k F H _ (Ext.refl hs) hd (.int _)⟩
    · cases h
  · cases h
    obtain ⟨v, rfl, a⟩ := one_inv ax
    cases a with
    | lst h1 k1 => exact ⟨_, _, rfl, .inl ⟨_, .of (hs _ _ h1), rfl⟩, by rw [k1.length]; exact k F H _ (Ext.refl hs) hd (.int _)⟩
  · cases h
    obtain ⟨v, rfl, a⟩ := one_inv ax
    cases a with
    | tup h1 k1 => exact ⟨_, _, rfl, .inr ⟨_, .of (hs _ _ h1), rfl⟩, by rw [k1.length]; exact k F H _ (Ext.refl hs) hd (.int _)⟩
  · cases h
    obtain ⟨v, rfl, a⟩ := one_inv ax
    cases a with
    | scr h1 => exact ⟨_, _, rfl, .inl ⟨_, hs.seq h1, rfl⟩, by rw [List.length_map]; exact k F H _ (Ext.refl hs) hd (.int _)⟩
  · cases h
def tyOf : D → Option String
  | .non => some "NoneType"
  | .bl _ => some "bool"
  | .int _ => some "int"
  | .str _ => some "str"
  | .lst _ => some "list"
  | .tup _ => some "tuple"
  | .dic _ => some "dict"
  | _ => none
def isT (a n : String) : Bool := a == n || (a == "bool" && n == "int")
def tyTab : List String := ["list", "tuple", "int", "bool", "str", "dict"]
theorem kitB_tab : ∀ a ∈ ["NoneType", "bool", "int", "str", "list", "tuple", "dict"], ∀ n ∈ tyTab, kitB a n = some (isT a n) := by decide +kernel
theorem tyOf_mem {d : D} {a : String} (h : tyOf d = some a) : a ∈ ["NoneType", "bool", "int", "str", "list", "tuple", "dict"] := by
  cases d <;> simp [tyOf] at h <;> subst h <;> decide
theorem tyx_of {F H : Hp} {Z : Option Zt} {v : V} {d : D} {a : String} (h : At K F Z v d) (hs : Same F H) (e : tyOf d = some a) : TyX K H v (.type a) := by
  cases h <;> simp only [tyOf, Option.some.injEq, reduceCtorEq] at e <;> (try subst e)
  · exact .base .non
  · exact .base (.bl _)
  · exact .base (.int _)
  · exact .base (.str _)
  · exact .base (.lst (hs _ _ (by assumption)))
  · exact .base (.tup (hs _ _ (by assumption)))
  · exact .base (.dK (hs _ _ (by assumption)))
def tyNames : List D → Option (List String)
  | [] => some []
  | .ty n :: r => if n ∈ tyTab then (tyNames r).map (n :: ·) else none
  | _ => none
def isiF : List D → Option D
  | [x, .ty n] => if n ∈ tyTab then (tyOf x).map fun a => .bl (isT a n) else none
  | [x, .tup ts] => match tyOf x, tyNames ts with
    | some a, some ns => some (.bl (ns.any (isT a)))
    | _, _ => none
  | _ => none
theorem tyNames_at {F : Hp} {Z : Option Zt} : ∀ {vs : List V} {ts : List D} {ns : List String}, AtAll K F Z vs ts → tyNames ts = some ns → Paired ClsV vs (ns.map Value.type) ∧ ∀ n ∈ ns, n ∈ tyTab
  | _, [], _, .nil, e => by
    simp only [tyNames, Option.some.injEq] at e
    subst e
    exact ⟨.nil, fun _ h => nomatch h⟩
  | _, d :: ts, ns, .cons h k, e => by
    cases d with
    | ty n =>
      unfold tyNames at e
      split at e
      · rename_i hm
        rw [Option.map_eq_some_iff] at e
        obtain ⟨r, e, rfl⟩ := e
        obtain ⟨p1, p2⟩ := tyNames_at k e
        cases h
        exact ⟨.cons (.ty n) p1, fun m hm' => by
          rcases List.mem_cons.mp hm' with rfl | q
          · exact hm
          · exact p2 m q⟩
      · cases e
    | _ => simp [tyNames] at e
theorem kitAny_ty {a : String} (ha : a ∈ ["NoneType", "bool", "int", "str", "list", "tuple", "dict"]) : ∀ {ns : List String}, (∀ n ∈ ns, n ∈ tyTab) → PySem.W.kitAny K (.type a) (ns.map Value.type) = some (ns.any (isT a))
  | [], _ => rfl
  | n :: ns, h => by
    have h1 := kit_ty (K := K) (kitB_tab a ha n (h n List.mem_cons_self))
    have h2 := kitAny_ty ha (ns := ns) fun m q => h m (List.mem_cons_of_mem _ q)
    rw [List.map_cons, List.any_cons]
    refine kitAny_cons h1 (fun e => ?_) fun e => by rw [e, Bool.true_or]
    rw [e, Bool.false_or]
    exact h2
def rIsG (K : PySem.W.Frag) : List V → Hp → VK → Prop := fun xs H Q => rIsi K xs H Q ∨ rIsiT K xs H Q
theorem call_isG {X : Cx} : CallR X (.builtin "isinstance") (rIsG X.K) := call_isi.or call_isiT
theorem cd_is : CallD K (rIsG K) isiF := fun F H Z s xs ds g Q hs hd ax h k => by
  unfold isiF at h
  split at h
  · split at h
    · rename_i hm
      rw [Option.map_eq_some_iff] at h
      obtain ⟨a, e, rfl⟩ := h
      obtain ⟨v, w, rfl, a1, a2⟩ := two_inv ax
      cases a2
      exact .inl ⟨_, _, _, _, _, rfl, .ty _, tyx_of a1 hs e, kit_ty (kitB_tab a (tyOf_mem e) _ hm), k F H _ (Ext.refl hs) hd (.bl _)⟩
    · cases h
  · split at h
    · rename_i a ns e1 e2
      cases h
      obtain ⟨v, w, rfl, a1, a2⟩ := two_inv ax
      cases a2 with
      | tup h1 k1 =>
        obtain ⟨p1, p2⟩ := tyNames_at k1 e2
        exact .inr ⟨_, _, _, _, _, _, rfl, hs _ _ h1, p1, tyx_of a1 hs e1, kitAny_ty (tyOf_mem e1) p2, k F H _ (Ext.refl hs) hd (.bl _)⟩
    · cases h
  · cases h
def listF : List D → Option D
  | [.lst xs] => some (.lst xs)
  | [.tup xs] => some (.lst xs)
  | _ => none
theorem cd_list : CallD K (fun xs H Q => ∃ p ys, xs = [.ref p] ∧ (SqL K H p ys ∨ SqT K H p ys) ∧ ∀ l, H l = none → Q (.ref l) (upd H l (.lst ys))) listF := fun F H Z s xs ds g Q hs hd ax h k => by
  unfold listF at h
  split at h
  · cases h
    obtain ⟨v, rfl, a⟩ := one_inv ax
    cases a with
    | lst h1 k1 => exact ⟨_, _, rfl, .inl (.of (hs _ _ h1)), fun p hp => new_k k hs hd hp (.lst upd_same (k1.mono (same_new hs hp)))⟩
  · cases h
    obtain ⟨v, rfl, a⟩ := one_inv ax
    cases a with
    | tup h1 k1 => exact ⟨_, _, rfl, .inr (.of (hs _ _ h1)), fun p hp => new_k k hs hd hp (.lst upd_same (k1.mono (same_new hs hp)))⟩
  · cases h
def tupleF : List D → Option D
  | [.lst xs] => some (.tup xs)
  | [.tup xs] => some (.tup xs)
  | _ => none
theorem cd_tuple : CallD K (fun xs H Q => ∃ p ys, xs = [.ref p] ∧ ((SqL K H p ys ∧ ∀ l, H l = none → Q (.ref l) (upd H l (.tup ys))) ∨ (SqT K H p ys ∧ Q (.ref p) H))) tupleF := fun F H Z s xs ds g Q hs hd ax h k => by
  unfold tupleF at h
  split at h
  · cases h
    obtain ⟨v, rfl, a⟩ := one_inv ax
    cases a with
    | lst h1 k1 => exact ⟨_, _, rfl, .inl ⟨.of (hs _ _ h1), fun p hp => new_k k hs hd hp (.tup upd_same (k1.mono (same_new hs hp)))⟩⟩
  · cases h
    obtain ⟨v, rfl, a⟩ := one_inv ax
    cases a with
    | tup h1 k1 => exact ⟨_, _, rfl, .inr ⟨.of (hs _ _ h1), k F H _ (Ext.refl hs) hd (.tup h1 k1)⟩⟩
  · cases h
def absF : List D → Option D
  | [.int i] => some (.int (if i < 0 then -i else i))
  | _ => none
theorem cd_abs : CallD K (fun xs H Q => ∃ i, xs = [.int i] ∧ Q (.int (if i < 0 then -i else i)) H) absF := fun F H Z s xs ds g Q hs hd ax h k => by
  unfold absF at h
  split at h
  · cases h
    obtain ⟨v, rfl, a⟩ := one_inv ax
    cases a
    exact ⟨_, rfl, k F H _ (Ext.refl hs) hd (.int _)⟩
  · cases h
def min2F : List D → Option D
  | [.int i, .int j] => some (.int (if j < i then j else i))
  | _ => none
theorem cd_min2 : CallD K (fun xs H Q => ∃ i j, xs = [.int i, .int j] ∧ Q (.int (if j < i then j else i)) H) min2F := fun F H Z s xs ds g Q hs hd ax h k => by
  unfold min2F at h
  split at h
  · cases h
    obtain ⟨v, w, rfl, a, b⟩ := two_inv ax
    cases a
    cases b
    exact ⟨_, _, rfl, k F H _ (Ext.refl hs) hd (.int _)⟩
  · cases h
def bools : List D → Option (List Bool)
  | [] => some []
  | .bl b :: r => (bools r).map (b :: ·)
  | _ => none
theorem bools_at {F : Hp} {Z : Option Zt} : ∀ {vs : List V} {ts : List D} {ns : List Bool}, AtAll K F Z vs ts → bools ts = some ns → vs = ns.map V.bl
  | _, [], _, .nil, e => by
    simp only [bools, Option.some.injEq] at e
    subst e
    rfl
  | _, d :: ts, ns, .cons h k, e => by
    cases d with
    | bl n =>
      unfold bools at e
      rw [Option.map_eq_some_iff] at e
      obtain ⟨r, e, rfl⟩ := e
      rw [bools_at k e]
      cases h
      rfl
    | _ => simp [bools] at e
def allF : List D → Option D
  | [.lst xs] => (bools xs).map fun bs => .bl (bs.all id)
  | _ => none
theorem cd_all : CallD K (rAll K) allF := fun F H Z s xs ds g Q hs hd ax h k => by
  unfold allF at h
  split at h
  · rw [Option.map_eq_some_iff] at h
    obtain ⟨bs, e, rfl⟩ := h
    obtain ⟨v, rfl, a⟩ := one_inv ax
    cases a with
    | lst h1 k1 =>
      rw [bools_at k1 e] at h1
      exact ⟨_, bs, rfl, .of (hs _ _ h1), k F H _ (Ext.refl hs) hd (.bl _)⟩
  · cases h
end

/-! ### tests -/
abbrev TM := Env → S → RE Bool
def tT (K : PySem.W.Frag) (W : WX) (m : TM) : TT := fun σ H Q => ∃ F Z ρ s, Same F H ∧ EnvAt K F Z σ ρ ∧ DrAt Z F H s ∧ Post (α := Bool) (β := Bool) (fun _ _ _ v d => v = d) K W Z F H σ (m ρ s) Q
def truD : D → Option Bool
  | .non => some false
  | .bl b => some b
  | .int i => some (i != 0)
  | .str y => if y.length ≤ sizeLine then some ((y.length : Int) != 0) else none
  | .lst xs => some (!xs.isEmpty)
  | .tup xs => some (!xs.isEmpty)
  | _ => none
theorem truD_at {K : PySem.W.Frag} {F H : Hp} {Z : Option Zt} {v : V} {d : D} {b : Bool} (h : At K F Z v d) (hs : Same F H) (e : truD d = some b) : TruV K v H b := by
  have em : ∀ {vs : List V} {ds : List D}, AtAll K F Z vs ds → vs.isEmpty = ds.isEmpty := fun h => by cases h <;> rfl
  cases h with
  | non => cases e; rfl
  | bl b => cases e; rfl
  | int i => cases e; rfl
  | str x =>
    have e : (if x.length ≤ sizeLine then some ((x.length : Int) != 0) else none) = some b := e
    split at e
    · rename_i hz
      cases e
      exact ⟨hz, rfl⟩
    · cases e
  | lst h1 k1 => cases e; exact .inl ⟨_, .of (hs _ _ h1), by rw [em k1]⟩
  | tup h1 k1 => cases e; exact .inr (.inl ⟨_, .of (hs _ _ h1), by rw [em k1]⟩)
  | _ => cases e
section
variable {X : Cx} {W : WX} {a b c : Expr} {ma mb mc : EM} {pos : Pos} {ta tb tc : TM} {rest : List Expr}
theorem tT_then {K : PySem.W.Frag} {Z : Option Zt} {F H : Hp} {σ : L2.St} {α' β' : Type} {rel' : PySem.W.Frag → Hp → Option Zt → β' → α' → Prop} {m : TM} {k : Bool → S → RE α'} {ρ : Env} {s : S} {Q : Bool → Hp → Prop} {Q' : β' → Hp → Prop} (h1 : Same F H) (h2 : EnvAt K F Z σ ρ) (h3 : DrAt Z F H s) (h : Post rel' K W Z F H σ ((m ρ s).bind k) Q')
    (hk : ∀ d s1 F1 H1, Ext Z F H F1 H1 → EnvAt K F1 Z σ ρ → DrAt Z F1 H1 s1 → Post rel' K W Z F1 H1 σ (k d s1) Q' → Q d H1) : tT K W m σ H Q :=
  ⟨F, Z, ρ, s, h1, h2, h3, post_bind h fun d s1 F1 H1 v e dr a p => a ▸ hk d s1 F1 H1 e (h2.mono e.f) dr p⟩
def mTru (m : EM) : TM := fun ρ s => (m ρ s).bind fun d s1 => lift (truD d) s1
theorem dt_val (ha : PE X a (tE X.K W ma)) (he : ∀ whole, isTrue a X.env whole = (do let v ← whole; standAt a.pos; holding [v] (truthy v)) := by intro _; rfl) : PT X a (tT X.K W (mTru ma)) := pt_weak (pt_truth ha he) fun σ H Q ⟨F, Z, ρ, s, hs, he, hd, h⟩ => by
  refine tE_then hs he hd h fun x s1 F1 H1 v1 e1 he1 hd1 a1 h => ?_
  obtain ⟨g, hg, k⟩ := post_now h
  exact ⟨g, truD_at a1 e1.fh hg, k F1 H1 _ (Ext.refl e1.fh) hd1 rfl⟩
def mBl (m : EM) : TM := fun ρ s => (m ρ s).bind fun d s1 => match d with
  | .bl b => .ok b s1
  | _ => .bad
theorem dt_cmp {op : CmpOp} {r : R2} {f : D → D → Option D} (hr : OpR X (compareOp op) r) (ho : OpD X.K r f) (ha : PE X a (tE X.K W ma)) (hb : PE X b (tE X.K W mb)) (hm : behindInMarks op b = false) : PT X (.Compare a [op] [b] pos) (tT X.K W (mBl (eOp f ma mb))) :=
  pt_weak (pt_cmpR hr ha hb hm) fun σ H Q ⟨F, Z, ρ, s, hs, he, hd, h⟩ => by
  have h' : tE X.K W (eOp f ma mb) σ H fun x H1 => ∃ k, x = .bl k ∧ Q k H1 := tE_then hs he hd h fun x s1 F1 H1 v1 e1 he1 hd1 a1 h => by
    cases x with
    | bl k => exact ⟨k, at_bl a1, h F1 H1 _ (Ext.refl e1.fh) hd1 rfl⟩
    | _ => exact h.elim
  exact op_read ho h'
/-- an expression that gives a bool, read so already, as a test: by the very rule of tests -/
def mAnd (ta tb : TM) : TM := fun ρ s => (ta ρ s).bind fun x s1 => if x = true then tb ρ s1 else .ok false s1
def mOr (ta tb : TM) : TM := fun ρ s => (ta ρ s).bind fun x s1 => if x = true then .ok true s1 else tb ρ s1
def mNot (ta : TM) : TM := fun ρ s => (ta ρ s).bind fun x s1 => .ok (!x) s1
theorem dt_not (ha : PT X a (tT X.K W ta)) : PT X (.UnaryOp .Not a pos) (tT X.K W (mNot ta)) := pt_weak (pt_not ha) fun σ H Q ⟨F, Z, ρ, s, hs, he, hd, h⟩ =>
  tT_then hs he hd h fun x s1 F1 H1 e1 he1 hd1 h => h F1 H1 _ (Ext.refl e1.fh) hd1 rfl
theorem pw_weak {e : Expr} {t t' : TT} (h : PW X e t) (k : ∀ σ H Q, t' σ H Q → t σ H Q) : PW X e t' := ⟨fun wh pins s σ H Q I q => h.run wh pins s σ H Q I (k σ H Q q)⟩
theorem dw_and1 (ha : PT X a (tT X.K W ta)) : PW X (.BoolOp .And [a] pos) (tT X.K W ta) := pw_and1 ha
theorem dw_or1 (ha : PT X a (tT X.K W ta)) : PW X (.BoolOp .Or [a] pos) (tT X.K W ta) := pw_or1 ha
theorem dw_and (ha : PT X a (tT X.K W ta)) (hb : PW X (.BoolOp .And (b :: rest) pos) (tT X.K W tb)) : PW X (.BoolOp .And (a :: b :: rest) pos) (tT X.K W (mAnd ta tb)) := pw_weak (pw_and ha hb) fun σ H Q ⟨F, Z, ρ, s, hs, he, hd, h⟩ =>
  tT_then hs he hd h fun x s1 F1 H1 e1 he1 hd1 h => by
    cases x with
    | true => exact iteT ⟨F1, Z, ρ, s1, e1.fh, he1, hd1, h⟩
    | false => exact iteF (h F1 H1 _ (Ext.refl e1.fh) hd1 rfl)
theorem dw_or (ha : PT X a (tT X.K W ta)) (hb : PW X (.BoolOp .Or (b :: rest) pos) (tT X.K W tb)) : PW X (.BoolOp .Or (a :: b :: rest) pos) (tT X.K W (mOr ta tb)) := pw_weak (pw_or ha hb) fun σ H Q ⟨F, Z, ρ, s, hs, he, hd, h⟩ =>
  tT_then hs he hd h fun x s1 F1 H1 e1 he1 hd1 h => by
    cases x with
    | true => exact iteT (h F1 H1 _ (Ext.refl e1.fh) hd1 rfl)
    | false => exact iteF ⟨F1, Z, ρ, s1, e1.fh, he1, hd1, h⟩
/-! ### and, or, not, if as values; chains -/
def eAnd (ma mb : EM) : EM := fun ρ s => (ma ρ s).bind fun x s1 => match x with
  | .bl true => mb ρ s1
  | .bl false => .ok (.bl false) s1
  | _ => .bad
def eOr (ma mb : EM) : EM := fun ρ s => (ma ρ s).bind fun x s1 => match x with
  | .bl false => mb ρ s1
  | .bl true => .ok (.bl true) s1
  | _ => .bad
def eNot (ma : EM) : EM := fun ρ s => (ma ρ s).bind fun x s1 => match x with
  | .bl b => .ok (.bl (!b)) s1
  | _ => .bad
theorem de_one {op} (h : PE X a (tE X.K W ma)) : PE X (.BoolOp op [a] pos) (tE X.K W ma) := pe_one h
theorem de_and (ha : PE X a (tE X.K W ma)) (hb : PE X (.BoolOp .And (b :: rest) pos) (tE X.K W mb)) : PE X (.BoolOp .And (a :: b :: rest) pos) (tE X.K W (eAnd ma mb)) := pe_weak (pe_and ha hb) fun σ H Q ⟨F, Z, ρ, s, hs, he, hd, h⟩ =>
  tE_then hs he hd h fun x s1 F1 H1 v1 e1 he1 hd1 a1 h => by
    cases x with
    | bl k =>
      refine ⟨k, at_bl a1, ?_⟩
      cases k with
      | true => exact iteT ⟨F1, Z, ρ, s1, e1.fh, he1, hd1, h⟩
      | false => exact iteF (h F1 H1 _ (Ext.refl e1.fh) hd1 (.bl _))
    | _ => exact h.elim
theorem de_or (ha : PE X a (tE X.K W ma)) (hb : PE X (.BoolOp .Or (b :: rest) pos) (tE X.K W mb)) : PE X (.BoolOp .Or (a :: b :: rest) pos) (tE X.K W (eOr ma mb)) := pe_weak (pe_or ha hb) fun σ H Q ⟨F, Z, ρ, s, hs, he, hd, h⟩ =>
  tE_then hs he hd h fun x s1 F1 H1 v1 e1 he1 hd1 a1 h => by
    cases x with
    | bl k =>
      refine ⟨k, at_bl a1, ?_⟩
      cases k with
      | false => exact iteF ⟨F1, Z, ρ, s1, e1.fh, he1, hd1, h⟩
      | true => exact iteT (h F1 H1 _ (Ext.refl e1.fh) hd1 (.bl _))
    | _ => exact h.elim
theorem de_not (ha : PE X a (tE X.K W ma)) : PE X (.UnaryOp .Not a pos) (tE X.K W (eNot ma)) := pe_weak (pe_not ha) fun σ H Q ⟨F, Z, ρ, s, hs, he, hd, h⟩ =>
  tE_then hs he hd h fun x s1 F1 H1 v1 e1 he1 hd1 a1 h => by
    cases x with
    | bl k => exact ⟨k, at_bl a1, h F1 H1 _ (Ext.refl e1.fh) hd1 (.bl _)⟩
    | _ => exact h.elim
def eIf (tc : TM) (ma mb : EM) : EM := fun ρ s => (tc ρ s).bind fun x s1 => if x = true then ma ρ s1 else mb ρ s1
theorem de_if (hc : PT X c (tT X.K W tc)) (ha : PE X a (tE X.K W ma)) (hb : PE X b (tE X.K W mb)) : PE X (.IfExp c a b pos) (tE X.K W (eIf tc ma mb)) := pe_weak (pe_ifExp hc ha hb) fun σ H Q ⟨F, Z, ρ, s, hs, he, hd, h⟩ =>
  tT_then hs he hd h fun x s1 F1 H1 e1 he1 hd1 h => by
    cases x with
    | true => exact iteT ⟨F1, Z, ρ, s1, e1.fh, he1, hd1, h⟩
    | false => exact iteF ⟨F1, Z, ρ, s1, e1.fh, he1, hd1, h⟩
def eChain (f g : D → D → Option D) (ma mb mc : EM) : EM := fun ρ s => (ma ρ s).bind fun x s1 => (mb ρ s1).bind fun y s2 => (lift (f x y) s2).bind fun z s3 => match z with
  | .bl true => (mc ρ s3).bind fun w s4 => lift (g y w) s4
  | .bl false => .ok (.bl false) s3
  | _ => .bad
theorem chain_read {r r' : R2} {f g : D → D → Option D} (ho : OpD X.K r f) (ho' : OpD X.K r' g) {σ : L2.St} {H : Hp} {Q : VK} (h : tE X.K W (eChain f g ma mb mc) σ H Q) : tChain r r' (tE X.K W ma) (tE X.K W mb) (tE X.K W mc) σ H Q := by
  obtain ⟨F, Z, ρ, s, hs, he, hd, h⟩ := h
  refine tE_then hs he hd h fun x s1 F1 H1 v1 e1 he1 hd1 a1 h => ?_
  refine tE_then e1.fh he1 hd1 h fun y s2 F2 H2 v2 e2 he2 hd2 a2 h => ?_
  cases q : f x y with
  | none => rw [q] at h; exact h.elim
  | some z =>
    rw [q] at h
    refine ho F2 H2 Z s2 v1 v2 x y z _ e2.fh hd2 (a1.mono e2.f) a2 q fun F3 H3 v3 e3 hd3 a3 => ?_
    have he3 := he2.mono e3.f
    have up : ∀ {r : RE D}, PostE X.K W Z F2 H2 σ r Q → PostE X.K W Z F3 H3 σ r Q := fun {r} p => by
      cases r with
      | bad => exact p
      | ok d s' => exact fun F' H' v e => p F' H' v (e3.trans e)
      | ex C fs s' => exact fun F' H' v e => p F' H' v (e3.trans e)
    cases z with
    | bl k =>
      refine ⟨k, at_bl a3, ?_⟩
      cases k with
      | false => exact iteF (up h F3 H3 _ (Ext.refl e3.fh) hd3 (.bl _))
      | true =>
        refine iteT (tE_then e3.fh he3 hd3 (up h) fun w s4 F4 H4 v4 e4 he4 hd4 a4 h => ?_)
        obtain ⟨g', hg, k⟩ := post_now h
        exact ho' F4 H4 Z s4 v2 v4 y w g' Q e4.fh hd4 ((a2.mono e3.f).mono e4.f) a4 hg k
    | _ => exact h.elim
theorem de_chain {op op' : CmpOp} {r r' : R2} {f g : D → D → Option D} (hr : OpR X (compareOp op) r) (hr' : OpR X (compareOp op') r') (ho : OpD X.K r f) (ho' : OpD X.K r' g) (ha : PE X a (tE X.K W ma)) (hb : PE X b (tE X.K W mb)) (hc : PE X c (tE X.K W mc))
    (hm : lastMarks [op, op'] [b, c] = false := by with_unfolding_all rfl) : PE X (.Compare a [op, op'] [b, c] pos) (tE X.K W (eChain f g ma mb mc)) := pe_weak (pe_chain hr hr' ha hb hc hm) fun σ H Q h => chain_read ho ho' h
end
end FL
set_option Elab.async false
set_option linter.all false
set_option maxRecDepth 100000
/-! ## FL, 4: statements. A slot holds frozen data, or a list of its own (which may change) -/
namespace FL
open PySem PySem.Spec PyProof.Rows L2
inductive Sl where
  | dat (d : D)
  | own (xs : List D)
abbrev Sls := List (Option Sl)
def datOf : Option Sl → Option D
  | some (.dat d) => some d
  | _ => none
def visOf : Option Sl → Option D
  | some (.dat d) => some d
  | some (.own xs) => some (.lst xs)
  | none => none
def dats (ρ : Sls) : Env := ρ.map datOf
def vis (ρ : Sls) : Env := ρ.map visOf
inductive RS where
  | nx (ρ : Sls) (s : S)
  | bk (ρ : Sls) (s : S)
  | ct (ρ : Sls) (s : S)
  | rt (d : D) (s : S)
  | ex (C : Addr) (fs : List (Str × D)) (ρ : Sls) (s : S)
  | bad
abbrev SM := Sls → S → RS

/-- the slots lie so -/
structure SlAt (K : PySem.W.Frag) (Z : Option Zt) (H0 F H : Hp) (σ : L2.St) (ρ : Sls) : Prop where
  len : σ.length = ρ.length
  dat : ∀ (i : Nat) (d : D), ρ[i]? = some (some (.dat d)) → ∃ v, σ[i]? = some (some v) ∧ At K F Z v d
  own : ∀ (i : Nat) (xs : List D), ρ[i]? = some (some (.own xs)) → ∃ a vs, σ[i]? = some (some (.ref a)) ∧ H a = some (.lst vs) ∧ AtAll K F Z vs xs ∧ F a = none ∧ H0 a = none ∧ ¬ DrA Z a
  apart : ∀ (i j : Nat) (xs ys : List D) (a : Addr), ρ[i]? = some (some (.own xs)) → ρ[j]? = some (some (.own ys)) → σ[i]? = some (some (.ref a)) → σ[j]? = some (some (.ref a)) → i = j

def PostS (K : PySem.W.Frag) (W : WX) (Z : Option Zt) (F0 H0 : Hp) (D : Ends) (r : RS) : Prop := match r with
  | .nx ρ s => ∀ F H σ, Ext Z F0 H0 F H → DrAt Z F H s → SlAt K Z H0 F H σ ρ → D.nx σ H
  | .bk ρ s => ∀ F H σ, Ext Z F0 H0 F H → DrAt Z F H s → SlAt K Z H0 F H σ ρ → D.bk σ H
  | .ct ρ s => ∀ F H σ, Ext Z F0 H0 F H → DrAt Z F H s → SlAt K Z H0 F H σ ρ → D.ct σ H
  | .rt d s => ∀ F H v, Ext Z F0 H0 F H → DrAt Z F H s → At K F Z v d → D.rt v H
  | .ex C fs ρ s => ∀ F H σ dd, Ext Z F0 H0 F H → DrAt Z F H s → SlAt K Z H0 F H σ ρ → XdAt K F H Z dd fs → W (.ref C) dd σ H
  | .bad => False
/-- the state at a statement -/
structure At0 (K : PySem.W.Frag) (Z : Option Zt) (F0 H0 F H : Hp) (σ : L2.St) (ρ : Sls) (s : S) : Prop where
  ext : Ext Z F0 H0 F H
  dr : DrAt Z F H s
  sl : SlAt K Z H0 F H σ ρ
def tS (K : PySem.W.Frag) (W : WX) (m : SM) : TS := fun D σ H => ∃ F0 H0 Z F ρ s, At0 K Z F0 H0 F H σ ρ s ∧ PostS K W Z F0 H0 D (m ρ s)

section
variable {K : PySem.W.Frag} {W : WX} {Z : Option Zt} {F0 H0 F H F' H' : Hp} {σ : L2.St} {ρ : Sls} {s s' : S}
theorem dats_at (h : SlAt K Z H0 F H σ ρ) : EnvAt K F Z σ (dats ρ) := fun i d e => by
  unfold dats at e
  rw [List.getElem?_map, Option.map_eq_some_iff] at e
  obtain ⟨o, e1, e2⟩ := e
  cases o with
  | none => cases e2
  | some x => cases x with
    | dat d' => cases e2; exact h.dat i _ e1
    | own xs => cases e2
/-- frozen and a list of one's own beside -/
def Owned (σ : L2.St) (ρ : Sls) (a : Addr) : Prop := ∃ (i : Nat) (xs : List D), ρ[i]? = some (some (.own xs)) ∧ σ[i]? = some (some (.ref a))
open Classical in
noncomputable def FV (F H : Hp) (σ : L2.St) (ρ : Sls) : Hp := fun a => if Owned σ ρ a then H a else F a
theorem fv_own {a : Addr} (h : Owned σ ρ a) : FV F H σ ρ a = H a := if_pos h
theorem fv_not {a : Addr} (h : ¬ Owned σ ρ a) : FV F H σ ρ a = F a := if_neg h
theorem own_facts (h : SlAt K Z H0 F H σ ρ) {a : Addr} (o : Owned σ ρ a) : F a = none ∧ H0 a = none ∧ ¬ DrA Z a ∧ ∃ vs, H a = some (.lst vs) := by
  obtain ⟨i, xs, e1, e2⟩ := o
  obtain ⟨b, vs, e3, e4, _, e6, e7, e8⟩ := h.own i xs e1
  rw [e2] at e3
  cases e3
  exact ⟨e6, e7, e8, vs, e4⟩
theorem fv_same (h : SlAt K Z H0 F H σ ρ) : Same F (FV F H σ ρ) := fun a o e => by
  by_cases q : Owned σ ρ a
  · rw [(own_facts h q).1] at e
    cases e
  · rw [fv_not q]; exact e
theorem fv_sub (h : SlAt K Z H0 F H σ ρ) (hs : Same F H) : Same (FV F H σ ρ) H := fun a o e => by
  by_cases q : Owned σ ρ a
  · rw [fv_own q] at e; exact e
  · rw [fv_not q] at e; exact hs _ _ e
theorem fv_dr (h : SlAt K Z H0 F H σ ρ) (hd : DrAt Z F H s) : DrAt Z (FV F H σ ρ) H s := by
  cases Z with
  | none => trivial
  | some z =>
    obtain ⟨h1, h2, h3, h4, h5⟩ := hd
    refine ⟨h1, h2, h3, ?_, ?_⟩
    · rw [fv_not fun q => (own_facts h q).2.2.1 (.inl rfl)]; exact h4
    · rw [fv_not fun q => (own_facts h q).2.2.1 (.inr rfl)]; exact h5
theorem vis_at (h : SlAt K Z H0 F H σ ρ) : EnvAt K (FV F H σ ρ) Z σ (vis ρ) := fun i d e => by
  unfold vis at e
  rw [List.getElem?_map, Option.map_eq_some_iff] at e
  obtain ⟨o, e1, e2⟩ := e
  cases o with
  | none => cases e2
  | some x => cases x with
    | dat d' =>
      cases e2
      obtain ⟨v, h1, h2⟩ := h.dat i _ e1
      exact ⟨v, h1, h2.mono (fv_same h)⟩
    | own xs =>
      cases e2
      obtain ⟨a, vs, h1, h2, h3, _⟩ := h.own i _ e1
      exact ⟨_, h1, .lst (by rw [fv_own ⟨i, xs, e1, h1⟩]; exact h2) (h3.mono (fv_same h))⟩
theorem flat_any {F G : Hp} {Y : Option Zt} {v : V} {d : D} (h : At K F Z v d) (f : flatD d = true) : At K G Y v d := by
  cases h <;> first | (cases f; done) | constructor
/-- the state goes on: what was frozen stays, the slots as they were -/
theorem At0.go (a : At0 K Z F0 H0 F H σ ρ s) (e : Ext Z F H F' H') (hd : DrAt Z F' H' s') : At0 K Z F0 H0 F' H' σ ρ s' := by
  refine ⟨a.ext.trans e, hd, ⟨a.sl.len, fun i d q => ?_, fun i xs q => ?_, a.sl.apart⟩⟩
  · obtain ⟨v, h1, h2⟩ := a.sl.dat i d q
    exact ⟨v, h1, h2.mono e.f⟩
  · obtain ⟨b, vs, h1, h2, h3, h4, h5, h6⟩ := a.sl.own i xs q
    obtain ⟨o', h7, h8⟩ := e.h b _ h2
    exact ⟨b, vs, h1, by rw [h7, h8 h6], h3.mono e.f, e.n b _ h4 h2, h5, h6⟩
/-- behind a look at one's own lists: only the heap has grown -/
theorem At0.look (a : At0 K Z F0 H0 F H σ ρ s) (e : Ext Z (FV F H σ ρ) H F' H') (hd : DrAt Z F' H' s') : Ext Z F H F H' ∧ DrAt Z F H' s' := by
  have sF : Same F F' := (fv_same a.sl).trans e.f
  refine ⟨⟨Same.refl F, sF.trans e.fh, e.h, fun _ _ q _ => q⟩, ?_⟩
  cases Z with
  | none => trivial
  | some z =>
    obtain ⟨h1, h2, h3, h4, h5⟩ := hd
    exact ⟨h1, h2, h3, sF.free h4, sF.free h5⟩
end

/-! ### an expression among slots -/
def runD (m : EM) (ρ : Sls) (s : S) : RE D := match m (dats ρ) s with
  | .ok d s' => .ok d s'
  | .ex C fs s' => .ex C fs s'
  | .bad => match m (vis ρ) s with
    | .ok d s' => if flatD d = true then .ok d s' else .bad
    | _ => .bad
def runT (m : TM) (ρ : Sls) (s : S) : RE Bool := match m (dats ρ) s with
  | .ok d s' => .ok d s'
  | .ex C fs s' => .ex C fs s'
  | .bad => match m (vis ρ) s with
    | .ok d s' => .ok d s'
    | _ => .bad
section
variable {K : PySem.W.Frag} {W : WX} {Z : Option Zt} {F0 H0 F H F' H' : Hp} {σ : L2.St} {ρ : Sls} {s s' : S}
theorem run_read {m : EM} {Q : VK} (a : At0 K Z F0 H0 F H σ ρ s) (h : PostE K W Z F H σ (runD m ρ s) Q) : tE K W m σ H Q := by
  unfold runD at h
  split at h
  · rename_i d s' e
    exact ⟨F, Z, dats ρ, s, a.ext.fh, dats_at a.sl, a.dr, by rw [e]; exact h⟩
  · rename_i C fs s' e
    exact ⟨F, Z, dats ρ, s, a.ext.fh, dats_at a.sl, a.dr, by rw [e]; exact h⟩
  · split at h
    · rename_i d s' e
      split at h
      · rename_i fl
        refine ⟨FV F H σ ρ, Z, vis ρ, s, fv_sub a.sl a.ext.fh, vis_at a.sl, fv_dr a.sl a.dr, ?_⟩
        rw [e]
        intro F' H' v ex hd av
        obtain ⟨e1, e2⟩ := a.look ex hd
        exact h F H' v e1 e2 (flat_any av fl)
      · exact h.elim
    · exact h.elim
theorem runT_read {m : TM} {Q : Bool → Hp → Prop} (a : At0 K Z F0 H0 F H σ ρ s) (h : Post (α := Bool) (β := Bool) (fun _ _ _ v d => v = d) K W Z F H σ (runT m ρ s) Q) : tT K W m σ H Q := by
  unfold runT at h
  split at h
  · rename_i d s' e
    exact ⟨F, Z, dats ρ, s, a.ext.fh, dats_at a.sl, a.dr, by rw [e]; exact h⟩
  · rename_i C fs s' e
    exact ⟨F, Z, dats ρ, s, a.ext.fh, dats_at a.sl, a.dr, by rw [e]; exact h⟩
  · split at h
    · rename_i d s' e
      refine ⟨FV F H σ ρ, Z, vis ρ, s, fv_sub a.sl a.ext.fh, vis_at a.sl, fv_dr a.sl a.dr, ?_⟩
      rw [e]
      intro F' H' v ex hd av
      obtain ⟨e1, e2⟩ := a.look ex hd
      exact h F H' v e1 e2 av
    · exact h.elim
/-- from a statement's wish to an expression's: k tells what follows a value -/
def after {α : Type} (r : RE α) (ρ : Sls) (k : α → S → RS) : RS := match r with
  | .ok d s => k d s
  | .ex C fs s => .ex C fs ρ s
  | .bad => .bad
theorem after_post {α β : Type} {rel : PySem.W.Frag → Hp → Option Zt → β → α → Prop} {D : Ends} {r : RE α} {k : α → S → RS} {Q : β → Hp → Prop} (a : At0 K Z F0 H0 F H σ ρ s) (h : PostS K W Z F0 H0 D (after r ρ k))
    (hk : ∀ d s' F' H' v, At0 K Z F0 H0 F' H' σ ρ s' → Ext Z F H F' H' → rel K F' Z v d → PostS K W Z F0 H0 D (k d s') → Q v H') : Post rel K W Z F H σ r Q := by
  cases r with
  | bad => exact h
  | ok d s' => exact fun F' H' v e hd av => hk d s' F' H' v (a.go e hd) e av h
  | ex C fs s' =>
    intro F' H' dd e hd xd
    have b := a.go e hd
    exact h F' H' σ dd b.ext b.dr b.sl xd
theorem SlAt.setD (h : SlAt K Z H0 F H σ ρ) {i : Nat} {v : V} {d : D} (a : At K F Z v d) : SlAt K Z H0 F H (σ.set i (some v)) (ρ.set i (some (.dat d))) := by
  refine ⟨by rw [List.length_set, List.length_set]; exact h.len, fun j e q => ?_, fun j xs q => ?_, fun j k xs ys b q1 q2 r1 r2 => ?_⟩
  · by_cases hj : i = j
    · subst hj
      have hi : i < ρ.length := by
        rw [← List.length_set]
        exact (List.getElem?_eq_some_iff.mp q).1
      rw [List.getElem?_set_self hi] at q
      cases q
      exact ⟨v, List.getElem?_set_self (by rw [h.len]; exact hi), a⟩
    · rw [List.getElem?_set_ne hj] at q
      obtain ⟨w, h1, h2⟩ := h.dat j e q
      exact ⟨w, by rw [List.getElem?_set_ne hj]; exact h1, h2⟩
  · have hj : i ≠ j := fun z => by
      subst z
      have hi : i < ρ.length := by
        rw [← List.length_set]
        exact (List.getElem?_eq_some_iff.mp q).1
      rw [List.getElem?_set_self hi] at q
      cases q
    rw [List.getElem?_set_ne hj] at q
    obtain ⟨b, vs, h1, h2⟩ := h.own j xs q
    exact ⟨b, vs, by rw [List.getElem?_set_ne hj]; exact h1, h2⟩
  · have hj : ∀ {j : Nat} {xs : List D}, (ρ.set i (some (.dat d)))[j]? = some (some (.own xs)) → i ≠ j := fun {j xs} q z => by
      subst z
      have hi : i < ρ.length := by
        rw [← List.length_set]
        exact (List.getElem?_eq_some_iff.mp q).1
      rw [List.getElem?_set_self hi] at q
      cases q
    have h1 := hj q1
    have h2 := hj q2
    rw [List.getElem?_set_ne h1] at q1 r1
    rw [List.getElem?_set_ne h2] at q2 r2
    exact h.apart j k xs ys b q1 q2 r1 r2
theorem At0.setD (a : At0 K Z F0 H0 F H σ ρ s) {i : Nat} {v : V} {d : D} (av : At K F Z v d) : At0 K Z F0 H0 F H (σ.set i (some v)) (ρ.set i (some (.dat d))) s := ⟨a.ext, a.dr, a.sl.setD av⟩
theorem post_nx {D : Ends} {ρ : Sls} {s : S} (h : PostS K W Z F0 H0 D (.nx ρ s)) (a : At0 K Z F0 H0 F H σ ρ s) : D.nx σ H := h F H σ a.ext a.dr a.sl
end

/-! ### statements -/
def sSeq (m n : SM) : SM := fun ρ s => match m ρ s with
  | .nx ρ' s' => n ρ' s'
  | r => r
def sNext : SM := fun ρ s => .nx ρ s
def sSet (i : Nat) (m : EM) : SM := fun ρ s => after (runD m ρ s) ρ fun d s' => .nx (ρ.set i (some (.dat d))) s'
def sRet (m : EM) : SM := fun ρ s => after (runD m ρ s) ρ fun d s' => .rt d s'
def sDrop (m : EM) : SM := fun ρ s => after (runD m ρ s) ρ fun _ s' => .nx ρ s'
def sIf (t : TM) (m n : SM) : SM := fun ρ s => after (runT t ρ s) ρ fun b s' => if b = true then m ρ s' else n ρ s'
section
variable {X : Cx} {W : WX} {st : Stmt} {rest : List Stmt} {m n : SM} {e : Expr} {me : EM} {pos : Pos}
theorem dss_nil : PSs X [] (tS X.K W sNext) := pss_weak pss_nil fun D σ H ⟨F0, H0, Z, F, ρ, s, a, h⟩ => post_nx h a
theorem dss_cons (h1 : PS X st (tS X.K W m)) (h2 : PSs X rest (tS X.K W n)) : PSs X (st :: rest) (tS X.K W (sSeq m n)) := pss_weak (pss_cons h1 h2) fun D σ H ⟨F0, H0, Z, F, ρ, s, a, h⟩ => by
  refine ⟨F0, H0, Z, F, ρ, s, a, ?_⟩
  unfold sSeq at h
  cases q : m ρ s with
  | nx ρ' s' =>
    rw [q] at h
    exact fun F' H' σ' e hd sl => ⟨F0, H0, Z, F', ρ', s', ⟨e, hd, sl⟩, h⟩
  | bk ρ' s' => rw [q] at h; exact h
  | ct ρ' s' => rw [q] at h; exact h
  | rt d s' => rw [q] at h; exact h
  | ex C fs ρ' s' => rw [q] at h; exact h
  | bad => rw [q] at h; exact h
theorem dss_one (h1 : PS X st (tS X.K W m)) : PSs X [st] (tS X.K W m) := pss_one h1
theorem ds_pass : PS X (.Pass pos) (tS X.K W sNext) := ps_weak ps_pass fun D σ H ⟨F0, H0, Z, F, ρ, s, a, h⟩ => post_nx h a
theorem ds_doc {x j pos pos'} : PS X (.Expr (.Constant (.str x) j pos) pos') (tS X.K W sNext) := ps_weak ps_doc fun D σ H ⟨F0, H0, Z, F, ρ, s, a, h⟩ => post_nx h a
theorem ds_set {i : Nat} {x : Str} {pos' : Pos} (hN : X.N.Nodup) (hi : X.N[i]? = some x) (hx : Loc X.env.scope x) (he : PE X e (tE X.K W me)) (hs : swapsWith e (some (.Name x pos')) pos.line X.env = pure false := by rfl) (hf : X.fn x = true ∨ X.env.scope.names.lookup x = some .local := by first | exact .inl rfl | exact .inr rfl | assumption) :
    PS X (.Assign [.Name x pos'] e pos) (tS X.K W (sSet i me)) := ps_weak (ps_set hN hi hx he hs hf) fun D σ H ⟨F0, H0, Z, F, ρ, s, a, h⟩ =>
  run_read a (after_post a h fun d s' F' H' v a' _ av p => post_nx p (a'.setD av))
theorem ds_ret (he : PE X e (tE X.K W me)) : PS X (.Return (some e) pos) (tS X.K W (sRet me)) := ps_weak (ps_ret he) fun D σ H ⟨F0, H0, Z, F, ρ, s, a, h⟩ =>
  run_read a (after_post a h fun d s' F' H' v a' _ av p => p F' H' v a'.ext a'.dr av)
theorem ds_retN : PS X (.Return none pos) (tS X.K W fun ρ s => .rt .non s) := ps_weak ps_retN fun D σ H ⟨F0, H0, Z, F, ρ, s, a, h⟩ => h F H _ a.ext a.dr .non
theorem ds_expr (he : PE X e (tE X.K W me)) (hs : swapsWith e none pos.line X.env = pure false := by rfl) : PS X (.Expr e pos) (tS X.K W (sDrop me)) := ps_weak (ps_expr he hs) fun D σ H ⟨F0, H0, Z, F, ρ, s, a, h⟩ =>
  run_read a (after_post a h fun d s' F' H' v a' _ av p => post_nx p a')
theorem ds_if {c : Expr} {ta : List Stmt} {tb : List Stmt} {tc : TM} (hc : PT X c (tT X.K W tc)) (ha : PSs X ta (tS X.K W m)) (hb : PSs X tb (tS X.K W n)) : PS X (.If c ta tb pos) (tS X.K W (sIf tc m n)) := ps_weak (ps_if hc ha hb) fun D σ H ⟨F0, H0, Z, F, ρ, s, a, h⟩ =>
  runT_read a (after_post a h fun d s' F' H' v a' _ av p => by
    subst av
    cases v with
    | true => exact iteT ⟨F0, H0, Z, F', ρ, s', a', p⟩
    | false => exact iteF ⟨F0, H0, Z, F', ρ, s', a', p⟩)

/-! ### a list of one's own -/
theorem SlAt.setO {K : PySem.W.Frag} {Z : Option Zt} {F0 H0 F H : Hp} {σ : L2.St} {ρ : Sls} {s : S} (a : At0 K Z F0 H0 F H σ ρ s) {i : Nat} {p : Addr} {vs : List V} {xs : List D} (hp : H p = none) (av : AtAll K F Z vs xs) :
    At0 K Z F0 H0 F (upd H p (.lst vs)) (σ.set i (some (.ref p))) (ρ.set i (some (.own xs))) s := by
  have e1 : Ext Z F H F (upd H p (.lst vs)) := Ext.newH a.ext.fh hp
  have h := a.sl
  have hp0 : H0 p = none := by
    cases q : H0 p with
    | none => rfl
    | some o =>
      obtain ⟨o', q', _⟩ := a.ext.h p o q
      rw [hp] at q'
      cases q'
  have hdr : ¬ DrA Z p := fun z => by
    have d := a.dr
    cases Z with
    | none => exact z
    | some z' =>
      obtain ⟨_, d2, d3, _⟩ := d
      rcases z with z | z
      · rw [← z, hp] at d2; cases d2
      · rw [← z, hp] at d3; cases d3
  have other : ∀ {j : Nat} {ys : List D} {b : Addr}, ρ[j]? = some (some (.own ys)) → σ[j]? = some (some (.ref b)) → b ≠ p := fun {j ys b} q r z => by
    obtain ⟨b', ws, r1, r2, _⟩ := h.own j ys q
    rw [r] at r1
    cases r1
    rw [z, hp] at r2
    cases r2
  refine ⟨a.ext.trans e1, a.dr.newH a.ext.fh hp, ⟨by rw [List.length_set, List.length_set]; exact h.len, fun j e q => ?_, fun j ys q => ?_, fun j k xs' ys b q1 q2 r1 r2 => ?_⟩⟩
  · have hj : i ≠ j := fun z => by
      subst z
      have hi : i < ρ.length := by
        rw [← List.length_set]
        exact (List.getElem?_eq_some_iff.mp q).1
      rw [List.getElem?_set_self hi] at q
      cases q
    rw [List.getElem?_set_ne hj] at q
    obtain ⟨w, h1, h2⟩ := h.dat j e q
    exact ⟨w, by rw [List.getElem?_set_ne hj]; exact h1, h2⟩
  · by_cases hj : i = j
    · subst hj
      have hi : i < ρ.length := by
        rw [← List.length_set]
        exact (List.getElem?_eq_some_iff.mp q).1
      rw [List.getElem?_set_self hi] at q
      cases q
      exact ⟨p, vs, List.getElem?_set_self (by rw [h.len]; exact hi), upd_same, av, a.ext.fh.free hp, hp0, hdr⟩
    · rw [List.getElem?_set_ne hj] at q
      obtain ⟨b, ws, h1, h2, h3⟩ := h.own j ys q
      exact ⟨b, ws, by rw [List.getElem?_set_ne hj]; exact h1, by rw [upd_ne (other q h1)]; exact h2, h3⟩
  · by_cases h1 : i = j
    · by_cases h2 : i = k
      · rw [← h1, ← h2]
      · subst h1
        rw [List.getElem?_set_ne h2] at q2 r2
        have hi : i < ρ.length := by
          rw [← List.length_set]
          exact (List.getElem?_eq_some_iff.mp q1).1
        rw [List.getElem?_set_self (by rw [h.len]; exact hi)] at r1
        cases r1
        exact absurd rfl (other q2 r2)
    · rw [List.getElem?_set_ne h1] at q1 r1
      by_cases h2 : i = k
      · subst h2
        have hi : i < ρ.length := by
          rw [← List.length_set]
          exact (List.getElem?_eq_some_iff.mp q2).1
        rw [List.getElem?_set_self (by rw [h.len]; exact hi)] at r2
        cases r2
        exact absurd rfl (other q1 r1)
      · rw [List.getElem?_set_ne h2] at q2 r2
        exact h.apart j k xs' ys b q1 q2 r1 r2
/-- one's own list is changed -/
theorem SlAt.chg {K : PySem.W.Frag} {Z : Option Zt} {F0 H0 F H : Hp} {σ : L2.St} {ρ : Sls} {s : S} (a : At0 K Z F0 H0 F H σ ρ s) {i : Nat} {p : Addr} {vs : List V} {xs ys : List D} (q : ρ[i]? = some (some (.own ys))) (r : σ[i]? = some (some (.ref p))) (av : AtAll K F Z vs xs) :
    At0 K Z F0 H0 F (upd H p (.lst vs)) σ (ρ.set i (some (.own xs))) s := by
  have h := a.sl
  obtain ⟨p', ws, r1, r2, r3, r4, r5, r6⟩ := h.own i ys q
  rw [r] at r1
  cases r1
  have hi : i < ρ.length := (List.getElem?_eq_some_iff.mp q).1
  refine ⟨⟨a.ext.f, fun b o e => ?_, fun b o e => ?_, a.ext.n⟩, ?_, ⟨by rw [List.length_set]; exact h.len, fun j e z => ?_, fun j zs z => ?_, fun j k xs' ys' b q1 q2 s1 s2 => ?_⟩⟩
  · have : b ≠ p := fun z => by rw [z, r4] at e; cases e
    rw [upd_ne this]
    exact a.ext.fh b o e
  · have : b ≠ p := fun z => by rw [z, r5] at e; cases e
    rw [upd_ne this]
    exact a.ext.h b o e
  · have d := a.dr
    cases Z with
    | none => trivial
    | some z =>
      obtain ⟨d1, d2, d3, d4, d5⟩ := d
      refine ⟨d1, ?_, ?_, d4, d5⟩
      · rw [upd_ne fun e => r6 (.inl e.symm)]; exact d2
      · rw [upd_ne fun e => r6 (.inr e.symm)]; exact d3
  · have hj : i ≠ j := fun w => by
      subst w
      rw [List.getElem?_set_self hi] at z
      cases z
    rw [List.getElem?_set_ne hj] at z
    exact h.dat j e z
  · by_cases hj : i = j
    · subst hj
      rw [List.getElem?_set_self hi] at z
      cases z
      exact ⟨p, vs, r, upd_same, av, r4, r5, r6⟩
    · rw [List.getElem?_set_ne hj] at z
      obtain ⟨b, us, h1, h2, h3⟩ := h.own j zs z
      have : b ≠ p := fun w => hj (h.apart i j ys zs p q z r (by rw [← w]; exact h1))
      exact ⟨b, us, h1, by rw [upd_ne this]; exact h2, h3⟩
  · have sh : ∀ {j : Nat} {xs' : List D}, (ρ.set i (some (.own xs)))[j]? = some (some (.own xs')) → ∃ zs, ρ[j]? = some (some (.own zs)) := fun {j xs'} w => by
      by_cases hj : i = j
      · subst hj; exact ⟨ys, q⟩
      · rw [List.getElem?_set_ne hj] at w; exact ⟨_, w⟩
    obtain ⟨z1, w1⟩ := sh q1
    obtain ⟨z2, w2⟩ := sh q2
    exact h.apart j k z1 z2 b w1 w2 s1 s2
def runA (m : AM) (ρ : Sls) (s : S) : RE (List D) := m (dats ρ) s
theorem runA_read {K : PySem.W.Frag} {Z : Option Zt} {F0 H0 F H : Hp} {σ : L2.St} {ρ : Sls} {s : S} {m : AM} {Q : List V → Hp → Prop} (a : At0 K Z F0 H0 F H σ ρ s) (h : PostA K W Z F H σ (runA m ρ s) Q) : tA K W m σ H Q := ⟨F, Z, dats ρ, s, a.ext.fh, dats_at a.sl, a.dr, h⟩
/-- x = [..], a list of one's own -/
def sOwn (i : Nat) (m : AM) : SM := fun ρ s => after (runA m ρ s) ρ fun xs s' => if xs.length ≤ sizeLine then .nx (ρ.set i (some (.own xs))) s' else .bad
theorem ds_own {i : Nat} {x : Str} {es : List Expr} {ma : AM} {pos' p2 : Pos} (hN : X.N.Nodup) (hi : X.N[i]? = some x) (hx : Loc X.env.scope x) (he : PA X es (tA X.K W ma)) (hs : swapsWith (.List es p2) (some (.Name x pos')) pos.line X.env = pure false := by rfl) (hf : X.fn x = true ∨ X.env.scope.names.lookup x = some .local := by first | exact .inl rfl | exact .inr rfl | assumption) :
    PS X (.Assign [.Name x pos'] (.List es p2) pos) (tS X.K W (sOwn i ma)) := ps_weak (ps_set hN hi hx (pe_lst he) hs hf) fun D σ H ⟨F0, H0, Z, F, ρ, s, a, h⟩ =>
  runA_read a (after_post a h fun d s' F' H' vs a' _ av p => by
    split at p
    · rename_i hz
      exact ⟨by rw [av.length]; exact hz, fun q hq => post_nx p (SlAt.setO a' hq av)⟩
    · exact p.elim)
/-- x.append(e) -/
def sApp (i : Nat) (m : EM) : SM := fun ρ s => match ρ[i]? with
  | some (some (.own xs)) => after (runD m ρ s) ρ fun d s' => if xs.length < sizeLine then .nx (ρ.set i (some (.own (xs ++ [d])))) s' else .bad
  | _ => .bad
theorem ds_app {i : Nat} (h : PS X st (tDrop (tBM X.K "list" rAppend (tVar i) (tCons (tE X.K W me) tNil)))) : PS X st (tS X.K W (sApp i me)) := ps_weak h fun D σ H ⟨F0, H0, Z, F, ρ, s, a, h⟩ => by
  unfold sApp at h
  split at h
  · rename_i xs q
    obtain ⟨p, vs, r1, r2, _⟩ := a.sl.own i xs q
    refine ⟨_, r1, .inl ⟨rfl, vs, .of r2⟩, run_read a (after_post a h fun d s' F' H' v a' _ av p => ?_)⟩
    split at p
    · rename_i hz
      obtain ⟨p', vs', u1, u2, u3, _⟩ := a'.sl.own i xs q
      rw [r1] at u1
      cases u1
      exact ⟨_, vs', v, rfl, rfl, u2, by rw [u3.length]; exact hz, post_nx p (SlAt.chg a' q r1 (u3.append (.cons av .nil)))⟩
    · exact p.elim
  · exact h.elim
/-- x[e1] = e2 -/
def sSetI (i : Nat) (m1 m2 : EM) : SM := fun ρ s => match ρ[i]? with
  | some (some (.own xs)) => after (runD m2 ρ s) ρ fun d s' => after (runD m1 ρ s') ρ fun k s'' => match k with
    | .int n => match ixN xs.length n with
      | some j => .nx (ρ.set i (some (.own (xs.set j d)))) s''
      | none => .bad
    | _ => .bad
  | _ => .bad
theorem ds_setI {i : Nat} {m1 m2 : EM} (h : PS X st (tAsg (tE X.K W m2) (gSub (tVar i) (tE X.K W m1) rSetL))) : PS X st (tS X.K W (sSetI i m1 m2)) := ps_weak h fun D σ H ⟨F0, H0, Z, F, ρ, s, a, h⟩ => by
  unfold sSetI at h
  split at h
  · rename_i xs q
    refine run_read a (after_post a h fun d s' F' H' v a' _ av h => ?_)
    obtain ⟨p, vs, r1, r2, _⟩ := a'.sl.own i xs q
    refine ⟨_, r1, run_read a' (after_post a' h fun k s2 F2 H2 w a2 e2 aw h => ?_)⟩
    cases k with
    | int n =>
      cases at_int aw
      dsimp only at h
      split at h
      · rename_i j hj
        obtain ⟨p', vs', u1, u2, u3, _⟩ := a2.sl.own i xs q
        rw [r1] at u1
        cases u1
        exact ⟨_, vs', n, j, rfl, rfl, u2, by rw [u3.length]; exact hj, post_nx h (SlAt.chg a2 q r1 (u3.set j (av.mono e2.f)))⟩
      · exact h.elim
    | _ => exact h.elim
  · exact h.elim
/-- what was one's own is frozen from here on -/
def frz (i : Nat) (ρ : Sls) : Sls := match ρ[i]? with
  | some (some (.own xs)) => ρ.set i (some (.dat (.lst xs)))
  | _ => ρ
theorem At0.frz {K : PySem.W.Frag} {Z : Option Zt} {F0 H0 F H : Hp} {σ : L2.St} {ρ : Sls} {s : S} (a : At0 K Z F0 H0 F H σ ρ s) (i : Nat) : ∃ F', At0 K Z F0 H0 F' H σ (frz i ρ) s := by
  unfold FL.frz
  split
  · rename_i xs q
    obtain ⟨p, vs, r1, r2, r3, r4, r5, r6⟩ := a.sl.own i xs q
    have sF : Same F (upd F p (.lst vs)) := fun b o e => by
      rw [upd_ne fun z => by rw [z, r4] at e; cases e]; exact e
    have sH : Same (upd F p (.lst vs)) H := fun b o e => by
      by_cases z : b = p
      · subst z
        rw [upd_same] at e
        rw [r2]; exact e
      · rw [upd_ne z] at e
        exact a.ext.fh b o e
    have b : At0 K Z F0 H0 (upd F p (.lst vs)) H (σ.set i (some (.ref p))) (ρ.set i (some (.dat (.lst xs)))) s := by
      have hset : σ.set i (some (V.ref p)) = σ := by
        have hi : i < σ.length := (List.getElem?_eq_some_iff.mp r1).1
        apply List.ext_getElem?
        intro j
        by_cases z : i = j
        · subst z
          rw [List.getElem?_set_self hi, r1]
        · rw [List.getElem?_set_ne z]
      refine ⟨⟨a.ext.f.trans sF, sH, a.ext.h, fun b o e1 e2 => ?_⟩, ?_, ?_⟩
      · rw [upd_ne fun z => by rw [z, r5] at e2; cases e2]
        exact a.ext.n b o e1 e2
      · have d := a.dr
        cases Z with
        | none => trivial
        | some z =>
          obtain ⟨d1, d2, d3, d4, d5⟩ := d
          refine ⟨d1, d2, d3, ?_, ?_⟩
          · rw [upd_ne fun e => r6 (.inl e.symm)]; exact d4
          · rw [upd_ne fun e => r6 (.inr e.symm)]; exact d5
      · rw [hset]
        have hi : i < ρ.length := (List.getElem?_eq_some_iff.mp q).1
        have no : ∀ {j : Nat} {ys : List FL.D}, (ρ.set i (some (.dat (.lst xs))))[j]? = some (some (.own ys)) → i ≠ j ∧ ρ[j]? = some (some (.own ys)) := fun {j ys} w => by
          have hj : i ≠ j := fun z => by
            subst z
            rw [List.getElem?_set_self hi] at w
            cases w
          rw [List.getElem?_set_ne hj] at w
          exact ⟨hj, w⟩
        refine ⟨by rw [List.length_set]; exact a.sl.len, fun j e w => ?_, fun j ys w => ?_, fun j k xs' ys' b q1 q2 s1 s2 => ?_⟩
        · by_cases z : i = j
          · subst z
            rw [List.getElem?_set_self hi] at w
            cases w
            exact ⟨_, r1, .lst upd_same (r3.mono sF)⟩
          · rw [List.getElem?_set_ne z] at w
            obtain ⟨v, w1, w2⟩ := a.sl.dat j e w
            exact ⟨v, w1, w2.mono sF⟩
        · obtain ⟨hj, w⟩ := no w
          obtain ⟨b, us, h1, h2, h3, h4, h5, h6⟩ := a.sl.own j ys w
          have : b ≠ p := fun z => hj (a.sl.apart i j xs ys p q w r1 (by rw [← z]; exact h1))
          exact ⟨b, us, h1, h2, h3.mono sF, by rw [upd_ne this]; exact h4, h5, h6⟩
        · exact a.sl.apart j k xs' ys' b (no q1).2 (no q2).2 s1 s2
    have hset : σ.set i (some (V.ref p)) = σ := by
      have hi : i < σ.length := (List.getElem?_eq_some_iff.mp r1).1
      apply List.ext_getElem?
      intro j
      by_cases z : i = j
      · subst z
        rw [List.getElem?_set_self hi, r1]
      · rw [List.getElem?_set_ne z]
    rw [hset] at b
    exact ⟨_, b⟩
  · exact ⟨F, a⟩
theorem ds_frz (i : Nat) (h : PS X st (tS X.K W m)) : PS X st (tS X.K W fun ρ s => m (frz i ρ) s) := ps_weak h fun D σ H ⟨F0, H0, Z, F, ρ, s, a, h⟩ => by
  obtain ⟨F', b⟩ := a.frz i
  exact ⟨F0, H0, Z, F', frz i ρ, s, b, h⟩
end
end FL
set_option Elab.async false
set_option linter.all false
set_option maxRecDepth 100000
set_option maxHeartbeats 1000000
/-! ## FL, 5: what is walked: a list, a tuple, a text, a range; each with its number -/
namespace FL
open PySem PySem.Spec PyProof.Rows L2
/-! ### enumerate(tuple) -/
theorem enum_newT {v : Value} {o : Obj} {G : Heap → Prop} (B : Begins v o G) :
    Meets (Builtin.«enumerate.__new__» ⟨[.type "enumerate", v], []⟩) (fun _ R s => G s.heap ∧
      R (.ok (.ret (.ref (s.heap.push o).objs.size))) { s with heap := (s.heap.push o).push { cls := .type "enumerate", data := .fields #[.none, .bool false, .ref s.heap.objs.size, rawInt 0, .none, .none] } }) :=
  .of_wp fun prog w A R s h => by
    obtain ⟨hp, gg, dd, tk, oo⟩ := s
    obtain ⟨hG, h⟩ := h
    have hsub := sub_enumerate
    have go : ∀ {A' : Around} {E : Value → Shared → Prop} {Q : Value → Shared → Prop}, Q (.ref hp.objs.size) ⟨hp.push o, gg, dd, tk, oo⟩ → wpAny (model prog w) A' (pyIter v) Q E ⟨hp, gg, dd, tk, oo⟩ :=
      fun q => B.iter prog w _ _ ⟨hp, gg, dd, tk, oo⟩ _ hG q
    wp_walk using go
    refine wpAny_stack_any fun st => wpAny_pure ?_
    split
    · rename_i cc _ _ _ _ _
      cases (cc == Value.type "enumerate") <;> (wp_walk using go; exact ⟨_, rfl, h⟩)
    · wp_walk using go
      exact ⟨_, rfl, h⟩
theorem enum_callT {prog : Program} {w : World} {A : Around} {E : Value → Shared → Prop} {s : Shared} {v : Value} {o : Obj} {G : Heap → Prop} {Q : Value → Shared → Prop} (B : Begins v o G) (hG : G s.heap)
    (h : ∀ h2, IsEnum h2 (s.heap.objs.size + 1) s.heap.objs.size 0 .none → h2.get? s.heap.objs.size = some o → h2.objs.size = s.heap.objs.size + 2 →
      (∀ b ob, s.heap.get? b = some ob → h2.get? b = some ob) → Q (.ref (s.heap.objs.size + 1)) { s with heap := h2 }) :
    wpAny (model prog w) A (call (.type "enumerate") [v]) Q E s := by
  refine callType_new F.called_enumerate (by decide) (F.typeCall_enumerate_1 _) (F.newCall_enumerate_1 _) (fun ob => F.args_object_init_2 ob _) F.entry_enumerate_new (enum_newT B) ⟨hG, ?_⟩
  have hz : (s.heap.push o).objs.size = s.heap.objs.size + 1 := Heap.size_push ..
  show _ ∧ _
  rw [hz]
  have he : IsEnum ((s.heap.push o).push { cls := .type "enumerate", data := .fields #[.none, .bool false, .ref s.heap.objs.size, rawInt 0, .none, .none] }) (s.heap.objs.size + 1) s.heap.objs.size 0 .none := by
    have q := Heap.get?_push_size (s.heap.push o) (o := { cls := .type "enumerate", data := .fields #[.none, .bool false, .ref s.heap.objs.size, rawInt 0, .none, .none] }) rfl
    rw [hz] at q
    exact q
  exact ⟨⟨_, he, rfl⟩, h _ he (Heap.get?_push_of_some _ (Heap.get?_push_size _ B.free)) (by rw [Heap.size_push, hz]) fun b ob x => Heap.get?_push_of_some _ (Heap.get?_push_of_some _ x)⟩
/-- the tuple at a, each item in a new pair with its number -/
def ItET (K : PySem.W.Frag) (a : Addr) : It :=
  ⟨fun i H => ∃ (xs : List V) (x : V), SqT K H a xs ∧ xs[i]? = some x, fun i H v H' => ∃ T x, v = .ref T ∧ H T = none ∧ H' = upd H T (.tup [.int (i : Nat), x]) ∧ ∀ xs, SqT K H a xs → xs[i]? = some x, fun i H => ∃ xs : List V, SqT K H a xs ∧ xs.length = i⟩
theorem turn_enumT {P : Program} {w : World} {K : PySem.W.Frag} {elts : List Expr} {kk : Nat} {tpos : Pos} (a e it : Addr) :
    Turn P w K (.Tuple elts kk tpos) (ItET K a) [e, it] e (fun i h => (∃ old, IsEnum h e it ((i : Nat) : Int) old) ∧ h.IsTupleIter it a i ∧ e ≠ it) where
  mem := List.mem_cons_self
  obj := fun i h st b hb => by
    obtain ⟨⟨old, he⟩, ⟨ob, ho, _, hd⟩, _⟩ := st
    rcases List.mem_cons.mp hb with z | z
    · rw [z]; exact ⟨_, he, fun v q => nomatch q⟩
    · rw [List.mem_singleton.mp z]; exact ⟨ob, ho, fun v q => by rw [hd] at q; cases q⟩
  keep := fun i h h' st k => let ⟨⟨old, he⟩, hi, hne⟩ := st; ⟨⟨old, k e List.mem_cons_self _ he⟩, hi.at fun ob q => k it (List.mem_cons_of_mem _ List.mem_cons_self) ob q, hne⟩
  item := by
    intro X hP hw hK hc i pins s σ H E I hf st hg
    subst hP hw hK
    obtain ⟨⟨old, he⟩, hit, hne⟩ := st
    obtain ⟨xs, x, hq, hx⟩ := hg
    obtain ⟨its, rv, p, hz⟩ := I.tuple hq
    obtain ⟨u, hu, ru⟩ := rv.get hx
    have hel : e < s.heap.objs.size := Heap.lt_size he
    have hil : it < s.heap.objs.size := by obtain ⟨_, q, _⟩ := hit; exact Heap.lt_size q
    obtain ⟨oa, ha1, ha2, na, ha3⟩ := id p
    have hai : a ≠ it := fun z => by
      obtain ⟨ob, ho, hcc, _⟩ := id hit
      rw [z, ho] at ha1
      cases ha1
      rw [hcc] at ha2
      injection ha2 with z2
      exact absurd z2 (by decide)
    have hea : e ≠ a := fun z => by
      rw [← z, he] at ha1
      cases ha1
      injection ha2 with z2
      exact absurd z2 (by decide)
    have hlt : i < its.toArray.size := by
      rw [List.size_toArray]
      exact (List.getElem?_eq_some_iff.mp hu).1
    refine wpAny_pyNext_enum_itemD (Draws.tuple (show X.A.in1.handled = none from I.ok.hd hc) it a hai its.toArray) he ⟨hit, p⟩ hlt hne (by simp [hne, hea]) fun y h2 tk hy ho st2 hT hsz hk => ?_
    have ey : y = u := by
      have q : its[i]? = some y := by simpa using hy
      rw [hu] at q
      exact (Option.some.inj q).symm
    subst ey
    refine ⟨_, rfl, wpAny_letOwnedTupleGo_enum (s := { s with heap := h2, toks := tk + 1 }) ho fun h3 he3 sb => ?_⟩
    have hT2 : h3.get? s.heap.objs.size = some { cls := .type "tuple", data := .seq #[.int i tk, y] } := (sb.2 _ (Nat.ne_of_gt hel)).trans hT
    have new : ObjOk X.prog X.w (upd H s.heap.objs.size (.tup [.int (i : Nat), x])) h3 s.heap.objs.size (.tup [.int (i : Nat), x]) := by
      refine ⟨?_, [.int i tk, y], .cons ⟨_, rfl⟩ (.cons ru .nil), ⟨_, hT2, rfl, _, rfl⟩⟩
      show 2 ≤ sizeLine
      decide
    have I1 : Inv X pins σ (upd H s.heap.objs.size (.tup [.int (i : Nat), x])) { s with heap := h3, toks := tk + 1 } :=
      I.turnedNew (ch := [e, it]) (fun b ob hb q => (sb.2 b fun z => hb (by rw [z]; exact List.mem_cons_self)).trans (hk b ob (fun z => hb (by rw [z]; exact List.mem_cons_self)) (fun z => hb (by rw [z]; exact List.mem_cons_of_mem _ List.mem_cons_self)) q)) hf (Nat.le_refl _) new
    refine ⟨.ref s.heap.objs.size, _, I1, rfl, ⟨_, x, rfl, I.hok.fresh (Nat.le_refl _), rfl, fun ys hy => by rw [I.tuple_inj hy hq]; exact hx⟩, ⟨⟨y, ?_⟩, st2.1.at fun ob q => (sb.2 it (Ne.symm hne)).trans q, hne⟩, fun b hb => ?_⟩
    · have e1 : ((i + 1 : Nat) : Int) = (i : Int) + 1 := by omega
      rw [e1]
      exact he3
    · have hb2 : b ≠ s.heap.objs.size := by
        rcases List.mem_cons.mp hb with z | z
        · rw [z]; exact Nat.ne_of_lt hel
        · rw [List.mem_singleton.mp z]; exact Nat.ne_of_lt hil
      rw [upd_ne hb2]
      exact (hf b hb).1
  done := by
    intro X hP hw hK hc i pins s σ H E I hf st hg
    subst hP hw hK
    obtain ⟨⟨old, he⟩, hit, hne⟩ := st
    obtain ⟨xs, hq, hx⟩ := hg
    obtain ⟨its, rv, p, hz⟩ := I.tuple hq
    obtain ⟨f0, f1, f2, f3, f4, f5⟩ := hf it (List.mem_cons_of_mem _ List.mem_cons_self)
    have hl : its.toArray.size = i := by rw [List.size_toArray, ← rv.length]; exact hx
    obtain ⟨oa, ha1, ha2, na, ha3⟩ := id p
    have hai : a ≠ it := fun z => by
      obtain ⟨ob, ho, hcc, _⟩ := id hit
      rw [z, ho] at ha1
      cases ha1
      rw [hcc] at ha2
      injection ha2 with z2
      exact absurd z2 (by decide)
    exact wpAny_pyNext_enum_endD (Draws.tuple (show X.A.in1.handled = none from I.ok.hd hc) it a hai its.toArray) he (by rw [hl]; exact ⟨hit, p⟩) fun h2 eb => ⟨rfl, I.turned (t' := s.toks) (fun b ob hb q => eb b ob hb q) f0 f1 f3 f4 f5⟩
  self := fun A i s Q E st h => let ⟨⟨_, he⟩, _⟩ := st; wpAny_pyIter_enum he h
/-- enumerate(x), x a list or a tuple -/
def rIE (K : PySem.W.Frag) (x : V) (H : Hp) (R : It → Hp → Prop) : Prop := (∃ a xs, x = .ref a ∧ SqL K H a xs ∧ R (Ite K a) H) ∨ ∃ a xs, x = .ref a ∧ SqT K H a xs ∧ R (ItET K a) H
theorem pi_enumG {X : Cx} {e : Expr} {te : TE} {p pos tpos : Pos} {elts : List Expr} {kk : Nat} (hg : Gl X "enumerate") (hm : X.mg "enumerate" = none) (he : PE X e te) (hs : starEach [e] X.env = [(false, eval e X.env)] := by rfl) :
    PI X (.Tuple elts kk tpos) (.Call (.Name "enumerate" p) [e] [] pos) (fun σ H R => te σ H fun x H1 => rIE X.K x H1 R) := by
  refine ⟨fun pins s σ H R I h => ?_⟩
  refine Call_ (ld_blt I hg hm boot_enumerate (PyProof.Rows.callWith_type1 (thn ((pa_cons he pa_nil hs).run pos pins s σ H (fun vs H1 => ∃ x, vs = [x] ∧ rIE X.K x H1 R) I ?_) fun us s1 ⟨vs, H1, I1, r1, x, ex, q1⟩ => ?_) hs rfl))
  · have wk : ∀ (Q Q' : VK), te σ H Q → (∀ v H, Q v H → Q' v H) → tCons te tNil σ H (fun vs H1 => ∃ x, vs = [x] ∧ rIE X.K x H1 R) → tCons te tNil σ H (fun vs H1 => ∃ x, vs = [x] ∧ rIE X.K x H1 R) := fun _ _ _ _ z => z
    show te σ H fun x H1 => ∃ y, [x] = [y] ∧ rIE X.K y H1 R
    have e2 : (fun x H1 => ∃ y, [x] = [y] ∧ rIE X.K y H1 R) = fun x H1 => rIE X.K x H1 R := by
      funext x H1
      exact propext ⟨fun ⟨y, q, z⟩ => by cases q; exact z, fun z => ⟨x, rfl, z⟩⟩
    rw [e2]
    exact h
  · subst ex
    have pick : ∀ {fpv : List Addr} {b : Addr}, b ∈ ([s1.heap.objs.size + 1, s1.heap.objs.size] : List Addr) → FpOk X pins H1 b := fun {_ b} hb => by
      have hle : s1.heap.objs.size ≤ b := by
        rcases List.mem_cons.mp hb with z | z
        · rw [z]; exact Nat.le_add_right _ _
        · rw [List.mem_singleton.mp z]; exact Nat.le_refl _
      exact I1.fpOk hle (I1.hok.fresh hle)
    cases r1 with
    | cons r rr =>
      cases rr
      rcases q1 with ⟨a, xs, rfl, hq, q⟩ | ⟨a, xs, rfl, hq, q⟩
      · cases r
        obtain ⟨its, rv, p2, hz⟩ := I1.list hq
        refine call_enumerate_list p2.isList fun h2 he2 hit hsz hk => wpAny_pyIter_enum he2 ?_
        exact ⟨s1.heap.objs.size + 1, [s1.heap.objs.size + 1, s1.heap.objs.size], _, _, H1, rfl, I1.kept (t' := s1.toks) hk, turn_enum a (s1.heap.objs.size + 1) s1.heap.objs.size, ⟨⟨.none, he2⟩, hit, Nat.succ_ne_self _⟩, fun b hb => pick (fpv := []) hb, q⟩
      · cases r
        obtain ⟨its, rv, p2, hz⟩ := I1.tuple hq
        refine enum_callT (begins_tuple a its.toArray) p2 fun h2 he2 hit hsz hk => wpAny_pyIter_enum he2 ?_
        exact ⟨s1.heap.objs.size + 1, [s1.heap.objs.size + 1, s1.heap.objs.size], _, _, H1, rfl, I1.kept (t' := s1.toks) hk, turn_enumT a (s1.heap.objs.size + 1) s1.heap.objs.size, ⟨⟨.none, he2⟩, ⟨_, hit, rfl, rfl⟩, Nat.succ_ne_self _⟩, fun b hb => pick (fpv := []) hb, q⟩
/-- x itself, a list, a tuple or a text -/
def rIA (K : PySem.W.Frag) (x : V) (H : Hp) (R : It → Hp → Prop) : Prop := (∃ a xs, x = .ref a ∧ SqL K H a xs ∧ R (Itl K a) H) ∨ (∃ a xs, x = .ref a ∧ SqT K H a xs ∧ R (Itt K a) H) ∨ ∃ z, x = .str z ∧ R (Its z) H
theorem pi_any {X : Cx} {tg e : Expr} {te : TE} (he : PE X e te) : PI X tg e (fun σ H R => te σ H fun x H1 => rIA X.K x H1 R) := by
  refine ⟨fun pins s σ H R I h => ?_⟩
  refine thn (he.run pins s σ H _ I h) fun v s1 ⟨x, H1, I1, r1, q1⟩ => ?_
  -- the value is there: each kind by the library's own rule, over an expression that gives just it
  rcases q1 with ⟨a, xs, rfl, hq, q⟩ | ⟨a, xs, rfl, hq, q⟩ | ⟨z, rfl, q⟩
  · cases r1
    obtain ⟨its, rv, p2, hz⟩ := I1.list hq
    refine wpAny_pyIter_list p2.isList ⟨s1.heap.objs.size, [s1.heap.objs.size], _, _, H1, rfl, I1.kept (t' := s1.toks) fun b ob y => Heap.get?_push_of_some _ y, turn_list a _, ⟨_, Heap.get?_push_size _ rfl, rfl, rfl⟩, fun b hb => ?_, q⟩
    rw [List.mem_singleton.mp hb]
    exact I1.fpOk (Nat.le_refl _) (I1.hok.fresh (Nat.le_refl _))
  · cases r1
    obtain ⟨its, rv, p2, hz⟩ := I1.tuple hq
    refine wpAny_pyIter_tuple (show s1.heap.IsTuple a its.toArray from p2) ⟨s1.heap.objs.size, [s1.heap.objs.size], _, _, H1, rfl, I1.kept (t' := s1.toks) fun b ob y => Heap.get?_push_of_some _ y, turn_tuple a _, ⟨_, Heap.get?_push_size _ rfl, rfl, rfl⟩, fun b hb => ?_, q⟩
    rw [List.mem_singleton.mp hb]
    exact I1.fpOk (Nat.le_refl _) (I1.hok.fresh (Nat.le_refl _))
  · obtain ⟨t, rfl⟩ := r1
    have hb : ∀ b ∈ ([s1.heap.objs.size] : List Addr), FpOk X pins H1 b := fun b hb => by
      rw [List.mem_singleton.mp hb]
      exact I1.fpOk (Nat.le_refl _) (I1.hok.fresh (Nat.le_refl _))
    cases ha : z.cps.all (· < 128)
    · refine wpAny_pyIter_wide ha ⟨s1.heap.objs.size, [s1.heap.objs.size], _, _, H1, rfl, I1.kept (t' := s1.toks) fun b ob y => Heap.get?_push_of_some _ y, turn_str _ z t "str_iterator" (.inr rfl), ⟨_, Heap.get?_push_size _ rfl, rfl, rfl⟩, hb, q⟩
    · refine wpAny_pyIter_ascii ha ⟨s1.heap.objs.size, [s1.heap.objs.size], _, _, H1, rfl, I1.kept (t' := s1.toks) fun b ob y => Heap.get?_push_of_some _ y, turn_str _ z t "str_ascii_iterator" (.inl rfl), ⟨_, Heap.get?_push_size _ rfl, rfl, rfl⟩, hb, q⟩
/-! ### by content -/
/-- what J gives at turn i: the i-th of ds -/
def YD (K : PySem.W.Frag) (Z : Option Zt) (F : Hp) (ds : List D) : Nat → Hp → V → Hp → Prop := fun i H x H' => ∃ d, ds[i]? = some d ∧
  ((H' = H ∧ At K F Z x d) ∨ ∃ (T : Addr) (a b : D) (va vb : V), x = .ref T ∧ H T = none ∧ H' = upd H T (.tup [va, vb]) ∧ d = .tup [a, b] ∧ At K F Z va a ∧ At K F Z vb b)
def ItOk (K : PySem.W.Frag) (Z : Option Zt) (F : Hp) (J : It) (ds : List D) : Prop := Walk J ds.length (fun H => Same F H) (YD K Z F ds)
def tI (K : PySem.W.Frag) (W : WX) (m : AM) : TI := fun σ H R => ∃ F Z ρ s, Same F H ∧ EnvAt K F Z σ ρ ∧ DrAt Z F H s ∧ Post (α := List D) (β := It) (fun K F Z J ds => ItOk K Z F J ds) K W Z F H σ (m ρ s) R
theorem pi_weak {X : Cx} {tg e : Expr} {t t' : TI} (h : PI X tg e t) (k : ∀ σ H R, t' σ H R → t σ H R) : PI X tg e t' := ⟨fun pins s σ H Q I q => h.run pins s σ H Q I (k σ H Q q)⟩
/-- the things that are walked -/
def itemsF : D → Option (List D)
  | .lst xs => some xs
  | .tup xs => some xs
  | .str z => some (z.cps.toList.map fun c => .str ⟨#[c]⟩)
  | _ => none
def numd (xs : List D) : List D := xs.zipIdx.map fun p => .tup [.int (p.2 : Nat), p.1]
def numdF : D → Option (List D)
  | .lst xs => some (numd xs)
  | .tup xs => some (numd xs)
  | _ => none
def iOf (f : D → Option (List D)) (m : EM) : AM := fun ρ s => (m ρ s).bind fun d s1 => lift (f d) s1
section
variable {K : PySem.W.Frag} {Z : Option Zt} {F : Hp}
theorem it_list {a : Addr} {vs : List V} {ds : List D} (h : F a = some (.lst vs)) (k : AtAll K F Z vs ds) : ItOk K Z F (Itl K a) ds := by
  have w : Walk (Itl K a) vs.length (fun H => SqL K H a vs) (YAt vs) := walk_list
  unfold ItOk
  rw [← k.length]
  refine w.mono (fun H e => .of (e _ _ h)) fun i H x H' hi e y => ?_
  obtain ⟨d, hd, ad⟩ := k.getV y.2
  exact ⟨d, hd, .inl ⟨y.1, ad⟩⟩
theorem it_tup {a : Addr} {vs : List V} {ds : List D} (h : F a = some (.tup vs)) (k : AtAll K F Z vs ds) : ItOk K Z F (Itt K a) ds := by
  have w : Walk (Itt K a) vs.length (fun H => SqT K H a vs) (YAt vs) := walk_tup
  unfold ItOk
  rw [← k.length]
  refine w.mono (fun H e => .of (e _ _ h)) fun i H x H' hi e y => ?_
  obtain ⟨d, hd, ad⟩ := k.getV y.2
  exact ⟨d, hd, .inl ⟨y.1, ad⟩⟩
theorem it_str {z : Str} : ItOk K Z F (Its z) (z.cps.toList.map fun c => .str ⟨#[c]⟩) := by
  have w : Walk (Its z) z.cps.size (fun _ => True) _ := walk_str
  unfold ItOk
  rw [List.length_map, Array.length_toList]
  refine w.mono (fun H e => trivial) fun i H x H' hi e y => ?_
  obtain ⟨y1, c, hc, rfl⟩ := y
  exact ⟨_, by rw [List.getElem?_map, Array.getElem?_toList, hc]; rfl, .inl ⟨y1, .str _⟩⟩
theorem numd_length (xs : List D) : (numd xs).length = xs.length := by unfold numd; rw [List.length_map, List.length_zipIdx]
theorem numd_get {xs : List D} {i : Nat} {d : D} (h : xs[i]? = some d) : (numd xs)[i]? = some (.tup [.int (i : Nat), d]) := by
  unfold numd
  rw [List.getElem?_map, List.getElem?_zipIdx, h]
  simp
theorem it_enumL {a : Addr} {vs : List V} {ds : List D} (h : F a = some (.lst vs)) (k : AtAll K F Z vs ds) : ItOk K Z F (Ite K a) (numd ds) := by
  have w : Walk (Ite K a) vs.length (fun H => SqL K H a vs) (YPair (fun i => some (.int (i : Nat))) (fun i => vs[i]?)) := walk_enum
  unfold ItOk
  rw [numd_length, ← k.length]
  refine w.mono (fun H e => .of (e _ _ h)) fun i H x H' hi e y => ?_
  obtain ⟨T, p, q, e1, e2, e3, e4, e5⟩ := y
  cases e4
  obtain ⟨d, hd, ad⟩ := k.getV e5
  exact ⟨_, numd_get hd, .inr ⟨T, _, _, _, _, e1, e2, e3, rfl, .int _, ad⟩⟩
theorem it_enumT {a : Addr} {vs : List V} {ds : List D} (h : F a = some (.tup vs)) (k : AtAll K F Z vs ds) : ItOk K Z F (ItET K a) (numd ds) := by
  refine ⟨fun i H hi e => ?_, fun H e => ?_, fun i H x H' hi e y => ?_⟩
  · rw [numd_length, ← k.length] at hi
    exact ⟨vs, vs[i], .of (e _ _ h), by rw [List.getElem?_eq_getElem hi]⟩
  · exact ⟨vs, .of (e _ _ h), by rw [numd_length, ← k.length]⟩
  · obtain ⟨T, q, e1, e2, e3, e4⟩ := y
    obtain ⟨d, hd, ad⟩ := k.getV (e4 vs (.of (e _ _ h)))
    exact ⟨_, numd_get hd, .inr ⟨T, _, _, _, _, e1, e2, e3, rfl, .int _, ad⟩⟩
def rangeD (lo : Int) (n : Nat) : List D := (List.range n).map fun i => .int (lo + (i : Nat))
theorem it_range {lo : Int} {n : Nat} : ItOk K Z F (Itr lo n) (rangeD lo n) := by
  have w : Walk (Itr lo n) n (fun _ => True) (YFn fun i => .int (lo + i)) := walk_range
  unfold ItOk rangeD
  rw [List.length_map, List.length_range]
  refine w.mono (fun H e => trivial) fun i H x H' hi e y => ?_
  obtain ⟨y1, rfl⟩ := y
  exact ⟨_, by rw [List.getElem?_map, List.getElem?_range hi]; rfl, .inl ⟨y1, .int _⟩⟩
end
section
variable {X : Cx} {W : WX} {tg e : Expr} {me : EM}
theorem di_any (he : PE X e (tE X.K W me)) : PI X tg e (tI X.K W (iOf itemsF me)) := pi_weak (pi_any he) fun σ H R ⟨F, Z, ρ, s, hs, he, hd, h⟩ => by
  refine tE_then hs he hd h fun x s1 F1 H1 v1 e1 he1 hd1 a1 h => ?_
  obtain ⟨g, hg, k⟩ := post_now h
  cases a1 with
  | lst h1 k1 => cases hg; exact .inl ⟨_, _, rfl, .of (e1.fh _ _ h1), k F1 H1 _ (Ext.refl e1.fh) hd1 (it_list h1 k1)⟩
  | tup h1 k1 => cases hg; exact .inr (.inl ⟨_, _, rfl, .of (e1.fh _ _ h1), k F1 H1 _ (Ext.refl e1.fh) hd1 (it_tup h1 k1)⟩)
  | str z => cases hg; exact .inr (.inr ⟨_, rfl, k F1 H1 _ (Ext.refl e1.fh) hd1 it_str⟩)
  | _ => cases hg
theorem di_enum {p pos tpos : Pos} {elts : List Expr} {kk : Nat} (hg : Gl X "enumerate") (hm : X.mg "enumerate" = none) (he : PE X e (tE X.K W me)) (hs : starEach [e] X.env = [(false, eval e X.env)] := by rfl) :
    PI X (.Tuple elts kk tpos) (.Call (.Name "enumerate" p) [e] [] pos) (tI X.K W (iOf numdF me)) := pi_weak (pi_enumG hg hm he hs) fun σ H R ⟨F, Z, ρ, s, hs, he, hd, h⟩ => by
  refine tE_then hs he hd h fun x s1 F1 H1 v1 e1 he1 hd1 a1 h => ?_
  obtain ⟨g, hg, k⟩ := post_now h
  cases a1 with
  | lst h1 k1 => cases hg; exact .inl ⟨_, _, rfl, .of (e1.fh _ _ h1), k F1 H1 _ (Ext.refl e1.fh) hd1 (it_enumL h1 k1)⟩
  | tup h1 k1 => cases hg; exact .inr ⟨_, _, rfl, .of (e1.fh _ _ h1), k F1 H1 _ (Ext.refl e1.fh) hd1 (it_enumT h1 k1)⟩
  | _ => cases hg
def rng1F : List D → Option (List D)
  | [.int j] => if -(2 ^ 62) ≤ j ∧ j < 2 ^ 62 then some (rangeD 0 j.toNat) else none
  | _ => none
def rng2F : List D → Option (List D)
  | [.int i, .int j] => if -(2 ^ 62) ≤ i ∧ i < 2 ^ 62 ∧ -(2 ^ 62) ≤ j ∧ j < 2 ^ 62 then some (rangeD i (j - i).toNat) else none
  | _ => none
def iOfA (f : List D → Option (List D)) (m : AM) : AM := fun ρ s => (m ρ s).bind fun d s1 => lift (f d) s1
theorem di_rng1 {a : Expr} {ma : AM} {p pos : Pos} (hg : Gl X "range") (hm : X.mg "range" = none) (ha : PA X [a] (tA X.K W ma)) (hs : starEach [a] X.env = [(false, eval a X.env)] := by rfl) : PI X tg (.Call (.Name "range" p) [a] [] pos) (tI X.K W (iOfA rng1F ma)) :=
  pi_weak (pi_range1 hg hm ha hs) fun σ H R ⟨F, Z, ρ, s, hs, he, hd, h⟩ => by
  refine tA_then hs he hd h fun x s1 F1 H1 v1 e1 he1 hd1 a1 h => ?_
  obtain ⟨g, hg, k⟩ := post_now h
  unfold rng1F at hg
  split at hg
  · split at hg
    · rename_i hz
      cases hg
      obtain ⟨w, rfl, aw⟩ := one_inv a1
      cases aw
      exact ⟨_, rfl, hz.1, hz.2, k F1 H1 _ (Ext.refl e1.fh) hd1 it_range⟩
    · cases hg
  · cases hg
theorem di_rng2 {a b : Expr} {ma : AM} {p pos : Pos} (hg : Gl X "range") (hm : X.mg "range" = none) (ha : PA X [a, b] (tA X.K W ma)) (hs : starEach [a, b] X.env = [(false, eval a X.env), (false, eval b X.env)] := by rfl) (hs2 : starEach [b] X.env = [(false, eval b X.env)] := by rfl) :
    PI X tg (.Call (.Name "range" p) [a, b] [] pos) (tI X.K W (iOfA rng2F ma)) := pi_weak (pi_range2 hg hm ha hs hs2) fun σ H R ⟨F, Z, ρ, s, hs, he, hd, h⟩ => by
  refine tA_then hs he hd h fun x s1 F1 H1 v1 e1 he1 hd1 a1 h => ?_
  obtain ⟨g, hg, k⟩ := post_now h
  unfold rng2F at hg
  split at hg
  · split at hg
    · rename_i hz
      cases hg
      obtain ⟨w, u, rfl, aw, au⟩ := two_inv a1
      cases aw
      cases au
      exact ⟨_, _, rfl, hz, k F1 H1 _ (Ext.refl e1.fh) hd1 it_range⟩
    · cases hg
  · cases hg
end
end FL
set_option Elab.async false
set_option linter.all false
set_option maxRecDepth 100000
set_option maxHeartbeats 1000000
/-! ## FL, 6: for, comprehensions, defs and their calls -/
namespace FL
open PySem PySem.Spec PyProof.Rows L2

/-! ### targets -/
def TgD (K : PySem.W.Frag) (g : TG) (bnd : D → Sls → Option Sls) : Prop := ∀ (Z : Option Zt) (F0 H0 F H : Hp) (σ : L2.St) (ρ ρ' : Sls) (s : S) (v : V) (d : D) (Q : L2.St → Hp → Prop),
  At0 K Z F0 H0 F H σ ρ s → At K F Z v d → bnd d ρ = some ρ' → (∀ σ', At0 K Z F0 H0 F H σ' ρ' s → Q σ' H) → g v σ H Q
def b1 (i : Nat) : D → Sls → Option Sls := fun d ρ => some (ρ.set i (some (.dat d)))
theorem tgd_name {K : PySem.W.Frag} (i : Nat) : TgD K (gName i) (b1 i) := fun Z F0 H0 F H σ ρ ρ' s v d Q a av e k => by
  cases e
  exact k _ (a.setD av)
def bs : List Nat → List D → Sls → Option Sls
  | [], [], ρ => some ρ
  | i :: is, d :: ds, ρ => bs is ds (ρ.set i (some (.dat d)))
  | _, _, _ => none
def gs : List Nat → TGs
  | [] => gNil
  | i :: is => gCons (gName i) (gs is)
theorem gs_run {K : PySem.W.Frag} {Z : Option Zt} {F0 H0 F H : Hp} {s : S} {Q : L2.St → Hp → Prop} : ∀ {is : List Nat} {ds : List D} {vs : List V} {σ : L2.St} {ρ ρ' : Sls}, At0 K Z F0 H0 F H σ ρ s → AtAll K F Z vs ds → bs is ds ρ = some ρ' →
    (∀ σ', At0 K Z F0 H0 F H σ' ρ' s → Q σ' H) → gs is vs σ H Q
  | [], [], vs, σ, ρ, ρ', a, av, e, k => by
    cases av
    cases e
    exact ⟨rfl, k _ a⟩
  | i :: is, d :: ds, vs, σ, ρ, ρ', a, av, e, k => by
    cases av with
    | cons h t => exact ⟨_, _, rfl, gs_run (a.setD h) t e k⟩
  | [], _ :: _, _, _, _, _, _, _, e, _ => by cases e
  | _ :: _, [], _, _, _, _, _, _, e, _ => by cases e
theorem bs_len : ∀ {is : List Nat} {ds : List D} {ρ ρ' : Sls}, bs is ds ρ = some ρ' → ds.length = is.length
  | [], [], _, _, _ => rfl
  | _ :: _, _ :: _, _, _, e => congrArg (· + 1) (bs_len e)
  | [], _ :: _, _, _, e => by cases e
  | _ :: _, [], _, _, e => by cases e
def bT (is : List Nat) : D → Sls → Option Sls := fun d ρ => match d with
  | .tup ds => bs is ds ρ
  | _ => none
theorem tgd_tup {K : PySem.W.Frag} (is : List Nat) : TgD K (gTup K is.length (gs is)) (bT is) := fun Z F0 H0 F H σ ρ ρ' s v d Q a av e k => by
  cases d with
  | tup ds =>
    have e : bs is ds ρ = some ρ' := e
    cases av with
    | tup h1 k1 => exact ⟨_, _, rfl, .of (a.ext.fh _ _ h1), by rw [k1.length, bs_len e], gs_run a k1 e k⟩
  | _ => cases e

/-! ### for -/
def forL (bnd : D → Sls → Option Sls) (body : SM) : List D → Sls → S → RS
  | [], ρ, s => .nx ρ s
  | d :: ds, ρ, s => match bnd d ρ with
    | none => .bad
    | some ρ1 => match body ρ1 s with
      | .nx ρ2 s2 => forL bnd body ds ρ2 s2
      | .ct ρ2 s2 => forL bnd body ds ρ2 s2
      | .bk ρ2 s2 => .nx ρ2 s2
      | .rt d s2 => .rt d s2
      | .ex C fs ρ2 s2 => .ex C fs ρ2 s2
      | .bad => .bad
def sFor (bnd : D → Sls → Option Sls) (mi : AM) (body : SM) : SM := fun ρ s => after (runA mi ρ s) ρ fun ds s' => forL bnd body ds ρ s'
/-- what the walk gives is frozen as it comes -/
theorem yd_step {K : PySem.W.Frag} {Z : Option Zt} {F0 F H H' : Hp} {ds : List D} {i : Nat} {x : V} (h0 : Same F0 F) (hs : Same F H) (y : YD K Z F0 ds i H x H') : ∃ d F', ds[i]? = some d ∧ Ext Z F H F' H' ∧ At K F' Z x d ∧ ∀ a o, H a = some o → H' a = some o := by
  obtain ⟨d, hd, ⟨rfl, a⟩ | ⟨T, p, q, va, vb, rfl, hT, rfl, rfl, a1, a2⟩⟩ := y
  · exact ⟨d, F, hd, Ext.refl hs, a.mono h0, fun _ _ e => e⟩
  · refine ⟨_, upd F T (.tup [va, vb]), hd, Ext.new hs hT, .tup upd_same ?_, fun a o e => by rw [upd_ne (ne_of_none e hT)]; exact e⟩
    have m : Same F0 (upd F T (.tup [va, vb])) := h0.trans fun a o e => by rw [upd_ne (ne_of_none e (hs.free hT))]; exact e
    exact .cons (a1.mono m) (.cons (a2.mono m) .nil)
section
variable {K : PySem.W.Frag} {W : WX} {Z : Option Zt} {F0 H0 F1 H1 F H : Hp} {σ : L2.St} {ρ : Sls} {s : S}
/-- from a later moment on -/
theorem Ext.base (a : Ext Z F0 H0 F1 H1) (b : Ext Z F1 H0 F H) : Ext Z F0 H0 F H := ⟨a.f.trans b.f, b.fh, b.h, fun c o e1 e2 => b.n c o (a.n c o e1 e2) e2⟩
theorem At0.now (a : At0 K Z F0 H0 F H σ ρ s) : At0 K Z F H0 F H σ ρ s := ⟨⟨Same.refl F, a.ext.fh, a.ext.h, fun _ _ e _ => e⟩, a.dr, a.sl⟩
theorem post_base {D : Ends} {r : RS} (a : Ext Z F0 H0 F1 H1) (h : PostS K W Z F0 H0 D r) : PostS K W Z F1 H0 D r := by
  cases r with
  | nx ρ s => exact fun F H σ e => h F H σ (a.base e)
  | bk ρ s => exact fun F H σ e => h F H σ (a.base e)
  | ct ρ s => exact fun F H σ e => h F H σ (a.base e)
  | rt d s => exact fun F H v e => h F H v (a.base e)
  | ex C fs ρ s => exact fun F H σ dd e => h F H σ dd (a.base e)
  | bad => exact h
end
section
variable {X : Cx} {W : WX}
theorem ds_for {tg iter : Expr} {body : List Stmt} {mi : AM} {g : TG} {bnd : D → Sls → Option Sls} {mb : SM} {pos : Pos} (hp : PassesOwn (model X.prog X.w) X.A X.env X.xe) (hc : X.calm = true) (hi : PI X tg iter (tI X.K W mi)) (hg : PG X tg g) (hgd : TgD X.K g bnd) (hb : PSs X body (tS X.K W mb))
    (hs : ∀ x, foldedSetIterable iter X.env x = pure x := by intro _; rfl) : PS X (.For tg iter body [] pos) (tS X.K W (sFor bnd mi mb)) := ps_weak (ps_for hp hc hi hg hb hs) fun D σ H ⟨F0, H0, Z, F, ρ, s, a, h⟩ => by
  refine ⟨F, Z, dats ρ, s, a.ext.fh, dats_at a.sl, a.dr, after_post a h fun ds s' F' H' J a' _ w p => ?_⟩
  have w : Walk J ds.length (fun H => Same F' H) (YD X.K Z F' ds) := w
  refine for_it w (fun i σ H => ∃ F ρ s, At0 X.K Z F' H0 F H σ ρ s ∧ PostS X.K W Z F' H0 D (forL bnd mb (ds.drop i) ρ s)) ⟨F', ρ, s', a'.now, post_base a'.ext p⟩ (fun i σ H _ ⟨F, _, _, b, _⟩ => b.ext.f.trans b.ext.fh) ?_ ?_
  · rintro i x σ1 H1 H2 hi ⟨F1, ρ1, s1, b, p⟩ y
    obtain ⟨d, F2, hd, ex, ad, keep⟩ := yd_step b.ext.f b.ext.fh y
    have hdrop : ds.drop i = d :: ds.drop (i + 1) := by
      rw [List.drop_eq_getElem_cons hi]
      rw [List.getElem?_eq_getElem hi] at hd
      cases hd
      rfl
    rw [hdrop] at p
    unfold forL at p
    have b2 := b.go ex (b.dr.keep ex keep)
    cases q : bnd d ρ1 with
    | none => rw [q] at p; exact p.elim
    | some ρ2 =>
      rw [q] at p
      dsimp only at p
      refine hgd Z F' H0 F2 H2 σ1 ρ1 ρ2 s1 x d _ b2 ad q fun σ2 b3 => ?_
      refine ⟨F', H0, Z, F2, ρ2, s1, b3, ?_⟩
      cases r : mb ρ2 s1 with
      | nx ρ3 s3 => rw [r] at p; exact fun F3 H3 σ3 e3 d3 l3 => ⟨F3, ρ3, s3, ⟨e3, d3, l3⟩, p⟩
      | ct ρ3 s3 => rw [r] at p; exact fun F3 H3 σ3 e3 d3 l3 => ⟨F3, ρ3, s3, ⟨e3, d3, l3⟩, p⟩
      | bk ρ3 s3 => rw [r] at p; exact p
      | rt d3 s3 => rw [r] at p; exact p
      | ex C fs ρ3 s3 => rw [r] at p; exact p
      | bad => rw [r] at p; exact p
  · rintro σ1 H1 ⟨F1, ρ1, s1, b, p⟩
    rw [List.drop_length] at p
    exact post_nx p b
end
/-! ### [e for x in xs if t] -/
def wipeE (ρ : Env) : List Nat → Env
  | [] => ρ
  | v :: vs => (wipeE ρ vs).set v none
theorem wipeE_at {K : PySem.W.Frag} {Z : Option Zt} {F : Hp} {σ : L2.St} {ρ : Env} (h : EnvAt K F Z σ ρ) : ∀ vs : List Nat, EnvAt K F Z (wipe σ vs) (wipeE ρ vs)
  | [] => h
  | v :: vs => fun i d e => by
    unfold wipeE at e
    have hi : v ≠ i := fun z => by
      subst z
      by_cases hv : v < (wipeE ρ vs).length
      · rw [List.getElem?_set_self hv] at e; cases e
      · rw [List.getElem?_eq_none (by simpa using hv)] at e; cases e
    rw [List.getElem?_set_ne hi] at e
    obtain ⟨w, h1, h2⟩ := wipeE_at h vs i d e
    refine ⟨w, ?_, h2⟩
    unfold wipe
    rw [List.getElem?_set_ne hi]
    exact h1
theorem wipe_get {σ : L2.St} {i : Nat} : ∀ {vs : List Nat}, i ∈ vs → i < σ.length → (wipe σ vs)[i]? = some none
  | v :: vs, h, hl => by
    unfold wipe
    by_cases z : v = i
    · subst z
      rw [List.getElem?_set_self (by rw [wipe_length]; exact hl)]
    · rw [List.getElem?_set_ne z]
      exact wipe_get ((List.mem_cons.mp h).resolve_left (Ne.symm z)) hl
theorem wipe_not {σ : L2.St} {i : Nat} : ∀ {vs : List Nat}, i ∉ vs → (wipe σ vs)[i]? = σ[i]?
  | [], _ => rfl
  | v :: vs, h => by
    unfold wipe
    rw [List.getElem?_set_ne fun z => h (by rw [z]; exact List.mem_cons_self)]
    exact wipe_not fun z => h (List.mem_cons_of_mem _ z)
/-- slots that differ at the block's own names alone are wiped alike -/
theorem wipe_alike {σ τ : L2.St} {vs : List Nat} (hl : τ.length = σ.length) (h : ∀ i, i ∉ vs → τ[i]? = σ[i]?) : wipe τ vs = wipe σ vs := by
  apply List.ext_getElem?
  intro i
  by_cases hi : i ∈ vs
  · by_cases hz : i < σ.length
    · rw [wipe_get hi hz, wipe_get hi (by rw [hl]; exact hz)]
    · rw [List.getElem?_eq_none (by rw [wipe_length]; omega), List.getElem?_eq_none (by rw [wipe_length]; omega)]
  · rw [wipe_not hi, wipe_not hi, h i hi]
/-- a block's target -/
def TgE (K : PySem.W.Frag) (vs : List Nat) (g : TG) (bnd : D → Env → Option Env) : Prop := ∀ (Z : Option Zt) (F H : Hp) (σ : L2.St) (ρ ρ' : Env) (v : V) (d : D) (Q : L2.St → Hp → Prop),
  Same F H → EnvAt K F Z σ ρ → At K F Z v d → bnd d ρ = some ρ' → ρ.length ≤ σ.length → (∀ σ', EnvAt K F Z σ' ρ' → σ'.length = σ.length → ρ'.length = ρ.length → (∀ i, i ∉ vs → σ'[i]? = σ[i]?) → Q σ' H) → g v σ H Q
def c1 (i : Nat) : D → Env → Option Env := fun d ρ => some (ρ.set i (some d))
theorem EnvAt.set {K : PySem.W.Frag} {Z : Option Zt} {F : Hp} {σ : L2.St} {ρ : Env} {i : Nat} {v : V} {d : D} (h : EnvAt K F Z σ ρ) (a : At K F Z v d) (hl : ρ.length ≤ σ.length) : EnvAt K F Z (σ.set i (some v)) (ρ.set i (some d)) := fun j e q => by
  by_cases z : i = j
  · subst z
    have hi : i < ρ.length := by
      rw [← List.length_set]
      exact (List.getElem?_eq_some_iff.mp q).1
    rw [List.getElem?_set_self hi] at q
    cases q
    exact ⟨v, List.getElem?_set_self (Nat.lt_of_lt_of_le hi hl), a⟩
  · rw [List.getElem?_set_ne z] at q
    obtain ⟨w, h1, h2⟩ := h j e q
    exact ⟨w, by rw [List.getElem?_set_ne z]; exact h1, h2⟩
theorem tge_name {K : PySem.W.Frag} (i : Nat) : TgE K [i] (gName i) (c1 i) := fun Z F H σ ρ ρ' v d Q _ he a e hl k => by
  cases e
  exact k _ (he.set a hl) (List.length_set ..) (List.length_set ..) fun j hj => by
    rw [List.getElem?_set_ne fun z => hj (by rw [z]; exact List.mem_cons_self)]
def cs : List Nat → List D → Env → Option Env
  | [], [], ρ => some ρ
  | i :: is, d :: ds, ρ => cs is ds (ρ.set i (some d))
  | _, _, _ => none
theorem cs_len : ∀ {is : List Nat} {ds : List D} {ρ ρ' : Env}, cs is ds ρ = some ρ' → ds.length = is.length
  | [], [], _, _, _ => rfl
  | _ :: _, _ :: _, _, _, e => congrArg (· + 1) (cs_len e)
  | [], _ :: _, _, _, e => by cases e
  | _ :: _, [], _, _, e => by cases e
theorem gs_runE {K : PySem.W.Frag} {Z : Option Zt} {F H : Hp} {Q : L2.St → Hp → Prop} : ∀ {is : List Nat} {ds : List D} {vs : List V} {σ : L2.St} {ρ ρ' : Env}, EnvAt K F Z σ ρ → AtAll K F Z vs ds → cs is ds ρ = some ρ' → ρ.length ≤ σ.length →
    (∀ σ', EnvAt K F Z σ' ρ' → σ'.length = σ.length → ρ'.length = ρ.length → (∀ i, i ∉ is → σ'[i]? = σ[i]?) → Q σ' H) → gs is vs σ H Q
  | [], [], vs, σ, ρ, ρ', a, av, e, hl, k => by
    cases av
    cases e
    exact ⟨rfl, k _ a rfl rfl fun _ _ => rfl⟩
  | i :: is, d :: ds, vs, σ, ρ, ρ', a, av, e, hl, k => by
    cases av with
    | cons h t =>
      refine ⟨_, _, rfl, gs_runE (a.set h hl) t e (by rw [List.length_set, List.length_set]; exact hl) fun σ' q1 q2 q3 q4 => k σ' q1 (by rw [q2, List.length_set]) (by rw [q3, List.length_set]) fun j hj => ?_⟩
      rw [q4 j fun z => hj (List.mem_cons_of_mem _ z), List.getElem?_set_ne fun z => hj (by rw [z]; exact List.mem_cons_self)]
  | [], _ :: _, _, _, _, _, _, _, e, _, _ => by cases e
  | _ :: _, [], _, _, _, _, _, _, e, _, _ => by cases e
def cT (is : List Nat) : D → Env → Option Env := fun d ρ => match d with
  | .tup ds => cs is ds ρ
  | _ => none
theorem tge_tup {K : PySem.W.Frag} (is : List Nat) : TgE K is (gTup K is.length (gs is)) (cT is) := fun Z F H σ ρ ρ' v d Q hs he a e hl k => by
  cases d with
  | tup ds =>
    have e : cs is ds ρ = some ρ' := e
    cases a with
    | tup h1 k1 => exact ⟨_, _, rfl, .of (hs _ _ h1), by rw [k1.length, cs_len e], gs_runE he k1 e hl k⟩
  | _ => cases e
/-- nothing is raised within a block -/
def W0 : WX := fun _ _ _ _ => False
def lcL (bnd : D → Env → Option Env) (mt : TM) (me : EM) (ρ : Env) : List D → S → RE (List D)
  | [], s => .ok [] s
  | d :: ds, s => match bnd d ρ with
    | none => .bad
    | some ρ1 => match mt ρ1 s with
      | .ok true s1 => match me ρ1 s1 with
        | .ok x s2 => (lcL bnd mt me ρ ds s2).bind fun xs s3 => .ok (x :: xs) s3
        | _ => .bad
      | .ok false s1 => lcL bnd mt me ρ ds s1
      | _ => .bad
def lcR (r : RE (List D)) : RE D := match r with
  | .ok xs s => if xs.length ≤ sizeLine then .ok (.lst xs) s else .bad
  | _ => .bad
def eLc (vs : List Nat) (n : Nat) (bnd : D → Env → Option Env) (mi : AM) (mt : TM) (me : EM) : EM := fun ρ s => if ρ.length ≤ n then (mi ρ s).bind fun ds s1 => lcR (lcL bnd mt me (wipeE ρ vs) ds s1) else .bad
def tYesD : TM := fun _ s => .ok true s
section
variable {X : Cx} {W : WX}
theorem dt_yes : PTs X [] (tT X.K W0 tYesD) := ⟨fun pins s σ H Q I h => pts_nil.run pins s σ H Q I (by
  obtain ⟨F, Z, ρ, s', hs, he, hd, h⟩ := h
  exact h F H _ (Ext.refl hs) hd rfl)⟩
theorem dt_one {c : Expr} {tc : TM} (h : PT X c (tT X.K W0 tc)) : PTs X [c] (tT X.K W0 tc) := pts_one h
theorem lc_read {vs : List Nat} {bnd : D → Env → Option Env} {mi : AM} {mt : TM} {me : EM} {g : TG} (hgd : TgE X.K vs g bnd) {σ : L2.St} {H : Hp} {Q : VK} (hlen : σ.length = X.N.length) (h : tE X.K W (eLc vs X.N.length bnd mi mt me) σ H Q) :
    tLc (tI X.K W mi) g (tT X.K W0 mt) (tE X.K W0 me) vs σ H Q := by
  obtain ⟨F, Z, ρ, s, hs, he, hd, h⟩ := h
  unfold eLc at h
  split at h
  · rename_i hn
    refine ⟨F, Z, ρ, s, hs, he, hd, post_bind h fun ds s1 F1 H1 J e1 hd1 w h => ?_⟩
    have w : Walk J ds.length (fun H => Same F1 H) (YD X.K Z F1 ds) := w
    have hev := wipeE_at (he.mono e1.f) vs
    have hwl : ∀ (ρ : Env) (us : List Nat), (wipeE ρ us).length = ρ.length := fun ρ us => by
      induction us with
      | nil => rfl
      | cons u us ih => unfold wipeE; rw [List.length_set, ih]
    intro L hL
    -- behind i turns: the frozen part F2 has grown from F1, the new list at L holds acc, what is left gives the rest
    refine lc_it w (fun i H => ∃ F2 s2 accV acc, Ext Z F1 H1 F2 H ∧ DrAt Z F2 H s2 ∧ H L = some (.lst accV) ∧ F2 L = none ∧ AtAll X.K F2 Z accV acc ∧
      ∃ xs s3, lcL bnd mt me (wipeE ρ vs) (ds.drop i) s2 = .ok xs s3 ∧ (acc ++ xs).length ≤ sizeLine ∧ ∀ F' H' v, Ext Z F1 H1 F' H' → DrAt Z F' H' s3 → At X.K F' Z v (.lst (acc ++ xs)) → Q v H') ?_ (fun i H _ ⟨F2, _, _, _, b, _⟩ => b.f.trans b.fh) ?_ ?_
    · have fL : F1 L = none := e1.fh.free hL
      refine ⟨F1, s1, [], [], Ext.newH e1.fh hL, hd1.newH e1.fh hL, upd_same, fL, .nil, ?_⟩
      · unfold lcR at h
        cases q : lcL bnd mt me (wipeE ρ vs) ds s1 with
        | bad => rw [q] at h; exact h.elim
        | ex C fs s3 => rw [q] at h; exact h.elim
        | ok xs s3 =>
          rw [q] at h
          dsimp only at h
          split at h
          · rename_i hz
            exact ⟨xs, s3, by rw [List.drop_zero]; exact q, hz, h⟩
          · exact h.elim
    · rintro i x H2 H3 hi ⟨F2, s2, accV, acc, b, hd2, hL2, fL, aacc, xs, s3, hrun, hz, k⟩ y
      obtain ⟨d, F3, hdd, ex, ad, keep⟩ := yd_step b.f b.fh y
      have hdrop : ds.drop i = d :: ds.drop (i + 1) := by
        rw [List.drop_eq_getElem_cons hi]
        rw [List.getElem?_eq_getElem hi] at hdd
        cases hdd
        rfl
      rw [hdrop] at hrun
      unfold lcL at hrun
      have fL3 : F3 L = none := ex.n L _ fL hL2
      have hL3 : H3 L = some (.lst accV) := keep _ _ hL2
      have hd3 := hd2.keep ex keep
      cases q : bnd d (wipeE ρ vs) with
      | none => rw [q] at hrun; cases hrun
      | some ρ1 =>
        rw [q] at hrun
        dsimp only at hrun
        have hlw : (wipeE ρ vs).length ≤ (wipe σ vs).length := by rw [hwl, wipe_length, hlen]; exact hn
        refine hgd Z F3 H3 (wipe σ vs) (wipeE ρ vs) ρ1 x d _ ex.fh (hev.mono (b.f.trans ex.f)) ad q hlw fun σ2 he2 hl2 hr2 hne => ?_
        refine ⟨?_, ?_⟩
        · refine wipe_alike hl2 hne |>.trans ?_
          refine wipe_alike (wipe_length _ _) fun j hj => wipe_not hj
        · cases r : mt ρ1 s2 with
          | bad => rw [r] at hrun; cases hrun
          | ex C fs s4 => rw [r] at hrun; cases hrun
          | ok bb s4 =>
            rw [r] at hrun
            refine ⟨F3, Z, ρ1, s2, ex.fh, he2, hd3, ?_⟩
            rw [r]
            intro F4 H4 bv ex4 hd4 hb
            subst hb
            have fL4 : F4 L = none := ex4.n L _ fL3 hL3
            obtain ⟨oL, hL4, hsame⟩ := ex4.h L _ hL3
            have nDr : ¬ DrA Z L := fun z => by
              cases Z with
              | none => exact z
              | some z' =>
                obtain ⟨_, d2, d3, _⟩ := hd1
                rcases z with z | z
                · rw [← z, hL] at d2; cases d2
                · rw [← z, hL] at d3; cases d3
            cases hsame nDr
            cases bv with
            | false =>
              rw [if_neg Bool.false_ne_true]
              exact ⟨F4, s4, accV, acc, (b.trans ex).trans ex4, hd4, hL4, fL4, (aacc.mono ex.f).mono ex4.f, xs, s3, hrun, hz, k⟩
            | true =>
              rw [if_pos rfl]
              dsimp only at hrun
              cases t : me ρ1 s4 with
              | bad => rw [t] at hrun; cases hrun
              | ex C fs s5 => rw [t] at hrun; cases hrun
              | ok z s5 =>
                rw [t] at hrun
                dsimp only at hrun
                cases u : lcL bnd mt me (wipeE ρ vs) (ds.drop (i + 1)) s5 with
                | bad => rw [u] at hrun; cases hrun
                | ex C fs s6 => rw [u] at hrun; cases hrun
                | ok ys s6 =>
                  rw [u] at hrun
                  have hrun : RE.ok (z :: ys) s6 = .ok xs s3 := hrun
                  cases hrun
                  refine ⟨F4, Z, ρ1, s4, ex4.fh, he2.mono ex4.f, hd4, ?_⟩
                  rw [t]
                  intro F5 H5 v ex5 hd5 av
                  have fL5 : F5 L = none := ex5.n L _ fL4 hL4
                  obtain ⟨oL, hL5, hsame⟩ := ex5.h L _ hL4
                  cases hsame nDr
                  have aacc5 := ((aacc.mono ex.f).mono ex4.f).mono ex5.f
                  refine ⟨accV, hL5, ?_, F5, s5, accV ++ [v], acc ++ [z], ?_, ?_, upd_same, fL5, aacc5.append (.cons av .nil), ys, _, u, ?_, ?_⟩
                  · rw [aacc5.length]
                    rw [List.length_append, List.length_cons] at hz
                    omega
                  · have b5 := ((b.trans ex).trans ex4).trans ex5
                    refine ⟨b5.f, fun a o e => ?_, fun a o e => ?_, b5.n⟩
                    · rw [upd_ne fun z => by rw [z, fL5] at e; cases e]
                      exact b5.fh a o e
                    · rw [upd_ne fun z => by rw [z, hL] at e; cases e]
                      exact b5.h a o e
                  · cases Z with
                    | none => trivial
                    | some z' =>
                      obtain ⟨d1, d2, d3, d4, d5⟩ := hd5
                      refine ⟨d1, ?_, ?_, d4, d5⟩
                      · rw [upd_ne fun e => nDr (.inl e.symm)]; exact d2
                      · rw [upd_ne fun e => nDr (.inr e.symm)]; exact d3
                  · rw [List.append_assoc]; exact hz
                  · rw [List.append_assoc]; exact k
    · rintro H2 ⟨F2, s2, accV, acc, b, hd2, hL2, fL, aacc, xs, s3, hrun, hz, k⟩
      rw [List.drop_length] at hrun
      have hrun : RE.ok [] s2 = .ok xs s3 := hrun
      cases hrun
      rw [List.append_nil] at k
      have sF : Same F2 (upd F2 L (.lst accV)) := fun a o e => by rw [upd_ne fun z => by rw [z, fL] at e; cases e]; exact e
      refine k (upd F2 L (.lst accV)) H2 _ ⟨b.f.trans sF, fun a o e => ?_, b.h, fun a o e1' e2 => ?_⟩ ?_ (.lst upd_same (aacc.mono sF))
      · by_cases hz2 : a = L
        · subst hz2
          rw [upd_same] at e
          rw [hL2]
          exact e
        · rw [upd_ne hz2] at e
          exact b.fh a o e
      · rw [upd_ne fun z => by rw [z, hL] at e2; cases e2]
        exact b.n a o e1' e2
      · cases Z with
        | none => trivial
        | some z' =>
          obtain ⟨d1, d2, d3, d4, d5⟩ := hd2
          obtain ⟨_, c2, c3, _⟩ := hd1
          refine ⟨d1, d2, d3, ?_, ?_⟩
          · rw [upd_ne fun e => by rw [e, hL] at c2; cases c2]; exact d4
          · rw [upd_ne fun e => by rw [e, hL] at c3; cases c3]; exact d5
  · exact h.elim
theorem de_lc {elt tg iter : Expr} {ifs : List Expr} {scope : Scope} {own : List (Str × Nat)} {pos : Pos} {bnd : D → Env → Option Env} {mi : AM} {mt : TM} {me : EM} {g : TG} (h : PE X (.ListComp elt [⟨tg, iter, ifs, 0⟩] scope pos) (tLc (tI X.K W mi) g (tT X.K W0 mt) (tE X.K W0 me) (own.map (·.2))))
    (hgd : TgE X.K (own.map (·.2)) g bnd) : PE X (.ListComp elt [⟨tg, iter, ifs, 0⟩] scope pos) (tE X.K W (eLc (own.map (·.2)) X.N.length bnd mi mt me)) :=
  ⟨fun pins s σ H Q I q => h.run pins s σ H Q I (lc_read hgd I.len q)⟩
end
end FL
set_option Elab.async false
set_option linter.all false
set_option maxRecDepth 100000
set_option maxHeartbeats 1000000
/-! ## FL, 7: defs by content, and their calls -/
namespace FL
open PySem PySem.Spec PyProof.Rows L2
/-- what a def is worth: arguments and the draw in, a value (or an exception) and the draw out -/
abbrev FM := List D → S → RE D
def spD (K : PySem.W.Frag) (mf : FM) : Sp := fun vs H Q E => ∃ F Z ds s, Same F H ∧ AtAll K F Z vs ds ∧ DrAt Z F H s ∧ PostE K (fun c dd _ H => E c dd H) Z F H [] (mf ds s) Q
/-- room, and no repr around -/
structure Rm (k : Nat) (A : Around) : Prop where
  r : Room k A
  g : A.guards = some []
theorem Rm.mono {j k : Nat} {A : Around} (r : Rm k A) (h : j ≤ k) : Rm j A := ⟨r.r.mono h, r.g⟩
theorem Rm.deeper {k : Nat} {A : Around} (r : Rm (k + 1) A) (env : PySem.Env) : Rm k (A.deeper env) := ⟨r.r.deeper env, r.g⟩
/-- the def at f is worth mf, with room for k calls -/
structure FnG (P : Program) (w : World) (K : PySem.W.Frag) (mg : Str → Option Value) (base : Heap) (k : Nat) (f : Addr) (fd : FuncData) (ps : List Str) (mf : FM) : Prop where
  len : ∀ ds s, ds.length ≠ ps.length → mf ds s = .bad
  go : ∀ (A : Around) (outer : List PySem.Env) (s : Shared) (H : Hp) (args : Args) (us : List Value) (vs : List V) (Q : VK) (E : XK), Rm k A → Env0 P w K mg base A outer s H → BindsTo s fd args (ps.zip us) → Vals vs us → spD K mf vs H Q E →
    codeAny (model P w) A (.call (.ref f) args) (CR (L2.CX P w) outer P w H s Q E) s
theorem FnG.mono {P : Program} {w : World} {K : PySem.W.Frag} {mg : Str → Option Value} {base : Heap} {j k : Nat} {f : Addr} {fd : FuncData} {ps : List Str} {mf : FM} (G : FnG P w K mg base j f fd ps mf) (h : j ≤ k) : FnG P w K mg base k f fd ps mf :=
  ⟨G.len, fun A outer s H args us vs Q E r => G.go A outer s H args us vs Q E (r.mono h)⟩
theorem sp_len {P : Program} {w : World} {K : PySem.W.Frag} {mg : Str → Option Value} {base : Heap} {k : Nat} {f : Addr} {fd : FuncData} {ps : List Str} {mf : FM} (G : FnG P w K mg base k f fd ps mf) {vs : List V} {H : Hp} {Q : VK} {E : XK} (h : spD K mf vs H Q E) : vs.length = ps.length := by
  obtain ⟨F, Z, ds, s, _, a, _, p⟩ := h
  by_cases e : ds.length = ps.length
  · rw [a.length]; exact e
  · rw [G.len ds s e] at p
    exact p.elim
/-- from a body to what the def is worth -/
def fnOf (n np : Nat) (mb : SM) : FM := fun ds s => if ds.length = np then
    match mb (ds.map (fun d => some (.dat d)) ++ List.replicate (n - np) none) s with
    | .nx _ s' => .ok .non s'
    | .rt d s' => .ok d s'
    | .ex C fs _ s' => .ex C fs s'
    | _ => .bad
  else .bad
section
variable {P : Program} {w : World} {K : PySem.W.Frag} {mg : Str → Option Value} {base : Heap}
/-- THE RULE for a def -/
theorem Fun.okG {x qual : Str} {st : Stmt} {f : Addr} {fd : FuncData} {N ps : List Str} {k : Nat} {mb : SM} (T : L2.Fun K x qual st f fd) (Sc : FnScope N ps (defScope st))
    (hbody : ∀ (cdv : Value) (A : Around) (outer : List PySem.Env) (s : Shared) (H : Hp) (E : XK), Rm k (A.deeper (envOfC qual (defScope st) s.heap.objs.size f cdv)) →
      PSs (cxOf (L2.CX P w) P w K mg base N qual (defScope st) f cdv A outer s H E) (defBody st) (tS K (fun c dd _ H => E c dd H) mb)) :
    FnG P w K mg base (k + 1) f fd ps (fnOf N.length ps.length mb) := by
  obtain ⟨oc, od, kV, doc, pm, an, cdv, ct, osl, rfl, lk, hcd⟩ := T.ex
  refine ⟨fun ds s e => if_neg e, fun A outer s H args us vs Q E hr e0 hbd rv hsp => ?_⟩
  obtain ⟨F, Z, ds, s', hs, av, hd, p⟩ := hsp
  unfold fnOf at p
  by_cases hl : ds.length = ps.length
  · rw [if_pos hl] at p
    have hlv : vs.length = ps.length := by rw [av.length]; exact hl
    have KX : K.In s.heap := e0.mod.kin.keeps fun b ob y => (e0.bs b ob y).1
    have lim : s.heap.NoLimit := e0.mod.nolimit.keeps fun b ob y => (e0.bs b ob y).1
    have kinds : ∀ y ∈ ps.zip us, (defScope st).names.lookup y.1 = some .local ∨ ((defScope st).names.lookup y.1 = some .cell ∧ ((cellsFrom (s.heap.objs.size + 1) (defScope st).names []).lookup y.1).isSome = true) := fun ⟨nm, v⟩ hy => by
      rcases Sc.par nm (List.of_mem_zip hy).1 with q | q
      · exact .inl q
      · exact .inr ⟨q, PySem.W.cellsFrom_some _ _ _ (.inl q)⟩
    refine codeAny_call_function hr.r.depth (KX _ _ lk) rfl Sc.co Sc.gen rfl (PySem.W.codeRec_of KX hcd) (hbd _ _ _ _ ?_)
    refine wpAny_newFunctionEnv_cells Sc.kind kinds fun env2 he2 s1 x2 => ?_
    subst he2
    refine ⟨lim.keeps x2.toInCall.keep, codeAny_func ?_⟩
    have ht := hbody cdv A outer s H E (hr.deeper _)
    have I : Inv (cxOf (L2.CX P w) P w K mg base N qual (defScope st) f cdv A outer s H E) [] (L2.start N vs) H s1 := inv_start Sc hr.r.hd e0 hlv rv x2
    have hN : ps.length ≤ N.length := by
      have q := congrArg List.length Sc.pre
      rw [List.length_take] at q
      omega
    have hq : tS K (fun c dd _ H => E c dd H) mb { nx := fun _ H' => Q .non H', rt := Q } (L2.start N vs) H := by
      refine ⟨F, H, Z, F, ds.map (fun d => some (Sl.dat d)) ++ List.replicate (N.length - ps.length) none, s', ⟨Ext.refl hs, hd, ⟨?_, fun i d q => ?_, fun i xs q => ?_, fun i j xs ys a q1 => ?_⟩⟩, ?_⟩
      · unfold L2.start
        rw [List.length_append, List.length_append, List.length_map, List.length_map, List.length_replicate, List.length_replicate, av.length, hl]
      · unfold L2.start
        by_cases hi : i < ds.length
        · rw [List.getElem?_append_left (by rw [List.length_map]; exact hi), List.getElem?_map] at q
          cases e : ds[i]? with
          | none => rw [e] at q; cases q
          | some d' =>
            rw [e] at q
            cases q
            obtain ⟨v, h1, h2⟩ := av.get e
            exact ⟨v, by rw [List.getElem?_append_left (by rw [List.length_map, av.length]; exact hi), List.getElem?_map, h1]; rfl, h2⟩
        · rw [List.getElem?_append_right (by rw [List.length_map]; omega), List.getElem?_replicate] at q
          split at q <;> cases q
      · by_cases hi : i < ds.length
        · rw [List.getElem?_append_left (by rw [List.length_map]; exact hi), List.getElem?_map] at q
          cases e : ds[i]? with
          | none => rw [e] at q; cases q
          | some d' => rw [e] at q; cases q
        · rw [List.getElem?_append_right (by rw [List.length_map]; omega), List.getElem?_replicate] at q
          split at q <;> cases q
      · by_cases hi : i < ds.length
        · rw [List.getElem?_append_left (by rw [List.length_map]; exact hi), List.getElem?_map] at q1
          cases e : ds[i]? with
          | none => rw [e] at q1; cases q1
          | some d' => rw [e] at q1; cases q1
        · rw [List.getElem?_append_right (by rw [List.length_map]; omega), List.getElem?_replicate] at q1
          split at q1 <;> cases q1
      · generalize ds.map (fun d => some (Sl.dat d)) ++ List.replicate (N.length - ps.length) none = ρ at p
        cases r : mb ρ s' with
        | nx ρ2 s2 => rw [r] at p; exact fun F2 H2 σ2 ex d2 _ => p F2 H2 _ ex d2 .non
        | rt d s2 => rw [r] at p; exact p
        | ex C fs ρ2 s2 => rw [r] at p; exact fun F2 H2 σ2 dd ex d2 _ xd => p F2 H2 dd ex d2 xd
        | bk _ _ => rw [r] at p; exact p.elim
        | ct _ _ => rw [r] at p; exact p.elim
        | bad => rw [r] at p; exact p.elim
    refine wpAny_mono (ht.run [] s1 (L2.start N vs) H _ I hq) (fun fl s2 hs2 => ?_) fun e s2 hs2 => hs2
    have fin : ∀ {σ2 : L2.St} {H2 : Hp} {v : V} {u : Value}, Inv (cxOf (L2.CX P w) P w K mg base N qual (defScope st) f cdv A outer s H E) [] σ2 H2 s2 → RelV v u → Q v H2 → CE outer P w H s Q u s2 :=
      fun {σ2 H2 v u} J r2 q => ⟨v, H2, J.os, J.bare, J.base, J.hok, r2, q⟩
    cases fl with
    | ret u =>
      obtain ⟨v, σ2, H2, J, r2, q⟩ := hs2
      exact fin J r2 q
    | next =>
      obtain ⟨σ2, H2, J, q⟩ := hs2
      exact fin (v := V.non) (u := Value.none) J rfl q
    | brk =>
      obtain ⟨_, _, _, q⟩ := hs2
      exact q.elim
    | cont =>
      obtain ⟨_, _, _, q⟩ := hs2
      exact q.elim
  · rw [if_neg hl] at p
    exact p.elim
end

/-! ### calls -/
def eCall (mf : FM) (ma : AM) : EM := fun ρ s => (ma ρ s).bind fun ds s1 => mf ds s1
section
variable {X : Cx} {W : WX} {k : Nat} {f : Addr} {fd : FuncData} {ps : List Str} {mf : FM} {x : Str} {p pos : Pos} {e : Expr} {es : List Expr} {ma : AM}
theorem run_G {pins : List (Addr × Obj)} {σ : L2.St} {H : Hp} {s : Shared} {Q : VK} {us : List Value} {vs : List V} (G : FnG X.prog X.w X.K X.mg X.base k f fd ps mf) (hr : Rm k X.A) (hb : Binds X.K fd ps []) (hx : PassesAt (L2.CX X.prog X.w) X σ (WE W σ))
    (I : Inv X pins σ H s) (r : Vals vs us) (h : spD X.K mf vs H Q (WE W σ)) : wpAny (model X.prog X.w) X.A (call (.ref f) us) (EP X pins σ Q) X.xe s := by
  have hl : us.length = ps.length := by rw [← r.length]; exact sp_len G h
  have bb := hb s us I.kIn (by rw [List.append_nil]; exact hl)
  rw [List.append_nil] at bb
  refine wpAny_call (codeAny_mono (G.go X.A X.stack s H ⟨us, []⟩ us vs Q (WE W σ) hr I.env0 bb r h) fun rr s2 hq => ?_)
  cases rr with
  | error er => exact hx pins H s er s2 I hq
  | ok fl =>
    cases fl with
    | ret u => exact I.after hq
    | next => exact hq.elim
    | brk => exact hq.elim
    | cont => exact hq.elim
def tCallG (K : PySem.W.Frag) (W : WX) (mf : FM) (t : TA) : TE := fun σ H Q => t σ H fun vs H1 => spD K mf vs H1 Q (WE W σ)
theorem pe_callG {t : TA} (G : FnG X.prog X.w X.K X.mg X.base k f fd ps mf) (hr : Rm k X.A) (hg : Gl X x) (hm : X.mg x = some (.ref f)) (hk : PySem.W.keepIn X.K (.ref f) = true) (hb : Binds X.K fd ps []) (hx : ∀ σ, PassesAt (L2.CX X.prog X.w) X σ (WE W σ)) (ha : PA X (e :: es) t)
    (hdb : (x == ("__debug__" : Str)) = false := by decide) (he : starEach (e :: es) X.env = (false, eval e X.env) :: starEach es X.env := by rfl) (hpl : (backTo pos (starEach es X.env)).any (·.1) = false := by rfl) :
    PE X (.Call (.Name x p) (e :: es) [] pos) (tCallG X.K W mf t) := by
  refine ⟨fun pins s σ H Q I h => ?_⟩
  refine wpAny_Call_Name_kw (ld_glob I hg hm ?_ hdb)
  refine PySem.W.callWith_K (h₀ := X.base) I.ok.mod.kin hk (thn (ha.run pos pins s σ H _ I h) fun us s2 ⟨vs, H2, I2, r2, q2⟩ => ⟨I2.kIn, ?_⟩) he hpl
  exact run_G G hr hb (hx σ) I2 r2 q2
theorem post_wish {K : PySem.W.Frag} {W W' : WX} {Z : Option Zt} {F H : Hp} {σ σ' : L2.St} {r : RE D} {Q : VK} (h : PostE K W Z F H σ r Q) (k : ∀ c dd H, W c dd σ H → W' c dd σ' H) : PostE K W' Z F H σ' r Q := by
  cases r with
  | bad => exact h
  | ok d s => exact h
  | ex C fs s => exact fun F2 H2 dd e d x => k _ _ _ (h F2 H2 dd e d x)
theorem de_call (G : FnG X.prog X.w X.K X.mg X.base k f fd ps mf) (hr : Rm k X.A) (hg : Gl X x) (hm : X.mg x = some (.ref f)) (hk : PySem.W.keepIn X.K (.ref f) = true) (hb : Binds X.K fd ps []) (hx : ∀ σ, PassesAt (L2.CX X.prog X.w) X σ (WE W σ)) (ha : PA X (e :: es) (tA X.K W ma))
    (hdb : (x == ("__debug__" : Str)) = false := by decide) (he : starEach (e :: es) X.env = (false, eval e X.env) :: starEach es X.env := by rfl) (hpl : (backTo pos (starEach es X.env)).any (·.1) = false := by rfl) :
    PE X (.Call (.Name x p) (e :: es) [] pos) (tE X.K W (eCall mf ma)) := pe_weak (pe_callG G hr hg hm hk hb hx ha hdb he hpl) fun σ H Q ⟨F, Z, ρ, s, hs, he, hd, h⟩ =>
  tA_then hs he hd h fun ds s1 F1 H1 vs e1 he1 hd1 a1 h => ⟨F1, Z, ds, s1, e1.fh, a1, hd1, post_wish h fun _ _ _ q => q⟩
/-- within a block, or where nothing may be raised -/
theorem passW0 (σ : L2.St) : PassesAt (L2.CX X.prog X.w) X σ (WE W0 σ) := fun _ _ _ _ _ _ c => by
  obtain ⟨_, _, _, _, _, _, _, _, _, _, _, _, z⟩ := c
  exact z.elim
/-- a constant of the module -/
theorem de_glob {u : Value} {v : V} {d : D} (hg : Gl X x) (hm : X.mg x = some u) (r : RelV v u) (a : ∀ F Z, At X.K F Z v d) (hd : (x == ("__debug__" : Str)) = false := by decide) : PE X (.Name x pos) (tE X.K W (eC d)) := de_const (pe_glob hg hm r hd) a
theorem de_type {n : String} (hg : Gl X x) (hm : X.mg x = none) (hv : bootBuiltins x = some (.type n)) (hn : x ≠ "__name__" := by decide) (hd : (x == ("__debug__" : Str)) = false := by decide) : PE X (.Name x pos) (tE X.K W (eC (.ty n))) :=
  de_const (pe_bltn (v := .ty n) hg hm hv rfl hn hd) fun _ _ => .ty n
theorem de_class {C : Addr} (hg : Gl X x) (hm : X.mg x = some (.ref C)) (hd : (x == ("__debug__" : Str)) = false := by decide) : PE X (.Name x pos) (tE X.K W (eC (.cls C))) := de_glob (v := .ref C) hg hm rfl (fun _ _ => .cls C) hd
end
end FL
set_option Elab.async false
set_option linter.all false
set_option maxRecDepth 100000
set_option maxHeartbeats 4000000
/-! ## FL, 8: exceptions that are kept: raised, caught and held by a name, their class and field; repr -/
namespace PySem.W
open PySem PySem.Spec PySem.Calls PyProof.Rows
section
variable {prog : Program} {w : World} {A : Around} {E : Value → Shared → Prop} {s : Shared} {K : Frag} {e D : Addr} {oe : Obj} {od : Option Obj}
theorem fl_find {C : Addr} {nm : Str} {a g : Value} (hc : (clsIn K C).isSome = true) (ha : findIn K (.ref C) nm = some (some a)) (hg : specialIn K a "__get__" = some (some g)) (ht : takesIn K a = some true) : findObj K C od nm = some (.bind g a) := by
  obtain ⟨cd, hc⟩ := Option.isSome_iff_exists.mp hc
  unfold findObj
  rw [hc, Option.bind_some, ha, Option.bind_some]
  simp [hg, ht]
theorem fl_class {Q : Option Value → Shared → Prop} (q1 : findIn K (.ref D) "__getattribute__" = some (some (.builtin "BaseException.__getattribute__"))) (q2 : findIn K (.ref D) "__getattr__" = some none) (q3 : subIn K (.ref D) (.type "BaseException") = some true)
    (q4 : hasDictIn K D = true) (q5 : findIn K (.ref D) "__class__" = some (some (.builtin "object.__class__")))
    (q6 : specialIn K (.builtin "object.__class__") "__get__" = some (some (.builtin "getset_descriptor.__get__"))) (q7 : takesIn K (.builtin "object.__class__") = some true) (q8 : mroIn K D (.type "object") = some true)
    (KI : K.In s.heap) (I : InstAt s.heap e oe D od) (h : Q (some (.ref D)) { s with toks := s.toks + 1 }) : wpAny (model prog w) A (getAttr? (.ref e) "__class__") Q E s := by
  have hf : findObj K D od "__class__" = some (.bind (.builtin "getset_descriptor.__get__") (.builtin "object.__class__")) := fl_find (by obtain ⟨cd, hc, _⟩ := any_some q4; rw [hc]; rfl) q5 q6 q7
  obtain ⟨h1, g1, d1, t1, o1⟩ := s
  have M0 := I.type (M := model prog w)
  have M1 := looks_findIn (M := model prog w) KI q1
  have M2 := looks_findIn (M := model prog w) KI q2
  have M3 := looks_find (M := model prog w) KI I hf
  have sub : Looks (model prog w) h1 (isInstance (.ref e) (.type "BaseException")) true := M0.andThen (looks_subIn KI q3)
  have z0 : (false && onTheHeap (Value.builtin "BaseException.__getattribute__")) = false := rfl
  have z2 : (Value.builtin "BaseException.__getattribute__" == Value.builtin "object.__getattribute__") = false := by decide +kernel
  have z1 : (onTheHeap (Value.ref D) && Value.builtin "BaseException.__getattribute__" == Value.builtin "object.__getattribute__") = false := by rw [z2]; rfl
  unfold getAttr? getAttrBy? getAttrBy
  refine wpAny_bind (wpAny_mkText (wpAny_bind (wpAny_attempt (wpAny_holding (wpAny_bind (M0.at (wpAny_bind (M1.at ?_))))))))
  show wpAny _ _ (if (onTheHeap (Value.ref D) && Value.builtin "BaseException.__getattribute__" == Value.builtin "object.__getattribute__") = true then _ else _) _ _ _
  rw [z1, if_neg Bool.false_ne_true]
  unfold getAttrByItsOwn hookBefore
  refine wpAny_bind ?_
  rw [if_pos (show onTheHeap (Value.ref D) = true from rfl)]
  refine M2.at ?_
  refine wpAny_bind (wpAny_attempt (wpAny_holding ?_))
  unfold callGetattribute
  rw [z0, if_neg Bool.false_ne_true]
  unfold boundAndCalled
  rw [PySem.F.excAttr_ValueError.ga.bind (.ref e)]
  refine wpAny_bind (wpAny_pure ?_)
  show wpAny _ _ (call (.builtin "BaseException.__getattribute__") [.ref e, .str "__class__" t1]) _ _ _
  refine wpAny_call (codeAny_call_builtin PySem.F.excAttr_ValueError.ga.plain PySem.F.entry_bexc_ga ?_)
  refine @check_slot (model prog w) _ _ ⟨h1, g1, d1, t1 + 1, o1⟩ "BaseException.__getattribute__" "BaseException" "__getattribute__" (.ref e) [.str "__class__" t1] [] _ (by decide +kernel) (by decide +kernel) sub (PySem.F.args_bexc_ga (.ref e) (.str "__class__" t1)) ?_
  unfold Builtin.«object.__getattribute__»
  refine wpAny_bind (wpAny_of_eq (a := ((Value.ref e : Value), [Value.str "__class__" t1])) (by first | rfl | (simp only [slotArgs]; rfl)) ?_)
  refine wpAny_bind (wpAny_pure (wpAny_bind (M0.at (wpAny_bind (M3.at ?_)))))
  show wpAny _ _ (holding [Value.builtin "object.__class__"] (call (.builtin "getset_descriptor.__get__") [.builtin "object.__class__", .ref e, .ref D]) >>= ret) _ _ _
  refine wpAny_bind (wpAny_holding (wpAny_call (class_get (s := ⟨h1, g1, d1, t1 + 1, o1⟩) (ox := oe) (od := od) KI I q8 ?_)))
  refine wpAny_pure ?_
  show wpAny _ _ (handedOut (.ref D)) _ _ _
  rw [handedOut_of (v := .ref D) rfl]
  first | exact wpAny_pure (wpAny_pure h) | exact wpAny_pure h | exact wpAny_pure (wpAny_bind (wpAny_pure (wpAny_pure h)))
theorem fl_kitx (q1 : findIn K (.ref D) "__getattribute__" = some (some (.builtin "BaseException.__getattribute__"))) (q2 : findIn K (.ref D) "__getattr__" = some none) (q3 : subIn K (.ref D) (.type "BaseException") = some true) (q4 : hasDictIn K D = true) (q5 : findIn K (.ref D) "__class__" = some (some (.builtin "object.__class__")))
    (q6 : specialIn K (.builtin "object.__class__") "__get__" = some (some (.builtin "getset_descriptor.__get__"))) (q7 : takesIn K (.builtin "object.__class__") = some true) (q8 : mroIn K D (.type "object") = some true) :
    KitX K (.ref e) (.ref D) (fun h => InstAt h e oe D od) where
  ty := fun _ _ _ I => I.type
  it := fun _ _ KI _ => by
    obtain ⟨cdD, hcD, _⟩ := any_some q4
    unfold clsIn at hcD
    split at hcD
    · rename_i c2 d2 cd2 sl2 ho
      intro A2 Q2 E2 s2 k q
      unfold isType loadHead
      exact wpAny_bind (wpAny_loadPart (k _ _ (KI _ _ ho)) (wpAny_pure q))
    · cases hcD
  ne := fun h tp dd its n sl KI htp => by
    obtain ⟨cdD, hcD, _⟩ := any_some q4
    refine Bool.eq_false_iff.mpr fun q => ?_
    have ee : D = tp := Value.ref.inj (beq_iff_eq.mp q)
    subst ee
    unfold clsIn at hcD
    split at hcD
    · rename_i c2 d2 cd2 sl2 ho
      have z := (KI _ _ ho).symm.trans htp
      cases z
    · cases hcD
  ca := fun KI I k => fl_class q1 q2 q3 q4 q5 q6 q7 q8 KI I k
end
end PySem.W
namespace FL
open PySem PySem.Spec PyProof.Rows L2
section
variable {X : Cx} {pins : List (Addr × Obj)} {σ : L2.St} {H : Hp} {s : Shared}
/-- a kept exception's object -/
theorem xob_at {C a : Addr} {dd : Option Addr} (I : Inv X pins σ H s) (h : H a = some (xob C a dd)) : ∃ oe, s.heap.get? a = some oe ∧ Zc (.ref C) dd oe ∧ ∃ vs, oe.data = .fields vs := by
  obtain ⟨p, _, _⟩ := I.hok a _ h
  exact p
theorem xob_inst {C a : Addr} {dd : Option Addr} (I : Inv X pins σ H s) (h : H a = some (xob C a dd)) (hd : ∀ d, dd = some d → ∃ ws, H d = some (.xd ws)) : ∃ oe od, PySem.W.InstAt s.heap a oe C od := by
  obtain ⟨oe, h1, ⟨h2, h3⟩, vs, h4⟩ := xob_at I h
  cases dd with
  | none => exact ⟨oe, none, h1, h2, by unfold PySem.W.notCls; rw [h4] <;> rfl, by rw [h3]; trivial⟩
  | some d =>
    obtain ⟨ws, hw⟩ := hd d rfl
    obtain ⟨mA, hns, _⟩ := (show ObjOk X.prog X.w H s.heap d (.xd ws) from I.hok d _ hw)
    obtain ⟨ob, ho, _⟩ := lookIn_ns hns
    exact ⟨oe, some ob, h1, h2, by unfold PySem.W.notCls; rw [h4] <;> rfl, by rw [h3]; exact ho⟩
end
/-- isinstance of a kept exception -/
def rIsX (K : PySem.W.Frag) : List V → Hp → VK → Prop := fun xs H Q => ∃ (C a : Addr) (dd : Option Addr) (x : V) (b : Bool), xs = [.ref a, x] ∧ H a = some (xob C a dd) ∧ (∀ d, dd = some d → ∃ ws, H d = some (.xd ws)) ∧ ExcC K C ∧
  ((∃ u, ClsV x u ∧ PySem.W.kitOne K (.ref C) u = some b) ∨ ∃ tp cs us, x = .ref tp ∧ H tp = some (.tup cs) ∧ Paired ClsV cs us ∧ PySem.W.kitAny K (.ref C) us = some b) ∧ Q (.bl b) H
theorem call_isX {X : Cx} : CallR X (.builtin "isinstance") (rIsX X.K) := by
  intro pins s σ H xs us Q I r h
  obtain ⟨C, a, dd, x, b, rfl, ha, hd, T, c, q⟩ := h
  obtain ⟨u1, u2, rfl, r1, r2⟩ := vals2 r
  obtain rfl : u1 = Value.ref a := r1
  obtain ⟨oe, od, J⟩ := xob_inst I ha hd
  have Z := PySem.W.fl_kitx (K := X.K) (e := a) (D := C) (oe := oe) (od := od) T.hg T.hk T.hs T.hd T.ha T.hn T.ht T.hm
  rcases c with ⟨u, k, e⟩ | ⟨tp, cs, ws, rfl, ht, p, e⟩
  · have e2 := k.eq r2
    subst e2
    exact PySem.W.kia_one Z I.kIn J e (fun z => nomatch z) fun tk => ⟨.bl b, H, I.tok tk, rfl, q⟩
  · obtain rfl : u2 = Value.ref tp := r2
    obtain ⟨_, its, rv, ob, h1, h2, n, h3⟩ := (show ObjOk X.prog X.w H s.heap tp (.tup cs) from I.hok tp _ ht)
    have e2 := ClsV.all p rv
    subst e2
    obtain ⟨oc, odd, oda, osl⟩ := ob
    dsimp only at h2 h3
    subst h2 h3
    exact PySem.W.kia_tup Z I.kIn J h1 e (fun z => nomatch z) fun tk => ⟨.bl b, H, I.tok tk, rfl, q⟩
/-- the classes that an isinstance names -/
def clsVs : List D → Option (List Value)
  | [] => some []
  | .cls C :: r => (clsVs r).map (.ref C :: ·)
  | .ty n :: r => (clsVs r).map (.type n :: ·)
  | _ => none
theorem clsVs_at {K : PySem.W.Frag} {F : Hp} {Z : Option Zt} : ∀ {vs : List V} {ts : List D} {us : List Value}, AtAll K F Z vs ts → clsVs ts = some us → Paired ClsV vs us
  | _, [], _, .nil, e => by
    simp only [clsVs, Option.some.injEq] at e
    subst e
    exact .nil
  | _, d :: ts, us, .cons h k, e => by
    cases d with
    | cls C =>
      unfold clsVs at e
      rw [Option.map_eq_some_iff] at e
      obtain ⟨r, e, rfl⟩ := e
      cases h
      exact .cons (.own C) (clsVs_at k e)
    | ty n =>
      unfold clsVs at e
      rw [Option.map_eq_some_iff] at e
      obtain ⟨r, e, rfl⟩ := e
      cases h
      exact .cons (.ty n) (clsVs_at k e)
    | _ => simp [clsVs] at e
/-- sub tells, of an exception's class, whether it is one of the classes asked -/
def isxF (sub : Addr → List Value → Option Bool) : List D → Option D
  | [.exc C _, .cls c] => (sub C [.ref c]).map .bl
  | [.exc C _, .ty n] => (sub C [.type n]).map .bl
  | [.exc C _, .tup ts] => (clsVs ts).bind fun us => (sub C us).map .bl
  | _ => none
theorem exc_facts {K : PySem.W.Frag} {F H : Hp} {Z : Option Zt} {v : V} {C : Addr} {fs : List (Str × D)} (h : At K F Z v (.exc C fs)) (hs : Same F H) : ∃ a dd, v = .ref a ∧ H a = some (xob C a dd) ∧ ∀ d, dd = some d → ∃ ws, H d = some (.xd ws) := by
  cases h with
  | exc0 h1 => exact ⟨_, none, rfl, hs _ _ h1, fun d e => by cases e⟩
  | exc h1 h2 h3 => exact ⟨_, _, rfl, hs _ _ h1, fun d e => by cases e; exact ⟨_, hs _ _ h2⟩⟩
theorem cd_isx {K : PySem.W.Frag} {sub : Addr → List Value → Option Bool} (hsub : ∀ C us b, sub C us = some b → ExcC K C ∧ PySem.W.kitAny K (.ref C) us = some b ∧ ∀ u, us = [u] → PySem.W.kitOne K (.ref C) u = some b) : CallD K (rIsX K) (isxF sub) := fun F H Z s xs ds g Q hs hd ax h k => by
  unfold isxF at h
  split at h
  · rw [Option.map_eq_some_iff] at h
    obtain ⟨b, e, rfl⟩ := h
    obtain ⟨v, w, rfl, a1, a2⟩ := two_inv ax
    obtain ⟨a, dd, rfl, x1, x2⟩ := exc_facts a1 hs
    cases a2
    obtain ⟨s1, s2, s3⟩ := hsub _ _ _ e
    exact ⟨_, a, dd, _, b, rfl, x1, x2, s1, .inl ⟨_, .own _, s3 _ rfl⟩, k F H _ (Ext.refl hs) hd (.bl _)⟩
  · rw [Option.map_eq_some_iff] at h
    obtain ⟨b, e, rfl⟩ := h
    obtain ⟨v, w, rfl, a1, a2⟩ := two_inv ax
    obtain ⟨a, dd, rfl, x1, x2⟩ := exc_facts a1 hs
    cases a2
    obtain ⟨s1, s2, s3⟩ := hsub _ _ _ e
    exact ⟨_, a, dd, _, b, rfl, x1, x2, s1, .inl ⟨_, .ty _, s3 _ rfl⟩, k F H _ (Ext.refl hs) hd (.bl _)⟩
  · rw [Option.bind_eq_some_iff] at h
    obtain ⟨us, eu, h⟩ := h
    rw [Option.map_eq_some_iff] at h
    obtain ⟨b, e, rfl⟩ := h
    obtain ⟨v, w, rfl, a1, a2⟩ := two_inv ax
    obtain ⟨a, dd, rfl, x1, x2⟩ := exc_facts a1 hs
    cases a2 with
    | tup h1 k1 =>
      obtain ⟨s1, s2, s3⟩ := hsub _ _ _ e
      exact ⟨_, a, dd, _, b, rfl, x1, x2, s1, .inr ⟨_, _, us, rfl, hs _ _ h1, clsVs_at k1 eu, s2⟩, k F H _ (Ext.refl hs) hd (.bl _)⟩
  · cases h

/-! ### error.at -/
def tXfk (C : Addr → Prop) (f : Str) (te : TE) : TE := fun σ H Q => te σ H fun x H1 => ∃ (a D dd : Addr) (ws : List (Str × V)) (v : V), x = .ref a ∧ C D ∧ H1 a = some (xob D a (some dd)) ∧ H1 dd = some (.xd ws) ∧ ws.lookup f = some v ∧ Q v H1
theorem pe_xfk {X : Cx} {C : Addr → Prop} {e : Expr} {te : TE} {pos : Pos} {n : Str} (T : ∀ D, C D → XfC X.K D ∧ PySem.W.findIn X.K (.ref D) n = some none) (he : PE X e te) (hb : attributeBase e n X.env (eval e X.env) = eval e X.env := by rfl) :
    PE X (.Attribute e n pos) (tXfk C n te) := by
  refine ⟨fun pins s σ H Q I h => ?_⟩
  refine attr_of hb (thn (he.run pins s σ H _ I h) fun u s1 hh => ?_)
  obtain ⟨x, H1, I1, rx, a, D, dd, ws, v, ex, hC, h1, h2, l, q⟩ := hh
  subst ex
  obtain rfl : u = Value.ref a := rx
  obtain ⟨oe, o1, ⟨o2, o3⟩, vs, o4⟩ := xob_at I1 h1
  obtain ⟨mA, hns, hr⟩ := (show ObjOk X.prog X.w H1 s1.heap dd (.xd ws) from I1.hok dd _ h2)
  obtain ⟨od, ho, hl⟩ := lookIn_ns hns
  obtain ⟨u, hu, ru⟩ := RelO.some_of (v := v) (o := mA n) (by rw [← l]; exact hr n)
  have J : PySem.W.InstAt s1.heap a oe D (some od) := ⟨o1, o2, by unfold PySem.W.notCls; rw [o4] <;> rfl, by rw [o3]; exact ho⟩
  obtain ⟨T1, T2⟩ := T D hC
  exact HandSPX.exc_get I1.kIn J T1.ga T1.gg T1.exC (PySem.W.findObj_own T1.hdC T2 rfl (by rw [hl, hu])) (handed_of ru) ⟨v, H1, I1.tok _, ru, q⟩
def xfF (C : Addr → Bool) (n : Str) : D → Option D
  | .exc D fs => if C D = true then fs.lookup n else none
  | _ => none
theorem fs_at {K : PySem.W.Frag} {F : Hp} {Z : Option Zt} {n : Str} {d : D} : ∀ {ws : List (Str × V)} {fs : List (Str × D)}, AtFs K F Z ws fs → fs.lookup n = some d → ∃ v, ws.lookup n = some v ∧ At K F Z v d
  | _, _, .nil, e => by simp at e
  | (k, v) :: ws, (_, d') :: fs, .cons h t, e => by
    by_cases z : n = k
    · subst z
      rw [List.lookup_cons, beq_self_eq_true] at e
      cases e
      exact ⟨v, by rw [List.lookup_cons, beq_self_eq_true], h⟩
    · have z2 : (n == k) = false := by simpa using z
      rw [List.lookup_cons, z2] at e
      obtain ⟨w, h1, h2⟩ := fs_at t e
      exact ⟨w, by rw [List.lookup_cons, z2]; exact h1, h2⟩
def eUn (f : D → Option D) (m : EM) : EM := fun ρ s => (m ρ s).bind fun d s1 => lift (f d) s1
theorem de_xf {X : Cx} {W : WX} {C : Addr → Bool} {e : Expr} {me : EM} {pos : Pos} {n : Str} (T : ∀ D, C D = true → XfC X.K D ∧ PySem.W.findIn X.K (.ref D) n = some none) (he : PE X e (tE X.K W me)) (hb : attributeBase e n X.env (eval e X.env) = eval e X.env := by rfl) :
    PE X (.Attribute e n pos) (tE X.K W (eUn (xfF C n) me)) := pe_weak (pe_xfk (C := fun D => C D = true) T he hb) fun σ H Q ⟨F, Z, ρ, s, hs, he, hd, h⟩ => by
  refine tE_then hs he hd h fun x s1 F1 H1 v1 e1 he1 hd1 a1 h => ?_
  obtain ⟨g, hg, k⟩ := post_now h
  unfold xfF at hg
  split at hg
  · split at hg
    · rename_i hC
      cases a1 with
      | exc0 h1 => simp at hg
      | exc h1 h2 h3 =>
        obtain ⟨v, l, av⟩ := fs_at h3 hg
        exact ⟨_, _, _, _, v, rfl, hC, e1.fh _ _ h1, e1.fh _ _ h2, l, k F1 H1 _ (Ext.refl e1.fh) hd1 av⟩
    · cases hg
  · cases hg
end FL
set_option Elab.async false
set_option linter.all false
set_option maxRecDepth 100000
set_option maxHeartbeats 4000000
/-! ## FL, 9: repr -/
namespace FL
open PySem PySem.Spec PyProof.Rows L2
mutual
def toR : D → Option PyData
  | .non => some .none
  | .bl b => some (.bool b)
  | .int i => some (.int i)
  | .str x => some (.str x)
  | .lst xs => (toRs xs).map .list
  | .tup xs => (toRs xs).map .tuple
  | .dic [] => some (.dict [])
  | _ => none
def toRs : List D → Option (List PyData)
  | [] => some []
  | x :: xs => match toR x, toRs xs with
    | some p, some ps => some (p :: ps)
    | _, _ => none
end
/-- a value with its text: as the library's, but that it is the dicts alone that aren't sys.modules -/
def Shows (prog : Program) (w : World) (h : Heap) (v : Value) (p : PyData) : Prop :=
  ∃ as, Reads h v p as ∧ (p.showable = true → p.shown.length ≤ sizeLine → ∃ bs, ReadAtMost h p.depth bs ∧ ReprK prog w bs h p.depth v p.shown)
def ShowsAll (prog : Program) (w : World) (h : Heap) (vs : List Value) (ps : List PyData) : Prop :=
  ∃ as, ReadsAll h vs ps as ∧ (PyData.showableAll ps = true → (∀ t ∈ PyData.shownAll ps, t.length ≤ sizeLine) → ∃ bs, ReadAtMost h (PyData.depthAll ps) bs ∧ ReprAllK prog w bs h (PyData.depthAll ps) vs (PyData.shownAll ps))
section
variable {prog : Program} {w : World} {h : Heap}
theorem shows_nil : ShowsAll prog w h [] [] := ⟨[], .nil, fun _ _ => ⟨[], fun _ z => (nomatch z), by simp only [PyData.shownAll]; exact .nil⟩⟩
theorem shows_cons {v : Value} {p : PyData} {vs : List Value} {ps : List PyData} (a : Shows prog w h v p) (b : ShowsAll prog w h vs ps) : ShowsAll prog w h (v :: vs) (p :: ps) := by
  obtain ⟨as, r1, k1⟩ := a
  obtain ⟨cs, r2, k2⟩ := b
  refine ⟨as ++ cs, .cons r1 r2, fun hs hz => ?_⟩
  have hs2 : p.showable = true ∧ PyData.showableAll ps = true := by simpa [PyData.showableAll] using hs
  obtain ⟨x1, m1, y1⟩ := k1 hs2.1 (hz _ (by simp only [PyData.shownAll]; exact List.mem_cons_self))
  obtain ⟨x2, m2, y2⟩ := k2 hs2.2 (fun t ht => hz _ (by simp only [PyData.shownAll]; exact List.mem_cons_of_mem _ ht))
  have d1 : p.depth ≤ PyData.depthAll (p :: ps) := by simp only [PyData.depthAll]; exact Nat.le_max_left _ _
  have d2 : PyData.depthAll ps ≤ PyData.depthAll (p :: ps) := by simp only [PyData.depthAll]; exact Nat.le_max_right _ _
  refine ⟨x1 ++ x2, (m1.mono d1).append (m2.mono d2), ?_⟩
  simp only [PyData.shownAll]
  exact .cons ((y1.more fun _ q => List.mem_append_left _ q).level_le d1) (y2.more_le (fun _ q => List.mem_append_right _ q) d2)
theorem shows_list {a : Addr} {o : Obj} {vs : Array Value} {n : Nat} {ps : List PyData} (h1 : h.get? a = some o) (h2 : o.cls = .type "list") (h3 : o.data = .seq vs n) (b : ShowsAll prog w h vs.toList ps) : Shows prog w h (.ref a) (.list ps) := by
  obtain ⟨as, r, k⟩ := b
  have R : Reads h (.ref a) (.list ps) _ := .list h1 h2 h3 r
  refine ⟨_, R, fun hs hz => ?_⟩
  have hz2 : (listText (PyData.shownAll ps)).length ≤ sizeLine := by simpa only [PyData.shown] using hz
  obtain ⟨bs, m, y⟩ := k (by simpa [PyData.showable] using hs) fun t ht => Nat.le_trans (listText_mem_le ht) hz2
  have hna : a ∉ bs := not_mem_of_deeper R (by simp only [PyData.depth]; omega) m
  refine ⟨a :: bs, ReadAtMost.cons R (by simp only [PyData.depth]; omega) m, ?_⟩
  simp only [PyData.depth, PyData.shown]
  obtain ⟨l⟩ := vs
  cases l with
  | nil =>
    have r2 : ReadsAll h [] ps _ := r
    cases r2
    simp only [PyData.shownAll, listText_nil]
    exact ReprK.listEmpty h1 h2 h3
  | cons x l => exact ReprK.list h1 h2 h3 hna (by simpa using y.length_eq) fun i u e => y.item i u (by simpa using e)
theorem shows_tuple {a : Addr} {o : Obj} {vs : Array Value} {n : Nat} {ps : List PyData} (h1 : h.get? a = some o) (h2 : o.cls = .type "tuple") (h3 : o.data = .seq vs n) (b : ShowsAll prog w h vs.toList ps) : Shows prog w h (.ref a) (.tuple ps) := by
  obtain ⟨as, r, k⟩ := b
  have R : Reads h (.ref a) (.tuple ps) _ := .tuple h1 h2 h3 r
  refine ⟨_, R, fun hs hz => ?_⟩
  have hz2 : (tupleText (PyData.shownAll ps)).length ≤ sizeLine := by simpa only [PyData.shown] using hz
  obtain ⟨bs, m, y⟩ := k (by simpa [PyData.showable] using hs) fun t ht => Nat.le_trans (tupleText_mem_le ht) hz2
  have hna : a ∉ bs := not_mem_of_deeper R (by simp only [PyData.depth]; omega) m
  refine ⟨a :: bs, ReadAtMost.cons R (by simp only [PyData.depth]; omega) m, ?_⟩
  simp only [PyData.depth, PyData.shown]
  exact ReprK.tuple h1 h2 h3 hna y
theorem shows_dict {a : Addr} {o : Obj} {es : Array DictEntry} {n : Nat} {kvs : List (PyData × PyData)} (h1 : h.get? a = some o) (h2 : o.cls = .type "dict") (h3 : o.data = .dict es n) (hsys : (a == sysModules) = false) (b1 : ShowsAll prog w h (es.toList.map (·.key)) (kvs.map (·.1))) (b2 : ShowsAll prog w h (es.toList.map (·.val)) (kvs.map (·.2))) :
    Shows prog w h (.ref a) (.dict kvs) := by
  obtain ⟨as, r1, k1⟩ := b1
  obtain ⟨cs, r2, k2⟩ := b2
  have R : Reads h (.ref a) (.dict kvs) _ := .dict h1 h2 h3 r1 r2
  refine ⟨_, R, fun hs hz => ?_⟩
  have hz2 : (dictText (PyData.shownKv kvs)).length ≤ sizeLine := by simpa only [PyData.shown] using hz
  obtain ⟨hs1, hs2⟩ := PyData.showableKv_split kvs (by simpa [PyData.showable] using hs)
  obtain ⟨x1, m1, y1⟩ := k1 hs1 fun t ht => let ⟨p, hp, hl⟩ := PyData.shownKv_key_le kvs t ht; Nat.le_trans hl (Nat.le_trans (dictText_mem_le hp) hz2)
  obtain ⟨x2, m2, y2⟩ := k2 hs2 fun t ht => let ⟨p, hp, hl⟩ := PyData.shownKv_val_le kvs t ht; Nat.le_trans hl (Nat.le_trans (dictText_mem_le hp) hz2)
  have m : ReadAtMost h (PyData.depthKv kvs) (x1 ++ x2) := (m1.mono (PyData.depthAll_keys_le kvs)).append (m2.mono (PyData.depthAll_vals_le kvs))
  have hna : a ∉ x1 ++ x2 := not_mem_of_deeper R (by simp only [PyData.depth]; omega) m
  refine ⟨a :: (x1 ++ x2), ReadAtMost.cons R (by simp only [PyData.depth]; omega) m, ?_⟩
  simp only [PyData.depth, PyData.shown, PyData.shownKv_eq]
  exact ReprK.dict h1 h2 h3 hsys hna (ReprEntriesK.of_two es.toList _ _ (y1.more_le (fun _ q => List.mem_append_left _ q) (PyData.depthAll_keys_le kvs)) (y2.more_le (fun _ q => List.mem_append_right _ q) (PyData.depthAll_vals_le kvs)))
theorem shows_leaf {v : Value} {p : PyData} {as : List Addr} (r : Reads h v p as) (hd : p.hasDict = false) : Shows prog w h v p := ⟨as, r, fun hs hz => ReprK.of_reads r hs (fun q => by rw [hd] at q; cases q) hz⟩
end
section
variable {X : Cx} {pins : List (Addr × Obj)} {σ : L2.St} {F H : Hp} {Z : Option Zt} {s : Shared}
mutual
theorem at_shows (I : Inv X pins σ H s) (hs : Same F H) : ∀ {d : D} {v : V} {u : Value} {p : PyData}, At X.K F Z v d → RelV v u → toR d = some p → Shows X.prog X.w s.heap u p
  | .non, _, _, _, .non, r, e => by
    simp only [toR, Option.some.injEq] at e
    subst e
    cases r
    exact shows_leaf .none (by simp only [PyData.hasDict])
  | .bl b, _, _, _, .bl _, r, e => by
    simp only [toR, Option.some.injEq] at e
    subst e
    cases r
    exact shows_leaf (.bool b) (by simp only [PyData.hasDict])
  | .int i, _, _, _, .int _, r, e => by
    simp only [toR, Option.some.injEq] at e
    subst e
    obtain ⟨t, rfl⟩ := r
    exact shows_leaf (.int i t) (by simp only [PyData.hasDict])
  | .str x, _, _, _, .str _, r, e => by
    simp only [toR, Option.some.injEq] at e
    subst e
    obtain ⟨t, rfl⟩ := r
    exact shows_leaf (.str x t) (by simp only [PyData.hasDict])
  | .lst ds, _, _, _, .lst h k, r, e => by
    simp only [toR, Option.map_eq_some_iff] at e
    obtain ⟨ps, e, rfl⟩ := e
    cases r
    obtain ⟨_, its, n, rv, ho⟩ := (show ObjOk X.prog X.w H s.heap _ (.lst _) from I.hok _ _ (hs _ _ h))
    exact shows_list ho rfl rfl (atAll_shows I hs k rv e)
  | .tup ds, _, _, _, .tup h k, r, e => by
    simp only [toR, Option.map_eq_some_iff] at e
    obtain ⟨ps, e, rfl⟩ := e
    cases r
    obtain ⟨_, its, rv, o, ho, hc, n, hd⟩ := (show ObjOk X.prog X.w H s.heap _ (.tup _) from I.hok _ _ (hs _ _ h))
    exact shows_tuple ho hc hd (atAll_shows I hs k rv e)
  | .dic [], _, _, _, .dic h .nil, r, e => by
    simp only [toR, Option.some.injEq] at e
    subst e
    cases r
    obtain ⟨_, hsys, vs, rel, o, es, ep, ho, hc, hd, hes, hb, _⟩ := (show ObjOk X.prog X.w H s.heap _ (.dK _) from I.hok _ _ (hs _ _ h))
    cases rel
    have he : es.toList = [] := by
      cases q : es.toList with
      | nil => rfl
      | cons a b => rw [q] at hb; first | exact hb.elim | cases hb
    exact shows_dict (kvs := []) ho hc.1 hd hsys (by rw [he]; exact shows_nil) (by rw [he]; exact shows_nil)
  | .dic (_ :: _), _, _, _, .dic _ _, _, e => by simp [toR] at e
  | .drw, _, _, _, .drw _, _, e => by simp [toR] at e
  | .exc _ _, _, _, _, .exc0 _, _, e => by simp [toR] at e
  | .exc _ _, _, _, _, .exc _ _ _, _, e => by simp [toR] at e
  | .scr _, _, _, _, .scr _, _, e => by simp [toR] at e
  | .ty _, _, _, _, .ty _, _, e => by simp [toR] at e
  | .cls _, _, _, _, .cls _, _, e => by simp [toR] at e
theorem atAll_shows (I : Inv X pins σ H s) (hs : Same F H) : ∀ {ds : List D} {vs : List V} {us : List Value} {ps : List PyData}, AtAll X.K F Z vs ds → Vals vs us → toRs ds = some ps → ShowsAll X.prog X.w s.heap us ps
  | [], _, _, _, .nil, r, e => by
    simp only [toRs, Option.some.injEq] at e
    subst e
    cases r
    exact shows_nil
  | d :: ds, _, _, _, .cons h k, r, e => by
    simp only [toRs] at e
    split at e
    · rename_i p ps e1 e2
      cases e
      cases r with
      | cons r1 r2 => exact shows_cons (at_shows I hs h r1 e1) (atAll_shows I hs k r2 e2)
    · cases e
end
end
section
variable {prog : Program} {w : World} {h0 : Heap} {a : Addr}
theorem showsBy_list {o : Obj} {vs : Array Value} {n : Nat} {ps : List PyData} (h1 : h0.get? a = some o) (h2 : o.cls = .type "list") (h3 : o.data = .seq vs n) (b : ShowsAll prog w h0 vs.toList ps) (hs : PyData.showableAll ps = true) (hz : (PyData.shown (.list ps)).length ≤ sizeLine) :
    ShowsBy prog w h0 a (.list ps) "list" "list.__repr__" := by
  obtain ⟨as, r, k⟩ := b
  have hz2 : (listText (PyData.shownAll ps)).length ≤ sizeLine := by simpa only [PyData.shown] using hz
  obtain ⟨bs, m, y⟩ := k hs fun t ht => Nat.le_trans (listText_mem_le ht) hz2
  have hna : a ∉ bs := not_mem_of_deeper (.list h1 h2 h3 r) (by simp only [PyData.depth]; omega) m
  refine ⟨F.slot_list_repr.toG, F.slot_list_str, F.slot_list_format, fun s k0 => ⟨o, k0 _ _ h1, h2⟩, fun A E s Q hg hu k0 hQ => ?_⟩
  simp only [PyData.depth] at hu
  simp only [PyData.shown] at hQ
  obtain ⟨l⟩ := vs
  cases l with
  | nil =>
    have r2 : ReadsAll h0 [] ps _ := r
    cases r2
    simp only [PyData.shownAll, listText_nil] at hQ
    exact call_list_repr_empty ⟨o, k0 _ _ h1, h2⟩ (k0 _ _ h1) h3 (hQ s.heap _ _ fun _ _ e => e)
  | cons x l => exact call_list_reprK h1 h2 h3 hna (by simpa using y.length_eq) (fun i u e => y.item i u (by simpa using e)) hg (fun b _ => Clear.nil b) hu k0 hQ hz2
theorem showsBy_tuple {o : Obj} {vs : Array Value} {n : Nat} {ps : List PyData} (h1 : h0.get? a = some o) (h2 : o.cls = .type "tuple") (h3 : o.data = .seq vs n) (b : ShowsAll prog w h0 vs.toList ps) (hs : PyData.showableAll ps = true) (hz : (PyData.shown (.tuple ps)).length ≤ sizeLine) :
    ShowsBy prog w h0 a (.tuple ps) "tuple" "tuple.__repr__" := by
  obtain ⟨as, r, k⟩ := b
  have hz2 : (tupleText (PyData.shownAll ps)).length ≤ sizeLine := by simpa only [PyData.shown] using hz
  obtain ⟨bs, m, y⟩ := k hs fun t ht => Nat.le_trans (tupleText_mem_le ht) hz2
  have hna : a ∉ bs := not_mem_of_deeper (.tuple h1 h2 h3 r) (by simp only [PyData.depth]; omega) m
  refine ⟨F.slot_tuple_repr, F.slot_tuple_str, F.slot_tuple_format, fun s k0 => ⟨o, k0 _ _ h1, h2⟩, fun A E s Q hg hu k0 hQ => ?_⟩
  simp only [PyData.depth] at hu
  simp only [PyData.shown] at hQ
  exact call_tuple_reprK h1 h2 h3 hna y hg (fun b _ => Clear.nil b) hu k0 hQ hz2
end
/-- repr(x), x a list or a tuple -/
def rRepr (K : PySem.W.Frag) : List V → Hp → VK → Prop := fun xs H Q => ∃ F Z d p x, xs = [x] ∧ Same F H ∧ At K F Z x d ∧ toR d = some p ∧ (tyOf d = some "list" ∨ tyOf d = some "tuple") ∧ p.showable = true ∧ p.shown.length ≤ sizeLine ∧ p.depth ≤ 40 ∧ Q (.str p.shown) H
theorem call_reprG {X : Cx} {k : Nat} (hr : Rm k X.A) : CallR X (.builtin "repr") (rRepr X.K) := by
  intro pins s σ H xs us Q I r h
  obtain ⟨F, Z, d, p, x, rfl, hs, a, e, ht, h1, h2, h3, q⟩ := h
  obtain ⟨u, rfl, r1⟩ := vals1 r
  have un := hr.r.units
  have fin : ∀ {T idr : String} {b : Addr}, ShowsBy X.prog X.w s.heap b p T idr → wpAny (model X.prog X.w) X.A (call (.builtin "repr") [.ref b]) (EP X pins σ Q) X.xe s := fun {T idr b} S =>
    call_repr_slot (by omega) (S.typeIs s fun _ _ z => z) S.slotRepr (S.call X.A.in1 _ s _ hr.g (by show X.A.units + 1 + p.depth < cLine; omega) (fun _ _ z => z) fun h2 u2 tk hk => ⟨_, _, rfl, ⟨.str _, H, I.kept (t' := tk) hk, ⟨_, rfl⟩, q⟩⟩)
  cases a with
  | @lst b vs ds h k2 =>
    cases r1
    simp only [toR, Option.map_eq_some_iff] at e
    obtain ⟨ps, e, rfl⟩ := e
    obtain ⟨_, its, n, rv, ho⟩ := (show ObjOk X.prog X.w H s.heap b (.lst vs) from I.hok b _ (hs _ _ h))
    exact fin (showsBy_list ho rfl rfl (atAll_shows I hs k2 rv e) (by simpa [PyData.showable] using h1) h2)
  | @tup b vs ds h k2 =>
    cases r1
    simp only [toR, Option.map_eq_some_iff] at e
    obtain ⟨ps, e, rfl⟩ := e
    obtain ⟨_, its, rv, o, ho, hc, n, hd⟩ := (show ObjOk X.prog X.w H s.heap b (.tup vs) from I.hok b _ (hs _ _ h))
    exact fin (showsBy_tuple ho hc hd (atAll_shows I hs k2 rv e) (by simpa [PyData.showable] using h1) h2)
  | _ => rcases ht with z | z <;> simp [tyOf] at z
def reprF : List D → Option D
  | [d] => match toR d with
    | some p => if (tyOf d = some "list" ∨ tyOf d = some "tuple") ∧ p.showable = true ∧ p.shown.length ≤ sizeLine ∧ p.depth ≤ 40 then some (.str p.shown) else none
    | none => none
  | _ => none
theorem cd_repr {K : PySem.W.Frag} : CallD K (rRepr K) reprF := fun F H Z s xs ds g Q hs hd ax h k => by
  unfold reprF at h
  split at h
  · split at h
    · rename_i p e
      split at h
      · rename_i hz
        cases h
        obtain ⟨v, rfl, a⟩ := one_inv ax
        exact ⟨F, Z, _, p, v, rfl, hs, a, e, hz.1, hz.2.1, hz.2.2.1, hz.2.2.2, k F H _ (Ext.refl hs) hd (.str _)⟩
      · cases h
    · cases h
  · cases h
end FL
set_option Elab.async false
set_option linter.all false
set_option maxRecDepth 100000
set_option maxHeartbeats 4000000
/-! ## FL, 10: raise, try -/
namespace FL
open PySem PySem.Spec PyProof.Rows L2
/-! ### class X(..): def __init__(self, f): self.f = f -/
def spI (C : Addr) (f : Str) : Sp := fun vs H Q _ => ∃ a v, vs = [.ref a, v] ∧ H a = some (exo a C none) ∧ ∀ dx, H dx = none → dx ≠ a → Q .non (upd (upd H dx (exd dx [(f, v)])) a (exo a C (some dx)))
section
variable {P : Program} {w : World} {K : PySem.W.Frag} {mg : Str → Option Value} {base : Heap}
theorem ok_excInit {x qual y : Str} {st : Stmt} {f C : Addr} {fd : FuncData} {p1 p2 p3 p4 : Pos} (T : L2.Fun K x qual st f fd) (Sc : FnScope ["self", y] ["self", y] (defScope st)) (X : OexC K C) (no : PySem.W.findIn K (.ref C) y = some none)
    (hv : Vis (defScope st) y) (hs : Vis (defScope st) "self") (hb : defBody st = [.Assign [.Attribute (.Name "self" p1) y p2] (.Name y p3) p4]) (hd : (y == ("__debug__" : Str)) = false) (hcd : (y == ("__classdict__" : Str)) = false) :
    FnOk P w K mg base CX0 1 f fd ["self", y] (spI C y) := by
  refine T.ok Sc (fun vs H Q E h => ?_) (fun cdv A outer s H vs Q E hr h => ?_)
  · obtain ⟨a, v, rfl, _⟩ := h
    rfl
  · obtain ⟨a, v, rfl, ha, k⟩ := h
    rw [hb]
    refine ⟨_, pss_one (ps_ost (pe_var (i := 0) rfl hs) (pe_var (i := 1) rfl hv hd hcd)), ?_⟩
    exact ⟨v, rfl, _, rfl, a, C, rfl, X, no, .inl ⟨ha, fun dx n ne => k dx n ne⟩⟩
end
section
variable {X : Cx} {W : WX} {me : EM}
def sRaise (C : Addr) (f : Str) (m : EM) : SM := fun ρ s => after (runD m ρ s) ρ fun d s' => .ex C [(f, d)] ρ s'
theorem del_upd {H : Hp} {a d : Addr} {C : Addr} {fs : List (Str × V)} (ha : H a = none) (hd : d ≠ a) : upd (del (upd (upd (upd H a (exo a C none)) d (exd d fs)) a (exo a C (some d))) a) d (.xd fs) = upd H d (.xd fs) := by
  funext b
  by_cases h1 : b = d
  · subst h1
    rw [upd_same, upd_same]
  · rw [upd_ne h1, upd_ne h1]
    by_cases h2 : b = a
    · subst h2
      rw [ha]
      exact if_pos rfl
    · rw [del_ne h2, upd_ne h2, upd_ne h1, upd_ne h2]
theorem ds_raise {st : Stmt} {C : Addr} {f : Str} (h : PS X st (fun _ σ H => tMkO C (spI C f) [] (tCons (tE X.K W me) tNil) σ H fun cls d H' => W cls d σ H')) : PS X st (tS X.K W (sRaise C f me)) := ps_weak h fun D σ H ⟨F0, H0, Z, F, ρ, s, a, h⟩ => by
  refine run_read a (after_post a h fun d s' F1 H1 v a1 _ av p => ?_)
  refine ⟨by show 1 ≤ 1000; decide, fun b hb => ⟨b, v, rfl, upd_same, fun dx hdx ne => ⟨rfl, dx, [(f, v)], upd_same, ?_, ?_, ?_⟩⟩⟩
  · rw [upd_ne ne]
    exact upd_same
  · rw [upd_ne ne] at hdx
    exact hdx
  · rw [upd_ne ne] at hdx
    rw [del_upd hb ne]
    have e := Ext.new (Z := Z) (o := .xd [(f, v)]) a1.ext.fh hdx
    have b2 := a1.go e (a1.dr.new a1.ext.fh hdx)
    exact p _ _ σ (some dx) b2.ext b2.dr b2.sl (.inr ⟨dx, _, rfl, upd_same, upd_same, .cons (av.mono (same_new a1.ext.fh hdx)) .nil⟩)
end

/-! ### try: body, except x as n: y = n; the exception is kept behind it -/
section
variable {X : Cx} {pins : List (Addr × Obj)} {σ : L2.St} {H : Hp} {s : Shared}
/-- an exception's object that stands pinned is tracked from here on -/
theorem Inv.keepX {C a : Addr} {dd : Option Addr} {oe : Obj} {vs : Array Value} (I : Inv X ((a, oe) :: pins) σ H s) (hz : Zc (.ref C) dd oe) (hd : oe.data = .fields vs) (h0 : X.s_0.heap.get? a = none) (hp : ∀ p ∈ X.pn ++ pins, p.1 ≠ a) : Inv X pins σ (upd H a (xob C a dd)) s := by
  obtain ⟨e1, e2, e3, e4, e5⟩ := I.pin (a, oe) (List.mem_append_right _ List.mem_cons_self)
  dsimp only at e1 e2 e3 e4 e5
  have nn : ∀ {b : Addr} {u : HO}, H b = some u → b ≠ a := fun {b u} q z => by rw [z, e2] at q; cases q
  have n0 : ∀ {b : Addr} {o : Obj}, X.s_0.heap.get? b = some o → b ≠ a := fun {b o} q z => by rw [z, h0] at q; cases q
  have nc : ∀ {x : Str} {c : Addr}, X.env.cells.lookup x = some c → c ≠ a := fun {x c} q z => by
    obtain ⟨v, o, ho, hdat⟩ := I.cell x c q
    rw [z, e1] at ho
    cases ho
    exact e5 v hdat
  refine ⟨I.ok, I.os, I.bare, ⟨I.base.keep, I.base.slot, fun b o q n hx => ?_, I.base.there, fun b xs q => ?_, fun b o u q => ?_, fun b ps q => ?_⟩, I.loc, I.cell, ?_, fun x c q => ?_, fun p hm => ?_, fun b u q => ?_, I.len⟩
  · rw [upd_ne (n0 q)]
    exact I.base.free b o q n hx
  · have q2 := I.base.tups b xs q
    rw [upd_ne (nn q2)]
    exact q2
  · have q2 := I.base.frzs b o u q
    rw [upd_ne (nn q2)]
    exact q2
  · obtain ⟨m, q2⟩ := I.base.tbls b ps q
    exact ⟨m, by rw [upd_ne (nn q2)]; exact q2⟩
  · rw [upd_ne (Ne.symm e3)]
    exact I.free
  · rw [upd_ne (nc q)]
    exact I.freeC x c q
  · obtain ⟨f1, f2, f3, f4, f5⟩ := I.pin p (by
      rcases List.mem_append.mp hm with z | z
      · exact List.mem_append_left _ z
      · exact List.mem_append_right _ (List.mem_cons_of_mem _ z))
    exact ⟨f1, by rw [upd_ne (hp p hm)]; exact f2, f3, f4, f5⟩
  · by_cases hb : b = a
    · subst hb
      rw [upd_same] at q
      cases q
      exact ⟨⟨oe, e1, hz, vs, hd⟩, ⟨oe, e1⟩, fun h1 h2 ⟨o, q1, q2⟩ k => ⟨o, k o q1, q2⟩⟩
    · rw [upd_ne hb] at q
      exact (I.hok b u q).stay (fun c v _ r => r) (fun c r => by rw [upd_ne (nn r)]; exact r) fun c xs r => by rw [upd_ne (nn r)]; exact r
/-- what the clause wishes: n in slot i, y in slot j -/
def wKeep (K : PySem.W.Frag) (c : Value) (i j : Nat) (nx : L2.St → Hp → Prop) : WX := fun cls d σ H => ∃ C, cls = .ref C ∧ PySem.W.exmOne K cls c = some true ∧ ∀ a, H a = none → nx (((σ.set i (some (.ref a))).set j (some (.ref a))).set i none) (upd H a (xob C a d))
theorem ps_try_keep {x n y : Str} {c : Value} {i j : Nat} {body : List Stmt} {np p1 p2 p3 pos pos2 : Pos} {tb : WX → TS} (hst : X.stack = X.env :: X.outer) (hfr : X.env.frame = some X.env.locals) (hex : X.ex = []) (hN : X.N.Nodup) (hi : X.N[i]? = some n) (hj : X.N[j]? = some y) (hln : X.env.kindOf n = some .local) (hly : X.env.scope.names.lookup y = some .local)
    (hdn : (n == ("__debug__" : Str)) = false := by decide) (hcn : (n == ("__classdict__" : Str)) = false := by decide) (hc : Names X x c)
    (hb : ∀ (W : WX) (pn : List (Addr × Obj)) (xe : Value → Shared → Prop), Takes (X.tr pn xe) W → PassesOwn (model X.prog X.w) X.A X.env xe → PSs (X.tr pn xe) body (tb W))
    (hsw : ∀ env, swapsWith (.Name n p1) (some (.Name y p2)) p3.line env = pure false := by intro _; rfl) :
    PS X (.Try body [.ExceptHandler (some (.Name x np)) (some n) [.Assign [.Name y p2] (.Name n p1) p3] pos2] [] [] pos) (fun D σ H => tb (wKeep X.K c i j D.nx) D σ H) := by
  refine ⟨fun pins s σ H D I h => ?_⟩
  have ok := I.ok
  have frA : X.A.frames = some (X.env :: X.outer) := by rw [ok.frames, hst]
  have locn : Loc X.env.scope n := .inl hln
  refine wpAny_Try_except ?_
  refine wpAny_mono ((hb (wKeep X.K c i j D.nx) (X.pn ++ pins) (fun e s1 => wpAny (model X.prog X.w) X.A (noteFrame e X.env) (fun _ s2 => wpAny (model X.prog X.w) X.A (setFlight e none) (fun _ s3 =>
    wpAny (model X.prog X.w) X.A (handleBy e X.env [.ExceptHandler (some (.Name x np)) (some n) [.Assign [.Name y p2] (.Name n p1) p3] pos2]) (SP X pins D) X.xe s3) X.xe s2) X.xe s1) (fun u s2 xx => ?_) PassesOwn.looking).run [] s σ H D (I.toTry _) h) (fun fl s1 hsp => ?_) (fun e s1 he => he)
  · obtain ⟨a, B, sI, pins2, σ2, H2, cls, d, rfl, J2, nb, up, sky, na, os, ag, C, rfl, hcatch, hnx⟩ := xx
    have J : Inv X pins σ2 H2 sI := J2.ofTry ok
    have sky2 : Sky B (X.env :: X.outer) a (Zc (.ref C) d) X.env.locals s2.heap := by rw [← hst]; exact sky
    show wpAny (model X.prog X.w) X.A (noteFrame (.ref a) X.env) _ _ _
    refine Sky.land Zc.steady frA hfr sky2 fun h3 fl3 up3 => ?_
    have J3 : Inv X pins σ2 H2 { s2 with heap := h3 } := J.landed nb fl3.1 (up.trans up3) os ag
    obtain ⟨oe3, vs3, he3, hz3, hd3⟩ := fl3.there
    have noFr : a ∉ frs (X.env :: X.outer) := fun hm => by
      obtain ⟨_, o2, eo, hnf⟩ := fl3.2.2.1.mem hm
      rw [he3] at eo
      cases eo
      exact hnf _ hd3
    have Bnone : B.get? a = none := fl3.2.1
    have sInone : sI.heap.get? a = none := by
      cases q : sI.heap.get? a with
      | none => rfl
      | some o =>
        have z := nb a o q (by rw [hst]; exact noFr)
        rw [Bnone] at z
        cases z
    have s0none : X.s_0.heap.get? a = none := by
      cases q : X.s_0.heap.get? a with
      | none => rfl
      | some o =>
        obtain ⟨o2, z⟩ := J.base.there a o q (by rw [hex]; exact fun z => nomatch z)
        rw [sInone] at z
        cases z
    have pinNe : ∀ p ∈ X.pn ++ pins, p.1 ≠ a := fun p hm z => by
      obtain ⟨q, _⟩ := J.pin p hm
      rw [z, sInone] at q
      cases q
    have nL : a ≠ X.env.locals := fun z => noFr (List.mem_filterMap.mpr ⟨X.env, List.mem_cons_self, by rw [hfr, z]⟩)
    have nF : a ∉ X.fs := fun hm => by
      obtain ⟨e2, he2, q⟩ := List.mem_filterMap.mp hm
      exact noFr (List.mem_filterMap.mpr ⟨e2, List.mem_cons_of_mem _ he2, q⟩)
    have S3 := J3.suite he3 hd3 na nL nF
    refine wpAny_handleBy_cons (codeAny_handlers_test ?_) (by intro q; cases q)
    have LT : PySem.W.Looks (model X.prog X.w) h3 (typeOf (.ref a)) (.ref C) := fun A2 Q2 E2 s5 k q => wpAny_typeOf_ref (k _ _ he3) (by rw [hz3.1]; exact q)
    have LM := PySem.W.exm_one (M := model X.prog X.w) J3.kIn LT hcatch
    have test : ∀ {Q2 : Value → Shared → Prop} {E2 : Value → Shared → Prop}, Q2 c { s2 with heap := h3 } → wpAny (model X.prog X.w) (X.A.mark (some (.ref a))) (eval (.Name x np) X.env) Q2 E2 { s2 with heap := h3 } := fun {Q2 E2} q => by
      obtain ⟨hg, hdbg, hm | ⟨hm, hv, hnn⟩⟩ := hc
      · exact ld_glob (X := X.suite a ((a, oe3) :: (X.pn ++ pins))) S3 hg hm q hdbg
      · exact ld_blt (X := X.suite a ((a, oe3) :: (X.pn ++ pins))) S3 hg hm hv q hnn hdbg
    refine test (LM.here ?_)
    refine codeAny_handlers_suite_as ?_
    refine HandSPX.lands_againZ fl3 fun h4 fl4 up4 => ?_
    have J4 : Inv X pins σ2 H2 { s2 with heap := h4 } := J.landed nb fl4.1 ((up.trans up3).trans up4) os ag
    obtain ⟨oe4, vs4, he4, hz4, hd4⟩ := fl4.there
    have S4 := J4.suite he4 hd4 na nL nF
    refine store_ok (X := X.suite a ((a, oe4) :: (X.pn ++ pins))) (v := .ref a) S4 hN hi locn rfl (fun s5 S5 => ?_) (.inr hln)
    have il : i < σ2.length := by
      have q := (List.getElem?_eq_some_iff.mp hi).1
      rw [J.len]
      exact q
    have body : PSs (X.suite a ((a, oe4) :: (X.pn ++ pins))) [.Assign [.Name y p2] (.Name n p1) p3] (tAsg (tVar i) (gName j)) := pss_one (ps_set hN hj (.inl hly) (pe_var hi (.inl hln) hdn hcn) (hsw _) (.inr hly))
    refine wpAny_mono (body.run [] s5 _ H2 { nx := fun σ6 H6 => σ6 = (σ2.set i (some (.ref a))).set j (some (.ref a)) ∧ H6 = H2, rt := fun _ _ => False } S5 ⟨_, List.getElem?_set_self il, rfl, rfl⟩) (fun fl s6 hsp => ?_) (fun _ _ z => z.elim)
    cases fl with
    | next =>
      obtain ⟨σ6, H6, S6, rfl, rfl⟩ := hsp
      have S7 : Inv X ((a, oe4) :: pins) ((σ2.set i (some (.ref a))).set j (some (.ref a))) H6 s6 := by
        refine ⟨ok, S6.os, S6.bare, S6.base, S6.loc, S6.cell, S6.free, S6.freeC, fun p hm => S6.pin p (List.mem_append_left _ ?_), S6.hok, S6.len⟩
        rcases List.mem_append.mp hm with z | z
        · exact List.mem_cons_of_mem _ (List.mem_append_left _ z)
        · rcases List.mem_cons.mp z with z | z
          · rw [z]; exact List.mem_cons_self
          · exact List.mem_cons_of_mem _ (List.mem_append_right _ z)
      exact gone_ok S7 hN hi hln fun s7 J7 => ⟨_, _, Inv.keepX J7 hz4 hd4 s0none pinNe, hnx a na⟩
    | brk => obtain ⟨_, _, _, z⟩ := hsp; exact z.elim
    | cont => obtain ⟨_, _, _, z⟩ := hsp; exact z.elim
    | ret u => obtain ⟨_, _, _, _, _, z⟩ := hsp; exact z.elim
  · cases fl with
    | next =>
      obtain ⟨σ2, H2, J2, q⟩ := hsp
      exact wpAny_execs_nil ⟨σ2, H2, J2.ofTry ok, q⟩
    | brk =>
      obtain ⟨σ2, H2, J2, q⟩ := hsp
      exact ⟨σ2, H2, J2.ofTry ok, q⟩
    | cont =>
      obtain ⟨σ2, H2, J2, q⟩ := hsp
      exact ⟨σ2, H2, J2.ofTry ok, q⟩
    | ret u =>
      obtain ⟨v, σ2, H2, J2, r, q⟩ := hsp
      exact ⟨v, σ2, H2, J2.ofTry ok, r, q⟩
end
def sTry (catch_ : Addr → Bool) (i j : Nat) (mb : SM) : SM := fun ρ s => match mb ρ s with
  | .ex C fs ρ' s' => if catch_ C = true ∧ i ≠ j then .nx ((ρ'.set j (some (.dat (.exc C fs)))).set i none) s' else .bad
  | r => r
theorem SlAt.setN {K : PySem.W.Frag} {Z : Option Zt} {H0 F H : Hp} {σ : L2.St} {ρ : Sls} (h : SlAt K Z H0 F H σ ρ) (i : Nat) (o : Option V) : SlAt K Z H0 F H (σ.set i o) (ρ.set i none) := by
  have ne : ∀ {j : Nat} {x : Sl}, (ρ.set i none)[j]? = some (some x) → i ≠ j ∧ ρ[j]? = some (some x) := fun {j x} q => by
    have hj : i ≠ j := fun z => by
      subst z
      by_cases hi : i < ρ.length
      · rw [List.getElem?_set_self hi] at q; cases q
      · rw [List.getElem?_eq_none (by rw [List.length_set]; omega)] at q; cases q
    rw [List.getElem?_set_ne hj] at q
    exact ⟨hj, q⟩
  refine ⟨by rw [List.length_set, List.length_set]; exact h.len, fun j d q => ?_, fun j xs q => ?_, fun j k xs ys b q1 q2 r1 r2 => ?_⟩
  · obtain ⟨hj, q⟩ := ne q
    obtain ⟨v, h1, h2⟩ := h.dat j d q
    exact ⟨v, by rw [List.getElem?_set_ne hj]; exact h1, h2⟩
  · obtain ⟨hj, q⟩ := ne q
    obtain ⟨b, vs, h1, h2⟩ := h.own j xs q
    exact ⟨b, vs, by rw [List.getElem?_set_ne hj]; exact h1, h2⟩
  · obtain ⟨h1, q1⟩ := ne q1
    obtain ⟨h2, q2⟩ := ne q2
    rw [List.getElem?_set_ne h1] at r1
    rw [List.getElem?_set_ne h2] at r2
    exact h.apart j k xs ys b q1 q2 r1 r2
theorem ds_try {X : Cx} {W : WX} {st : Stmt} {c : Value} {i j : Nat} {catch_ : Addr → Bool} {mb : SM} (hcatch : ∀ C, catch_ C = true → PySem.W.exmOne X.K (.ref C) c = some true) (h : PS X st (fun D σ H => tS X.K (wKeep X.K c i j D.nx) mb D σ H)) : PS X st (tS X.K W (sTry catch_ i j mb)) := ps_weak h fun D σ H ⟨F0, H0, Z, F, ρ, s, a, h⟩ => by
  refine ⟨F0, H0, Z, F, ρ, s, a, ?_⟩
  unfold sTry at h
  cases q : mb ρ s with
  | bad => rw [q] at h; exact h
  | nx ρ2 s2 => rw [q] at h; exact h
  | bk ρ2 s2 => rw [q] at h; exact h
  | ct ρ2 s2 => rw [q] at h; exact h
  | rt d s2 => rw [q] at h; exact h
  | ex C fs ρ2 s2 =>
    rw [q] at h
    dsimp only at h
    split at h
    · rename_i hz
      intro F2 H2 σ2 dd e d2 l2 xd
      refine ⟨C, rfl, hcatch C hz.1, fun b hb => ?_⟩
      have b0 : At0 X.K Z F0 H0 F2 H2 σ2 ρ2 s2 := ⟨e, d2, l2⟩
      have e3 := Ext.new (Z := Z) (o := xob C b dd) e.fh hb
      have b1 := b0.go e3 (d2.new e.fh hb)
      have fb : F2 b = none := e.fh.free hb
      have av : At X.K (upd F2 b (xob C b dd)) Z (.ref b) (.exc C fs) := by
        rcases xd with ⟨rfl, rfl⟩ | ⟨d, ws, rfl, x1, x2, x3⟩
        · exact .exc0 upd_same
        · exact .exc upd_same (by rw [upd_ne (ne_of_none x2 fb)]; exact x2) (x3.mono (same_new e.fh hb))
      have b2 := b1.setD (i := j) av
      have b3 : At0 X.K Z F0 H0 (upd F2 b (xob C b dd)) (upd H2 b (xob C b dd)) ((σ2.set j (some (.ref b))).set i none) ((ρ2.set j (some (.dat (.exc C fs)))).set i none) s2 := ⟨b2.ext, b2.dr, b2.sl.setN i none⟩
      have es : ((σ2.set i (some (V.ref b))).set j (some (V.ref b))).set i none = (σ2.set j (some (V.ref b))).set i none := by
        rw [List.set_comm _ _ hz.2, List.set_set]
      rw [es]
      exact post_nx h b3
    · exact h.elim
end FL
set_option Elab.async false
set_option linter.all false
set_option maxRecDepth 100000
set_option maxHeartbeats 4000000
/-! ## FL, 11: small forms: a sign in a text, join, a written dict's get, a call by names alone, {k: v}, several names at once, whole parts -/
namespace FL
open PySem PySem.Spec PyProof.Rows L2
/-! ### c in s -/
theorem one_sign {a : Str} {k : Nat} (h : a.cps.toList = [k]) : a = ⟨#[k]⟩ := by
  obtain ⟨⟨l⟩⟩ := a
  dsimp only at h
  subst h
  rfl
theorem od_sign {K : PySem.W.Frag} : OpD K (fun x y H Q => ∃ (c : Nat) (z : Str), x = .str ⟨#[c]⟩ ∧ y = .str z ∧ Q (.bl (decide (c ∈ z.cps.toList))) H) (signF false) := fun F H Z s x y d e w Q hs hd ax ay h k => by
  unfold signF at h
  split at h
  · split at h
    · rename_i q
      cases h
      have e1 := one_sign q
      subst e1
      cases ax
      cases ay
      exact ⟨_, _, rfl, rfl, k F H _ (Ext.refl hs) hd (.bl _)⟩
    · cases h
  · cases h
theorem od_notSign {K : PySem.W.Frag} : OpD K (fun x y H Q => ∃ (c : Nat) (z : Str), x = .str ⟨#[c]⟩ ∧ y = .str z ∧ Q (.bl (!decide (c ∈ z.cps.toList))) H) (signF true) := fun F H Z s x y d e w Q hs hd ax ay h k => by
  unfold signF at h
  split at h
  · split at h
    · rename_i q
      cases h
      have e1 := one_sign q
      subst e1
      cases ax
      cases ay
      exact ⟨_, _, rfl, rfl, k F H _ (Ext.refl hs) hd (.bl _)⟩
    · cases h
  · cases h
/-! ### a // b -/
instance {i j : Int} : Decidable (CDivW i j) := by unfold CDivW; exact inferInstance
def divF : D → D → Option D := intF fun i j => if CDivW i j then some (.int (i / j)) else none
theorem od_div {K : PySem.W.Frag} : OpD K (rI CDivW fun i j => .int (i / j)) divF := od_intC fun i j w h => by
    split at h
    · rename_i hz
      cases h
      exact ⟨hz, fun _ _ _ => .int _⟩
    · cases h
/-! ### sep.join(list | tuple of texts) -/
def strsD : List D → Option (List Str)
  | [] => some []
  | .str b :: r => (strsD r).map (b :: ·)
  | _ => none
theorem strs_at {K : PySem.W.Frag} {F : Hp} {Z : Option Zt} : ∀ {vs : List V} {ts : List D} {ns : List Str}, AtAll K F Z vs ts → strsD ts = some ns → vs = ns.map V.str
  | _, [], _, .nil, e => by
    simp only [strsD, Option.some.injEq] at e
    subst e
    rfl
  | _, d :: ts, ns, .cons h k, e => by
    cases d with
    | str n =>
      unfold strsD at e
      rw [Option.map_eq_some_iff] at e
      obtain ⟨r, e, rfl⟩ := e
      rw [strs_at k e]
      cases h
      rfl
    | _ => simp [strsD] at e
def joinG (a : Str) (ts : List D) : Option D := (strsD ts).bind fun ys => if (ys.map (·.length)).sum + ys.length * a.length ≤ 16777216 then some (.str (Txt.join a ys)) else none
def joinF : D → D → Option D
  | .str a, .lst ts => joinG a ts
  | .str a, .tup ts => joinG a ts
  | _, _ => none
section
variable {X : Cx} {W : WX} {o e : Expr} {mo me : EM} {apos pos : Pos}
theorem joinG_inv {a : Str} {ts : List D} {g : D} (h : joinG a ts = some g) : ∃ ys, strsD ts = some ys ∧ (ys.map (·.length)).sum + ys.length * a.length ≤ 16777216 ∧ g = .str (Txt.join a ys) := by
  unfold joinG at h
  rw [Option.bind_eq_some_iff] at h
  obtain ⟨ys, e, h⟩ := h
  split at h
  · rename_i hz
    cases h
    exact ⟨ys, e, hz, rfl⟩
  · cases h
def eJoin (mo me : EM) : EM := fun ρ s => (mo ρ s).bind fun x s1 => match x with
  | .str a => (me ρ s1).bind fun y s2 => lift (joinF (.str a) y) s2
  | _ => .bad
theorem de_join (ho : PE X o (tE X.K W mo)) (he : PE X e (tE X.K W me)) (hs : starEach [e] X.env = [(false, eval e X.env)] := by rfl) (hbase : attributeBase o "join" X.env (eval o X.env) = eval o X.env := by rfl) (hline : (apos.endLine == pos.line) = true := by rfl) :
    PE X (.Call (.Attribute o "join" apos) [e] [] pos) (tE X.K W (eJoin mo me)) := pe_weak (pe_join ho he hs hbase hline) fun σ H Q ⟨F, Z, ρ, s, hs, he, hd, h⟩ => by
  refine tE_then hs he hd h fun x s1 F1 H1 v1 e1 he1 hd1 a1 h => ?_
  cases x with
  | str a =>
    refine ⟨⟨a, at_str a1⟩, ?_⟩
    refine tE_then e1.fh he1 hd1 h fun y s2 F2 H2 v2 e2 he2 hd2 a2 h => ?_
    obtain ⟨g, hg, k⟩ := post_now h
    unfold joinF at hg
    split at hg
    · rename_i q
      cases q
      obtain ⟨ys, q1, q2, rfl⟩ := joinG_inv hg
      cases a2 with
      | lst h1 k1 =>
        have e3 := strs_at k1 q1
        subst e3
        exact ⟨_, _, ys, at_str a1, rfl, .inl (.of (e2.fh _ _ h1)), q2, k F2 H2 _ (Ext.refl e2.fh) hd2 (.str _)⟩
    · rename_i q
      cases q
      obtain ⟨ys, q1, q2, rfl⟩ := joinG_inv hg
      cases a2 with
      | tup h1 k1 =>
        have e3 := strs_at k1 q1
        subst e3
        exact ⟨_, _, ys, at_str a1, rfl, .inr (.of (e2.fh _ _ h1)), q2, k F2 H2 _ (Ext.refl e2.fh) hd2 (.str _)⟩
    · cases hg
  | _ => exact h.elim
/-! ### TABLE.get(x), a dict written in the module -/
def getF (tab : Str → Option D) : D → Option D
  | .str z => tab z
  | _ => none
theorem de_getK {d : Addr} {es : Array DictEntry} {n : Nat} {tab : Str → Option D} (D1 : KDict X.K X.w d es n) (ho : PE X o (tC (.ref d))) (he : PE X e (tE X.K W me))
    (ht : ∀ z g, tab z = some g → ∃ r v, PySem.W.nsIn X.K d z = some r ∧ RelV v (r.getD .none) ∧ ∀ F Z, At X.K F Z v g)
    (hbase : attributeBase o "get" X.env (eval o X.env) = eval o X.env := by rfl)
    (hfew : ((backTo pos (starEach [e] X.env)).all (fun x => !x.1) && (backToKw pos (keywordEach [] X.env)).all (fun x => x.1.isSome)
      && decide (([e] : List Expr).length + ([] : List Keyword).length + (if ([] : List Keyword).isEmpty then 0 else 1) < 30)) = true := by rfl)
    (hline : (apos.endLine == pos.line) = true := by rfl) (hs : starEach [e] X.env = (false, eval e X.env) :: starEach [] X.env := by rfl) (hplain : (backTo pos (starEach [] X.env)).any (·.1) = false := by rfl) :
    PE X (.Call (.Attribute o "get" apos) [e] [] pos) (tE X.K W (eUn (getF tab) me)) := by
  refine ⟨fun pins s σ H Q I hh => ?_⟩
  refine wpAny_Call_method_late hbase hfew hline rfl (thn (ho.run pins s σ H (fun x H1 => x = .ref d ∧ tE X.K W (eUn (getF tab) me) σ H1 Q) I ⟨rfl, hh⟩) fun v s1 ⟨x, H1, I1, r1, ex, h⟩ => ?_)
  subst ex
  cases r1
  have hm := fun {s : Shared} (k : X.K.In s.heap) => PySem.W.mapOf_K (prog := X.prog) (w := X.w) k D1.at_ D1.lit
  refine ⟨"dict", "dict.get", PySem.F.plainAttrs_dict, PySem.F.slot_dict_get, PySem.F.type_dict_get, (hm I1.kIn).typeIs, (hm I1.kIn).noDict, ?_⟩
  have hA := (da_cons (W := W) he (da_nil (W := W)) hs).run pos pins s1 σ H1 (fun xs H2 => ∃ z r v, xs = [.str z] ∧ PySem.W.nsIn X.K d z = some r ∧ RelV v (r.getD .none) ∧ Q v H2) I1 ?_
  · rw [hs] at hA ⊢
    refine Calls.callWith_builtin (by show (false || (backTo pos (starEach [] X.env)).any (·.1)) = false; rw [hplain] <;> rfl) (Calls.evalArgs_plain ?_)
    refine thn hA fun us s2 ⟨vs, H2, I2, r2, z, r, v, ev, hn, rv, q⟩ => ?_
    subst ev
    cases r2 with
    | cons r3 r4 =>
      cases r4
      obtain ⟨t, rfl⟩ := r3
      refine call_meetsIn PySem.F.slot_dict_get (hm I2.kIn).typeIs PySem.F.entry_dict_get (PySem.F.args_dict_get_2 _ _) (meets_dict_get (strKind X.prog X.w) d (PySem.strKind_is X.prog X.w z t) D1.low) ⟨_, hm I2.kIn, ?_⟩
      rw [PySem.W.find_K D1.at_ hn]
      exact ⟨v, H2, I2.tok _, rv, q⟩
  · obtain ⟨F, Z, ρ, s, hs, he, hd, h⟩ := h
    refine ⟨F, Z, ρ, s, hs, he, hd, ?_⟩
    unfold eUn at h
    unfold aCons aNil
    cases q : me ρ s with
    | bad => rw [q] at h; exact h.elim
    | ex C fs s2 => rw [q] at h; exact h
    | ok y s2 =>
      rw [q] at h
      intro F2 H2 v2 e2 hd2 a2
      obtain ⟨g, hg, k⟩ := post_now (o := getF tab y) (s := s2) h
      obtain ⟨w, rfl, a3⟩ := one_inv a2
      unfold getF at hg
      split at hg
      · cases a3
        obtain ⟨r, v, n1, n2, n3⟩ := ht _ _ hg
        exact ⟨_, r, v, rfl, n1, n2, k F2 H2 v e2 hd2 (n3 _ _)⟩
      · cases hg
end
/-! ### f(k = v, ..) -/
section
variable {X : Cx} {W : WX} {k : Nat} {f : Addr} {fd : FuncData} {ps ks : List Str} {mf : FM} {x : Str} {p pos kpos : Pos} {e : Expr} {es : List Expr} {kws : List Keyword} {ma mk : AM} {me : EM} {nm : Option Str}
def tKw (K : PySem.W.Frag) (W : WX) (m : AM) : TA := tA K W m
theorem pk_weak {t t' : TA} (h : PK X kws t) (k : ∀ σ H Q, t' σ H Q → t σ H Q) : PK X kws t' := ⟨fun pos pins s σ H Q I q => h.run pos pins s σ H Q I (k σ H Q q)⟩
theorem dk_nil : PK X [] (tA X.K W aNil) := pk_weak pk_nil fun σ H Q ⟨F, Z, ρ, s, hs, he, hd, h⟩ => h F H _ (Ext.refl hs) hd .nil
theorem dk_cons (ha : PE X e (tE X.K W me)) (hr : PK X kws (tA X.K W ma)) : PK X (⟨nm, e, kpos⟩ :: kws) (tA X.K W (aCons me ma)) :=
  pk_weak (pk_cons ha hr) fun σ H Q ⟨F, Z, ρ, s, hs, he, hd, h⟩ => by
  refine tE_then hs he hd h fun x s1 F1 H1 v1 e1 he1 hd1 a1 h => ?_
  refine tA_then e1.fh he1 hd1 h fun xs s2 F2 H2 vs e2 he2 hd2 a2 h => ?_
  exact h F2 H2 _ (Ext.refl e2.fh) hd2 (.cons (a1.mono e2.f) a2)
theorem run_GK {pins : List (Addr × Obj)} {σ : L2.St} {H : Hp} {s : Shared} {Q : VK} {ws : List Value} {zs : List V} (G : FnG X.prog X.w X.K X.mg X.base k f fd ps mf) (hr : Rm k X.A) (hb : ∀ (s : Shared) (us : List Value), X.K.In s.heap → us.length = ps.length → BindsTo s fd ⟨[], ks.zip us⟩ (ps.zip us))
    (hx : PassesAt (L2.CX X.prog X.w) X σ (WE W σ)) (I : Inv X pins σ H s) (r : Vals zs ws) (h : spD X.K mf zs H Q (WE W σ)) : wpAny (model X.prog X.w) X.A (call (.ref f) [] (ks.zip ws)) (EP X pins σ Q) X.xe s := by
  have hl : ws.length = ps.length := by rw [← r.length]; exact sp_len G h
  refine wpAny_call (codeAny_mono (G.go X.A X.stack s H ⟨[], ks.zip ws⟩ ws zs Q (WE W σ) hr I.env0 (hb s ws I.kIn hl) r h) fun rr s2 hq => ?_)
  cases rr with
  | error er => exact hx pins H s er s2 I hq
  | ok fl =>
    cases fl with
    | ret u => exact I.after hq
    | next => exact hq.elim
    | brk => exact hq.elim
    | cont => exact hq.elim
theorem de_callK (G : FnG X.prog X.w X.K X.mg X.base k f fd ps mf) (hr : Rm k X.A) (hg : Gl X x) (hm : X.mg x = some (.ref f)) (hk : PySem.W.keepIn X.K (.ref f) = true)
    (hb : ∀ (s : Shared) (us : List Value), X.K.In s.heap → us.length = ps.length → BindsTo s fd ⟨[], ks.zip us⟩ (ps.zip us)) (hx : ∀ σ, PassesAt (L2.CX X.prog X.w) X σ (WE W σ)) (hkw : PK X kws (tA X.K W ma))
    (hall : (backToKw pos (keywordEach kws X.env)).all (·.1.isSome) = true := by rfl) (hks : (backToKw pos (keywordEach kws X.env)).filterMap (·.1) = ks := by rfl) (hdb : (x == ("__debug__" : Str)) = false := by decide)
    (hpl : ((backTo pos (starEach [] X.env)).any (·.1) || (backToKw pos (keywordEach kws X.env)).any (·.1.isNone)) = false := by rfl) :
    PE X (.Call (.Name x p) [] kws pos) (tE X.K W (eCall mf ma)) := by
  refine ⟨fun pins s σ H Q I h => ?_⟩
  refine wpAny_Call_Name_kw (ld_glob I hg hm ?_ hdb)
  obtain ⟨F, Z, ρ, s', hs, he, hd, h⟩ := h
  refine PySem.W.callWith_KW0 (h₀ := X.base) I.ok.mod.kin hk hall (thn (hkw.run pos pins s σ H (fun zs H2 => spD X.K mf zs H2 Q (WE W σ)) I ?_) fun ws s2 ⟨zs, H2, I2, rz, q2⟩ => ⟨I2.kIn, ?_⟩) hpl
  · exact tA_then hs he hd h fun ds s1 F1 H1 vs e1 he1 hd1 a1 h => ⟨F1, Z, ds, s1, e1.fh, a1, hd1, post_wish h fun _ _ _ q => q⟩
  · rw [hks]
    exact run_GK G hr hb (hx σ) I2 rz q2
end
/-! ### {k: v} -/
def eDisp1 (mk mv : EM) : EM := fun ρ s => (mk ρ s).bind fun x s1 => match x with
  | .str z => (mv ρ s1).bind fun y s2 => .ok (.dic [(.inr z, y)]) s2
  | _ => .bad
section
variable {X : Cx} {W : WX} {k v : Expr} {mk mv : EM} {pos : Pos}
theorem de_disp1 (hk : PE X k (tE X.K W mk)) (hv : PE X v (tE X.K W mv)) : PE X (.Dict [some k] [v] pos) (tE X.K W (eDisp1 mk mv)) := pe_weak (pe_disp (pps_cons hk hv pps_nil) rfl rfl (by simp) (Nat.le_add_left 1 14)) fun σ H Q ⟨F, Z, ρ, s, hs, he, hd, h⟩ => by
  intro p hp
  have e0 : Ext Z F H F (upd H p (.dK [])) := Ext.newH hs hp
  have fp : F p = none := hs.free hp
  have hd0 : DrAt Z F (upd H p (.dK [])) s := hd.newH hs hp
  have nDr : ¬ DrA Z p := fun z => by
    cases Z with
    | none => exact z
    | some z' =>
      obtain ⟨_, d2, d3, _⟩ := hd
      rcases z with z | z
      · rw [← z, hp] at d2; cases d2
      · rw [← z, hp] at d3; cases d3
  have up : ∀ {r : RE D}, PostE X.K W Z F H σ r Q → Post (α := D) (β := V) (fun K F Z v d => At K F Z v d) X.K W Z F (upd H p (.dK [])) σ r (fun v H2 => ∀ F2, Ext Z F (upd H p (.dK [])) F2 H2 → True → Q v H2) := fun {r} q => by
    cases r with
    | bad => exact q
    | ok d s' => exact fun F' H' v e hd' a F2 _ _ => q F' H' v (e0.trans e) hd' a
    | ex C fs s' => exact fun F' H' v e => q F' H' v (e0.trans e)
  have h2 := h
  unfold eDisp1 at h2
  show tE X.K W mk σ (upd H p (.dK [])) _
  refine ⟨F, Z, ρ, s, e0.fh, he, hd0, ?_⟩
  cases q : mk ρ s with
  | bad => rw [q] at h2; exact h2.elim
  | ex C fs s1 => rw [q] at h2; exact fun F' H' v e => h2 F' H' v (e0.trans e)
  | ok x s1 =>
    rw [q] at h2
    intro F1 H1 v1 e1 hd1 a1
    cases x with
    | str z =>
      replace h2 : PostE X.K W Z F H σ ((mv ρ s1).bind fun y s2 => .ok (.dic [(.inr z, y)]) s2) Q := h2
      show tE X.K W mv σ H1 _
      refine ⟨F1, Z, ρ, s1, e1.fh, he.mono e1.f, hd1, ?_⟩
      cases q2 : mv ρ s1 with
      | bad => rw [q2] at h2; exact h2.elim
      | ex C fs s2 => rw [q2] at h2; exact fun F' H' v e => h2 F' H' v (e0.trans (e1.trans e))
      | ok y s2 =>
        rw [q2] at h2
        intro F2 H2 v2 e2 hd2 a2
        have e12 := e1.trans e2
        have fp2 : F2 p = none := e12.n p _ fp upd_same
        have hp2 : H2 p = some (.dK []) := by
          obtain ⟨o', h7, h8⟩ := e12.h p _ upd_same
          rw [h7, h8 nDr]
        have e1z := at_str a1
        subst e1z
        refine ⟨hp2, [(.inr z, v2)], rfl, Nat.le_add_left 1 14, ?_⟩
        show Q (.ref p) (upd H2 p (.dK [(.inr z, v2)]))
        have sF : Same F2 (upd F2 p (.dK [(.inr z, v2)])) := fun a o e => by rw [upd_ne fun z => by rw [z, fp2] at e; cases e]; exact e
        refine h2 (upd F2 p (.dK [(.inr z, v2)])) _ _ ⟨(e0.trans e12).f.trans sF, fun a o e => ?_, fun a o e => ?_, fun a o r1 r2 => ?_⟩ ?_ (.dic upd_same (.cons (a2.mono sF) .nil))
        · by_cases hz : a = p
          · subst hz
            rw [upd_same] at e ⊢
            exact e
          · rw [upd_ne hz] at e ⊢
            exact e12.fh _ _ e
        · obtain ⟨o', h7, h8⟩ := (e0.trans e12).h a o e
          refine ⟨o', ?_, h8⟩
          rw [upd_ne fun z => by rw [z, hp] at e; cases e]
          exact h7
        · rw [upd_ne fun z => by rw [z, hp] at r2; cases r2]
          exact (e0.trans e12).n a o r1 r2
        · cases Z with
          | none => trivial
          | some z' =>
            obtain ⟨d1, d2, d3, d4, d5⟩ := hd2
            refine ⟨d1, ?_, ?_, ?_, ?_⟩
            · rw [upd_ne fun e => nDr (.inl e.symm)]; exact d2
            · rw [upd_ne fun e => nDr (.inr e.symm)]; exact d3
            · rw [upd_ne fun e => nDr (.inl e.symm)]; exact d4
            · rw [upd_ne fun e => nDr (.inr e.symm)]; exact d5
    | _ => exact h2.elim
end
/-! ### a, b = x, y -/
def sPar (is : List Nat) (m : AM) : SM := fun ρ s => after (runA m ρ s) ρ fun ds s' => match bs is ds ρ with
  | some ρ' => .nx ρ' s'
  | none => .bad
section
variable {X : Cx} {W : WX} {st : Stmt} {m : AM} {i j l : Nat}
theorem ds_par2 (h : PS X st (tPar i j (tA X.K W m))) : PS X st (tS X.K W (sPar [i, j] m)) := ps_weak h fun D σ H ⟨F0, H0, Z, F, ρ, s, a, h⟩ =>
  runA_read a (after_post a h fun d s' F' H' vs a' _ av p => by
    cases q : bs [i, j] d ρ with
    | none => rw [q] at p; exact p.elim
    | some ρ' =>
      rw [q] at p
      match d, q, av with
      | [x, y], q, av =>
        obtain ⟨v, w, rfl, a1, a2⟩ := two_inv av
        cases q
        exact ⟨v, w, rfl, post_nx p ((a'.setD a1).setD a2)⟩)
theorem ds_par3 (h : PS X st (tPar3 i j l (tA X.K W m))) : PS X st (tS X.K W (sPar [i, j, l] m)) := ps_weak h fun D σ H ⟨F0, H0, Z, F, ρ, s, a, h⟩ =>
  runA_read a (after_post a h fun d s' F' H' vs a' _ av p => by
    cases q : bs [i, j, l] d ρ with
    | none => rw [q] at p; exact p.elim
    | some ρ' =>
      rw [q] at p
      match d, q, av with
      | [x, y, z], q, av =>
        cases q
        cases av with
        | cons a1 av => cases av with
          | cons a2 av => cases av with
            | cons a3 av =>
              cases av
              exact ⟨_, _, _, rfl, post_nx p (((a'.setD a1).setD a2).setD a3)⟩)
/-- the second (of two) is a new list of one's own, empty -/
def sParO (i j : Nat) (m : EM) : SM := fun ρ s => after (runD m ρ s) ρ fun d s' => .nx ((ρ.set i (some (.dat d))).set j (some (.own []))) s'
theorem ds_parO {me : EM} (h : PS X st (tPar i j (tCons (tE X.K W me) (tCons (tLst tNil) tNil)))) : PS X st (tS X.K W (sParO i j me)) := ps_weak h fun D σ H ⟨F0, H0, Z, F, ρ, s, a, h⟩ =>
  run_read a (after_post a h fun d s' F' H' v a' _ av p => ⟨Nat.zero_le _, fun q hq => ⟨_, _, rfl, post_nx p (SlAt.setO (a'.setD av) hq .nil)⟩⟩)
/-- x = list(e), a list of one's own -/
def listG : List D → Option (List D)
  | [.lst xs] => some xs
  | [.tup xs] => some xs
  | _ => none
def sOwnL (i : Nat) (m : AM) : SM := fun ρ s => after (runA m ρ s) ρ fun ds s' => match listG ds with
  | some xs => .nx (ρ.set i (some (.own xs))) s'
  | none => .bad
theorem ds_ownL (h : PS X st (tAsg (tCB (fun xs H Q => ∃ p ys, xs = [.ref p] ∧ (SqL X.K H p ys ∨ SqT X.K H p ys) ∧ ∀ l, H l = none → Q (.ref l) (upd H l (.lst ys))) (tA X.K W m)) (gName i))) : PS X st (tS X.K W (sOwnL i m)) := ps_weak h fun D σ H ⟨F0, H0, Z, F, ρ, s, a, h⟩ =>
  runA_read a (after_post a h fun d s' F' H' vs a' _ av p => by
    cases q : listG d with
    | none => rw [q] at p; exact p.elim
    | some xs =>
      rw [q] at p
      unfold listG at q
      split at q
      · cases q
        obtain ⟨v, rfl, a1⟩ := one_inv av
        cases a1 with
        | lst h1 k1 => exact ⟨_, _, rfl, .inl (.of (a'.ext.fh _ _ h1)), fun l hl => post_nx p (SlAt.setO a' hl k1)⟩
      · cases q
        obtain ⟨v, rfl, a1⟩ := one_inv av
        cases a1 with
        | tup h1 k1 => exact ⟨_, _, rfl, .inr (.of (a'.ext.fh _ _ h1)), fun l hl => post_nx p (SlAt.setO a' hl k1)⟩
      · cases q)
/-- x[e1], x[e2] = a, b -/
def setAt (i : Nat) (d k : D) (ρ : Sls) : Option Sls := match ρ[i]?, k with
  | some (some (.own xs)), .int n => (ixN xs.length n).map fun j => ρ.set i (some (.own (xs.set j d)))
  | _, _ => none
def oS (o : Option Sls) (k : Sls → RS) : RS := match o with
  | some ρ => k ρ
  | none => .bad
def sSwap (i : Nat) (m : AM) (m1 m2 : EM) : SM := fun ρ s => match ρ[i]? with
  | some (some (.own _)) => after (runA m ρ s) ρ fun ds s' => match ds with
    | [x, y] => after (runD m1 ρ s') ρ fun k1 s1 => oS (setAt i x k1 ρ) fun ρ1 => after (runD m2 ρ1 s1) ρ1 fun k2 s2 => oS (setAt i y k2 ρ1) fun ρ2 => .nx ρ2 s2
    | _ => .bad
  | _ => .bad
theorem setAt_read {Z : Option Zt} {F0 H0 F H : Hp} {σ : L2.St} {ρ ρ' : Sls} {s : S} {d k : D} {v w : V} {Q : Hp → Prop} (a : At0 X.K Z F0 H0 F H σ ρ s) (av : At X.K F Z v d) (aw : At X.K F Z w k) (e : setAt i d k ρ = some ρ') {p : V} (hp : σ[i]? = some (some p))
    (hk : ∀ H', At0 X.K Z F0 H0 F H' σ ρ' s → Q H') : rSetL p w v H Q := by
  unfold setAt at e
  split at e
  · rename_i xs n q
    rw [Option.map_eq_some_iff] at e
    obtain ⟨j, hj, rfl⟩ := e
    obtain ⟨p', vs', u1, u2, u3, _⟩ := a.sl.own i xs q
    rw [hp] at u1
    cases u1
    cases at_int aw
    exact ⟨_, vs', n, j, rfl, rfl, u2, by rw [u3.length]; exact hj, hk _ (SlAt.chg a q hp (u3.set j av))⟩
  · cases e
theorem own_slot {Z : Option Zt} {F0 H0 F H : Hp} {σ : L2.St} {ρ ρ' : Sls} {s : S} {d k : D} (a : At0 X.K Z F0 H0 F H σ ρ s) (e : setAt i d k ρ = some ρ') : ∃ p, σ[i]? = some (some p) := by
  unfold setAt at e
  split at e
  · rename_i xs n q
    obtain ⟨p', vs', u1, _⟩ := a.sl.own i xs q
    exact ⟨_, u1⟩
  · cases e
theorem ds_swap {m1 m2 : EM} (h : PS X st (tAsg (tTup (tA X.K W m)) (gTup X.K 2 (gCons (gSub (tVar i) (tE X.K W m1) rSetL) (gCons (gSub (tVar i) (tE X.K W m2) rSetL) gNil))))) : PS X st (tS X.K W (sSwap i m m1 m2)) := ps_weak h fun D σ H ⟨F0, H0, Z, F, ρ, s, a, h⟩ => by
  unfold sSwap at h
  split at h
  · rename_i xs0 q0
    obtain ⟨p0, vs0, u0, _⟩ := a.sl.own i xs0 q0
    refine runA_read a (after_post a h fun d s' F' H' vs a' _ av p => ?_)
    match d, av, p with
    | [x, y], av, p =>
      obtain ⟨v, w, rfl, a1, a2⟩ := two_inv av
      refine ⟨by show 2 ≤ sizeLine; decide, fun t ht => ?_⟩
      have ex := Ext.new (Z := Z) (o := HO.tup [v, w]) a'.ext.fh ht
      have b := a'.go ex (a'.dr.new a'.ext.fh ht)
      have a1 := a1.mono ex.f
      have a2 := a2.mono ex.f
      refine ⟨t, [v, w], rfl, .of upd_same, rfl, v, [w], rfl, V.ref p0, u0, ?_⟩
      refine run_read b (after_post b p fun k1 s1 F1 H1 w1 b1 e1 aw1 p => ?_)
      cases q1 : setAt i x k1 ρ with
      | none => rw [q1] at p; exact p.elim
      | some ρ1 =>
        rw [q1] at p
        refine setAt_read b1 (a1.mono e1.f) aw1 q1 u0 fun H2 b2 => ⟨w, [], rfl, V.ref p0, u0, ?_⟩
        refine run_read b2 (after_post b2 p fun k2 s2 F3 H3 w3 b3 e3 aw3 p => ?_)
        cases q2 : setAt i y k2 ρ1 with
        | none => rw [q2] at p; exact p.elim
        | some ρ2 =>
          rw [q2] at p
          exact setAt_read b3 ((a2.mono e1.f).mono e3.f) aw3 q2 u0 fun H4 b4 => ⟨rfl, post_nx p b4⟩
  · exact h.elim
end
end FL
set_option Elab.async false
set_option linter.all false
set_option maxRecDepth 100000
set_option maxHeartbeats 4000000
/-! ## FL, 12: the draw -/
namespace FL
open PySem PySem.Spec PyProof.Rows L2
/-- one number from 0 on, below n, and the draw behind it -/
def takeS (s : S) (n : Int) : Option (Int × S) :=
  if 0 < n ∧ n < 18446744073709551616 ∧ -18446744073709551616 < s.mix ∧ s.mix < 18446744073709551616 ∧ 0 < s.cells.length then
    match s.cells[(s.pos % (s.cells.length : Int)).toNat]? with
    | some c => if 1000000000000000000 ≤ c then some (c % n, { s with cells := s.cells.set (s.pos % (s.cells.length : Int)).toNat (c / n) })
      else some ((s.mix * 48271 + c + 12345) % 2147483647 * ((s.mix * 48271 + c + 12345) % 2147483647) % 2147483629 / 16 % n, { s with pos := s.pos + 1, mix := (s.mix * 48271 + c + 12345) % 2147483647 })
    | none => none
  else none
def mTake : SM := fun ρ s => match ρ with
  | [some (.dat .drw), some (.dat (.int n)), none, none, none] => match takeS s n with
    | some (r, s') => .rt (.int r) s'
    | none => .bad
  | _ => .bad
abbrev rAI : R2 := rI0 fun i j => .int (i + j)
abbrev rMI : R2 := rI CMul fun i j => .int (i * j)
abbrev rRI : R2 := rI (fun _ j => 0 < j) fun i j => .int (i % j)
abbrev rDI : R2 := rI CDivW fun i j => .int (i / j)
def t_take (K : PySem.W.Frag) : TS :=
  tSeq (tAsg (tOp (rIx K) (tVar 0) (tC (.int 0))) (gName 2)) (
  tSeq (tAsg (tOp rRI (tOp (rIx K) (tVar 0) (tC (.int 1))) (tCB (fun xs H Q => ∃ x n, xs = [x] ∧ LenV K x H n ∧ Q (.int n) H) (tCons (tVar 2) tNil))) (gName 3)) (
  tSeq (tAsg (tOp (rIx K) (tVar 2) (tVar 3)) (gName 4)) (
  tSeq (tIfS (tTest (tOp (rI0 fun i j => .bl (decide (j ≤ i))) (tVar 4) (tOp (rI CPow fun i j => .int (i ^ j.toNat)) (tC (.int 10)) (tC (.int 18)))))
    (tSeq (tAsg (tOp rDI (tVar 4) (tVar 1)) (gSub (tVar 2) (tVar 3) rSetL)) (tRet (tOp rRI (tVar 4) (tVar 1)))) tNext) (
  tSeq (tAsg (tOp rAI (tOp (rIx K) (tVar 0) (tC (.int 1))) (tC (.int 1))) (gSub (tVar 0) (tC (.int 1)) rSetL)) (
  tSeq (tAsg (tOp rRI (tOp rAI (tOp rAI (tOp rMI (tOp (rIx K) (tVar 0) (tC (.int 2))) (tC (.int 48271))) (tVar 4)) (tC (.int 12345))) (tC (.int 2147483647))) (gSub (tVar 0) (tC (.int 2)) rSetL)) (
  tRet (tOp rRI (tOp rDI (tOp rRI (tOp rMI (tOp (rIx K) (tVar 0) (tC (.int 2))) (tOp (rIx K) (tVar 0) (tC (.int 2)))) (tC (.int 2147483629))) (tC (.int 16))) (tVar 1))))))))
theorem ix_in {n : Nat} {i : Int} (h0 : 0 ≤ i) (h1 : i < n) : ixN n i = some i.toNat := by
  unfold ixN
  rw [if_pos h0, if_pos h1]
theorem draw_chg {K : PySem.W.Frag} {z : Zt} {F0 H0 F H H' : Hp} {σ : L2.St} {ρ : Sls} {s : S} (a : At0 K (some z) F0 H0 F H σ ρ s) (h : ∀ b, b ≠ z.dr → b ≠ z.cl → H' b = H b) (hd : ∃ o, H' z.dr = some o) (hc : ∃ o, H' z.cl = some o) : Ext (some z) F0 H0 F H' := by
  obtain ⟨d1, d2, d3, d4, d5⟩ := a.dr
  refine ⟨a.ext.f, fun b o e => ?_, fun b o e => ?_, a.ext.n⟩
  · have n1 : b ≠ z.dr := fun q => by rw [q, d4] at e; cases e
    have n2 : b ≠ z.cl := fun q => by rw [q, d5] at e; cases e
    rw [h b n1 n2]
    exact a.ext.fh b o e
  · obtain ⟨o', e1, e2⟩ := a.ext.h b o e
    by_cases n1 : b = z.dr
    · subst n1
      obtain ⟨o2, q⟩ := hd
      exact ⟨o2, q, fun nd => absurd (.inl rfl) nd⟩
    · by_cases n2 : b = z.cl
      · subst n2
        obtain ⟨o2, q⟩ := hc
        exact ⟨o2, q, fun nd => absurd (.inr rfl) nd⟩
      · exact ⟨o', by rw [h b n1 n2]; exact e1, e2⟩
theorem take_read {K : PySem.W.Frag} {W : WX} : ∀ D σ H, tS K W mTake D σ H → t_take K D σ H := by
  rintro D σ H ⟨F0, H0, Z, F, ρ, s, a, h⟩
  unfold mTake at h
  split at h
  · rename_i n
    obtain ⟨v0, e0, a0⟩ := a.sl.dat 0 _ rfl
    obtain ⟨v1, e1, a1⟩ := a.sl.dat 1 _ rfl
    cases at_int a1
    cases Z with
    | none => cases a0 with | drw q => cases q
    | some z =>
      have hv : v0 = .ref z.dr := by
        cases a0 with
        | drw q => cases q; rfl
      subst hv
      have hl := a.sl.len
      obtain ⟨d1, d2, d3, d4, d5⟩ := a.dr
      match σ, hl, e0, e1, a, d2, d3 with
      | [x0, x1, x2, x3, x4], hl, e0, e1, a, d2, d3 =>
        cases e0
        cases e1
        cases q : takeS s n with
        | none => rw [q] at h; exact h.elim
        | some p =>
        obtain ⟨r, s'⟩ := p
        rw [q] at h
        replace h : PostS K W (some z) F0 H0 D (.rt (.int r) s') := h
        unfold takeS at q
        split at q
        · rename_i hc
          obtain ⟨c1, c2, c3, c4, c5⟩ := hc
          have hL : (0 : Int) < (s.cells.length : Int) := by exact_mod_cast c5
          have hm := Int.emod_nonneg s.pos (Int.ne_of_gt hL)
          have hm2 := Int.emod_lt_of_pos s.pos hL
          generalize hat : s.pos % (s.cells.length : Int) = at_ at hm hm2 q
          have hN : at_.toNat < s.cells.length := by omega
          cases hcell : s.cells[at_.toNat]? with
          | none => rw [hcell] at q; cases q
          | some cell =>
            rw [hcell] at q
            dsimp only at q
            have hix : ixN s.cells.length at_ = some at_.toNat := ix_in hm hm2
            have hix' : ixN (s.cells.map V.int).length at_ = some at_.toNat := by rw [List.length_map]; exact hix
            have hatI : atI (s.cells.map V.int) at_ = some (.int cell) := by
              unfold atI
              rw [hix']
              show (s.cells.map V.int)[at_.toNat]? = _
              rw [List.getElem?_map, hcell]
              rfl
            refine ⟨.ref z.dr, rfl, .inl ⟨z.dr, _, 0, .ref z.cl, rfl, rfl, .of d2, rfl, ?_⟩⟩
            refine ⟨.ref z.dr, rfl, .inl ⟨z.dr, _, 1, .int s.pos, rfl, rfl, .of d2, rfl, .ref z.cl, rfl, .ref z.cl, (s.cells.map V.int).length, rfl, .inl ⟨_, .of d3, rfl⟩, s.pos, _, rfl, rfl, by rw [List.length_map]; exact hL, ?_⟩⟩
            rw [List.length_map]
            dsimp only
            rw [hat]
            refine ⟨.ref z.cl, rfl, .int at_, rfl, .inl ⟨z.cl, _, at_, .int cell, rfl, rfl, .of d3, hatI, ?_⟩⟩
            refine ⟨.int cell, rfl, 10, 18, rfl, rfl, by unfold CPow; decide, cell, _, rfl, rfl, _, rfl, ?_⟩
            have e18 : (10 : Int) ^ (18 : Int).toNat = 1000000000000000000 := by decide +kernel
            rw [e18]
            by_cases big : 1000000000000000000 ≤ cell
            · rw [if_pos big] at q
              cases q
              rw [decide_eq_true big]
              refine iteT ?_
              have cd : CDivW cell n := ⟨c1, by
                have q : n.natAbs < 2 ^ 64 := by omega
                have q2 : n.natAbs.log2 < 64 := (Nat.log2_lt (by omega)).mpr q
                omega⟩
              refine ⟨.int cell, rfl, .int n, rfl, cell, n, rfl, rfl, cd, .ref z.cl, rfl, .int at_, rfl, z.cl, _, at_, at_.toNat, rfl, rfl, d3, hix', ?_⟩
              refine ⟨.int cell, rfl, .int n, rfl, cell, n, rfl, rfl, c1, ?_⟩
              refine h F _ _ (draw_chg a (fun b n1 n2 => upd_ne n2) ⟨_, by rw [upd_ne d1]; exact d2⟩ ⟨_, upd_same⟩) ⟨d1, by rw [upd_ne d1]; exact d2, ?_, d4, d5⟩ (.int _)
              rw [upd_same, List.map_set]
            · rw [if_neg big] at q
              rw [decide_eq_false big]
              refine iteF ?_
              have cm : CMul s.mix 48271 := .inl ⟨by omega, by omega⟩
              refine ⟨.ref z.dr, rfl, .inl ⟨z.dr, _, 1, .int s.pos, rfl, rfl, .of d2, rfl, s.pos, 1, rfl, rfl, .ref z.dr, rfl, z.dr, _, 1, 1, rfl, rfl, d2, rfl, ?_⟩⟩
              have dd2 : ∀ H' o, upd H' z.dr o z.dr = some o := fun H' o => upd_same
              refine ⟨.ref z.dr, rfl, .inl ⟨z.dr, _, 2, .int s.mix, rfl, rfl, .of upd_same, rfl, s.mix, 48271, rfl, rfl, cm, .int cell, rfl, _, cell, rfl, rfl, _, 12345, rfl, rfl, _, 2147483647, rfl, rfl, (by decide : (0 : Int) < 2147483647), .ref z.dr, rfl, z.dr, _, 2, 2, rfl, rfl, upd_same, rfl, ?_⟩⟩
              dsimp only
              generalize hw : (s.mix * 48271 + cell + 12345) % 2147483647 = m at q ⊢
              cases q
              have m0 : 0 ≤ m := by rw [← hw]; exact Int.emod_nonneg _ (by decide)
              have m1 : m < 2147483647 := by rw [← hw]; exact Int.emod_lt_of_pos _ (by decide)
              have cm2 : CMul m m := .inl ⟨by omega, by omega⟩
              have cd16 : ∀ x, CDivW x 16 := fun x => ⟨by decide, by decide +kernel⟩
              refine ⟨.ref z.dr, rfl, .inl ⟨z.dr, _, 2, .int m, rfl, rfl, .of upd_same, rfl, .ref z.dr, rfl, .inl ⟨z.dr, _, 2, .int m, rfl, rfl, .of upd_same, rfl, m, m, rfl, rfl, cm2, _, 2147483629, rfl, rfl, (by decide : (0 : Int) < 2147483629), _, 16, rfl, rfl, cd16 _, .int n, rfl, _, n, rfl, rfl, c1, ?_⟩⟩⟩
              refine h F _ _ (draw_chg a (fun b n1 n2 => by rw [upd_ne n1, upd_ne n1]) ⟨_, upd_same⟩ ⟨_, by rw [upd_ne (Ne.symm d1), upd_ne (Ne.symm d1)]; exact d3⟩) ⟨d1, upd_same, ?_, d4, d5⟩ (.int _)
              rw [upd_ne (Ne.symm d1), upd_ne (Ne.symm d1)]
              exact d3
        · cases q
  · exact h.elim
end FL
set_option Elab.async false
set_option linter.all false
set_option maxRecDepth 100000
set_option maxHeartbeats 4000000
/-! ## FL, 13: a comprehension's list as a list of one's own; the draw's beginning -/
namespace FL
open PySem PySem.Spec PyProof.Rows L2
def OwnW (K : PySem.W.Frag) (Z : Option Zt) (F H : Hp) (xs : List D) (s : S) (Q : VK) : Prop := ∀ F' H' L vs, Ext Z F H F' H' → DrAt Z F' H' s → H L = none → H' L = some (.lst vs) → F' L = none → AtAll K F' Z vs xs → Q (.ref L) H'
/-- what the comprehension gives, as a list of items -/
def lcO (vs : List Nat) (n : Nat) (bnd : D → Env → Option Env) (mi : AM) (mt : TM) (me : EM) (ρ : Env) (s : S) : Option (List D × S) :=
  if ρ.length ≤ n then match mi ρ s with
    | .ok ds s1 => match lcL bnd mt me (wipeE ρ vs) ds s1 with
      | .ok xs s2 => if xs.length ≤ sizeLine then some (xs, s2) else none
      | _ => none
    | _ => none
  else none
section
variable {X : Cx} {W : WX}
theorem lc_own {vs : List Nat} {bnd : D → Env → Option Env} {mi : AM} {mt : TM} {me : EM} {g : TG} (hgd : TgE X.K vs g bnd) {σ : L2.St} {F H : Hp} {Z : Option Zt} {ρ : Env} {s : S} {Q : VK} (hlen : σ.length = X.N.length) (hs : Same F H) (he : EnvAt X.K F Z σ ρ) (hd : DrAt Z F H s)
    {xs0 : List D} {s0 : S} (hq : lcO vs X.N.length bnd mi mt me ρ s = some (xs0, s0)) (hW : OwnW X.K Z F H xs0 s0 Q) : tLc (tI X.K W mi) g (tT X.K W0 mt) (tE X.K W0 me) vs σ H Q := by
  unfold lcO at hq
  split at hq
  · rename_i hn
    refine ⟨F, Z, ρ, s, hs, he, hd, ?_⟩
    cases hmi : mi ρ s with
    | bad => rw [hmi] at hq; cases hq
    | ex C fs s1 => rw [hmi] at hq; cases hq
    | ok ds s1 =>
    rw [hmi] at hq
    intro F1 H1 J e1 hd1 w
    have w : Walk J ds.length (fun H => Same F1 H) (YD X.K Z F1 ds) := w
    have hev := wipeE_at (he.mono e1.f) vs
    have hwl : ∀ (ρ : Env) (us : List Nat), (wipeE ρ us).length = ρ.length := fun ρ us => by
      induction us with
      | nil => rfl
      | cons u us ih => unfold wipeE; rw [List.length_set, ih]
    intro L hL
    -- behind i turns: the frozen part F2 has grown from F1, the new list at L holds acc, what is left gives the rest
    refine lc_it w (fun i H => ∃ F2 s2 accV acc, Ext Z F1 H1 F2 H ∧ DrAt Z F2 H s2 ∧ H L = some (.lst accV) ∧ F2 L = none ∧ AtAll X.K F2 Z accV acc ∧
      ∃ xs s3, lcL bnd mt me (wipeE ρ vs) (ds.drop i) s2 = .ok xs s3 ∧ (acc ++ xs).length ≤ sizeLine ∧ ∀ F' H' ws, Ext Z F1 H1 F' H' → DrAt Z F' H' s3 → H' L = some (.lst ws) → F' L = none → AtAll X.K F' Z ws (acc ++ xs) → Q (.ref L) H') ?_ (fun i H _ ⟨F2, _, _, _, b, _⟩ => b.f.trans b.fh) ?_ ?_
    · have fL : F1 L = none := e1.fh.free hL
      refine ⟨F1, s1, [], [], Ext.newH e1.fh hL, hd1.newH e1.fh hL, upd_same, fL, .nil, ?_⟩
      · dsimp only at hq
        cases q : lcL bnd mt me (wipeE ρ vs) ds s1 with
        | bad => rw [q] at hq; cases hq
        | ex C fs s3 => rw [q] at hq; cases hq
        | ok xs s3 =>
          rw [q] at hq
          dsimp only at hq
          split at hq
          · rename_i hz
            cases hq
            refine ⟨xs0, s0, by rw [List.drop_zero]; exact q, hz, fun F' H' ws e dr hL' fL' a => hW F' H' L ws (e1.trans e) dr ?_ hL' fL' a⟩
            cases hHL : H L with
            | none => rfl
            | some o =>
              obtain ⟨o', e2, _⟩ := e1.h L o hHL
              rw [hL] at e2
              cases e2
          · cases hq
    · rintro i x H2 H3 hi ⟨F2, s2, accV, acc, b, hd2, hL2, fL, aacc, xs, s3, hrun, hz, k⟩ y
      obtain ⟨d, F3, hdd, ex, ad, keep⟩ := yd_step b.f b.fh y
      have hdrop : ds.drop i = d :: ds.drop (i + 1) := by
        rw [List.drop_eq_getElem_cons hi]
        rw [List.getElem?_eq_getElem hi] at hdd
        cases hdd
        rfl
      rw [hdrop] at hrun
      unfold lcL at hrun
      have fL3 : F3 L = none := ex.n L _ fL hL2
      have hL3 : H3 L = some (.lst accV) := keep _ _ hL2
      have hd3 := hd2.keep ex keep
      cases q : bnd d (wipeE ρ vs) with
      | none => rw [q] at hrun; cases hrun
      | some ρ1 =>
        rw [q] at hrun
        dsimp only at hrun
        have hlw : (wipeE ρ vs).length ≤ (wipe σ vs).length := by rw [hwl, wipe_length, hlen]; exact hn
        refine hgd Z F3 H3 (wipe σ vs) (wipeE ρ vs) ρ1 x d _ ex.fh (hev.mono (b.f.trans ex.f)) ad q hlw fun σ2 he2 hl2 hr2 hne => ?_
        refine ⟨?_, ?_⟩
        · refine wipe_alike hl2 hne |>.trans ?_
          refine wipe_alike (wipe_length _ _) fun j hj => wipe_not hj
        · cases r : mt ρ1 s2 with
          | bad => rw [r] at hrun; cases hrun
          | ex C fs s4 => rw [r] at hrun; cases hrun
          | ok bb s4 =>
            rw [r] at hrun
            refine ⟨F3, Z, ρ1, s2, ex.fh, he2, hd3, ?_⟩
            rw [r]
            intro F4 H4 bv ex4 hd4 hb
            subst hb
            have fL4 : F4 L = none := ex4.n L _ fL3 hL3
            obtain ⟨oL, hL4, hsame⟩ := ex4.h L _ hL3
            have nDr : ¬ DrA Z L := fun z => by
              cases Z with
              | none => exact z
              | some z' =>
                obtain ⟨_, d2, d3, _⟩ := hd1
                rcases z with z | z
                · rw [← z, hL] at d2; cases d2
                · rw [← z, hL] at d3; cases d3
            cases hsame nDr
            cases bv with
            | false =>
              rw [if_neg Bool.false_ne_true]
              exact ⟨F4, s4, accV, acc, (b.trans ex).trans ex4, hd4, hL4, fL4, (aacc.mono ex.f).mono ex4.f, xs, s3, hrun, hz, k⟩
            | true =>
              rw [if_pos rfl]
              dsimp only at hrun
              cases t : me ρ1 s4 with
              | bad => rw [t] at hrun; cases hrun
              | ex C fs s5 => rw [t] at hrun; cases hrun
              | ok z s5 =>
                rw [t] at hrun
                dsimp only at hrun
                cases u : lcL bnd mt me (wipeE ρ vs) (ds.drop (i + 1)) s5 with
                | bad => rw [u] at hrun; cases hrun
                | ex C fs s6 => rw [u] at hrun; cases hrun
                | ok ys s6 =>
                  rw [u] at hrun
                  have hrun : RE.ok (z :: ys) s6 = .ok xs s3 := hrun
                  cases hrun
                  refine ⟨F4, Z, ρ1, s4, ex4.fh, he2.mono ex4.f, hd4, ?_⟩
                  rw [t]
                  intro F5 H5 v ex5 hd5 av
                  have fL5 : F5 L = none := ex5.n L _ fL4 hL4
                  obtain ⟨oL, hL5, hsame⟩ := ex5.h L _ hL4
                  cases hsame nDr
                  have aacc5 := ((aacc.mono ex.f).mono ex4.f).mono ex5.f
                  refine ⟨accV, hL5, ?_, F5, s5, accV ++ [v], acc ++ [z], ?_, ?_, upd_same, fL5, aacc5.append (.cons av .nil), ys, _, u, ?_, ?_⟩
                  · rw [aacc5.length]
                    rw [List.length_append, List.length_cons] at hz
                    omega
                  · have b5 := ((b.trans ex).trans ex4).trans ex5
                    refine ⟨b5.f, fun a o e => ?_, fun a o e => ?_, b5.n⟩
                    · rw [upd_ne fun z => by rw [z, fL5] at e; cases e]
                      exact b5.fh a o e
                    · rw [upd_ne fun z => by rw [z, hL] at e; cases e]
                      exact b5.h a o e
                  · cases Z with
                    | none => trivial
                    | some z' =>
                      obtain ⟨d1, d2, d3, d4, d5⟩ := hd5
                      refine ⟨d1, ?_, ?_, d4, d5⟩
                      · rw [upd_ne fun e => nDr (.inl e.symm)]; exact d2
                      · rw [upd_ne fun e => nDr (.inr e.symm)]; exact d3
                  · rw [List.append_assoc]; exact hz
                  · rw [List.append_assoc]; exact k
    · rintro H2 ⟨F2, s2, accV, acc, b, hd2, hL2, fL, aacc, xs, s3, hrun, hz, k⟩
      rw [List.drop_length] at hrun
      have hrun : RE.ok [] s2 = .ok xs s3 := hrun
      cases hrun
      rw [List.append_nil] at k
      exact k F2 H2 accV b hd2 hL2 fL aacc
  · cases hq
/-- x = [e for ..], a list of one's own -/
def sOwnLc (i : Nat) (vs : List Nat) (n : Nat) (bnd : D → Env → Option Env) (mi : AM) (mt : TM) (me : EM) : SM := fun ρ s => match lcO vs n bnd mi mt me (dats ρ) s with
  | some (xs, s') => .nx (ρ.set i (some (.own xs))) s'
  | none => .bad
theorem SlAt.setOld {K : PySem.W.Frag} {Z : Option Zt} {F0 H0 F H F' H' : Hp} {σ : L2.St} {ρ : Sls} {s s' : S} (a : At0 K Z F0 H0 F H σ ρ s) (e : Ext Z F H F' H') (hd : DrAt Z F' H' s') {i : Nat} {p : Addr} {vs : List V} {xs : List D} (hp : H p = none) (hp' : H' p = some (.lst vs)) (fp : F' p = none) (av : AtAll K F' Z vs xs) :
    At0 K Z F0 H0 F' H' (σ.set i (some (.ref p))) (ρ.set i (some (.own xs))) s' := by
  have b := a.go e hd
  have h := b.sl
  have hp0 : H0 p = none := by
    cases q : H0 p with
    | none => rfl
    | some o =>
      obtain ⟨o', q', _⟩ := a.ext.h p o q
      rw [hp] at q'
      cases q'
  have hdr : ¬ DrA Z p := fun z => by
    have d := a.dr
    cases Z with
    | none => exact z
    | some z' =>
      obtain ⟨_, d2, d3, _⟩ := d
      rcases z with z | z
      · rw [← z, hp] at d2; cases d2
      · rw [← z, hp] at d3; cases d3
  have other : ∀ {j : Nat} {ys : List D} {b : Addr}, ρ[j]? = some (some (.own ys)) → σ[j]? = some (some (.ref b)) → b ≠ p := fun {j ys b} q r z => by
    obtain ⟨b', ws, r1, r2, _⟩ := a.sl.own j ys q
    rw [r] at r1
    cases r1
    rw [z, hp] at r2
    cases r2
  refine ⟨b.ext, hd, ⟨by rw [List.length_set, List.length_set]; exact h.len, fun j e q => ?_, fun j ys q => ?_, fun j k xs' ys b q1 q2 r1 r2 => ?_⟩⟩
  · have hj : i ≠ j := fun z => by
      subst z
      have hi : i < ρ.length := by
        rw [← List.length_set]
        exact (List.getElem?_eq_some_iff.mp q).1
      rw [List.getElem?_set_self hi] at q
      cases q
    rw [List.getElem?_set_ne hj] at q
    obtain ⟨w, h1, h2⟩ := h.dat j e q
    exact ⟨w, by rw [List.getElem?_set_ne hj]; exact h1, h2⟩
  · by_cases hj : i = j
    · subst hj
      have hi : i < ρ.length := by
        rw [← List.length_set]
        exact (List.getElem?_eq_some_iff.mp q).1
      rw [List.getElem?_set_self hi] at q
      cases q
      exact ⟨p, vs, List.getElem?_set_self (by rw [h.len]; exact hi), hp', av, fp, hp0, hdr⟩
    · rw [List.getElem?_set_ne hj] at q
      obtain ⟨b, ws, h1, h2, h3⟩ := h.own j ys q
      exact ⟨b, ws, by rw [List.getElem?_set_ne hj]; exact h1, h2, h3⟩
  · by_cases h1 : i = j
    · by_cases h2 : i = k
      · rw [← h1, ← h2]
      · subst h1
        rw [List.getElem?_set_ne h2] at q2 r2
        have hi : i < ρ.length := by
          rw [← List.length_set]
          exact (List.getElem?_eq_some_iff.mp q1).1
        rw [List.getElem?_set_self (by rw [h.len]; exact hi)] at r1
        cases r1
        exact absurd rfl (other q2 r2)
    · rw [List.getElem?_set_ne h1] at q1 r1
      by_cases h2 : i = k
      · subst h2
        have hi : i < ρ.length := by
          rw [← List.length_set]
          exact (List.getElem?_eq_some_iff.mp q2).1
        rw [List.getElem?_set_self (by rw [h.len]; exact hi)] at r2
        cases r2
        exact absurd rfl (other q1 r1)
      · rw [List.getElem?_set_ne h2] at q2 r2
        exact h.apart j k xs' ys b q1 q2 r1 r2
theorem ds_ownLc {st : Stmt} {i : Nat} {vs : List Nat} {bnd : D → Env → Option Env} {mi : AM} {mt : TM} {me : EM} {g : TG} (h : PS X st (tAsg (tLc (tI X.K W mi) g (tT X.K W0 mt) (tE X.K W0 me) vs) (gName i))) (hgd : TgE X.K vs g bnd) : PS X st (tS X.K W (sOwnLc i vs X.N.length bnd mi mt me)) :=
  ⟨fun pins s σ H D I h' => h.run pins s σ H D I (by
  obtain ⟨F0, H0, Z, F, ρ, s1, a, h'⟩ := h'
  unfold sOwnLc at h'
  cases q : lcO vs X.N.length bnd mi mt me (dats ρ) s1 with
  | none => rw [q] at h'; exact h'.elim
  | some p =>
    obtain ⟨xs, s2⟩ := p
    rw [q] at h'
    exact lc_own hgd I.len a.ext.fh (dats_at a.sl) a.dr q fun F' H' L ws e dr hL hL' fL' av => post_nx h' (SlAt.setOld a e dr hL hL' fL' av))⟩
end
end FL
set_option Elab.async false
set_option linter.all false
set_option maxRecDepth 100000
set_option maxHeartbeats 4000000
/-! ## FL, 14: x = [e for ..]; how a draw begins -/
namespace FL
open PySem PySem.Spec PyProof.Rows L2
section
variable {X : Cx} {W : WX}
theorem ds_setLc {st : Stmt} {i : Nat} {vs : List Nat} {bnd : D → Env → Option Env} {mi : AM} {mt : TM} {me : EM} {g : TG} (h : PS X st (tAsg (tLc (tI X.K W mi) g (tT X.K W0 mt) (tE X.K W0 me) vs) (gName i))) (hgd : TgE X.K vs g bnd) : PS X st (tS X.K W (sSet i (eLc vs X.N.length bnd mi mt me))) :=
  ⟨fun pins s σ H D I h' => h.run pins s σ H D I (by
  obtain ⟨F0, H0, Z, F, ρ, s1, a, h'⟩ := h'
  exact lc_read hgd I.len (run_read a (after_post a h' fun d s' F' H' v a' _ av p => post_nx p (a'.setD av))))⟩
end
/-! ### steps of a comprehension's walk -/
section
variable {bnd : D → Env → Option Env} {mt : TM} {me : EM} {ρ ρ1 : Env} {s s1 s2 : S} {d x : D} {ds : List D}
theorem lcL_take (hb : bnd d ρ = some ρ1) (ht : mt ρ1 s = .ok true s1) (he : me ρ1 s1 = .ok x s2) : lcL bnd mt me ρ (d :: ds) s = (lcL bnd mt me ρ ds s2).bind fun xs s3 => .ok (x :: xs) s3 := by
  rw [lcL, hb]
  dsimp only
  rw [ht]
  dsimp only
  rw [he]
theorem lcL_skip (hb : bnd d ρ = some ρ1) (ht : mt ρ1 s = .ok false s1) : lcL bnd mt me ρ (d :: ds) s = lcL bnd mt me ρ ds s1 := by
  rw [lcL, hb]
  dsimp only
  rw [ht]
theorem lcL_map {f : D → D} : ∀ {ds : List D}, (∀ d ∈ ds, ∃ ρ1, bnd d ρ = some ρ1 ∧ mt ρ1 s = .ok true s ∧ me ρ1 s = .ok (f d) s) → lcL bnd mt me ρ ds s = .ok (ds.map f) s
  | [], _ => rfl
  | d :: ds, h => by
    obtain ⟨ρ1, h1, h2, h3⟩ := h d List.mem_cons_self
    rw [lcL_take h1 h2 h3, lcL_map (f := f) fun e he => h e (List.mem_cons_of_mem _ he)]
    rfl
theorem lcL_filter {f : D → D} {p : D → Bool} : ∀ {ds : List D}, (∀ d ∈ ds, ∃ ρ1, bnd d ρ = some ρ1 ∧ mt ρ1 s = .ok (p d) s ∧ (p d = true → me ρ1 s = .ok (f d) s)) → lcL bnd mt me ρ ds s = .ok ((ds.filter p).map f) s
  | [], _ => rfl
  | d :: ds, h => by
    obtain ⟨ρ1, h1, h2, h3⟩ := h d List.mem_cons_self
    have ih := lcL_filter (f := f) (p := p) fun e he => h e (List.mem_cons_of_mem _ he)
    cases q : p d with
    | true =>
      rw [q] at h2
      rw [lcL_take h1 h2 (h3 q), ih, List.filter_cons_of_pos q]
      rfl
    | false =>
      rw [q] at h2
      rw [lcL_skip h1 h2, ih, List.filter_cons_of_neg (by rw [q]; exact Bool.false_ne_true)]
/-- with what is drawn on the way -/
theorem lcL_inv {G : S → Prop} {P : D → Prop} : ∀ {ds : List D} {s : S}, G s → (∀ d ∈ ds, ∀ s, G s → ∃ ρ1 x s2, bnd d ρ = some ρ1 ∧ mt ρ1 s = .ok true s ∧ me ρ1 s = .ok x s2 ∧ P x ∧ G s2) →
    ∃ xs s2, lcL bnd mt me ρ ds s = .ok xs s2 ∧ xs.length = ds.length ∧ (∀ x ∈ xs, P x) ∧ G s2
  | [], s, g, _ => ⟨[], s, rfl, rfl, fun _ h => (nomatch h), g⟩
  | d :: ds, s, g, h => by
    obtain ⟨ρ1, x, s1, h1, h2, h3, h4, h5⟩ := h d List.mem_cons_self s g
    obtain ⟨xs, s2, q1, q2, q3, q4⟩ := lcL_inv (G := G) (P := P) (ds := ds) h5 fun e he => h e (List.mem_cons_of_mem _ he)
    refine ⟨x :: xs, s2, by rw [lcL_take h1 h2 h3, q1]; rfl, by rw [List.length_cons, List.length_cons, q2], fun y hy => ?_, q4⟩
    rcases List.mem_cons.mp hy with rfl | z
    · exact h4
    · exact q3 y z
end
/-! ### the beginning -/
def begC (ns : List Int) : List Int := if (cutL ns none (some 63)) = [] then [7] else (cutL ns none (some 63)).map fun i => if i < 0 then -i else i
def spB (K : PySem.W.Frag) : Sp := fun vs H Q _ => ∃ a ns, vs = [.ref a] ∧ SqL K H a (ns.map V.int) ∧ ∀ H' p c, Same H H' → H p = none → H c = none → p ≠ c → H' p = some (.lst [.ref c, .int 0, .int 1]) → H' c = some (.lst ((begC ns).map V.int)) → Q (.ref p) H'
def mB1 : SM := sOwnLc 1 [2] 3 (c1 2) (iOf itemsF (eSl slF (eVar 0) oNone (oSome (eC (.int 63))))) tYesD (eOf absF (aCons (eVar 2) aNil))
def mB2 : SM := sIf (mBl (eOp eqG (eVar 1) (eOf lstF1 aNil))) (sOwn 1 (aCons (eC (.int 7)) aNil)) sNext
def tB (K : PySem.W.Frag) (W : WX) : TS := tSeq (tS K W mB1) (tSeq (tS K W mB2) (tRet (tLst (tCons (tVar 1) (tCons (tC (.int 0)) (tCons (tC (.int 1)) tNil))))))
theorem lcL_abs (a b : Option D) (s : S) (xs : List Int) : lcL (c1 2) tYesD (eOf absF (aCons (eVar 2) aNil)) [a, b, none] (xs.map D.int) s = .ok ((xs.map fun i => if i < 0 then -i else i).map D.int) s := by
  have h := lcL_map (bnd := c1 2) (mt := tYesD) (me := eOf absF (aCons (eVar 2) aNil)) (ρ := [a, b, none]) (s := s) (ds := xs.map D.int) (f := fun d => match d with | .int x => .int (if x < 0 then -x else x) | d => d) fun d hd => by
    obtain ⟨x, _, rfl⟩ := List.mem_map.mp hd
    exact ⟨_, rfl, rfl, rfl⟩
  rw [h, List.map_map, List.map_map]
  rfl
theorem toPs_int : ∀ xs : List Int, toPs (xs.map D.int) = some (xs.map PyData.int)
  | [] => rfl
  | x :: xs => by
    rw [List.map_cons]
    unfold toPs
    rw [toPs_int xs]
    rfl
theorem lay_int : ∀ xs : List Int, PyData.canLayAll0 (xs.map PyData.int) = true
  | [] => rfl
  | x :: xs => by
    rw [List.map_cons]
    unfold PyData.canLayAll0
    rw [lay_int xs]
    rfl
theorem depth_int : ∀ xs : List Int, PyData.depthAll (xs.map PyData.int) = 0
  | [] => rfl
  | x :: xs => by
    rw [List.map_cons]
    unfold PyData.depthAll
    rw [depth_int xs]
    rfl
theorem shaped_ints (xs : List Int) : SeqAt.shaped (.list (xs.map PyData.int)) = true := by
  unfold SeqAt.shaped
  rw [Bool.and_eq_true]
  refine ⟨?_, decide_eq_true ?_⟩
  · unfold PyData.canLay0
    exact lay_int xs
  · unfold PyData.depth
    rw [depth_int]
    decide
theorem eqG_nil (xs : List Int) : eqG (.lst (xs.map D.int)) (.lst []) = some (.bl xs.isEmpty) := by
  have h1 : toP (.lst (xs.map D.int)) = some (.list (xs.map PyData.int)) := by
    unfold toP
    rw [toPs_int]
    rfl
  have h2 : toP (.lst []) = some (.list []) := rfl
  have e0 : scF (.lst (xs.map D.int)) (.lst []) = none := rfl
  unfold eqG orF
  rw [e0]
  unfold eqF
  rw [h1, h2]
  dsimp only
  rw [if_pos ⟨shaped_ints xs, rfl⟩]
  cases xs with
  | nil => rfl
  | cons a b => rfl
theorem ints_of {K : PySem.W.Frag} {F : Hp} {Z : Option Zt} : ∀ {vs : List V} {xs : List Int}, AtAll K F Z vs (xs.map D.int) → vs = xs.map V.int
  | _, [], h => by cases h; rfl
  | _, x :: xs, h => by
    cases h with
    | cons a k =>
      rw [ints_of k]
      cases a
      rfl
theorem cut63 (ns : List Int) : (cutL ns none (some 63)).length ≤ 63 := by
  unfold cutL
  rw [List.length_take]
  refine Nat.le_trans (Nat.min_le_left _ _) (Nat.le_trans (Nat.sub_le _ _) ?_)
  show HT.sIx ns.length ns.length (some ((63 : Nat) : Int)) ≤ 63
  rw [HT.sIx_nat]
  exact Nat.min_le_left _ _
theorem mB1_run (ns : List Int) (s : S) : mB1 [some (.dat (.scr ns)), none, none] s = .nx [some (.dat (.scr ns)), some (.own (((cutL ns none (some 63)).map fun i => if i < 0 then -i else i).map D.int)), none] s := by
  have h : lcO [2] 3 (c1 2) (iOf itemsF (eSl slF (eVar 0) oNone (oSome (eC (.int 63))))) tYesD (eOf absF (aCons (eVar 2) aNil)) (dats [some (.dat (.scr ns)), none, none]) s = some (((cutL ns none (some 63)).map fun i => if i < 0 then -i else i).map D.int, s) := by
    unfold lcO
    refine (if_pos (show (dats [some (Sl.dat (D.scr ns)), none, none]).length ≤ 3 from Nat.le_refl 3)).trans ?_
    show (match lcL (c1 2) tYesD (eOf absF (aCons (eVar 2) aNil)) [some (.scr ns), none, none] ((cutL ns none (some 63)).map D.int) s with | .ok xs s2 => if xs.length ≤ sizeLine then some (xs, s2) else none | _ => none) = _
    rw [lcL_abs]
    dsimp only
    rw [if_pos]
    rw [List.length_map, List.length_map, sizeLine_eq]
    have := cut63 ns
    omega
  unfold mB1 sOwnLc
  rw [h]
  rfl
theorem mB2_run (ns xs : List Int) (s : S) : mB2 [some (.dat (.scr ns)), some (.own (xs.map D.int)), none] s = .nx [some (.dat (.scr ns)), some (.own ((if xs = [] then [7] else xs).map D.int)), none] s := by
  have h : runT (mBl (eOp eqG (eVar 1) (eOf lstF1 aNil))) [some (.dat (.scr ns)), some (.own (xs.map D.int)), none] s = .ok xs.isEmpty s := by
    have e1 : (mBl (eOp eqG (eVar 1) (eOf lstF1 aNil))) (dats [some (.dat (.scr ns)), some (.own (xs.map D.int)), none]) s = .bad := rfl
    have e2 : (mBl (eOp eqG (eVar 1) (eOf lstF1 aNil))) (vis [some (.dat (.scr ns)), some (.own (xs.map D.int)), none]) s = .ok xs.isEmpty s := by
      show ((lift (eqG (.lst (xs.map D.int)) (.lst [])) s).bind fun d s1 => match d with | .bl b => .ok b s1 | _ => .bad) = _
      rw [eqG_nil]
      rfl
    unfold runT
    rw [e1]
    dsimp only
    rw [e2]
  unfold mB2 sIf
  rw [h]
  cases xs with
  | nil => rfl
  | cons a b => rfl
/-- the promise of the beginning -/
theorem begin_pure {K : PySem.W.Frag} {W : WX} (vs : List V) (H : Hp) (Q : VK) (E : XK) (h : spB K vs H Q E) : tB K W { nx := fun _ H' => Q .non H', rt := Q } (L2.start ["script", "cells", "cell"] vs) H := by
  obtain ⟨a, ns, rfl, hS, k⟩ := h
  have sF : Same (fun b => if b = a then H b else none) H := fun b o e => by
    dsimp only at e
    split at e
    · exact e
    · cases e
  have hS2 : SqL K (fun b => if b = a then H b else none) a (ns.map V.int) := by
    rcases hS with (h | ⟨o, h⟩) | h
    · exact .inl (.inl ((if_pos rfl).trans h))
    · exact .inl (.inr ⟨o, (if_pos rfl).trans h⟩)
    · exact .inr h
  refine ⟨_, H, none, fun b => if b = a then H b else none, [some (.dat (.scr ns)), none, none], ⟨[], 0, 0⟩, ⟨Ext.refl sF, trivial, ⟨rfl, fun i d q => ?_, fun i xs q => ?_, fun i j xs ys b q => ?_⟩⟩, ?_⟩
  · match i, q with
    | 0, q => cases q; exact ⟨_, rfl, .scr hS2⟩
    | 1, q => cases q
    | 2, q => cases q
    | i + 3, q => simp at q
  · match i, q with
    | 0, q => cases q
    | 1, q => cases q
    | 2, q => cases q
    | i + 3, q => simp at q
  · match i, q with
    | 0, q => cases q
    | 1, q => cases q
    | 2, q => cases q
    | i + 3, q => simp at q
  rw [mB1_run]
  intro F1 H1 σ1 e1 d1 l1
  refine ⟨_, H, none, F1, _, _, ⟨e1, d1, l1⟩, ?_⟩
  rw [mB2_run]
  intro F2 H2 σ2 e2 d2 l2
  obtain ⟨c, ws, r1, r2, r3, r4, r5, r6⟩ := l2.own 1 _ rfl
  have hb : (if ((cutL ns none (some 63)).map fun i => if i < 0 then -i else i) = [] then [7] else ((cutL ns none (some 63)).map fun i => if i < 0 then -i else i)) = begC ns := by
    unfold begC
    by_cases hc : cutL ns none (some 63) = []
    · rw [if_pos hc, hc]; rfl
    · rw [if_neg hc, if_neg]
      intro z
      exact hc (List.map_eq_nil_iff.mp z)
  rw [hb] at r3
  have e3 := ints_of r3
  subst e3
  refine ⟨_, r1, by show 3 ≤ sizeLine; decide, fun p hp => ?_⟩
  have hpc : p ≠ c := fun z => by rw [z, r2] at hp; cases hp
  have keep : ∀ b o, H b = some o → H2 b = some o := fun b o e => by
    obtain ⟨o', q1, q2⟩ := e2.h b o e
    rw [q1, q2 fun z => z]
  have hp0 : H p = none := by
    cases q : H p with
    | none => rfl
    | some o => rw [keep _ _ q] at hp; cases hp
  refine k _ p c (fun b o e => ?_) hp0 r5 hpc upd_same ?_
  · rw [upd_ne fun z => by rw [z, hp0] at e; cases e]
    exact keep b o e
  · rw [upd_ne (Ne.symm hpc)]
    exact r2
end FL
set_option Elab.async false
set_option linter.all false
set_option maxRecDepth 100000
set_option maxHeartbeats 4000000
/-! ## FL, 15: what a generated derivation names -/
namespace FL
open PySem PySem.Spec PyProof.Rows L2
/-! ### -e, chains as tests, constants of the module -/
def negF : D → Option D
  | .int i => some (.int (-i))
  | _ => none
section
variable {X : Cx} {W : WX} {a b c e : Expr} {ma mb mc me : EM} {pos : Pos}
theorem de_neg (ha : PE X a (tE X.K W ma)) : PE X (.UnaryOp .USub a pos) (tE X.K W (eUn negF ma)) := pe_weak (pe_un un_neg ha) fun σ H Q ⟨F, Z, ρ, s, hs, he, hd, h⟩ => by
  refine tE_then hs he hd h fun x s1 F1 H1 v1 e1 he1 hd1 a1 h => ?_
  obtain ⟨g, hg, k⟩ := post_now h
  unfold negF at hg
  split at hg
  · cases hg
    cases a1
    exact ⟨_, rfl, k F1 H1 _ (Ext.refl e1.fh) hd1 (.int _)⟩
  · cases hg
theorem dt_chain {op op' : CmpOp} {r r' : R2} {f g : D → D → Option D} (hr : OpR X (compareOp op) r) (hr' : OpR X (compareOp op') r') (ho : OpD X.K r f) (ho' : OpD X.K r' g) (ha : PE X a (tE X.K W ma)) (hb : PE X b (tE X.K W mb)) (hc : PE X c (tE X.K W mc))
    (hm : lastMarks [op, op'] [b, c] = false := by with_unfolding_all rfl) : PT X (.Compare a [op, op'] [b, c] pos) (tT X.K W (mBl (eChain f g ma mb mc))) := pt_weak (pt_chain hr hr' ha hb hc hm) fun σ H Q ⟨F, Z, ρ, s, hs, he, hd, h⟩ => by
  have h' : tE X.K W (eChain f g ma mb mc) σ H fun x H1 => ∃ k, x = .bl k ∧ Q k H1 := tE_then hs he hd h fun x s1 F1 H1 v1 e1 he1 hd1 a1 h => by
    cases x with
    | bl k => exact ⟨k, at_bl a1, h F1 H1 _ (Ext.refl e1.fh) hd1 rfl⟩
    | _ => exact h.elim
  exact chain_read ho ho' h'
theorem de_globE {x : Str} {v : V} {d : D} (hg : Gl X x) (hm : ∃ u, X.mg x = some u ∧ RelV v u) (a : ∀ F Z, At X.K F Z v d) (hd : (x == ("__debug__" : Str)) = false := by decide) : PE X (.Name x pos) (tE X.K W (eC d)) := by
  obtain ⟨u, h1, h2⟩ := hm
  exact de_glob hg h1 h2 a hd
end
theorem de_getKE {X : Cx} {W : WX} {o e : Expr} {me : EM} {apos pos : Pos} {d : Addr} {tab : Str → Option D} (D1 : ∃ es n, KDict X.K X.w d es n) (ho : PE X o (tC (.ref d))) (he : PE X e (tE X.K W me))
    (ht : ∀ z g, tab z = some g → ∃ r v, PySem.W.nsIn X.K d z = some r ∧ RelV v (r.getD .none) ∧ ∀ F Z, At X.K F Z v g)
    (hbase : attributeBase o "get" X.env (eval o X.env) = eval o X.env := by rfl)
    (hfew : ((backTo pos (starEach [e] X.env)).all (fun x => !x.1) && (backToKw pos (keywordEach [] X.env)).all (fun x => x.1.isSome)
      && decide (([e] : List Expr).length + ([] : List Keyword).length + (if ([] : List Keyword).isEmpty then 0 else 1) < 30)) = true := by rfl)
    (hline : (apos.endLine == pos.line) = true := by rfl) (hs : starEach [e] X.env = (false, eval e X.env) :: starEach [] X.env := by rfl) (hplain : (backTo pos (starEach [] X.env)).any (·.1) = false := by rfl) :
    PE X (.Call (.Attribute o "get" apos) [e] [] pos) (tE X.K W (eUn (getF tab) me)) := by
  obtain ⟨es, n, D2⟩ := D1
  exact de_getK D2 ho he ht hbase hfew hline hs hplain
/-- x in y, y a list, a tuple or a text -/
def inG (neg : Bool) : D → D → Option D := orF (inF neg) (signF neg)
def rInG (K : PySem.W.Frag) : R2 := fun x y H Q => rIn K false x y H Q ∨ ∃ (c : Nat) (z : Str), x = .str ⟨#[c]⟩ ∧ y = .str z ∧ Q (.bl (decide (c ∈ z.cps.toList))) H
def rNotInG (K : PySem.W.Frag) : R2 := fun x y H Q => rIn K true x y H Q ∨ ∃ (c : Nat) (z : Str), x = .str ⟨#[c]⟩ ∧ y = .str z ∧ Q (.bl (!decide (c ∈ z.cps.toList))) H
theorem op_inG {X : Cx} : OpR X (compareOp .In) (rInG X.K) := op_in_seq.or op_in_sign
theorem op_notInG {X : Cx} : OpR X (compareOp .NotIn) (rNotInG X.K) := op_notIn_seq.or op_notIn_sign
theorem od_inG {K : PySem.W.Frag} : OpD K (rInG K) (inG false) := OpD.or od_in od_sign
theorem od_notInG {K : PySem.W.Frag} : OpD K (rNotInG K) (inG true) := OpD.or od_in od_notSign
/-- isinstance of anything, a kept exception too -/
def isaF (sub : Addr → List Value → Option Bool) : List D → Option D := fun ds => (isiF ds).or (isxF sub ds)
def rIsA (K : PySem.W.Frag) : List V → Hp → VK → Prop := fun xs H Q => rIsG K xs H Q ∨ rIsX K xs H Q
theorem call_isA {X : Cx} : CallR X (.builtin "isinstance") (rIsA X.K) := call_isG.or call_isX
theorem cd_isa {K : PySem.W.Frag} {sub : Addr → List Value → Option Bool} (hsub : ∀ C us b, sub C us = some b → ExcC K C ∧ PySem.W.kitAny K (.ref C) us = some b ∧ ∀ u, us = [u] → PySem.W.kitOne K (.ref C) u = some b) : CallD K (rIsA K) (isaF sub) := CallD.or cd_is (cd_isx hsub)
/-- a def of the text, called by its name -/
structure DefOk (K : PySem.W.Frag) (mg : Str → Option Value) (x : Str) (st : Stmt) (f : Addr) (fd : FuncData) (ps : List Str) : Prop where
  g : mg x = some (.ref f)
  fn : L2.Fun K x x st f fd
  b : Binds K fd ps []
theorem hu64 {A : Around} {k : Nat} (hr : Rm k A) : A.units + 64 < cLine := hr.r.units
/-- a, b = e, [], the second a list of one's own -/
theorem ds_tupO {X : Cx} {W : WX} {st : Stmt} {i j : Nat} {me : EM} (h : PS X st (tAsg (tTup (tCons (tE X.K W me) (tCons (tLst tNil) tNil))) (gTup X.K 2 (gCons (gName i) (gCons (gName j) gNil))))) : PS X st (tS X.K W (sParO i j me)) := ps_weak h fun D σ H ⟨F0, H0, Z, F, ρ, s, a, h⟩ =>
  run_read a (after_post a h fun d s' F' H' v a' _ av p => ⟨Nat.zero_le _, fun q hq => ⟨by show 2 ≤ sizeLine; decide, fun t ht => by
    have b := SlAt.setO (i := j) (a'.setD (i := i) av) hq (.nil : AtAll X.K F' Z [] [])
    have e := Ext.newH (Z := Z) (o := HO.tup [v, .ref q]) b.ext.fh ht
    have b2 := b.go e (b.dr.newH b.ext.fh ht)
    exact ⟨t, [v, .ref q], rfl, .of upd_same, rfl, v, _, rfl, _, _, rfl, rfl, post_nx p b2⟩⟩⟩)
theorem bt_list : bootBuiltins "list" = some (.type "list") := by decide +kernel
theorem bt_tuple : bootBuiltins "tuple" = some (.type "tuple") := by decide +kernel
theorem bt_int : bootBuiltins "int" = some (.type "int") := by decide +kernel
theorem bt_bool : bootBuiltins "bool" = some (.type "bool") := by decide +kernel
theorem bt_str : bootBuiltins "str" = some (.type "str") := by decide +kernel
theorem bt_dict : bootBuiltins "dict" = some (.type "dict") := by decide +kernel
theorem bt_ValueError : bootBuiltins "ValueError" = some (.type "ValueError") := by decide +kernel
theorem bb_len : bootBuiltins "len" = some (.builtin "len") := by decide +kernel
theorem bb_abs : bootBuiltins "abs" = some (.builtin "abs") := by decide +kernel
theorem bb_min : bootBuiltins "min" = some (.builtin "min") := by decide +kernel
theorem bb_max : bootBuiltins "max" = some (.builtin "max") := by decide +kernel
theorem bb_all : bootBuiltins "all" = some (.builtin "all") := by decide +kernel
theorem bb_any : bootBuiltins "any" = some (.builtin "any") := by decide +kernel
theorem bb_repr : bootBuiltins "repr" = some (.builtin "repr") := by decide +kernel
theorem bb_isinstance : bootBuiltins "isinstance" = some (.builtin "isinstance") := by decide +kernel
theorem bb_sorted : bootBuiltins "sorted" = some (.builtin "sorted") := by decide +kernel
end FL
set_option Elab.async false
set_option linter.all false
set_option maxRecDepth 100000
set_option maxHeartbeats 4000000
/-! ## FL, 16: a law's def, called by the judge -/
namespace FL
open PySem PySem.Spec PyProof.Rows L2
/-- the promise sp of the def at f, with room for k calls and no repr around -/
structure FnX (P : Program) (w : World) (K : PySem.W.Frag) (mg : Str → Option Value) (base : Heap) (k : Nat) (f : Addr) (fd : FuncData) (ps : List Str) (sp : Sp) : Prop where
  go : ∀ (A : Around) (outer : List PySem.Env) (s : Shared) (H : Hp) (args : Args) (us : List Value) (vs : List V) (Q : VK) (E : XK), Rm k A → Env0 P w K mg base A outer s H → BindsTo s fd args (ps.zip us) → Vals vs us → sp vs H Q E →
    codeAny (model P w) A (.call (.ref f) args) (CR (L2.CX P w) outer P w H s Q E) s
section
variable {P : Program} {w : World} {K : PySem.W.Frag} {mg : Str → Option Value} {base : Heap}
theorem Fun.okRm {x qual : Str} {st : Stmt} {f : Addr} {fd : FuncData} {N ps : List Str} {k : Nat} {sp : Sp} (T : L2.Fun K x qual st f fd) (Sc : FnScope N ps (defScope st)) (hlen : ∀ vs H Q E, sp vs H Q E → vs.length = ps.length)
    (hbody : ∀ (cdv : Value) (A : Around) (outer : List PySem.Env) (s : Shared) (H : Hp) (vs : List V) (Q : VK) (E : XK), Rm k (A.deeper (envOfC qual (defScope st) s.heap.objs.size f cdv)) → sp vs H Q E →
      ∃ t, PSs (cxOf (L2.CX P w) P w K mg base N qual (defScope st) f cdv A outer s H E) (defBody st) t ∧ t { nx := fun _ H2 => Q .non H2, rt := Q } (L2.start N vs) H) : FnX P w K mg base (k + 1) f fd ps sp := by
  obtain ⟨oc, od, kV, doc, pm, an, cdv, ct, osl, rfl, lk, hcd⟩ := T.ex
  refine ⟨fun A outer s H args us vs Q E hr e0 hbd rv hsp => ?_⟩
  have hlv : vs.length = ps.length := hlen _ _ _ _ hsp
  have KX : K.In s.heap := e0.mod.kin.keeps fun b ob y => (e0.bs b ob y).1
  have lim : s.heap.NoLimit := e0.mod.nolimit.keeps fun b ob y => (e0.bs b ob y).1
  have kinds : ∀ y ∈ ps.zip us, (defScope st).names.lookup y.1 = some .local ∨ ((defScope st).names.lookup y.1 = some .cell ∧ ((cellsFrom (s.heap.objs.size + 1) (defScope st).names []).lookup y.1).isSome = true) := fun ⟨nm, v⟩ hy => by
    rcases Sc.par nm (List.of_mem_zip hy).1 with q | q
    · exact .inl q
    · exact .inr ⟨q, PySem.W.cellsFrom_some _ _ _ (.inl q)⟩
  obtain ⟨t, ht, hq⟩ := hbody cdv A outer s H vs Q E (hr.deeper _) hsp
  refine codeAny_call_function hr.r.depth (KX _ _ lk) rfl Sc.co Sc.gen rfl (PySem.W.codeRec_of KX hcd) (hbd _ _ _ _ ?_)
  refine wpAny_newFunctionEnv_cells Sc.kind kinds fun env2 he2 s1 x2 => ?_
  subst he2
  refine ⟨lim.keeps x2.toInCall.keep, codeAny_func ?_⟩
  have I : Inv (cxOf (L2.CX P w) P w K mg base N qual (defScope st) f cdv A outer s H E) [] (L2.start N vs) H s1 := inv_start Sc hr.r.hd e0 hlv rv x2
  refine wpAny_mono (ht.run [] s1 (L2.start N vs) H _ I hq) (fun fl s2 hs2 => ?_) fun e s2 hs2 => hs2
  have fin : ∀ {σ2 : L2.St} {H2 : Hp} {v : V} {u : Value}, Inv (cxOf (L2.CX P w) P w K mg base N qual (defScope st) f cdv A outer s H E) [] σ2 H2 s2 → RelV v u → Q v H2 → CE outer P w H s Q u s2 :=
    fun {σ2 H2 v u} J r2 q => ⟨v, H2, J.os, J.bare, J.base, J.hok, r2, q⟩
  cases fl with
  | ret u =>
    obtain ⟨v, σ2, H2, J, r2, q⟩ := hs2
    exact fin J r2 q
  | next =>
    obtain ⟨σ2, H2, J, q⟩ := hs2
    exact fin (v := V.non) (u := Value.none) J rfl q
  | brk =>
    obtain ⟨_, _, _, q⟩ := hs2
    exact q.elim
  | cont =>
    obtain ⟨_, _, _, q⟩ := hs2
    exact q.elim
/-- what the judge wants of the call, from the heap behind the top on -/
def LawEnd (s1 : Shared) (r : Result) (s2 : Shared) : Prop := r = .ok (.ret (.bool true)) ∧ OldK s1.heap s2.heap ∧ s2.os = s1.os ∧ AllBare s2.gens
/-- one call at an abstract heap that tracks nothing but, perhaps, the script -/
theorem call_at {k : Nat} {fa a : Addr} {fd : FuncData} {x : Str} {sp : Sp} {s1 : Shared} {mb : Str → Option Value} {vs : List Value} {H : Hp} (inK : K.In s1.heap) (gl : s1.heap.Ns mainGlobals mg) (bl : s1.heap.Ns builtinsNs mb) (bo : ∀ y : Str, y ≠ "__name__" → mb y = bootBuiltins y)
    (nl : s1.heap.NoLimit) (gn : s1.gens = #[]) (hobj : s1.heap.get? a = some { cls := .type "list", data := .seq vs.toArray }) (room : Rm k callerA) (hF : ∀ b : Heap, K.In b → b.Ns mainGlobals mg → FnX P w K mg b k fa fd [x] sp)
    (bnd : ∀ (s : Shared) (u : Value), BindsTo s fd ⟨[u], []⟩ [(x, u)]) (only : Only H) (hs : sp [.ref a] H (fun v _ => v = .bl true) fun _ _ _ => False) (okH : HOk P w H s1.heap) (atA : ∀ b, H b ≠ none → b = a) (notK : H a ≠ none → K.lookup a = none) :
    codeAny (model P w) callerA (.call (.ref fa) ⟨[.ref a], []⟩) (LawEnd s1) s1 := by
  have noDict : ∀ {b : Addr} {o : Obj} {es : Array DictEntry} {ep : Nat}, s1.heap.get? b = some o → o.data = .dict es ep → H b = none := fun {b o es ep} h1 h2 => by
    rcases hb : H b with _ | u
    · rfl
    · have h3 : b = a := atA b fun z => by rw [hb] at z; cases z
      rw [h3, hobj] at h1
      injection h1 with h1
      rw [← h1] at h2
      cases (show Data.seq vs.toArray _ = Data.dict es ep from h2)
  have toB : ∀ {b : Addr} {o : Obj}, s1.heap.get? b = some o → H b = none → (hidT s1.heap H).get? b = some o := fun h1 h2 => hidT_get h1 h2
  have nsB : ∀ {b : Addr} {m : Str → Option Value}, s1.heap.Ns b m → (hidT s1.heap H).Ns b m := fun {b m} hn => by
    obtain ⟨o, es, ep, h1, h2, h3⟩ := hn
    exact ⟨o, es, ep, toB h1 (noDict h1 h2), h2, h3⟩
  have inB : K.In (hidT s1.heap H) := fun b o h1 => by
    refine toB (inK b o h1) ?_
    rcases hb : H b with _ | u
    · rfl
    · have h3 : b = a := atA b fun z => by rw [hb] at z; cases z
      subst h3
      have h4 := notK fun z => by rw [hb] at z; cases z
      rw [h4] at h1
      cases h1
  have mo : Mod K mg (hidT s1.heap H) := by
    obtain ⟨mc, n1, n2⟩ := nl
    exact ⟨inB, nsB gl, ⟨mb, nsB bl, bo⟩, ⟨mc, nsB n1, n2⟩⟩
  have env : Env0 P w K mg (hidT s1.heap H) callerA [] s1 H := by
    refine ⟨rfl, mo, fun b o h1 => of_hidT h1, Nat.le_of_eq (hidT_size _ _), trivial, fun b h1 => ?_, okH, AllBare.of_eq gn⟩
    exact absurd (show b ∈ ([] : List Addr) from h1) List.not_mem_nil
  have run := (hF _ inB (nsB gl)).go callerA [] s1 H ⟨[.ref a], []⟩ [.ref a] [.ref a] _ _ room env (bnd s1 (.ref a)) (Paired.cons rfl Paired.nil) hs
  refine codeAny_mono run fun res s2 hres => ?_
  match res, hres with
  | .error e, hres =>
    obtain ⟨_, _, _, _, _, _, _, _, _, _, _, _, z⟩ := hres
    exact z.elim
  | .ok .next, hres => exact hres.elim
  | .ok .brk, hres => exact hres.elim
  | .ok .cont, hres => exact hres.elim
  | .ok (.ret u), hres =>
    obtain ⟨v, H2, os2, bare2, un, ok2, ru, hv⟩ := hres
    subst hv
    have eu : u = Value.bool true := ru
    subst eu
    refine ⟨rfl, OldK.of_keep fun b o hb => ?_, os2, bare2⟩
    rcases only b with hn | ⟨ob, xs, hz⟩
    · exact un.keep b o hb hn (fun z => absurd (show b ∈ ([] : List Addr) from z) List.not_mem_nil) List.not_mem_nil
    · have h1 := (okH b _ hz).1
      rw [hb] at h1
      cases h1
      exact (ok2 b _ (un.frzs b _ _ hz)).1
theorem call_law {k : Nat} {fa a : Addr} {fd : FuncData} {x : Str} {sp : Sp} {s1 : Shared} {mb : Str → Option Value} {vs : List Value} {ns : List Int} (inK : K.In s1.heap) (gl : s1.heap.Ns mainGlobals mg) (bl : s1.heap.Ns builtinsNs mb) (bo : ∀ y : Str, y ≠ "__name__" → mb y = bootBuiltins y)
    (nl : s1.heap.NoLimit) (gn : s1.gens = #[]) (hobj : s1.heap.get? a = some { cls := .type "list", data := .seq vs.toArray }) (hin : IntsAre vs ns) (few : ns.length ≤ sizeLine) (room : Rm k callerA) (hF : ∀ b : Heap, K.In b → b.Ns mainGlobals mg → FnX P w K mg b k fa fd [x] sp)
    (bnd : ∀ (s : Shared) (u : Value), BindsTo s fd ⟨[u], []⟩ [(x, u)]) (hs : ∀ H : Hp, SqL K H a (ns.map V.int) → sp [.ref a] H (fun v _ => v = .bl true) fun _ _ _ => False) :
    codeAny (model P w) callerA (.call (.ref fa) ⟨[.ref a], []⟩) (LawEnd s1) s1 := by
  have rel := vals_ints hin
  rcases hk : K.lookup a with _ | o
  · have here : (fun b => if b = a then some (HO.frz { cls := .type "list", data := .seq vs.toArray } (.lst (ns.map V.int))) else none : Hp) a = some (HO.frz { cls := .type "list", data := .seq vs.toArray } (.lst (ns.map V.int))) := if_pos rfl
    have just : ∀ b, (fun b => if b = a then some (HO.frz { cls := .type "list", data := .seq vs.toArray } (.lst (ns.map V.int))) else none : Hp) b ≠ none → b = a := fun b hb => by
      rcases Classical.em (b = a) with h1 | h1
      · exact h1
      · exact absurd (if_neg h1) hb
    refine call_at inK gl bl bo nl gn hobj room hF bnd (fun b => ?_) (hs _ (.inl (.inr ⟨_, here⟩))) (fun b u hb => ?_) just fun _ => hk
    · rcases Classical.em (b = a) with h1 | h1
      · exact .inr ⟨_, _, if_pos h1⟩
      · exact .inl (if_neg h1)
    · have h1 : b = a := just b fun z => by
        have h2 : (none : Option HO) = some u := z.symm.trans hb
        cases h2
      subst h1
      have h2 := here.symm.trans hb
      cases h2
      exact ⟨hobj, by rw [List.length_map]; exact few, vs, _, rel, hobj⟩
  · have h1 := inK a o hk
    rw [hobj] at h1
    cases h1
    have none0 : ∀ (b : Addr) (u : HO), (fun _ => none : Hp) b = some u → False := fun b u hb => by cases (show (none : Option HO) = some u from hb)
    refine call_at (H := fun _ => none) inK gl bl bo nl gn hobj room hF bnd (fun _ => .inl rfl) (hs _ (.inr ⟨_, vs.toArray, _, hk, rfl, rfl, rfl, ?_, ?_⟩)) (fun b u hb => (none0 b u hb).elim) (fun b hb => absurd rfl hb) fun hb => absurd rfl hb
    · rw [List.size_toArray, hin.length]; exact few
    · rw [List.toList_toArray]; exact rel
end
theorem walk_X {l : PySem.W.OpenLaw} {n k : Nat} {q : Program} {loose : List Str} {XP : (Str → Option Value) → Heap → Prop} {YP : World → Heap → Prop} {d : DefRec} {K : Params → PySem.W.Frag} {sp : PySem.W.Frag → Sp} {x : Str}
    (hn : l.most = some n) (hn2 : n ≤ sizeLine) (hdf : d.params.defaults = []) (room : Rm k callerA) (hY : ∀ (w : World) (h : Heap), YP w h → (K w.params).In h)
    (F : ∀ (w : World) (mg : Str → Option Value) (fa : Addr) (h : Heap), (K w.params).In h → h.Ns mainGlobals mg → mg d.name = some (.ref fa) →
      ∃ fd : FuncData, (∀ (s : Shared) (u : Value), BindsTo s fd ⟨[u], []⟩ [(x, u)]) ∧ ∀ b : Heap, (K w.params).In b → b.Ns mainGlobals mg → FnX l.prog w (K w.params) mg b k fa fd [x] (sp (K w.params)))
    (hsp : ∀ (K : PySem.W.Frag) (H : Hp) (a : Addr) (ns : List Int), ns.length ≤ n → (∀ z ∈ ns, Builtin.Int.intBits z ≤ 1048576) → SqL K H a (ns.map V.int) → sp K [.ref a] H (fun v _ => v = .bl true) fun _ _ _ => False) :
    PySem.W.WalkO q loose XP YP l.row.toRowW d [] (fun f vs => PySem.call f vs) := by
  refine Att.attach_callB hn hdf fun w s0 s1 mg mb fa o pm cd doc a vs ns G Y h1 h2 h3 h4 h5 h6 h7 h8 h9 => ?_
  have inK := hY w _ Y
  obtain ⟨fd, bnd, hF⟩ := F w mg fa _ inK G.T.g h4
  exact call_law inK G.T.g G.T.b G.T.builtins G.T.nolimit h9 h5 h6 (Nat.le_trans h7 hn2) room hF bnd fun H hS => hsp _ H a ns h7 h8 hS
end FL
set_option Elab.async false
set_option linter.all false
set_option maxRecDepth 100000
set_option maxHeartbeats 4000000
/-! ## FL, 17: facts that the head tells -/
namespace FL
open PySem PySem.Spec PyProof.Rows L2
/-! ### an error's class of one's own, over ValueError -/
def oexB (K : PySem.W.Frag) (C : Addr) : Bool := match K.lookup C with
  | some ⟨.type "type", _, .cls cd, sl⟩ => (match cd.mro, sl.toList with
    | .ref c :: bm, [_, _, _, _, some (.builtin n), _] => (decide (c = C) && decide (n = "ValueError.__new__")) && (!cd.hasDel && (cd.hasDict && PySem.HandSPX.refsVE bm))
    | _, _ => false)
  | _ => false
theorem and2 {a b : Bool} (h : (a && b) = true) : a = true ∧ b = true := Bool.and_eq_true_iff.mp h
theorem oexB_ok {K : PySem.W.Frag} {C : Addr} (h : oexB K C = true) : ∃ nm q N bs bm sn sub ab col dd k0 k1 k2 k3 k5, K.lookup C = some (excClassObj nm q C N bs bm true sn sub ab col dd k0 k1 k2 k3 k5 "ValueError.__new__") ∧ PySem.HandSPX.refsVE bm = true := by
  unfold oexB at h
  split at h
  · rename_i dd cd sl look
    split at h
    · rename_i c bm k0 k1 k2 k3 n k5 e1 e2
      obtain ⟨h1, h2⟩ := and2 h
      obtain ⟨h3, h4⟩ := and2 h1
      obtain ⟨h5, h6⟩ := and2 h2
      obtain ⟨h7, h8⟩ := and2 h6
      have e3 := of_decide_eq_true h3
      have e4 := of_decide_eq_true h4
      subst e3 e4
      obtain ⟨nm, bs, mro, ns, qn, hd, sn, sub, ab, col, del⟩ := cd
      obtain ⟨l⟩ := sl
      have e5 : l = [k0, k1, k2, k3, some (.builtin "ValueError.__new__"), k5] := e2
      have e6 : mro = .ref c :: bm := e1
      have e7 : hd = true := h7
      have e8 : del = false := by
        have z : (!del) = true := h5
        cases del with
        | false => rfl
        | true => cases z
      subst e5 e6 e7 e8
      exact ⟨nm, qn, ns, bs, bm, sn, sub, ab, col, dd, k0, k1, k2, k3, k5, look, h8⟩
    · cases h
  · cases h
def oexA (K : PySem.W.Frag) (C : Addr) : Bool := oexB K C && (decide (PySem.W.findIn K (.ref C) "__setattr__" = some (some (.builtin "object.__setattr__"))) && (decide (PySem.W.subIn K (.ref C) (.type "BaseException") = some true) && (decide (PySem.W.typeIn K (.ref C) = some (.type "type")) && PySem.W.keepIn K (.ref C))))
theorem oexA_ok {K : PySem.W.Frag} {C : Addr} (h : oexA K C = true) : OexC K C := by
  obtain ⟨h1, h⟩ := and2 h
  obtain ⟨h2, h⟩ := and2 h
  obtain ⟨h3, h⟩ := and2 h
  obtain ⟨h4, h5⟩ := and2 h
  exact ⟨oexB_ok h1, of_decide_eq_true h2, of_decide_eq_true h3, of_decide_eq_true h4, h5⟩
def excA (K : PySem.W.Frag) (C : Addr) : Bool := decide (PySem.W.findIn K (.ref C) "__getattribute__" = some (some (.builtin "BaseException.__getattribute__"))) && (decide (PySem.W.findIn K (.ref C) "__getattr__" = some none) && (decide (PySem.W.subIn K (.ref C) (.type "BaseException") = some true) && (PySem.W.hasDictIn K C &&
  (decide (PySem.W.findIn K (.ref C) "__class__" = some (some (.builtin "object.__class__"))) && (decide (PySem.W.specialIn K (.builtin "object.__class__") "__get__" = some (some (.builtin "getset_descriptor.__get__"))) && (decide (PySem.W.takesIn K (.builtin "object.__class__") = some true) && decide (PySem.W.mroIn K C (.type "object") = some true)))))))
theorem excA_ok {K : PySem.W.Frag} {C : Addr} (h : excA K C = true) : ExcC K C := by
  obtain ⟨h1, h⟩ := and2 h
  obtain ⟨h2, h⟩ := and2 h
  obtain ⟨h3, h⟩ := and2 h
  obtain ⟨h4, h⟩ := and2 h
  obtain ⟨h5, h⟩ := and2 h
  obtain ⟨h6, h⟩ := and2 h
  obtain ⟨h7, h8⟩ := and2 h
  exact ⟨of_decide_eq_true h1, of_decide_eq_true h2, of_decide_eq_true h3, h4, of_decide_eq_true h5, of_decide_eq_true h6, of_decide_eq_true h7, of_decide_eq_true h8⟩
/-! ### a table's missing key -/
theorem miss_of {P : Params} {z : Str} : ∀ {l : List DictEntry} {ks : List Str}, l.map He.keyOf = He.keysIn P ks → z ∉ ks → l.find? (·.key.isStr z) = none ∧ l.any (·.refKey) = false
  | [], _, _, _ => ⟨rfl, rfl⟩
  | e :: r, [], h, _ => by cases h
  | e :: r, k :: ks, h, hz => by
    have h1 : He.keyOf e :: r.map He.keyOf = some (k, PyData.keyHash P k) :: He.keysIn P ks := h
    injection h1 with h2 h3
    obtain ⟨i1, i2⟩ := miss_of (l := r) h3 fun q => hz (List.mem_cons_of_mem _ q)
    have hk : ∃ t, e.key = .str k t := by
      unfold He.keyOf at h2
      split at h2
      · rename_i x t q
        have h4 := (Prod.mk.inj (Option.some.inj h2)).1
        exact ⟨t, by rw [q, h4]⟩
      · cases h2
    obtain ⟨t, hk⟩ := hk
    have n1 : e.key.isStr z = false := by
      rw [hk]
      show decide (k = z) = false
      exact decide_eq_false fun q => hz (by rw [← q]; exact List.mem_cons_self)
    have n2 : e.refKey = false := by
      obtain ⟨eh, ek, ev⟩ := e
      have hk : ek = .str k t := hk
      subst hk
      rfl
    refine ⟨?_, ?_⟩
    · rw [List.find?_cons_of_neg (by rw [n1]; exact Bool.false_ne_true)]
      exact i1
    · rw [List.any_cons, n2, i2]
      rfl
theorem dicW_miss {K : PySem.W.Frag} {P : Params} {a : Addr} {ks : List Str} {z : Str} (h : He.dicW K a = some (He.keysIn P ks)) (hz : z ∉ ks) : PySem.W.nsIn K a z = some none := by
  unfold He.dicW at h
  unfold PySem.W.nsIn
  split at h
  · rename_i c es n sl q
    rw [q]
    split at h
    · obtain ⟨m1, m2⟩ := miss_of (Option.some.inj h) hz
      dsimp only
      rw [m1]
      dsimp only
      rw [m2]
      rfl
    · cases h
  · cases h
/-! ### a def's facts -/
theorem fun_of {K : PySem.W.Frag} {x qual : Str} {st : Stmt} {f : Addr} {fd : FuncData} (F : FunD K x qual (defArgs st) (defBody st) (defScope st) [] [] f fd) : L2.Fun K x qual st f fd := by
  obtain ⟨oc, od, dV, kV, doc, pm, an, cdv, ct, osl, e, lk, hcd, hD, hK⟩ := F.ex
  rcases hD with ⟨_, hd⟩ | ⟨z, _⟩
  · subst hd
    exact ⟨⟨oc, od, kV, doc, pm, an, cdv, ct, osl, e, lk, hcd⟩, F.kp⟩
  · exact absurd rfl z
/-- the end, over a head by facts -/
theorem walk_XE {l : PySem.W.OpenLaw} {n k : Nat} {q : Program} {loose : List Str} {XP : (Str → Option Value) → Heap → Prop} {YP : World → Heap → Prop} {d : DefRec} {sp : PySem.W.Frag → Sp} {x : Str}
    (hn : l.most = some n) (hn2 : n ≤ sizeLine) (hdf : d.params.defaults = []) (room : Rm k callerA)
    (F : ∀ (w : World) (mg : Str → Option Value) (fa : Addr) (h : Heap), YP w h → h.Ns mainGlobals mg → mg d.name = some (.ref fa) →
      ∃ (K : PySem.W.Frag) (fd : FuncData), K.In h ∧ (∀ (s : Shared) (u : Value), BindsTo s fd ⟨[u], []⟩ [(x, u)]) ∧ ∀ b : Heap, K.In b → b.Ns mainGlobals mg → FnX l.prog w K mg b k fa fd [x] (sp K))
    (hsp : ∀ (K : PySem.W.Frag) (H : Hp) (a : Addr) (ns : List Int), ns.length ≤ n → (∀ z ∈ ns, Builtin.Int.intBits z ≤ 1048576) → SqL K H a (ns.map V.int) → sp K [.ref a] H (fun v _ => v = .bl true) fun _ _ _ => False) :
    PySem.W.WalkO q loose XP YP l.row.toRowW d [] (fun f vs => PySem.call f vs) := by
  refine Att.attach_callB hn hdf fun w s0 s1 mg mb fa o pm cd doc a vs ns G Y h1 h2 h3 h4 h5 h6 h7 h8 h9 => ?_
  obtain ⟨K, fd, inK, bnd, hF⟩ := F w mg fa _ Y G.T.g h4
  exact call_law inK G.T.g G.T.b G.T.builtins G.T.nolimit h9 h5 h6 (Nat.le_trans h7 hn2) room hF bnd fun H hS => hsp _ H a ns h7 h8 hS
end FL
set_option Elab.async false
set_option linter.all false
set_option maxRecDepth 100000
set_option maxHeartbeats 1000000
/-! ## FL, 18: meanings, step by step -/
namespace FL
open PySem PySem.Spec PyProof.Rows L2
section
variable {α β : Type} {a : α} {s s1 s2 : S} {k : α → S → RE β} {C : Addr} {fs : List (Str × D)} {d : D} {ρ : Env} {r : Sls} {i n np : Nat} {o : Option D} {xs : List D} {l : Sl}
@[simp] theorem bind_ok : (RE.ok a s).bind k = k a s := rfl
@[simp] theorem bind_ex : (RE.ex C fs s : RE α).bind k = RE.ex C fs s := rfl
@[simp] theorem bind_bad : (RE.bad : RE α).bind k = RE.bad := rfl
@[simp] theorem lift_some : lift (some a) s = RE.ok a s := rfl
@[simp] theorem eVar_zero : eVar 0 (some d :: ρ) s = .ok d s := rfl
@[simp] theorem eVar_succ : eVar (i + 1) (o :: ρ) s = eVar i ρ s := rfl
@[simp] theorem eVar_none : eVar 0 (none :: ρ) s = .bad := rfl
@[simp] theorem eC_run : eC d ρ s = .ok d s := rfl
@[simp] theorem dats_nil : dats [] = [] := rfl
@[simp] theorem dats_dat : dats (some (.dat d) :: r) = some d :: dats r := rfl
@[simp] theorem dats_own : dats (some (.own xs) :: r) = none :: dats r := rfl
@[simp] theorem dats_none : dats (none :: r) = none :: dats r := rfl
@[simp] theorem vis_nil : vis [] = [] := rfl
@[simp] theorem vis_dat : vis (some (.dat d) :: r) = some d :: vis r := rfl
@[simp] theorem vis_own : vis (some (.own xs) :: r) = some (.lst xs) :: vis r := rfl
@[simp] theorem vis_none : vis (none :: r) = none :: vis r := rfl
@[simp] theorem eOp_run {f : D → D → Option D} {ma mb : EM} : eOp f ma mb ρ s = (ma ρ s).bind fun x s1 => (mb ρ s1).bind fun y s2 => lift (f x y) s2 := rfl
@[simp] theorem eOf_run {f : List D → Option D} {me : AM} : eOf f me ρ s = (me ρ s).bind fun xs s1 => lift (f xs) s1 := rfl
@[simp] theorem eUn_run {f : D → Option D} {m : EM} : eUn f m ρ s = (m ρ s).bind fun d s1 => lift (f d) s1 := rfl
@[simp] theorem aNil_run : aNil ρ s = .ok [] s := rfl
@[simp] theorem aCons_run {m : EM} {mr : AM} : aCons m mr ρ s = (m ρ s).bind fun x s1 => (mr ρ s1).bind fun xs s2 => .ok (x :: xs) s2 := rfl
@[simp] theorem eCall_run {mf : FM} {ma : AM} : eCall mf ma ρ s = (ma ρ s).bind fun ds s1 => mf ds s1 := rfl
@[simp] theorem mBl_run {m : EM} : mBl m ρ s = (m ρ s).bind fun d s1 => match d with | .bl b => .ok b s1 | _ => .bad := rfl
@[simp] theorem mTru_run {m : EM} : mTru m ρ s = (m ρ s).bind fun d s1 => lift (truD d) s1 := rfl
@[simp] theorem mNot_run {t : TM} : mNot t ρ s = (t ρ s).bind fun x s1 => .ok (!x) s1 := rfl
@[simp] theorem mAnd_run {t u : TM} : mAnd t u ρ s = (t ρ s).bind fun x s1 => if x = true then u ρ s1 else .ok false s1 := rfl
@[simp] theorem mOr_run {t u : TM} : mOr t u ρ s = (t ρ s).bind fun x s1 => if x = true then .ok true s1 else u ρ s1 := rfl
@[simp] theorem eAnd_run {m n : EM} : eAnd m n ρ s = (m ρ s).bind fun x s1 => match x with | .bl true => n ρ s1 | .bl false => .ok (.bl false) s1 | _ => .bad := rfl
@[simp] theorem eOr_run {m n : EM} : eOr m n ρ s = (m ρ s).bind fun x s1 => match x with | .bl false => n ρ s1 | .bl true => .ok (.bl true) s1 | _ => .bad := rfl
@[simp] theorem eNot_run {m : EM} : eNot m ρ s = (m ρ s).bind fun x s1 => match x with | .bl b => .ok (.bl (!b)) s1 | _ => .bad := rfl
@[simp] theorem eIf_run {t : TM} {m n : EM} : eIf t m n ρ s = (t ρ s).bind fun x s1 => if x = true then m ρ s1 else n ρ s1 := rfl
@[simp] theorem eChain_run {f g : D → D → Option D} {ma mb mc : EM} : eChain f g ma mb mc ρ s = (ma ρ s).bind fun x s1 => (mb ρ s1).bind fun y s2 => (lift (f x y) s2).bind fun z s3 => match z with
  | .bl true => (mc ρ s3).bind fun w s4 => lift (g y w) s4
  | .bl false => .ok (.bl false) s3
  | _ => .bad := rfl
@[simp] theorem oNone_run : oNone ρ s = .ok none s := rfl
@[simp] theorem oSome_run {m : EM} : oSome m ρ s = (m ρ s).bind fun d s1 => match d with | .int i => .ok (some i) s1 | _ => .bad := rfl
@[simp] theorem eSl_run {f : D → Option Int → Option Int → Option D} {ma : EM} {ml mh : OM} : eSl f ma ml mh ρ s = (ma ρ s).bind fun x s1 => (ml ρ s1).bind fun lo s2 => (mh ρ s2).bind fun hi s3 => lift (f x lo hi) s3 := rfl
@[simp] theorem iOf_run {f : D → Option (List D)} {m : EM} : iOf f m ρ s = (m ρ s).bind fun d s1 => lift (f d) s1 := rfl
@[simp] theorem iOfA_run {f : List D → Option (List D)} {m : AM} : iOfA f m ρ s = (m ρ s).bind fun d s1 => lift (f d) s1 := rfl
@[simp] theorem after_ok {k : α → S → RS} : after (.ok a s) r k = k a s := rfl
@[simp] theorem after_ex {k : α → S → RS} : after (.ex C fs s : RE α) r k = .ex C fs r s := rfl
@[simp] theorem sRet_run {m : EM} : sRet m r s = after (runD m r s) r fun d s' => .rt d s' := rfl
@[simp] theorem sSet_run {m : EM} : sSet i m r s = after (runD m r s) r fun d s' => .nx (r.set i (some (.dat d))) s' := rfl
@[simp] theorem sDrop_run {m : EM} : sDrop m r s = after (runD m r s) r fun d s' => .nx r s' := rfl
@[simp] theorem sIf_run {t : TM} {m n : SM} : sIf t m n r s = after (runT t r s) r fun b s' => if b = true then m r s' else n r s' := rfl
@[simp] theorem sNext_run : sNext r s = .nx r s := rfl
@[simp] theorem sSeq_run {m n : SM} : sSeq m n r s = match m r s with | .nx ρ' s' => n ρ' s' | r => r := rfl
theorem runD_ok {m : EM} (h : m (dats r) s = .ok d s1) : runD m r s = .ok d s1 := by unfold runD; rw [h]
theorem runD_ex {m : EM} (h : m (dats r) s = .ex C fs s1) : runD m r s = .ex C fs s1 := by unfold runD; rw [h]
theorem runT_ok {m : TM} {b : Bool} (h : m (dats r) s = .ok b s1) : runT m r s = .ok b s1 := by unfold runT; rw [h]
theorem runD_vis {m : EM} (h0 : m (dats r) s = .bad) (h : m (vis r) s = .ok d s1) (hf : flatD d = true) : runD m r s = .ok d s1 := by
  unfold runD
  rw [h0]
  dsimp only
  rw [h]
  dsimp only
  rw [if_pos hf]
theorem fn_rt {mb : SM} {ds : List D} (hl : ds.length = np) (h : mb (ds.map (fun d => some (.dat d)) ++ List.replicate (n - np) none) s = .rt d s1) : fnOf n np mb ds s = .ok d s1 := by
  unfold fnOf
  rw [if_pos hl, h]
theorem fn_nx {mb : SM} {ds : List D} {ρ' : Sls} (hl : ds.length = np) (h : mb (ds.map (fun d => some (.dat d)) ++ List.replicate (n - np) none) s = .nx ρ' s1) : fnOf n np mb ds s = .ok .non s1 := by
  unfold fnOf
  rw [if_pos hl, h]
theorem fn_ex {mb : SM} {ds : List D} {ρ' : Sls} (hl : ds.length = np) (h : mb (ds.map (fun d => some (.dat d)) ++ List.replicate (n - np) none) s = .ex C fs ρ' s1) : fnOf n np mb ds s = .ex C fs s1 := by
  unfold fnOf
  rw [if_pos hl, h]
end
section
variable {m n : SM} {t : TM} {r r2 : Sls} {s s1 s2 : S} {d : D} {e : EM} {C : Addr} {fs : List (Str × D)}
theorem seq_nx (h : m r s = .nx r2 s1) : sSeq m n r s = n r2 s1 := by rw [sSeq_run, h]
theorem seq_rt (h : m r s = .rt d s1) : sSeq m n r s = .rt d s1 := by rw [sSeq_run, h]
theorem seq_ex (h : m r s = .ex C fs r2 s1) : sSeq m n r s = .ex C fs r2 s1 := by rw [sSeq_run, h]
theorem if_yes (h : runT t r s = .ok true s1) : sIf t m n r s = m r s1 := by rw [sIf_run, h]; rfl
theorem if_no (h : runT t r s = .ok false s1) : sIf t m n r s = n r s1 := by rw [sIf_run, h]; rfl
theorem if_nx (h : runT t r s = .ok false s1) : sIf t m sNext r s = .nx r s1 := by rw [if_no h]; rfl
theorem ret_run (h : runD e r s = .ok d s1) : sRet e r s = .rt d s1 := by rw [sRet_run, h]; rfl
theorem if_ret (h : runT t r s = .ok true s1) (h2 : runD e r s1 = .ok d s2) : sIf t (sRet e) n r s = .rt d s2 := by rw [if_yes h, ret_run h2]
theorem set_run {i : Nat} (h : runD e r s = .ok d s1) : sSet i e r s = .nx (r.set i (some (.dat d))) s1 := by rw [sSet_run, h]; rfl
end
end FL
set_option Elab.async false
set_option linter.all false
set_option maxRecDepth 100000
set_option maxHeartbeats 4000000
/-! # The first law: its defs by content -/
namespace FL.K1
open PySem PySem.Spec PyProof.Rows L2 FL
def top (i : Nat) : Stmt := PySem.Challenge.pw_lookthrough_k01_what_rows_are.main.body.getD i (.Pass ⟨0, 0, 0, 0⟩)
/-- of the classes that are asked: is an error of row's kind one of them -/
def subT (c : Nat → Addr) : List (List Value × Bool) := [([.ref (c 2)], true), ([.type "ValueError"], true), ([.ref (c 7), .ref (c 10), .ref (c 8), .ref (c 12), .ref (c 15)], false), ([.ref (c 4), .ref (c 14), .ref (c 9), .ref (c 6), .ref (c 11), .ref (c 3), .ref (c 13), .ref (c 5)], false)]
def subC (c : Nat → Addr) (C : Addr) (us : List Value) : Option Bool := if C = c 2 then (subT c).lookup us else none
def tab_ROW_LENGTHS (z : Str) : Option D := if z = "false" then some (.int 1) else if z = "does" then some (.int 3) else if z = "not" then some (.int 2) else if z = "and" then some (.int 3) else if z = "or" then some (.int 3) else if z = "shown" then some (.int 3) else some .non
/-- what the top has written: defs at f, classes at c -/
structure Fx (K : PySem.W.Frag) (w : World) (mg : Str → Option Value) (c : Nat → Addr) (f : Nat → Addr) (fd : Nat → FuncData) : Prop where
  d_is_list : DefOk K mg "is_list" (top 23) (f 23) (fd 23) ["thing"]
  d_is_number : DefOk K mg "is_number" (top 24) (f 24) (fd 24) ["thing"]
  d_is_below : DefOk K mg "is_below" (top 25) (f 25) (fd 25) ["thing", "bound"]
  d_is_move : DefOk K mg "is_move" (top 26) (f 26) (fd 26) ["thing"]
  d_parts_of : DefOk K mg "parts_of" (top 27) (f 27) (fd 27) ["row"]
  d_is_row : DefOk K mg "is_row" (top 28) (f 28) (fd 28) ["thing", "at"]
  d_need_rows : DefOk K mg "need_rows" (top 29) (f 29) (fd 29) ["rows"]
  d__law_begin : DefOk K mg "_law_begin" (top 31) (f 31) (fd 31) ["script"]
  d__law_take : DefOk K mg "_law_take" (top 32) (f 32) (fd 32) ["draw", "size"]
  d__law_pick : DefOk K mg "_law_pick" (top 33) (f 33) (fd 33) ["draw", "some"]
  d__law_words : DefOk K mg "_law_words" (top 34) (f 34) (fd 34) ["draw", "many"]
  d__law_lines : DefOk K mg "_law_lines" (top 35) (f 35) (fd 35) ["draw", "many", "words", "highest"]
  d__law_is_word : DefOk K mg "_law_is_word" (top 36) (f 36) (fd 36) ["thing"]
  d__law_is_number : DefOk K mg "_law_is_number" (top 37) (f 37) (fd 37) ["thing", "low", "high"]
  d__law_is_line : DefOk K mg "_law_is_line" (top 38) (f 38) (fd 38) ["thing", "here"]
  d__law_part_bent : DefOk K mg "_law_part_bent" (top 39) (f 39) (fd 39) ["draw", "part", "here"]
  d__law_line_bent : DefOk K mg "_law_line_bent" (top 40) (f 40) (fd 40) ["draw", "line", "here"]
  d__law_bent : DefOk K mg "_law_bent" (top 41) (f 41) (fd 41) ["draw", "lines"]
  d__law_due : DefOk K mg "_law_due" (top 42) (f 42) (fd 42) ["lines"]
  d__law_told : DefOk K mg "_law_told" (top 43) (f 43) (fd 43) ["lines"]
  d__law_move_right : DefOk K mg "_law_move_right" (top 44) (f 44) (fd 44) ["draw"]
  d__law_long_right : DefOk K mg "_law_long_right" (top 45) (f 45) (fd 45) ["draw"]
  d_law : DefOk K mg "law" (top 46) (f 46) (fd 46) ["script"]
  z_ValueError : mg "ValueError" = none
  z_abs : mg "abs" = none
  z_all : mg "all" = none
  z_bool : mg "bool" = none
  z_enumerate : mg "enumerate" = none
  z_int : mg "int" = none
  z_isinstance : mg "isinstance" = none
  z_len : mg "len" = none
  z_list : mg "list" = none
  z_min : mg "min" = none
  z_range : mg "range" = none
  z_repr : mg "repr" = none
  z_str : mg "str" = none
  z_tuple : mg "tuple" = none
  c_LETTERS : ∃ u, mg "LETTERS" = some u ∧ RelV (.str "abcdefghijklmnopqrstuvwxyz") u
  c_LONGEST_MOVE : ∃ u, mg "LONGEST_MOVE" = some u ∧ RelV (.int 8) u
  c_MOST_ROWS : ∃ u, mg "MOST_ROWS" = some u ∧ RelV (.int 2000) u
  c_FARTHEST_SEAT : ∃ u, mg "FARTHEST_SEAT" = some u ∧ RelV (.int 3) u
  c_GREATEST_SHOWN : ∃ u, mg "GREATEST_SHOWN" = some u ∧ RelV (.int 99) u
  k_SightError : mg "SightError" = some (.ref (c 1))
  k_NoRow : mg "NoRow" = some (.ref (c 2))
  k_NoMoves : mg "NoMoves" = some (.ref (c 3))
  k_NoChoice : mg "NoChoice" = some (.ref (c 4))
  k_NoPlayers : mg "NoPlayers" = some (.ref (c 5))
  k_NoLevel : mg "NoLevel" = some (.ref (c 6))
  k_NoSeat : mg "NoSeat" = some (.ref (c 7))
  k_NoText : mg "NoText" = some (.ref (c 8))
  k_NoLetter : mg "NoLetter" = some (.ref (c 9))
  k_NoStand : mg "NoStand" = some (.ref (c 10))
  k_NoMachine : mg "NoMachine" = some (.ref (c 11))
  k_NoWorths : mg "NoWorths" = some (.ref (c 12))
  k_NoName : mg "NoName" = some (.ref (c 13))
  k_NoDeed : mg "NoDeed" = some (.ref (c 14))
  k_TooLong : mg "TooLong" = some (.ref (c 15))
  c_ROW_LENGTHS : mg "ROW_LENGTHS" = some (.ref (c 22))
  dk_ROW_LENGTHS : ∃ es n, KDict K w (c 22) es n
  tab_ROW_LENGTHS : ∀ z g, tab_ROW_LENGTHS z = some g → ∃ r v, PySem.W.nsIn K (c 22) z = some r ∧ RelV v (r.getD .none) ∧ ∀ F Z, At K F Z v g
  ox_NoRow : OexC K (c 2)
  ix_NoRow : PySem.W.findIn K (.ref (c 2)) "__init__" = some (some (.ref (f 102)))
  tx_NoRow : PySem.W.typeIn K (.ref (f 102)) = some (.type "function")
  fi_NoRow : L2.Fun K "__init__" "NoRow.__init__" (inClass (top 2) 0) (f 102) (fd 102)
  bx_NoRow : Binds K (fd 102) ["self", "at"] []
  no_NoRow : PySem.W.findIn K (.ref (c 2)) "at" = some none
  xf_at : ∀ D, decide (D = c 2) = true → XfC K D ∧ PySem.W.findIn K (.ref D) "at" = some none
  sub : ∀ C us b, subC c C us = some b → ExcC K C ∧ PySem.W.kitAny K (.ref C) us = some b ∧ ∀ u, us = [u] → PySem.W.kitOne K (.ref C) u = some b
  exm : ∀ C, decide (C = c 2) = true → PySem.W.exmOne K (.ref C) (.ref (c 1)) = some true
  kb_need_rows : ∀ (s : Shared) (us : List Value), us.length = (["rows"] : List Str).length → BindsTo s (fd 29) ⟨[], (["rows"] : List Str).zip us⟩ ((["rows"] : List Str).zip us)
section
variable {P : Program} {w : World} {K : PySem.W.Frag} {mg : Str → Option Value} {base : Heap} {c f : Nat → Addr} {fd : Nat → FuncData}
theorem sc_init : FnScope ["self", "at"] ["self", "at"] (defScope (inClass (top 2) 0)) := ⟨rfl, rfl, rfl, by decide +kernel, rfl, by decide +kernel, by decide +kernel⟩
theorem ok_init_NoRow (T : Fx K w mg c f fd) : FnOk P w K mg base CX0 1 (f 102) (fd 102) ["self", "at"] (spI (c 2) "at") := ok_excInit T.fi_NoRow sc_init T.ox_NoRow T.no_NoRow (Or.inl rfl) (Or.inl rfl) rfl rfl rfl
/-! ### the draw -/
theorem sc__law_take : FnScope ["draw", "size", "cells", "at", "cell"] ["draw", "size"] (defScope (top 32)) := ⟨rfl, rfl, rfl, by decide +kernel, rfl, by decide +kernel, by decide +kernel⟩
def mf__law_take : FM := fnOf 5 2 mTake
theorem ok__law_take (T : Fx K w mg c f fd) : FnG P w K mg base 3 (f 32) (fd 32) ["draw", "size"] mf__law_take := Fun.okG T.d__law_take.fn sc__law_take fun cdv A outer s H E hr => by
  show PSs _ (defBody (top 32)) _
  refine pss_weak ?_ take_read
  exact pss_cons (ps_set (i := 2) sc__law_take.nd rfl (Or.inl rfl) (pe_ix ix_seq (pv 0) pe_int (by intro _ _; rfl)))
    (pss_cons (ps_set (i := 3) sc__law_take.nd rfl (Or.inl rfl) (pe_op op_mod (pe_ix ix_seq (pv 0) pe_int (by intro _ _; rfl)) (pe_callB call_len rfl T.z_len bb_len (pa_cons (pv 2) pa_nil))))
    (pss_cons (ps_set (i := 4) sc__law_take.nd rfl (Or.inl rfl) (pe_ix ix_seq (pv 2) (pv 3) (by intro _ _; rfl)))
    (pss_cons (ps_if (pt_cmpR op_ge (pv 4) (pe_op op_pow pe_int pe_int) (nomark _)) (pss_cons (ps_asg (pe_op op_fdivW (pv 4) (pv 1)) (pg_sub (pv 2) (pv 3) set_list)) (pss_one (ps_ret (pe_op op_mod (pv 4) (pv 1))))) pss_nil)
    (pss_cons (ps_asg (pe_op op_add (pe_ix ix_seq (pv 0) pe_int (by intro _ _; rfl)) pe_int) (pg_sub (pv 0) pe_int set_list))
    (pss_cons (ps_asg (pe_op op_mod (pe_op op_add (pe_op op_add (pe_op op_mul (pe_ix ix_seq (pv 0) pe_int (by intro _ _; rfl)) pe_int) (pv 4)) pe_int) pe_int) (pg_sub (pv 0) pe_int set_list))
    (pss_one (ps_ret (pe_op op_mod (pe_op op_fdivW (pe_op op_mod (pe_op op_mul (pe_ix ix_seq (pv 0) pe_int (by intro _ _; rfl)) (pe_ix ix_seq (pv 0) pe_int (by intro _ _; rfl))) pe_int) pe_int) (pv 1)))))))))
theorem sc__law_begin : FnScope ["script", "cells", "cell"] ["script"] (defScope (top 31)) := ⟨rfl, rfl, rfl, by decide +kernel, rfl, by decide +kernel, by decide +kernel⟩
theorem ok__law_begin (T : Fx K w mg c f fd) : FnOk P w K mg base (L2.CX P w) 3 (f 31) (fd 31) ["script"] (spB K) := by
  refine T.d__law_begin.fn.okX sc__law_begin (fun vs H Q E h => ?_) fun cdv A outer s H vs Q E hr h => ⟨tB K (fun c dd _ H => E c dd H), ?_, begin_pure vs H Q E h⟩
  · obtain ⟨a, ns, rfl, _⟩ := h
    rfl
  · show PSs _ (defBody (top 31)) _
    exact pss_cons (ds_ownLc (ps_setLc (i := 1) (own := [("cell", 2)]) (hc := rfl) (hN := sc__law_begin.nd) (hy := rfl) (hyl := rfl) (hsw := by rfl) (di_any (de_slice sl_G sd_G (de_var (pv 0)) do_none (do_some de_int))) (blkOk_by rfl) (fun _ _ _ _ _ => pg_name (i := 2) sc__law_begin.nd rfl (by first | exact Or.inl rfl | exact Or.inr rfl)) (fun _ _ _ _ _ => dt_yes) (fun _ _ _ _ _ => de_callB call_abs cd_abs rfl T.z_abs bb_abs (da_cons (de_var (pv 2)) da_nil))) (tge_name 2))
      (pss_cons (ds_if (dt_cmp (op_eqG hr.units) od_eqG (de_var (pv 1)) (de_lst da_nil) (nomark _)) (dss_one (ds_own (i := 1) sc__law_begin.nd rfl (Or.inl rfl) (da_cons de_int da_nil))) dss_nil)
      (pss_one (ps_ret (pe_lst (pa_cons (pv 1) (pa_cons pe_int (pa_cons pe_int pa_nil)))))))

/-! ### is_list -/
theorem sc_is_list : FnScope ["thing"] ["thing"] (defScope (top 23)) := ⟨rfl, rfl, rfl, by decide +kernel, rfl, by decide +kernel, by decide +kernel⟩
def m_is_list : SM := sRet (eOf isiF (aCons (eVar 0) (aCons (eOf tupF1 (aCons (eC (.ty "list")) (aCons (eC (.ty "tuple")) (aNil)))) (aNil))))
def mf_is_list : FM := fnOf 1 1 (m_is_list)
theorem ok_is_list (T : Fx K w mg c f fd) : FnG P w K mg base 3 (f 23) (fd 23) ["thing"] (mf_is_list) := Fun.okG T.d_is_list.fn sc_is_list fun cdv A outer s H E hr => by
  show PSs _ (defBody (top 23)) _
  refine dss_one ?_
  exact (ds_ret (de_callB call_isG cd_is rfl T.z_isinstance bb_isinstance (da_cons (de_var (pv 0)) (da_cons (de_tup (da_cons (de_type rfl T.z_list bt_list) (da_cons (de_type rfl T.z_tuple bt_tuple) (da_nil)))) (da_nil)))))
/-! ### is_number -/
theorem sc_is_number : FnScope ["thing"] ["thing"] (defScope (top 24)) := ⟨rfl, rfl, rfl, by decide +kernel, rfl, by decide +kernel, by decide +kernel⟩
def m_is_number : SM := sRet (eAnd (eOf isiF (aCons (eVar 0) (aCons (eC (.ty "int")) (aNil)))) (eNot (eOf isiF (aCons (eVar 0) (aCons (eC (.ty "bool")) (aNil))))))
def mf_is_number : FM := fnOf 1 1 (m_is_number)
theorem ok_is_number (T : Fx K w mg c f fd) : FnG P w K mg base 3 (f 24) (fd 24) ["thing"] (mf_is_number) := Fun.okG T.d_is_number.fn sc_is_number fun cdv A outer s H E hr => by
  show PSs _ (defBody (top 24)) _
  refine dss_one ?_
  exact (ds_ret (de_and (de_callB call_isG cd_is rfl T.z_isinstance bb_isinstance (da_cons (de_var (pv 0)) (da_cons (de_type rfl T.z_int bt_int) (da_nil)))) (de_one (de_not (de_callB call_isG cd_is rfl T.z_isinstance bb_isinstance (da_cons (de_var (pv 0)) (da_cons (de_type rfl T.z_bool bt_bool) (da_nil))))))))
/-! ### is_below -/
theorem sc_is_below : FnScope ["thing", "bound"] ["thing", "bound"] (defScope (top 25)) := ⟨rfl, rfl, rfl, by decide +kernel, rfl, by decide +kernel, by decide +kernel⟩
def m_is_below : SM := sRet (eAnd (eCall (mf_is_number) (aCons (eVar 0) (aNil))) (eChain leF ltF (eC (.int 0)) (eVar 0) (eVar 1)))
def mf_is_below : FM := fnOf 2 2 (m_is_below)
theorem ok_is_below (T : Fx K w mg c f fd) : FnG P w K mg base 4 (f 25) (fd 25) ["thing", "bound"] (mf_is_below) := Fun.okG T.d_is_below.fn sc_is_below fun cdv A outer s H E hr => by
  show PSs _ (defBody (top 25)) _
  refine dss_one ?_
  exact (ds_ret (de_and (de_call (ok_is_number T) (hr.mono (by decide)) rfl T.d_is_number.g T.d_is_number.fn.kp T.d_is_number.b (fun σ => passAt (takes_of rfl rfl rfl rfl) σ) (da_cons (de_var (pv 0)) (da_nil))) (de_one (de_chain op_le op_lt od_le od_lt (de_int) (de_var (pv 0)) (de_var (pv 1))))))
/-! ### is_move -/
theorem sc_is_move : FnScope ["thing", "sign"] ["thing"] (defScope (top 26)) := ⟨rfl, rfl, rfl, by decide +kernel, rfl, by decide +kernel, by decide +kernel⟩
def m_is_move : SM := sSeq (sIf (mOr (mNot (mTru (eOf isiF (aCons (eVar 0) (aCons (eC (.ty "str")) (aNil)))))) (mNot (mBl (eChain leF leF (eC (.int 1)) (eOf lenF (aCons (eVar 0) (aNil))) (eC (.int 8)))))) (sRet (eC (.bl false))) (sNext)) (sRet (eOf allF (aCons (eLc [1] 2 (c1 1) (iOf itemsF (eVar 0)) (tYesD) (eOp (inG false) (eVar 1) (eC (.str "abcdefghijklmnopqrstuvwxyz")))) (aNil))))
def mf_is_move : FM := fnOf 2 1 (m_is_move)
theorem ok_is_move (T : Fx K w mg c f fd) : FnG P w K mg base 3 (f 26) (fd 26) ["thing"] (mf_is_move) := Fun.okG T.d_is_move.fn sc_is_move fun cdv A outer s H E hr => by
  show PSs _ (defBody (top 26)) _
  refine dss_cons ?_ ?_
  · refine ds_if (PW.pt (dw_or (dt_not (dt_val (de_callB call_isG cd_is rfl T.z_isinstance bb_isinstance (da_cons (de_var (pv 0)) (da_cons (de_type rfl T.z_str bt_str) (da_nil)))))) (dw_or1 (dt_not (dt_chain op_le op_le od_le od_le (de_int) (de_callB call_len cd_len rfl T.z_len bb_len (da_cons (de_var (pv 0)) (da_nil))) (de_globE rfl T.c_LONGEST_MOVE fun _ _ => .int _)))))) ?_ ?_
    · refine dss_one ?_
      exact (ds_ret (de_bl))
    · exact dss_nil
  refine dss_one ?_
  exact (ds_ret (de_callB (cr_all rfl) cd_all rfl T.z_all bb_all (da_cons (de_lc (own := [("sign", 1)]) (pe_lc (own := [("sign", 1)]) rfl sc_is_move.nd (di_any (de_var (pv 0))) (blkOk_by rfl) (fun _ _ _ _ _ => pg_name (i := 1) sc_is_move.nd rfl (by first | exact Or.inl rfl | exact Or.inr rfl)) (fun _ _ _ _ _ => dt_yes) (fun _ _ _ _ _ => de_cmp op_inG od_inG (de_var (pv 1)) (de_globE rfl T.c_LETTERS fun _ _ => .str _) (by first | exact nomark _ | rfl | with_unfolding_all rfl))) (tge_name 1)) (da_nil))))
/-! ### parts_of -/
theorem sc_parts_of : FnScope ["row"] ["row"] (defScope (top 27)) := ⟨rfl, rfl, rfl, by decide +kernel, rfl, by decide +kernel, by decide +kernel⟩
def m_parts_of : SM := sSeq (sIf (mBl (eOp eqG (eOp ixF (eVar 0) (eC (.int 0))) (eC (.str "shown")))) (sRet (eSl slF (eVar 0) (oSome (eC (.int 2))) (oNone))) (sNext)) (sSeq (sIf (mBl (eOp (inG false) (eOp ixF (eVar 0) (eC (.int 0))) (eOf tupF1 (aCons (eC (.str "not")) (aCons (eC (.str "and")) (aCons (eC (.str "or")) (aNil))))))) (sRet (eSl slF (eVar 0) (oSome (eC (.int 1))) (oNone))) (sNext)) (sRet (eOf tupF1 (aNil))))
def mf_parts_of : FM := fnOf 1 1 (m_parts_of)
theorem ok_parts_of (T : Fx K w mg c f fd) : FnG P w K mg base 3 (f 27) (fd 27) ["row"] (mf_parts_of) := Fun.okG T.d_parts_of.fn sc_parts_of fun cdv A outer s H E hr => by
  show PSs _ (defBody (top 27)) _
  refine dss_cons ?_ ?_
  · refine ds_if (dt_cmp (op_eqG (hu64 hr)) od_eqG (de_ix ix_seq od_ix (de_var (pv 0)) (de_int) (by intro _ _; rfl)) (de_str) (by first | exact nomark _ | rfl | with_unfolding_all rfl)) ?_ ?_
    · refine dss_one ?_
      exact (ds_ret (de_slice sl_G sd_G (de_var (pv 0)) (do_some (de_int)) (do_none)))
    · exact dss_nil
  refine dss_cons ?_ ?_
  · refine ds_if (dt_cmp op_inG od_inG (de_ix ix_seq od_ix (de_var (pv 0)) (de_int) (by intro _ _; rfl)) (de_tup (da_cons (de_str) (da_cons (de_str) (da_cons (de_str) (da_nil))))) (by first | exact nomark _ | rfl | with_unfolding_all rfl)) ?_ ?_
    · refine dss_one ?_
      exact (ds_ret (de_slice sl_G sd_G (de_var (pv 0)) (do_some (de_int)) (do_none)))
    · exact dss_nil
  refine dss_one ?_
  exact (ds_ret (de_tup (da_nil)))
/-! ### is_row -/
theorem sc_is_row : FnScope ["thing", "at", "word", "part"] ["thing", "at"] (defScope (top 28)) := ⟨rfl, rfl, rfl, by decide +kernel, rfl, by decide +kernel, by decide +kernel⟩
def m_is_row : SM := sSeq (sIf (mOr (mNot (mTru (eOf isiF (aCons (eVar 0) (aCons (eC (.ty "tuple")) (aNil)))))) (mOr (mNot (mTru (eVar 0))) (mNot (mTru (eOf isiF (aCons (eOp ixF (eVar 0) (eC (.int 0))) (aCons (eC (.ty "str")) (aNil)))))))) (sRet (eC (.bl false))) (sNext)) (sSeq (sSet 2 (eOp ixF (eVar 0) (eC (.int 0)))) (sSeq (sIf (mBl (eOp neG (eUn (getF tab_ROW_LENGTHS) (eVar 2)) (eOf lenF (aCons (eVar 0) (aNil))))) (sRet (eC (.bl false))) (sNext)) (sSeq (sIf (mBl (eOp eqG (eVar 2) (eC (.str "does")))) (sRet (eAnd (eCall (mf_is_below) (aCons (eOp ixF (eVar 0) (eC (.int 1))) (aCons (eOp addF (eC (.int 3)) (eC (.int 1))) (aNil)))) (eCall (mf_is_move) (aCons (eOp ixF (eVar 0) (eC (.int 2))) (aNil))))) (sNext)) (sSeq (sIf (mAnd (mBl (eOp eqG (eVar 2) (eC (.str "shown")))) (mNot (mTru (eCall (mf_is_below) (aCons (eOp ixF (eVar 0) (eC (.int 1))) (aCons (eOp addF (eC (.int 99)) (eC (.int 1))) (aNil))))))) (sRet (eC (.bl false))) (sNext)) (sRet (eOf allF (aCons (eLc [3] 4 (c1 3) (iOf itemsF (eCall (mf_parts_of) (aCons (eVar 0) (aNil)))) (tYesD) (eCall (mf_is_below) (aCons (eVar 3) (aCons (eVar 1) (aNil))))) (aNil))))))))
def mf_is_row : FM := fnOf 4 2 (m_is_row)
theorem ok_is_row (T : Fx K w mg c f fd) : FnG P w K mg base 5 (f 28) (fd 28) ["thing", "at"] (mf_is_row) := Fun.okG T.d_is_row.fn sc_is_row fun cdv A outer s H E hr => by
  show PSs _ (defBody (top 28)) _
  refine dss_cons ?_ ?_
  · refine ds_if (PW.pt (dw_or (dt_not (dt_val (de_callB call_isG cd_is rfl T.z_isinstance bb_isinstance (da_cons (de_var (pv 0)) (da_cons (de_type rfl T.z_tuple bt_tuple) (da_nil)))))) (dw_or (dt_not (dt_val (de_var (pv 0)))) (dw_or1 (dt_not (dt_val (de_callB call_isG cd_is rfl T.z_isinstance bb_isinstance (da_cons (de_ix ix_seq od_ix (de_var (pv 0)) (de_int) (by intro _ _; rfl)) (da_cons (de_type rfl T.z_str bt_str) (da_nil)))))))))) ?_ ?_
    · refine dss_one ?_
      exact (ds_ret (de_bl))
    · exact dss_nil
  refine dss_cons ?_ ?_
  · exact (ds_set (i := 2) sc_is_row.nd rfl (by first | exact Or.inl rfl | exact Or.inr rfl) (de_ix ix_seq od_ix (de_var (pv 0)) (de_int) (by intro _ _; rfl)))
  refine dss_cons ?_ ?_
  · refine ds_if (dt_cmp (op_neG (hu64 hr)) od_neG (de_getKE T.dk_ROW_LENGTHS (pe_glob rfl T.c_ROW_LENGTHS rfl) (de_var (pv 2)) T.tab_ROW_LENGTHS) (de_callB call_len cd_len rfl T.z_len bb_len (da_cons (de_var (pv 0)) (da_nil))) (by first | exact nomark _ | rfl | with_unfolding_all rfl)) ?_ ?_
    · refine dss_one ?_
      exact (ds_ret (de_bl))
    · exact dss_nil
  refine dss_cons ?_ ?_
  · refine ds_if (dt_cmp (op_eqG (hu64 hr)) od_eqG (de_var (pv 2)) (de_str) (by first | exact nomark _ | rfl | with_unfolding_all rfl)) ?_ ?_
    · refine dss_one ?_
      exact (ds_ret (de_and (de_call (ok_is_below T) (hr.mono (by decide)) rfl T.d_is_below.g T.d_is_below.fn.kp T.d_is_below.b (fun σ => passAt (takes_of rfl rfl rfl rfl) σ) (da_cons (de_ix ix_seq od_ix (de_var (pv 0)) (de_int) (by intro _ _; rfl)) (da_cons (de_op op_addG od_add (de_globE rfl T.c_FARTHEST_SEAT fun _ _ => .int _) (de_int)) (da_nil)))) (de_one (de_call (ok_is_move T) (hr.mono (by decide)) rfl T.d_is_move.g T.d_is_move.fn.kp T.d_is_move.b (fun σ => passAt (takes_of rfl rfl rfl rfl) σ) (da_cons (de_ix ix_seq od_ix (de_var (pv 0)) (de_int) (by intro _ _; rfl)) (da_nil))))))
    · exact dss_nil
  refine dss_cons ?_ ?_
  · refine ds_if (PW.pt (dw_and (dt_cmp (op_eqG (hu64 hr)) od_eqG (de_var (pv 2)) (de_str) (by first | exact nomark _ | rfl | with_unfolding_all rfl)) (dw_and1 (dt_not (dt_val (de_call (ok_is_below T) (hr.mono (by decide)) rfl T.d_is_below.g T.d_is_below.fn.kp T.d_is_below.b (fun σ => passAt (takes_of rfl rfl rfl rfl) σ) (da_cons (de_ix ix_seq od_ix (de_var (pv 0)) (de_int) (by intro _ _; rfl)) (da_cons (de_op op_addG od_add (de_globE rfl T.c_GREATEST_SHOWN fun _ _ => .int _) (de_int)) (da_nil))))))))) ?_ ?_
    · refine dss_one ?_
      exact (ds_ret (de_bl))
    · exact dss_nil
  refine dss_one ?_
  exact (ds_ret (de_callB (cr_all rfl) cd_all rfl T.z_all bb_all (da_cons (de_lc (own := [("part", 3)]) (pe_lc (own := [("part", 3)]) rfl sc_is_row.nd (di_any (de_call (ok_parts_of T) (hr.mono (by decide)) rfl T.d_parts_of.g T.d_parts_of.fn.kp T.d_parts_of.b (fun σ => passAt (takes_of rfl rfl rfl rfl) σ) (da_cons (de_var (pv 0)) (da_nil)))) (blkOk_by rfl) (fun _ _ _ _ _ => pg_name (i := 3) sc_is_row.nd rfl (by first | exact Or.inl rfl | exact Or.inr rfl)) (fun _ _ _ _ _ => dt_yes) (fun _ _ _ _ _ => de_call (ok_is_below T) (hr.mono (by decide)) rfl T.d_is_below.g T.d_is_below.fn.kp T.d_is_below.b (fun σ => passW0 σ) (da_cons (de_var (pv 3)) (da_cons (de_var (pv 1)) (da_nil))))) (tge_name 3)) (da_nil))))
/-! ### need_rows -/
theorem sc_need_rows : FnScope ["rows", "at", "row"] ["rows"] (defScope (top 29)) := ⟨rfl, rfl, rfl, by decide +kernel, rfl, by decide +kernel, by decide +kernel⟩
def m_need_rows (c : Nat → Addr) : SM := sSeq (sIf (mNot (mTru (eCall (mf_is_list) (aCons (eVar 0) (aNil))))) (sRaise (c 2) "at" (eC (.int 0))) (sNext)) (sSeq (sFor (bT [1, 2]) (iOf numdF (eSl slF (eVar 0) (oNone) (oSome (eC (.int 2000))))) (sIf (mNot (mTru (eCall (mf_is_row) (aCons (eVar 2) (aCons (eVar 1) (aNil)))))) (sRaise (c 2) "at" (eVar 1)) (sNext))) (sIf (mBl (eOp gtF (eOf lenF (aCons (eVar 0) (aNil))) (eC (.int 2000)))) (sRaise (c 2) "at" (eC (.int 2000))) (sNext)))
def mf_need_rows (c : Nat → Addr) : FM := fnOf 3 1 (m_need_rows c)
theorem ok_need_rows (T : Fx K w mg c f fd) : FnG P w K mg base 6 (f 29) (fd 29) ["rows"] (mf_need_rows c) := Fun.okG T.d_need_rows.fn sc_need_rows fun cdv A outer s H E hr => by
  show PSs _ (defBody (top 29)) _
  refine dss_cons ?_ ?_
  · refine ds_if (dt_not (dt_val (de_call (ok_is_list T) (hr.mono (by decide)) rfl T.d_is_list.g T.d_is_list.fn.kp T.d_is_list.b (fun σ => passAt (takes_of rfl rfl rfl rfl) σ) (da_cons (de_var (pv 0)) (da_nil))))) ?_ ?_
    · refine dss_one ?_
      exact (ds_raise (ps_raise rfl (takes_of rfl rfl rfl rfl) (pmk_oex T.ox_NoRow T.ix_NoRow T.tx_NoRow (ok_init_NoRow T) (hr.r.mono (by decide)) T.bx_NoRow .nil pass0 rfl T.k_NoRow (pa_cons (de_int) pa_nil))))
    · exact dss_nil
  refine dss_cons ?_ ?_
  · refine ds_for (passes_of rfl) rfl (di_enum rfl T.z_enumerate (de_slice sl_G sd_G (de_var (pv 0)) (do_none) (do_some (de_globE rfl T.c_MOST_ROWS fun _ _ => .int _)))) (pg_tup rfl (pgs_cons (pg_name (i := 1) sc_need_rows.nd rfl (by first | exact Or.inl rfl | exact Or.inr rfl)) (pgs_cons (pg_name (i := 2) sc_need_rows.nd rfl (by first | exact Or.inl rfl | exact Or.inr rfl)) (pgs_nil)))) (tgd_tup [1, 2]) ?_
    refine dss_one ?_
    refine ds_if (dt_not (dt_val (de_call (ok_is_row T) (hr.mono (by decide)) rfl T.d_is_row.g T.d_is_row.fn.kp T.d_is_row.b (fun σ => passAt (takes_of rfl rfl rfl rfl) σ) (da_cons (de_var (pv 2)) (da_cons (de_var (pv 1)) (da_nil)))))) ?_ ?_
    · refine dss_one ?_
      exact (ds_raise (ps_raise rfl (takes_of rfl rfl rfl rfl) (pmk_oex T.ox_NoRow T.ix_NoRow T.tx_NoRow (ok_init_NoRow T) (hr.r.mono (by decide)) T.bx_NoRow .nil pass0 rfl T.k_NoRow (pa_cons (de_var (pv 1)) pa_nil))))
    · exact dss_nil
  refine dss_one ?_
  refine ds_if (dt_cmp op_gt od_gt (de_callB call_len cd_len rfl T.z_len bb_len (da_cons (de_var (pv 0)) (da_nil))) (de_globE rfl T.c_MOST_ROWS fun _ _ => .int _) (by first | exact nomark _ | rfl | with_unfolding_all rfl)) ?_ ?_
  · refine dss_one ?_
    exact (ds_raise (ps_raise rfl (takes_of rfl rfl rfl rfl) (pmk_oex T.ox_NoRow T.ix_NoRow T.tx_NoRow (ok_init_NoRow T) (hr.r.mono (by decide)) T.bx_NoRow .nil pass0 rfl T.k_NoRow (pa_cons (de_globE rfl T.c_MOST_ROWS fun _ _ => .int _) pa_nil))))
  · exact dss_nil
/-! ### _law_pick -/
theorem sc__law_pick : FnScope ["draw", "some"] ["draw", "some"] (defScope (top 33)) := ⟨rfl, rfl, rfl, by decide +kernel, rfl, by decide +kernel, by decide +kernel⟩
def m__law_pick : SM := sRet (eOp ixF (eVar 1) (eCall (mf__law_take) (aCons (eVar 0) (aCons (eOf lenF (aCons (eVar 1) (aNil))) (aNil)))))
def mf__law_pick : FM := fnOf 2 2 (m__law_pick)
theorem ok__law_pick (T : Fx K w mg c f fd) : FnG P w K mg base 4 (f 33) (fd 33) ["draw", "some"] (mf__law_pick) := Fun.okG T.d__law_pick.fn sc__law_pick fun cdv A outer s H E hr => by
  show PSs _ (defBody (top 33)) _
  refine dss_one ?_
  exact (ds_ret (de_ix ix_seq od_ix (de_var (pv 1)) (de_call (ok__law_take T) (hr.mono (by decide)) rfl T.d__law_take.g T.d__law_take.fn.kp T.d__law_take.b (fun σ => passAt (takes_of rfl rfl rfl rfl) σ) (da_cons (de_var (pv 0)) (da_cons (de_callB call_len cd_len rfl T.z_len bb_len (da_cons (de_var (pv 1)) (da_nil))) (da_nil)))) (by intro _ _; rfl)))
/-! ### _law_words -/
theorem sc__law_words : FnScope ["draw", "many", "signs", "found", "k", "word", "some", "sign", "j", "one"] ["draw", "many"] (defScope (top 34)) := ⟨rfl, rfl, rfl, by decide +kernel, rfl, by decide +kernel, by decide +kernel⟩
def m__law_words : SM := sSeq (sParO 2 3 (eC (.str "abcdefghijklmnopqrstuvwxyz"))) (sSeq (sFor (b1 4) (iOfA rng1F (aCons (eVar 1) (aNil))) (sSeq (sSet 5 (eCall (mf__law_pick) (aCons (eVar 0) (aCons (eOf lstF1 (aCons (eC (.str "c")) (aCons (eC (.str "d")) (aCons (eC (.str "shown")) (aCons (eC (.str "does")) (aCons (eC (.str "not")) (aCons (eC (.str "choose")) (aCons (eC (.str "false")) (aCons (eC (.str "moves")) (aCons (eC (.str "and")) (aCons (eC (.str "or")) (aCons (eC (.str "e")) (aCons (eC (.str "me")) (aNil)))))))))))))) (aNil))))) (sSeq (sIf (mBl (eOp eqG (eCall (mf__law_take) (aCons (eVar 0) (aCons (eC (.int 3)) (aNil)))) (eC (.int 0)))) (sSet 5 (eJoin (eC (.str "")) (eLc [8] 10 (c1 8) (iOfA rng1F (aCons (eOp addF (eC (.int 1)) (eCall (mf__law_take) (aCons (eVar 0) (aCons (eC (.int 8)) (aNil))))) (aNil))) (tYesD) (eCall (mf__law_pick) (aCons (eVar 0) (aCons (eVar 2) (aNil))))))) (sNext)) (sSeq (sSet 6 (eOp addF (eOf lstF1 (aCons (eVar 5) (aNil))) (eLc [7] 10 (c1 7) (iOf itemsF (eVar 2)) (tYesD) (eOp addF (eSl slF (eVar 5) (oNone) (oSome (eC (.int 7)))) (eVar 7))))) (sApp 3 (eOp ixF (eLc [9] 10 (c1 9) (iOf itemsF (eVar 6)) (mBl (eOp (inG true) (eVar 9) (eVar 3))) (eVar 9)) (eC (.int 0)))))))) (fun ρ s => (sRet (eVar 3)) (frz 3 ρ) s))
def mf__law_words : FM := fnOf 10 2 (m__law_words)
theorem ok__law_words (T : Fx K w mg c f fd) : FnG P w K mg base 5 (f 34) (fd 34) ["draw", "many"] (mf__law_words) := Fun.okG T.d__law_words.fn sc__law_words fun cdv A outer s H E hr => by
  show PSs _ (defBody (top 34)) _
  refine dss_cons ?_ ?_
  · exact (ds_tupO (ps_asg (pe_tup (pa_cons (de_str) (pa_cons (pe_lst pa_nil) pa_nil))) (pg_tup rfl (pgs_cons (pg_name (i := 2) sc__law_words.nd rfl (by first | exact Or.inl rfl | exact Or.inr rfl)) (pgs_cons (pg_name (i := 3) sc__law_words.nd rfl (by first | exact Or.inl rfl | exact Or.inr rfl)) (pgs_nil))))))
  refine dss_cons ?_ ?_
  · refine ds_for (passes_of rfl) rfl (di_rng1 rfl T.z_range (da_cons (de_var (pv 1)) (da_nil))) (pg_name (i := 4) sc__law_words.nd rfl (by first | exact Or.inl rfl | exact Or.inr rfl)) (tgd_name 4) ?_
    refine dss_cons ?_ ?_
    · exact (ds_set (i := 5) sc__law_words.nd rfl (by first | exact Or.inl rfl | exact Or.inr rfl) (de_call (ok__law_pick T) (hr.mono (by decide)) rfl T.d__law_pick.g T.d__law_pick.fn.kp T.d__law_pick.b (fun σ => passAt (takes_of rfl rfl rfl rfl) σ) (da_cons (de_var (pv 0)) (da_cons (de_lst (da_cons (de_str) (da_cons (de_str) (da_cons (de_str) (da_cons (de_str) (da_cons (de_str) (da_cons (de_str) (da_cons (de_str) (da_cons (de_str) (da_cons (de_str) (da_cons (de_str) (da_cons (de_str) (da_cons (de_str) (da_nil)))))))))))))) (da_nil)))))
    refine dss_cons ?_ ?_
    · refine ds_if (dt_cmp (op_eqG (hu64 hr)) od_eqG (de_call (ok__law_take T) (hr.mono (by decide)) rfl T.d__law_take.g T.d__law_take.fn.kp T.d__law_take.b (fun σ => passAt (takes_of rfl rfl rfl rfl) σ) (da_cons (de_var (pv 0)) (da_cons (de_int) (da_nil)))) (de_int) (by first | exact nomark _ | rfl | with_unfolding_all rfl)) ?_ ?_
      · refine dss_one ?_
        exact (ds_set (i := 5) sc__law_words.nd rfl (by first | exact Or.inl rfl | exact Or.inr rfl) (de_join (de_str) (de_lc (own := [("j", 8)]) (pe_lc (own := [("j", 8)]) rfl sc__law_words.nd (di_rng1 rfl T.z_range (da_cons (de_op op_addG od_add (de_int) (de_call (ok__law_take T) (hr.mono (by decide)) rfl T.d__law_take.g T.d__law_take.fn.kp T.d__law_take.b (fun σ => passAt (takes_of rfl rfl rfl rfl) σ) (da_cons (de_var (pv 0)) (da_cons (de_int) (da_nil))))) (da_nil))) (blkOk_by rfl) (fun _ _ _ _ _ => pg_name (i := 8) sc__law_words.nd rfl (by first | exact Or.inl rfl | exact Or.inr rfl)) (fun _ _ _ _ _ => dt_yes) (fun _ _ _ _ _ => de_call (ok__law_pick T) (hr.mono (by decide)) rfl T.d__law_pick.g T.d__law_pick.fn.kp T.d__law_pick.b (fun σ => passW0 σ) (da_cons (de_var (pv 0)) (da_cons (de_var (pv 2)) (da_nil))))) (tge_name 8))))
      · exact dss_nil
    refine dss_cons ?_ ?_
    · exact (ds_set (i := 6) sc__law_words.nd rfl (by first | exact Or.inl rfl | exact Or.inr rfl) (de_op op_addG od_add (de_lst (da_cons (de_var (pv 5)) (da_nil))) (de_lc (own := [("sign", 7)]) (pe_lc (own := [("sign", 7)]) rfl sc__law_words.nd (di_any (de_var (pv 2))) (blkOk_by rfl) (fun _ _ _ _ _ => pg_name (i := 7) sc__law_words.nd rfl (by first | exact Or.inl rfl | exact Or.inr rfl)) (fun _ _ _ _ _ => dt_yes) (fun _ _ _ _ _ => de_op op_addG od_add (de_slice sl_G sd_G (de_var (pv 5)) (do_none) (do_some (de_int))) (de_var (pv 7)))) (tge_name 7))))
    refine dss_one ?_
    exact (ds_app (ps_expr (pe_bm PySem.F.plainAttrs_list PySem.F.slot_list_append PySem.F.type_list_append mt_append (pv 3) (pa_cons (de_ix ix_seq od_ix (de_lc (own := [("one", 9)]) (pe_lc (own := [("one", 9)]) rfl sc__law_words.nd (di_any (de_var (pv 6))) (blkOk_by rfl) (fun _ _ _ _ _ => pg_name (i := 9) sc__law_words.nd rfl (by first | exact Or.inl rfl | exact Or.inr rfl)) (fun _ _ _ _ _ => dt_one (dt_cmp op_notInG od_notInG (de_var (pv 9)) (de_var (pv 3)) (by first | exact nomark _ | rfl | with_unfolding_all rfl))) (fun _ _ _ _ _ => de_var (pv 9))) (tge_name 9)) (de_int) (by intro _ _; rfl)) pa_nil))))
  refine dss_one ?_
  exact (ds_frz 3 (ds_ret (de_var (pv 3))))
/-! ### _law_lines -/
theorem sc__law_lines : FnScope ["draw", "many", "words", "highest", "found", "here", "kind", "i", "j", "inner"] ["draw", "many", "words", "highest"] (defScope (top 35)) := ⟨rfl, rfl, rfl, by decide +kernel, rfl, by decide +kernel, by decide +kernel⟩
def m__law_lines : SM := sSeq (sOwn 4 (aCons (eOf tupF1 (aCons (eC (.str "false")) (aNil))) (aNil))) (sSeq (sFor (b1 5) (iOfA rng2F (aCons (eC (.int 1)) (aCons (eVar 1) (aNil)))) (sSeq (sPar [6, 7, 8] (aCons (eCall (mf__law_take) (aCons (eVar 0) (aCons (eC (.int 8)) (aNil)))) (aCons (eCall (mf__law_take) (aCons (eVar 0) (aCons (eVar 5) (aNil)))) (aCons (eCall (mf__law_take) (aCons (eVar 0) (aCons (eVar 5) (aNil)))) (aNil))))) (sIf (mBl (eOp ltF (eVar 6) (eC (.int 2)))) (sApp 4 (eOf tupF1 (aCons (eC (.str "does")) (aCons (eCall (mf__law_pick) (aCons (eVar 0) (aCons (eOf lstF1 (aCons (eC (.int 0)) (aCons (eC (.int 1)) (aCons (eC (.int 1)) (aCons (eC (.int 2)) (aCons (eC (.int 3)) (aNil))))))) (aNil)))) (aCons (eCall (mf__law_pick) (aCons (eVar 0) (aCons (eVar 2) (aNil)))) (aNil)))))) (sIf (mBl (eOp ltF (eVar 6) (eC (.int 5)))) (sSeq (sSet 9 (eCall (mf__law_pick) (aCons (eVar 0) (aCons (eOf lstF1 (aCons (eVar 7) (aCons (eOp subF (eVar 5) (eC (.int 1))) (aNil)))) (aNil))))) (sApp 4 (eOf tupF1 (aCons (eC (.str "shown")) (aCons (eCall (mf__law_pick) (aCons (eVar 0) (aCons (eOf lstF1 (aCons (eC (.int 0)) (aCons (eC (.int 0)) (aCons (eC (.int 1)) (aCons (eCall (mf__law_take) (aCons (eVar 0) (aCons (eOp addF (eVar 3) (eC (.int 1))) (aNil)))) (aNil)))))) (aNil)))) (aCons (eVar 9) (aNil))))))) (sApp 4 (eOp ixF (eOf lstF1 (aCons (eOf tupF1 (aCons (eC (.str "not")) (aCons (eVar 7) (aNil)))) (aCons (eOf tupF1 (aCons (eC (.str "and")) (aCons (eVar 7) (aCons (eVar 8) (aNil))))) (aCons (eOf tupF1 (aCons (eC (.str "or")) (aCons (eVar 7) (aCons (eVar 8) (aNil))))) (aNil))))) (eOp subF (eVar 6) (eC (.int 5))))))))) (fun ρ s => (sRet (eVar 4)) (frz 4 ρ) s))
def mf__law_lines : FM := fnOf 10 4 (m__law_lines)
theorem ok__law_lines (T : Fx K w mg c f fd) : FnG P w K mg base 5 (f 35) (fd 35) ["draw", "many", "words", "highest"] (mf__law_lines) := Fun.okG T.d__law_lines.fn sc__law_lines fun cdv A outer s H E hr => by
  show PSs _ (defBody (top 35)) _
  refine dss_cons ?_ ?_
  · exact (ds_own (i := 4) sc__law_lines.nd rfl (by first | exact Or.inl rfl | exact Or.inr rfl) (da_cons (de_tup (da_cons (de_str) (da_nil))) (da_nil)))
  refine dss_cons ?_ ?_
  · refine ds_for (passes_of rfl) rfl (di_rng2 rfl T.z_range (da_cons (de_int) (da_cons (de_var (pv 1)) (da_nil)))) (pg_name (i := 5) sc__law_lines.nd rfl (by first | exact Or.inl rfl | exact Or.inr rfl)) (tgd_name 5) ?_
    refine dss_cons ?_ ?_
    · exact (ds_par3 (ps_par3 (i := 6) (j := 7) (l := 8) rfl sc__law_lines.nd rfl rfl rfl (by decide) (by decide) (by decide) rfl rfl rfl (da_cons (de_call (ok__law_take T) (hr.mono (by decide)) rfl T.d__law_take.g T.d__law_take.fn.kp T.d__law_take.b (fun σ => passAt (takes_of rfl rfl rfl rfl) σ) (da_cons (de_var (pv 0)) (da_cons (de_int) (da_nil)))) (da_cons (de_call (ok__law_take T) (hr.mono (by decide)) rfl T.d__law_take.g T.d__law_take.fn.kp T.d__law_take.b (fun σ => passAt (takes_of rfl rfl rfl rfl) σ) (da_cons (de_var (pv 0)) (da_cons (de_var (pv 5)) (da_nil)))) (da_cons (de_call (ok__law_take T) (hr.mono (by decide)) rfl T.d__law_take.g T.d__law_take.fn.kp T.d__law_take.b (fun σ => passAt (takes_of rfl rfl rfl rfl) σ) (da_cons (de_var (pv 0)) (da_cons (de_var (pv 5)) (da_nil)))) (da_nil)))) rfl))
    refine dss_one ?_
    refine ds_if (dt_cmp op_lt od_lt (de_var (pv 6)) (de_int) (by first | exact nomark _ | rfl | with_unfolding_all rfl)) ?_ ?_
    · refine dss_one ?_
      exact (ds_app (ps_expr (pe_bm PySem.F.plainAttrs_list PySem.F.slot_list_append PySem.F.type_list_append mt_append (pv 4) (pa_cons (de_tup (da_cons (de_str) (da_cons (de_call (ok__law_pick T) (hr.mono (by decide)) rfl T.d__law_pick.g T.d__law_pick.fn.kp T.d__law_pick.b (fun σ => passAt (takes_of rfl rfl rfl rfl) σ) (da_cons (de_var (pv 0)) (da_cons (de_lst (da_cons (de_int) (da_cons (de_int) (da_cons (de_int) (da_cons (de_int) (da_cons (de_int) (da_nil))))))) (da_nil)))) (da_cons (de_call (ok__law_pick T) (hr.mono (by decide)) rfl T.d__law_pick.g T.d__law_pick.fn.kp T.d__law_pick.b (fun σ => passAt (takes_of rfl rfl rfl rfl) σ) (da_cons (de_var (pv 0)) (da_cons (de_var (pv 2)) (da_nil)))) (da_nil))))) pa_nil))))
    · refine dss_one ?_
      refine ds_if (dt_cmp op_lt od_lt (de_var (pv 6)) (de_int) (by first | exact nomark _ | rfl | with_unfolding_all rfl)) ?_ ?_
      · refine dss_cons ?_ ?_
        · exact (ds_set (i := 9) sc__law_lines.nd rfl (by first | exact Or.inl rfl | exact Or.inr rfl) (de_call (ok__law_pick T) (hr.mono (by decide)) rfl T.d__law_pick.g T.d__law_pick.fn.kp T.d__law_pick.b (fun σ => passAt (takes_of rfl rfl rfl rfl) σ) (da_cons (de_var (pv 0)) (da_cons (de_lst (da_cons (de_var (pv 7)) (da_cons (de_op op_sub od_sub (de_var (pv 5)) (de_int)) (da_nil)))) (da_nil)))))
        refine dss_one ?_
        exact (ds_app (ps_expr (pe_bm PySem.F.plainAttrs_list PySem.F.slot_list_append PySem.F.type_list_append mt_append (pv 4) (pa_cons (de_tup (da_cons (de_str) (da_cons (de_call (ok__law_pick T) (hr.mono (by decide)) rfl T.d__law_pick.g T.d__law_pick.fn.kp T.d__law_pick.b (fun σ => passAt (takes_of rfl rfl rfl rfl) σ) (da_cons (de_var (pv 0)) (da_cons (de_lst (da_cons (de_int) (da_cons (de_int) (da_cons (de_int) (da_cons (de_call (ok__law_take T) (hr.mono (by decide)) rfl T.d__law_take.g T.d__law_take.fn.kp T.d__law_take.b (fun σ => passAt (takes_of rfl rfl rfl rfl) σ) (da_cons (de_var (pv 0)) (da_cons (de_op op_addG od_add (de_var (pv 3)) (de_int)) (da_nil)))) (da_nil)))))) (da_nil)))) (da_cons (de_var (pv 9)) (da_nil))))) pa_nil))))
      · refine dss_one ?_
        exact (ds_app (ps_expr (pe_bm PySem.F.plainAttrs_list PySem.F.slot_list_append PySem.F.type_list_append mt_append (pv 4) (pa_cons (de_ix ix_seq od_ix (de_lst (da_cons (de_tup (da_cons (de_str) (da_cons (de_var (pv 7)) (da_nil)))) (da_cons (de_tup (da_cons (de_str) (da_cons (de_var (pv 7)) (da_cons (de_var (pv 8)) (da_nil))))) (da_cons (de_tup (da_cons (de_str) (da_cons (de_var (pv 7)) (da_cons (de_var (pv 8)) (da_nil))))) (da_nil))))) (de_op op_sub od_sub (de_var (pv 6)) (de_int)) (by intro _ _; rfl)) pa_nil))))
  refine dss_one ?_
  exact (ds_frz 4 (ds_ret (de_var (pv 4))))
/-! ### _law_is_word -/
theorem sc__law_is_word : FnScope ["thing", "sign"] ["thing"] (defScope (top 36)) := ⟨rfl, rfl, rfl, by decide +kernel, rfl, by decide +kernel, by decide +kernel⟩
def m__law_is_word : SM := sSeq (sIf (mOr (mNot (mTru (eOf isiF (aCons (eVar 0) (aCons (eC (.ty "str")) (aNil)))))) (mNot (mBl (eChain leF leF (eC (.int 1)) (eOf lenF (aCons (eVar 0) (aNil))) (eC (.int 8)))))) (sRet (eC (.bl false))) (sNext)) (sRet (eOp eqG (eLc [1] 2 (c1 1) (iOf itemsF (eVar 0)) (mBl (eOp (inG true) (eVar 1) (eC (.str "abcdefghijklmnopqrstuvwxyz")))) (eVar 1)) (eOf lstF1 (aNil))))
def mf__law_is_word : FM := fnOf 2 1 (m__law_is_word)
theorem ok__law_is_word (T : Fx K w mg c f fd) : FnG P w K mg base 3 (f 36) (fd 36) ["thing"] (mf__law_is_word) := Fun.okG T.d__law_is_word.fn sc__law_is_word fun cdv A outer s H E hr => by
  show PSs _ (defBody (top 36)) _
  refine dss_cons ?_ ?_
  · refine ds_if (PW.pt (dw_or (dt_not (dt_val (de_callB call_isG cd_is rfl T.z_isinstance bb_isinstance (da_cons (de_var (pv 0)) (da_cons (de_type rfl T.z_str bt_str) (da_nil)))))) (dw_or1 (dt_not (dt_chain op_le op_le od_le od_le (de_int) (de_callB call_len cd_len rfl T.z_len bb_len (da_cons (de_var (pv 0)) (da_nil))) (de_int)))))) ?_ ?_
    · refine dss_one ?_
      exact (ds_ret (de_bl))
    · exact dss_nil
  refine dss_one ?_
  exact (ds_ret (de_cmp (op_eqG (hu64 hr)) od_eqG (de_lc (own := [("sign", 1)]) (pe_lc (own := [("sign", 1)]) rfl sc__law_is_word.nd (di_any (de_var (pv 0))) (blkOk_by rfl) (fun _ _ _ _ _ => pg_name (i := 1) sc__law_is_word.nd rfl (by first | exact Or.inl rfl | exact Or.inr rfl)) (fun _ _ _ _ _ => dt_one (dt_cmp op_notInG od_notInG (de_var (pv 1)) (de_str) (by first | exact nomark _ | rfl | with_unfolding_all rfl))) (fun _ _ _ _ _ => de_var (pv 1))) (tge_name 1)) (de_lst (da_nil)) (by first | exact nomark _ | rfl | with_unfolding_all rfl)))
/-! ### _law_is_number -/
theorem sc__law_is_number : FnScope ["thing", "low", "high"] ["thing", "low", "high"] (defScope (top 37)) := ⟨rfl, rfl, rfl, by decide +kernel, rfl, by decide +kernel, by decide +kernel⟩
def m__law_is_number : SM := sRet (eAnd (eOf isiF (aCons (eVar 0) (aCons (eC (.ty "int")) (aNil)))) (eAnd (eNot (eOf isiF (aCons (eVar 0) (aCons (eC (.ty "bool")) (aNil))))) (eChain leF leF (eVar 1) (eVar 0) (eVar 2))))
def mf__law_is_number : FM := fnOf 3 3 (m__law_is_number)
theorem ok__law_is_number (T : Fx K w mg c f fd) : FnG P w K mg base 3 (f 37) (fd 37) ["thing", "low", "high"] (mf__law_is_number) := Fun.okG T.d__law_is_number.fn sc__law_is_number fun cdv A outer s H E hr => by
  show PSs _ (defBody (top 37)) _
  refine dss_one ?_
  exact (ds_ret (de_and (de_callB call_isG cd_is rfl T.z_isinstance bb_isinstance (da_cons (de_var (pv 0)) (da_cons (de_type rfl T.z_int bt_int) (da_nil)))) (de_and (de_not (de_callB call_isG cd_is rfl T.z_isinstance bb_isinstance (da_cons (de_var (pv 0)) (da_cons (de_type rfl T.z_bool bt_bool) (da_nil))))) (de_one (de_chain op_le op_le od_le od_le (de_var (pv 1)) (de_var (pv 0)) (de_var (pv 2)))))))
/-! ### _law_is_line -/
theorem sc__law_is_line : FnScope ["thing", "here"] ["thing", "here"] (defScope (top 38)) := ⟨rfl, rfl, rfl, by decide +kernel, rfl, by decide +kernel, by decide +kernel⟩
def m__law_is_line : SM := sSeq (sIf (mOr (mNot (mTru (eOf isiF (aCons (eVar 0) (aCons (eC (.ty "tuple")) (aNil)))))) (mOr (mBl (eOp eqG (eVar 0) (eOf tupF1 (aNil)))) (mNot (mTru (eOf isiF (aCons (eOp ixF (eVar 0) (eC (.int 0))) (aCons (eC (.ty "str")) (aNil)))))))) (sRet (eC (.bl false))) (sNext)) (sSeq (sIf (mBl (eOp eqG (eOp ixF (eVar 0) (eC (.int 0))) (eC (.str "false")))) (sRet (eOp eqG (eOf lenF (aCons (eVar 0) (aNil))) (eC (.int 1)))) (sNext)) (sSeq (sIf (mBl (eOp eqG (eOp ixF (eVar 0) (eC (.int 0))) (eC (.str "not")))) (sRet (eAnd (eOp eqG (eOf lenF (aCons (eVar 0) (aNil))) (eC (.int 2))) (eCall (mf__law_is_number) (aCons (eOp ixF (eVar 0) (eC (.int 1))) (aCons (eC (.int 0)) (aCons (eOp subF (eVar 1) (eC (.int 1))) (aNil))))))) (sNext)) (sSeq (sIf (mOr (mBl (eOp (inG true) (eOp ixF (eVar 0) (eC (.int 0))) (eOf tupF1 (aCons (eC (.str "does")) (aCons (eC (.str "and")) (aCons (eC (.str "or")) (aCons (eC (.str "shown")) (aNil)))))))) (mBl (eOp neG (eOf lenF (aCons (eVar 0) (aNil))) (eC (.int 3))))) (sRet (eC (.bl false))) (sNext)) (sSeq (sIf (mBl (eOp eqG (eOp ixF (eVar 0) (eC (.int 0))) (eC (.str "does")))) (sRet (eAnd (eCall (mf__law_is_number) (aCons (eOp ixF (eVar 0) (eC (.int 1))) (aCons (eC (.int 0)) (aCons (eC (.int 3)) (aNil))))) (eCall (mf__law_is_word) (aCons (eOp ixF (eVar 0) (eC (.int 2))) (aNil))))) (sNext)) (sSeq (sIf (mNot (mTru (eCall (mf__law_is_number) (aCons (eOp ixF (eVar 0) (eC (.int 1))) (aCons (eC (.int 0)) (aCons (eIf (mBl (eOp eqG (eOp ixF (eVar 0) (eC (.int 0))) (eC (.str "shown")))) (eC (.int 99)) (eOp subF (eVar 1) (eC (.int 1)))) (aNil))))))) (sRet (eC (.bl false))) (sNext)) (sRet (eCall (mf__law_is_number) (aCons (eOp ixF (eVar 0) (eC (.int 2))) (aCons (eC (.int 0)) (aCons (eOp subF (eVar 1) (eC (.int 1))) (aNil)))))))))))
def mf__law_is_line : FM := fnOf 2 2 (m__law_is_line)
theorem ok__law_is_line (T : Fx K w mg c f fd) : FnG P w K mg base 4 (f 38) (fd 38) ["thing", "here"] (mf__law_is_line) := Fun.okG T.d__law_is_line.fn sc__law_is_line fun cdv A outer s H E hr => by
  show PSs _ (defBody (top 38)) _
  refine dss_cons ?_ ?_
  · refine ds_if (PW.pt (dw_or (dt_not (dt_val (de_callB call_isG cd_is rfl T.z_isinstance bb_isinstance (da_cons (de_var (pv 0)) (da_cons (de_type rfl T.z_tuple bt_tuple) (da_nil)))))) (dw_or (dt_cmp (op_eqG (hu64 hr)) od_eqG (de_var (pv 0)) (de_tup (da_nil)) (by first | exact nomark _ | rfl | with_unfolding_all rfl)) (dw_or1 (dt_not (dt_val (de_callB call_isG cd_is rfl T.z_isinstance bb_isinstance (da_cons (de_ix ix_seq od_ix (de_var (pv 0)) (de_int) (by intro _ _; rfl)) (da_cons (de_type rfl T.z_str bt_str) (da_nil)))))))))) ?_ ?_
    · refine dss_one ?_
      exact (ds_ret (de_bl))
    · exact dss_nil
  refine dss_cons ?_ ?_
  · refine ds_if (dt_cmp (op_eqG (hu64 hr)) od_eqG (de_ix ix_seq od_ix (de_var (pv 0)) (de_int) (by intro _ _; rfl)) (de_str) (by first | exact nomark _ | rfl | with_unfolding_all rfl)) ?_ ?_
    · refine dss_one ?_
      exact (ds_ret (de_cmp (op_eqG (hu64 hr)) od_eqG (de_callB call_len cd_len rfl T.z_len bb_len (da_cons (de_var (pv 0)) (da_nil))) (de_int) (by first | exact nomark _ | rfl | with_unfolding_all rfl)))
    · exact dss_nil
  refine dss_cons ?_ ?_
  · refine ds_if (dt_cmp (op_eqG (hu64 hr)) od_eqG (de_ix ix_seq od_ix (de_var (pv 0)) (de_int) (by intro _ _; rfl)) (de_str) (by first | exact nomark _ | rfl | with_unfolding_all rfl)) ?_ ?_
    · refine dss_one ?_
      exact (ds_ret (de_and (de_cmp (op_eqG (hu64 hr)) od_eqG (de_callB call_len cd_len rfl T.z_len bb_len (da_cons (de_var (pv 0)) (da_nil))) (de_int) (by first | exact nomark _ | rfl | with_unfolding_all rfl)) (de_one (de_call (ok__law_is_number T) (hr.mono (by decide)) rfl T.d__law_is_number.g T.d__law_is_number.fn.kp T.d__law_is_number.b (fun σ => passAt (takes_of rfl rfl rfl rfl) σ) (da_cons (de_ix ix_seq od_ix (de_var (pv 0)) (de_int) (by intro _ _; rfl)) (da_cons (de_int) (da_cons (de_op op_sub od_sub (de_var (pv 1)) (de_int)) (da_nil))))))))
    · exact dss_nil
  refine dss_cons ?_ ?_
  · refine ds_if (PW.pt (dw_or (dt_cmp op_notInG od_notInG (de_ix ix_seq od_ix (de_var (pv 0)) (de_int) (by intro _ _; rfl)) (de_tup (da_cons (de_str) (da_cons (de_str) (da_cons (de_str) (da_cons (de_str) (da_nil)))))) (by first | exact nomark _ | rfl | with_unfolding_all rfl)) (dw_or1 (dt_cmp (op_neG (hu64 hr)) od_neG (de_callB call_len cd_len rfl T.z_len bb_len (da_cons (de_var (pv 0)) (da_nil))) (de_int) (by first | exact nomark _ | rfl | with_unfolding_all rfl))))) ?_ ?_
    · refine dss_one ?_
      exact (ds_ret (de_bl))
    · exact dss_nil
  refine dss_cons ?_ ?_
  · refine ds_if (dt_cmp (op_eqG (hu64 hr)) od_eqG (de_ix ix_seq od_ix (de_var (pv 0)) (de_int) (by intro _ _; rfl)) (de_str) (by first | exact nomark _ | rfl | with_unfolding_all rfl)) ?_ ?_
    · refine dss_one ?_
      exact (ds_ret (de_and (de_call (ok__law_is_number T) (hr.mono (by decide)) rfl T.d__law_is_number.g T.d__law_is_number.fn.kp T.d__law_is_number.b (fun σ => passAt (takes_of rfl rfl rfl rfl) σ) (da_cons (de_ix ix_seq od_ix (de_var (pv 0)) (de_int) (by intro _ _; rfl)) (da_cons (de_int) (da_cons (de_int) (da_nil))))) (de_one (de_call (ok__law_is_word T) (hr.mono (by decide)) rfl T.d__law_is_word.g T.d__law_is_word.fn.kp T.d__law_is_word.b (fun σ => passAt (takes_of rfl rfl rfl rfl) σ) (da_cons (de_ix ix_seq od_ix (de_var (pv 0)) (de_int) (by intro _ _; rfl)) (da_nil))))))
    · exact dss_nil
  refine dss_cons ?_ ?_
  · refine ds_if (dt_not (dt_val (de_call (ok__law_is_number T) (hr.mono (by decide)) rfl T.d__law_is_number.g T.d__law_is_number.fn.kp T.d__law_is_number.b (fun σ => passAt (takes_of rfl rfl rfl rfl) σ) (da_cons (de_ix ix_seq od_ix (de_var (pv 0)) (de_int) (by intro _ _; rfl)) (da_cons (de_int) (da_cons (de_if (dt_cmp (op_eqG (hu64 hr)) od_eqG (de_ix ix_seq od_ix (de_var (pv 0)) (de_int) (by intro _ _; rfl)) (de_str) (by first | exact nomark _ | rfl | with_unfolding_all rfl)) (de_int) (de_op op_sub od_sub (de_var (pv 1)) (de_int))) (da_nil))))))) ?_ ?_
    · refine dss_one ?_
      exact (ds_ret (de_bl))
    · exact dss_nil
  refine dss_one ?_
  exact (ds_ret (de_call (ok__law_is_number T) (hr.mono (by decide)) rfl T.d__law_is_number.g T.d__law_is_number.fn.kp T.d__law_is_number.b (fun σ => passAt (takes_of rfl rfl rfl rfl) σ) (da_cons (de_ix ix_seq od_ix (de_var (pv 0)) (de_int) (by intro _ _; rfl)) (da_cons (de_int) (da_cons (de_op op_sub od_sub (de_var (pv 1)) (de_int)) (da_nil))))))
/-! ### _law_part_bent -/
theorem sc__law_part_bent : FnScope ["draw", "part", "here", "odd"] ["draw", "part", "here"] (defScope (top 39)) := ⟨rfl, rfl, rfl, by decide +kernel, rfl, by decide +kernel, by decide +kernel⟩
def m__law_part_bent : SM := sSeq (sSet 3 (eOf lstF1 (aCons (eC .non) (aCons (eC (.bl true)) (aCons (eUn negF (eC (.int 1))) (aCons (eC (.str "1")) (aCons (eOf tupF1 (aCons (eC (.int 0)) (aNil))) (aCons (eVar 2) (aCons (eOp subF (eVar 2) (eC (.int 1))) (aCons (eC (.int 100)) (aCons (eC (.int 99)) (aCons (eC (.int 4)) (aCons (eC (.int 3)) (aCons (eC (.int 0)) (aCons (eC (.str "")) (aCons (eC (.str "Ab")) (aCons (eC (.str "ninelette")) (aCons (eC (.str "or")) (aCons (eOf lstF1 (aNil)) (aCons (eC (.dic [])) (aNil))))))))))))))))))))) (sRet (eCall (mf__law_pick) (aCons (eVar 0) (aCons (eOp addF (eVar 3) (eOf lstF1 (aCons (eOp powF (eC (.int 10)) (eC (.int 30))) (aCons (eC (.str "a1")) (aCons (eC (.str "c d")) (aNil)))))) (aNil)))))
def mf__law_part_bent : FM := fnOf 4 3 (m__law_part_bent)
theorem ok__law_part_bent (T : Fx K w mg c f fd) : FnG P w K mg base 5 (f 39) (fd 39) ["draw", "part", "here"] (mf__law_part_bent) := Fun.okG T.d__law_part_bent.fn sc__law_part_bent fun cdv A outer s H E hr => by
  show PSs _ (defBody (top 39)) _
  refine dss_cons ?_ ?_
  · exact (ds_set (i := 3) sc__law_part_bent.nd rfl (by first | exact Or.inl rfl | exact Or.inr rfl) (de_lst (da_cons (de_non) (da_cons (de_bl) (da_cons (de_neg (de_int)) (da_cons (de_str) (da_cons (de_tup (da_cons (de_int) (da_nil))) (da_cons (de_var (pv 2)) (da_cons (de_op op_sub od_sub (de_var (pv 2)) (de_int)) (da_cons (de_int) (da_cons (de_int) (da_cons (de_int) (da_cons (de_int) (da_cons (de_int) (da_cons (de_str) (da_cons (de_str) (da_cons (de_str) (da_cons (de_str) (da_cons (de_lst (da_nil)) (da_cons (de_dict0) (da_nil)))))))))))))))))))))
  refine dss_one ?_
  exact (ds_ret (de_call (ok__law_pick T) (hr.mono (by decide)) rfl T.d__law_pick.g T.d__law_pick.fn.kp T.d__law_pick.b (fun σ => passAt (takes_of rfl rfl rfl rfl) σ) (da_cons (de_var (pv 0)) (da_cons (de_op op_addG od_add (de_var (pv 3)) (de_lst (da_cons (de_op op_pow od_pow (de_int) (de_int)) (da_cons (de_str) (da_cons (de_str) (da_nil)))))) (da_nil)))))
/-! ### _law_line_bent -/
theorem sc__law_line_bent : FnScope ["draw", "line", "here", "way", "spot"] ["draw", "line", "here"] (defScope (top 40)) := ⟨rfl, rfl, rfl, by decide +kernel, rfl, by decide +kernel, by decide +kernel⟩
def m__law_line_bent : SM := sSeq (sSet 3 (eCall (mf__law_take) (aCons (eVar 0) (aCons (eC (.int 7)) (aNil))))) (sSeq (sIf (mOr (mNot (mTru (eOf isiF (aCons (eVar 1) (aCons (eC (.ty "tuple")) (aNil)))))) (mOr (mBl (eOp eqG (eVar 1) (eOf tupF1 (aNil)))) (mBl (eOp eqG (eVar 3) (eC (.int 0)))))) (sRet (eCall (mf__law_pick) (aCons (eVar 0) (aCons (eOf lstF1 (aCons (eC .non) (aCons (eC (.int 5)) (aCons (eC (.str "false")) (aCons (eOf tupF1 (aNil)) (aCons (eOf lstF1 (aNil)) (aCons (eOf lstF1 (aCons (eC (.str "false")) (aNil))) (aCons (eOf tupF1 (aCons (eC (.str "true")) (aNil))) (aCons (eOf tupF1 (aCons (eC (.str "false")) (aCons (eC (.int 0)) (aNil)))) (aCons (eOf tupF1 (aCons (eC .non) (aNil))) (aCons (eOf tupF1 (aCons (eC (.str "not")) (aNil))) (aCons (eC (.dic [])) (aNil))))))))))))) (aNil))))) (sNext)) (sSeq (sIf (mBl (eOp eqG (eVar 3) (eC (.int 1)))) (sRet (eOf listF (aCons (eVar 1) (aNil)))) (sNext)) (sSeq (sIf (mBl (eOp eqG (eVar 3) (eC (.int 2)))) (sRet (eOp addF (eVar 1) (eOf tupF1 (aCons (eCall (mf__law_pick) (aCons (eVar 0) (aCons (eOf lstF1 (aCons (eC (.int 0)) (aCons (eC (.str "c")) (aNil)))) (aNil)))) (aNil))))) (sNext)) (sSeq (sIf (mBl (eOp eqG (eVar 3) (eC (.int 3)))) (sRet (eSl slF (eVar 1) (oNone) (oSome (eUn negF (eC (.int 1)))))) (sNext)) (sSeq (sIf (mBl (eOp eqG (eVar 3) (eC (.int 4)))) (sRet (eOp addF (eOf tupF1 (aCons (eCall (mf__law_pick) (aCons (eVar 0) (aCons (eOf lstF1 (aCons (eC (.str "does")) (aCons (eC (.str "not")) (aCons (eC (.str "and")) (aCons (eC (.str "or")) (aCons (eC (.str "shown")) (aCons (eC (.str "false")) (aCons (eC (.str "Not")) (aNil))))))))) (aNil)))) (aNil))) (eSl slF (eVar 1) (oSome (eC (.int 1))) (oNone)))) (sNext)) (sSeq (sSet 4 (eCall (mf__law_take) (aCons (eVar 0) (aCons (eOf lenF (aCons (eVar 1) (aNil))) (aNil))))) (sRet (eOp addF (eOp addF (eSl slF (eVar 1) (oNone) (oSome (eVar 4))) (eOf tupF1 (aCons (eCall (mf__law_part_bent) (aCons (eVar 0) (aCons (eOp ixF (eVar 1) (eVar 4)) (aCons (eVar 2) (aNil))))) (aNil)))) (eSl slF (eVar 1) (oSome (eOp addF (eVar 4) (eC (.int 1)))) (oNone))))))))))
def mf__law_line_bent : FM := fnOf 5 3 (m__law_line_bent)
theorem ok__law_line_bent (T : Fx K w mg c f fd) : FnG P w K mg base 6 (f 40) (fd 40) ["draw", "line", "here"] (mf__law_line_bent) := Fun.okG T.d__law_line_bent.fn sc__law_line_bent fun cdv A outer s H E hr => by
  show PSs _ (defBody (top 40)) _
  refine dss_cons ?_ ?_
  · exact (ds_set (i := 3) sc__law_line_bent.nd rfl (by first | exact Or.inl rfl | exact Or.inr rfl) (de_call (ok__law_take T) (hr.mono (by decide)) rfl T.d__law_take.g T.d__law_take.fn.kp T.d__law_take.b (fun σ => passAt (takes_of rfl rfl rfl rfl) σ) (da_cons (de_var (pv 0)) (da_cons (de_int) (da_nil)))))
  refine dss_cons ?_ ?_
  · refine ds_if (PW.pt (dw_or (dt_not (dt_val (de_callB call_isG cd_is rfl T.z_isinstance bb_isinstance (da_cons (de_var (pv 1)) (da_cons (de_type rfl T.z_tuple bt_tuple) (da_nil)))))) (dw_or (dt_cmp (op_eqG (hu64 hr)) od_eqG (de_var (pv 1)) (de_tup (da_nil)) (by first | exact nomark _ | rfl | with_unfolding_all rfl)) (dw_or1 (dt_cmp (op_eqG (hu64 hr)) od_eqG (de_var (pv 3)) (de_int) (by first | exact nomark _ | rfl | with_unfolding_all rfl)))))) ?_ ?_
    · refine dss_one ?_
      exact (ds_ret (de_call (ok__law_pick T) (hr.mono (by decide)) rfl T.d__law_pick.g T.d__law_pick.fn.kp T.d__law_pick.b (fun σ => passAt (takes_of rfl rfl rfl rfl) σ) (da_cons (de_var (pv 0)) (da_cons (de_lst (da_cons (de_non) (da_cons (de_int) (da_cons (de_str) (da_cons (de_tup (da_nil)) (da_cons (de_lst (da_nil)) (da_cons (de_lst (da_cons (de_str) (da_nil))) (da_cons (de_tup (da_cons (de_str) (da_nil))) (da_cons (de_tup (da_cons (de_str) (da_cons (de_int) (da_nil)))) (da_cons (de_tup (da_cons (de_non) (da_nil))) (da_cons (de_tup (da_cons (de_str) (da_nil))) (da_cons (de_dict0) (da_nil))))))))))))) (da_nil)))))
    · exact dss_nil
  refine dss_cons ?_ ?_
  · refine ds_if (dt_cmp (op_eqG (hu64 hr)) od_eqG (de_var (pv 3)) (de_int) (by first | exact nomark _ | rfl | with_unfolding_all rfl)) ?_ ?_
    · refine dss_one ?_
      exact (ds_ret (de_callTy call_list_of cd_list rfl T.z_list bt_list (da_cons (de_var (pv 1)) (da_nil))))
    · exact dss_nil
  refine dss_cons ?_ ?_
  · refine ds_if (dt_cmp (op_eqG (hu64 hr)) od_eqG (de_var (pv 3)) (de_int) (by first | exact nomark _ | rfl | with_unfolding_all rfl)) ?_ ?_
    · refine dss_one ?_
      exact (ds_ret (de_op op_addG od_add (de_var (pv 1)) (de_tup (da_cons (de_call (ok__law_pick T) (hr.mono (by decide)) rfl T.d__law_pick.g T.d__law_pick.fn.kp T.d__law_pick.b (fun σ => passAt (takes_of rfl rfl rfl rfl) σ) (da_cons (de_var (pv 0)) (da_cons (de_lst (da_cons (de_int) (da_cons (de_str) (da_nil)))) (da_nil)))) (da_nil)))))
    · exact dss_nil
  refine dss_cons ?_ ?_
  · refine ds_if (dt_cmp (op_eqG (hu64 hr)) od_eqG (de_var (pv 3)) (de_int) (by first | exact nomark _ | rfl | with_unfolding_all rfl)) ?_ ?_
    · refine dss_one ?_
      exact (ds_ret (de_slice sl_G sd_G (de_var (pv 1)) (do_none) (do_some (de_neg (de_int)))))
    · exact dss_nil
  refine dss_cons ?_ ?_
  · refine ds_if (dt_cmp (op_eqG (hu64 hr)) od_eqG (de_var (pv 3)) (de_int) (by first | exact nomark _ | rfl | with_unfolding_all rfl)) ?_ ?_
    · refine dss_one ?_
      exact (ds_ret (de_op op_addG od_add (de_tup (da_cons (de_call (ok__law_pick T) (hr.mono (by decide)) rfl T.d__law_pick.g T.d__law_pick.fn.kp T.d__law_pick.b (fun σ => passAt (takes_of rfl rfl rfl rfl) σ) (da_cons (de_var (pv 0)) (da_cons (de_lst (da_cons (de_str) (da_cons (de_str) (da_cons (de_str) (da_cons (de_str) (da_cons (de_str) (da_cons (de_str) (da_cons (de_str) (da_nil))))))))) (da_nil)))) (da_nil))) (de_slice sl_G sd_G (de_var (pv 1)) (do_some (de_int)) (do_none))))
    · exact dss_nil
  refine dss_cons ?_ ?_
  · exact (ds_set (i := 4) sc__law_line_bent.nd rfl (by first | exact Or.inl rfl | exact Or.inr rfl) (de_call (ok__law_take T) (hr.mono (by decide)) rfl T.d__law_take.g T.d__law_take.fn.kp T.d__law_take.b (fun σ => passAt (takes_of rfl rfl rfl rfl) σ) (da_cons (de_var (pv 0)) (da_cons (de_callB call_len cd_len rfl T.z_len bb_len (da_cons (de_var (pv 1)) (da_nil))) (da_nil)))))
  refine dss_one ?_
  exact (ds_ret (de_op op_addG od_add (de_op op_addG od_add (de_slice sl_G sd_G (de_var (pv 1)) (do_none) (do_some (de_var (pv 4)))) (de_tup (da_cons (de_call (ok__law_part_bent T) (hr.mono (by decide)) rfl T.d__law_part_bent.g T.d__law_part_bent.fn.kp T.d__law_part_bent.b (fun σ => passAt (takes_of rfl rfl rfl rfl) σ) (da_cons (de_var (pv 0)) (da_cons (de_ix ix_seq od_ix (de_var (pv 1)) (de_var (pv 4)) (by intro _ _; rfl)) (da_cons (de_var (pv 2)) (da_nil))))) (da_nil)))) (de_slice sl_G sd_G (de_var (pv 1)) (do_some (de_op op_addG od_add (de_var (pv 4)) (de_int))) (do_none))))
/-! ### _law_bent -/
theorem sc__law_bent : FnScope ["draw", "lines", "way", "here", "other", "turned"] ["draw", "lines"] (defScope (top 41)) := ⟨rfl, rfl, rfl, by decide +kernel, rfl, by decide +kernel, by decide +kernel⟩
def m__law_bent : SM := sSeq (sPar [2, 3] (aCons (eCall (mf__law_take) (aCons (eVar 0) (aCons (eC (.int 8)) (aNil)))) (aCons (eCall (mf__law_take) (aCons (eVar 0) (aCons (eOf lenF (aCons (eVar 1) (aNil))) (aNil)))) (aNil)))) (sSeq (sIf (mBl (eOp eqG (eVar 2) (eC (.int 0)))) (sRet (eOp addF (eOp addF (eSl slF (eVar 1) (oNone) (oSome (eVar 3))) (eSl slF (eVar 1) (oSome (eOp addF (eVar 3) (eC (.int 1)))) (oNone))) (eOf lstF1 (aCons (eOf tupF1 (aCons (eC (.str "false")) (aNil))) (aNil))))) (sNext)) (sSeq (sIf (mBl (eOp eqG (eVar 2) (eC (.int 1)))) (sRet (eOp addF (eOp addF (eSl slF (eVar 1) (oNone) (oSome (eVar 3))) (eSl slF (eVar 1) (oSome (eVar 3)) (oSome (eOp addF (eVar 3) (eC (.int 1)))))) (eSl slF (eVar 1) (oSome (eVar 3)) (oNone)))) (sNext)) (sSeq (sIf (mBl (eOp eqG (eVar 2) (eC (.int 2)))) (sSeq (sSet 4 (eCall (mf__law_take) (aCons (eVar 0) (aCons (eOf lenF (aCons (eVar 1) (aNil))) (aNil))))) (sSeq (sOwnL 5 (aCons (eVar 1) (aNil))) (sSeq (sSwap 5 (aCons (eOp ixF (eVar 1) (eVar 4)) (aCons (eOp ixF (eVar 1) (eVar 3)) (aNil))) (eVar 3) (eVar 4)) (fun ρ s => (sRet (eVar 5)) (frz 5 ρ) s)))) (sNext)) (sRet (eOp addF (eOp addF (eSl slF (eVar 1) (oNone) (oSome (eVar 3))) (eOf lstF1 (aCons (eCall (mf__law_line_bent) (aCons (eVar 0) (aCons (eOp ixF (eVar 1) (eVar 3)) (aCons (eVar 3) (aNil))))) (aNil)))) (eSl slF (eVar 1) (oSome (eOp addF (eVar 3) (eC (.int 1)))) (oNone)))))))
def mf__law_bent : FM := fnOf 6 2 (m__law_bent)
theorem ok__law_bent (T : Fx K w mg c f fd) : FnG P w K mg base 7 (f 41) (fd 41) ["draw", "lines"] (mf__law_bent) := Fun.okG T.d__law_bent.fn sc__law_bent fun cdv A outer s H E hr => by
  show PSs _ (defBody (top 41)) _
  refine dss_cons ?_ ?_
  · exact (ds_par2 (ps_par (i := 2) (j := 3) rfl sc__law_bent.nd rfl rfl (by decide) rfl rfl (da_cons (de_call (ok__law_take T) (hr.mono (by decide)) rfl T.d__law_take.g T.d__law_take.fn.kp T.d__law_take.b (fun σ => passAt (takes_of rfl rfl rfl rfl) σ) (da_cons (de_var (pv 0)) (da_cons (de_int) (da_nil)))) (da_cons (de_call (ok__law_take T) (hr.mono (by decide)) rfl T.d__law_take.g T.d__law_take.fn.kp T.d__law_take.b (fun σ => passAt (takes_of rfl rfl rfl rfl) σ) (da_cons (de_var (pv 0)) (da_cons (de_callB call_len cd_len rfl T.z_len bb_len (da_cons (de_var (pv 1)) (da_nil))) (da_nil)))) (da_nil))) rfl))
  refine dss_cons ?_ ?_
  · refine ds_if (dt_cmp (op_eqG (hu64 hr)) od_eqG (de_var (pv 2)) (de_int) (by first | exact nomark _ | rfl | with_unfolding_all rfl)) ?_ ?_
    · refine dss_one ?_
      exact (ds_ret (de_op op_addG od_add (de_op op_addG od_add (de_slice sl_G sd_G (de_var (pv 1)) (do_none) (do_some (de_var (pv 3)))) (de_slice sl_G sd_G (de_var (pv 1)) (do_some (de_op op_addG od_add (de_var (pv 3)) (de_int))) (do_none))) (de_lst (da_cons (de_tup (da_cons (de_str) (da_nil))) (da_nil)))))
    · exact dss_nil
  refine dss_cons ?_ ?_
  · refine ds_if (dt_cmp (op_eqG (hu64 hr)) od_eqG (de_var (pv 2)) (de_int) (by first | exact nomark _ | rfl | with_unfolding_all rfl)) ?_ ?_
    · refine dss_one ?_
      exact (ds_ret (de_op op_addG od_add (de_op op_addG od_add (de_slice sl_G sd_G (de_var (pv 1)) (do_none) (do_some (de_var (pv 3)))) (de_slice sl_G sd_G (de_var (pv 1)) (do_some (de_var (pv 3))) (do_some (de_op op_addG od_add (de_var (pv 3)) (de_int))))) (de_slice sl_G sd_G (de_var (pv 1)) (do_some (de_var (pv 3))) (do_none))))
    · exact dss_nil
  refine dss_cons ?_ ?_
  · refine ds_if (dt_cmp (op_eqG (hu64 hr)) od_eqG (de_var (pv 2)) (de_int) (by first | exact nomark _ | rfl | with_unfolding_all rfl)) ?_ ?_
    · refine dss_cons ?_ ?_
      · exact (ds_set (i := 4) sc__law_bent.nd rfl (by first | exact Or.inl rfl | exact Or.inr rfl) (de_call (ok__law_take T) (hr.mono (by decide)) rfl T.d__law_take.g T.d__law_take.fn.kp T.d__law_take.b (fun σ => passAt (takes_of rfl rfl rfl rfl) σ) (da_cons (de_var (pv 0)) (da_cons (de_callB call_len cd_len rfl T.z_len bb_len (da_cons (de_var (pv 1)) (da_nil))) (da_nil)))))
      refine dss_cons ?_ ?_
      · exact (ds_ownL (ps_set (i := 5) sc__law_bent.nd rfl (by first | exact Or.inl rfl | exact Or.inr rfl) (pe_callTy call_list_of rfl T.z_list bt_list (da_cons (de_var (pv 1)) (da_nil)))))
      refine dss_cons ?_ ?_
      · exact (ds_swap (ps_asg (pe_tup (da_cons (de_ix ix_seq od_ix (de_var (pv 1)) (de_var (pv 4)) (by intro _ _; rfl)) (da_cons (de_ix ix_seq od_ix (de_var (pv 1)) (de_var (pv 3)) (by intro _ _; rfl)) (da_nil)))) (pg_tup rfl (pgs_cons (pg_sub (pv 5) (de_var (pv 3)) set_list) (pgs_cons (pg_sub (pv 5) (de_var (pv 4)) set_list) pgs_nil)))))
      refine dss_one ?_
      exact (ds_frz 5 (ds_ret (de_var (pv 5))))
    · exact dss_nil
  refine dss_one ?_
  exact (ds_ret (de_op op_addG od_add (de_op op_addG od_add (de_slice sl_G sd_G (de_var (pv 1)) (do_none) (do_some (de_var (pv 3)))) (de_lst (da_cons (de_call (ok__law_line_bent T) (hr.mono (by decide)) rfl T.d__law_line_bent.g T.d__law_line_bent.fn.kp T.d__law_line_bent.b (fun σ => passAt (takes_of rfl rfl rfl rfl) σ) (da_cons (de_var (pv 0)) (da_cons (de_ix ix_seq od_ix (de_var (pv 1)) (de_var (pv 3)) (by intro _ _; rfl)) (da_cons (de_var (pv 3)) (da_nil))))) (da_nil)))) (de_slice sl_G sd_G (de_var (pv 1)) (do_some (de_op op_addG od_add (de_var (pv 3)) (de_int))) (do_none))))
/-! ### _law_due -/
theorem sc__law_due : FnScope ["lines", "odd", "here", "line"] ["lines"] (defScope (top 42)) := ⟨rfl, rfl, rfl, by decide +kernel, rfl, by decide +kernel, by decide +kernel⟩
def m__law_due : SM := sSeq (sSet 1 (eLc [2, 3] 4 (cT [2, 3]) (iOf numdF (eVar 0)) (mOr (mBl (eOp eqG (eVar 2) (eC (.int 2000)))) (mNot (mTru (eCall (mf__law_is_line) (aCons (eVar 3) (aCons (eVar 2) (aNil))))))) (eVar 2))) (sRet (eIf (mBl (eOp neG (eVar 1) (eOf lstF1 (aNil)))) (eOp ixF (eVar 1) (eC (.int 0))) (eC .non)))
def mf__law_due : FM := fnOf 4 1 (m__law_due)
theorem ok__law_due (T : Fx K w mg c f fd) : FnG P w K mg base 5 (f 42) (fd 42) ["lines"] (mf__law_due) := Fun.okG T.d__law_due.fn sc__law_due fun cdv A outer s H E hr => by
  show PSs _ (defBody (top 42)) _
  refine dss_cons ?_ ?_
  · refine ds_setLc (vs := [2, 3]) (ps_setLc (i := 1) (hc := rfl) (hN := sc__law_due.nd) (hy := rfl) (hyl := rfl) (hsw := by rfl) (own := [("here", 2), ("line", 3)]) (di_enum rfl T.z_enumerate (de_var (pv 0))) (blkOk_by rfl) (fun _ _ _ _ _ => pg_tup rfl (pgs_cons (pg_name (i := 2) sc__law_due.nd rfl (by first | exact Or.inl rfl | exact Or.inr rfl)) (pgs_cons (pg_name (i := 3) sc__law_due.nd rfl (by first | exact Or.inl rfl | exact Or.inr rfl)) (pgs_nil)))) (fun _ _ _ _ _ => dt_one (PW.pt (dw_or (dt_cmp (op_eqG (hu64 hr)) od_eqG (de_var (pv 2)) (de_int) (by first | exact nomark _ | rfl | with_unfolding_all rfl)) (dw_or1 (dt_not (dt_val (de_call (ok__law_is_line T) (hr.mono (by decide)) rfl T.d__law_is_line.g T.d__law_is_line.fn.kp T.d__law_is_line.b (fun σ => passW0 σ) (da_cons (de_var (pv 3)) (da_cons (de_var (pv 2)) (da_nil)))))))))) (fun _ _ _ _ _ => de_var (pv 2))) (tge_tup [2, 3])
  refine dss_one ?_
  exact (ds_ret (de_if (dt_cmp (op_neG (hu64 hr)) od_neG (de_var (pv 1)) (de_lst (da_nil)) (by first | exact nomark _ | rfl | with_unfolding_all rfl)) (de_ix ix_seq od_ix (de_var (pv 1)) (de_int) (by intro _ _; rfl)) (de_non)))
/-! ### _law_told -/
theorem sc__law_told : FnScope ["lines", "error", "e", "others"] ["lines"] (defScope (top 43)) := ⟨rfl, rfl, rfl, by decide +kernel, rfl, by decide +kernel, by decide +kernel⟩
def m__law_told (c : Nat → Addr) : SM := sSeq (sSet 1 (eC .non)) (sSeq (sTry (fun a => decide (a = c 2)) 2 1 (sDrop (eCall (mf_need_rows c) (aCons (eVar 0) (aNil))))) (sSeq (sIf (mBl (eOp isNF (eVar 1) (eC .non))) (sRet (eC .non)) (sNext)) (sSeq (sSet 3 (eOf (isaF (subC c)) (aCons (eVar 1) (aCons (eOf tupF1 (aCons (eC (.cls (c 4))) (aCons (eC (.cls (c 14))) (aCons (eC (.cls (c 9))) (aCons (eC (.cls (c 6))) (aCons (eC (.cls (c 11))) (aCons (eC (.cls (c 3))) (aCons (eC (.cls (c 13))) (aCons (eC (.cls (c 5))) (aNil)))))))))) (aNil))))) (sSeq (sSet 3 (eOr (eVar 3) (eOf (isaF (subC c)) (aCons (eVar 1) (aCons (eOf tupF1 (aCons (eC (.cls (c 7))) (aCons (eC (.cls (c 10))) (aCons (eC (.cls (c 8))) (aCons (eC (.cls (c 12))) (aCons (eC (.cls (c 15))) (aNil))))))) (aNil)))))) (sSeq (sIf (mOr (mNot (mTru (eOf (isaF (subC c)) (aCons (eVar 1) (aCons (eC (.cls (c 2))) (aNil)))))) (mOr (mTru (eVar 3)) (mNot (mTru (eOf (isaF (subC c)) (aCons (eVar 1) (aCons (eC (.ty "ValueError")) (aNil)))))))) (sRet (eC (.str "other"))) (sNext)) (sRet (eUn (xfF (fun a => decide (a = c 2)) "at") (eVar 1))))))))
def mf__law_told (c : Nat → Addr) : FM := fnOf 4 1 (m__law_told c)
theorem ok__law_told (T : Fx K w mg c f fd) : FnG P w K mg base 7 (f 43) (fd 43) ["lines"] (mf__law_told c) := Fun.okG T.d__law_told.fn sc__law_told fun cdv A outer s H E hr => by
  show PSs _ (defBody (top 43)) _
  refine dss_cons ?_ ?_
  · exact (ds_set (i := 1) sc__law_told.nd rfl (by first | exact Or.inl rfl | exact Or.inr rfl) (de_non))
  refine dss_cons ?_ ?_
  · refine ds_try (i := 2) (j := 1) (c := .ref (c 1)) T.exm (ps_try_keep (tb := fun W => tS K W (sDrop (eCall (mf_need_rows c) (aCons (eVar 0) (aNil))))) (i := 2) (j := 1) rfl rfl rfl sc__law_told.nd rfl rfl rfl rfl (by decide) (by decide) ⟨rfl, by decide, Or.inl T.k_SightError⟩ (fun W pn xe tk hp => ?_))
    refine dss_one ?_
    exact (ds_expr (de_call (ok_need_rows T) (hr.mono (by decide)) rfl T.d_need_rows.g T.d_need_rows.fn.kp T.d_need_rows.b (fun σ => passAt tk σ) (da_cons (de_var (pv 0)) (da_nil))))
  refine dss_cons ?_ ?_
  · refine ds_if (dt_cmp op_isN od_isN (de_var (pv 1)) (de_non) (by first | exact nomark _ | rfl | with_unfolding_all rfl)) ?_ ?_
    · refine dss_one ?_
      exact (ds_ret (de_non))
    · exact dss_nil
  refine dss_cons ?_ ?_
  · exact (ds_set (i := 3) sc__law_told.nd rfl (by first | exact Or.inl rfl | exact Or.inr rfl) (de_callB call_isA (cd_isa T.sub) rfl T.z_isinstance bb_isinstance (da_cons (de_var (pv 1)) (da_cons (de_tup (da_cons (de_class rfl T.k_NoChoice) (da_cons (de_class rfl T.k_NoDeed) (da_cons (de_class rfl T.k_NoLetter) (da_cons (de_class rfl T.k_NoLevel) (da_cons (de_class rfl T.k_NoMachine) (da_cons (de_class rfl T.k_NoMoves) (da_cons (de_class rfl T.k_NoName) (da_cons (de_class rfl T.k_NoPlayers) (da_nil)))))))))) (da_nil)))))
  refine dss_cons ?_ ?_
  · exact (ds_set (i := 3) sc__law_told.nd rfl (by first | exact Or.inl rfl | exact Or.inr rfl) (de_or (de_var (pv 3)) (de_one (de_callB call_isA (cd_isa T.sub) rfl T.z_isinstance bb_isinstance (da_cons (de_var (pv 1)) (da_cons (de_tup (da_cons (de_class rfl T.k_NoSeat) (da_cons (de_class rfl T.k_NoStand) (da_cons (de_class rfl T.k_NoText) (da_cons (de_class rfl T.k_NoWorths) (da_cons (de_class rfl T.k_TooLong) (da_nil))))))) (da_nil)))))))
  refine dss_cons ?_ ?_
  · refine ds_if (PW.pt (dw_or (dt_not (dt_val (de_callB call_isA (cd_isa T.sub) rfl T.z_isinstance bb_isinstance (da_cons (de_var (pv 1)) (da_cons (de_class rfl T.k_NoRow) (da_nil)))))) (dw_or (dt_val (de_var (pv 3))) (dw_or1 (dt_not (dt_val (de_callB call_isA (cd_isa T.sub) rfl T.z_isinstance bb_isinstance (da_cons (de_var (pv 1)) (da_cons (de_type rfl T.z_ValueError bt_ValueError) (da_nil)))))))))) ?_ ?_
    · refine dss_one ?_
      exact (ds_ret (de_str))
    · exact dss_nil
  refine dss_one ?_
  exact (ds_ret (de_xf (C := fun a => decide (a = c 2)) T.xf_at (de_var (pv 1))))
/-! ### _law_move_right -/
theorem sc__law_move_right : FnScope ["draw", "word", "spot", "bent", "odd", "thing", "found"] ["draw"] (defScope (top 44)) := ⟨rfl, rfl, rfl, by decide +kernel, rfl, by decide +kernel, by decide +kernel⟩
def m__law_move_right : SM := sSeq (sSet 1 (eCall (mf__law_pick) (aCons (eVar 0) (aCons (eCall (mf__law_words) (aCons (eVar 0) (aCons (eC (.int 2)) (aNil)))) (aNil))))) (sSeq (sSet 2 (eCall (mf__law_take) (aCons (eVar 0) (aCons (eOp addF (eOf lenF (aCons (eVar 1) (aNil))) (eC (.int 1))) (aNil))))) (sSeq (sSet 3 (eOp addF (eOp addF (eSl slF (eVar 1) (oNone) (oSome (eVar 2))) (eCall (mf__law_pick) (aCons (eVar 0) (aCons (eOf lstF1 (aCons (eC (.str "A")) (aCons (eC (.str " ")) (aCons (eC (.str "1")) (aCons (eC (.str "_")) (aCons (eC (.str "")) (aCons (eC (.str "q")) (aCons (eC (.str "qqqqqqq")) (aCons (eC (.str "-")) (aNil)))))))))) (aNil))))) (eSl slF (eVar 1) (oSome (eVar 2)) (oNone)))) (sSeq (sSet 4 (eOf lstF1 (aCons (eC .non) (aCons (eC (.int 5)) (aCons (eC (.bl true)) (aCons (eOf lstF1 (aCons (eVar 1) (aNil))) (aCons (eOf tupF1 (aCons (eVar 1) (aNil))) (aCons (eDisp1 (eVar 1) (eC (.int 1))) (aCons (eC (.str "")) (aCons (eC (.str "ninelette")) (aCons (eC (.str "eightlet")) (aNil)))))))))))) (sSeq (sFor (b1 5) (iOf itemsF (eOf lstF1 (aCons (eVar 1) (aCons (eVar 3) (aCons (eCall (mf__law_pick) (aCons (eVar 0) (aCons (eVar 4) (aNil)))) (aNil)))))) (sSeq (sSet 6 (eCall (mf_is_move) (aCons (eVar 5) (aNil)))) (sIf (mOr (mNot (mTru (eOf isiF (aCons (eVar 6) (aCons (eC (.ty "bool")) (aNil)))))) (mBl (eOp neG (eVar 6) (eCall (mf__law_is_word) (aCons (eVar 5) (aNil)))))) (sRet (eC (.bl false))) (sNext)))) (sRet (eC (.bl true)))))))
def mf__law_move_right : FM := fnOf 7 1 (m__law_move_right)
theorem ok__law_move_right (T : Fx K w mg c f fd) : FnG P w K mg base 6 (f 44) (fd 44) ["draw"] (mf__law_move_right) := Fun.okG T.d__law_move_right.fn sc__law_move_right fun cdv A outer s H E hr => by
  show PSs _ (defBody (top 44)) _
  refine dss_cons ?_ ?_
  · exact (ds_set (i := 1) sc__law_move_right.nd rfl (by first | exact Or.inl rfl | exact Or.inr rfl) (de_call (ok__law_pick T) (hr.mono (by decide)) rfl T.d__law_pick.g T.d__law_pick.fn.kp T.d__law_pick.b (fun σ => passAt (takes_of rfl rfl rfl rfl) σ) (da_cons (de_var (pv 0)) (da_cons (de_call (ok__law_words T) (hr.mono (by decide)) rfl T.d__law_words.g T.d__law_words.fn.kp T.d__law_words.b (fun σ => passAt (takes_of rfl rfl rfl rfl) σ) (da_cons (de_var (pv 0)) (da_cons (de_int) (da_nil)))) (da_nil)))))
  refine dss_cons ?_ ?_
  · exact (ds_set (i := 2) sc__law_move_right.nd rfl (by first | exact Or.inl rfl | exact Or.inr rfl) (de_call (ok__law_take T) (hr.mono (by decide)) rfl T.d__law_take.g T.d__law_take.fn.kp T.d__law_take.b (fun σ => passAt (takes_of rfl rfl rfl rfl) σ) (da_cons (de_var (pv 0)) (da_cons (de_op op_addG od_add (de_callB call_len cd_len rfl T.z_len bb_len (da_cons (de_var (pv 1)) (da_nil))) (de_int)) (da_nil)))))
  refine dss_cons ?_ ?_
  · exact (ds_set (i := 3) sc__law_move_right.nd rfl (by first | exact Or.inl rfl | exact Or.inr rfl) (de_op op_addG od_add (de_op op_addG od_add (de_slice sl_G sd_G (de_var (pv 1)) (do_none) (do_some (de_var (pv 2)))) (de_call (ok__law_pick T) (hr.mono (by decide)) rfl T.d__law_pick.g T.d__law_pick.fn.kp T.d__law_pick.b (fun σ => passAt (takes_of rfl rfl rfl rfl) σ) (da_cons (de_var (pv 0)) (da_cons (de_lst (da_cons (de_str) (da_cons (de_str) (da_cons (de_str) (da_cons (de_str) (da_cons (de_str) (da_cons (de_str) (da_cons (de_str) (da_cons (de_str) (da_nil)))))))))) (da_nil))))) (de_slice sl_G sd_G (de_var (pv 1)) (do_some (de_var (pv 2))) (do_none))))
  refine dss_cons ?_ ?_
  · exact (ds_set (i := 4) sc__law_move_right.nd rfl (by first | exact Or.inl rfl | exact Or.inr rfl) (de_lst (da_cons (de_non) (da_cons (de_int) (da_cons (de_bl) (da_cons (de_lst (da_cons (de_var (pv 1)) (da_nil))) (da_cons (de_tup (da_cons (de_var (pv 1)) (da_nil))) (da_cons (de_disp1 (de_var (pv 1)) (de_int)) (da_cons (de_str) (da_cons (de_str) (da_cons (de_str) (da_nil))))))))))))
  refine dss_cons ?_ ?_
  · refine ds_for (passes_of rfl) rfl (di_any (de_lst (da_cons (de_var (pv 1)) (da_cons (de_var (pv 3)) (da_cons (de_call (ok__law_pick T) (hr.mono (by decide)) rfl T.d__law_pick.g T.d__law_pick.fn.kp T.d__law_pick.b (fun σ => passAt (takes_of rfl rfl rfl rfl) σ) (da_cons (de_var (pv 0)) (da_cons (de_var (pv 4)) (da_nil)))) (da_nil)))))) (pg_name (i := 5) sc__law_move_right.nd rfl (by first | exact Or.inl rfl | exact Or.inr rfl)) (tgd_name 5) ?_
    refine dss_cons ?_ ?_
    · exact (ds_set (i := 6) sc__law_move_right.nd rfl (by first | exact Or.inl rfl | exact Or.inr rfl) (de_call (ok_is_move T) (hr.mono (by decide)) rfl T.d_is_move.g T.d_is_move.fn.kp T.d_is_move.b (fun σ => passAt (takes_of rfl rfl rfl rfl) σ) (da_cons (de_var (pv 5)) (da_nil))))
    refine dss_one ?_
    refine ds_if (PW.pt (dw_or (dt_not (dt_val (de_callB call_isG cd_is rfl T.z_isinstance bb_isinstance (da_cons (de_var (pv 6)) (da_cons (de_type rfl T.z_bool bt_bool) (da_nil)))))) (dw_or1 (dt_cmp (op_neG (hu64 hr)) od_neG (de_var (pv 6)) (de_call (ok__law_is_word T) (hr.mono (by decide)) rfl T.d__law_is_word.g T.d__law_is_word.fn.kp T.d__law_is_word.b (fun σ => passAt (takes_of rfl rfl rfl rfl) σ) (da_cons (de_var (pv 5)) (da_nil))) (by first | exact nomark _ | rfl | with_unfolding_all rfl))))) ?_ ?_
    · refine dss_one ?_
      exact (ds_ret (de_bl))
    · exact dss_nil
  refine dss_one ?_
  exact (ds_ret (de_bl))
/-! ### _law_long_right -/
theorem sc__law_long_right : FnScope ["draw", "great", "here", "few"] ["draw"] (defScope (top 45)) := ⟨rfl, rfl, rfl, by decide +kernel, rfl, by decide +kernel, by decide +kernel⟩
def m__law_long_right (c : Nat → Addr) : SM := sSeq (sSet 1 (eOp addF (eOf lstF1 (aCons (eOf tupF1 (aCons (eC (.str "false")) (aNil))) (aNil))) (eOp mulF (eSl slF (eOf lstF1 (aCons (eOf tupF1 (aCons (eC (.str "not")) (aCons (eC (.int 0)) (aNil)))) (aCons (eOf tupF1 (aCons (eC (.str "shown")) (aCons (eC (.int 99)) (aCons (eC (.int 0)) (aNil))))) (aNil)))) (oSome (eCall (mf__law_take) (aCons (eVar 0) (aCons (eC (.int 2)) (aNil))))) (oNone)) (eC (.int 2000))))) (sSeq (sIf (mBl (eOp notNF (eCall (mf_need_rows c) (aCons (eSl slF (eVar 1) (oNone) (oSome (eC (.int 2000)))) (aNil))) (eC .non))) (sRet (eC (.bl false))) (sNext)) (sSeq (sIf (mOr (mBl (eOp notNF (eCall (mf__law_told c) (aCons (eSl slF (eVar 1) (oNone) (oSome (eC (.int 2000)))) (aNil))) (eC .non))) (mOr (mBl (eOp neG (eCall (mf__law_told c) (aCons (eSl slF (eVar 1) (oNone) (oSome (eC (.int 2001)))) (aNil))) (eC (.int 2000)))) (mBl (eOp neG (eCall (mf__law_told c) (aCons (eVar 1) (aNil))) (eC (.int 2000)))))) (sRet (eC (.bl false))) (sNext)) (sSeq (sSet 2 (eCall (mf__law_pick) (aCons (eVar 0) (aCons (eOf lstF1 (aCons (eC (.int 15)) (aCons (eC (.int 60)) (aCons (eC (.int 1999)) (aCons (eCall (mf__law_take) (aCons (eVar 0) (aCons (eC (.int 2000)) (aNil)))) (aNil)))))) (aNil))))) (sSeq (sSet 3 (eOp addF (eOp addF (eSl slF (eVar 1) (oNone) (oSome (eVar 2))) (eOf lstF1 (aCons (eCall (mf__law_pick) (aCons (eVar 0) (aCons (eOf lstF1 (aCons (eOf tupF1 (aCons (eC (.str "not")) (aCons (eVar 2) (aNil)))) (aCons (eOf tupF1 (aCons (eC (.str "shown")) (aCons (eC (.int 100)) (aCons (eC (.int 0)) (aNil))))) (aCons (eC .non) (aNil))))) (aNil)))) (aNil)))) (eSl slF (eVar 1) (oSome (eOp addF (eVar 2) (eC (.int 1)))) (oSome (eC (.int 2000)))))) (sRet (eAnd (eOp eqG (eCall (mf__law_told c) (aCons (eVar 3) (aNil))) (eVar 2)) (eOp eqG (eCall (mf__law_told c) (aCons (eOp addF (eVar 3) (eSl slF (eVar 1) (oNone) (oSome (eC (.int 9))))) (aNil))) (eVar 2))))))))
def mf__law_long_right (c : Nat → Addr) : FM := fnOf 4 1 (m__law_long_right c)
theorem ok__law_long_right (T : Fx K w mg c f fd) : FnG P w K mg base 8 (f 45) (fd 45) ["draw"] (mf__law_long_right c) := Fun.okG T.d__law_long_right.fn sc__law_long_right fun cdv A outer s H E hr => by
  show PSs _ (defBody (top 45)) _
  refine dss_cons ?_ ?_
  · exact (ds_set (i := 1) sc__law_long_right.nd rfl (by first | exact Or.inl rfl | exact Or.inr rfl) (de_op op_addG od_add (de_lst (da_cons (de_tup (da_cons (de_str) (da_nil))) (da_nil))) (de_op op_mulG od_mul (de_slice sl_G sd_G (de_lst (da_cons (de_tup (da_cons (de_str) (da_cons (de_int) (da_nil)))) (da_cons (de_tup (da_cons (de_str) (da_cons (de_int) (da_cons (de_int) (da_nil))))) (da_nil)))) (do_some (de_call (ok__law_take T) (hr.mono (by decide)) rfl T.d__law_take.g T.d__law_take.fn.kp T.d__law_take.b (fun σ => passAt (takes_of rfl rfl rfl rfl) σ) (da_cons (de_var (pv 0)) (da_cons (de_int) (da_nil))))) (do_none)) (de_int))))
  refine dss_cons ?_ ?_
  · refine ds_if (dt_cmp op_notN od_notN (de_call (ok_need_rows T) (hr.mono (by decide)) rfl T.d_need_rows.g T.d_need_rows.fn.kp T.d_need_rows.b (fun σ => passAt (takes_of rfl rfl rfl rfl) σ) (da_cons (de_slice sl_G sd_G (de_var (pv 1)) (do_none) (do_some (de_int))) (da_nil))) (de_non) (by first | exact nomark _ | rfl | with_unfolding_all rfl)) ?_ ?_
    · refine dss_one ?_
      exact (ds_ret (de_bl))
    · exact dss_nil
  refine dss_cons ?_ ?_
  · refine ds_if (PW.pt (dw_or (dt_cmp op_notN od_notN (de_call (ok__law_told T) (hr.mono (by decide)) rfl T.d__law_told.g T.d__law_told.fn.kp T.d__law_told.b (fun σ => passAt (takes_of rfl rfl rfl rfl) σ) (da_cons (de_slice sl_G sd_G (de_var (pv 1)) (do_none) (do_some (de_int))) (da_nil))) (de_non) (by first | exact nomark _ | rfl | with_unfolding_all rfl)) (dw_or (dt_cmp (op_neG (hu64 hr)) od_neG (de_call (ok__law_told T) (hr.mono (by decide)) rfl T.d__law_told.g T.d__law_told.fn.kp T.d__law_told.b (fun σ => passAt (takes_of rfl rfl rfl rfl) σ) (da_cons (de_slice sl_G sd_G (de_var (pv 1)) (do_none) (do_some (de_int))) (da_nil))) (de_int) (by first | exact nomark _ | rfl | with_unfolding_all rfl)) (dw_or1 (dt_cmp (op_neG (hu64 hr)) od_neG (de_call (ok__law_told T) (hr.mono (by decide)) rfl T.d__law_told.g T.d__law_told.fn.kp T.d__law_told.b (fun σ => passAt (takes_of rfl rfl rfl rfl) σ) (da_cons (de_var (pv 1)) (da_nil))) (de_int) (by first | exact nomark _ | rfl | with_unfolding_all rfl)))))) ?_ ?_
    · refine dss_one ?_
      exact (ds_ret (de_bl))
    · exact dss_nil
  refine dss_cons ?_ ?_
  · exact (ds_set (i := 2) sc__law_long_right.nd rfl (by first | exact Or.inl rfl | exact Or.inr rfl) (de_call (ok__law_pick T) (hr.mono (by decide)) rfl T.d__law_pick.g T.d__law_pick.fn.kp T.d__law_pick.b (fun σ => passAt (takes_of rfl rfl rfl rfl) σ) (da_cons (de_var (pv 0)) (da_cons (de_lst (da_cons (de_int) (da_cons (de_int) (da_cons (de_int) (da_cons (de_call (ok__law_take T) (hr.mono (by decide)) rfl T.d__law_take.g T.d__law_take.fn.kp T.d__law_take.b (fun σ => passAt (takes_of rfl rfl rfl rfl) σ) (da_cons (de_var (pv 0)) (da_cons (de_int) (da_nil)))) (da_nil)))))) (da_nil)))))
  refine dss_cons ?_ ?_
  · exact (ds_set (i := 3) sc__law_long_right.nd rfl (by first | exact Or.inl rfl | exact Or.inr rfl) (de_op op_addG od_add (de_op op_addG od_add (de_slice sl_G sd_G (de_var (pv 1)) (do_none) (do_some (de_var (pv 2)))) (de_lst (da_cons (de_call (ok__law_pick T) (hr.mono (by decide)) rfl T.d__law_pick.g T.d__law_pick.fn.kp T.d__law_pick.b (fun σ => passAt (takes_of rfl rfl rfl rfl) σ) (da_cons (de_var (pv 0)) (da_cons (de_lst (da_cons (de_tup (da_cons (de_str) (da_cons (de_var (pv 2)) (da_nil)))) (da_cons (de_tup (da_cons (de_str) (da_cons (de_int) (da_cons (de_int) (da_nil))))) (da_cons (de_non) (da_nil))))) (da_nil)))) (da_nil)))) (de_slice sl_G sd_G (de_var (pv 1)) (do_some (de_op op_addG od_add (de_var (pv 2)) (de_int))) (do_some (de_int)))))
  refine dss_one ?_
  exact (ds_ret (de_and (de_cmp (op_eqG (hu64 hr)) od_eqG (de_call (ok__law_told T) (hr.mono (by decide)) rfl T.d__law_told.g T.d__law_told.fn.kp T.d__law_told.b (fun σ => passAt (takes_of rfl rfl rfl rfl) σ) (da_cons (de_var (pv 3)) (da_nil))) (de_var (pv 2)) (by first | exact nomark _ | rfl | with_unfolding_all rfl)) (de_one (de_cmp (op_eqG (hu64 hr)) od_eqG (de_call (ok__law_told T) (hr.mono (by decide)) rfl T.d__law_told.g T.d__law_told.fn.kp T.d__law_told.b (fun σ => passAt (takes_of rfl rfl rfl rfl) σ) (da_cons (de_op op_addG od_add (de_var (pv 3)) (de_slice sl_G sd_G (de_var (pv 1)) (do_none) (do_some (de_int)))) (da_nil))) (de_var (pv 2)) (by first | exact nomark _ | rfl | with_unfolding_all rfl)))))
/-! ### the law, behind its first row -/
theorem sc_law : FnScope ["script", "draw", "turn", "lines", "spoil", "copy", "odd", "thing"] ["script"] (defScope (top 46)) := ⟨rfl, rfl, rfl, by decide +kernel, rfl, by decide +kernel, by decide +kernel⟩
def m_law (c : Nat → Addr) : SM := sSeq (sFor (b1 2) (iOfA rng1F (aCons (eOp addF (eC (.int 4)) (eOf min2F (aCons (eOf lenF (aCons (eVar 0) (aNil))) (aCons (eC (.int 12)) (aNil))))) (aNil))) (sSeq (sSet 3 (eCall (mf__law_lines) (aCons (eVar 1) (aCons (eOp addF (eC (.int 1)) (eCall (mf__law_take) (aCons (eVar 1) (aCons (eC (.int 14)) (aNil))))) (aCons (eCall (mf__law_words) (aCons (eVar 1) (aCons (eC (.int 3)) (aNil)))) (aCons (eC (.int 99)) (aNil))))))) (sSeq (sFor (b1 4) (iOfA rng1F (aCons (eCall (mf__law_take) (aCons (eVar 1) (aCons (eC (.int 3)) (aNil)))) (aNil))) (sSet 3 (eCall (mf__law_bent) (aCons (eVar 1) (aCons (eVar 3) (aNil)))))) (sSeq (sSet 5 (eOf reprF (aCons (eVar 3) (aNil)))) (sSeq (sIf (mOr (mBl (eOp neG (eOf lstF1 (aCons (eCall (mf__law_told c) (aCons (eVar 3) (aNil))) (aCons (eCall (mf__law_told c) (aCons (eOf tupleF (aCons (eVar 3) (aNil))) (aNil))) (aNil)))) (eOp mulF (eOf lstF1 (aCons (eCall (mf__law_due) (aCons (eVar 3) (aNil))) (aNil))) (eC (.int 2))))) (mBl (eOp neG (eOf reprF (aCons (eVar 3) (aNil))) (eVar 5)))) (sRet (eC (.bl false))) (sNext)) (sIf (mNot (mTru (eCall (mf__law_move_right) (aCons (eVar 1) (aNil))))) (sRet (eC (.bl false))) (sNext))))))) (sSeq (sIf (mNot (mTru (eCall (mf__law_long_right c) (aCons (eVar 1) (aNil))))) (sRet (eC (.bl false))) (sNext)) (sSeq (sSet 6 (eOf lstF1 (aCons (eC .non) (aCons (eC (.int 5)) (aCons (eC (.str "false")) (aCons (eC (.dic [])) (aCons (eC (.bl true)) (aCons (eOf tupF1 (aCons (eC (.str "not")) (aCons (eC (.int 0)) (aNil)))) (aNil))))))))) (sRet (eAnd (eOp eqG (eLc [7] 8 (c1 7) (iOf itemsF (eVar 6)) (mBl (eOp neG (eCall (mf__law_told c) (aCons (eVar 7) (aNil))) (eC (.int 0)))) (eVar 7)) (eOf lstF1 (aNil))) (eOp isNF (eCall (mf_need_rows c) (aCons (eOf lstF1 (aNil)) (aNil))) (eC .non))))))
theorem law_rest (T : Fx K w mg c f fd) (cdv : Value) (A : Around) (outer : List PySem.Env) (s : Shared) (H : Hp) (E : XK) (hr : Rm 8 (A.deeper (envOfC "law" (defScope (top 46)) s.heap.objs.size (f 46) cdv))) :
    PSs (cxOf (L2.CX P w) P w K mg base ["script", "draw", "turn", "lines", "spoil", "copy", "odd", "thing"] "law" (defScope (top 46)) (f 46) cdv A outer s H E) ((defBody (top 46)).drop 1) (tS K (fun c dd _ H => E c dd H) (m_law c)) := by
  show PSs _ ((defBody (top 46)).drop 1) _
  refine dss_cons ?_ ?_
  · refine ds_for (passes_of rfl) rfl (di_rng1 rfl T.z_range (da_cons (de_op op_addG od_add (de_int) (de_callB (call_min2 rfl) cd_min2 rfl T.z_min bb_min (da_cons (de_callB call_len cd_len rfl T.z_len bb_len (da_cons (de_var (pv 0)) (da_nil))) (da_cons (de_int) (da_nil))))) (da_nil))) (pg_name (i := 2) sc_law.nd rfl (by first | exact Or.inl rfl | exact Or.inr rfl)) (tgd_name 2) ?_
    refine dss_cons ?_ ?_
    · exact (ds_set (i := 3) sc_law.nd rfl (by first | exact Or.inl rfl | exact Or.inr rfl) (de_call (ok__law_lines T) (hr.mono (by decide)) rfl T.d__law_lines.g T.d__law_lines.fn.kp T.d__law_lines.b (fun σ => passAt (takes_of rfl rfl rfl rfl) σ) (da_cons (de_var (pv 1)) (da_cons (de_op op_addG od_add (de_int) (de_call (ok__law_take T) (hr.mono (by decide)) rfl T.d__law_take.g T.d__law_take.fn.kp T.d__law_take.b (fun σ => passAt (takes_of rfl rfl rfl rfl) σ) (da_cons (de_var (pv 1)) (da_cons (de_int) (da_nil))))) (da_cons (de_call (ok__law_words T) (hr.mono (by decide)) rfl T.d__law_words.g T.d__law_words.fn.kp T.d__law_words.b (fun σ => passAt (takes_of rfl rfl rfl rfl) σ) (da_cons (de_var (pv 1)) (da_cons (de_int) (da_nil)))) (da_cons (de_int) (da_nil)))))))
    refine dss_cons ?_ ?_
    · refine ds_for (passes_of rfl) rfl (di_rng1 rfl T.z_range (da_cons (de_call (ok__law_take T) (hr.mono (by decide)) rfl T.d__law_take.g T.d__law_take.fn.kp T.d__law_take.b (fun σ => passAt (takes_of rfl rfl rfl rfl) σ) (da_cons (de_var (pv 1)) (da_cons (de_int) (da_nil)))) (da_nil))) (pg_name (i := 4) sc_law.nd rfl (by first | exact Or.inl rfl | exact Or.inr rfl)) (tgd_name 4) ?_
      refine dss_one ?_
      exact (ds_set (i := 3) sc_law.nd rfl (by first | exact Or.inl rfl | exact Or.inr rfl) (de_call (ok__law_bent T) (hr.mono (by decide)) rfl T.d__law_bent.g T.d__law_bent.fn.kp T.d__law_bent.b (fun σ => passAt (takes_of rfl rfl rfl rfl) σ) (da_cons (de_var (pv 1)) (da_cons (de_var (pv 3)) (da_nil)))))
    refine dss_cons ?_ ?_
    · exact (ds_set (i := 5) sc_law.nd rfl (by first | exact Or.inl rfl | exact Or.inr rfl) (de_callB (call_reprG hr) cd_repr rfl T.z_repr bb_repr (da_cons (de_var (pv 3)) (da_nil))))
    refine dss_cons ?_ ?_
    · refine ds_if (PW.pt (dw_or (dt_cmp (op_neG (hu64 hr)) od_neG (de_lst (da_cons (de_call (ok__law_told T) (hr.mono (by decide)) rfl T.d__law_told.g T.d__law_told.fn.kp T.d__law_told.b (fun σ => passAt (takes_of rfl rfl rfl rfl) σ) (da_cons (de_var (pv 3)) (da_nil))) (da_cons (de_call (ok__law_told T) (hr.mono (by decide)) rfl T.d__law_told.g T.d__law_told.fn.kp T.d__law_told.b (fun σ => passAt (takes_of rfl rfl rfl rfl) σ) (da_cons (de_callTy call_tuple_of cd_tuple rfl T.z_tuple bt_tuple (da_cons (de_var (pv 3)) (da_nil))) (da_nil))) (da_nil)))) (de_op op_mulG od_mul (de_lst (da_cons (de_call (ok__law_due T) (hr.mono (by decide)) rfl T.d__law_due.g T.d__law_due.fn.kp T.d__law_due.b (fun σ => passAt (takes_of rfl rfl rfl rfl) σ) (da_cons (de_var (pv 3)) (da_nil))) (da_nil))) (de_int)) (by first | exact nomark _ | rfl | with_unfolding_all rfl)) (dw_or1 (dt_cmp (op_neG (hu64 hr)) od_neG (de_callB (call_reprG hr) cd_repr rfl T.z_repr bb_repr (da_cons (de_var (pv 3)) (da_nil))) (de_var (pv 5)) (by first | exact nomark _ | rfl | with_unfolding_all rfl))))) ?_ ?_
      · refine dss_one ?_
        exact (ds_ret (de_bl))
      · exact dss_nil
    refine dss_one ?_
    refine ds_if (dt_not (dt_val (de_call (ok__law_move_right T) (hr.mono (by decide)) rfl T.d__law_move_right.g T.d__law_move_right.fn.kp T.d__law_move_right.b (fun σ => passAt (takes_of rfl rfl rfl rfl) σ) (da_cons (de_var (pv 1)) (da_nil))))) ?_ ?_
    · refine dss_one ?_
      exact (ds_ret (de_bl))
    · exact dss_nil
  refine dss_cons ?_ ?_
  · refine ds_if (dt_not (dt_val (de_call (ok__law_long_right T) (hr.mono (by decide)) rfl T.d__law_long_right.g T.d__law_long_right.fn.kp T.d__law_long_right.b (fun σ => passAt (takes_of rfl rfl rfl rfl) σ) (da_cons (de_var (pv 1)) (da_nil))))) ?_ ?_
    · refine dss_one ?_
      exact (ds_ret (de_bl))
    · exact dss_nil
  refine dss_cons ?_ ?_
  · exact (ds_set (i := 6) sc_law.nd rfl (by first | exact Or.inl rfl | exact Or.inr rfl) (de_lst (da_cons (de_non) (da_cons (de_int) (da_cons (de_str) (da_cons (de_dict0) (da_cons (de_bl) (da_cons (de_tup (da_cons (de_str) (da_cons (de_int) (da_nil)))) (da_nil)))))))))
  refine dss_one ?_
  exact (ds_ret (de_and (de_cmp (op_eqG (hu64 hr)) od_eqG (de_lc (own := [("thing", 7)]) (pe_lc (own := [("thing", 7)]) rfl sc_law.nd (di_any (de_var (pv 6))) (blkOk_by rfl) (fun _ _ _ _ _ => pg_name (i := 7) sc_law.nd rfl (by first | exact Or.inl rfl | exact Or.inr rfl)) (fun _ _ _ _ _ => dt_one (dt_cmp (op_neG (hu64 hr)) od_neG (de_call (ok__law_told T) (hr.mono (by decide)) rfl T.d__law_told.g T.d__law_told.fn.kp T.d__law_told.b (fun σ => passW0 σ) (da_cons (de_var (pv 7)) (da_nil))) (de_int) (by first | exact nomark _ | rfl | with_unfolding_all rfl))) (fun _ _ _ _ _ => de_var (pv 7))) (tge_name 7)) (de_lst (da_nil)) (by first | exact nomark _ | rfl | with_unfolding_all rfl)) (de_one (de_cmp op_isN od_isN (de_callK (ks := ["rows"]) (ok_need_rows T) (hr.mono (by decide)) rfl T.d_need_rows.g T.d_need_rows.fn.kp (fun s us _ hl => T.kb_need_rows s us hl) (fun σ => passAt (takes_of rfl rfl rfl rfl) σ) (dk_cons (de_lst (da_nil)) (dk_nil))) (de_non) (by first | exact nomark _ | rfl | with_unfolding_all rfl)))))
end
end FL.K1
set_option Elab.async false
set_option linter.all false
set_option maxRecDepth 100000
set_option maxHeartbeats 1000000
namespace FL.K1
open PySem PySem.Spec PyProof.Rows L2 FL
def numB : D → Bool
  | .int _ => true
  | _ => false
theorem is_number_run {d : D} (h : (tyOf d).isSome = true) (s : S) : mf_is_number [d] s = .ok (.bl (numB d)) s := by
  cases d <;> first | rfl | cases h
def belowB (d : D) (n : Int) : Bool := match d with
  | .int i => decide (0 ≤ i) && decide (i < n)
  | _ => false
theorem is_below_run {d : D} {n : Int} (h : (tyOf d).isSome = true) (s : S) : mf_is_below [d, .int n] s = .ok (.bl (belowB d n)) s := by
  refine fn_rt rfl ?_
  have e := is_number_run h s
  cases d with
  | int i =>
    unfold m_is_below
    simp [runD, e, numB, leF, ltF, intF, belowB]
    by_cases h0 : 0 ≤ i <;> simp [h0]
  | _ => first | rfl | cases h

/-! ### words -/
def lett : Str := "abcdefghijklmnopqrstuvwxyz"
def wordB : D → Bool
  | .str z => (decide (1 ≤ (z.length : Int)) && decide ((z.length : Int) ≤ 8)) && z.cps.toList.all fun c => decide (c ∈ lett.cps.toList)
  | _ => false
/-- a text that may be handed about -/
def txt (z : Str) : Prop := z.length ≤ 100 ∧ z.cps.toList.all (fun c => decide (c < 128)) = true
theorem line100 {n : Nat} (h : n ≤ 100) : n ≤ sizeLine := Nat.le_trans h (by rw [sizeLine_eq]; decide)
theorem in_sign (c : Nat) (w : Str) : inG false (.str ⟨#[c]⟩) (.str w) = some (.bl (decide (c ∈ w.cps.toList))) := rfl
theorem nin_sign (c : Nat) (w : Str) : inG true (.str ⟨#[c]⟩) (.str w) = some (.bl (!decide (c ∈ w.cps.toList))) := rfl
def sg (c : Nat) : D := .str ⟨#[c]⟩
theorem bools_map (f : Nat → Bool) : ∀ l : List Nat, bools (l.map fun c => .bl (f c)) = some (l.map f)
  | [] => rfl
  | c :: l => by
    show (bools (l.map fun c => .bl (f c))).map (f c :: ·) = _
    rw [bools_map f l]
    rfl
theorem all_word (l : List Nat) (h : l.length ≤ sizeLine) (s : S) (o : Option D) : eOf allF (aCons (eLc [1] 2 (c1 1) (iOf itemsF (eVar 0)) tYesD (eOp (inG false) (eVar 1) (eC (.str lett)))) aNil) [some (.str ⟨l.toArray⟩), o] s = .ok (.bl (l.all fun c => decide (c ∈ lett.cps.toList))) s := by
  have e : lcL (c1 1) tYesD (eOp (inG false) (eVar 1) (eC (.str lett))) [some (.str ⟨l.toArray⟩), none] (l.map sg) s = .ok ((l.map sg).map fun d => match d with | .str z => (match z.cps.toList with | [c] => .bl (decide (c ∈ lett.cps.toList)) | _ => d) | d => d) s :=
    lcL_map fun d hd => by
      obtain ⟨c, _, rfl⟩ := List.mem_map.mp hd
      exact ⟨_, rfl, rfl, rfl⟩
  have e2 : (eLc [1] 2 (c1 1) (iOf itemsF (eVar 0)) tYesD (eOp (inG false) (eVar 1) (eC (.str lett)))) [some (.str ⟨l.toArray⟩), o] s = .ok (.lst (l.map fun c => .bl (decide (c ∈ lett.cps.toList)))) s := by
    show lcR (lcL (c1 1) tYesD (eOp (inG false) (eVar 1) (eC (.str lett))) [some (.str ⟨l.toArray⟩), none] (l.map sg) s) = _
    rw [e, List.map_map]
    show (if (l.map _).length ≤ sizeLine then RE.ok (D.lst (l.map _)) s else .bad) = _
    rw [if_pos (by rw [List.length_map]; exact h)]
    rfl
  rw [eOf_run, aCons_run, e2]
  show lift ((bools (l.map fun c => D.bl (decide (c ∈ lett.cps.toList)))).map fun bs => D.bl (bs.all id)) s = _
  rw [bools_map (fun c => decide (c ∈ lett.cps.toList))]
  rw [Option.map_some, lift_some]
  rw [List.all_map]
  rfl
theorem is_move_run {d : D} (h : (tyOf d).isSome = true) (hz : ∀ z, d = .str z → txt z) (s : S) : mf_is_move [d] s = .ok (.bl (wordB d)) s := by
  refine fn_rt rfl ?_
  cases d with
  | str z =>
    obtain ⟨⟨l⟩⟩ := z
    have hl : (⟨⟨l⟩⟩ : Str).length ≤ 100 := (hz _ rfl).1
    have hl2 := line100 hl
    have hl3 : l.length ≤ sizeLine := hl2
    have aw := all_word l hl3 s none
    have e1 : (⟨l.toArray⟩ : Str) = ⟨⟨l⟩⟩ := rfl
    rw [e1] at aw
    have e0 : eOf isiF (aCons (eVar 0) (aCons (eC (.ty "str")) aNil)) [some (.str ⟨⟨l⟩⟩), none] s = .ok (.bl true) s := rfl
    have lenE : lenF [D.str ⟨⟨l⟩⟩] = some (.int ((⟨⟨l⟩⟩ : Str).length)) := if_pos hl2
    have out : ∀ b, runT (mOr (mNot (mTru (eOf isiF (aCons (eVar 0) (aCons (eC (.ty "str")) (aNil)))))) (mNot (mBl (eChain leF leF (eC (.int 1)) (eOf lenF (aCons (eVar 0) (aNil))) (eC (.int 8)))))) [some (.dat (.str ⟨⟨l⟩⟩)), none] s = .ok b s →
        (b = true → wordB (.str ⟨⟨l⟩⟩) = false) → (b = false → wordB (.str ⟨⟨l⟩⟩) = l.all fun c => decide (c ∈ lett.cps.toList)) → m_is_move [some (.dat (.str ⟨⟨l⟩⟩)), none] s = .rt (.bl (wordB (.str ⟨⟨l⟩⟩))) s := fun b t k1 k2 => by
      unfold m_is_move
      rw [sSeq_run, sIf_run, t]
      cases b with
      | true => rw [k1 rfl]; rfl
      | false =>
        show sRet _ [some (.dat (.str ⟨⟨l⟩⟩)), none] s = _
        rw [sRet_run, runD_ok aw, k2 rfl]
        rfl
    show m_is_move [some (.dat (.str ⟨⟨l⟩⟩)), none] s = _
    by_cases h1 : (1 : Int) ≤ ((⟨⟨l⟩⟩ : Str).length : Int)
    · by_cases h2 : ((⟨⟨l⟩⟩ : Str).length : Int) ≤ 8
      · exact out false (runT_ok (by simp [lenE, leF, intF, h1, h2, isiF, tyOf, tyTab, isT, truD])) (fun z => by cases z) fun _ => by simp [wordB, h1, h2]
      · exact out true (runT_ok (by simp [lenE, leF, intF, h1, h2, isiF, tyOf, tyTab, isT, truD])) (fun _ => by simp [wordB, h2]) fun z => by cases z
    · exact out true (runT_ok (by simp [lenE, leF, intF, h1, isiF, tyOf, tyTab, isT, truD])) (fun _ => by simp [wordB, h1]) fun z => by cases z
  | _ => first | rfl | cases h

/-! ### plain data, to the library -/
theorem toPs_sg : ∀ l : List Nat, toPs (l.map sg) = some (l.map fun c => PyData.str ⟨#[c]⟩)
  | [] => rfl
  | c :: l => by
    rw [List.map_cons]
    unfold toPs
    rw [toPs_sg l]
    rfl
theorem lay_sg : ∀ l : List Nat, l.all (fun c => decide (c < 128)) = true → PyData.canLayAll0 (l.map fun c => PyData.str ⟨#[c]⟩) = true
  | [], _ => rfl
  | c :: l, h => by
    rw [List.all_cons, Bool.and_eq_true] at h
    have hc : c < 128 := of_decide_eq_true h.1
    rw [List.map_cons]
    unfold PyData.canLayAll0
    rw [lay_sg l h.2, Bool.and_true]
    show PyData.strOk ⟨#[c]⟩ = true
    unfold PyData.strOk
    simp
    omega
theorem depth_sg : ∀ l : List Nat, PyData.depthAll (l.map fun c => PyData.str ⟨#[c]⟩) = 0
  | [] => rfl
  | c :: l => by
    rw [List.map_cons]
    unfold PyData.depthAll
    rw [depth_sg l]
    rfl
theorem sg_nil (l : List Nat) (h : l.all (fun c => decide (c < 128)) = true) : eqG (.lst (l.map sg)) (.lst []) = some (.bl l.isEmpty) := by
  have h1 : toP (.lst (l.map sg)) = some (.list (l.map fun c => PyData.str ⟨#[c]⟩)) := by
    unfold toP
    rw [toPs_sg]
    rfl
  have h2 : toP (.lst []) = some (.list []) := rfl
  have e0 : scF (.lst (l.map sg)) (.lst []) = none := rfl
  have sh : SeqAt.shaped (.list (l.map fun c => PyData.str ⟨#[c]⟩)) = true := by
    unfold SeqAt.shaped
    rw [Bool.and_eq_true]
    refine ⟨?_, decide_eq_true ?_⟩
    · unfold PyData.canLay0
      exact lay_sg l h
    · unfold PyData.depth
      rw [depth_sg]
      decide
  unfold eqG orF
  rw [e0]
  unfold eqF
  rw [h1, h2]
  dsimp only
  rw [if_pos ⟨sh, rfl⟩]
  cases l with
  | nil => rfl
  | cons a b => rfl
theorem filter_sg (p : Nat → Bool) (l : List Nat) (s : S) (o : Option D) (h : l.length ≤ sizeLine) : (eLc [1] 2 (c1 1) (iOf itemsF (eVar 0)) (mBl (eOp (inG true) (eVar 1) (eC (.str lett)))) (eVar 1)) [some (.str ⟨l.toArray⟩), o] s = .ok (.lst ((l.filter fun c => !decide (c ∈ lett.cps.toList)).map sg)) s := by
  have e : lcL (c1 1) (mBl (eOp (inG true) (eVar 1) (eC (.str lett)))) (eVar 1) [some (.str ⟨l.toArray⟩), none] (l.map sg) s = .ok (((l.map sg).filter fun d => match d with | .str z => (match z.cps.toList with | [c] => !decide (c ∈ lett.cps.toList) | _ => true) | _ => true).map id) s :=
    lcL_filter fun d hd => by
      obtain ⟨c, _, rfl⟩ := List.mem_map.mp hd
      exact ⟨_, rfl, rfl, fun _ => rfl⟩
  show lcR (lcL (c1 1) (mBl (eOp (inG true) (eVar 1) (eC (.str lett)))) (eVar 1) [some (.str ⟨l.toArray⟩), none] (l.map sg) s) = _
  rw [e, List.map_id, List.filter_map]
  show (if (List.map sg (l.filter fun c => !decide (c ∈ lett.cps.toList))).length ≤ sizeLine then RE.ok (D.lst (List.map sg (l.filter fun c => !decide (c ∈ lett.cps.toList)))) s else .bad) = _
  rw [if_pos]
  rw [List.length_map]
  exact Nat.le_trans (List.length_filter_le _ _) h
theorem all_not (l : List Nat) (p : Nat → Bool) : (l.filter fun c => !p c).isEmpty = l.all p := by
  induction l with
  | nil => rfl
  | cons a l ih =>
    rw [List.filter_cons, List.all_cons]
    cases p a with
    | true => simpa using ih
    | false => rfl
theorem all_filter (l : List Nat) (p q : Nat → Bool) (h : l.all p = true) : (l.filter q).all p = true := by
  rw [List.all_eq_true] at h ⊢
  exact fun x hx => h x (List.mem_filter.mp hx).1
theorem is_word_run {d : D} (h : (tyOf d).isSome = true) (hz : ∀ z, d = .str z → txt z) (s : S) : mf__law_is_word [d] s = .ok (.bl (wordB d)) s := by
  refine fn_rt rfl ?_
  cases d with
  | str z =>
    obtain ⟨⟨l⟩⟩ := z
    have hl : (⟨⟨l⟩⟩ : Str).length ≤ 100 := (hz _ rfl).1
    have hasc : l.all (fun c => decide (c < 128)) = true := (hz _ rfl).2
    have hl2 := line100 hl
    have hl3 : l.length ≤ sizeLine := hl2
    have fw := filter_sg (fun _ => true) l s none hl3
    have aw : eOp eqG (eLc [1] 2 (c1 1) (iOf itemsF (eVar 0)) (mBl (eOp (inG true) (eVar 1) (eC (.str lett)))) (eVar 1)) (eOf lstF1 aNil) [some (.str ⟨⟨l⟩⟩), none] s = .ok (.bl (l.all fun c => decide (c ∈ lett.cps.toList))) s := by
      rw [eOp_run]
      have e1 : (⟨l.toArray⟩ : Str) = ⟨⟨l⟩⟩ := rfl
      rw [e1] at fw
      rw [fw]
      show lift (eqG _ (.lst [])) s = _
      rw [sg_nil _ (all_filter _ _ _ hasc), all_not]
      rfl
    have lenE : lenF [D.str ⟨⟨l⟩⟩] = some (.int ((⟨⟨l⟩⟩ : Str).length)) := if_pos hl2
    have out : ∀ b, runT (mOr (mNot (mTru (eOf isiF (aCons (eVar 0) (aCons (eC (.ty "str")) (aNil)))))) (mNot (mBl (eChain leF leF (eC (.int 1)) (eOf lenF (aCons (eVar 0) (aNil))) (eC (.int 8)))))) [some (.dat (.str ⟨⟨l⟩⟩)), none] s = .ok b s →
        (b = true → wordB (.str ⟨⟨l⟩⟩) = false) → (b = false → wordB (.str ⟨⟨l⟩⟩) = l.all fun c => decide (c ∈ lett.cps.toList)) → m__law_is_word [some (.dat (.str ⟨⟨l⟩⟩)), none] s = .rt (.bl (wordB (.str ⟨⟨l⟩⟩))) s := fun b t k1 k2 => by
      unfold m__law_is_word
      rw [sSeq_run, sIf_run, t]
      cases b with
      | true => rw [k1 rfl]; rfl
      | false =>
        show sRet _ [some (.dat (.str ⟨⟨l⟩⟩)), none] s = _
        rw [sRet_run, runD_ok aw, k2 rfl]
        rfl
    show m__law_is_word [some (.dat (.str ⟨⟨l⟩⟩)), none] s = _
    by_cases h1 : (1 : Int) ≤ ((⟨⟨l⟩⟩ : Str).length : Int)
    · by_cases h2 : ((⟨⟨l⟩⟩ : Str).length : Int) ≤ 8
      · exact out false (runT_ok (by simp [lenE, leF, intF, h1, h2, isiF, tyOf, tyTab, isT, truD])) (fun z => by cases z) fun _ => by simp [wordB, h1, h2]
      · exact out true (runT_ok (by simp [lenE, leF, intF, h1, h2, isiF, tyOf, tyTab, isT, truD])) (fun _ => by simp [wordB, h2]) fun z => by cases z
    · exact out true (runT_ok (by simp [lenE, leF, intF, h1, isiF, tyOf, tyTab, isT, truD])) (fun _ => by simp [wordB, h1]) fun z => by cases z
  | _ => first | rfl | cases h
end FL.K1
set_option Elab.async false
set_option linter.all false
set_option maxRecDepth 100000
set_option maxHeartbeats 4000000
namespace FL.K1
open PySem PySem.Spec PyProof.Rows L2 FL
def el (x : D) : Prop := (tyOf x).isSome = true ∧ ∀ z, x = .str z → txt z
theorem sl0 : (0 ≤ sizeLine) = True := by simp
theorem sl1 : (1 ≤ sizeLine) = True := by rw [sizeLine_eq]; simp
theorem sl2 : (2 ≤ sizeLine) = True := by rw [sizeLine_eq]; simp
theorem sl3 : (3 ≤ sizeLine) = True := by rw [sizeLine_eq]; simp
theorem sl4 : (4 ≤ sizeLine) = True := by rw [sizeLine_eq]; simp
theorem parts_shown (a b : D) (s : S) : mf_parts_of [.tup [.str "shown", a, b]] s = .ok (.tup [b]) s := by
  refine fn_rt rfl ?_
  rfl
theorem parts_not (a : D) (s : S) : mf_parts_of [.tup [.str "not", a]] s = .ok (.tup [a]) s := by
  refine fn_rt rfl ?_
  rfl
theorem parts_and (a b : D) (s : S) : mf_parts_of [.tup [.str "and", a, b]] s = .ok (.tup [a, b]) s := by
  refine fn_rt rfl ?_
  rfl
theorem parts_or (a b : D) (s : S) : mf_parts_of [.tup [.str "or", a, b]] s = .ok (.tup [a, b]) s := by
  refine fn_rt rfl ?_
  rfl
theorem parts_false (s : S) : mf_parts_of [.tup [.str "false"]] s = .ok (.tup []) s := by
  refine fn_rt rfl ?_
  rfl
def slo (d : D) (n : Int) : Sls := [some (.dat d), some (.dat (.int n)), none, none]
def rDoes : EM := eAnd (eCall (mf_is_below) (aCons (eOp ixF (eVar 0) (eC (.int 1))) (aCons (eOp addF (eC (.int 3)) (eC (.int 1))) (aNil)))) (eCall (mf_is_move) (aCons (eOp ixF (eVar 0) (eC (.int 2))) (aNil)))
theorem row_does {a b : D} (ha : el a) (hb : el b) (n : Int) (s : S) : m_is_row (slo (.tup [.str "does", a, b]) n) s = .rt (.bl (belowB a 4 && wordB b)) s := by
  have e1 := is_below_run (n := 4) ha.1 s
  have e2 := is_move_run hb.1 hb.2 s
  have e3 : rDoes [some (.tup [.str "does", a, b]), some (.int n), some (.str "does"), none] s = .ok (.bl (belowB a 4 && wordB b)) s := by
    show ((mf_is_below [a, .int 4] s).bind fun x s1 => match x with | .bl true => mf_is_move [b] s1 | .bl false => .ok (.bl false) s1 | _ => .bad) = _
    rw [e1]
    cases belowB a 4 with
    | true => exact e2
    | false => rfl
  obtain ⟨mR, e4⟩ : ∃ mR, m_is_row (slo (.tup [.str "does", a, b]) n) s = sSeq (sIf (mBl (eOp eqG (eVar 2) (eC (.str "does")))) (sRet rDoes) sNext) mR [some (.dat (.tup [.str "does", a, b])), some (.dat (.int n)), some (.dat (.str "does")), none] s := ⟨_, rfl⟩
  have e5 : runT (mBl (eOp eqG (eVar 2) (eC (.str "does")))) [some (.dat (.tup [.str "does", a, b])), some (.dat (.int n)), some (.dat (.str "does")), none] s = .ok true s := rfl
  rw [e4, sSeq_run, sIf_run, e5]
  show (match sRet rDoes _ s with | .nx ρ2 s2 => mR ρ2 s2 | r => r) = _
  rw [sRet_run, runD_ok e3]
  rfl
/-- the rest of the row: each part below -/
def rAll : EM := eOf allF (aCons (eLc [3] 4 (c1 3) (iOf itemsF (eCall (mf_parts_of) (aCons (eVar 0) (aNil)))) (tYesD) (eCall (mf_is_below) (aCons (eVar 3) (aCons (eVar 1) (aNil))))) (aNil))
theorem bools_mapD (f : D → Bool) : ∀ l : List D, bools (l.map fun c => .bl (f c)) = some (l.map f)
  | [] => rfl
  | c :: l => by
    show (bools (l.map fun c => .bl (f c))).map (f c :: ·) = _
    rw [bools_mapD f l]
    rfl
theorem all_run {d : D} {n : Int} {w : D} {ps : List D} {s : S} (hp : mf_parts_of [d] s = .ok (.tup ps) s) (he : ∀ x ∈ ps, el x) (hl : ps.length ≤ 3) : rAll [some d, some (.int n), some w, none] s = .ok (.bl (ps.all fun x => belowB x n)) s := by
  have e : lcL (c1 3) tYesD (eCall (mf_is_below) (aCons (eVar 3) (aCons (eVar 1) (aNil)))) [some d, some (.int n), some w, none] ps s = .ok (ps.map fun x => D.bl (belowB x n)) s :=
    lcL_map fun x hx => ⟨[some d, some (.int n), some w, some x], rfl, rfl, is_below_run (he x hx).1 s⟩
  have e2 : (eLc [3] 4 (c1 3) (iOf itemsF (eCall (mf_parts_of) (aCons (eVar 0) (aNil)))) (tYesD) (eCall (mf_is_below) (aCons (eVar 3) (aCons (eVar 1) (aNil))))) [some d, some (.int n), some w, none] s = .ok (.lst (ps.map fun x => D.bl (belowB x n))) s := by
    show (((mf_parts_of [d] s).bind fun d s1 => lift (itemsF d) s1).bind fun ds s1 => lcR (lcL (c1 3) tYesD (eCall (mf_is_below) (aCons (eVar 3) (aCons (eVar 1) (aNil)))) [some d, some (.int n), some w, none] ds s1)) = _
    rw [hp]
    show lcR (lcL (c1 3) tYesD (eCall (mf_is_below) (aCons (eVar 3) (aCons (eVar 1) (aNil)))) [some d, some (.int n), some w, none] ps s) = _
    rw [e]
    show (if (ps.map _).length ≤ sizeLine then _ else _) = _
    rw [if_pos]
    rw [List.length_map]
    exact Nat.le_trans hl (by rw [sizeLine_eq]; decide)
  unfold rAll
  rw [eOf_run, aCons_run, e2]
  show lift ((bools (ps.map fun x => D.bl (belowB x n))).map fun bs => D.bl (bs.all id)) s = _
  rw [bools_mapD (fun x => belowB x n), Option.map_some, lift_some, List.all_map]
  rfl
theorem row_not {a : D} (ha : el a) (n : Int) (s : S) : m_is_row (slo (.tup [.str "not", a]) n) s = .rt (.bl (belowB a n)) s := by
  have e3 := all_run (n := n) (w := .str "not") (parts_not a s) (fun x hx => by cases List.mem_singleton.mp hx; exact ha) (by simp)
  have e4 : m_is_row (slo (.tup [.str "not", a]) n) s = sRet rAll [some (.dat (.tup [.str "not", a])), some (.dat (.int n)), some (.dat (.str "not")), none] s := rfl
  rw [e4, sRet_run, runD_ok e3]
  simp
theorem two_el {a b : D} (ha : el a) (hb : el b) : ∀ x ∈ [a, b], el x := fun x hx => by
  rcases List.mem_cons.mp hx with rfl | hx
  · exact ha
  · cases List.mem_singleton.mp hx; exact hb
theorem row_and {a b : D} (ha : el a) (hb : el b) (n : Int) (s : S) : m_is_row (slo (.tup [.str "and", a, b]) n) s = .rt (.bl (belowB a n && belowB b n)) s := by
  have e3 := all_run (n := n) (w := .str "and") (parts_and a b s) (two_el ha hb) (by simp)
  have e4 : m_is_row (slo (.tup [.str "and", a, b]) n) s = sRet rAll [some (.dat (.tup [.str "and", a, b])), some (.dat (.int n)), some (.dat (.str "and")), none] s := rfl
  rw [e4, sRet_run, runD_ok e3]
  simp
theorem row_or {a b : D} (ha : el a) (hb : el b) (n : Int) (s : S) : m_is_row (slo (.tup [.str "or", a, b]) n) s = .rt (.bl (belowB a n && belowB b n)) s := by
  have e3 := all_run (n := n) (w := .str "or") (parts_or a b s) (two_el ha hb) (by simp)
  have e4 : m_is_row (slo (.tup [.str "or", a, b]) n) s = sRet rAll [some (.dat (.tup [.str "or", a, b])), some (.dat (.int n)), some (.dat (.str "or")), none] s := rfl
  rw [e4, sRet_run, runD_ok e3]
  simp
theorem row_false (n : Int) (s : S) : m_is_row (slo (.tup [.str "false"]) n) s = .rt (.bl true) s := by
  have e3 := all_run (n := n) (w := .str "false") (parts_false s) (fun x hx => (nomatch hx)) (by simp)
  have e4 : m_is_row (slo (.tup [.str "false"]) n) s = sRet rAll [some (.dat (.tup [.str "false"])), some (.dat (.int n)), some (.dat (.str "false")), none] s := rfl
  rw [e4, sRet_run, runD_ok e3]
  simp
def tShown : TM := mAnd (mBl (eOp eqG (eVar 2) (eC (.str "shown")))) (mNot (mTru (eCall (mf_is_below) (aCons (eOp ixF (eVar 0) (eC (.int 1))) (aCons (eOp addF (eC (.int 99)) (eC (.int 1))) (aNil))))))
theorem row_shown {a b : D} (ha : el a) (hb : el b) (n : Int) (s : S) : m_is_row (slo (.tup [.str "shown", a, b]) n) s = .rt (.bl (belowB a 100 && belowB b n)) s := by
  have e3 := all_run (n := n) (w := .str "shown") (parts_shown a b s) (fun x hx => by cases List.mem_singleton.mp hx; exact hb) (by simp)
  have e1 := is_below_run (n := 100) ha.1 s
  have e5 : tShown [some (.tup [.str "shown", a, b]), some (.int n), some (.str "shown"), none] s = .ok (!belowB a 100) s := by
    show ((mf_is_below [a, .int 100] s).bind fun d s1 => lift (truD d) s1).bind (fun x s1 => RE.ok (!x) s1) = _
    rw [e1]
    rfl
  have e4 : m_is_row (slo (.tup [.str "shown", a, b]) n) s = sSeq (sIf tShown (sRet (eC (.bl false))) sNext) (sRet rAll) [some (.dat (.tup [.str "shown", a, b])), some (.dat (.int n)), some (.dat (.str "shown")), none] s := rfl
  rw [e4, sSeq_run, sIf_run, runT_ok e5]
  cases belowB a 100 with
  | true =>
    show sRet rAll _ s = _
    rw [sRet_run, runD_ok e3]
    simp
  | false => rfl

def tHead : TM := mOr (mNot (mTru (eOf isiF (aCons (eVar 0) (aCons (eC (.ty "tuple")) (aNil)))))) (mOr (mNot (mTru (eVar 0))) (mNot (mTru (eOf isiF (aCons (eOp ixF (eVar 0) (eC (.int 0))) (aCons (eC (.ty "str")) (aNil)))))))
def tLen : TM := mBl (eOp neG (eUn (getF tab_ROW_LENGTHS) (eVar 2)) (eOf lenF (aCons (eVar 0) (aNil))))
theorem row_form : ∃ mR, m_is_row = sSeq (sIf tHead (sRet (eC (.bl false))) sNext) (sSeq (sSet 2 (eOp ixF (eVar 0) (eC (.int 0)))) (sSeq (sIf tLen (sRet (eC (.bl false))) sNext) mR)) := ⟨_, rfl⟩
theorem at0 (x : D) (r : List D) : ixF (.tup (x :: r)) (.int 0) = some x := by
  show atI (x :: r) 0 = some x
  unfold atI ixN
  rw [if_pos (by omega), if_pos (by rw [List.length_cons]; omega)]
  rfl
theorem head_no {d : D} (h : (tyOf d).isSome = true) (hn : ∀ w r, d ≠ .tup (.str w :: r)) (he : ∀ x r, d = .tup (x :: r) → (tyOf x).isSome = true) (o1 o2 o3 : Option D) (s : S) : tHead [some d, o1, o2, o3] s = .ok true s := by
  cases d with
  | tup xs =>
    cases xs with
    | nil => rfl
    | cons x r =>
      have hx := he x r rfl
      have e1 : eOp ixF (eVar 0) (eC (.int 0)) [some (.tup (x :: r)), o1, o2, o3] s = .ok x s := by
        rw [eOp_run]
        show lift (ixF (.tup (x :: r)) (.int 0)) s = _
        rw [at0]
        rfl
      have e2 : (mNot (mTru (eOf isiF (aCons (eOp ixF (eVar 0) (eC (.int 0))) (aCons (eC (.ty "str")) (aNil)))))) [some (.tup (x :: r)), o1, o2, o3] s = .ok true s := by
        rw [mNot_run, mTru_run, eOf_run, aCons_run, e1]
        cases x with
        | str w => exact absurd rfl (hn w r)
        | _ => first | rfl | cases hx
      unfold tHead
      rw [mOr_run]
      show (mOr (mNot (mTru (eVar 0))) (mNot (mTru (eOf isiF (aCons (eOp ixF (eVar 0) (eC (.int 0))) (aCons (eC (.ty "str")) (aNil))))))) [some (.tup (x :: r)), o1, o2, o3] s = _
      rw [mOr_run]
      show (mNot (mTru (eOf isiF (aCons (eOp ixF (eVar 0) (eC (.int 0))) (aCons (eC (.ty "str")) (aNil)))))) [some (.tup (x :: r)), o1, o2, o3] s = _
      exact e2
  | _ => first | rfl | cases h
theorem head_yes (w : Str) (r : List D) (o1 o2 o3 : Option D) (s : S) : tHead [some (.tup (.str w :: r)), o1, o2, o3] s = .ok false s := by
  have e1 : eOp ixF (eVar 0) (eC (.int 0)) [some (.tup (.str w :: r)), o1, o2, o3] s = .ok (.str w) s := by
    rw [eOp_run]
    show lift (ixF (.tup (.str w :: r)) (.int 0)) s = _
    rw [at0]
    rfl
  unfold tHead
  rw [mOr_run]
  show (mOr (mNot (mTru (eVar 0))) (mNot (mTru (eOf isiF (aCons (eOp ixF (eVar 0) (eC (.int 0))) (aCons (eC (.ty "str")) (aNil))))))) [some (.tup (.str w :: r)), o1, o2, o3] s = _
  rw [mOr_run]
  show (mNot (mTru (eOf isiF (aCons (eOp ixF (eVar 0) (eC (.int 0))) (aCons (eC (.ty "str")) (aNil)))))) [some (.tup (.str w :: r)), o1, o2, o3] s = _
  rw [mNot_run, mTru_run, eOf_run, aCons_run, e1]
  rfl
theorem row_no {d : D} (h : (tyOf d).isSome = true) (hn : ∀ w r, d ≠ .tup (.str w :: r)) (he : ∀ x r, d = .tup (x :: r) → (tyOf x).isSome = true) (n : Int) (s : S) : m_is_row (slo d n) s = .rt (.bl false) s := by
  obtain ⟨mR, e⟩ := row_form
  rw [e, sSeq_run, sIf_run, runT_ok (head_no h hn he _ _ _ s)]
  rfl
theorem row_len {w : Str} {r : List D} {g : D} (hg : tab_ROW_LENGTHS w = some g) (hne : neG g (.int ((r.length + 1 : Nat))) = some (.bl true)) (n : Int) (s : S) : m_is_row (slo (.tup (.str w :: r)) n) s = .rt (.bl false) s := by
  obtain ⟨mR, e⟩ := row_form
  have e1 : eOp ixF (eVar 0) (eC (.int 0)) [some (.tup (.str w :: r)), some (.int n), none, none] s = .ok (.str w) s := by
    rw [eOp_run]
    show lift (ixF (.tup (.str w :: r)) (.int 0)) s = _
    rw [at0]
    rfl
  have e2 : tLen [some (.tup (.str w :: r)), some (.int n), some (.str w), none] s = .ok true s := by
    show ((((lift (tab_ROW_LENGTHS w) s).bind fun x s1 => lift (neG x (.int ((r.length + 1 : Nat)))) s1) : RE D).bind fun d s1 => match d with | .bl b => RE.ok b s1 | _ => .bad) = _
    rw [hg, lift_some, bind_ok, hne]
    rfl
  rw [e, sSeq_run, sIf_run, runT_ok (head_yes w r _ _ _ s)]
  show sSeq (sSet 2 (eOp ixF (eVar 0) (eC (.int 0)))) _ (slo (.tup (.str w :: r)) n) s = _
  rw [sSeq_run, sSet_run, runD_ok e1]
  show sSeq (sIf tLen (sRet (eC (.bl false))) sNext) mR [some (.dat (.tup (.str w :: r))), some (.dat (.int n)), some (.dat (.str w)), none] s = _
  rw [sSeq_run, sIf_run, runT_ok e2]
  rfl
/-! ### what a row is -/
def rowB : D → Int → Bool
  | .tup [.str w], _ => decide (w = "false")
  | .tup [.str w, a], n => decide (w = "not") && belowB a n
  | .tup [.str w, a, b], n => if w = "does" then belowB a 4 && wordB b else if w = "and" then belowB a n && belowB b n else if w = "or" then belowB a n && belowB b n else if w = "shown" then belowB a 100 && belowB b n else false
  | _, _ => false
/-- a thing that may stand as a row -/
def ro (d : D) : Prop := (tyOf d).isSome = true ∧ ∀ xs, d = .tup xs → ∀ x ∈ xs, el x
theorem ne_len {k m : Int} (h : k ≠ m) : neG (.int k) (.int m) = some (.bl true) := by
  show some (D.bl (!decide (k = m))) = _
  rw [decide_eq_false h]
  rfl
theorem ne_non (m : Int) : neG .non (.int m) = some (.bl true) := rfl
theorem tab_of (w : Str) : (w = "false" ∧ tab_ROW_LENGTHS w = some (.int 1)) ∨ (w = "does" ∧ tab_ROW_LENGTHS w = some (.int 3)) ∨ (w = "not" ∧ tab_ROW_LENGTHS w = some (.int 2)) ∨ (w = "and" ∧ tab_ROW_LENGTHS w = some (.int 3)) ∨ (w = "or" ∧ tab_ROW_LENGTHS w = some (.int 3)) ∨ (w = "shown" ∧ tab_ROW_LENGTHS w = some (.int 3)) ∨
    (w ≠ "false" ∧ w ≠ "does" ∧ w ≠ "not" ∧ w ≠ "and" ∧ w ≠ "or" ∧ w ≠ "shown" ∧ tab_ROW_LENGTHS w = some .non) := by
  by_cases h1 : w = "false"
  · subst h1; exact .inl ⟨rfl, rfl⟩
  by_cases h2 : w = "does"
  · subst h2; exact .inr (.inl ⟨rfl, rfl⟩)
  by_cases h3 : w = "not"
  · subst h3; exact .inr (.inr (.inl ⟨rfl, rfl⟩))
  by_cases h4 : w = "and"
  · subst h4; exact .inr (.inr (.inr (.inl ⟨rfl, rfl⟩)))
  by_cases h5 : w = "or"
  · subst h5; exact .inr (.inr (.inr (.inr (.inl ⟨rfl, rfl⟩))))
  by_cases h6 : w = "shown"
  · subst h6; exact .inr (.inr (.inr (.inr (.inr (.inl ⟨rfl, rfl⟩)))))
  exact .inr (.inr (.inr (.inr (.inr (.inr ⟨h1, h2, h3, h4, h5, h6, by unfold tab_ROW_LENGTHS; rw [if_neg h1, if_neg h2, if_neg h3, if_neg h4, if_neg h5, if_neg h6]⟩)))))
theorem rowB_not {d : D} (hn : ∀ w r, d ≠ .tup (.str w :: r)) (n : Int) : rowB d n = false := by
  unfold rowB
  split
  · exact absurd rfl (hn _ _)
  · exact absurd rfl (hn _ _)
  · exact absurd rfl (hn _ _)
  · rfl
theorem is_row_run {d : D} (h : ro d) (n : Int) (s : S) : mf_is_row [d, .int n] s = .ok (.bl (rowB d n)) s := by
  refine fn_rt rfl ?_
  show m_is_row (slo d n) s = _
  by_cases hn : ∀ w r, d ≠ .tup (.str w :: r)
  · rw [rowB_not hn]
    exact row_no h.1 hn (fun x r e => (h.2 _ e x List.mem_cons_self).1) n s
  · have ⟨w, r, e⟩ : ∃ w r, d = .tup (.str w :: r) := by
      apply Classical.byContradiction
      intro z
      exact hn fun w r e => z ⟨w, r, e⟩
    subst e
    have hel := h.2 _ rfl
    match r, hel with
    | [], hel =>
      rcases tab_of w with ⟨rfl, t⟩ | ⟨rfl, t⟩ | ⟨rfl, t⟩ | ⟨rfl, t⟩ | ⟨rfl, t⟩ | ⟨rfl, t⟩ | ⟨h1, _, _, _, _, _, t⟩
      · exact row_false n s
      · exact row_len t (ne_len (by simp)) n s
      · exact row_len t (ne_len (by simp)) n s
      · exact row_len t (ne_len (by simp)) n s
      · exact row_len t (ne_len (by simp)) n s
      · exact row_len t (ne_len (by simp)) n s
      · have e : rowB (.tup [.str w]) n = false := decide_eq_false h1
        rw [e]
        exact row_len t (ne_non _) n s
    | [a], hel =>
      have ha : el a := hel a (by simp)
      rcases tab_of w with ⟨rfl, t⟩ | ⟨rfl, t⟩ | ⟨rfl, t⟩ | ⟨rfl, t⟩ | ⟨rfl, t⟩ | ⟨rfl, t⟩ | ⟨_, _, h1, _, _, _, t⟩
      · exact row_len t (ne_len (by simp)) n s
      · exact row_len t (ne_len (by simp)) n s
      · exact row_not ha n s
      · exact row_len t (ne_len (by simp)) n s
      · exact row_len t (ne_len (by simp)) n s
      · exact row_len t (ne_len (by simp)) n s
      · have e : rowB (.tup [.str w, a]) n = false := by
          show (decide (w = "not") && belowB a n) = false
          rw [decide_eq_false h1]
          rfl
        rw [e]
        exact row_len t (ne_non _) n s
    | [a, b], hel =>
      have ha : el a := hel a (by simp)
      have hb : el b := hel b (by simp)
      rcases tab_of w with ⟨rfl, t⟩ | ⟨rfl, t⟩ | ⟨rfl, t⟩ | ⟨rfl, t⟩ | ⟨rfl, t⟩ | ⟨rfl, t⟩ | ⟨_, h2, _, h4, h5, h6, t⟩
      · exact row_len t (ne_len (by simp)) n s
      · exact row_does ha hb n s
      · exact row_len t (ne_len (by simp)) n s
      · exact row_and ha hb n s
      · exact row_or ha hb n s
      · exact row_shown ha hb n s
      · have e : rowB (.tup [.str w, a, b]) n = false := by
          show (if w = "does" then belowB a 4 && wordB b else if w = "and" then belowB a n && belowB b n else if w = "or" then belowB a n && belowB b n else if w = "shown" then belowB a 100 && belowB b n else false) = false
          rw [if_neg h2, if_neg h4, if_neg h5, if_neg h6]
        rw [e]
        exact row_len t (ne_non _) n s
    | a :: b :: c :: r, hel =>
      have e : rowB (.tup (.str w :: a :: b :: c :: r)) n = false := rfl
      rw [e]
      rcases tab_of w with ⟨rfl, t⟩ | ⟨rfl, t⟩ | ⟨rfl, t⟩ | ⟨rfl, t⟩ | ⟨rfl, t⟩ | ⟨rfl, t⟩ | ⟨_, _, _, _, _, _, t⟩
      · exact row_len t (ne_len (by simp only [List.length_cons]; omega)) n s
      · exact row_len t (ne_len (by simp only [List.length_cons]; omega)) n s
      · exact row_len t (ne_len (by simp only [List.length_cons]; omega)) n s
      · exact row_len t (ne_len (by simp only [List.length_cons]; omega)) n s
      · exact row_len t (ne_len (by simp only [List.length_cons]; omega)) n s
      · exact row_len t (ne_len (by simp only [List.length_cons]; omega)) n s
      · exact row_len t (ne_non _) n s
end FL.K1
set_option Elab.async false
set_option linter.all false
set_option maxRecDepth 100000
set_option maxHeartbeats 4000000
namespace FL.K1
open PySem PySem.Spec PyProof.Rows L2 FL
/-! ### the law's own reader of a row -/
def rangeB (d : D) (lo hi : Int) : Bool := match d with
  | .int i => decide (lo ≤ i) && decide (i ≤ hi)
  | _ => false
theorem law_num_run {d : D} {lo hi : Int} (h : (tyOf d).isSome = true) (s : S) : mf__law_is_number [d, .int lo, .int hi] s = .ok (.bl (rangeB d lo hi)) s := by
  refine fn_rt rfl ?_
  cases d with
  | int i =>
    unfold m__law_is_number
    simp [runD, isiF, tyOf, tyTab, isT, leF, intF, rangeB]
    by_cases h0 : lo ≤ i <;> simp [h0]
  | _ => first | rfl | cases h
theorem range_below (d : D) (n : Int) : rangeB d 0 (n - 1) = belowB d n := by
  cases d with
  | int i =>
    show (decide (0 ≤ i) && decide (i ≤ n - 1)) = (decide (0 ≤ i) && decide (i < n))
    congr 1
    by_cases h : i < n
    · rw [decide_eq_true h, decide_eq_true (by omega)]
    · rw [decide_eq_false h, decide_eq_false (by omega)]
  | _ => rfl
theorem range_3 (d : D) : rangeB d 0 3 = belowB d 4 := range_below d 4
theorem range_99 (d : D) : rangeB d 0 99 = belowB d 100 := range_below d 100

def X0 : EM := eOp ixF (eVar 0) (eC (.int 0))
def XL : EM := eOf lenF (aCons (eVar 0) aNil)
def L1 : TM := mOr (mNot (mTru (eOf isiF (aCons (eVar 0) (aCons (eC (.ty "tuple")) (aNil)))))) (mOr (mBl (eOp eqG (eVar 0) (eOf tupF1 (aNil)))) (mNot (mTru (eOf isiF (aCons X0 (aCons (eC (.ty "str")) (aNil)))))))
def isW (w : Str) : TM := mBl (eOp eqG X0 (eC (.str w)))
def R2 : EM := eOp eqG XL (eC (.int 1))
def R3 : EM := eAnd (eOp eqG XL (eC (.int 2))) (eCall (mf__law_is_number) (aCons (eOp ixF (eVar 0) (eC (.int 1))) (aCons (eC (.int 0)) (aCons (eOp subF (eVar 1) (eC (.int 1))) (aNil)))))
def T4 : TM := mOr (mBl (eOp (inG true) X0 (eOf tupF1 (aCons (eC (.str "does")) (aCons (eC (.str "and")) (aCons (eC (.str "or")) (aCons (eC (.str "shown")) (aNil)))))))) (mBl (eOp neG XL (eC (.int 3))))
def R5 : EM := eAnd (eCall (mf__law_is_number) (aCons (eOp ixF (eVar 0) (eC (.int 1))) (aCons (eC (.int 0)) (aCons (eC (.int 3)) (aNil))))) (eCall (mf__law_is_word) (aCons (eOp ixF (eVar 0) (eC (.int 2))) (aNil)))
def T6 : TM := mNot (mTru (eCall (mf__law_is_number) (aCons (eOp ixF (eVar 0) (eC (.int 1))) (aCons (eC (.int 0)) (aCons (eIf (mBl (eOp eqG X0 (eC (.str "shown")))) (eC (.int 99)) (eOp subF (eVar 1) (eC (.int 1)))) (aNil))))))
def R7 : EM := eCall (mf__law_is_number) (aCons (eOp ixF (eVar 0) (eC (.int 2))) (aCons (eC (.int 0)) (aCons (eOp subF (eVar 1) (eC (.int 1))) (aNil))))
def no : SM := sRet (eC (.bl false))
theorem eq_nilT (x0 : D) (r : List D) : eqG (.tup (x0 :: r)) (.tup []) = some (.bl false) := by
  have h0 : scF (.tup (x0 :: r)) (.tup []) = none := rfl
  unfold eqG orF
  rw [h0, Option.none_or]
  cases h : eqF (.tup (x0 :: r)) (.tup []) with
  | none => rfl
  | some g =>
    unfold eqF at h
    cases hp : toP (.tup (x0 :: r)) with
    | none => rw [hp] at h; cases h
    | some p =>
      rw [hp] at h
      have hq : toP (.tup []) = some (.tuple []) := rfl
      rw [hq] at h
      dsimp only at h
      split at h
      · cases h
        have hp2 : ∃ x xs, p = .tuple (x :: xs) := by
          have h2 : (toPs (x0 :: r)).map PyData.tuple = some p := hp
          rw [Option.map_eq_some_iff] at h2
          obtain ⟨ps, h3, h4⟩ := h2
          have h5 : (match toP x0, toPs r with | some p, some ps => some (p :: ps) | _, _ => none) = some ps := h3
          cases hx : toP x0 with
          | none => rw [hx] at h5; cases h5
          | some q0 =>
            cases hr : toPs r with
            | none => rw [hx, hr] at h5; cases h5
            | some qs =>
              rw [hx, hr] at h5
              cases h5
              exact ⟨_, _, h4.symm⟩
        obtain ⟨x, xs, rfl⟩ := hp2
        rfl
      · cases h
theorem line_form : m__law_is_line = sSeq (sIf L1 no sNext) (sSeq (sIf (isW "false") (sRet R2) sNext) (sSeq (sIf (isW "not") (sRet R3) sNext) (sSeq (sIf T4 no sNext) (sSeq (sIf (isW "does") (sRet R5) sNext) (sSeq (sIf T6 no sNext) (sRet R7)))))) := rfl
def li (d : D) (n : Int) : Sls := [some (.dat d), some (.dat (.int n))]
section
variable {w : Str} {r : List D} {n : Int} {s : S} {d : D}
theorem x0_run : X0 [some (.tup (.str w :: r)), some (.int n)] s = .ok (.str w) s := by
  unfold X0
  rw [eOp_run]
  show lift (ixF (.tup (.str w :: r)) (.int 0)) s = _
  rw [at0]
  rfl
theorem xl_run : XL [some (.tup (.str w :: r)), some (.int n)] s = .ok (.int ((r.length + 1 : Nat))) s := rfl
theorem isW_run (w2 : Str) : runT (isW w2) (li (.tup (.str w :: r)) n) s = .ok (decide (w = w2)) s := runT_ok (by
  show isW w2 [some (.tup (.str w :: r)), some (.int n)] s = _
  unfold isW
  rw [mBl_run, eOp_run, x0_run]
  rfl)
theorem l1_yes : runT L1 (li (.tup (.str w :: r)) n) s = .ok false s := runT_ok (by
  show L1 [some (.tup (.str w :: r)), some (.int n)] s = _
  have e2 : (mNot (mTru (eOf isiF (aCons X0 (aCons (eC (.ty "str")) (aNil)))))) [some (.tup (.str w :: r)), some (.int n)] s = .ok false s := by
    rw [mNot_run, mTru_run, eOf_run, aCons_run, x0_run]
    rfl
  have e3 := eq_nilT (.str w) r
  unfold L1
  rw [mOr_run]
  show (mOr (mBl (eOp eqG (eVar 0) (eOf tupF1 (aNil)))) (mNot (mTru (eOf isiF (aCons X0 (aCons (eC (.ty "str")) (aNil))))))) [some (.tup (.str w :: r)), some (.int n)] s = _
  rw [mOr_run]
  have e4 : (mBl (eOp eqG (eVar 0) (eOf tupF1 (aNil)))) [some (.tup (.str w :: r)), some (.int n)] s = .ok false s := by
    rw [mBl_run, eOp_run]
    show ((lift (eqG (.tup (.str w :: r)) (.tup [])) s).bind fun d s1 => match d with | .bl b => RE.ok b s1 | _ => .bad) = _
    rw [e3]
    rfl
  rw [e4]
  exact e2)
theorem t4_in (h : w = "does" ∨ w = "and" ∨ w = "or" ∨ w = "shown") : runT T4 (li (.tup (.str w :: r)) n) s = .ok (!decide (((r.length + 1 : Nat) : Int) = 3)) s := runT_ok (by
  show T4 [some (.tup (.str w :: r)), some (.int n)] s = _
  have e1 : (mBl (eOp (inG true) X0 (eOf tupF1 (aCons (eC (.str "does")) (aCons (eC (.str "and")) (aCons (eC (.str "or")) (aCons (eC (.str "shown")) (aNil)))))))) [some (.tup (.str w :: r)), some (.int n)] s = .ok false s := by
    rw [mBl_run, eOp_run, x0_run]
    rcases h with rfl | rfl | rfl | rfl <;> rfl
  unfold T4
  rw [mOr_run, e1]
  rfl)
theorem t4_out (h1 : w ≠ "does") (h2 : w ≠ "and") (h3 : w ≠ "or") (h4 : w ≠ "shown") : runT T4 (li (.tup (.str w :: r)) n) s = .ok true s := runT_ok (by
  show T4 [some (.tup (.str w :: r)), some (.int n)] s = _
  have e0 : inG true (.str w) (.tup [.str "does", .str "and", .str "or", .str "shown"]) = some (.bl true) := by
    have f : ∀ v : Str, w ≠ v → eqS (.str v) (.str w) = false := fun v hv => by
      show (v == w) = false
      simpa using Ne.symm hv
    have q : inS (.str w) [.str "does", .str "and", .str "or", .str "shown"] = false := by
      unfold inS
      simp only [List.any_cons, List.any_nil, f _ h1, f _ h2, f _ h3, f _ h4, Bool.or_false]
    show (orF (inF true) (signF true)) _ _ = _
    unfold orF
    have q2 : inF true (.str w) (.tup [.str "does", .str "and", .str "or", .str "shown"]) = some (.bl (!inS (.str w) [.str "does", .str "and", .str "or", .str "shown"])) := rfl
    rw [q2, q]
    rfl
  have e1 : (mBl (eOp (inG true) X0 (eOf tupF1 (aCons (eC (.str "does")) (aCons (eC (.str "and")) (aCons (eC (.str "or")) (aCons (eC (.str "shown")) (aNil)))))))) [some (.tup (.str w :: r)), some (.int n)] s = .ok true s := by
    rw [mBl_run, eOp_run, x0_run]
    show ((lift (inG true (.str w) (.tup [.str "does", .str "and", .str "or", .str "shown"])) s).bind fun d s1 => match d with | .bl b => RE.ok b s1 | _ => .bad) = _
    rw [e0]
    rfl
  unfold T4
  rw [mOr_run, e1]
  rfl)
/-- what is behind the head, by the word -/
theorem line_false (r : List D) : m__law_is_line (li (.tup (.str "false" :: r)) n) s = .rt (.bl (decide (((r.length + 1 : Nat) : Int) = 1))) s := by
  have e : R2 [some (.tup (.str "false" :: r)), some (.int n)] s = .ok (.bl (decide (((r.length + 1 : Nat) : Int) = 1))) s := rfl
  rw [line_form, seq_nx (if_nx l1_yes)]
  exact seq_rt (if_ret (isW_run "false") (runD_ok e))
theorem line_not {b : D} (r : List D) (h : R3 [some (.tup (.str "not" :: r)), some (.int n)] s = .ok b s) : m__law_is_line (li (.tup (.str "not" :: r)) n) s = .rt b s := by
  rw [line_form, seq_nx (if_nx l1_yes), seq_nx (if_nx (isW_run "false"))]
  exact seq_rt (if_ret (isW_run "not") (runD_ok h))
theorem line_late (h1 : w ≠ "false") (h2 : w ≠ "not") : m__law_is_line (li (.tup (.str w :: r)) n) s = sSeq (sIf T4 no sNext) (sSeq (sIf (isW "does") (sRet R5) sNext) (sSeq (sIf T6 no sNext) (sRet R7))) (li (.tup (.str w :: r)) n) s := by
  rw [line_form, seq_nx (if_nx l1_yes), seq_nx (if_nx (by rw [isW_run, decide_eq_false h1])), seq_nx (if_nx (by rw [isW_run, decide_eq_false h2]))]
theorem line_out (h1 : w ≠ "false") (h2 : w ≠ "not") (h : runT T4 (li (.tup (.str w :: r)) n) s = .ok true s) : m__law_is_line (li (.tup (.str w :: r)) n) s = .rt (.bl false) s := by
  rw [line_late h1 h2]
  exact seq_rt (if_ret h (runD_ok rfl))
theorem line_does {a b : D} (ha : el a) (hb : el b) : m__law_is_line (li (.tup [.str "does", a, b]) n) s = .rt (.bl (belowB a 4 && wordB b)) s := by
  have e : R5 [some (.tup [.str "does", a, b]), some (.int n)] s = .ok (.bl (belowB a 4 && wordB b)) s := by
    show ((mf__law_is_number [a, .int 0, .int 3] s).bind fun x s1 => match x with | .bl true => mf__law_is_word [b] s1 | .bl false => .ok (.bl false) s1 | _ => .bad) = _
    rw [law_num_run ha.1, range_3]
    cases belowB a 4 with
    | true => exact is_word_run hb.1 hb.2 s
    | false => rfl
  rw [line_late (by decide) (by decide), seq_nx (if_nx (t4_in (.inl rfl)))]
  exact seq_rt (if_ret (isW_run "does") (runD_ok e))
theorem r7_run {a b : D} (hb : el b) : R7 [some (.tup [.str w, a, b]), some (.int n)] s = .ok (.bl (belowB b n)) s := by
  show mf__law_is_number [b, .int 0, .int (n - 1)] s = _
  rw [law_num_run hb.1, range_below]
theorem line_rest {a b : D} {hi : Int} (hw : w = "and" ∨ w = "or" ∨ w = "shown") (ha : el a) (hb : el b) (e : (eIf (mBl (eOp eqG X0 (eC (.str "shown")))) (eC (.int 99)) (eOp subF (eVar 1) (eC (.int 1)))) [some (.tup [.str w, a, b]), some (.int n)] s = .ok (.int hi) s) :
    m__law_is_line (li (.tup [.str w, a, b]) n) s = .rt (.bl (rangeB a 0 hi && belowB b n)) s := by
  have e6 : T6 [some (.tup [.str w, a, b]), some (.int n)] s = .ok (!rangeB a 0 hi) s := by
    unfold T6
    rw [mNot_run, mTru_run, eCall_run, aCons_run]
    show ((((RE.ok a s).bind fun x s1 => ((aCons (eC (.int 0)) (aCons (eIf (mBl (eOp eqG X0 (eC (.str "shown")))) (eC (.int 99)) (eOp subF (eVar 1) (eC (.int 1)))) aNil)) [some (.tup [.str w, a, b]), some (.int n)] s1).bind fun xs s2 => RE.ok (x :: xs) s2).bind fun ds s1 => mf__law_is_number ds s1).bind fun d s1 => lift (truD d) s1).bind (fun x s1 => RE.ok (!x) s1) = _
    rw [bind_ok, aCons_run, eC_run, bind_ok, aCons_run, e]
    show (((mf__law_is_number [a, .int 0, .int hi] s).bind fun d s1 => lift (truD d) s1).bind fun x s1 => RE.ok (!x) s1) = _
    rw [law_num_run ha.1]
    rfl
  have n1 : w ≠ "false" := by rcases hw with rfl | rfl | rfl <;> decide
  have n2 : w ≠ "not" := by rcases hw with rfl | rfl | rfl <;> decide
  have n3 : w ≠ "does" := by rcases hw with rfl | rfl | rfl <;> decide
  rw [line_late n1 n2, seq_nx (if_nx (t4_in (.inr hw))), seq_nx (if_nx (by rw [isW_run, decide_eq_false n3]))]
  cases hc : rangeB a 0 hi with
  | false =>
    rw [hc] at e6
    exact seq_rt (if_ret (runT_ok e6) (runD_ok rfl))
  | true =>
    rw [hc] at e6
    rw [seq_nx (if_nx (runT_ok e6))]
    exact ret_run (runD_ok (r7_run hb))
end
theorem l1_no {d : D} (h : (tyOf d).isSome = true) (hn : ∀ w r, d ≠ .tup (.str w :: r)) (he : ∀ x r, d = .tup (x :: r) → (tyOf x).isSome = true) (n : Int) (s : S) : runT L1 (li d n) s = .ok true s := runT_ok (by
  show L1 [some d, some (.int n)] s = _
  cases d with
  | tup xs =>
    cases xs with
    | nil => rfl
    | cons x r =>
      have hx := he x r rfl
      have e1 : X0 [some (.tup (x :: r)), some (.int n)] s = .ok x s := by
        unfold X0
        rw [eOp_run]
        show lift (ixF (.tup (x :: r)) (.int 0)) s = _
        rw [at0]
        rfl
      have e2 : (mNot (mTru (eOf isiF (aCons X0 (aCons (eC (.ty "str")) (aNil)))))) [some (.tup (x :: r)), some (.int n)] s = .ok true s := by
        rw [mNot_run, mTru_run, eOf_run, aCons_run, e1]
        cases x with
        | str w => exact absurd rfl (hn w r)
        | _ => first | rfl | cases hx
      have e4 : (mBl (eOp eqG (eVar 0) (eOf tupF1 (aNil)))) [some (.tup (x :: r)), some (.int n)] s = .ok false s := by
        rw [mBl_run, eOp_run]
        show ((lift (eqG (.tup (x :: r)) (.tup [])) s).bind fun d s1 => match d with | .bl b => RE.ok b s1 | _ => .bad) = _
        rw [eq_nilT]
        rfl
      unfold L1
      rw [mOr_run]
      show (mOr (mBl (eOp eqG (eVar 0) (eOf tupF1 (aNil)))) (mNot (mTru (eOf isiF (aCons X0 (aCons (eC (.ty "str")) (aNil))))))) [some (.tup (x :: r)), some (.int n)] s = _
      rw [mOr_run, e4]
      exact e2
  | _ => first | rfl | cases h)

theorem is_line_run {d : D} (h : ro d) (n : Int) (s : S) : mf__law_is_line [d, .int n] s = .ok (.bl (rowB d n)) s := by
  refine fn_rt rfl ?_
  show m__law_is_line (li d n) s = _
  by_cases hn : ∀ w r, d ≠ .tup (.str w :: r)
  · rw [rowB_not hn, line_form]
    exact seq_rt (if_ret (l1_no h.1 hn (fun x r e => (h.2 _ e x List.mem_cons_self).1) n s) (runD_ok rfl))
  · have ⟨w, r, e⟩ : ∃ w r, d = .tup (.str w :: r) := by
      apply Classical.byContradiction
      intro z
      exact hn fun w r e => z ⟨w, r, e⟩
    subst e
    have hel := h.2 _ rfl
    have lenNe : ∀ {k : Nat}, k ≠ 3 → (!decide (((k : Nat) : Int) = 3)) = true := fun {k} hk => by
      rw [decide_eq_false (by omega)]
      rfl
    by_cases hf : w = "false"
    · subst hf
      rw [line_false]
      match r with
      | [] => rfl
      | [a] => rfl
      | [a, b] => rfl
      | a :: b :: c :: r =>
        have e : rowB (.tup (.str "false" :: a :: b :: c :: r)) n = false := rfl
        rw [e, decide_eq_false (by simp only [List.length_cons]; omega)]
    · by_cases hnt : w = "not"
      · subst hnt
        match r, hel with
        | [a], hel =>
          have ha : el a := hel a (by simp)
          refine line_not _ ?_
          show (mf__law_is_number [a, .int 0, .int (n - 1)] s) = _
          rw [law_num_run ha.1, range_below]
          rfl
        | [], _ => exact line_not _ rfl
        | [a, b], _ => exact line_not _ rfl
        | a :: b :: c :: r, _ =>
          refine line_not _ ?_
          have e : eqG (.int (((a :: b :: c :: r).length + 1 : Nat))) (.int 2) = some (.bl false) := by
            show some (D.bl (decide (_ = (2 : Int)))) = _
            rw [decide_eq_false (by simp only [List.length_cons]; omega)]
          unfold R3
          rw [eAnd_run, eOp_run, xl_run, bind_ok, eC_run, bind_ok, e]
          rfl
      · by_cases h4 : w = "does" ∨ w = "and" ∨ w = "or" ∨ w = "shown"
        · match r, hel with
          | [], _ =>
            have e : rowB (.tup [.str w]) n = false := decide_eq_false hf
            rw [e]
            exact line_out hf hnt (by rw [t4_in h4]; rfl)
          | [a], _ =>
            have e : rowB (.tup [.str w, a]) n = false := by
              show (decide (w = "not") && belowB a n) = false
              rw [decide_eq_false hnt]
              rfl
            rw [e]
            exact line_out hf hnt (by rw [t4_in h4]; rfl)
          | a :: b :: c :: r, _ =>
            have e : rowB (.tup (.str w :: a :: b :: c :: r)) n = false := rfl
            rw [e]
            exact line_out hf hnt (by rw [t4_in h4, lenNe (by simp only [List.length_cons]; omega)])
          | [a, b], hel =>
            have ha : el a := hel a (by simp)
            have hb : el b := hel b (by simp)
            rcases h4 with rfl | rfl | rfl | rfl
            · exact line_does ha hb
            · rw [line_rest (hi := n - 1) (.inl rfl) ha hb rfl, range_below]
              rfl
            · rw [line_rest (hi := n - 1) (.inr (.inl rfl)) ha hb rfl, range_below]
              rfl
            · rw [line_rest (hi := 99) (.inr (.inr rfl)) ha hb rfl, range_99]
              rfl
        · have n1 : w ≠ "does" := fun z => h4 (.inl z)
          have n2 : w ≠ "and" := fun z => h4 (.inr (.inl z))
          have n3 : w ≠ "or" := fun z => h4 (.inr (.inr (.inl z)))
          have n4 : w ≠ "shown" := fun z => h4 (.inr (.inr (.inr z)))
          have e : rowB (.tup (.str w :: r)) n = false := by
            match r with
            | [] => exact decide_eq_false hf
            | [a] =>
              show (decide (w = "not") && belowB a n) = false
              rw [decide_eq_false hnt]
              rfl
            | [a, b] =>
              show (if w = "does" then belowB a 4 && wordB b else if w = "and" then belowB a n && belowB b n else if w = "or" then belowB a n && belowB b n else if w = "shown" then belowB a 100 && belowB b n else false) = false
              rw [if_neg n1, if_neg n2, if_neg n3, if_neg n4]
            | a :: b :: c :: r => rfl
          rw [e]
          exact line_out hf hnt (t4_out n1 n2 n3 n4)
end FL.K1
set_option Elab.async false
set_option linter.all false
set_option maxRecDepth 100000
set_option maxHeartbeats 4000000
namespace FL.K1
open PySem PySem.Spec PyProof.Rows L2 FL
def firstBad : List D → Nat → Option Nat
  | [], _ => none
  | x :: r, k => if rowB x k = true then firstBad r (k + 1) else some k
def bodyN (c : Nat → Addr) : SM := sIf (mNot (mTru (eCall (mf_is_row) (aCons (eVar 2) (aCons (eVar 1) (aNil)))))) (sRaise (c 2) "at" (eVar 1)) (sNext)
def tNum (ys : List D) (k : Nat) : List D := (ys.zipIdx k).map fun p => .tup [.int (p.2 : Nat), p.1]
theorem tNum_cons (x : D) (r : List D) (k : Nat) : tNum (x :: r) k = .tup [.int (k : Nat), x] :: tNum r (k + 1) := rfl
theorem numd_tNum (xs : List D) : numd xs = tNum xs 0 := rfl
theorem bodyN_run {c : Nat → Addr} {d x : D} {k : Int} (h : ro x) (s : S) : bodyN c [some (.dat d), some (.dat (.int k)), some (.dat x)] s = if rowB x k = true then .nx [some (.dat d), some (.dat (.int k)), some (.dat x)] s else .ex (c 2) [("at", .int k)] [some (.dat d), some (.dat (.int k)), some (.dat x)] s := by
  have e : runT (mNot (mTru (eCall (mf_is_row) (aCons (eVar 2) (aCons (eVar 1) (aNil)))))) [some (.dat d), some (.dat (.int k)), some (.dat x)] s = .ok (!rowB x k) s := runT_ok (by
    show ((mf_is_row [x, .int k] s).bind fun d s1 => lift (truD d) s1).bind (fun x s1 => RE.ok (!x) s1) = _
    rw [is_row_run h]
    rfl)
  unfold bodyN
  cases hr : rowB x k with
  | true =>
    rw [hr] at e
    rw [if_nx e, if_pos rfl]
  | false =>
    rw [hr] at e
    rw [if_yes e, if_neg Bool.false_ne_true]
    rfl
theorem loopN {c : Nat → Addr} {d : D} {s : S} : ∀ (ys : List D) (k : Nat) (a b : Option Sl), (∀ x ∈ ys, ro x) →
    (firstBad ys k = none → ∃ a' b', forL (bT [1, 2]) (bodyN c) (tNum ys k) [some (.dat d), a, b] s = .nx [some (.dat d), a', b'] s) ∧
    (∀ i, firstBad ys k = some i → ∃ ρ, forL (bT [1, 2]) (bodyN c) (tNum ys k) [some (.dat d), a, b] s = .ex (c 2) [("at", .int (i : Nat))] ρ s)
  | [], k, a, b, _ => ⟨fun _ => ⟨a, b, rfl⟩, fun i h => by cases h⟩
  | x :: r, k, a, b, h => by
    have hx := h x List.mem_cons_self
    have ih := loopN (c := c) (d := d) (s := s) r (k + 1) (some (.dat (.int (k : Nat)))) (some (.dat x)) fun y hy => h y (List.mem_cons_of_mem _ hy)
    have e := bodyN_run (c := c) (d := d) (k := (k : Nat)) hx s
    rw [tNum_cons]
    unfold forL firstBad
    show (_ → ∃ a' b', (match bodyN c [some (.dat d), some (.dat (.int (k : Nat))), some (.dat x)] s with
      | .nx ρ2 s2 => forL (bT [1, 2]) (bodyN c) (tNum r (k + 1)) ρ2 s2
      | .ct ρ2 s2 => forL (bT [1, 2]) (bodyN c) (tNum r (k + 1)) ρ2 s2
      | .bk ρ2 s2 => RS.nx ρ2 s2
      | .rt d s2 => .rt d s2
      | .ex C fs ρ2 s2 => .ex C fs ρ2 s2
      | .bad => .bad) = _) ∧ ∀ i, _ → ∃ ρ, (match bodyN c [some (.dat d), some (.dat (.int (k : Nat))), some (.dat x)] s with
      | .nx ρ2 s2 => forL (bT [1, 2]) (bodyN c) (tNum r (k + 1)) ρ2 s2
      | .ct ρ2 s2 => forL (bT [1, 2]) (bodyN c) (tNum r (k + 1)) ρ2 s2
      | .bk ρ2 s2 => RS.nx ρ2 s2
      | .rt d s2 => .rt d s2
      | .ex C fs ρ2 s2 => .ex C fs ρ2 s2
      | .bad => .bad) = _
    rw [e]
    cases hr : rowB x k with
    | true =>
      rw [if_pos rfl, if_pos rfl]
      exact ih
    | false =>
      rw [if_neg Bool.false_ne_true, if_neg Bool.false_ne_true]
      refine ⟨fun z => (by cases z), fun i z => ?_⟩
      cases z
      exact ⟨_, rfl⟩
/-- at which number a list of rows is refused -/
def needB (xs : List D) : Option Nat := match firstBad (xs.take 2000) 0 with
  | some i => some i
  | none => if 2000 < xs.length then some 2000 else none
def outN (c : Nat → Addr) (s : S) : Option Nat → RE D
  | some i => .ex (c 2) [("at", .int (i : Nat))] s
  | none => .ok .non s
theorem cut2000 (xs : List D) : cutL xs none (some 2000) = xs.take 2000 := by
  unfold cutL
  show (xs.drop 0).take (HT.sIx xs.length xs.length (some ((2000 : Nat) : Int)) - 0) = _
  rw [HT.sIx_nat, List.drop_zero, Nat.sub_zero]
  by_cases h : 2000 ≤ xs.length
  · rw [Nat.min_eq_left h]
  · rw [Nat.min_eq_right (by omega), List.take_length, List.take_of_length_le (by omega)]
def lsT (d : D) (xs : List D) : Prop := d = .lst xs ∨ d = .tup xs
theorem need_run {c : Nat → Addr} {d : D} {xs : List D} (hd : lsT d xs) (h : ∀ x ∈ xs, ro x) (s : S) : mf_need_rows c [d] s = outN c s (needB xs) := by
  have e1 : runT (mNot (mTru (eCall (mf_is_list) (aCons (eVar 0) (aNil))))) [some (.dat d), none, none] s = .ok false s := runT_ok (by rcases hd with rfl | rfl <;> rfl)
  have e2 : runA (iOf numdF (eSl slF (eVar 0) (oNone) (oSome (eC (.int 2000))))) [some (.dat d), none, none] s = .ok (tNum (xs.take 2000) 0) s := by
    rw [← numd_tNum, ← cut2000]
    rcases hd with rfl | rfl <;> rfl
  have e3 : ∀ a b, runT (mBl (eOp gtF (eOf lenF (aCons (eVar 0) (aNil))) (eC (.int 2000)))) [some (.dat d), a, b] s = .ok (decide ((2000 : Int) < (xs.length : Nat))) s := fun a b => runT_ok (by
    have e0 : (mBl (eOp gtF (eOf lenF (aCons (eVar 0) (aNil))) (eC (.int 2000)))) (some d :: dats [a, b]) s = .ok (decide ((2000 : Int) < (xs.length : Nat))) s := by rcases hd with rfl | rfl <;> rfl
    exact e0)
  have form : m_need_rows c = sSeq (sIf (mNot (mTru (eCall (mf_is_list) (aCons (eVar 0) (aNil))))) (sRaise (c 2) "at" (eC (.int 0))) (sNext)) (sSeq (sFor (bT [1, 2]) (iOf numdF (eSl slF (eVar 0) (oNone) (oSome (eC (.int 2000))))) (bodyN c)) (sIf (mBl (eOp gtF (eOf lenF (aCons (eVar 0) (aNil))) (eC (.int 2000)))) (sRaise (c 2) "at" (eC (.int 2000))) (sNext))) := rfl
  have hf : ∀ r, sFor (bT [1, 2]) (iOf numdF (eSl slF (eVar 0) (oNone) (oSome (eC (.int 2000))))) (bodyN c) [some (.dat d), none, none] s = r ↔ forL (bT [1, 2]) (bodyN c) (tNum (xs.take 2000) 0) [some (.dat d), none, none] s = r := fun r => by
    unfold sFor
    rw [e2]
    exact Iff.rfl
  obtain ⟨l1, l2⟩ := loopN (c := c) (d := d) (s := s) (xs.take 2000) 0 none none fun x hx => h x (List.mem_of_mem_take hx)
  unfold needB
  cases hb : firstBad (xs.take 2000) 0 with
  | some i =>
    obtain ⟨ρ, e⟩ := l2 i hb
    refine fn_ex (ρ' := ρ) rfl ?_
    show m_need_rows c [some (.dat d), none, none] s = _
    rw [form, seq_nx (if_nx e1)]
    exact seq_ex ((hf _).mpr e)
  | none =>
    obtain ⟨a, b, e⟩ := l1 hb
    by_cases hl : 2000 < xs.length
    · have d1 : decide ((2000 : Int) < (xs.length : Nat)) = true := decide_eq_true (by omega)
      rw [if_pos hl]
      refine fn_ex (ρ' := [some (.dat d), a, b]) rfl ?_
      show m_need_rows c [some (.dat d), none, none] s = _
      rw [form, seq_nx (if_nx e1), seq_nx ((hf _).mpr e), if_yes (by rw [e3, d1])]
      rfl
    · have d1 : decide ((2000 : Int) < (xs.length : Nat)) = false := decide_eq_false (by omega)
      rw [if_neg hl]
      refine fn_nx (ρ' := [some (.dat d), a, b]) rfl ?_
      show m_need_rows c [some (.dat d), none, none] s = _
      rw [form, seq_nx (if_nx e1), seq_nx ((hf _).mpr e), if_nx (by rw [e3, d1])]
theorem need_no {c : Nat → Addr} {d : D} (h : (tyOf d).isSome = true) (hl : ∀ xs, ¬ lsT d xs) (s : S) : mf_need_rows c [d] s = .ex (c 2) [("at", .int 0)] s := by
  cases d with
  | lst xs => exact absurd (.inl rfl) (hl xs)
  | tup xs => exact absurd (.inr rfl) (hl xs)
  | _ => first | rfl | cases h

/-! ### what is told -/
def sayD : Option Nat → D
  | some i => .int (i : Nat)
  | none => .non
def tryN (c : Nat → Addr) : SM := sTry (fun a => decide (a = c 2)) 2 1 (sDrop (eCall (mf_need_rows c) (aCons (eVar 0) (aNil))))
def mOth (c : Nat → Addr) : SM := sSeq (sSet 3 (eOf (isaF (subC c)) (aCons (eVar 1) (aCons (eOf tupF1 (aCons (eC (.cls (c 4))) (aCons (eC (.cls (c 14))) (aCons (eC (.cls (c 9))) (aCons (eC (.cls (c 6))) (aCons (eC (.cls (c 11))) (aCons (eC (.cls (c 3))) (aCons (eC (.cls (c 13))) (aCons (eC (.cls (c 5))) (aNil)))))))))) (aNil))))) (sSeq (sSet 3 (eOr (eVar 3) (eOf (isaF (subC c)) (aCons (eVar 1) (aCons (eOf tupF1 (aCons (eC (.cls (c 7))) (aCons (eC (.cls (c 10))) (aCons (eC (.cls (c 8))) (aCons (eC (.cls (c 12))) (aCons (eC (.cls (c 15))) (aNil))))))) (aNil)))))) (sSeq (sIf (mOr (mNot (mTru (eOf (isaF (subC c)) (aCons (eVar 1) (aCons (eC (.cls (c 2))) (aNil)))))) (mOr (mTru (eVar 3)) (mNot (mTru (eOf (isaF (subC c)) (aCons (eVar 1) (aCons (eC (.ty "ValueError")) (aNil)))))))) (sRet (eC (.str "other"))) (sNext)) (sRet (eUn (xfF (fun a => decide (a = c 2)) "at") (eVar 1)))))
theorem told_form (c : Nat → Addr) : m__law_told c = sSeq (sSet 1 (eC .non)) (sSeq (tryN c) (sSeq (sIf (mBl (eOp isNF (eVar 1) (eC .non))) (sRet (eC .non)) (sNext)) (mOth c))) := rfl
section
variable (c : Nat → Addr) (fs : List (Str × D)) (s : S)
theorem sub1 : subC c (c 2) [.ref (c 2)] = some true := by simp [subC, subT]
theorem sub2 : subC c (c 2) [.type "ValueError"] = some true := by
  unfold subC subT
  rw [if_pos rfl]
  rfl
theorem look_ne {us k : List Value} {b : Bool} {r : List (List Value × Bool)} (h : us.length ≠ k.length) : List.lookup us ((k, b) :: r) = List.lookup us r := by
  have e : (us == k) = false := by simpa using fun z : us = k => h (by rw [z])
  rw [List.lookup_cons, e]
theorem look_eq {us : List Value} {b : Bool} {r : List (List Value × Bool)} : List.lookup us ((us, b) :: r) = some b := by
  have e : (us == us) = true := by simp
  rw [List.lookup_cons, e]
theorem sub5 : subC c (c 2) [.ref (c 7), .ref (c 10), .ref (c 8), .ref (c 12), .ref (c 15)] = some false := by
  unfold subC subT
  rw [if_pos rfl, look_ne, look_ne, look_eq] <;> simp
theorem sub8 : subC c (c 2) [.ref (c 4), .ref (c 14), .ref (c 9), .ref (c 6), .ref (c 11), .ref (c 3), .ref (c 13), .ref (c 5)] = some false := by
  unfold subC subT
  rw [if_pos rfl, look_ne, look_ne, look_ne, look_eq] <;> simp
theorem isa1 {us : List Value} {ts : List D} {b : Bool} (h : clsVs ts = some us) (hs : subC c (c 2) us = some b) : isaF (subC c) [.exc (c 2) fs, .tup ts] = some (.bl b) := by
  show (isiF [.exc (c 2) fs, .tup ts]).or ((clsVs ts).bind fun us => (subC c (c 2) us).map .bl) = _
  rw [h]
  show (isiF [.exc (c 2) fs, .tup ts]).or ((subC c (c 2) us).map .bl) = _
  rw [hs]
  rfl
theorem isaC {b : Bool} (hs : subC c (c 2) [.ref (c 2)] = some b) : isaF (subC c) [.exc (c 2) fs, .cls (c 2)] = some (.bl b) := by
  show (none : Option D).or ((subC c (c 2) [.ref (c 2)]).map .bl) = _
  rw [hs]
  rfl
theorem isaV {b : Bool} (hs : subC c (c 2) [.type "ValueError"] = some b) : isaF (subC c) [.exc (c 2) fs, .ty "ValueError"] = some (.bl b) := by
  have h0 : isiF [.exc (c 2) fs, .ty "ValueError"] = none := rfl
  show (isiF [.exc (c 2) fs, .ty "ValueError"]).or ((subC c (c 2) [.type "ValueError"]).map .bl) = _
  rw [h0, hs]
  rfl
end
theorem oth_run (c : Nat → Addr) (d : D) (i : Int) (s : S) : mOth c [some (.dat d), some (.dat (.exc (c 2) [("at", .int i)])), none, none] s = .rt (.int i) s := by
  have e1 : (eOf (isaF (subC c)) (aCons (eVar 1) (aCons (eOf tupF1 (aCons (eC (.cls (c 4))) (aCons (eC (.cls (c 14))) (aCons (eC (.cls (c 9))) (aCons (eC (.cls (c 6))) (aCons (eC (.cls (c 11))) (aCons (eC (.cls (c 3))) (aCons (eC (.cls (c 13))) (aCons (eC (.cls (c 5))) (aNil)))))))))) (aNil)))) [some d, some (.exc (c 2) [("at", .int i)]), none, none] s = .ok (.bl false) s := by
    show lift (isaF (subC c) [.exc (c 2) [("at", .int i)], .tup [.cls (c 4), .cls (c 14), .cls (c 9), .cls (c 6), .cls (c 11), .cls (c 3), .cls (c 13), .cls (c 5)]]) s = _
    rw [isa1 c _ rfl (sub8 c)]
    rfl
  have e2 : (eOr (eVar 3) (eOf (isaF (subC c)) (aCons (eVar 1) (aCons (eOf tupF1 (aCons (eC (.cls (c 7))) (aCons (eC (.cls (c 10))) (aCons (eC (.cls (c 8))) (aCons (eC (.cls (c 12))) (aCons (eC (.cls (c 15))) (aNil))))))) (aNil))))) [some d, some (.exc (c 2) [("at", .int i)]), none, some (.bl false)] s = .ok (.bl false) s := by
    show lift (isaF (subC c) [.exc (c 2) [("at", .int i)], .tup [.cls (c 7), .cls (c 10), .cls (c 8), .cls (c 12), .cls (c 15)]]) s = _
    rw [isa1 c _ rfl (sub5 c)]
    rfl
  have e3 : (mOr (mNot (mTru (eOf (isaF (subC c)) (aCons (eVar 1) (aCons (eC (.cls (c 2))) (aNil)))))) (mOr (mTru (eVar 3)) (mNot (mTru (eOf (isaF (subC c)) (aCons (eVar 1) (aCons (eC (.ty "ValueError")) (aNil)))))))) [some d, some (.exc (c 2) [("at", .int i)]), none, some (.bl false)] s = .ok false s := by
    have f1 : (mNot (mTru (eOf (isaF (subC c)) (aCons (eVar 1) (aCons (eC (.cls (c 2))) (aNil)))))) [some d, some (.exc (c 2) [("at", .int i)]), none, some (.bl false)] s = .ok false s := by
      show ((lift (isaF (subC c) [.exc (c 2) [("at", .int i)], .cls (c 2)]) s).bind fun d s1 => lift (truD d) s1).bind (fun x s1 => RE.ok (!x) s1) = _
      rw [isaC c _ (sub1 c)]
      rfl
    have f2 : (mNot (mTru (eOf (isaF (subC c)) (aCons (eVar 1) (aCons (eC (.ty "ValueError")) (aNil)))))) [some d, some (.exc (c 2) [("at", .int i)]), none, some (.bl false)] s = .ok false s := by
      show ((lift (isaF (subC c) [.exc (c 2) [("at", .int i)], .ty "ValueError"]) s).bind fun d s1 => lift (truD d) s1).bind (fun x s1 => RE.ok (!x) s1) = _
      rw [isaV c _ (sub2 c)]
      rfl
    rw [mOr_run, f1, bind_ok, if_neg Bool.false_ne_true, mOr_run]
    show (mNot (mTru (eOf (isaF (subC c)) (aCons (eVar 1) (aCons (eC (.ty "ValueError")) (aNil)))))) [some d, some (.exc (c 2) [("at", .int i)]), none, some (.bl false)] s = _
    exact f2
  have e4 : (eUn (xfF (fun a => decide (a = c 2)) "at") (eVar 1)) [some d, some (.exc (c 2) [("at", .int i)]), none, some (.bl false)] s = .ok (.int i) s := by
    show lift (xfF (fun a => decide (a = c 2)) "at" (.exc (c 2) [("at", .int i)])) s = _
    show lift (if decide (c 2 = c 2) = true then List.lookup ("at" : Str) [("at", D.int i)] else none) s = _
    rw [if_pos (decide_eq_true rfl)]
    rfl
  unfold mOth
  rw [seq_nx (set_run (runD_ok e1))]
  show sSeq (sSet 3 _) _ [some (.dat d), some (.dat (.exc (c 2) [("at", .int i)])), none, some (.dat (.bl false))] s = _
  rw [seq_nx (set_run (runD_ok e2))]
  show sSeq (sIf _ _ _) _ [some (.dat d), some (.dat (.exc (c 2) [("at", .int i)])), none, some (.dat (.bl false))] s = _
  rw [seq_nx (if_nx (runT_ok e3))]
  exact ret_run (runD_ok e4)
theorem told_ok {c : Nat → Addr} {d : D} {s : S} (h : mf_need_rows c [d] s = .ok .non s) : mf__law_told c [d] s = .ok .non s := by
  refine fn_rt rfl ?_
  show m__law_told c [some (.dat d), none, none, none] s = _
  have e : runD (eCall (mf_need_rows c) (aCons (eVar 0) (aNil))) [some (.dat d), some (.dat .non), none, none] s = .ok .non s := runD_ok h
  have e2 : tryN c [some (.dat d), some (.dat .non), none, none] s = .nx [some (.dat d), some (.dat .non), none, none] s := by
    unfold tryN sTry
    rw [sDrop_run, e]
    rfl
  rw [told_form, seq_nx (set_run (runD_ok rfl))]
  show sSeq (tryN c) _ [some (.dat d), some (.dat .non), none, none] s = _
  rw [seq_nx e2]
  exact seq_rt (if_ret (runT_ok rfl) (runD_ok rfl))
theorem told_ex {c : Nat → Addr} {d : D} {i : Int} {s : S} (h : mf_need_rows c [d] s = .ex (c 2) [("at", .int i)] s) : mf__law_told c [d] s = .ok (.int i) s := by
  refine fn_rt rfl ?_
  show m__law_told c [some (.dat d), none, none, none] s = _
  have e : runD (eCall (mf_need_rows c) (aCons (eVar 0) (aNil))) [some (.dat d), some (.dat .non), none, none] s = .ex (c 2) [("at", .int i)] s := runD_ex h
  have e2 : tryN c [some (.dat d), some (.dat .non), none, none] s = .nx [some (.dat d), some (.dat (.exc (c 2) [("at", .int i)])), none, none] s := by
    unfold tryN sTry
    rw [sDrop_run, e, after_ex]
    show (if decide (c 2 = c 2) = true ∧ 2 ≠ 1 then RS.nx _ s else .bad) = _
    rw [if_pos ⟨decide_eq_true rfl, by decide⟩]
    rfl
  rw [told_form, seq_nx (set_run (runD_ok rfl))]
  show sSeq (tryN c) _ [some (.dat d), some (.dat .non), none, none] s = _
  rw [seq_nx e2, seq_nx (if_nx (runT_ok rfl))]
  exact oth_run c d i s
theorem told_run {c : Nat → Addr} {d : D} {xs : List D} (hd : lsT d xs) (h : ∀ x ∈ xs, ro x) (s : S) : mf__law_told c [d] s = .ok (sayD (needB xs)) s := by
  have e := need_run (c := c) hd h s
  cases q : needB xs with
  | none => rw [q] at e; exact told_ok e
  | some i => rw [q] at e; exact told_ex e
theorem told_no {c : Nat → Addr} {d : D} (h : (tyOf d).isSome = true) (hl : ∀ xs, ¬ lsT d xs) (s : S) : mf__law_told c [d] s = .ok (.int 0) s := told_ex (need_no h hl s)
end FL.K1
set_option Elab.async false
set_option linter.all false
set_option maxRecDepth 100000
set_option maxHeartbeats 4000000
namespace FL.K1
open PySem PySem.Spec PyProof.Rows L2 FL
def idx : List D → Nat → List Int
  | [], _ => []
  | x :: r, k => if rowB x k = true then idx r (k + 1) else (k : Nat) :: idx r (k + 1)
def pD : D → Bool
  | .tup [.int i, x] => decide (i = 2000) || !rowB x i
  | _ => false
def fD : D → D
  | .tup [i, _] => i
  | d => d
theorem filt : ∀ (xs : List D) (k : Nat), k + xs.length ≤ 2000 → ((tNum xs k).filter pD).map fD = (idx xs k).map D.int
  | [], _, _ => rfl
  | x :: r, k, h => by
    rw [List.length_cons] at h
    have ih := filt r (k + 1) (by omega)
    have hk : decide (((k : Nat) : Int) = 2000) = false := decide_eq_false (by omega)
    have e : pD (.tup [.int (k : Nat), x]) = !rowB x k := by
      show (decide (((k : Nat) : Int) = 2000) || !rowB x k) = _
      rw [hk, Bool.false_or]
    rw [tNum_cons, List.filter_cons, e]
    unfold idx
    cases hr : rowB x k with
    | true =>
      show (List.filter pD (tNum r (k + 1))).map fD = _
      rw [ih, if_pos rfl]
    | false =>
      show (D.tup [.int (k : Nat), x] :: List.filter pD (tNum r (k + 1))).map fD = _
      rw [List.map_cons, ih, if_neg Bool.false_ne_true]
      rfl
theorem head_idx : ∀ (xs : List D) (k : Nat), (idx xs k).head? = (firstBad xs k).map fun i => ((i : Nat) : Int)
  | [], _ => rfl
  | x :: r, k => by
    unfold idx firstBad
    cases rowB x k with
    | true => rw [if_pos rfl, if_pos rfl]; exact head_idx r (k + 1)
    | false => rw [if_neg Bool.false_ne_true, if_neg Bool.false_ne_true]; rfl
theorem len_idx : ∀ (xs : List D) (k : Nat), (idx xs k).length ≤ xs.length
  | [], _ => Nat.le_refl _
  | x :: r, k => by
    have ih := len_idx r (k + 1)
    unfold idx
    cases rowB x k with
    | true => rw [if_pos rfl, List.length_cons]; omega
    | false => rw [if_neg Bool.false_ne_true, List.length_cons, List.length_cons]; omega
theorem ne_nil (xs : List Int) : neG (.lst (xs.map D.int)) (.lst []) = some (.bl (!xs.isEmpty)) := by
  have h1 : toP (.lst (xs.map D.int)) = some (.list (xs.map PyData.int)) := by
    unfold toP
    rw [toPs_int]
    rfl
  have h2 : toP (.lst []) = some (.list []) := rfl
  have e0 : scNF (.lst (xs.map D.int)) (.lst []) = none := rfl
  unfold neG orF
  rw [e0]
  unfold neF
  rw [h1, h2]
  dsimp only
  rw [if_pos ⟨shaped_ints xs, rfl⟩]
  cases xs with
  | nil => rfl
  | cons a b => rfl
theorem cT_run (i x d a : D) : cT [2, 3] (.tup [i, x]) [some d, some a, none, none] = some [some d, some a, some i, some x] := rfl
def tDue : TM := mOr (mBl (eOp eqG (eVar 2) (eC (.int 2000)))) (mNot (mTru (eCall (mf__law_is_line) (aCons (eVar 3) (aCons (eVar 2) (aNil))))))
theorem tDue_run {d x : D} {o : Option D} {i : Int} (h : ro x) (s : S) : tDue [some d, o, some (.int i), some x] s = .ok (pD (.tup [.int i, x])) s := by
  unfold tDue
  rw [mOr_run]
  show ((RE.ok (decide (i = 2000)) s).bind fun x_1 s1 => if x_1 = true then RE.ok true s1 else (mNot (mTru (eCall (mf__law_is_line) (aCons (eVar 3) (aCons (eVar 2) (aNil)))))) [some d, o, some (.int i), some x] s1) = _
  rw [bind_ok]
  show _ = RE.ok (decide (i = 2000) || !rowB x i) s
  cases decide (i = 2000) with
  | true => rfl
  | false =>
    show ((mf__law_is_line [x, .int i] s).bind fun d s1 => lift (truD d) s1).bind (fun x s1 => RE.ok (!x) s1) = _
    rw [is_line_run h]
    rfl
theorem mem_tNum : ∀ {xs : List D} {k : Nat} {d : D}, d ∈ tNum xs k → ∃ (i : Nat) (x : D), d = .tup [.int (i : Nat), x] ∧ x ∈ xs
  | [], _, _, h => nomatch h
  | x :: r, k, d, h => by
    rw [tNum_cons] at h
    rcases List.mem_cons.mp h with rfl | h
    · exact ⟨k, x, rfl, List.mem_cons_self⟩
    · obtain ⟨i, y, e, m⟩ := mem_tNum h
      exact ⟨i, y, e, List.mem_cons_of_mem _ m⟩
theorem due_run {xs : List D} (hl : xs.length ≤ 2000) (h : ∀ x ∈ xs, ro x) (s : S) : mf__law_due [.lst xs] s = .ok (sayD (firstBad xs 0)) s := by
  refine fn_rt rfl ?_
  show m__law_due [some (.dat (.lst xs)), none, none, none] s = _
  have e1 : lcL (cT [2, 3]) tDue (eVar 2) [some (.lst xs), none, none, none] (tNum xs 0) s = .ok (((tNum xs 0).filter pD).map fD) s := lcL_filter fun d hd => by
    obtain ⟨i, x, rfl, hx⟩ := mem_tNum hd
    exact ⟨[some (.lst xs), none, some (.int (i : Nat)), some x], rfl, tDue_run (h x hx) s, fun _ => rfl⟩
  have e2 : (eLc [2, 3] 4 (cT [2, 3]) (iOf numdF (eVar 0)) tDue (eVar 2)) [some (.lst xs), none, none, none] s = .ok (.lst ((idx xs 0).map D.int)) s := by
    show lcR (lcL (cT [2, 3]) tDue (eVar 2) [some (.lst xs), none, none, none] (tNum xs 0) s) = _
    rw [e1, filt xs 0 (by omega)]
    show (if ((idx xs 0).map D.int).length ≤ sizeLine then RE.ok (D.lst ((idx xs 0).map D.int)) s else .bad) = _
    rw [if_pos]
    rw [List.length_map]
    have := len_idx xs 0
    rw [sizeLine_eq]
    omega
  have e3 : (eIf (mBl (eOp neG (eVar 1) (eOf lstF1 (aNil)))) (eOp ixF (eVar 1) (eC (.int 0))) (eC .non)) [some (.lst xs), some (.lst ((idx xs 0).map D.int)), none, none] s = .ok (sayD (firstBad xs 0)) s := by
    rw [eIf_run]
    show ((((lift (neG (.lst ((idx xs 0).map D.int)) (.lst [])) s).bind fun d s1 => match d with | .bl b => RE.ok b s1 | _ => .bad)).bind fun x s1 => if x = true then (eOp ixF (eVar 1) (eC (.int 0))) [some (.lst xs), some (.lst ((idx xs 0).map D.int)), none, none] s1 else (eC .non) [some (.lst xs), some (.lst ((idx xs 0).map D.int)), none, none] s1) = _
    rw [ne_nil]
    have hh := head_idx xs 0
    cases hi : idx xs 0 with
    | nil =>
      rw [hi] at hh
      cases hb : firstBad xs 0 with
      | none => rfl
      | some i => rw [hb] at hh; cases hh
    | cons a b =>
      rw [hi] at hh
      cases hb : firstBad xs 0 with
      | none => rw [hb] at hh; cases hh
      | some i =>
        rw [hb] at hh
        cases hh
        show lift (ixF (.lst (.int ((i : Nat) : Int) :: b.map D.int)) (.int 0)) s = _
        have e : ixF (.lst (.int ((i : Nat) : Int) :: b.map D.int)) (.int 0) = some (.int (i : Nat)) := at0 _ _
        rw [e]
        rfl
  have form : m__law_due = sSeq (sSet 1 (eLc [2, 3] 4 (cT [2, 3]) (iOf numdF (eVar 0)) tDue (eVar 2))) (sRet (eIf (mBl (eOp neG (eVar 1) (eOf lstF1 (aNil)))) (eOp ixF (eVar 1) (eC (.int 0))) (eC .non))) := rfl
  rw [form, seq_nx (set_run (runD_ok e2))]
  exact ret_run (runD_ok e3)
theorem need_few {xs : List D} (hl : xs.length ≤ 2000) : needB xs = firstBad xs 0 := by
  unfold needB
  rw [List.take_of_length_le hl, if_neg (by omega)]
  cases firstBad xs 0 <;> rfl
end FL.K1
set_option Elab.async false
set_option linter.all false
set_option maxRecDepth 100000
set_option maxHeartbeats 4000000
namespace FL.K1
open PySem PySem.Spec PyProof.Rows L2 FL
/-! ### what is drawn -/
def GS (s : S) : Prop := 0 < s.cells.length ∧ -18446744073709551616 < s.mix ∧ s.mix < 18446744073709551616
theorem take_run {s : S} {n : Int} (g : GS s) (h0 : 0 < n) (h1 : n < 18446744073709551616) : ∃ r s2, mf__law_take [.drw, .int n] s = .ok (.int r) s2 ∧ 0 ≤ r ∧ r < n ∧ GS s2 := by
  obtain ⟨g1, g2, g3⟩ := g
  have hL : (0 : Int) < (s.cells.length : Int) := by omega
  have m1 := Int.emod_nonneg s.pos (Int.ne_of_gt hL)
  have m2 := Int.emod_lt_of_pos s.pos hL
  have hi : (s.pos % (s.cells.length : Int)).toNat < s.cells.length := by omega
  have e0 : takeS s n = (match s.cells[(s.pos % (s.cells.length : Int)).toNat]? with
    | some c => if 1000000000000000000 ≤ c then some (c % n, { s with cells := s.cells.set (s.pos % (s.cells.length : Int)).toNat (c / n) })
      else some ((s.mix * 48271 + c + 12345) % 2147483647 * ((s.mix * 48271 + c + 12345) % 2147483647) % 2147483629 / 16 % n, { s with pos := s.pos + 1, mix := (s.mix * 48271 + c + 12345) % 2147483647 })
    | none => none) := if_pos ⟨h0, h1, g2, g3, g1⟩
  rw [List.getElem?_eq_getElem hi] at e0
  have run : ∀ r s2, takeS s n = some (r, s2) → mf__law_take [.drw, .int n] s = .ok (.int r) s2 := fun r s2 e => by
    refine fn_rt rfl ?_
    show (match takeS s n with | some (r, s2) => RS.rt (.int r) s2 | none => .bad) = _
    rw [e]
  dsimp only at e0
  by_cases hc : 1000000000000000000 ≤ s.cells[(s.pos % (s.cells.length : Int)).toNat]
  · rw [if_pos hc] at e0
    exact ⟨_, _, run _ _ e0, Int.emod_nonneg _ (by omega), Int.emod_lt_of_pos _ h0, by show 0 < (s.cells.set _ _).length; rw [List.length_set]; exact g1, g2, g3⟩
  · rw [if_neg hc] at e0
    refine ⟨_, _, run _ _ e0, Int.emod_nonneg _ (by omega), Int.emod_lt_of_pos _ h0, g1, ?_, ?_⟩
    · show -18446744073709551616 < (s.mix * 48271 + s.cells[(s.pos % (s.cells.length : Int)).toNat] + 12345) % 2147483647
      have := Int.emod_nonneg (s.mix * 48271 + s.cells[(s.pos % (s.cells.length : Int)).toNat] + 12345) (show (2147483647 : Int) ≠ 0 by decide)
      omega
    · show (s.mix * 48271 + s.cells[(s.pos % (s.cells.length : Int)).toNat] + 12345) % 2147483647 < 18446744073709551616
      have := Int.emod_lt_of_pos (s.mix * 48271 + s.cells[(s.pos % (s.cells.length : Int)).toNat] + 12345) (show (0 : Int) < 2147483647 by decide)
      omega
theorem at_in {xs : List D} {r : Int} (h0 : 0 ≤ r) (h1 : r < (xs.length : Nat)) : ∃ x, atI xs r = some x ∧ x ∈ xs := by
  have hi : r.toNat < xs.length := by omega
  refine ⟨xs[r.toNat], ?_, List.getElem_mem hi⟩
  unfold atI
  rw [ix_in h0 h1]
  show xs[r.toNat]? = _
  exact List.getElem?_eq_getElem hi
theorem pick_run {s : S} {xs : List D} (g : GS s) (h0 : xs ≠ []) (h1 : xs.length ≤ 1000000) : ∃ x s2, mf__law_pick [.drw, .lst xs] s = .ok x s2 ∧ x ∈ xs ∧ GS s2 := by
  have hp : 0 < xs.length := List.length_pos_iff.mpr h0
  obtain ⟨r, s2, e, r0, r1, g2⟩ := take_run (n := (xs.length : Nat)) g (by omega) (by omega)
  obtain ⟨x, ex, mx⟩ := at_in r0 r1
  refine ⟨x, s2, fn_rt rfl (ret_run (runD_ok ?_)), mx, g2⟩
  show ((mf__law_take [.drw, .int (xs.length : Nat)] s).bind fun y s2 => lift (ixF (.lst xs) y) s2) = _
  rw [e]
  show lift (atI xs r) s2 = _
  rw [ex]
  rfl
theorem pickS_run {s : S} {z : Str} (g : GS s) (h0 : 0 < z.length) (h1 : z.length ≤ 100) : ∃ k s2, mf__law_pick [.drw, .str z] s = .ok (sg k) s2 ∧ k ∈ z.cps.toList ∧ GS s2 := by
  obtain ⟨r, s2, e, r0, r1, g2⟩ := take_run (n := (z.length : Nat)) g (by omega) (by omega)
  have hz : z.length = z.cps.toList.length := rfl
  have hi : r.toNat < z.cps.toList.length := by omega
  refine ⟨z.cps.toList[r.toNat], s2, fn_rt rfl (ret_run (runD_ok ?_)), List.getElem_mem hi, g2⟩
  have el : lenF [D.str z] = some (.int (z.length : Nat)) := if_pos (line100 h1)
  have e2 : (eOf lenF (aCons (eVar 1) aNil)) [some .drw, some (.str z)] s = .ok (.int (z.length : Nat)) s := by
    show lift (lenF [D.str z]) s = _
    rw [el]
    rfl
  have e3 : (eCall mf__law_take (aCons (eVar 0) (aCons (eOf lenF (aCons (eVar 1) aNil)) aNil))) [some .drw, some (.str z)] s = .ok (.int r) s2 := by
    rw [eCall_run, aCons_run]
    show (((aCons (eOf lenF (aCons (eVar 1) aNil)) aNil) [some .drw, some (.str z)] s).bind fun xs s2 => RE.ok (D.drw :: xs) s2).bind (fun ds s1 => mf__law_take ds s1) = _
    rw [aCons_run, e2]
    exact e
  show (eOp ixF (eVar 1) (eCall mf__law_take (aCons (eVar 0) (aCons (eOf lenF (aCons (eVar 1) aNil)) aNil)))) [some .drw, some (.str z)] s = _
  rw [eOp_run]
  show ((eCall mf__law_take (aCons (eVar 0) (aCons (eOf lenF (aCons (eVar 1) aNil)) aNil))) [some .drw, some (.str z)] s).bind (fun y s2 => lift (ixF (.str z) y) s2) = _
  rw [e3]
  show lift (if z.length ≤ sizeLine then (atI z.cps.toList r).map fun c => D.str ⟨#[c]⟩ else none) s2 = _
  rw [if_pos (line100 h1)]
  unfold atI
  rw [ix_in r0 (by omega)]
  show lift ((z.cps.toList[r.toNat]?).map fun c => D.str ⟨#[c]⟩) s2 = _
  rw [List.getElem?_eq_getElem hi]
  rfl

/-! ### words -/
/-- a drawn word -/
def wd (d : D) : Prop := ∃ z, d = .str z ∧ z.length ≤ 9 ∧ z.cps.toList.all (fun c => decide (c < 128)) = true
theorem app_len (a b : Str) : (a ++ b).length = a.length + b.length := by
  show (a.cps ++ b.cps).size = _
  rw [Array.size_append]
  rfl
theorem app_list (a b : Str) : (a ++ b).cps.toList = a.cps.toList ++ b.cps.toList := by
  show (a.cps ++ b.cps).toList = _
  rw [Array.toList_append]
def kinds : List D := [.str "c", .str "d", .str "shown", .str "does", .str "not", .str "choose", .str "false", .str "moves", .str "and", .str "or", .str "e", .str "me"]
theorem wd_kinds : ∀ d ∈ kinds, wd d := by
  intro d hd
  unfold kinds at hd
  simp only [List.mem_cons, List.not_mem_nil, or_false] at hd
  rcases hd with rfl | rfl | rfl | rfl | rfl | rfl | rfl | rfl | rfl | rfl | rfl | rfl <;> exact ⟨_, rfl, by decide +kernel, by decide +kernel⟩
theorem lett_len : lett.length = 26 := by decide +kernel
theorem lett_asc : lett.cps.toList.all (fun c => decide (c < 128)) = true := by decide +kernel

theorem join_sg : ∀ ls : List Nat, (Txt.join (Str.ofString "") (ls.map fun k => (⟨#[k]⟩ : Str))).cps.toList = ls := fun ls => by
  have e : ∀ ls : List Nat, (Str.join (Str.ofString "") (ls.map fun k => (⟨#[k]⟩ : Str))).cps.toList = ls := by
    intro ls
    induction ls with
    | nil => rfl
    | cons a r ih =>
      cases r with
      | nil => rfl
      | cons b r =>
        show ((⟨#[a]⟩ : Str) ++ Str.ofString "" ++ Str.join (Str.ofString "") ((b :: r).map fun k => (⟨#[k]⟩ : Str))).cps.toList = _
        rw [app_list, ih]
        rfl
  show (Builtin.Str.glued (Str.ofString "") _).cps.toList = _
  rw [StrLaws.glued_eq_join]
  exact e ls
theorem strs_sg : ∀ ls : List Nat, strsD (ls.map sg) = some (ls.map fun k => (⟨#[k]⟩ : Str))
  | [] => rfl
  | k :: ls => by
    show (strsD (ls.map sg)).map ((⟨#[k]⟩ : Str) :: ·) = _
    rw [strs_sg ls]
    rfl
theorem sum_sg : ∀ ls : List Nat, ((ls.map fun k => (⟨#[k]⟩ : Str)).map (·.length)).sum = ls.length
  | [] => rfl
  | k :: ls => by
    have h := sum_sg ls
    simp only [List.map_cons, List.sum_cons, List.length_cons] at h ⊢
    rw [h]
    show 1 + ls.length = _
    omega
theorem joinG_sg (ls : List Nat) (h : ls.length ≤ 9) : joinG (Str.ofString "") (ls.map sg) = some (.str (Txt.join (Str.ofString "") (ls.map fun k => (⟨#[k]⟩ : Str)))) := by
  unfold joinG
  rw [strs_sg]
  show (if ((ls.map fun k => (⟨#[k]⟩ : Str)).map (·.length)).sum + (ls.map fun k => (⟨#[k]⟩ : Str)).length * (Str.ofString "").length ≤ 16777216 then some (D.str _) else none) = _
  rw [if_pos]
  rw [sum_sg]
  have e : (Str.ofString "").length = 0 := by decide +kernel
  rw [e]
  omega
/-- drawn signs, one after another, are a list of signs -/
theorem sgs_of : ∀ {xs : List D}, (∀ x ∈ xs, ∃ k, x = sg k ∧ k < 128) → ∃ ls : List Nat, xs = ls.map sg ∧ ls.all (fun c => decide (c < 128)) = true
  | [], _ => ⟨[], rfl, rfl⟩
  | x :: r, h => by
    obtain ⟨k, rfl, hk⟩ := h x List.mem_cons_self
    obtain ⟨ls, rfl, ha⟩ := sgs_of (xs := r) fun y hy => h y (List.mem_cons_of_mem _ hy)
    refine ⟨k :: ls, rfl, ?_⟩
    rw [List.all_cons, ha, decide_eq_true hk]
    rfl
theorem lett_lt {k : Nat} (h : k ∈ lett.cps.toList) : k < 128 := of_decide_eq_true (List.all_eq_true.mp lett_asc k h)
def wEnv (m : Int) (o3 a4 a5 a6 : Option D) : Env := [some .drw, some (.int m), some (.str lett), o3, a4, a5, a6, none, none, none]
def eWord : EM := eJoin (eC (.str "")) (eLc [8] 10 (c1 8) (iOfA rng1F (aCons (eOp addF (eC (.int 1)) (eCall mf__law_take (aCons (eVar 0) (aCons (eC (.int 8)) (aNil))))) (aNil))) (tYesD) (eCall (mf__law_pick) (aCons (eVar 0) (aCons (eVar 2) (aNil)))))
theorem rangeD_len (lo : Int) (n : Nat) : (rangeD lo n).length = n := by
  unfold rangeD
  rw [List.length_map, List.length_range]
theorem word_run {m : Int} {a4 a5 a6 : Option D} {s : S} (g : GS s) : ∃ w s2, eWord (wEnv m none a4 a5 a6) s = .ok w s2 ∧ wd w ∧ GS s2 := by
  obtain ⟨r, s1, e, r0, r1, g1⟩ := take_run (n := 8) g (by decide) (by decide)
  have em : (iOfA rng1F (aCons (eOp addF (eC (.int 1)) (eCall mf__law_take (aCons (eVar 0) (aCons (eC (.int 8)) (aNil))))) (aNil))) (wEnv m none a4 a5 a6) s = .ok (rangeD 0 (1 + r).toNat) s1 := by
    have e1 : (eOp addF (eC (.int 1)) (eCall mf__law_take (aCons (eVar 0) (aCons (eC (.int 8)) (aNil))))) (wEnv m none a4 a5 a6) s = .ok (.int (1 + r)) s1 := by
      show ((mf__law_take [.drw, .int 8] s).bind fun y s2 => lift (addF (.int 1) y) s2) = _
      rw [e]
      rfl
    rw [iOfA_run, aCons_run, e1]
    show lift (if -(2 ^ 62) ≤ 1 + r ∧ 1 + r < 2 ^ 62 then some (rangeD 0 (1 + r).toNat) else none) s1 = _
    rw [if_pos ⟨by omega, by omega⟩]
    rfl
  obtain ⟨xs, s2, e2, hl, hp, g2⟩ := lcL_inv (bnd := c1 8) (mt := tYesD) (me := eCall (mf__law_pick) (aCons (eVar 0) (aCons (eVar 2) (aNil)))) (ρ := wEnv m none a4 a5 a6) (G := GS) (P := fun x => ∃ k, x = sg k ∧ k < 128) (ds := rangeD 0 (1 + r).toNat) g1 fun d _ s g => by
    obtain ⟨k, s2, ek, hk, g2⟩ := pickS_run (z := lett) g (by rw [lett_len]; decide) (by rw [lett_len]; decide)
    exact ⟨_, sg k, s2, rfl, rfl, ek, ⟨k, rfl, lett_lt hk⟩, g2⟩
  rw [rangeD_len] at hl
  obtain ⟨ls, rfl, ha⟩ := sgs_of hp
  rw [List.length_map] at hl
  have l9 : ls.length ≤ 9 := by omega
  have e3 : (eLc [8] 10 (c1 8) (iOfA rng1F (aCons (eOp addF (eC (.int 1)) (eCall mf__law_take (aCons (eVar 0) (aCons (eC (.int 8)) (aNil))))) (aNil))) (tYesD) (eCall (mf__law_pick) (aCons (eVar 0) (aCons (eVar 2) (aNil))))) (wEnv m none a4 a5 a6) s = .ok (.lst (ls.map sg)) s2 := by
    unfold eLc
    rw [if_pos (show (wEnv m none a4 a5 a6).length ≤ 10 from Nat.le_refl 10), em, bind_ok]
    show lcR (lcL (c1 8) tYesD (eCall (mf__law_pick) (aCons (eVar 0) (aCons (eVar 2) (aNil)))) (wEnv m none a4 a5 a6) (rangeD 0 (1 + r).toNat) s1) = _
    rw [e2]
    show (if (ls.map sg).length ≤ sizeLine then RE.ok (D.lst (ls.map sg)) s2 else .bad) = _
    rw [if_pos]
    rw [List.length_map, sizeLine_eq]
    omega
  refine ⟨.str (Txt.join (Str.ofString "") (ls.map fun k => (⟨#[k]⟩ : Str))), s2, ?_, ⟨_, rfl, ?_, ?_⟩, g2⟩
  · unfold eWord eJoin
    rw [eC_run, bind_ok]
    dsimp only
    rw [e3, bind_ok]
    show lift (joinG (Str.ofString "") (ls.map sg)) s2 = _
    rw [joinG_sg ls l9]
    rfl
  · show (Txt.join (Str.ofString "") (ls.map fun k => (⟨#[k]⟩ : Str))).cps.toList.length ≤ 9
    rw [join_sg]
    exact l9
  · rw [join_sg]
    exact ha
end FL.K1
set_option Elab.async false
set_option linter.all false
set_option maxRecDepth 100000
set_option maxHeartbeats 4000000
namespace FL.K1
open PySem PySem.Spec PyProof.Rows L2 FL
/-! ### the list of words -/
theorem addF_lst {xs ys : List D} (h : xs.length + ys.length ≤ sizeLine) : addF (.lst xs) (.lst ys) = some (.lst (xs ++ ys)) := by
  show ((none : Option D).or ((none : Option D).or ((if xs.length + ys.length ≤ sizeLine then some (D.lst (xs ++ ys)) else none).or none))) = _
  rw [if_pos h]
  rfl
theorem addF_str {a b : Str} (h : a.length + b.length ≤ sizeLine) : addF (.str a) (.str b) = some (.str (a ++ b)) := by
  show ((none : Option D).or ((if a.length + b.length ≤ sizeLine then some (D.str (a ++ b)) else none).or ((none : Option D).or none))) = _
  rw [if_pos h]
  rfl
theorem addF_tup {xs ys : List D} (h : xs.length + ys.length ≤ sizeLine) : addF (.tup xs) (.tup ys) = some (.tup (xs ++ ys)) := by
  show ((none : Option D).or ((none : Option D).or ((none : Option D).or (if xs.length + ys.length ≤ sizeLine then some (D.tup (xs ++ ys)) else none)))) = _
  rw [if_pos h]
  rfl
def eKinds : EM := eOf lstF1 (aCons (eC (.str "c")) (aCons (eC (.str "d")) (aCons (eC (.str "shown")) (aCons (eC (.str "does")) (aCons (eC (.str "not")) (aCons (eC (.str "choose")) (aCons (eC (.str "false")) (aCons (eC (.str "moves")) (aCons (eC (.str "and")) (aCons (eC (.str "or")) (aCons (eC (.str "e")) (aCons (eC (.str "me")) (aNil)))))))))))))
def ePick : EM := eCall (mf__law_pick) (aCons (eVar 0) (aCons eKinds (aNil)))
def tTake3 : TM := mBl (eOp eqG (eCall (mf__law_take) (aCons (eVar 0) (aCons (eC (.int 3)) (aNil)))) (eC (.int 0)))
def eSome : EM := eOp addF (eOf lstF1 (aCons (eVar 5) (aNil))) (eLc [7] 10 (c1 7) (iOf itemsF (eVar 2)) (tYesD) (eOp addF (eSl slF (eVar 5) (oNone) (oSome (eC (.int 7)))) (eVar 7)))
def eFirst : EM := eOp ixF (eLc [9] 10 (c1 9) (iOf itemsF (eVar 6)) (mBl (eOp (inG true) (eVar 9) (eVar 3))) (eVar 9)) (eC (.int 0))
def wBody : SM := sSeq (sSet 5 ePick) (sSeq (sIf tTake3 (sSet 5 eWord) sNext) (sSeq (sSet 6 eSome) (sApp 3 eFirst)))
theorem words_form : m__law_words = sSeq (sParO 2 3 (eC (.str lett))) (sSeq (sFor (b1 4) (iOfA rng1F (aCons (eVar 1) (aNil))) wBody) (fun ρ s => (sRet (eVar 3)) (frz 3 ρ) s)) := rfl
def wS (m : Int) (found : List D) (a4 a5 a6 : Option Sl) : Sls := [some (.dat .drw), some (.dat (.int m)), some (.dat (.str lett)), some (.own found), a4, a5, a6, none, none, none]
/-- the first seven signs and one more -/
def cut7 (w : Str) (k : Nat) : Str := cutS w none (some 7) ++ ⟨#[k]⟩
theorem cut7_len (w : Str) : (cutS w none (some 7)).length ≤ 7 := by
  show (((w.cps.toList.drop 0).take (HT.sIx w.length w.length (some ((7 : Nat) : Int)) - 0)).toArray).size ≤ 7
  rw [List.size_toArray, List.length_take, HT.sIx_nat]
  omega
theorem cut7_asc {w : Str} (h : w.cps.toList.all (fun c => decide (c < 128)) = true) : (cutS w none (some 7)).cps.toList.all (fun c => decide (c < 128)) = true := by
  show (((w.cps.toList.drop 0).take (HT.sIx w.length w.length (some ((7 : Nat) : Int)) - 0)).toArray).toList.all _ = true
  rw [List.toList_toArray, List.all_eq_true] at *
  exact fun x hx => h x (List.mem_of_mem_drop (List.mem_of_mem_take hx))
theorem wd_cut {w : Str} {k : Nat} (h : w.cps.toList.all (fun c => decide (c < 128)) = true) (hk : k < 128) : wd (.str (cut7 w k)) := by
  refine ⟨_, rfl, ?_, ?_⟩
  · unfold cut7
    rw [app_len]
    have h1 := cut7_len w
    have h2 : (⟨#[k]⟩ : Str).length = 1 := rfl
    omega
  · unfold cut7
    rw [app_list, List.all_append, cut7_asc h]
    show (List.all [k] fun c => decide (c < 128)) = true
    simpa using hk
def manyW (w : Str) : List D := .str w :: lett.cps.toList.map fun k => .str (cut7 w k)
theorem some_run {w : Str} {m : Int} {a4 a6 : Option D} {s : S} (hw : w.length ≤ 9) : eSome [some .drw, some (.int m), some (.str lett), none, a4, some (.str w), a6, none, none, none] s = .ok (.lst (manyW w)) s := by
  have ec : ∀ k, (eOp addF (eSl slF (eVar 5) (oNone) (oSome (eC (.int 7)))) (eVar 7)) [some .drw, some (.int m), some (.str lett), none, a4, some (.str w), a6, some (sg k), none, none] s = .ok (.str (cut7 w k)) s := fun k => by
    have e1 : (eSl slF (eVar 5) (oNone) (oSome (eC (.int 7)))) [some .drw, some (.int m), some (.str lett), none, a4, some (.str w), a6, some (sg k), none, none] s = .ok (.str (cutS w none (some 7))) s := by
      show lift (if w.length ≤ sizeLine then some (D.str (cutS w none (some 7))) else none) s = _
      rw [if_pos (line100 (by omega))]
      rfl
    rw [eOp_run, e1]
    show lift (addF (.str (cutS w none (some 7))) (.str ⟨#[k]⟩)) s = _
    have e2 : addF (.str (cutS w none (some 7))) (.str ⟨#[k]⟩) = some (.str (cut7 w k)) := addF_str (by
      have h1 := cut7_len w
      have h2 : (⟨#[k]⟩ : Str).length = 1 := rfl
      rw [sizeLine_eq]
      omega)
    rw [e2]
    rfl
  have el : lcL (c1 7) tYesD (eOp addF (eSl slF (eVar 5) (oNone) (oSome (eC (.int 7)))) (eVar 7)) [some .drw, some (.int m), some (.str lett), none, a4, some (.str w), a6, none, none, none] (lett.cps.toList.map sg) s = .ok ((lett.cps.toList.map sg).map fun d => match d with | .str z => (match z.cps.toList with | [k] => .str (cut7 w k) | _ => d) | d => d) s := lcL_map fun d hd => by
    obtain ⟨k, _, rfl⟩ := List.mem_map.mp hd
    exact ⟨_, rfl, rfl, ec k⟩
  have e2 : (eLc [7] 10 (c1 7) (iOf itemsF (eVar 2)) (tYesD) (eOp addF (eSl slF (eVar 5) (oNone) (oSome (eC (.int 7)))) (eVar 7))) [some .drw, some (.int m), some (.str lett), none, a4, some (.str w), a6, none, none, none] s = .ok (.lst (lett.cps.toList.map fun k => D.str (cut7 w k))) s := by
    show lcR (lcL (c1 7) tYesD (eOp addF (eSl slF (eVar 5) (oNone) (oSome (eC (.int 7)))) (eVar 7)) [some .drw, some (.int m), some (.str lett), none, a4, some (.str w), a6, none, none, none] (lett.cps.toList.map sg) s) = _
    have hm : ((lett.cps.toList.map sg).map fun d => match d with | .str z => (match z.cps.toList with | [k] => D.str (cut7 w k) | _ => d) | d => d) = lett.cps.toList.map fun k => D.str (cut7 w k) := by
      rw [List.map_map]
      rfl
    rw [el, hm]
    show (if (lett.cps.toList.map fun k => D.str (cut7 w k)).length ≤ sizeLine then RE.ok (D.lst (lett.cps.toList.map fun k => D.str (cut7 w k))) s else .bad) = _
    rw [if_pos (by rw [List.length_map]; show lett.length ≤ sizeLine; rw [lett_len, sizeLine_eq]; decide)]
  unfold eSome
  rw [eOp_run]
  show ((eLc [7] 10 (c1 7) (iOf itemsF (eVar 2)) (tYesD) (eOp addF (eSl slF (eVar 5) (oNone) (oSome (eC (.int 7)))) (eVar 7))) [some .drw, some (.int m), some (.str lett), none, a4, some (.str w), a6, none, none, none] s).bind (fun y s2 => lift (addF (.lst [.str w]) y) s2) = _
  rw [e2, bind_ok]
  have e3 : addF (.lst [.str w]) (.lst (lett.cps.toList.map fun k => D.str (cut7 w k))) = some (.lst (manyW w)) := addF_lst (by
    rw [List.length_map]
    show 1 + lett.length ≤ sizeLine
    rw [lett_len, sizeLine_eq]
    decide)
  rw [e3]
  rfl
theorem many_wd {w : Str} (h : w.length ≤ 9) (ha : w.cps.toList.all (fun c => decide (c < 128)) = true) : ∀ d ∈ manyW w, wd d := by
  intro d hd
  rcases List.mem_cons.mp hd with rfl | hd
  · exact ⟨w, rfl, h, ha⟩
  · obtain ⟨k, hk, rfl⟩ := List.mem_map.mp hd
    exact wd_cut ha (lett_lt hk)
theorem wd_flat {d : D} (h : wd d) : flatD d = true := by
  obtain ⟨z, rfl, _⟩ := h
  rfl
theorem app_inj {a : Str} {k l : Nat} (h : a ++ (⟨#[k]⟩ : Str) = a ++ (⟨#[l]⟩ : Str)) : k = l := by
  have e : (a ++ (⟨#[k]⟩ : Str)).cps.toList = (a ++ (⟨#[l]⟩ : Str)).cps.toList := by rw [h]
  rw [app_list, app_list] at e
  have e2 := List.append_cancel_left e
  have e3 : [k] = [l] := e2
  cases e3
  rfl
/-- of three unlike ones one stands not among two -/
theorem not_all {found : List D} (hf : found.length ≤ 2) {a b c : Str} (h1 : a ≠ b) (h2 : a ≠ c) (h3 : b ≠ c) : inS (.str a) found = false ∨ inS (.str b) found = false ∨ inS (.str c) found = false := by
  have key : ∀ (x : D) (u v : Str), eqS x (.str u) = true → eqS x (.str v) = true → u = v := fun x u v e1 e2 => by
    cases x with
    | str z =>
      have f1 : (z == u) = true := e1
      have f2 : (z == v) = true := e2
      rw [← beq_iff_eq.mp f1, ← beq_iff_eq.mp f2]
    | _ => cases e1
  have two : ∀ (x : D), (eqS x (.str a) = false ∧ eqS x (.str b) = false) ∨ (eqS x (.str a) = false ∧ eqS x (.str c) = false) ∨ (eqS x (.str b) = false ∧ eqS x (.str c) = false) := fun x => by
    cases ea : eqS x (.str a) with
    | true =>
      refine .inr (.inr ⟨?_, ?_⟩)
      · cases eb : eqS x (.str b) with
        | true => exact absurd (key x a b ea eb) h1
        | false => rfl
      · cases ec : eqS x (.str c) with
        | true => exact absurd (key x a c ea ec) h2
        | false => rfl
    | false =>
      cases eb : eqS x (.str b) with
      | true =>
        refine .inr (.inl ⟨rfl, ?_⟩)
        cases ec : eqS x (.str c) with
        | true => exact absurd (key x b c eb ec) h3
        | false => rfl
      | false => exact .inl ⟨rfl, rfl⟩
  unfold inS
  match found, hf with
  | [], _ => exact .inl rfl
  | [x], _ =>
    simp only [List.any_cons, List.any_nil, Bool.or_false]
    rcases two x with h | h | h
    · exact .inl h.1
    · exact .inl h.1
    · exact .inr (.inl h.1)
  | [x, y], _ =>
    simp only [List.any_cons, List.any_nil, Bool.or_false, Bool.or_eq_false_iff]
    rcases two x with h | h | h <;> rcases two y with h2 | h2 | h2
    · exact .inl ⟨h.1, h2.1⟩
    · exact .inl ⟨h.1, h2.1⟩
    · exact .inr (.inl ⟨h.2, h2.1⟩)
    · exact .inl ⟨h.1, h2.1⟩
    · exact .inl ⟨h.1, h2.1⟩
    · exact .inr (.inr ⟨h.2, h2.2⟩)
    · exact .inr (.inl ⟨h.1, h2.2⟩)
    · exact .inr (.inr ⟨h.2, h2.2⟩)
    · exact .inr (.inl ⟨h.1, h2.1⟩)

theorem in_strs {x : D} {ys : List D} (hx : flatD x = true) (hy : ∀ y ∈ ys, flatD y = true) : inG true x (.lst ys) = some (.bl (!inS x ys)) := by
  have e : inF true x (.lst ys) = some (.bl (!inS x ys)) := if_pos ⟨hx, List.all_eq_true.mpr hy⟩
  show (orF (inF true) (signF true)) _ _ = _
  unfold orF
  rw [e]
  rfl
def lcF : EM := eLc [9] 10 (c1 9) (iOf itemsF (eVar 6)) (mBl (eOp (inG true) (eVar 9) (eVar 3))) (eVar 9)
theorem first_eq (ρ : Env) (s : S) : eFirst ρ s = (lcF ρ s).bind fun x s1 => lift (ixF x (.int 0)) s1 := rfl
theorem first_run {w : Str} {found : List D} {m : Int} {a4 a5 : Option D} {s : S} (hf : ∀ d ∈ found, wd d) (hl : found.length ≤ 2) (hw : w.length ≤ 9) (ha : w.cps.toList.all (fun c => decide (c < 128)) = true) :
    eFirst [some .drw, some (.int m), some (.str lett), none, a4, a5, some (.lst (manyW w)), none, none, none] s = .bad ∧
    ∃ d, wd d ∧ eFirst [some .drw, some (.int m), some (.str lett), some (.lst found), a4, a5, some (.lst (manyW w)), none, none, none] s = .ok d s := by
  refine ⟨?_, ?_⟩
  · have e : lcF [some .drw, some (.int m), some (.str lett), none, a4, a5, some (.lst (manyW w)), none, none, none] s = .bad := rfl
    rw [first_eq, e]
    rfl
  · have e1 : lcL (c1 9) (mBl (eOp (inG true) (eVar 9) (eVar 3))) (eVar 9) [some .drw, some (.int m), some (.str lett), some (.lst found), a4, a5, some (.lst (manyW w)), none, none, none] (manyW w) s = .ok (((manyW w).filter fun d => !inS d found).map id) s := lcL_filter fun d hd => by
      refine ⟨[some .drw, some (.int m), some (.str lett), some (.lst found), a4, a5, some (.lst (manyW w)), none, none, some d], rfl, ?_, fun _ => rfl⟩
      show ((lift (inG true d (.lst found)) s).bind fun d s1 => match d with | .bl b => RE.ok b s1 | _ => .bad) = _
      rw [in_strs (wd_flat (many_wd hw ha d hd)) fun y hy => wd_flat (hf y hy)]
      rfl
    rw [List.map_id] at e1
    have hlen : ((manyW w).filter fun d => !inS d found).length ≤ sizeLine := by
      refine Nat.le_trans (List.length_filter_le _ _) ?_
      show (lett.cps.toList.map fun k => D.str (cut7 w k)).length + 1 ≤ sizeLine
      rw [List.length_map]
      show lett.length + 1 ≤ sizeLine
      rw [lett_len, sizeLine_eq]
      decide
    have e2 : lcF [some .drw, some (.int m), some (.str lett), some (.lst found), a4, a5, some (.lst (manyW w)), none, none, none] s = .ok (.lst ((manyW w).filter fun d => !inS d found)) s := by
      show lcR (lcL (c1 9) (mBl (eOp (inG true) (eVar 9) (eVar 3))) (eVar 9) [some .drw, some (.int m), some (.str lett), some (.lst found), a4, a5, some (.lst (manyW w)), none, none, none] (manyW w) s) = _
      rw [e1]
      exact if_pos hlen
    have ka : 97 ∈ lett.cps.toList := by decide +kernel
    have kb : 98 ∈ lett.cps.toList := by decide +kernel
    have kc : 99 ∈ lett.cps.toList := by decide +kernel
    have mem : ∀ {k : Nat}, k ∈ lett.cps.toList → D.str (cut7 w k) ∈ manyW w := fun {k} hk => List.mem_cons_of_mem _ (List.mem_map.mpr ⟨k, hk, rfl⟩)
    have ne : ∀ {k l : Nat}, k ≠ l → cut7 w k ≠ cut7 w l := fun {k l} h z => h (app_inj z)
    have some_in : ∃ d, d ∈ (manyW w).filter fun d => !inS d found := by
      rcases not_all hl (ne (show 97 ≠ 98 by decide)) (ne (show 97 ≠ 99 by decide)) (ne (show 98 ≠ 99 by decide)) with h | h | h
      · exact ⟨_, List.mem_filter.mpr ⟨mem ka, by rw [h]; rfl⟩⟩
      · exact ⟨_, List.mem_filter.mpr ⟨mem kb, by rw [h]; rfl⟩⟩
      · exact ⟨_, List.mem_filter.mpr ⟨mem kc, by rw [h]; rfl⟩⟩
    cases hfl : (manyW w).filter fun d => !inS d found with
    | nil =>
      rw [hfl] at some_in
      obtain ⟨d, hd⟩ := some_in
      exact absurd hd List.not_mem_nil
    | cons d r =>
      refine ⟨d, many_wd hw ha d (List.mem_filter.mp (by rw [hfl]; exact List.mem_cons_self)).1, ?_⟩
      show (lcF [some .drw, some (.int m), some (.str lett), some (.lst found), a4, a5, some (.lst (manyW w)), none, none, none] s).bind (fun x s1 => lift (ixF x (.int 0)) s1) = _
      rw [e2, hfl]
      show lift (ixF (.lst (d :: r)) (.int 0)) s = _
      have e : ixF (.lst (d :: r)) (.int 0) = some d := at0 d r
      rw [e]
      rfl
theorem ePick_run {m : Int} {a4 a5 a6 : Option D} {s : S} (g : GS s) : ∃ d s2, ePick (wEnv m none a4 a5 a6) s = .ok d s2 ∧ wd d ∧ GS s2 := by
  obtain ⟨d, s2, e, hm, g2⟩ := pick_run (xs := kinds) g (by unfold kinds; simp) (by unfold kinds; decide)
  refine ⟨d, s2, ?_, wd_kinds d hm, g2⟩
  have e0 : eKinds (wEnv m none a4 a5 a6) s = .ok (.lst kinds) s := by
    show lift (lstF1 kinds) s = _
    have e2 : lstF1 kinds = some (.lst kinds) := if_pos (by unfold kinds; rw [sizeLine_eq]; decide)
    rw [e2]
    rfl
  show (((eKinds (wEnv m none a4 a5 a6) s).bind fun x s1 => RE.ok [x] s1).bind fun xs s2 => RE.ok (D.drw :: xs) s2).bind (fun ds s1 => mf__law_pick ds s1) = _
  rw [e0]
  exact e
theorem wBody_run {m : Int} {found : List D} {a4 : D} {a5 a6 : Option Sl} {s : S} (g : GS s) (h5 : ∀ xs, a5 ≠ some (.own xs)) (h6 : ∀ xs, a6 ≠ some (.own xs)) (hf : ∀ d ∈ found, wd d) (hl : found.length ≤ 2) : ∃ d b5 b6 s2, wBody (wS m found (some (.dat a4)) a5 a6) s = .nx (wS m (found ++ [d]) (some (.dat a4)) (some (.dat b5)) (some (.dat b6))) s2 ∧ wd d ∧ GS s2 := by
  have env : ∀ f5 f6 : Option Sl, dats (wS m found (some (.dat a4)) f5 f6) = wEnv m none (some a4) (datOf f5) (datOf f6) := fun f5 f6 => rfl
  obtain ⟨w1, s1, e1, hw1, g1⟩ := ePick_run (m := m) (a4 := some a4) (a5 := datOf a5) (a6 := datOf a6) g
  obtain ⟨r, s2, e2, r0, r1, g2⟩ := take_run (n := 3) g1 (by decide) (by decide)
  have t2 : ∀ f5, runT tTake3 (wS m found (some (.dat a4)) f5 a6) s1 = .ok (decide (r = 0)) s2 := fun f5 => runT_ok (by
    rw [env]
    show (((mf__law_take [.drw, .int 3] s1).bind fun x s1 => lift (eqG x (.int 0)) s1).bind fun d s1 => match d with | .bl b => RE.ok b s1 | _ => .bad) = _
    rw [e2]
    rfl)
  have step2 : ∃ w2 s3, sIf tTake3 (sSet 5 eWord) sNext (wS m found (some (.dat a4)) (some (.dat w1)) a6) s1 = .nx (wS m found (some (.dat a4)) (some (.dat w2)) a6) s3 ∧ wd w2 ∧ GS s3 := by
    by_cases hr : r = 0
    · obtain ⟨w2, s3, e3, hw2, g3⟩ := word_run (m := m) (a4 := some a4) (a5 := some w1) (a6 := datOf a6) g2
      refine ⟨w2, s3, ?_, hw2, g3⟩
      rw [if_yes (by rw [t2, decide_eq_true hr]), set_run (runD_ok (by rw [env]; exact e3))]
      rfl
    · exact ⟨w1, s2, by rw [if_nx (by rw [t2, decide_eq_false hr])], hw1, g2⟩
  obtain ⟨w2, s3, e3, ⟨z, rfl, hz1, hz2⟩, g3⟩ := step2
  have e4 := some_run (w := z) (m := m) (a4 := some a4) (a6 := datOf a6) (s := s3) hz1
  obtain ⟨f1, d, hd, f2⟩ := first_run (w := z) (found := found) (m := m) (a4 := some a4) (a5 := some (.str z)) (s := s3) hf hl hz1 hz2
  refine ⟨d, .str z, .lst (manyW z), s3, ?_, hd, g3⟩
  unfold wBody
  rw [seq_nx (set_run (runD_ok (by rw [env]; exact e1)))]
  show sSeq (sIf tTake3 (sSet 5 eWord) sNext) _ (wS m found (some (.dat a4)) (some (.dat w1)) a6) s1 = _
  rw [seq_nx e3, seq_nx (set_run (runD_ok (by rw [env]; exact e4)))]
  show sApp 3 eFirst (wS m found (some (.dat a4)) (some (.dat (.str z))) (some (.dat (.lst (manyW z))))) s3 = _
  have ev : runD eFirst (wS m found (some (.dat a4)) (some (.dat (.str z))) (some (.dat (.lst (manyW z))))) s3 = .ok d s3 := runD_vis f1 f2 (wd_flat hd)
  unfold sApp
  show after (runD eFirst (wS m found (some (.dat a4)) (some (.dat (.str z))) (some (.dat (.lst (manyW z))))) s3) _ _ = _
  rw [ev]
  show (if found.length < sizeLine then RS.nx _ s3 else .bad) = _
  rw [if_pos (by rw [sizeLine_eq]; omega)]
  rfl
theorem wLoop {m : Int} : ∀ (is found : List D) (a4 a5 a6 : Option Sl) (s : S), GS s → (∀ xs, a5 ≠ some (.own xs)) → (∀ xs, a6 ≠ some (.own xs)) → (∀ d ∈ found, wd d) → found.length + is.length ≤ 3 →
    ∃ ws b4 b5 b6 s2, forL (b1 4) wBody is (wS m found a4 a5 a6) s = .nx (wS m ws b4 b5 b6) s2 ∧ ws.length = found.length + is.length ∧ (∀ d ∈ ws, wd d) ∧ GS s2 := by
  intro is
  induction is with
  | nil =>
    intro found a4 a5 a6 s g _ _ hf _
    exact ⟨found, a4, a5, a6, s, rfl, rfl, hf, g⟩
  | cons i is ih =>
    intro found a4 a5 a6 s g h5 h6 hf hz
    rw [List.length_cons] at hz
    obtain ⟨d, b5, b6, s2, e, hd, g2⟩ := wBody_run (m := m) (a4 := i) (a5 := a5) (a6 := a6) g h5 h6 hf (by omega)
    have hf2 : ∀ x ∈ found ++ [d], wd x := fun x hx => by
      rcases List.mem_append.mp hx with hx | hx
      · exact hf x hx
      · cases List.mem_singleton.mp hx; exact hd
    have hl2 : (found ++ [d]).length = found.length + 1 := by rw [List.length_append, List.length_singleton]
    obtain ⟨ws, c4, c5, c6, s3, e3, l3, w3, g3⟩ := ih (found ++ [d]) (some (.dat i)) (some (.dat b5)) (some (.dat b6)) s2 g2 (fun _ z => by cases z) (fun _ z => by cases z) hf2 (by omega)
    refine ⟨ws, c4, c5, c6, s3, ?_, by rw [l3, hl2, List.length_cons]; omega, w3, g3⟩
    unfold forL
    show (match wBody (wS m found (some (.dat i)) a5 a6) s with
      | .nx ρ2 s2 => forL (b1 4) wBody is ρ2 s2
      | .ct ρ2 s2 => forL (b1 4) wBody is ρ2 s2
      | .bk ρ2 s2 => RS.nx ρ2 s2
      | .rt d s2 => .rt d s2
      | .ex C fs ρ2 s2 => .ex C fs ρ2 s2
      | .bad => .bad) = _
    rw [e]
    exact e3
theorem rng1_run {j : Int} (h1 : -(2 ^ 62) ≤ j) (h2 : j < 2 ^ 62) : rng1F [.int j] = some (rangeD 0 j.toNat) := if_pos ⟨h1, h2⟩
theorem rng2_run {i j : Int} (h1 : -(2 ^ 62) ≤ i) (h2 : i < 2 ^ 62) (h3 : -(2 ^ 62) ≤ j) (h4 : j < 2 ^ 62) : rng2F [.int i, .int j] = some (rangeD i (j - i).toNat) := if_pos ⟨h1, h2, h3, h4⟩
theorem words_run {m : Nat} {s : S} (g : GS s) (hm : m ≤ 3) : ∃ ws s2, mf__law_words [.drw, .int (m : Nat)] s = .ok (.lst ws) s2 ∧ ws.length = m ∧ (∀ d ∈ ws, wd d) ∧ GS s2 := by
  obtain ⟨ws, b4, b5, b6, s2, e, hl, hw, g2⟩ := wLoop (m := (m : Nat)) (rangeD 0 m) [] none none none s g (fun _ z => by cases z) (fun _ z => by cases z) (fun _ h => nomatch h) (by rw [rangeD_len, List.length_nil]; omega)
  refine ⟨ws, s2, fn_rt rfl ?_, by rw [hl, rangeD_len]; simp, hw, g2⟩
  show m__law_words [some (.dat .drw), some (.dat (.int (m : Nat))), none, none, none, none, none, none, none, none] s = _
  have e0 : sParO 2 3 (eC (.str lett)) [some (.dat .drw), some (.dat (.int (m : Nat))), none, none, none, none, none, none, none, none] s = .nx (wS (m : Nat) [] none none none) s := rfl
  have e1 : runA (iOfA rng1F (aCons (eVar 1) (aNil))) (wS (m : Nat) [] none none none) s = .ok (rangeD 0 m) s := by
    have e3 : rng1F [D.int (m : Nat)] = some (rangeD 0 m) := rng1_run (by omega) (by omega)
    have e4 : (aCons (eVar 1) aNil) (dats (wS (m : Nat) [] none none none)) s = .ok [.int (m : Nat)] s := rfl
    unfold runA
    rw [iOfA_run, e4, bind_ok, e3, lift_some]
  have e2 : sFor (b1 4) (iOfA rng1F (aCons (eVar 1) (aNil))) wBody (wS (m : Nat) [] none none none) s = .nx (wS (m : Nat) ws b4 b5 b6) s2 := by
    unfold sFor
    rw [e1]
    exact e
  rw [words_form, seq_nx e0, seq_nx e2]
  rfl
end FL.K1
set_option Elab.async false
set_option linter.all false
set_option maxRecDepth 100000
set_option maxHeartbeats 4000000
namespace FL.K1
open PySem PySem.Spec PyProof.Rows L2 FL
/-! ### things that have a short text -/
def pz (W k : Nat) (d : D) : Prop := ∃ p, toR d = some p ∧ p.leavesShort 40 = true ∧ p.showable = true ∧ p.weight ≤ W ∧ p.depth ≤ k
def pzs (W k : Nat) (xs : List D) : Prop := ∃ ps, toRs xs = some ps ∧ PyData.leavesShortAll 40 ps = true ∧ PyData.showableAll ps = true ∧ PyData.weightAll ps ≤ xs.length * (W + 1) ∧ PyData.depthAll ps ≤ k
theorem pz_mono {W W2 k k2 : Nat} {d : D} (h : pz W k d) (h1 : W ≤ W2) (h2 : k ≤ k2) : pz W2 k2 d := by
  obtain ⟨p, e, a, b, c, q⟩ := h
  exact ⟨p, e, a, b, Nat.le_trans c h1, Nat.le_trans q h2⟩
theorem pzs_of {W k : Nat} : ∀ {xs : List D}, (∀ x ∈ xs, pz W k x) → pzs W k xs
  | [], _ => ⟨[], rfl, rfl, rfl, Nat.zero_le _, Nat.zero_le _⟩
  | x :: r, h => by
    obtain ⟨p, e, a, b, c, q⟩ := h x List.mem_cons_self
    obtain ⟨ps, e2, a2, b2, c2, q2⟩ := pzs_of (xs := r) fun y hy => h y (List.mem_cons_of_mem _ hy)
    refine ⟨p :: ps, ?_, ?_, ?_, ?_, ?_⟩
    · show (match toR x, toRs r with | some p, some ps => some (p :: ps) | _, _ => none) = _
      rw [e, e2]
    · unfold PyData.leavesShortAll
      rw [a, a2]
      rfl
    · unfold PyData.showableAll
      rw [b, b2]
      rfl
    · unfold PyData.weightAll
      rw [List.length_cons, Nat.succ_mul]
      omega
    · unfold PyData.depthAll
      exact Nat.max_le.mpr ⟨q, q2⟩
theorem pz_tup {W k n : Nat} {xs : List D} (h : ∀ x ∈ xs, pz W k x) (hn : xs.length ≤ n) : pz (n * (W + 1)) (k + 1) (.tup xs) := by
  obtain ⟨ps, e, a, b, c, q⟩ := pzs_of h
  refine ⟨.tuple ps, ?_, ?_, ?_, ?_, ?_⟩
  · show (toRs xs).map PyData.tuple = _
    rw [e]
    rfl
  · unfold PyData.leavesShort; exact a
  · unfold PyData.showable; exact b
  · unfold PyData.weight; exact Nat.le_trans c (Nat.mul_le_mul_right _ hn)
  · unfold PyData.depth; omega
theorem pz_lst {W k n : Nat} {xs : List D} (h : ∀ x ∈ xs, pz W k x) (hn : xs.length ≤ n) : pz (n * (W + 1)) (k + 1) (.lst xs) := by
  obtain ⟨ps, e, a, b, c, q⟩ := pzs_of h
  refine ⟨.list ps, ?_, ?_, ?_, ?_, ?_⟩
  · show (toRs xs).map PyData.list = _
    rw [e]
    rfl
  · unfold PyData.leavesShort; exact a
  · unfold PyData.showable; exact b
  · unfold PyData.weight; exact Nat.le_trans c (Nat.mul_le_mul_right _ hn)
  · unfold PyData.depth; omega
theorem int_log {i : Int} (h : i.natAbs < 1000000000000) : i.natAbs.log2 < 41 := by
  by_cases h0 : i.natAbs = 0
  · rw [h0]; decide
  · exact (Nat.log2_lt h0).mpr (Nat.lt_of_lt_of_le h (by decide))
theorem pz_int {i : Int} (h : i.natAbs < 1000000000000) : pz 100 0 (.int i) := by
  refine ⟨.int i, rfl, ?_, ?_, ?_, Nat.le_refl _⟩
  · unfold PyData.leavesShort
    have := PyData.shown_int_le (i := i) (by have e : (10 : Nat) ^ 12 = 1000000000000 := by decide
                                             omega)
    exact decide_eq_true (by omega)
  · unfold PyData.showable
    have := int_log h
    exact decide_eq_true (by omega)
  · unfold PyData.weight
    have := int_log h
    split <;> omega
theorem pz_str {z : Str} (h : z.length ≤ 100) (ha : z.cps.toList.all (fun c => decide (c < 128)) = true) : pz 100 0 (.str z) := by
  refine ⟨.str z, rfl, ?_, rfl, h, Nat.le_refl _⟩
  unfold PyData.leavesShort
  rw [List.all_eq_true] at ha ⊢
  intro c hc
  have h1 : c < 128 := of_decide_eq_true (ha c hc)
  have e : (16 : Nat) ^ 8 = 4294967296 := by decide
  exact decide_eq_true (by omega)
theorem pz_non : pz 100 0 .non := ⟨_, rfl, rfl, rfl, Nat.zero_le _, Nat.le_refl _⟩
theorem pz_bl (b : Bool) : pz 100 0 (.bl b) := ⟨_, rfl, rfl, rfl, Nat.zero_le _, Nat.le_refl _⟩
theorem pz_dic : pz 100 1 (.dic []) := ⟨_, rfl, rfl, rfl, Nat.zero_le _, by decide⟩
/-! ### things that stand in rows, and rows -/
def el2 (x : D) : Prop := el x ∧ pz 210 2 x ∧ ∀ xs, x = .tup xs → ∀ y ∈ xs, el y
def con (d : D) (xs : List D) : Prop := d = .tup xs ∨ d = .lst xs
def Row (n : Nat) (d : D) : Prop := (el2 d ∧ ∀ xs, ¬ con d xs) ∨ ∃ xs, con d xs ∧ xs.length ≤ n ∧ ∀ x ∈ xs, el2 x
theorem Row.ro {n : Nat} {d : D} (h : Row n d) : ro d := by
  rcases h with ⟨⟨h1, _, h3⟩, _⟩ | ⟨xs, hc, _, h⟩
  · exact ⟨h1.1, h3⟩
  · rcases hc with rfl | rfl
    · refine ⟨rfl, fun ys e x hx => ?_⟩
      cases e
      exact (h x hx).1
    · exact ⟨rfl, fun ys e => by cases e⟩
theorem Row.mono {n m : Nat} {d : D} (h : Row n d) (hm : n ≤ m) : Row m d := by
  rcases h with h | ⟨xs, hc, hl, h⟩
  · exact .inl h
  · exact .inr ⟨xs, hc, Nat.le_trans hl hm, h⟩
theorem Row.pz {d : D} (h : Row 8 d) : pz 2000 3 d := by
  rcases h with ⟨⟨_, h2, _⟩, _⟩ | ⟨xs, hc, hl, h⟩
  · exact pz_mono h2 (by decide) (by decide)
  · rcases hc with rfl | rfl
    · exact pz_mono (pz_tup (fun x hx => (h x hx).2.1) hl) (by decide) (by decide)
    · exact pz_mono (pz_lst (fun x hx => (h x hx).2.1) hl) (by decide) (by decide)
theorem el2_int {i : Int} (h : i.natAbs < 1000000000000) : el2 (.int i) := ⟨⟨rfl, fun z e => by cases e⟩, pz_mono (pz_int h) (by decide) (by decide), fun _ e => by cases e⟩
theorem el2_str {z : Str} (h : z.length ≤ 100) (ha : z.cps.toList.all (fun c => decide (c < 128)) = true) : el2 (.str z) := ⟨⟨rfl, fun z2 e => by cases e; exact ⟨h, ha⟩⟩, pz_mono (pz_str h ha) (by decide) (by decide), fun _ e => by cases e⟩
theorem el2_non : el2 .non := ⟨⟨rfl, fun z e => by cases e⟩, pz_mono pz_non (by decide) (by decide), fun _ e => by cases e⟩
theorem el2_bl (b : Bool) : el2 (.bl b) := ⟨⟨rfl, fun z e => by cases e⟩, pz_mono (pz_bl b) (by decide) (by decide), fun _ e => by cases e⟩
theorem el2_dic : el2 (.dic []) := ⟨⟨rfl, fun z e => by cases e⟩, pz_mono pz_dic (by decide) (by decide), fun _ e => by cases e⟩
theorem el2_wd {d : D} (h : wd d) : el2 d := by
  obtain ⟨z, rfl, h1, h2⟩ := h
  exact el2_str (by omega) h2
/-- a list of rows has a text -/
theorem repr_run {xs : List D} (h : ∀ x ∈ xs, Row 8 x) (hn : xs.length ≤ 40) : ∃ z, reprF [.lst xs] = some (.str z) := by
  obtain ⟨p, e, a, b, c, q⟩ := pz_lst (W := 2000) (k := 3) (n := 40) (fun x hx => (h x hx).pz) hn
  have hz : p.shown.length ≤ sizeLine := by
    have := PyData.shown_le 40 (by decide) p a
    rw [sizeLine_eq]
    omega
  refine ⟨p.shown, ?_⟩
  have f : reprF [.lst xs] = (match toR (.lst xs) with
    | some p => if (tyOf (.lst xs) = some "list" ∨ tyOf (.lst xs) = some "tuple") ∧ p.showable = true ∧ p.shown.length ≤ sizeLine ∧ p.depth ≤ 40 then some (D.str p.shown) else none
    | none => none) := rfl
  rw [f, e]
  exact if_pos ⟨.inl rfl, b, hz, by omega⟩
end FL.K1
set_option Elab.async false
set_option linter.all false
set_option maxRecDepth 100000
set_option maxHeartbeats 4000000
namespace FL.K1
open PySem PySem.Spec PyProof.Rows L2 FL
/-! ### drawn rows -/
def lPar : AM := aCons (eCall (mf__law_take) (aCons (eVar 0) (aCons (eC (.int 8)) (aNil)))) (aCons (eCall (mf__law_take) (aCons (eVar 0) (aCons (eVar 5) (aNil)))) (aCons (eCall (mf__law_take) (aCons (eVar 0) (aCons (eVar 5) (aNil)))) (aNil)))
def lDoes : EM := eOf tupF1 (aCons (eC (.str "does")) (aCons (eCall (mf__law_pick) (aCons (eVar 0) (aCons (eOf lstF1 (aCons (eC (.int 0)) (aCons (eC (.int 1)) (aCons (eC (.int 1)) (aCons (eC (.int 2)) (aCons (eC (.int 3)) (aNil))))))) (aNil)))) (aCons (eCall (mf__law_pick) (aCons (eVar 0) (aCons (eVar 2) (aNil)))) (aNil))))
def lInner : EM := eCall (mf__law_pick) (aCons (eVar 0) (aCons (eOf lstF1 (aCons (eVar 7) (aCons (eOp subF (eVar 5) (eC (.int 1))) (aNil)))) (aNil)))
def lFour : EM := eOf lstF1 (aCons (eC (.int 0)) (aCons (eC (.int 0)) (aCons (eC (.int 1)) (aCons (eCall (mf__law_take) (aCons (eVar 0) (aCons (eOp addF (eVar 3) (eC (.int 1))) (aNil)))) (aNil)))))
def lShown : EM := eOf tupF1 (aCons (eC (.str "shown")) (aCons (eCall (mf__law_pick) (aCons (eVar 0) (aCons lFour (aNil)))) (aCons (eVar 9) (aNil))))
def lRest : EM := eOp ixF (eOf lstF1 (aCons (eOf tupF1 (aCons (eC (.str "not")) (aCons (eVar 7) (aNil)))) (aCons (eOf tupF1 (aCons (eC (.str "and")) (aCons (eVar 7) (aCons (eVar 8) (aNil))))) (aCons (eOf tupF1 (aCons (eC (.str "or")) (aCons (eVar 7) (aCons (eVar 8) (aNil))))) (aNil))))) (eOp subF (eVar 6) (eC (.int 5)))
def lBody : SM := sSeq (sPar [6, 7, 8] lPar) (sIf (mBl (eOp ltF (eVar 6) (eC (.int 2)))) (sApp 4 lDoes) (sIf (mBl (eOp ltF (eVar 6) (eC (.int 5)))) (sSeq (sSet 9 lInner) (sApp 4 lShown)) (sApp 4 lRest)))
theorem lines_form : m__law_lines = sSeq (sOwn 4 (aCons (eOf tupF1 (aCons (eC (.str "false")) (aNil))) (aNil))) (sSeq (sFor (b1 5) (iOfA rng2F (aCons (eC (.int 1)) (aCons (eVar 1) (aNil)))) lBody) (fun ρ s => (sRet (eVar 4)) (frz 4 ρ) s)) := rfl
def lS (m : Int) (ws : List D) (hi : Int) (found : List D) (a5 a6 a7 a8 a9 : Option Sl) : Sls := [some (.dat .drw), some (.dat (.int m)), some (.dat (.lst ws)), some (.dat (.int hi)), some (.own found), a5, a6, a7, a8, a9]
section
variable {m hi h kd i j : Int} {ws : List D} {s : S}
def lE (m : Int) (ws : List D) (hi : Int) (a5 a6 a7 a8 a9 : Option D) : Env := [some .drw, some (.int m), some (.lst ws), some (.int hi), none, a5, a6, a7, a8, a9]
theorem par_run (g : GS s) (h1 : 0 < h) (h2 : h < 1000000) (a6 a7 a8 a9 : Option D) : ∃ kd i j s2, lPar (lE m ws hi (some (.int h)) a6 a7 a8 a9) s = .ok [.int kd, .int i, .int j] s2 ∧ (0 ≤ kd ∧ kd < 8) ∧ (0 ≤ i ∧ i < h) ∧ (0 ≤ j ∧ j < h) ∧ GS s2 := by
  obtain ⟨k, s1, e1, k0, k1, g1⟩ := take_run (n := 8) g (by decide) (by decide)
  obtain ⟨i, s2, e2, i0, i1, g2⟩ := take_run (n := h) g1 h1 (by omega)
  obtain ⟨j, s3, e3, j0, j1, g3⟩ := take_run (n := h) g2 h1 (by omega)
  refine ⟨k, i, j, s3, ?_, ⟨k0, k1⟩, ⟨i0, i1⟩, ⟨j0, j1⟩, g3⟩
  unfold lPar
  rw [aCons_run]
  show ((mf__law_take [.drw, .int 8] s).bind fun x s1 => ((aCons (eCall (mf__law_take) (aCons (eVar 0) (aCons (eVar 5) (aNil)))) (aCons (eCall (mf__law_take) (aCons (eVar 0) (aCons (eVar 5) (aNil)))) (aNil))) (lE m ws hi (some (.int h)) a6 a7 a8 a9) s1).bind fun xs s2 => RE.ok (x :: xs) s2) = _
  rw [e1, bind_ok, aCons_run]
  show (((mf__law_take [.drw, .int h] s1).bind fun x s1 => ((aCons (eCall (mf__law_take) (aCons (eVar 0) (aCons (eVar 5) (aNil)))) (aNil)) (lE m ws hi (some (.int h)) a6 a7 a8 a9) s1).bind fun xs s2 => RE.ok (x :: xs) s2).bind fun xs s2 => RE.ok (D.int k :: xs) s2) = _
  rw [e2, bind_ok, aCons_run]
  show ((((mf__law_take [.drw, .int h] s2).bind fun x s1 => RE.ok [x] s1).bind fun xs s2 => RE.ok (D.int i :: xs) s2).bind fun xs s2 => RE.ok (D.int k :: xs) s2) = _
  rw [e3]
  rfl
theorem tup1 {xs : List D} (h : xs.length ≤ 20) : tupF1 xs = some (.tup xs) := if_pos (Nat.le_trans h (by rw [sizeLine_eq]; decide))
theorem lst1 {xs : List D} (h : xs.length ≤ 40) : lstF1 xs = some (.lst xs) := if_pos (Nat.le_trans h (by rw [sizeLine_eq]; decide))
theorem does_run (g : GS s) (hw : ∀ d ∈ ws, wd d) (h0 : ws ≠ []) (hl : ws.length ≤ 10) (a5 a6 a7 a8 a9 : Option D) : ∃ x w s2, lDoes (lE m ws hi a5 a6 a7 a8 a9) s = .ok (.tup [.str "does", x, w]) s2 ∧ el2 x ∧ el2 w ∧ GS s2 := by
  obtain ⟨x, s1, e1, mx, g1⟩ := pick_run (xs := [.int 0, .int 1, .int 1, .int 2, .int 3]) g (by simp) (by simp)
  obtain ⟨w, s2, e2, mw, g2⟩ := pick_run (xs := ws) g1 h0 (by omega)
  refine ⟨x, w, s2, ?_, ?_, el2_wd (hw w mw), g2⟩
  · unfold lDoes
    rw [eOf_run, aCons_run, eC_run, bind_ok, aCons_run]
    have f1 : (eCall (mf__law_pick) (aCons (eVar 0) (aCons (eOf lstF1 (aCons (eC (.int 0)) (aCons (eC (.int 1)) (aCons (eC (.int 1)) (aCons (eC (.int 2)) (aCons (eC (.int 3)) (aNil))))))) (aNil)))) (lE m ws hi a5 a6 a7 a8 a9) s = .ok x s1 := by
      have q : (eOf lstF1 (aCons (eC (.int 0)) (aCons (eC (.int 1)) (aCons (eC (.int 1)) (aCons (eC (.int 2)) (aCons (eC (.int 3)) (aNil))))))) (lE m ws hi a5 a6 a7 a8 a9) s = .ok (.lst [.int 0, .int 1, .int 1, .int 2, .int 3]) s := by
        show lift (lstF1 [.int 0, .int 1, .int 1, .int 2, .int 3]) s = _
        rw [lst1 (by simp)]
        rfl
      rw [eCall_run, aCons_run]
      show (((aCons (eOf lstF1 (aCons (eC (.int 0)) (aCons (eC (.int 1)) (aCons (eC (.int 1)) (aCons (eC (.int 2)) (aCons (eC (.int 3)) (aNil))))))) (aNil)) (lE m ws hi a5 a6 a7 a8 a9) s).bind fun xs s2 => RE.ok (D.drw :: xs) s2).bind (fun ds s1 => mf__law_pick ds s1) = _
      rw [aCons_run, q]
      exact e1
    rw [f1, bind_ok, aCons_run]
    show (((((mf__law_pick [.drw, .lst ws] s1).bind fun x s1 => RE.ok [x] s1).bind fun xs s2 => RE.ok (x :: xs) s2).bind fun xs s2 => RE.ok (D.str "does" :: xs) s2).bind fun xs s1 => lift (tupF1 xs) s1) = _
    rw [e2]
    show lift (tupF1 [.str "does", x, w]) s2 = _
    rw [tup1 (by simp)]
    rfl
  · simp only [List.mem_cons, List.not_mem_nil, or_false] at mx
    rcases mx with rfl | rfl | rfl | rfl | rfl <;> exact el2_int (by decide)
theorem inner_run (g : GS s) (h1 : 0 < h) (h2 : h < 1000000) (i0 : 0 ≤ i) (i1 : i < h) (a6 a8 a9 : Option D) : ∃ x s2, lInner (lE m ws hi (some (.int h)) a6 (some (.int i)) a8 a9) s = .ok x s2 ∧ el2 x ∧ GS s2 := by
  obtain ⟨x, s1, e1, mx, g1⟩ := pick_run (xs := [.int i, .int (h - 1)]) g (by simp) (by simp)
  refine ⟨x, s1, ?_, ?_, g1⟩
  · have q : (eOf lstF1 (aCons (eVar 7) (aCons (eOp subF (eVar 5) (eC (.int 1))) (aNil)))) (lE m ws hi (some (.int h)) a6 (some (.int i)) a8 a9) s = .ok (.lst [.int i, .int (h - 1)]) s := by
      show lift (lstF1 [.int i, .int (h - 1)]) s = _
      rw [lst1 (by simp)]
      rfl
    unfold lInner
    rw [eCall_run, aCons_run]
    show (((aCons (eOf lstF1 (aCons (eVar 7) (aCons (eOp subF (eVar 5) (eC (.int 1))) (aNil)))) (aNil)) (lE m ws hi (some (.int h)) a6 (some (.int i)) a8 a9) s).bind fun xs s2 => RE.ok (D.drw :: xs) s2).bind (fun ds s1 => mf__law_pick ds s1) = _
    rw [aCons_run, q]
    simp only [bind_ok, aNil_run]
    exact e1
  · simp only [List.mem_cons, List.not_mem_nil, or_false] at mx
    rcases mx with rfl | rfl
    · exact el2_int (by omega)
    · exact el2_int (by omega)
theorem shown_run {x : D} (g : GS s) (hh : 0 ≤ hi) (hh2 : hi < 1000) (hx : el2 x) (a5 a6 a7 a8 : Option D) : ∃ y s2, lShown (lE m ws hi a5 a6 a7 a8 (some x)) s = .ok (.tup [.str "shown", y, x]) s2 ∧ el2 y ∧ GS s2 := by
  obtain ⟨r, s1, e1, r0, r1, g1⟩ := take_run (n := hi + 1) g (by omega) (by omega)
  obtain ⟨y, s2, e2, my, g2⟩ := pick_run (xs := [.int 0, .int 0, .int 1, .int r]) g1 (by simp) (by simp)
  refine ⟨y, s2, ?_, ?_, g2⟩
  · have q : lFour (lE m ws hi a5 a6 a7 a8 (some x)) s = .ok (.lst [.int 0, .int 0, .int 1, .int r]) s1 := by
      have q0 : (eOp addF (eVar 3) (eC (.int 1))) (lE m ws hi a5 a6 a7 a8 (some x)) s = .ok (.int (hi + 1)) s := rfl
      have q1 : (eVar 0) (lE m ws hi a5 a6 a7 a8 (some x)) s = .ok .drw s := rfl
      unfold lFour
      simp only [eOf_run, aCons_run, eC_run, bind_ok, aNil_run, eCall_run, q0, q1, e1]
      rw [lst1 (by simp), lift_some]
    have q2 : (eCall (mf__law_pick) (aCons (eVar 0) (aCons lFour (aNil)))) (lE m ws hi a5 a6 a7 a8 (some x)) s = .ok y s2 := by
      show (((lFour (lE m ws hi a5 a6 a7 a8 (some x)) s).bind fun x s1 => RE.ok [x] s1).bind fun xs s2 => RE.ok (D.drw :: xs) s2).bind (fun ds s1 => mf__law_pick ds s1) = _
      rw [q]
      simp only [bind_ok]
      exact e2
    unfold lShown
    rw [eOf_run, aCons_run, eC_run, bind_ok, aCons_run, q2]
    show lift (tupF1 [.str "shown", y, x]) s2 = _
    rw [tup1 (by simp)]
    rfl
  · simp only [List.mem_cons, List.not_mem_nil, or_false] at my
    rcases my with rfl | rfl | rfl | rfl
    · exact el2_int (by decide)
    · exact el2_int (by decide)
    · exact el2_int (by decide)
    · exact el2_int (by omega)
theorem kw {z : Str} (h : z ∈ ([("false" : Str), "does", "not", "and", "or", "shown"] : List Str)) : el2 (.str z) := by
  simp only [List.mem_cons, List.not_mem_nil, or_false] at h
  rcases h with rfl | rfl | rfl | rfl | rfl | rfl <;> exact el2_str (by decide +kernel) (by decide +kernel)
theorem rest_run (k0 : 5 ≤ kd) (k1 : kd < 8) (hi0 : el2 (.int i)) (hj0 : el2 (.int j)) (a5 a9 : Option D) : ∃ d, lRest (lE m ws hi a5 (some (.int kd)) (some (.int i)) (some (.int j)) a9) s = .ok d s ∧ Row 3 d := by
  have q : ∀ n, kd = n + 5 → lRest (lE m ws hi a5 (some (.int kd)) (some (.int i)) (some (.int j)) a9) s = lift (ixF (.lst [.tup [.str "not", .int i], .tup [.str "and", .int i, .int j], .tup [.str "or", .int i, .int j]]) (.int n)) s := fun n hn => by
    have e : kd - 5 = n := by omega
    have f : lRest (lE m ws hi a5 (some (.int kd)) (some (.int i)) (some (.int j)) a9) s = lift (ixF (.lst [.tup [.str "not", .int i], .tup [.str "and", .int i, .int j], .tup [.str "or", .int i, .int j]]) (.int (kd - 5))) s := rfl
    rw [f, e]
  have h3 : kd = 0 + 5 ∨ kd = 1 + 5 ∨ kd = 2 + 5 := by omega
  rcases h3 with h | h | h
  · exact ⟨_, (q _ h).trans rfl, .inr ⟨_, .inl rfl, by simp, fun x hx => by
      simp only [List.mem_cons, List.not_mem_nil, or_false] at hx
      rcases hx with rfl | rfl
      · exact kw (by simp)
      · exact hi0⟩⟩
  · exact ⟨_, (q _ h).trans rfl, .inr ⟨_, .inl rfl, by simp, fun x hx => by
      simp only [List.mem_cons, List.not_mem_nil, or_false] at hx
      rcases hx with rfl | rfl | rfl
      · exact kw (by simp)
      · exact hi0
      · exact hj0⟩⟩
  · exact ⟨_, (q _ h).trans rfl, .inr ⟨_, .inl rfl, by simp, fun x hx => by
      simp only [List.mem_cons, List.not_mem_nil, or_false] at hx
      rcases hx with rfl | rfl | rfl
      · exact kw (by simp)
      · exact hi0
      · exact hj0⟩⟩
end
end FL.K1
set_option Elab.async false
set_option linter.all false
set_option maxRecDepth 100000
set_option maxHeartbeats 4000000
namespace FL.K1
open PySem PySem.Spec PyProof.Rows L2 FL
section
variable {m hi h : Int} {ws found : List D} {s : S}
theorem lS_dats (a5 a6 a7 a8 a9 : Option Sl) : dats (lS m ws hi found a5 a6 a7 a8 a9) = lE m ws hi (datOf a5) (datOf a6) (datOf a7) (datOf a8) (datOf a9) := rfl
theorem app_run {d : D} {e : EM} {s1 : S} {a5 a6 a7 a8 a9 : Option Sl} (hr : e (lE m ws hi (datOf a5) (datOf a6) (datOf a7) (datOf a8) (datOf a9)) s = .ok d s1) (hf : found.length < 1000) : sApp 4 e (lS m ws hi found a5 a6 a7 a8 a9) s = .nx (lS m ws hi (found ++ [d]) a5 a6 a7 a8 a9) s1 := by
  have ev : runD e (lS m ws hi found a5 a6 a7 a8 a9) s = .ok d s1 := runD_ok hr
  unfold sApp
  show after (runD e (lS m ws hi found a5 a6 a7 a8 a9) s) _ _ = _
  rw [ev]
  show (if found.length < sizeLine then RS.nx _ s1 else .bad) = _
  rw [if_pos (by rw [sizeLine_eq]; omega)]
  rfl
theorem lBody_run (g : GS s) (h1 : 0 < h) (h2 : h < 1000000) (hh : 0 ≤ hi) (hh2 : hi < 1000) (hw : ∀ d ∈ ws, wd d) (h0 : ws ≠ []) (hl : ws.length ≤ 10) (hf : found.length < 1000) (a6 a7 a8 a9 : Option Sl) :
    ∃ d b6 b7 b8 b9 s2, lBody (lS m ws hi found (some (.dat (.int h))) a6 a7 a8 a9) s = .nx (lS m ws hi (found ++ [d]) (some (.dat (.int h))) b6 b7 b8 b9) s2 ∧ Row 3 d ∧ GS s2 := by
  obtain ⟨kd, i, j, s1, e1, ⟨k0, k1⟩, ⟨i0, i1⟩, ⟨j0, j1⟩, g1⟩ := par_run (m := m) (hi := hi) (ws := ws) g h1 h2 (datOf a6) (datOf a7) (datOf a8) (datOf a9)
  have p1 : sPar [6, 7, 8] lPar (lS m ws hi found (some (.dat (.int h))) a6 a7 a8 a9) s = .nx (lS m ws hi found (some (.dat (.int h))) (some (.dat (.int kd))) (some (.dat (.int i))) (some (.dat (.int j))) a9) s1 := by
    have r1 : runA lPar (lS m ws hi found (some (.dat (.int h))) a6 a7 a8 a9) s = .ok [.int kd, .int i, .int j] s1 := e1
    unfold sPar
    rw [r1]
    rfl
  have t2 : runT (mBl (eOp ltF (eVar 6) (eC (.int 2)))) (lS m ws hi found (some (.dat (.int h))) (some (.dat (.int kd))) (some (.dat (.int i))) (some (.dat (.int j))) a9) s1 = .ok (decide (kd < 2)) s1 := runT_ok rfl
  have t5 : runT (mBl (eOp ltF (eVar 6) (eC (.int 5)))) (lS m ws hi found (some (.dat (.int h))) (some (.dat (.int kd))) (some (.dat (.int i))) (some (.dat (.int j))) a9) s1 = .ok (decide (kd < 5)) s1 := runT_ok rfl
  unfold lBody
  rw [seq_nx p1]
  by_cases c2 : kd < 2
  · obtain ⟨x, w, s2, e2, hx, hw2, g2⟩ := does_run (m := m) (hi := hi) g1 hw h0 hl (some (.int h)) (some (.int kd)) (some (.int i)) (some (.int j)) (datOf a9)
    refine ⟨_, _, _, _, _, s2, by rw [if_yes (by rw [t2, decide_eq_true c2])]; exact app_run e2 hf, .inr ⟨_, .inl rfl, by simp, fun y hy => ?_⟩, g2⟩
    simp only [List.mem_cons, List.not_mem_nil, or_false] at hy
    rcases hy with rfl | rfl | rfl
    · exact kw (by simp)
    · exact hx
    · exact hw2
  · by_cases c5 : kd < 5
    · obtain ⟨x, s2, e2, hx, g2⟩ := inner_run (m := m) (hi := hi) (ws := ws) (i := i) g1 h1 h2 i0 i1 (some (.int kd)) (some (.int j)) (datOf a9)
      obtain ⟨y, s3, e3, hy, g3⟩ := shown_run (m := m) (hi := hi) (ws := ws) g2 hh hh2 hx (some (.int h)) (some (.int kd)) (some (.int i)) (some (.int j))
      have p9 : sSet 9 lInner (lS m ws hi found (some (.dat (.int h))) (some (.dat (.int kd))) (some (.dat (.int i))) (some (.dat (.int j))) a9) s1 = .nx (lS m ws hi found (some (.dat (.int h))) (some (.dat (.int kd))) (some (.dat (.int i))) (some (.dat (.int j))) (some (.dat x))) s2 := by
        have e4 : lInner (dats (lS m ws hi found (some (.dat (.int h))) (some (.dat (.int kd))) (some (.dat (.int i))) (some (.dat (.int j))) a9)) s1 = .ok x s2 := by
          rw [lS_dats]
          exact e2
        rw [set_run (runD_ok e4)]
        rfl
      refine ⟨_, _, _, _, _, s3, by rw [if_no (by rw [t2, decide_eq_false c2]), if_yes (by rw [t5, decide_eq_true c5]), seq_nx p9]; exact app_run e3 hf, .inr ⟨_, .inl rfl, by simp, fun z hz => ?_⟩, g3⟩
      simp only [List.mem_cons, List.not_mem_nil, or_false] at hz
      rcases hz with rfl | rfl | rfl
      · exact kw (by simp)
      · exact hy
      · exact hx
    · obtain ⟨d, e2, hd⟩ := rest_run (m := m) (hi := hi) (ws := ws) (s := s1) (kd := kd) (i := i) (j := j) (by omega) k1 (el2_int (by omega)) (el2_int (by omega)) (some (.int h)) (datOf a9)
      exact ⟨d, _, _, _, _, s1, by rw [if_no (by rw [t2, decide_eq_false c2]), if_no (by rw [t5, decide_eq_false c5])]; exact app_run e2 hf, hd, g1⟩
end
theorem lLoop {m hi : Int} {ws : List D} (hh : 0 ≤ hi) (hh2 : hi < 1000) (hw : ∀ d ∈ ws, wd d) (h0 : ws ≠ []) (hl : ws.length ≤ 10) : ∀ (is : List Int) (found : List D) (a5 a6 a7 a8 a9 : Option Sl) (s : S), GS s → (∀ i ∈ is, 0 < i ∧ i < 1000000) → (∀ d ∈ found, Row 3 d) → found.length + is.length ≤ 900 →
    ∃ rs b5 b6 b7 b8 b9 s2, forL (b1 5) lBody (is.map D.int) (lS m ws hi found a5 a6 a7 a8 a9) s = .nx (lS m ws hi rs b5 b6 b7 b8 b9) s2 ∧ rs.length = found.length + is.length ∧ (∀ d ∈ rs, Row 3 d) ∧ GS s2 := by
  intro is
  induction is with
  | nil =>
    intro found a5 a6 a7 a8 a9 s g _ hf _
    exact ⟨found, a5, a6, a7, a8, a9, s, rfl, rfl, hf, g⟩
  | cons i is ih =>
    intro found a5 a6 a7 a8 a9 s g hi2 hf hz
    rw [List.length_cons] at hz
    obtain ⟨i0, i1⟩ := hi2 i List.mem_cons_self
    obtain ⟨d, b6, b7, b8, b9, s2, e, hd, g2⟩ := lBody_run (m := m) (found := found) g i0 i1 hh hh2 hw h0 hl (by omega) a6 a7 a8 a9
    have hf2 : ∀ x ∈ found ++ [d], Row 3 x := fun x hx => by
      rcases List.mem_append.mp hx with hx | hx
      · exact hf x hx
      · cases List.mem_singleton.mp hx; exact hd
    have hl2 : (found ++ [d]).length = found.length + 1 := by rw [List.length_append, List.length_singleton]
    obtain ⟨rs, c5, c6, c7, c8, c9, s3, e3, l3, w3, g3⟩ := ih (found ++ [d]) (some (.dat (.int i))) b6 b7 b8 b9 s2 g2 (fun j hj => hi2 j (List.mem_cons_of_mem _ hj)) hf2 (by omega)
    refine ⟨rs, c5, c6, c7, c8, c9, s3, ?_, by rw [l3, hl2, List.length_cons]; omega, w3, g3⟩
    rw [List.map_cons]
    unfold forL
    show (match lBody (lS m ws hi found (some (.dat (.int i))) a6 a7 a8 a9) s with
      | .nx ρ2 s2 => forL (b1 5) lBody (is.map D.int) ρ2 s2
      | .ct ρ2 s2 => forL (b1 5) lBody (is.map D.int) ρ2 s2
      | .bk ρ2 s2 => RS.nx ρ2 s2
      | .rt d s2 => .rt d s2
      | .ex C fs ρ2 s2 => .ex C fs ρ2 s2
      | .bad => .bad) = _
    rw [e]
    exact e3
theorem row_falseR : Row 3 (.tup [.str "false"]) := .inr ⟨_, .inl rfl, by simp, fun x hx => by cases List.mem_singleton.mp hx; exact kw (by simp)⟩
theorem lines_run {m : Nat} {hi : Int} {ws : List D} {s : S} (g : GS s) (hm : 1 ≤ m) (hm2 : m ≤ 100) (hh : 0 ≤ hi) (hh2 : hi < 1000) (hw : ∀ d ∈ ws, wd d) (h0 : ws ≠ []) (hl : ws.length ≤ 10) :
    ∃ rs s2, mf__law_lines [.drw, .int (m : Nat), .lst ws, .int hi] s = .ok (.lst rs) s2 ∧ rs.length = m ∧ (∀ d ∈ rs, Row 3 d) ∧ GS s2 := by
  have hr : rangeD 1 (((m : Nat) : Int) - 1).toNat = ((List.range (((m : Nat) : Int) - 1).toNat).map fun i => (1 : Int) + (i : Nat)).map D.int := by
    unfold rangeD
    rw [List.map_map]
    rfl
  obtain ⟨rs, b5, b6, b7, b8, b9, s2, e, hl2, hw2, g2⟩ := lLoop (m := (m : Nat)) hh hh2 hw h0 hl ((List.range (((m : Nat) : Int) - 1).toNat).map fun i => (1 : Int) + (i : Nat)) [.tup [.str "false"]] none none none none none s g (fun i hi => by
    obtain ⟨k, hk, rfl⟩ := List.mem_map.mp hi
    have := List.mem_range.mp hk
    omega) (fun d hd => by cases List.mem_singleton.mp hd; exact row_falseR) (by rw [List.length_map, List.length_range, List.length_singleton]; omega)
  rw [← hr] at e
  refine ⟨rs, s2, fn_rt rfl ?_, by rw [hl2, List.length_map, List.length_range, List.length_singleton]; omega, hw2, g2⟩
  show m__law_lines [some (.dat .drw), some (.dat (.int (m : Nat))), some (.dat (.lst ws)), some (.dat (.int hi)), none, none, none, none, none, none] s = _
  have e0 : sOwn 4 (aCons (eOf tupF1 (aCons (eC (.str "false")) (aNil))) (aNil)) [some (.dat .drw), some (.dat (.int (m : Nat))), some (.dat (.lst ws)), some (.dat (.int hi)), none, none, none, none, none, none] s = .nx (lS (m : Nat) ws hi [.tup [.str "false"]] none none none none none) s := by
    have r0 : runA (aCons (eOf tupF1 (aCons (eC (.str "false")) (aNil))) (aNil)) [some (.dat .drw), some (.dat (.int (m : Nat))), some (.dat (.lst ws)), some (.dat (.int hi)), none, none, none, none, none, none] s = .ok [.tup [.str "false"]] s := by
      unfold runA
      simp only [aCons_run, eOf_run, eC_run, bind_ok, aNil_run]
      rw [tup1 (by simp)]
      rfl
    unfold sOwn
    rw [r0]
    show (if ([D.tup [.str "false"]] : List D).length ≤ sizeLine then RS.nx _ s else .bad) = _
    rw [if_pos (by rw [sizeLine_eq]; decide)]
    rfl
  have e1 : runA (iOfA rng2F (aCons (eC (.int 1)) (aCons (eVar 1) (aNil)))) (lS (m : Nat) ws hi [.tup [.str "false"]] none none none none none) s = .ok (rangeD 1 (((m : Nat) : Int) - 1).toNat) s := by
    have e3 : rng2F [D.int 1, D.int (m : Nat)] = some (rangeD 1 (((m : Nat) : Int) - 1).toNat) := rng2_run (by decide) (by decide) (by omega) (by omega)
    have e4 : (aCons (eC (.int 1)) (aCons (eVar 1) aNil)) (dats (lS (m : Nat) ws hi [.tup [.str "false"]] none none none none none)) s = .ok [.int 1, .int (m : Nat)] s := rfl
    unfold runA
    rw [iOfA_run, e4, bind_ok, e3, lift_some]
  have e2 : sFor (b1 5) (iOfA rng2F (aCons (eC (.int 1)) (aCons (eVar 1) (aNil)))) lBody (lS (m : Nat) ws hi [.tup [.str "false"]] none none none none none) s = .nx (lS (m : Nat) ws hi rs b5 b6 b7 b8 b9) s2 := by
    unfold sFor
    rw [e1]
    exact e
  rw [lines_form, seq_nx e0, seq_nx e2]
  rfl
end FL.K1
set_option Elab.async false
set_option linter.all false
set_option maxRecDepth 100000
set_option maxHeartbeats 4000000
namespace FL.K1
open PySem PySem.Spec PyProof.Rows L2 FL
/-! ### a part, otherwise -/
def eOdd : EM := eOf lstF1 (aCons (eC .non) (aCons (eC (.bl true)) (aCons (eUn negF (eC (.int 1))) (aCons (eC (.str "1")) (aCons (eOf tupF1 (aCons (eC (.int 0)) (aNil))) (aCons (eVar 2) (aCons (eOp subF (eVar 2) (eC (.int 1))) (aCons (eC (.int 100)) (aCons (eC (.int 99)) (aCons (eC (.int 4)) (aCons (eC (.int 3)) (aCons (eC (.int 0)) (aCons (eC (.str "")) (aCons (eC (.str "Ab")) (aCons (eC (.str "ninelette")) (aCons (eC (.str "or")) (aCons (eOf lstF1 (aNil)) (aCons (eC (.dic [])) (aNil)))))))))))))))))))
def eMore : EM := eOf lstF1 (aCons (eOp powF (eC (.int 10)) (eC (.int 30))) (aCons (eC (.str "a1")) (aCons (eC (.str "c d")) (aNil))))
theorem part_form : m__law_part_bent = sSeq (sSet 3 eOdd) (sRet (eCall (mf__law_pick) (aCons (eVar 0) (aCons (eOp addF (eVar 3) eMore) (aNil))))) := rfl
def oddL (h : Int) : List D := [.non, .bl true, .int (-1), .str "1", .tup [.int 0], .int h, .int (h - 1), .int 100, .int 99, .int 4, .int 3, .int 0, .str "", .str "Ab", .str "ninelette", .str "or", .lst [], .dic []]
def moreL : List D := [.int 1000000000000000000000000000000, .str "a1", .str "c d"]
theorem odd_run {h : Int} {p : D} {o : Option D} {s : S} : eOdd [some .drw, some p, some (.int h), o] s = .ok (.lst (oddL h)) s := by
  have q2 : (eVar 2) [some .drw, some p, some (.int h), o] s = .ok (.int h) s := rfl
  have q3 : (eOp subF (eVar 2) (eC (.int 1))) [some .drw, some p, some (.int h), o] s = .ok (.int (h - 1)) s := rfl
  have qn : (eUn negF (eC (.int 1))) [some .drw, some p, some (.int h), o] s = .ok (.int (-1)) s := rfl
  have qt : (eOf tupF1 (aCons (eC (.int 0)) (aNil))) [some .drw, some p, some (.int h), o] s = .ok (.tup [.int 0]) s := by
    show lift (tupF1 [.int 0]) s = _
    rw [tup1 (by simp), lift_some]
  have ql : (eOf lstF1 aNil) [some .drw, some p, some (.int h), o] s = .ok (.lst []) s := by
    show lift (lstF1 []) s = _
    rw [lst1 (by simp), lift_some]
  unfold eOdd
  rw [eOf_run]
  simp only [aCons_run, q2, q3, qn, qt, ql, eC_run, bind_ok, aNil_run]
  rw [lst1 (by simp), lift_some]
  rfl
theorem more_run {ρ : Env} {s : S} : eMore ρ s = .ok (.lst moreL) s := by
  have q : (eOp powF (eC (.int 10)) (eC (.int 30))) ρ s = .ok (.int 1000000000000000000000000000000) s := by
    have e : powF (.int 10) (.int 30) = some (.int ((10 : Int) ^ (30 : Int).toNat)) := by
      have c : CPow 10 30 := by unfold CPow; decide
      show (if CPow 10 30 then some (D.int ((10 : Int) ^ (30 : Int).toNat)) else none) = _
      rw [if_pos c]
    have e2 : (10 : Int) ^ (30 : Int).toNat = 1000000000000000000000000000000 := by decide +kernel
    show lift (powF (.int 10) (.int 30)) s = _
    rw [e, e2, lift_some]
  unfold eMore
  rw [eOf_run]
  simp only [aCons_run, q, eC_run, bind_ok, aNil_run]
  rw [lst1 (by simp), lift_some]
  rfl
theorem el2_big : el2 (.int 1000000000000000000000000000000) := by
  refine ⟨⟨rfl, fun z e => by cases e⟩, ⟨.int 1000000000000000000000000000000, rfl, ?_, ?_, ?_, by decide⟩, fun _ e => by cases e⟩
  · decide +kernel
  · decide +kernel
  · decide +kernel
theorem el2_tup0 : el2 (.tup [.int 0]) := ⟨⟨rfl, fun z e => by cases e⟩, pz_mono (pz_tup (n := 1) (fun x hx => by cases List.mem_singleton.mp hx; exact pz_int (by decide)) (by simp)) (by decide) (by decide), fun xs e y hy => by
  cases e
  cases List.mem_singleton.mp hy
  exact ⟨rfl, fun z e => by cases e⟩⟩
theorem el2_nil : el2 (.lst []) := ⟨⟨rfl, fun z e => by cases e⟩, pz_mono (pz_lst (W := 0) (k := 0) (n := 0) (fun x hx => nomatch hx) (by simp)) (by decide) (by decide), fun xs e => by cases e⟩
theorem el2_lit {z : Str} (h : z.length ≤ 100 ∧ z.cps.toList.all (fun c => decide (c < 128)) = true) : el2 (.str z) := el2_str h.1 h.2
theorem odd_el2 {h : Int} (hh : h.natAbs < 100000000000) : ∀ x ∈ oddL h ++ moreL, el2 x := by
  intro x hx
  unfold oddL moreL at hx
  simp only [List.mem_append, List.mem_cons, List.not_mem_nil, or_false] at hx
  rcases hx with (rfl | rfl | rfl | rfl | rfl | rfl | rfl | rfl | rfl | rfl | rfl | rfl | rfl | rfl | rfl | rfl | rfl | rfl) | (rfl | rfl | rfl)
  · exact el2_non
  · exact el2_bl _
  · exact el2_int (by decide)
  · exact el2_lit (by decide +kernel)
  · exact el2_tup0
  · exact el2_int (by omega)
  · exact el2_int (by omega)
  · exact el2_int (by decide)
  · exact el2_int (by decide)
  · exact el2_int (by decide)
  · exact el2_int (by decide)
  · exact el2_int (by decide)
  · exact el2_lit (by decide +kernel)
  · exact el2_lit (by decide +kernel)
  · exact el2_lit (by decide +kernel)
  · exact el2_lit (by decide +kernel)
  · exact el2_nil
  · exact el2_dic
  · exact el2_big
  · exact el2_lit (by decide +kernel)
  · exact el2_lit (by decide +kernel)
theorem part_run {h : Int} {p : D} {s : S} (g : GS s) (hh : h.natAbs < 100000000000) : ∃ x s2, mf__law_part_bent [.drw, p, .int h] s = .ok x s2 ∧ el2 x ∧ GS s2 := by
  obtain ⟨x, s2, e, mx, g2⟩ := pick_run (xs := oddL h ++ moreL) g (by unfold oddL; simp) (by unfold oddL moreL; simp)
  refine ⟨x, s2, fn_rt rfl ?_, odd_el2 hh x mx, g2⟩
  show m__law_part_bent [some (.dat .drw), some (.dat p), some (.dat (.int h)), none] s = _
  have e1 : sSet 3 eOdd [some (.dat .drw), some (.dat p), some (.dat (.int h)), none] s = .nx [some (.dat .drw), some (.dat p), some (.dat (.int h)), some (.dat (.lst (oddL h)))] s := by
    have q : eOdd (dats [some (.dat .drw), some (.dat p), some (.dat (.int h)), none]) s = .ok (.lst (oddL h)) s := odd_run
    rw [set_run (runD_ok q)]
    rfl
  have e2 : (eOp addF (eVar 3) eMore) [some .drw, some p, some (.int h), some (.lst (oddL h))] s = .ok (.lst (oddL h ++ moreL)) s := by
    have q : (eVar 3) [some .drw, some p, some (.int h), some (.lst (oddL h))] s = .ok (.lst (oddL h)) s := rfl
    rw [eOp_run, q, bind_ok, more_run, bind_ok, addF_lst (by unfold oddL moreL; rw [sizeLine_eq]; simp), lift_some]
  have e3 : (eCall (mf__law_pick) (aCons (eVar 0) (aCons (eOp addF (eVar 3) eMore) (aNil)))) [some .drw, some p, some (.int h), some (.lst (oddL h))] s = .ok x s2 := by
    have q : (eVar 0) [some .drw, some p, some (.int h), some (.lst (oddL h))] s = .ok .drw s := rfl
    simp only [eCall_run, aCons_run, aNil_run, q, e2, bind_ok]
    exact e
  rw [part_form, seq_nx e1]
  exact ret_run (runD_ok e3)
end FL.K1
set_option Elab.async false
set_option linter.all false
set_option maxRecDepth 100000
set_option maxHeartbeats 4000000
namespace FL.K1
open PySem PySem.Spec PyProof.Rows L2 FL
/-! ### cuts -/
theorem cut_to {α : Type} (xs : List α) (k : Nat) : cutL xs none (some (k : Int)) = xs.take k := by
  unfold cutL
  show (xs.drop 0).take (HT.sIx xs.length xs.length (some (k : Int)) - 0) = _
  rw [HT.sIx_nat, List.drop_zero, Nat.sub_zero]
  by_cases h : k ≤ xs.length
  · rw [Nat.min_eq_left h]
  · rw [Nat.min_eq_right (by omega), List.take_length, List.take_of_length_le (by omega)]
theorem cut_from {α : Type} (xs : List α) (k : Nat) : cutL xs (some (k : Int)) none = xs.drop k := by
  unfold cutL
  show (xs.drop (HT.sIx xs.length 0 (some (k : Int)))).take (xs.length - HT.sIx xs.length 0 (some (k : Int))) = _
  rw [HT.sIx_nat]
  by_cases h : k ≤ xs.length
  · rw [Nat.min_eq_left h, List.take_of_length_le (by rw [List.length_drop]; exact Nat.le_refl _)]
  · rw [Nat.min_eq_right (by omega), List.drop_length, List.drop_eq_nil_of_le (by omega), List.take_nil]
theorem mem_cut {α : Type} {xs : List α} {lo hi : Option Int} {x : α} (h : x ∈ cutL xs lo hi) : x ∈ xs := by
  unfold cutL at h
  exact List.mem_of_mem_drop (List.mem_of_mem_take h)
theorem len_cut {α : Type} (xs : List α) (lo hi : Option Int) : (cutL xs lo hi).length ≤ xs.length := by
  unfold cutL
  rw [List.length_take, List.length_drop]
  omega
/-! ### a row, otherwise -/
def vTake : EM := eCall (mf__law_take) (aCons (eVar 0) (aCons (eC (.int 7)) (aNil)))
def vT1 : TM := mOr (mNot (mTru (eOf isiF (aCons (eVar 1) (aCons (eC (.ty "tuple")) (aNil)))))) (mOr (mBl (eOp eqG (eVar 1) (eOf tupF1 (aNil)))) (mBl (eOp eqG (eVar 3) (eC (.int 0)))))
def vRows : EM := eOf lstF1 (aCons (eC .non) (aCons (eC (.int 5)) (aCons (eC (.str "false")) (aCons (eOf tupF1 (aNil)) (aCons (eOf lstF1 (aNil)) (aCons (eOf lstF1 (aCons (eC (.str "false")) (aNil))) (aCons (eOf tupF1 (aCons (eC (.str "true")) (aNil))) (aCons (eOf tupF1 (aCons (eC (.str "false")) (aCons (eC (.int 0)) (aNil)))) (aCons (eOf tupF1 (aCons (eC .non) (aNil))) (aCons (eOf tupF1 (aCons (eC (.str "not")) (aNil))) (aCons (eC (.dic [])) (aNil))))))))))))
def vP1 : EM := eCall (mf__law_pick) (aCons (eVar 0) (aCons vRows (aNil)))
def vC (k : Int) : TM := mBl (eOp eqG (eVar 3) (eC (.int k)))
def vP2 : EM := eOf listF (aCons (eVar 1) (aNil))
def vTwo : EM := eOf lstF1 (aCons (eC (.int 0)) (aCons (eC (.str "c")) (aNil)))
def vP3 : EM := eOp addF (eVar 1) (eOf tupF1 (aCons (eCall (mf__law_pick) (aCons (eVar 0) (aCons vTwo (aNil)))) (aNil)))
def vP4 : EM := eSl slF (eVar 1) (oNone) (oSome (eUn negF (eC (.int 1))))
def vWords : EM := eOf lstF1 (aCons (eC (.str "does")) (aCons (eC (.str "not")) (aCons (eC (.str "and")) (aCons (eC (.str "or")) (aCons (eC (.str "shown")) (aCons (eC (.str "false")) (aCons (eC (.str "Not")) (aNil))))))))
def vP5 : EM := eOp addF (eOf tupF1 (aCons (eCall (mf__law_pick) (aCons (eVar 0) (aCons vWords (aNil)))) (aNil))) (eSl slF (eVar 1) (oSome (eC (.int 1))) (oNone))
def vSpot : EM := eCall (mf__law_take) (aCons (eVar 0) (aCons (eOf lenF (aCons (eVar 1) (aNil))) (aNil)))
def vPart : EM := eCall (mf__law_part_bent) (aCons (eVar 0) (aCons (eOp ixF (eVar 1) (eVar 4)) (aCons (eVar 2) (aNil))))
def vP6 : EM := eOp addF (eOp addF (eSl slF (eVar 1) (oNone) (oSome (eVar 4))) (eOf tupF1 (aCons vPart (aNil)))) (eSl slF (eVar 1) (oSome (eOp addF (eVar 4) (eC (.int 1)))) (oNone))
theorem bentL_form : m__law_line_bent = sSeq (sSet 3 vTake) (sSeq (sIf vT1 (sRet vP1) sNext) (sSeq (sIf (vC 1) (sRet vP2) sNext) (sSeq (sIf (vC 2) (sRet vP3) sNext) (sSeq (sIf (vC 3) (sRet vP4) sNext) (sSeq (sIf (vC 4) (sRet vP5) sNext) (sSeq (sSet 4 vSpot) (sRet vP6))))))) := rfl
def vE (d : D) (h : Int) (a3 a4 : Option D) : Env := [some .drw, some d, some (.int h), a3, a4]
def rowsL : List D := [.non, .int 5, .str "false", .tup [], .lst [], .lst [.str "false"], .tup [.str "true"], .tup [.str "false", .int 0], .tup [.non], .tup [.str "not"], .dic []]
theorem rows_run {ρ : Env} {s : S} : vRows ρ s = .ok (.lst rowsL) s := by
  have q1 : (eOf tupF1 aNil) ρ s = .ok (.tup []) s := by
    show lift (tupF1 []) s = _
    rw [tup1 (by simp), lift_some]
  have q2 : (eOf lstF1 aNil) ρ s = .ok (.lst []) s := by
    show lift (lstF1 []) s = _
    rw [lst1 (by simp), lift_some]
  have q3 : (eOf lstF1 (aCons (eC (.str "false")) (aNil))) ρ s = .ok (.lst [.str "false"]) s := by
    show lift (lstF1 [.str "false"]) s = _
    rw [lst1 (by simp), lift_some]
  have q4 : (eOf tupF1 (aCons (eC (.str "true")) (aNil))) ρ s = .ok (.tup [.str "true"]) s := by
    show lift (tupF1 [.str "true"]) s = _
    rw [tup1 (by simp), lift_some]
  have q5 : (eOf tupF1 (aCons (eC (.str "false")) (aCons (eC (.int 0)) (aNil)))) ρ s = .ok (.tup [.str "false", .int 0]) s := by
    show lift (tupF1 [.str "false", .int 0]) s = _
    rw [tup1 (by simp), lift_some]
  have q6 : (eOf tupF1 (aCons (eC .non) (aNil))) ρ s = .ok (.tup [.non]) s := by
    show lift (tupF1 [.non]) s = _
    rw [tup1 (by simp), lift_some]
  have q7 : (eOf tupF1 (aCons (eC (.str "not")) (aNil))) ρ s = .ok (.tup [.str "not"]) s := by
    show lift (tupF1 [.str "not"]) s = _
    rw [tup1 (by simp), lift_some]
  unfold vRows
  rw [eOf_run]
  simp only [aCons_run, q1, q2, q3, q4, q5, q6, q7, eC_run, bind_ok, aNil_run]
  rw [lst1 (by simp), lift_some]
  rfl
theorem one_el {x : D} (h : el2 x) : ∀ y ∈ [x], el2 y := fun y hy => by cases List.mem_singleton.mp hy; exact h
theorem rows_row : ∀ d ∈ rowsL, Row 2 d := by
  intro d hd
  unfold rowsL at hd
  simp only [List.mem_cons, List.not_mem_nil, or_false] at hd
  rcases hd with rfl | rfl | rfl | rfl | rfl | rfl | rfl | rfl | rfl | rfl | rfl
  · exact .inl ⟨el2_non, fun xs h => by rcases h with h | h <;> cases h⟩
  · exact .inl ⟨el2_int (by decide), fun xs h => by rcases h with h | h <;> cases h⟩
  · exact .inl ⟨kw (by simp), fun xs h => by rcases h with h | h <;> cases h⟩
  · exact .inr ⟨[], .inl rfl, by simp, fun x hx => nomatch hx⟩
  · exact .inr ⟨[], .inr rfl, by simp, fun x hx => nomatch hx⟩
  · exact .inr ⟨_, .inr rfl, by simp, one_el (kw (by simp))⟩
  · exact .inr ⟨_, .inl rfl, by simp, one_el (el2_lit (by decide +kernel))⟩
  · exact .inr ⟨_, .inl rfl, by simp, fun x hx => by
      simp only [List.mem_cons, List.not_mem_nil, or_false] at hx
      rcases hx with rfl | rfl
      · exact kw (by simp)
      · exact el2_int (by decide)⟩
  · exact .inr ⟨_, .inl rfl, by simp, one_el el2_non⟩
  · exact .inr ⟨_, .inl rfl, by simp, one_el (kw (by simp))⟩
  · exact .inl ⟨el2_dic, fun xs h => by rcases h with h | h <;> cases h⟩
section
variable {h : Int} {s : S} {d : D} {xs : List D} {a3 a4 : Option D}
theorem vP1_run (g : GS s) : ∃ x s2, vP1 (vE d h a3 a4) s = .ok x s2 ∧ Row 2 x ∧ GS s2 := by
  obtain ⟨x, s2, e, mx, g2⟩ := pick_run (xs := rowsL) g (by unfold rowsL; simp) (by unfold rowsL; simp)
  refine ⟨x, s2, ?_, rows_row x mx, g2⟩
  have q : (eVar 0) (vE d h a3 a4) s = .ok .drw s := rfl
  unfold vP1
  simp only [eCall_run, aCons_run, aNil_run, q, rows_run, bind_ok]
  exact e
theorem vP3_run (g : GS s) (hx : ∀ x ∈ xs, el2 x) (hl : xs.length ≤ 100) : ∃ y s2, vP3 (vE (.tup xs) h a3 a4) s = .ok (.tup (xs ++ [y])) s2 ∧ el2 y ∧ GS s2 := by
  obtain ⟨y, s2, e, my, g2⟩ := pick_run (xs := [.int 0, .str "c"]) g (by simp) (by simp)
  refine ⟨y, s2, ?_, ?_, g2⟩
  · have q0 : (eVar 0) (vE (.tup xs) h a3 a4) s = .ok .drw s := rfl
    have q1 : (eVar 1) (vE (.tup xs) h a3 a4) s = .ok (.tup xs) s := rfl
    have q2 : vTwo (vE (.tup xs) h a3 a4) s = .ok (.lst [.int 0, .str "c"]) s := by
      show lift (lstF1 [.int 0, .str "c"]) s = _
      rw [lst1 (by simp), lift_some]
    unfold vP3
    simp only [eOp_run, q1, bind_ok, eOf_run, eCall_run, aCons_run, aNil_run, q0, q2, e]
    rw [tup1 (by simp), lift_some, bind_ok, addF_tup (by rw [sizeLine_eq, List.length_singleton]; omega), lift_some]
  · simp only [List.mem_cons, List.not_mem_nil, or_false] at my
    rcases my with rfl | rfl
    · exact el2_int (by decide)
    · exact el2_lit (by decide +kernel)
theorem vP4_run : vP4 (vE (.tup xs) h a3 a4) s = .ok (.tup (cutL xs none (some (-1)))) s := rfl
theorem vP5_run (g : GS s) (hl : xs.length ≤ 100) : ∃ y s2, vP5 (vE (.tup xs) h a3 a4) s = .ok (.tup ([y] ++ cutL xs (some 1) none)) s2 ∧ el2 y ∧ GS s2 := by
  obtain ⟨y, s2, e, my, g2⟩ := pick_run (xs := [.str "does", .str "not", .str "and", .str "or", .str "shown", .str "false", .str "Not"]) g (by simp) (by simp)
  refine ⟨y, s2, ?_, ?_, g2⟩
  · have q0 : (eVar 0) (vE (.tup xs) h a3 a4) s = .ok .drw s := rfl
    have q2 : vWords (vE (.tup xs) h a3 a4) s = .ok (.lst [.str "does", .str "not", .str "and", .str "or", .str "shown", .str "false", .str "Not"]) s := by
      show lift (lstF1 [.str "does", .str "not", .str "and", .str "or", .str "shown", .str "false", .str "Not"]) s = _
      rw [lst1 (by simp), lift_some]
    have q3 : (eSl slF (eVar 1) (oSome (eC (.int 1))) (oNone)) (vE (.tup xs) h a3 a4) s2 = .ok (.tup (cutL xs (some 1) none)) s2 := rfl
    have q4 : (eOf tupF1 (aCons (eCall (mf__law_pick) (aCons (eVar 0) (aCons vWords (aNil)))) (aNil))) (vE (.tup xs) h a3 a4) s = .ok (.tup [y]) s2 := by
      simp only [eOf_run, eCall_run, aCons_run, aNil_run, bind_ok, q0, q2, e]
      rw [tup1 (by simp), lift_some]
    unfold vP5
    have hc := len_cut xs (some 1) none
    rw [eOp_run, q4, bind_ok, q3, bind_ok, addF_tup (by rw [sizeLine_eq, List.length_singleton]; omega), lift_some]
  · simp only [List.mem_cons, List.not_mem_nil, or_false] at my
    rcases my with rfl | rfl | rfl | rfl | rfl | rfl | rfl <;> exact el2_lit (by decide +kernel)
end
end FL.K1
set_option Elab.async false
set_option linter.all false
set_option maxRecDepth 100000
set_option maxHeartbeats 4000000
namespace FL.K1
open PySem PySem.Spec PyProof.Rows L2 FL
section
variable {h : Int} {s : S} {d : D} {xs : List D}
def vS (d : D) (h : Int) (w : Int) : Sls := [some (.dat .drw), some (.dat d), some (.dat (.int h)), some (.dat (.int w)), none]
theorem vS_dats (d : D) (h w : Int) : dats (vS d h w) = vE d h (some (.int w)) none := rfl
theorem vC_run (k w : Int) : runT (vC k) (vS d h w) s = .ok (decide (w = k)) s := runT_ok rfl
theorem vT1_no {w : Int} (hd : (tyOf d).isSome = true) (hn : ∀ xs, d = .tup xs → xs = []) : runT vT1 (vS d h w) s = .ok true s := runT_ok (by
  rw [vS_dats]
  cases d with
  | tup xs =>
    have e := hn xs rfl
    subst e
    rfl
  | _ => first | rfl | cases hd)
theorem vT1_tup {x : D} {r : List D} {w : Int} : runT vT1 (vS (.tup (x :: r)) h w) s = .ok (decide (w = 0)) s := runT_ok (by
  rw [vS_dats]
  have e4 : (mBl (eOp eqG (eVar 1) (eOf tupF1 (aNil)))) (vE (.tup (x :: r)) h (some (.int w)) none) s = .ok false s := by
    rw [mBl_run, eOp_run]
    show ((lift (eqG (.tup (x :: r)) (.tup [])) s).bind fun d s1 => match d with | .bl b => RE.ok b s1 | _ => .bad) = _
    rw [eq_nilT]
    rfl
  unfold vT1
  rw [mOr_run]
  show (mOr (mBl (eOp eqG (eVar 1) (eOf tupF1 (aNil)))) (mBl (eOp eqG (eVar 3) (eC (.int 0))))) (vE (.tup (x :: r)) h (some (.int w)) none) s = _
  rw [mOr_run, e4]
  rfl)
theorem vSpot_run (g : GS s) (h0 : 0 < xs.length) (hl : xs.length ≤ 100) (a3 a4 : Option D) : ∃ (k : Nat) (s2 : S), vSpot (vE (.tup xs) h a3 a4) s = .ok (.int (k : Nat)) s2 ∧ k < xs.length ∧ GS s2 := by
  obtain ⟨r, s2, e, r0, r1, g2⟩ := take_run (n := (xs.length : Nat)) g (by omega) (by omega)
  refine ⟨r.toNat, s2, ?_, by omega, g2⟩
  have er : ((r.toNat : Nat) : Int) = r := Int.toNat_of_nonneg r0
  rw [er]
  have q0 : (eVar 0) (vE (.tup xs) h a3 a4) s = .ok .drw s := rfl
  have q1 : (eOf lenF (aCons (eVar 1) (aNil))) (vE (.tup xs) h a3 a4) s = .ok (.int (xs.length : Nat)) s := rfl
  unfold vSpot
  simp only [eCall_run, aCons_run, aNil_run, bind_ok, q0, q1]
  exact e
theorem vP6_run {k : Nat} (g : GS s) (hh : h.natAbs < 100000000000) (hk : k < xs.length) (hl : xs.length ≤ 100) (a3 : Option D) : ∃ y s2, vP6 (vE (.tup xs) h a3 (some (.int (k : Nat)))) s = .ok (.tup (xs.take k ++ [y] ++ xs.drop (k + 1))) s2 ∧ el2 y ∧ GS s2 := by
  obtain ⟨y, s2, e, hy, g2⟩ := part_run (h := h) (p := xs[k]) g hh
  refine ⟨y, s2, ?_, hy, g2⟩
  have q0 : (eVar 0) (vE (.tup xs) h a3 (some (.int (k : Nat)))) s = .ok .drw s := rfl
  have q2 : (eVar 2) (vE (.tup xs) h a3 (some (.int (k : Nat)))) s = .ok (.int h) s := rfl
  have q1 : (eOp ixF (eVar 1) (eVar 4)) (vE (.tup xs) h a3 (some (.int (k : Nat)))) s = .ok xs[k] s := by
    show lift (atI xs (k : Nat)) s = _
    unfold atI
    rw [ix_in (by omega) (by omega), Int.toNat_natCast]
    show lift (xs[k]?) s = _
    rw [List.getElem?_eq_getElem hk, lift_some]
  have q3 : vPart (vE (.tup xs) h a3 (some (.int (k : Nat)))) s = .ok y s2 := by
    unfold vPart
    simp only [eCall_run, aCons_run, aNil_run, bind_ok, q0, q1, q2]
    exact e
  have q4 : (eSl slF (eVar 1) (oNone) (oSome (eVar 4))) (vE (.tup xs) h a3 (some (.int (k : Nat)))) s = .ok (.tup (xs.take k)) s := by
    rw [← cut_to xs k]
    rfl
  have q5 : (eSl slF (eVar 1) (oSome (eOp addF (eVar 4) (eC (.int 1)))) (oNone)) (vE (.tup xs) h a3 (some (.int (k : Nat)))) s2 = .ok (.tup (xs.drop (k + 1))) s2 := by
    rw [← cut_from xs (k + 1)]
    rfl
  have q6 : (eOp addF (eSl slF (eVar 1) (oNone) (oSome (eVar 4))) (eOf tupF1 (aCons vPart (aNil)))) (vE (.tup xs) h a3 (some (.int (k : Nat)))) s = .ok (.tup (xs.take k ++ [y])) s2 := by
    rw [eOp_run, q4, bind_ok, eOf_run]
    simp only [aCons_run, aNil_run, bind_ok, q3]
    have := List.length_take_le k xs
    rw [tup1 (by simp), lift_some, bind_ok, addF_tup (by rw [sizeLine_eq, List.length_singleton, List.length_take]; omega), lift_some]
  unfold vP6
  rw [eOp_run, q6, bind_ok, q5, bind_ok, addF_tup (by rw [sizeLine_eq, List.length_append, List.length_singleton, List.length_take, List.length_drop]; omega), lift_some]
end
theorem lineB_run {n : Nat} {d : D} {h : Int} {s : S} (g : GS s) (hr : Row n d) (hn : n ≤ 20) (h2 : 2 ≤ n) (hh : h.natAbs < 100000000000) : ∃ x s2, mf__law_line_bent [.drw, d, .int h] s = .ok x s2 ∧ Row (n + 1) x ∧ GS s2 := by
  obtain ⟨w, s1, e0, w0, w1, g1⟩ := take_run (n := 7) g (by decide) (by decide)
  have p0 : sSet 3 vTake [some (.dat .drw), some (.dat d), some (.dat (.int h)), none, none] s = .nx (vS d h w) s1 := by
    have q : vTake (dats [some (.dat .drw), some (.dat d), some (.dat (.int h)), none, none]) s = .ok (.int w) s1 := e0
    rw [set_run (runD_ok q)]
    rfl
  have fin : ∀ {x : D} {s2 : S}, m__law_line_bent [some (.dat .drw), some (.dat d), some (.dat (.int h)), none, none] s = .rt x s2 → Row (n + 1) x → GS s2 → ∃ x s2, mf__law_line_bent [.drw, d, .int h] s = .ok x s2 ∧ Row (n + 1) x ∧ GS s2 := fun e hx g2 => ⟨_, _, fn_rt rfl e, hx, g2⟩
  have odd : runT vT1 (vS d h w) s1 = .ok true s1 → ∃ x s2, mf__law_line_bent [.drw, d, .int h] s = .ok x s2 ∧ Row (n + 1) x ∧ GS s2 := fun t => by
    obtain ⟨x, s2, e1, hx, g2⟩ := vP1_run (d := d) (h := h) (a3 := some (.int w)) (a4 := none) g1
    refine fin ?_ (hx.mono (by omega)) g2
    rw [bentL_form, seq_nx p0]
    exact seq_rt (if_ret t (runD_ok (by rw [vS_dats]; exact e1)))
  by_cases hc : ∃ x r, d = .tup (x :: r)
  · obtain ⟨x0, r0, rfl⟩ := hc
    obtain ⟨hl, hx⟩ : (x0 :: r0).length ≤ n ∧ ∀ x ∈ x0 :: r0, el2 x := by
      rcases hr with ⟨_, hnc⟩ | ⟨ys, hc2, hl, hx⟩
      · exact absurd (.inl rfl) (hnc _)
      · rcases hc2 with e | e
        · cases e; exact ⟨hl, hx⟩
        · cases e
    by_cases z0 : w = 0
    · exact odd (by rw [vT1_tup, decide_eq_true z0])
    have base : m__law_line_bent [some (.dat .drw), some (.dat (.tup (x0 :: r0))), some (.dat (.int h)), none, none] s = sSeq (sIf (vC 1) (sRet vP2) sNext) (sSeq (sIf (vC 2) (sRet vP3) sNext) (sSeq (sIf (vC 3) (sRet vP4) sNext) (sSeq (sIf (vC 4) (sRet vP5) sNext) (sSeq (sSet 4 vSpot) (sRet vP6))))) (vS (.tup (x0 :: r0)) h w) s1 := by
      rw [bentL_form, seq_nx p0, seq_nx (if_nx (by rw [vT1_tup, decide_eq_false z0]))]
    have con1 : ∀ {ys : List D}, ys.length ≤ n + 1 → (∀ x ∈ ys, el2 x) → Row (n + 1) (.tup ys) := fun a b => .inr ⟨_, .inl rfl, a, b⟩
    by_cases z1 : w = 1
    · refine fin (x := .lst (x0 :: r0)) (s2 := s1) ?_ (.inr ⟨_, .inr rfl, by omega, hx⟩) g1
      rw [base]
      exact seq_rt (if_ret (by rw [vC_run, decide_eq_true z1]) (runD_ok rfl))
    by_cases z2 : w = 2
    · obtain ⟨y, s2, e1, hy, g2⟩ := vP3_run (h := h) (a3 := some (.int w)) (a4 := none) g1 hx (by omega)
      refine fin ?_ (con1 (ys := (x0 :: r0) ++ [y]) (by rw [List.length_append, List.length_singleton]; omega) fun x hx2 => ?_) g2
      · rw [base, seq_nx (if_nx (by rw [vC_run, decide_eq_false z1]))]
        exact seq_rt (if_ret (by rw [vC_run, decide_eq_true z2]) (runD_ok (by rw [vS_dats]; exact e1)))
      · rcases List.mem_append.mp hx2 with q | q
        · exact hx x q
        · cases List.mem_singleton.mp q; exact hy
    by_cases z3 : w = 3
    · refine fin (s2 := s1) ?_ (con1 (ys := cutL (x0 :: r0) none (some (-1))) (Nat.le_trans (len_cut _ _ _) (by omega)) fun x hx2 => hx x (mem_cut hx2)) g1
      rw [base, seq_nx (if_nx (by rw [vC_run, decide_eq_false z1])), seq_nx (if_nx (by rw [vC_run, decide_eq_false z2]))]
      exact seq_rt (if_ret (by rw [vC_run, decide_eq_true z3]) (runD_ok (by rw [vS_dats]; exact vP4_run)))
    by_cases z4 : w = 4
    · obtain ⟨y, s2, e1, hy, g2⟩ := vP5_run (xs := x0 :: r0) (h := h) (a3 := some (.int w)) (a4 := none) g1 (by omega)
      have hc := len_cut (x0 :: r0) (some 1) none
      refine fin ?_ (con1 (ys := [y] ++ cutL (x0 :: r0) (some 1) none) (by rw [List.length_append, List.length_singleton]; omega) fun x hx2 => ?_) g2
      · rw [base, seq_nx (if_nx (by rw [vC_run, decide_eq_false z1])), seq_nx (if_nx (by rw [vC_run, decide_eq_false z2])), seq_nx (if_nx (by rw [vC_run, decide_eq_false z3]))]
        exact seq_rt (if_ret (by rw [vC_run, decide_eq_true z4]) (runD_ok (by rw [vS_dats]; exact e1)))
      · rcases List.mem_append.mp hx2 with q | q
        · cases List.mem_singleton.mp q; exact hy
        · exact hx x (mem_cut q)
    · obtain ⟨k, s2, e1, hk, g2⟩ := vSpot_run (xs := x0 :: r0) (h := h) g1 (by simp) (by omega) (some (.int w)) none
      obtain ⟨y, s3, e2, hy, g3⟩ := vP6_run (xs := x0 :: r0) (h := h) (k := k) g2 hh hk (by omega) (some (.int w))
      refine fin ?_ (con1 (ys := (x0 :: r0).take k ++ [y] ++ (x0 :: r0).drop (k + 1)) (by rw [List.length_append, List.length_append, List.length_singleton, List.length_take, List.length_drop]; omega) fun x hx2 => ?_) g3
      · have p4 : sSet 4 vSpot (vS (.tup (x0 :: r0)) h w) s1 = .nx [some (.dat .drw), some (.dat (.tup (x0 :: r0))), some (.dat (.int h)), some (.dat (.int w)), some (.dat (.int (k : Nat)))] s2 := by
          have q : vSpot (dats (vS (.tup (x0 :: r0)) h w)) s1 = .ok (.int (k : Nat)) s2 := by rw [vS_dats]; exact e1
          rw [set_run (runD_ok q)]
          rfl
        rw [base, seq_nx (if_nx (by rw [vC_run, decide_eq_false z1])), seq_nx (if_nx (by rw [vC_run, decide_eq_false z2])), seq_nx (if_nx (by rw [vC_run, decide_eq_false z3])), seq_nx (if_nx (by rw [vC_run, decide_eq_false z4])), seq_nx p4]
        exact ret_run (runD_ok e2)
      · rcases List.mem_append.mp hx2 with q | q
        · rcases List.mem_append.mp q with q | q
          · exact hx x (List.mem_of_mem_take q)
          · cases List.mem_singleton.mp q; exact hy
        · exact hx x (List.mem_of_mem_drop q)
  · refine odd (vT1_no hr.ro.1 fun xs e => ?_)
    cases xs with
    | nil => rfl
    | cons x r => exact absurd ⟨x, r, e⟩ hc
end FL.K1
set_option Elab.async false
set_option linter.all false
set_option maxRecDepth 100000
set_option maxHeartbeats 4000000
namespace FL.K1
open PySem PySem.Spec PyProof.Rows L2 FL
/-! ### a list of rows, otherwise -/
def uLen : EM := eCall (mf__law_take) (aCons (eVar 0) (aCons (eOf lenF (aCons (eVar 1) (aNil))) (aNil)))
def uPar : AM := aCons (eCall (mf__law_take) (aCons (eVar 0) (aCons (eC (.int 8)) (aNil)))) (aCons uLen (aNil))
def uC (k : Int) : TM := mBl (eOp eqG (eVar 2) (eC (.int k)))
def uTo : EM := eSl slF (eVar 1) (oNone) (oSome (eVar 3))
def uFrom : EM := eSl slF (eVar 1) (oSome (eOp addF (eVar 3) (eC (.int 1)))) (oNone)
def uP0 : EM := eOp addF (eOp addF uTo uFrom) (eOf lstF1 (aCons (eOf tupF1 (aCons (eC (.str "false")) (aNil))) (aNil)))
def uMid : EM := eSl slF (eVar 1) (oSome (eVar 3)) (oSome (eOp addF (eVar 3) (eC (.int 1))))
def uEnd : EM := eSl slF (eVar 1) (oSome (eVar 3)) (oNone)
def uP1 : EM := eOp addF (eOp addF uTo uMid) uEnd
def uTwo : SM := sSeq (sSet 4 uLen) (sSeq (sOwnL 5 (aCons (eVar 1) (aNil))) (sSeq (sSwap 5 (aCons (eOp ixF (eVar 1) (eVar 4)) (aCons (eOp ixF (eVar 1) (eVar 3)) (aNil))) (eVar 3) (eVar 4)) (fun ρ s => (sRet (eVar 5)) (frz 5 ρ) s)))
def uOne : EM := eCall (mf__law_line_bent) (aCons (eVar 0) (aCons (eOp ixF (eVar 1) (eVar 3)) (aCons (eVar 3) (aNil))))
def uPL : EM := eOp addF (eOp addF uTo (eOf lstF1 (aCons uOne (aNil)))) uFrom
theorem bent_form : m__law_bent = sSeq (sPar [2, 3] uPar) (sSeq (sIf (uC 0) (sRet uP0) sNext) (sSeq (sIf (uC 1) (sRet uP1) sNext) (sSeq (sIf (uC 2) uTwo sNext) (sRet uPL)))) := rfl
theorem len_mid {α : Type} (xs : List α) (k : Nat) : (cutL xs (some (k : Int)) (some ((k : Int) + 1))).length ≤ 1 := by
  unfold cutL
  have e : ((k : Int) + 1) = ((k + 1 : Nat) : Int) := by omega
  rw [e, HT.sIx_nat, HT.sIx_nat, List.length_take]
  omega
section
variable {s : S} {xs : List D} {w : Int} {k : Nat} {a4 a5 : Option D}
def uE (xs : List D) (w : Int) (k : Nat) (a4 a5 : Option D) : Env := [some .drw, some (.lst xs), some (.int w), some (.int (k : Nat)), a4, a5]
theorem uTo_run : uTo (uE xs w k a4 a5) s = .ok (.lst (xs.take k)) s := by
  rw [← cut_to xs k]
  rfl
theorem uFrom_run : uFrom (uE xs w k a4 a5) s = .ok (.lst (xs.drop (k + 1))) s := by
  rw [← cut_from xs (k + 1)]
  rfl
theorem uEnd_run : uEnd (uE xs w k a4 a5) s = .ok (.lst (xs.drop k)) s := by
  rw [← cut_from xs k]
  rfl
theorem uMid_run : uMid (uE xs w k a4 a5) s = .ok (.lst (cutL xs (some (k : Int)) (some ((k : Int) + 1)))) s := rfl
theorem uLen_run (g : GS s) (h0 : 0 < xs.length) (hl : xs.length ≤ 1000) {ρ : Env} (e0 : eVar 0 ρ s = .ok .drw s) (e1 : eVar 1 ρ s = .ok (.lst xs) s) : ∃ (j : Nat) (s2 : S), uLen ρ s = .ok (.int (j : Nat)) s2 ∧ j < xs.length ∧ GS s2 := by
  obtain ⟨r, s2, e, r0, r1, g2⟩ := take_run (n := (xs.length : Nat)) g (by omega) (by omega)
  refine ⟨r.toNat, s2, ?_, by omega, g2⟩
  rw [Int.toNat_of_nonneg r0]
  have q1 : (eOf lenF (aCons (eVar 1) (aNil))) ρ s = .ok (.int (xs.length : Nat)) s := by
    simp only [eOf_run, aCons_run, aNil_run, bind_ok, e1]
    rfl
  unfold uLen
  simp only [eCall_run, aCons_run, aNil_run, bind_ok, e0, q1]
  exact e
theorem uOne_run {n : Nat} (g : GS s) (hx : ∀ x ∈ xs, Row n x) (hk : k < xs.length) (hl : xs.length ≤ 1000) (hn : n ≤ 20) (h2 : 2 ≤ n) : ∃ y s2, uOne (uE xs w k a4 a5) s = .ok y s2 ∧ Row (n + 1) y ∧ GS s2 := by
  obtain ⟨y, s2, e, hy, g2⟩ := lineB_run (d := xs[k]) (h := (k : Nat)) g (hx _ (List.getElem_mem hk)) hn h2 (by omega)
  refine ⟨y, s2, ?_, hy, g2⟩
  have q0 : (eVar 0) (uE xs w k a4 a5) s = .ok .drw s := rfl
  have q3 : (eVar 3) (uE xs w k a4 a5) s = .ok (.int (k : Nat)) s := rfl
  have q1 : (eOp ixF (eVar 1) (eVar 3)) (uE xs w k a4 a5) s = .ok xs[k] s := by
    show lift (atI xs (k : Nat)) s = _
    unfold atI
    rw [ix_in (by omega) (by omega), Int.toNat_natCast]
    show lift (xs[k]?) s = _
    rw [List.getElem?_eq_getElem hk, lift_some]
  unfold uOne
  simp only [eCall_run, aCons_run, aNil_run, bind_ok, q0, q1, q3]
  exact e
theorem uP0_run (hl : xs.length ≤ 1000) : uP0 (uE xs w k a4 a5) s = .ok (.lst (xs.take k ++ xs.drop (k + 1) ++ [.tup [.str "false"]])) s := by
  have q : (eOf lstF1 (aCons (eOf tupF1 (aCons (eC (.str "false")) (aNil))) (aNil))) (uE xs w k a4 a5) s = .ok (.lst [.tup [.str "false"]]) s := by
    simp only [eOf_run, aCons_run, aNil_run, bind_ok, eC_run]
    rw [tup1 (by simp), lift_some, bind_ok, bind_ok, lst1 (by simp), lift_some]
  have q2 : (eOp addF uTo uFrom) (uE xs w k a4 a5) s = .ok (.lst (xs.take k ++ xs.drop (k + 1))) s := by
    rw [eOp_run, uTo_run, bind_ok, uFrom_run, bind_ok, addF_lst (by rw [sizeLine_eq, List.length_take, List.length_drop]; omega), lift_some]
  unfold uP0
  rw [eOp_run, q2, bind_ok, q, bind_ok, addF_lst (by rw [sizeLine_eq, List.length_append, List.length_take, List.length_drop, List.length_singleton]; omega), lift_some]
theorem uP1_run (hl : xs.length ≤ 1000) : uP1 (uE xs w k a4 a5) s = .ok (.lst (xs.take k ++ cutL xs (some (k : Int)) (some ((k : Int) + 1)) ++ xs.drop k)) s := by
  have hm := len_mid xs k
  have q2 : (eOp addF uTo uMid) (uE xs w k a4 a5) s = .ok (.lst (xs.take k ++ cutL xs (some (k : Int)) (some ((k : Int) + 1)))) s := by
    rw [eOp_run, uTo_run, bind_ok, uMid_run, bind_ok, addF_lst (by rw [sizeLine_eq, List.length_take]; omega), lift_some]
  unfold uP1
  rw [eOp_run, q2, bind_ok, uEnd_run, bind_ok, addF_lst (by rw [sizeLine_eq, List.length_append, List.length_take, List.length_drop]; omega), lift_some]
theorem uPL_run {y : D} {s2 : S} (e : uOne (uE xs w k a4 a5) s = .ok y s2) (hl : xs.length ≤ 1000) : uPL (uE xs w k a4 a5) s = .ok (.lst (xs.take k ++ [y] ++ xs.drop (k + 1))) s2 := by
  have q : (eOf lstF1 (aCons uOne (aNil))) (uE xs w k a4 a5) s = .ok (.lst [y]) s2 := by
    simp only [eOf_run, aCons_run, aNil_run, bind_ok, e]
    rw [lst1 (by simp), lift_some]
  have q2 : (eOp addF uTo (eOf lstF1 (aCons uOne (aNil)))) (uE xs w k a4 a5) s = .ok (.lst (xs.take k ++ [y])) s2 := by
    rw [eOp_run, uTo_run, bind_ok, q, bind_ok, addF_lst (by rw [sizeLine_eq, List.length_take, List.length_singleton]; omega), lift_some]
  unfold uPL
  rw [eOp_run, q2, bind_ok, uFrom_run, bind_ok, addF_lst (by rw [sizeLine_eq, List.length_append, List.length_take, List.length_drop, List.length_singleton]; omega), lift_some]
end
end FL.K1
set_option Elab.async false
set_option linter.all false
set_option maxRecDepth 100000
set_option maxHeartbeats 4000000
namespace FL.K1
open PySem PySem.Spec PyProof.Rows L2 FL
section
variable {s : S} {xs : List D} {w : Int} {k j : Nat}
def uS (xs : List D) (w : Int) (k : Nat) (a4 a5 : Option Sl) : Sls := [some (.dat .drw), some (.dat (.lst xs)), some (.dat (.int w)), some (.dat (.int (k : Nat))), a4, a5]
theorem uS_dats (a4 a5 : Option Sl) : dats (uS xs w k a4 a5) = uE xs w k (datOf a4) (datOf a5) := rfl
theorem ixL_run {ρ : Env} {i : Nat} {e1 e2 : EM} (h1 : e1 ρ s = .ok (.lst xs) s) (h2 : e2 ρ s = .ok (.int (i : Nat)) s) (hi : i < xs.length) : (eOp ixF e1 e2) ρ s = .ok xs[i] s := by
  rw [eOp_run, h1, bind_ok, h2, bind_ok]
  show lift (atI xs (i : Nat)) s = _
  unfold atI
  rw [ix_in (by omega) (by omega), Int.toNat_natCast]
  show lift (xs[i]?) s = _
  rw [List.getElem?_eq_getElem hi, lift_some]
theorem uTwo_run (g : GS s) (hk : k < xs.length) (hl : xs.length ≤ 1000) : ∃ ys s2, uTwo (uS xs w k none none) s = .rt (.lst ys) s2 ∧ ys.length = xs.length ∧ (∀ y ∈ ys, y ∈ xs) ∧ GS s2 := by
  obtain ⟨j, s2, e, hj, g2⟩ := uLen_run (xs := xs) (ρ := uE xs w k none none) g (by omega) hl rfl rfl
  have p1 : sSet 4 uLen (uS xs w k none none) s = .nx (uS xs w k (some (.dat (.int (j : Nat)))) none) s2 := by
    have q : uLen (dats (uS xs w k none none)) s = .ok (.int (j : Nat)) s2 := by rw [uS_dats]; exact e
    rw [set_run (runD_ok q)]
    rfl
  have p2 : sOwnL 5 (aCons (eVar 1) aNil) (uS xs w k (some (.dat (.int (j : Nat)))) none) s2 = .nx (uS xs w k (some (.dat (.int (j : Nat)))) (some (.own xs))) s2 := rfl
  have q1 : (eVar 1) (uE xs w k (some (.int (j : Nat))) none) s2 = .ok (.lst xs) s2 := rfl
  have q3 : (eVar 3) (uE xs w k (some (.int (j : Nat))) none) s2 = .ok (.int (k : Nat)) s2 := rfl
  have q4 : (eVar 4) (uE xs w k (some (.int (j : Nat))) none) s2 = .ok (.int (j : Nat)) s2 := rfl
  have ra : runA (aCons (eOp ixF (eVar 1) (eVar 4)) (aCons (eOp ixF (eVar 1) (eVar 3)) (aNil))) (uS xs w k (some (.dat (.int (j : Nat)))) (some (.own xs))) s2 = .ok [xs[j], xs[k]] s2 := by
    show (aCons (eOp ixF (eVar 1) (eVar 4)) (aCons (eOp ixF (eVar 1) (eVar 3)) (aNil))) (uE xs w k (some (.int (j : Nat))) none) s2 = _
    simp only [aCons_run, aNil_run, ixL_run q1 q4 hj, ixL_run q1 q3 hk, bind_ok]
  have st1 : setAt 5 xs[j] (.int (k : Nat)) (uS xs w k (some (.dat (.int (j : Nat)))) (some (.own xs))) = some (uS xs w k (some (.dat (.int (j : Nat)))) (some (.own (xs.set k xs[j])))) := by
    show (ixN xs.length (k : Nat)).map _ = _
    rw [ix_in (by omega) (by omega), Int.toNat_natCast]
    rfl
  have st2 : setAt 5 xs[k] (.int (j : Nat)) (uS xs w k (some (.dat (.int (j : Nat)))) (some (.own (xs.set k xs[j])))) = some (uS xs w k (some (.dat (.int (j : Nat)))) (some (.own ((xs.set k xs[j]).set j xs[k])))) := by
    show (ixN (xs.set k xs[j]).length (j : Nat)).map _ = _
    rw [ix_in (by omega) (by rw [List.length_set]; omega), Int.toNat_natCast]
    rfl
  have r3 : ∀ zs, runD (eVar 3) (uS xs w k (some (.dat (.int (j : Nat)))) (some (.own zs))) s2 = .ok (.int (k : Nat)) s2 := fun zs => runD_ok rfl
  have r4 : ∀ zs, runD (eVar 4) (uS xs w k (some (.dat (.int (j : Nat)))) (some (.own zs))) s2 = .ok (.int (j : Nat)) s2 := fun zs => runD_ok rfl
  have p3 : sSwap 5 (aCons (eOp ixF (eVar 1) (eVar 4)) (aCons (eOp ixF (eVar 1) (eVar 3)) (aNil))) (eVar 3) (eVar 4) (uS xs w k (some (.dat (.int (j : Nat)))) (some (.own xs))) s2 = .nx (uS xs w k (some (.dat (.int (j : Nat)))) (some (.own ((xs.set k xs[j]).set j xs[k])))) s2 := by
    unfold sSwap
    show after (runA _ _ s2) _ _ = _
    rw [ra, after_ok]
    show after (runD (eVar 3) _ s2) _ _ = _
    rw [r3, after_ok, st1]
    unfold oS
    dsimp only
    rw [r4, after_ok, st2]
  refine ⟨(xs.set k xs[j]).set j xs[k], s2, ?_, by rw [List.length_set, List.length_set], fun y hy => ?_, g2⟩
  · unfold uTwo
    rw [seq_nx p1, seq_nx p2, seq_nx p3]
    rfl
  · rcases List.mem_or_eq_of_mem_set hy with h | rfl
    · rcases List.mem_or_eq_of_mem_set h with h | rfl
      · exact h
      · exact List.getElem_mem hj
    · exact List.getElem_mem hk
end
theorem bent_run {n : Nat} {xs : List D} {s : S} (g : GS s) (hx : ∀ x ∈ xs, Row n x) (h0 : 0 < xs.length) (hl : xs.length ≤ 900) (hn : n ≤ 20) (h2 : 3 ≤ n) : ∃ ys s2, mf__law_bent [.drw, .lst xs] s = .ok (.lst ys) s2 ∧ 0 < ys.length ∧ ys.length ≤ xs.length + 1 ∧ (∀ y ∈ ys, Row (n + 1) y) ∧ GS s2 := by
  obtain ⟨w, s1, e1, w0, w1, g1⟩ := take_run (n := 8) g (by decide) (by decide)
  obtain ⟨k, s2, e2, hk, g2⟩ := uLen_run (xs := xs) (ρ := [some .drw, some (.lst xs), none, none, none, none]) g1 h0 (by omega) rfl rfl
  have p0 : sPar [2, 3] uPar [some (.dat .drw), some (.dat (.lst xs)), none, none, none, none] s = .nx (uS xs w k none none) s2 := by
    have q : runA uPar [some (.dat .drw), some (.dat (.lst xs)), none, none, none, none] s = .ok [.int w, .int (k : Nat)] s2 := by
      have f : (eCall (mf__law_take) (aCons (eVar 0) (aCons (eC (.int 8)) (aNil)))) [some .drw, some (.lst xs), none, none, none, none] s = .ok (.int w) s1 := e1
      show uPar [some .drw, some (.lst xs), none, none, none, none] s = _
      unfold uPar
      simp only [aCons_run, aNil_run, f, bind_ok, e2]
    unfold sPar
    rw [q]
    rfl
  have fin : ∀ {ys : List D} {s3 : S}, m__law_bent [some (.dat .drw), some (.dat (.lst xs)), none, none, none, none] s = .rt (.lst ys) s3 → 0 < ys.length → ys.length ≤ xs.length + 1 → (∀ y ∈ ys, Row (n + 1) y) → GS s3 → ∃ ys s2, mf__law_bent [.drw, .lst xs] s = .ok (.lst ys) s2 ∧ 0 < ys.length ∧ ys.length ≤ xs.length + 1 ∧ (∀ y ∈ ys, Row (n + 1) y) ∧ GS s2 := fun e a b c g => ⟨_, _, fn_rt rfl e, a, b, c, g⟩
  have up : ∀ {y}, y ∈ xs → Row (n + 1) y := fun hy => (hx _ hy).mono (by omega)
  have tC : ∀ c : Int, runT (uC c) (uS xs w k none none) s2 = .ok (decide (w = c)) s2 := fun c => runT_ok rfl
  by_cases z0 : w = 0
  · refine fin (ys := xs.take k ++ xs.drop (k + 1) ++ [.tup [.str "false"]]) (s3 := s2) ?_ (by rw [List.length_append, List.length_singleton]; omega) (by rw [List.length_append, List.length_append, List.length_take, List.length_drop, List.length_singleton]; omega) (fun y hy => ?_) g2
    · rw [bent_form, seq_nx p0]
      exact seq_rt (if_ret (by rw [tC, decide_eq_true z0]) (runD_ok (by rw [uS_dats]; exact uP0_run (by omega))))
    · rcases List.mem_append.mp hy with q | q
      · rcases List.mem_append.mp q with q | q
        · exact up (List.mem_of_mem_take q)
        · exact up (List.mem_of_mem_drop q)
      · cases List.mem_singleton.mp q
        exact row_falseR.mono (by omega)
  by_cases z1 : w = 1
  · have hm := len_mid xs k
    refine fin (ys := xs.take k ++ cutL xs (some (k : Int)) (some ((k : Int) + 1)) ++ xs.drop k) (s3 := s2) ?_ (by rw [List.length_append, List.length_append, List.length_take, List.length_drop]; omega) (by rw [List.length_append, List.length_append, List.length_take, List.length_drop]; omega) (fun y hy => ?_) g2
    · rw [bent_form, seq_nx p0, seq_nx (if_nx (by rw [tC, decide_eq_false z0]))]
      exact seq_rt (if_ret (by rw [tC, decide_eq_true z1]) (runD_ok (by rw [uS_dats]; exact uP1_run (by omega))))
    · rcases List.mem_append.mp hy with q | q
      · rcases List.mem_append.mp q with q | q
        · exact up (List.mem_of_mem_take q)
        · exact up (mem_cut q)
      · exact up (List.mem_of_mem_drop q)
  by_cases z2 : w = 2
  · obtain ⟨ys, s3, e3, l3, m3, g3⟩ := uTwo_run (w := w) (k := k) g2 hk (by omega)
    refine fin (ys := ys) (s3 := s3) ?_ (by omega) (by omega) (fun y hy => up (m3 y hy)) g3
    rw [bent_form, seq_nx p0, seq_nx (if_nx (by rw [tC, decide_eq_false z0])), seq_nx (if_nx (by rw [tC, decide_eq_false z1]))]
    exact seq_rt (by rw [if_yes (by rw [tC, decide_eq_true z2])]; exact e3)
  · obtain ⟨y, s3, e3, hy, g3⟩ := uOne_run (w := w) (k := k) (a4 := none) (a5 := none) g2 hx hk (by omega) hn (by omega)
    refine fin (ys := xs.take k ++ [y] ++ xs.drop (k + 1)) (s3 := s3) ?_ (by rw [List.length_append, List.length_append, List.length_singleton]; omega) (by rw [List.length_append, List.length_append, List.length_take, List.length_drop, List.length_singleton]; omega) (fun z hz => ?_) g3
    · rw [bent_form, seq_nx p0, seq_nx (if_nx (by rw [tC, decide_eq_false z0])), seq_nx (if_nx (by rw [tC, decide_eq_false z1])), seq_nx (if_nx (by rw [tC, decide_eq_false z2]))]
      exact ret_run (runD_ok (by rw [uS_dats]; exact uPL_run e3 (by omega)))
    · rcases List.mem_append.mp hz with q | q
      · rcases List.mem_append.mp q with q | q
        · exact up (List.mem_of_mem_take q)
        · cases List.mem_singleton.mp q
          exact hy
      · exact up (List.mem_of_mem_drop q)
end FL.K1
set_option Elab.async false
set_option linter.all false
set_option maxRecDepth 100000
set_option maxHeartbeats 4000000
namespace FL.K1
open PySem PySem.Spec PyProof.Rows L2 FL
/-! ### of anything whether it is a move -/
def xPick : EM := eCall (mf__law_pick) (aCons (eVar 0) (aCons (eCall (mf__law_words) (aCons (eVar 0) (aCons (eC (.int 2)) (aNil)))) (aNil)))
def xSpot : EM := eCall (mf__law_take) (aCons (eVar 0) (aCons (eOp addF (eOf lenF (aCons (eVar 1) (aNil))) (eC (.int 1))) (aNil)))
def xEight : EM := eOf lstF1 (aCons (eC (.str "A")) (aCons (eC (.str " ")) (aCons (eC (.str "1")) (aCons (eC (.str "_")) (aCons (eC (.str "")) (aCons (eC (.str "q")) (aCons (eC (.str "qqqqqqq")) (aCons (eC (.str "-")) (aNil)))))))))
def xBent : EM := eOp addF (eOp addF (eSl slF (eVar 1) (oNone) (oSome (eVar 2))) (eCall (mf__law_pick) (aCons (eVar 0) (aCons xEight (aNil))))) (eSl slF (eVar 1) (oSome (eVar 2)) (oNone))
def xOdd : EM := eOf lstF1 (aCons (eC .non) (aCons (eC (.int 5)) (aCons (eC (.bl true)) (aCons (eOf lstF1 (aCons (eVar 1) (aNil))) (aCons (eOf tupF1 (aCons (eVar 1) (aNil))) (aCons (eDisp1 (eVar 1) (eC (.int 1))) (aCons (eC (.str "")) (aCons (eC (.str "ninelette")) (aCons (eC (.str "eightlet")) (aNil))))))))))
def xThree : EM := eOf lstF1 (aCons (eVar 1) (aCons (eVar 3) (aCons (eCall (mf__law_pick) (aCons (eVar 0) (aCons (eVar 4) (aNil)))) (aNil))))
def xTest : TM := mOr (mNot (mTru (eOf isiF (aCons (eVar 6) (aCons (eC (.ty "bool")) (aNil)))))) (mBl (eOp neG (eVar 6) (eCall (mf__law_is_word) (aCons (eVar 5) (aNil)))))
def xBody : SM := sSeq (sSet 6 (eCall (mf_is_move) (aCons (eVar 5) (aNil)))) (sIf xTest (sRet (eC (.bl false))) sNext)
theorem moveR_form : m__law_move_right = sSeq (sSet 1 xPick) (sSeq (sSet 2 xSpot) (sSeq (sSet 3 xBent) (sSeq (sSet 4 xOdd) (sSeq (sFor (b1 5) (iOf itemsF xThree) xBody) (sRet (eC (.bl true))))))) := rfl

section
variable {s : S}
def yS (w : Str) (k : Nat) (b : Str) (o : List D) (a5 a6 : Option Sl) : Sls := [some (.dat .drw), some (.dat (.str w)), some (.dat (.int (k : Nat))), some (.dat (.str b)), some (.dat (.lst o)), a5, a6]
theorem xBody_run {w b : Str} {k : Nat} {o : List D} {t : D} (h : el t) (a6 : Option Sl) : xBody (yS w k b o (some (.dat t)) a6) s = .nx (yS w k b o (some (.dat t)) (some (.dat (.bl (wordB t))))) s := by
  have e1 : (eCall (mf_is_move) (aCons (eVar 5) (aNil))) (dats (yS w k b o (some (.dat t)) a6)) s = .ok (.bl (wordB t)) s := is_move_run h.1 h.2 s
  have p1 : sSet 6 (eCall (mf_is_move) (aCons (eVar 5) (aNil))) (yS w k b o (some (.dat t)) a6) s = .nx (yS w k b o (some (.dat t)) (some (.dat (.bl (wordB t))))) s := by
    rw [set_run (runD_ok e1)]
    rfl
  have e2 : (eCall (mf__law_is_word) (aCons (eVar 5) (aNil))) [some .drw, some (.str w), some (.int (k : Nat)), some (.str b), some (.lst o), some t, some (.bl (wordB t))] s = .ok (.bl (wordB t)) s := is_word_run h.1 h.2 s
  have t2 : runT xTest (yS w k b o (some (.dat t)) (some (.dat (.bl (wordB t))))) s = .ok false s := runT_ok (by
    show xTest [some .drw, some (.str w), some (.int (k : Nat)), some (.str b), some (.lst o), some t, some (.bl (wordB t))] s = _
    have f1 : (mNot (mTru (eOf isiF (aCons (eVar 6) (aCons (eC (.ty "bool")) (aNil)))))) [some .drw, some (.str w), some (.int (k : Nat)), some (.str b), some (.lst o), some t, some (.bl (wordB t))] s = .ok false s := rfl
    have f2 : (eVar 6) [some .drw, some (.str w), some (.int (k : Nat)), some (.str b), some (.lst o), some t, some (.bl (wordB t))] s = .ok (.bl (wordB t)) s := rfl
    have f3 : neG (.bl (wordB t)) (.bl (wordB t)) = some (.bl false) := by
      show some (D.bl (!decide (wordB t = wordB t))) = _
      rw [decide_eq_true rfl]
      rfl
    unfold xTest
    rw [mOr_run, f1, bind_ok, if_neg Bool.false_ne_true, mBl_run, eOp_run, f2, bind_ok, e2, bind_ok, f3]
    rfl)
  unfold xBody
  rw [seq_nx p1, if_nx t2]
theorem xLoop {w b : Str} {k : Nat} {o : List D} : ∀ (ts : List D) (a5 a6 : Option Sl), (∀ t ∈ ts, el t) → ∃ b5 b6, forL (b1 5) xBody ts (yS w k b o a5 a6) s = .nx (yS w k b o b5 b6) s
  | [], a5, a6, _ => ⟨a5, a6, rfl⟩
  | t :: ts, a5, a6, h => by
    obtain ⟨b5, b6, e⟩ := xLoop (w := w) (b := b) (k := k) (o := o) ts (some (.dat t)) (some (.dat (.bl (wordB t)))) fun y hy => h y (List.mem_cons_of_mem _ hy)
    refine ⟨b5, b6, ?_⟩
    have e1 := xBody_run (s := s) (w := w) (b := b) (k := k) (o := o) (h t List.mem_cons_self) a6
    unfold forL
    show (match xBody (yS w k b o (some (.dat t)) a6) s with
      | .nx ρ2 s2 => forL (b1 5) xBody ts ρ2 s2
      | .ct ρ2 s2 => forL (b1 5) xBody ts ρ2 s2
      | .bk ρ2 s2 => RS.nx ρ2 s2
      | .rt d s2 => .rt d s2
      | .ex C fs ρ2 s2 => .ex C fs ρ2 s2
      | .bad => .bad) = _
    rw [e1]
    exact e
def oddX (w : Str) : List D := [.non, .int 5, .bl true, .lst [.str w], .tup [.str w], .dic [(.inr w, .int 1)], .str "", .str "ninelette", .str "eightlet"]
theorem el_str {z : Str} (h : z.length ≤ 100 ∧ z.cps.toList.all (fun c => decide (c < 128)) = true) : el (.str z) := ⟨rfl, fun z2 e => by cases e; exact h⟩
theorem oddX_el (w : Str) : ∀ d ∈ oddX w, el d := by
  intro d hd
  unfold oddX at hd
  simp only [List.mem_cons, List.not_mem_nil, or_false] at hd
  rcases hd with rfl | rfl | rfl | rfl | rfl | rfl | rfl | rfl | rfl
  · exact ⟨rfl, fun z e => by cases e⟩
  · exact ⟨rfl, fun z e => by cases e⟩
  · exact ⟨rfl, fun z e => by cases e⟩
  · exact ⟨rfl, fun z e => by cases e⟩
  · exact ⟨rfl, fun z e => by cases e⟩
  · exact ⟨rfl, fun z e => by cases e⟩
  · exact el_str (by decide +kernel)
  · exact el_str (by decide +kernel)
  · exact el_str (by decide +kernel)
def eightL : List D := [.str "A", .str " ", .str "1", .str "_", .str "", .str "q", .str "qqqqqqq", .str "-"]
theorem eight_str : ∀ d ∈ eightL, ∃ z, d = .str z ∧ z.length ≤ 7 ∧ z.cps.toList.all (fun c => decide (c < 128)) = true := by
  intro d hd
  unfold eightL at hd
  simp only [List.mem_cons, List.not_mem_nil, or_false] at hd
  rcases hd with rfl | rfl | rfl | rfl | rfl | rfl | rfl | rfl <;> exact ⟨_, rfl, by decide +kernel, by decide +kernel⟩
theorem cutS_len (z : Str) (lo hi : Option Int) : (cutS z lo hi).length ≤ z.length := by
  show (((z.cps.toList.drop (HT.sIx z.length 0 lo)).take (HT.sIx z.length z.length hi - HT.sIx z.length 0 lo)).toArray).size ≤ z.length
  rw [List.size_toArray, List.length_take, List.length_drop]
  have e : z.cps.toList.length = z.length := rfl
  omega
theorem cutS_asc {z : Str} (lo hi : Option Int) (h : z.cps.toList.all (fun c => decide (c < 128)) = true) : (cutS z lo hi).cps.toList.all (fun c => decide (c < 128)) = true := by
  show (((z.cps.toList.drop (HT.sIx z.length 0 lo)).take (HT.sIx z.length z.length hi - HT.sIx z.length 0 lo)).toArray).toList.all _ = true
  rw [List.toList_toArray, List.all_eq_true] at *
  exact fun x hx => h x (List.mem_of_mem_drop (List.mem_of_mem_take hx))
theorem slS {w : Str} (h : w.length ≤ 100) (lo hi : Option Int) : slF (.str w) lo hi = some (.str (cutS w lo hi)) := if_pos (line100 h)
theorem moveR_run (g : GS s) : ∃ s2, mf__law_move_right [.drw] s = .ok (.bl true) s2 ∧ GS s2 := by
  obtain ⟨ws, s1, e1, l1, hw, g1⟩ := words_run (m := 2) g (by decide)
  obtain ⟨wd1, s2, e2, m2, g2⟩ := pick_run (xs := ws) g1 (by intro z; rw [z] at l1; cases l1) (by omega)
  obtain ⟨w, rfl, hw1, hw2⟩ := hw _ m2
  have lenE : lenF [D.str w] = some (.int (w.length : Nat)) := if_pos (line100 (by omega))
  obtain ⟨r, s3, e3, r0, r1, g3⟩ := take_run (n := (w.length : Nat) + 1) g2 (by omega) (by omega)
  obtain ⟨q, s4, e4, m4, g4⟩ := pick_run (xs := eightL) g3 (by unfold eightL; simp) (by unfold eightL; simp)
  obtain ⟨z, rfl, hz1, hz2⟩ := eight_str _ m4
  obtain ⟨od, s5, e5, m5, g5⟩ := pick_run (xs := oddX w) g4 (by unfold oddX; simp) (by unfold oddX; simp)
  have er : ((r.toNat : Nat) : Int) = r := Int.toNat_of_nonneg r0
  have p1 : sSet 1 xPick [some (.dat .drw), none, none, none, none, none, none] s = .nx [some (.dat .drw), some (.dat (.str w)), none, none, none, none, none] s2 := by
    have f : xPick (dats [some (.dat .drw), none, none, none, none, none, none]) s = .ok (.str w) s2 := by
      have f0 : (eVar 0) [some .drw, none, none, none, none, none, none] s = .ok .drw s := rfl
      have f1 : (eCall (mf__law_words) (aCons (eVar 0) (aCons (eC (.int 2)) (aNil)))) [some .drw, none, none, none, none, none, none] s = .ok (.lst ws) s1 := e1
      show xPick [some .drw, none, none, none, none, none, none] s = _
      unfold xPick
      simp only [eCall_run, aCons_run, aNil_run, bind_ok, f0]
      have f2 := f1
      simp only [eCall_run, aCons_run, aNil_run, bind_ok, f0] at f2
      rw [f2]
      exact e2
    rw [set_run (runD_ok f)]
    rfl
  have p2 : sSet 2 xSpot [some (.dat .drw), some (.dat (.str w)), none, none, none, none, none] s2 = .nx [some (.dat .drw), some (.dat (.str w)), some (.dat (.int r)), none, none, none, none] s3 := by
    have f : xSpot (dats [some (.dat .drw), some (.dat (.str w)), none, none, none, none, none]) s2 = .ok (.int r) s3 := by
      have f0 : (eVar 0) [some .drw, some (.str w), none, none, none, none, none] s2 = .ok .drw s2 := rfl
      have f1 : (eOf lenF (aCons (eVar 1) (aNil))) [some .drw, some (.str w), none, none, none, none, none] s2 = .ok (.int (w.length : Nat)) s2 := by
        show lift (lenF [D.str w]) s2 = _
        rw [lenE, lift_some]
      have f3 : (eOp addF (eOf lenF (aCons (eVar 1) (aNil))) (eC (.int 1))) [some .drw, some (.str w), none, none, none, none, none] s2 = .ok (.int ((w.length : Nat) + 1)) s2 := by
        rw [eOp_run, f1, bind_ok, eC_run, bind_ok]
        rfl
      show xSpot [some .drw, some (.str w), none, none, none, none, none] s2 = _
      unfold xSpot
      simp only [eCall_run, aCons_run, aNil_run, bind_ok, f0, f3]
      exact e3
    rw [set_run (runD_ok f)]
    rfl
  have c1 := cutS_len w none (some r)
  have c2 := cutS_len w (some r) none
  have p3 : sSet 3 xBent [some (.dat .drw), some (.dat (.str w)), some (.dat (.int r)), none, none, none, none] s3 = .nx [some (.dat .drw), some (.dat (.str w)), some (.dat (.int r)), some (.dat (.str (cutS w none (some r) ++ z ++ cutS w (some r) none))), none, none, none] s4 := by
    have f : xBent (dats [some (.dat .drw), some (.dat (.str w)), some (.dat (.int r)), none, none, none, none]) s3 = .ok (.str (cutS w none (some r) ++ z ++ cutS w (some r) none)) s4 := by
      show xBent [some .drw, some (.str w), some (.int r), none, none, none, none] s3 = _
      have f0 : (eVar 0) [some .drw, some (.str w), some (.int r), none, none, none, none] s3 = .ok .drw s3 := rfl
      have f1 : (eSl slF (eVar 1) (oNone) (oSome (eVar 2))) [some .drw, some (.str w), some (.int r), none, none, none, none] s3 = .ok (.str (cutS w none (some r))) s3 := by
        show lift (slF (.str w) none (some r)) s3 = _
        rw [slS (by omega), lift_some]
      have f2 : (eSl slF (eVar 1) (oSome (eVar 2)) (oNone)) [some .drw, some (.str w), some (.int r), none, none, none, none] s4 = .ok (.str (cutS w (some r) none)) s4 := by
        show lift (slF (.str w) (some r) none) s4 = _
        rw [slS (by omega), lift_some]
      have f3 : xEight [some .drw, some (.str w), some (.int r), none, none, none, none] s3 = .ok (.lst eightL) s3 := by
        show lift (lstF1 eightL) s3 = _
        rw [lst1 (by unfold eightL; simp), lift_some]
      have f4 : (eCall (mf__law_pick) (aCons (eVar 0) (aCons xEight (aNil)))) [some .drw, some (.str w), some (.int r), none, none, none, none] s3 = .ok (.str z) s4 := by
        simp only [eCall_run, aCons_run, aNil_run, bind_ok, f0, f3]
        exact e4
      unfold xBent
      rw [eOp_run, eOp_run, f1, bind_ok, f4, bind_ok, addF_str (by rw [sizeLine_eq]; omega), lift_some, bind_ok, f2, bind_ok, addF_str (by rw [sizeLine_eq, app_len]; omega), lift_some]
    rw [set_run (runD_ok f)]
    rfl
  generalize hb : cutS w none (some r) ++ z ++ cutS w (some r) none = b at p3
  have hbt : b.length ≤ 100 ∧ b.cps.toList.all (fun c => decide (c < 128)) = true := by
    rw [← hb]
    refine ⟨by rw [app_len, app_len]; omega, ?_⟩
    rw [app_list, app_list, List.all_append, List.all_append, cutS_asc _ _ hw2, cutS_asc _ _ hw2, hz2]
    rfl
  have p4 : sSet 4 xOdd [some (.dat .drw), some (.dat (.str w)), some (.dat (.int r)), some (.dat (.str b)), none, none, none] s4 = .nx (yS w r.toNat b (oddX w) none none) s4 := by
    have f : xOdd (dats [some (.dat .drw), some (.dat (.str w)), some (.dat (.int r)), some (.dat (.str b)), none, none, none]) s4 = .ok (.lst (oddX w)) s4 := by
      show xOdd [some .drw, some (.str w), some (.int r), some (.str b), none, none, none] s4 = _
      have f1 : (eVar 1) [some .drw, some (.str w), some (.int r), some (.str b), none, none, none] s4 = .ok (.str w) s4 := rfl
      have f2 : (eOf lstF1 (aCons (eVar 1) (aNil))) [some .drw, some (.str w), some (.int r), some (.str b), none, none, none] s4 = .ok (.lst [.str w]) s4 := by
        show lift (lstF1 [.str w]) s4 = _
        rw [lst1 (by simp), lift_some]
      have f3 : (eOf tupF1 (aCons (eVar 1) (aNil))) [some .drw, some (.str w), some (.int r), some (.str b), none, none, none] s4 = .ok (.tup [.str w]) s4 := by
        show lift (tupF1 [.str w]) s4 = _
        rw [tup1 (by simp), lift_some]
      have f4 : (eDisp1 (eVar 1) (eC (.int 1))) [some .drw, some (.str w), some (.int r), some (.str b), none, none, none] s4 = .ok (.dic [(.inr w, .int 1)]) s4 := rfl
      unfold xOdd
      rw [eOf_run]
      simp only [aCons_run, aNil_run, eC_run, bind_ok, f2, f3, f4]
      rw [lst1 (by simp), lift_some]
      rfl
    rw [set_run (runD_ok f)]
    unfold yS
    rw [er]
    rfl
  have p5 : runA (iOf itemsF xThree) (yS w r.toNat b (oddX w) none none) s4 = .ok [.str w, .str b, od] s5 := by
    have f0 : (eVar 0) (dats (yS w r.toNat b (oddX w) none none)) s4 = .ok .drw s4 := rfl
    have f1 : (eVar 1) (dats (yS w r.toNat b (oddX w) none none)) s4 = .ok (.str w) s4 := rfl
    have f3 : (eVar 3) (dats (yS w r.toNat b (oddX w) none none)) s4 = .ok (.str b) s4 := rfl
    have f4 : (eVar 4) (dats (yS w r.toNat b (oddX w) none none)) s4 = .ok (.lst (oddX w)) s4 := rfl
    unfold runA xThree
    simp only [iOf_run, eOf_run, aCons_run, aNil_run, bind_ok, f0, f1, f3, f4, eCall_run, e5]
    rw [lst1 (by simp), lift_some, bind_ok]
    rfl
  obtain ⟨b5, b6, e6⟩ := xLoop (s := s5) (w := w) (b := b) (k := r.toNat) (o := oddX w) [.str w, .str b, od] none none fun t ht => by
    simp only [List.mem_cons, List.not_mem_nil, or_false] at ht
    rcases ht with rfl | rfl | rfl
    · exact el_str ⟨by omega, hw2⟩
    · exact el_str hbt
    · exact oddX_el w _ m5
  have p6 : sFor (b1 5) (iOf itemsF xThree) xBody (yS w r.toNat b (oddX w) none none) s4 = .nx (yS w r.toNat b (oddX w) b5 b6) s5 := by
    unfold sFor
    rw [p5]
    exact e6
  refine ⟨s5, fn_rt rfl ?_, g5⟩
  show m__law_move_right [some (.dat .drw), none, none, none, none, none, none] s = _
  rw [moveR_form, seq_nx p1, seq_nx p2, seq_nx p3, seq_nx p4, seq_nx p6]
  exact ret_run (runD_ok rfl)
end
end FL.K1
set_option Elab.async false
set_option linter.all false
set_option maxRecDepth 100000
set_option maxHeartbeats 4000000
namespace FL.K1
open PySem PySem.Spec PyProof.Rows L2 FL
/-! ### long lists -/
def gd (x : D) : Prop := ro x ∧ ∀ i : Nat, 1 ≤ i → rowB x (i : Nat) = true
def rNot0 : D := .tup [.str "not", .int 0]
def rSh0 : D := .tup [.str "shown", .int 99, .int 0]
def rF : D := .tup [.str "false"]
theorem ro_of {n : Nat} {d : D} (h : Row n d) : ro d := h.ro
theorem rowNot {i : Int} (h : i.natAbs < 1000000) : Row 3 (.tup [.str "not", .int i]) := .inr ⟨_, .inl rfl, by simp, fun x hx => by
  simp only [List.mem_cons, List.not_mem_nil, or_false] at hx
  rcases hx with rfl | rfl
  · exact kw (by simp)
  · exact el2_int (by omega)⟩
theorem rowSh {k i : Int} (h : i.natAbs < 1000000) (h2 : k.natAbs < 1000000) : Row 3 (.tup [.str "shown", .int k, .int i]) := .inr ⟨_, .inl rfl, by simp, fun x hx => by
  simp only [List.mem_cons, List.not_mem_nil, or_false] at hx
  rcases hx with rfl | rfl | rfl
  · exact kw (by simp)
  · exact el2_int (by omega)
  · exact el2_int (by omega)⟩
theorem gd_not : gd rNot0 := ⟨(rowNot (by decide)).ro, fun i hi => by
  show (decide ((("not" : Str)) = "not") && (decide ((0 : Int) ≤ 0) && decide ((0 : Int) < (i : Nat)))) = true
  rw [decide_eq_true rfl, decide_eq_true (by omega), decide_eq_true (show (0 : Int) < (i : Nat) by omega)]
  rfl⟩
theorem gd_sh : gd rSh0 := ⟨(rowSh (by decide) (by decide)).ro, fun i hi => by
  show ((decide ((0 : Int) ≤ 99) && decide ((99 : Int) < 100)) && (decide ((0 : Int) ≤ 0) && decide ((0 : Int) < (i : Nat)))) = true
  rw [decide_eq_true (show (0 : Int) < (i : Nat) by omega)]
  rfl⟩
theorem fb_good : ∀ {xs : List D} {k : Nat}, (∀ x ∈ xs, gd x) → 1 ≤ k → firstBad xs k = none
  | [], _, _, _ => rfl
  | x :: r, k, h, hk => by
    unfold firstBad
    rw [(h x List.mem_cons_self).2 k hk, if_pos rfl]
    exact fb_good (fun y hy => h y (List.mem_cons_of_mem _ hy)) (by omega)
theorem fb_t {x : D} {r : List D} {k : Nat} (h : rowB x (k : Nat) = true) : firstBad (x :: r) k = firstBad r (k + 1) := if_pos h
theorem fb_f {x : D} {r : List D} {k : Nat} (h : rowB x (k : Nat) = false) : firstBad (x :: r) k = some k := if_neg (by rw [h]; exact Bool.false_ne_true)
theorem fb_append : ∀ {a b : List D} {k : Nat}, firstBad a k = none → firstBad (a ++ b) k = firstBad b (k + a.length)
  | [], b, k, _ => rfl
  | x :: r, b, k, h => by
    cases hr : rowB x (k : Nat) with
    | false => rw [fb_f hr] at h; cases h
    | true =>
      rw [fb_t hr] at h
      have e : k + 1 + r.length = k + (r.length + 1) := by omega
      rw [List.cons_append, fb_t hr, fb_append h, List.length_cons, e]
/-- a false, then good rows -/
def greatOf (bl : List D) : List D := rF :: bl
theorem fb_great {bl : List D} (h : ∀ x ∈ bl, gd x) (n : Nat) : firstBad ((greatOf bl).take n) 0 = none := by
  cases n with
  | zero => rfl
  | succ n =>
    show firstBad (rF :: bl.take n) 0 = none
    unfold firstBad
    have e : rowB rF ((0 : Nat) : Int) = true := rfl
    rw [e, if_pos rfl]
    exact fb_good (fun x hx => h x (List.mem_of_mem_take hx)) (by omega)
theorem ro_great {bl : List D} (h : ∀ x ∈ bl, gd x) : ∀ x ∈ greatOf bl, ro x := fun x hx => by
  rcases List.mem_cons.mp hx with rfl | hx
  · exact row_falseR.ro
  · exact (h x hx).1
theorem need_great {bl : List D} (h : ∀ x ∈ bl, gd x) (n : Nat) : needB ((greatOf bl).take n) = if 2000 < ((greatOf bl).take n).length then some 2000 else none := by
  unfold needB
  rw [List.take_take, fb_great h]
/-- spoilt at one place -/
theorem need_few2 {bl : List D} {here : Nat} {y : D} {rest : List D} (h : ∀ x ∈ bl, gd x) (hy : rowB y (here : Nat) = false) (hl : here < (greatOf bl).length) (hh : here < 2000) : needB ((greatOf bl).take here ++ [y] ++ rest) = some here := by
  have e : firstBad (((greatOf bl).take here ++ [y] ++ rest).take 2000) 0 = some here := by
    have e1 : ((greatOf bl).take here ++ [y] ++ rest).take 2000 = (greatOf bl).take here ++ ([y] ++ rest).take (2000 - here) := by
      rw [List.append_assoc, List.take_append, List.length_take, Nat.min_eq_left (by omega), List.take_take, Nat.min_eq_right (by omega)]
    rw [e1, fb_append (fb_great h here), List.length_take, Nat.min_eq_left (by omega), Nat.zero_add]
    have e2 : ([y] ++ rest).take (2000 - here) = y :: rest.take (2000 - here - 1) := by
      have e3 : 2000 - here = (2000 - here - 1) + 1 := by omega
      rw [e3]
      rfl
    rw [e2]
    unfold firstBad
    rw [hy, if_neg Bool.false_ne_true]
  unfold needB
  rw [e]
end FL.K1
set_option Elab.async false
set_option linter.all false
set_option maxRecDepth 100000
set_option maxHeartbeats 4000000
namespace FL.K1
open PySem PySem.Spec PyProof.Rows L2 FL
theorem rep_run {bl : List D} (h : bl.length ≤ 2) : mulF (.lst bl) (.int 2000) = some (.lst (List.replicate 2000 bl).flatten) := by
  have e : repF (.lst bl) (.int 2000) = some (.lst (List.replicate (2000 : Int).toNat bl).flatten) := if_pos ⟨by omega, by omega, by
    have e1 : (2000 : Int).toNat = 2000 := rfl
    rw [e1, sizeLine_eq]
    omega⟩
  show (none : Option D).or (repF (.lst bl) (.int 2000)) = _
  rw [e]
  rfl
theorem flat_len (bl : List D) (n : Nat) : (List.replicate n bl).flatten.length = n * bl.length := by simp
theorem flat_mem {bl : List D} {n : Nat} {x : D} (h : x ∈ (List.replicate n bl).flatten) : x ∈ bl := by
  rw [List.mem_flatten] at h
  obtain ⟨l, hl, hx⟩ := h
  rw [List.eq_of_mem_replicate hl] at hx
  exact hx
def zBlock : EM := eSl slF (eOf lstF1 (aCons (eOf tupF1 (aCons (eC (.str "not")) (aCons (eC (.int 0)) (aNil)))) (aCons (eOf tupF1 (aCons (eC (.str "shown")) (aCons (eC (.int 99)) (aCons (eC (.int 0)) (aNil))))) (aNil)))) (oSome (eCall (mf__law_take) (aCons (eVar 0) (aCons (eC (.int 2)) (aNil))))) (oNone)
def zGreat : EM := eOp addF (eOf lstF1 (aCons (eOf tupF1 (aCons (eC (.str "false")) (aNil))) (aNil))) (eOp mulF zBlock (eC (.int 2000)))
theorem great_run {s : S} (g : GS s) : ∃ bl s2, zGreat [some .drw, none, none, none] s = .ok (.lst (greatOf bl)) s2 ∧ (∀ x ∈ bl, gd x) ∧ 2000 ≤ bl.length ∧ bl.length ≤ 4000 ∧ GS s2 := by
  obtain ⟨r, s1, e, r0, r1, g1⟩ := take_run (n := 2) g (by decide) (by decide)
  have f0 : (eVar 0) [some .drw, none, none, none] s = .ok .drw s := rfl
  have f1 : (eOf lstF1 (aCons (eOf tupF1 (aCons (eC (.str "not")) (aCons (eC (.int 0)) (aNil)))) (aCons (eOf tupF1 (aCons (eC (.str "shown")) (aCons (eC (.int 99)) (aCons (eC (.int 0)) (aNil))))) (aNil)))) [some .drw, none, none, none] s = .ok (.lst [rNot0, rSh0]) s := by
    simp only [eOf_run, aCons_run, aNil_run, bind_ok, eC_run]
    rw [tup1 (by simp), lift_some, bind_ok, tup1 (by simp), lift_some, bind_ok, bind_ok, bind_ok, lst1 (by simp), lift_some]
    rfl
  have f2 : zBlock [some .drw, none, none, none] s = .ok (.lst (cutL [rNot0, rSh0] (some r) none)) s1 := by
    unfold zBlock
    rw [eSl_run, f1, bind_ok, oSome_run]
    simp only [eCall_run, aCons_run, aNil_run, bind_ok, eC_run, f0, e]
    rfl
  have hb : (∀ x ∈ cutL [rNot0, rSh0] (some r) none, gd x) ∧ 1 ≤ (cutL [rNot0, rSh0] (some r) none).length ∧ (cutL [rNot0, rSh0] (some r) none).length ≤ 2 := by
    have h3 : r = 0 ∨ r = 1 := by omega
    refine ⟨fun x hx => ?_, ?_, len_cut _ _ _⟩
    · have hm := mem_cut hx
      simp only [List.mem_cons, List.not_mem_nil, or_false] at hm
      rcases hm with rfl | rfl
      · exact gd_not
      · exact gd_sh
    · rcases h3 with rfl | rfl <;> decide
  obtain ⟨hg, b1, b2⟩ := hb
  generalize cutL [rNot0, rSh0] (some r) none = bl at f2 hg b1 b2
  have f3 : (eOp mulF zBlock (eC (.int 2000))) [some .drw, none, none, none] s = .ok (.lst (List.replicate 2000 bl).flatten) s1 := by
    rw [eOp_run, f2, bind_ok, eC_run, bind_ok, rep_run b2, lift_some]
  have hl := flat_len bl 2000
  refine ⟨(List.replicate 2000 bl).flatten, s1, ?_, fun x hx => hg x (flat_mem hx), by rw [hl]; omega, by rw [hl]; omega, g1⟩
  have f4 : (eOf lstF1 (aCons (eOf tupF1 (aCons (eC (.str "false")) (aNil))) (aNil))) [some .drw, none, none, none] s = .ok (.lst [rF]) s := by
    simp only [eOf_run, aCons_run, aNil_run, bind_ok, eC_run]
    rw [tup1 (by simp), lift_some, bind_ok, bind_ok, lst1 (by simp), lift_some]
    rfl
  unfold zGreat
  rw [eOp_run, f4, bind_ok, f3, bind_ok, addF_lst (by rw [hl, List.length_singleton, sizeLine_eq]; omega), lift_some]
  rfl
end FL.K1
set_option Elab.async false
set_option linter.all false
set_option maxRecDepth 100000
set_option maxHeartbeats 4000000
namespace FL.K1
open PySem PySem.Spec PyProof.Rows L2 FL
section
variable (c : Nat → Addr)
def zTo (n : Int) : EM := eSl slF (eVar 1) (oNone) (oSome (eC (.int n)))
def zT1 : TM := mBl (eOp notNF (eCall (mf_need_rows c) (aCons (zTo 2000) (aNil))) (eC .non))
def zT2 : TM := mOr (mBl (eOp notNF (eCall (mf__law_told c) (aCons (zTo 2000) (aNil))) (eC .non))) (mOr (mBl (eOp neG (eCall (mf__law_told c) (aCons (zTo 2001) (aNil))) (eC (.int 2000)))) (mBl (eOp neG (eCall (mf__law_told c) (aCons (eVar 1) (aNil))) (eC (.int 2000)))))
def zHere : EM := eCall (mf__law_pick) (aCons (eVar 0) (aCons (eOf lstF1 (aCons (eC (.int 15)) (aCons (eC (.int 60)) (aCons (eC (.int 1999)) (aCons (eCall (mf__law_take) (aCons (eVar 0) (aCons (eC (.int 2000)) (aNil)))) (aNil)))))) (aNil)))
def zBad : EM := eCall (mf__law_pick) (aCons (eVar 0) (aCons (eOf lstF1 (aCons (eOf tupF1 (aCons (eC (.str "not")) (aCons (eVar 2) (aNil)))) (aCons (eOf tupF1 (aCons (eC (.str "shown")) (aCons (eC (.int 100)) (aCons (eC (.int 0)) (aNil))))) (aCons (eC .non) (aNil))))) (aNil)))
def zFew : EM := eOp addF (eOp addF (eSl slF (eVar 1) (oNone) (oSome (eVar 2))) (eOf lstF1 (aCons zBad (aNil)))) (eSl slF (eVar 1) (oSome (eOp addF (eVar 2) (eC (.int 1)))) (oSome (eC (.int 2000))))
def zEnd : EM := eAnd (eOp eqG (eCall (mf__law_told c) (aCons (eVar 3) (aNil))) (eVar 2)) (eOp eqG (eCall (mf__law_told c) (aCons (eOp addF (eVar 3) (zTo 9)) (aNil))) (eVar 2))
theorem long_form : m__law_long_right c = sSeq (sSet 1 zGreat) (sSeq (sIf (zT1 c) (sRet (eC (.bl false))) sNext) (sSeq (sIf (zT2 c) (sRet (eC (.bl false))) sNext) (sSeq (sSet 2 zHere) (sSeq (sSet 3 zFew) (sRet (zEnd c)))))) := rfl
end
section
variable {c : Nat → Addr} {bl : List D} {s : S} {o2 o3 : Option D}
def zE (bl : List D) (o2 o3 : Option D) : Env := [some .drw, some (.lst (greatOf bl)), o2, o3]
theorem zTo_run (n : Nat) : zTo (n : Nat) (zE bl o2 o3) s = .ok (.lst ((greatOf bl).take n)) s := by
  rw [← cut_to (greatOf bl) n]
  rfl
theorem told_take (h : ∀ x ∈ bl, gd x) (n : Nat) : mf__law_told c [.lst ((greatOf bl).take n)] s = .ok (sayD (if 2000 < ((greatOf bl).take n).length then some 2000 else none)) s := by
  rw [told_run (.inl rfl) (fun x hx => ro_great h x (List.mem_of_mem_take hx)), need_great h]
theorem great_len : (greatOf bl).length = bl.length + 1 := rfl
theorem zT1_run (h : ∀ x ∈ bl, gd x) (hl : 2000 ≤ bl.length) : zT1 c (zE bl o2 o3) s = .ok false s := by
  have e1 := zTo_run (bl := bl) (o2 := o2) (o3 := o3) (s := s) 2000
  have e2 : mf_need_rows c [.lst ((greatOf bl).take 2000)] s = .ok .non s := by
    rw [need_run (.inl rfl) (fun x hx => ro_great h x (List.mem_of_mem_take hx)), need_great h, if_neg (by rw [List.length_take]; omega)]
    rfl
  have e3 : (eCall (mf_need_rows c) (aCons (zTo 2000) (aNil))) (zE bl o2 o3) s = .ok .non s := by
    rw [eCall_run, aCons_run]
    have e4 : zTo 2000 (zE bl o2 o3) s = .ok (.lst ((greatOf bl).take 2000)) s := e1
    rw [e4, bind_ok, aNil_run, bind_ok, bind_ok]
    exact e2
  unfold zT1
  rw [mBl_run, eOp_run, e3]
  rfl
theorem tk_run (h : ∀ x ∈ bl, gd x) (n : Nat) : (eCall (mf__law_told c) (aCons (zTo (n : Nat)) (aNil))) (zE bl o2 o3) s = .ok (sayD (if 2000 < ((greatOf bl).take n).length then some 2000 else none)) s := by
  rw [eCall_run, aCons_run, zTo_run, bind_ok, aNil_run, bind_ok, bind_ok]
  exact told_take h n
theorem zT2_run (h : ∀ x ∈ bl, gd x) (hl : 2000 ≤ bl.length) : zT2 c (zE bl o2 o3) s = .ok false s := by
  have e1 : (eCall (mf__law_told c) (aCons (zTo 2000) (aNil))) (zE bl o2 o3) s = .ok .non s := by
    have := tk_run (c := c) (o2 := o2) (o3 := o3) (s := s) h 2000
    rw [if_neg (by rw [List.length_take]; omega)] at this
    exact this
  have e2 : (eCall (mf__law_told c) (aCons (zTo 2001) (aNil))) (zE bl o2 o3) s = .ok (.int 2000) s := by
    have := tk_run (c := c) (o2 := o2) (o3 := o3) (s := s) h 2001
    rw [if_pos (by rw [List.length_take, great_len]; omega)] at this
    exact this
  have e3 : (eCall (mf__law_told c) (aCons (eVar 1) (aNil))) (zE bl o2 o3) s = .ok (.int 2000) s := by
    have t := told_take (c := c) (s := s) h (greatOf bl).length
    rw [List.take_length, if_pos (by rw [great_len]; omega)] at t
    exact t
  have n0 : neG (.int 2000) (.int 2000) = some (.bl false) := rfl
  unfold zT2
  rw [mOr_run, mBl_run, eOp_run, e1, bind_ok, eC_run, bind_ok]
  show (mOr (mBl (eOp neG (eCall (mf__law_told c) (aCons (zTo 2001) (aNil))) (eC (.int 2000)))) (mBl (eOp neG (eCall (mf__law_told c) (aCons (eVar 1) (aNil))) (eC (.int 2000))))) (zE bl o2 o3) s = _
  rw [mOr_run, mBl_run, eOp_run, e2, bind_ok, eC_run, bind_ok, n0, lift_some, bind_ok]
  show (mBl (eOp neG (eCall (mf__law_told c) (aCons (eVar 1) (aNil))) (eC (.int 2000)))) (zE bl o2 o3) s = _
  rw [mBl_run, eOp_run, e3, bind_ok, eC_run, bind_ok, n0]
  rfl
theorem zHere_run (g : GS s) : ∃ (k : Nat) (s2 : S), zHere (zE bl o2 o3) s = .ok (.int (k : Nat)) s2 ∧ k < 2000 ∧ GS s2 := by
  obtain ⟨r, s1, e1, r0, r1, g1⟩ := take_run (n := 2000) g (by decide) (by decide)
  obtain ⟨x, s2, e2, mx, g2⟩ := pick_run (xs := [.int 15, .int 60, .int 1999, .int r]) g1 (by simp) (by simp)
  have hk : ∃ k : Nat, x = .int (k : Nat) ∧ k < 2000 := by
    simp only [List.mem_cons, List.not_mem_nil, or_false] at mx
    rcases mx with rfl | rfl | rfl | rfl
    · exact ⟨15, rfl, by decide⟩
    · exact ⟨60, rfl, by decide⟩
    · exact ⟨1999, rfl, by decide⟩
    · exact ⟨r.toNat, by rw [Int.toNat_of_nonneg r0], by omega⟩
  obtain ⟨k, rfl, hk⟩ := hk
  refine ⟨k, s2, ?_, hk, g2⟩
  have f0 : (eVar 0) (zE bl o2 o3) s = .ok .drw s := rfl
  have f1 : (eOf lstF1 (aCons (eC (.int 15)) (aCons (eC (.int 60)) (aCons (eC (.int 1999)) (aCons (eCall (mf__law_take) (aCons (eVar 0) (aCons (eC (.int 2000)) (aNil)))) (aNil)))))) (zE bl o2 o3) s = .ok (.lst [.int 15, .int 60, .int 1999, .int r]) s1 := by
    simp only [eOf_run, eCall_run, aCons_run, aNil_run, bind_ok, eC_run, f0, e1]
    rw [lst1 (by simp), lift_some]
  unfold zHere
  simp only [eCall_run, aCons_run, aNil_run, bind_ok, f0, f1]
  exact e2
theorem zBad_run {k : Nat} (g : GS s) (hk : k < 2000) : ∃ y s2, zBad (zE bl (some (.int (k : Nat))) o3) s = .ok y s2 ∧ ro y ∧ rowB y (k : Nat) = false ∧ GS s2 := by
  obtain ⟨y, s2, e, my, g2⟩ := pick_run (xs := [.tup [.str "not", .int (k : Nat)], .tup [.str "shown", .int 100, .int 0], .non]) g (by simp) (by simp)
  refine ⟨y, s2, ?_, ?_, ?_, g2⟩
  · have f0 : (eVar 0) (zE bl (some (.int (k : Nat))) o3) s = .ok .drw s := rfl
    have f2 : (eVar 2) (zE bl (some (.int (k : Nat))) o3) s = .ok (.int (k : Nat)) s := rfl
    have f1 : (eOf lstF1 (aCons (eOf tupF1 (aCons (eC (.str "not")) (aCons (eVar 2) (aNil)))) (aCons (eOf tupF1 (aCons (eC (.str "shown")) (aCons (eC (.int 100)) (aCons (eC (.int 0)) (aNil))))) (aCons (eC .non) (aNil))))) (zE bl (some (.int (k : Nat))) o3) s = .ok (.lst [.tup [.str "not", .int (k : Nat)], .tup [.str "shown", .int 100, .int 0], .non]) s := by
      simp only [eOf_run, aCons_run, aNil_run, bind_ok, eC_run, f2]
      rw [tup1 (by simp), lift_some, bind_ok, tup1 (by simp), lift_some, bind_ok, bind_ok, bind_ok, lst1 (by simp), lift_some]
    unfold zBad
    simp only [eCall_run, aCons_run, aNil_run, bind_ok, f0, f1]
    exact e
  · simp only [List.mem_cons, List.not_mem_nil, or_false] at my
    rcases my with rfl | rfl | rfl
    · exact (rowNot (by omega)).ro
    · exact (rowSh (by decide) (by decide)).ro
    · exact ⟨rfl, fun xs e => by cases e⟩
  · simp only [List.mem_cons, List.not_mem_nil, or_false] at my
    rcases my with rfl | rfl | rfl
    · show (decide ((("not" : Str)) = "not") && (decide ((0 : Int) ≤ (k : Nat)) && decide (((k : Nat) : Int) < (k : Nat)))) = false
      rw [decide_eq_false (show ¬ (((k : Nat) : Int) < (k : Nat)) by omega), Bool.and_false, Bool.and_false]
    · rfl
    · rfl
theorem zFew_run {k : Nat} (g : GS s) (hk : k < 2000) (hl : bl.length ≤ 4000) : ∃ y rest s2, zFew (zE bl (some (.int (k : Nat))) none) s = .ok (.lst ((greatOf bl).take k ++ [y] ++ rest)) s2 ∧ ro y ∧ rowB y (k : Nat) = false ∧ (∀ x ∈ rest, x ∈ greatOf bl) ∧ rest.length ≤ 4001 ∧ GS s2 := by
  obtain ⟨y, s2, e, hy, hb, g2⟩ := zBad_run (bl := bl) (o3 := none) g hk
  have f1 : (eSl slF (eVar 1) (oNone) (oSome (eVar 2))) (zE bl (some (.int (k : Nat))) none) s = .ok (.lst ((greatOf bl).take k)) s := by
    rw [← cut_to (greatOf bl) k]
    rfl
  have f2 : (eSl slF (eVar 1) (oSome (eOp addF (eVar 2) (eC (.int 1)))) (oSome (eC (.int 2000)))) (zE bl (some (.int (k : Nat))) none) s2 = .ok (.lst (cutL (greatOf bl) (some ((k : Nat) + 1)) (some 2000))) s2 := rfl
  have f3 : (eOf lstF1 (aCons zBad (aNil))) (zE bl (some (.int (k : Nat))) none) s = .ok (.lst [y]) s2 := by
    simp only [eOf_run, aCons_run, aNil_run, bind_ok, e]
    rw [lst1 (by simp), lift_some]
  have hc := len_cut (greatOf bl) (some ((k : Nat) + 1)) (some 2000)
  rw [great_len] at hc
  refine ⟨y, cutL (greatOf bl) (some ((k : Nat) + 1)) (some 2000), s2, ?_, hy, hb, fun x hx => mem_cut hx, by omega, g2⟩
  unfold zFew
  rw [eOp_run, eOp_run, f1, bind_ok, f3, bind_ok, addF_lst (by rw [sizeLine_eq, List.length_take, List.length_singleton]; omega), lift_some, bind_ok, f2, bind_ok, addF_lst (by rw [sizeLine_eq, List.length_append, List.length_take, List.length_singleton]; omega), lift_some]
theorem long_run (g : GS s) : ∃ s2, mf__law_long_right c [.drw] s = .ok (.bl true) s2 ∧ GS s2 := by
  obtain ⟨bl, s1, e1, hg, l1, l2, g1⟩ := great_run g
  obtain ⟨k, s2, e2, hk, g2⟩ := zHere_run (bl := bl) (o2 := none) (o3 := none) g1
  obtain ⟨y, rest, s3, e3, hy, hb, hr, hl, g3⟩ := zFew_run (bl := bl) (k := k) g2 hk l2
  refine ⟨s3, fn_rt rfl ?_, g3⟩
  show m__law_long_right c [some (.dat .drw), none, none, none] s = _
  have p1 : sSet 1 zGreat [some (.dat .drw), none, none, none] s = .nx [some (.dat .drw), some (.dat (.lst (greatOf bl))), none, none] s1 := by
    rw [set_run (runD_ok e1)]
    rfl
  have p2 : sSet 2 zHere [some (.dat .drw), some (.dat (.lst (greatOf bl))), none, none] s1 = .nx [some (.dat .drw), some (.dat (.lst (greatOf bl))), some (.dat (.int (k : Nat))), none] s2 := by
    have q : zHere (dats [some (.dat .drw), some (.dat (.lst (greatOf bl))), none, none]) s1 = .ok (.int (k : Nat)) s2 := by
      show zHere (zE bl none none) s1 = _
      exact e2
    rw [set_run (runD_ok q)]
    rfl
  have p3 : sSet 3 zFew [some (.dat .drw), some (.dat (.lst (greatOf bl))), some (.dat (.int (k : Nat))), none] s2 = .nx [some (.dat .drw), some (.dat (.lst (greatOf bl))), some (.dat (.int (k : Nat))), some (.dat (.lst ((greatOf bl).take k ++ [y] ++ rest)))] s3 := by
    have q : zFew (dats [some (.dat .drw), some (.dat (.lst (greatOf bl))), some (.dat (.int (k : Nat))), none]) s2 = .ok (.lst ((greatOf bl).take k ++ [y] ++ rest)) s3 := by
      show zFew (zE bl (some (.int (k : Nat))) none) s2 = _
      exact e3
    rw [set_run (runD_ok q)]
    rfl
  have roF : ∀ more : List D, (∀ x ∈ more, x ∈ greatOf bl) → ∀ x ∈ (greatOf bl).take k ++ [y] ++ more, ro x := fun more hm x hx => by
    rcases List.mem_append.mp hx with q | q
    · rcases List.mem_append.mp q with q | q
      · exact ro_great hg x (List.mem_of_mem_take q)
      · cases List.mem_singleton.mp q; exact hy
    · exact ro_great hg x (hm x q)
  have tell : ∀ more : List D, (∀ x ∈ more, x ∈ greatOf bl) → mf__law_told c [.lst ((greatOf bl).take k ++ [y] ++ more)] s3 = .ok (.int (k : Nat)) s3 := fun more hm => by
    rw [told_run (.inl rfl) (roF more hm), need_few2 hg hb (by rw [great_len]; omega) hk]
    rfl
  have q9 : (eOp addF (eVar 3) (zTo 9)) (zE bl (some (.int (k : Nat))) (some (.lst ((greatOf bl).take k ++ [y] ++ rest)))) s3 = .ok (.lst ((greatOf bl).take k ++ [y] ++ (rest ++ (greatOf bl).take 9))) s3 := by
    have f3 : (eVar 3) (zE bl (some (.int (k : Nat))) (some (.lst ((greatOf bl).take k ++ [y] ++ rest)))) s3 = .ok (.lst ((greatOf bl).take k ++ [y] ++ rest)) s3 := rfl
    have f4 : zTo 9 (zE bl (some (.int (k : Nat))) (some (.lst ((greatOf bl).take k ++ [y] ++ rest)))) s3 = .ok (.lst ((greatOf bl).take 9)) s3 := zTo_run 9
    rw [eOp_run, f3, bind_ok, f4, bind_ok, addF_lst (by rw [sizeLine_eq, List.length_append, List.length_append, List.length_take, List.length_take, List.length_singleton]; omega), lift_some, ← List.append_assoc]
  have e5 : zEnd c (zE bl (some (.int (k : Nat))) (some (.lst ((greatOf bl).take k ++ [y] ++ rest)))) s3 = .ok (.bl true) s3 := by
    have v3 : (eVar 3) (zE bl (some (.int (k : Nat))) (some (.lst ((greatOf bl).take k ++ [y] ++ rest)))) s3 = .ok (.lst ((greatOf bl).take k ++ [y] ++ rest)) s3 := rfl
    have v2 : (eVar 2) (zE bl (some (.int (k : Nat))) (some (.lst ((greatOf bl).take k ++ [y] ++ rest)))) s3 = .ok (.int (k : Nat)) s3 := rfl
    have t1 := tell rest hr
    have t2 := tell (rest ++ (greatOf bl).take 9) fun x hx => by
      rcases List.mem_append.mp hx with q | q
      · exact hr x q
      · exact List.mem_of_mem_take q
    have eq : eqG (.int (k : Nat)) (.int (k : Nat)) = some (.bl true) := by
      show some (D.bl (decide (((k : Nat) : Int) = (k : Nat)))) = _
      rw [decide_eq_true rfl]
    have a1 : (eOp eqG (eCall (mf__law_told c) (aCons (eVar 3) (aNil))) (eVar 2)) (zE bl (some (.int (k : Nat))) (some (.lst ((greatOf bl).take k ++ [y] ++ rest)))) s3 = .ok (.bl true) s3 := by
      rw [eOp_run, eCall_run, aCons_run, v3, bind_ok, aNil_run, bind_ok, bind_ok, t1, bind_ok, v2, bind_ok, eq, lift_some]
    have a2 : (eOp eqG (eCall (mf__law_told c) (aCons (eOp addF (eVar 3) (zTo 9)) (aNil))) (eVar 2)) (zE bl (some (.int (k : Nat))) (some (.lst ((greatOf bl).take k ++ [y] ++ rest)))) s3 = .ok (.bl true) s3 := by
      rw [eOp_run, eCall_run, aCons_run, q9, bind_ok, aNil_run, bind_ok, bind_ok, t2, bind_ok, v2, bind_ok, eq, lift_some]
    unfold zEnd
    rw [eAnd_run, a1]
    exact a2
  have i1 : runT (zT1 c) [some (.dat .drw), some (.dat (.lst (greatOf bl))), none, none] s1 = .ok false s1 := runT_ok (zT1_run hg l1)
  have i2 : runT (zT2 c) [some (.dat .drw), some (.dat (.lst (greatOf bl))), none, none] s1 = .ok false s1 := runT_ok (zT2_run hg l1)
  rw [long_form, seq_nx p1, seq_nx (if_nx i1), seq_nx (if_nx i2), seq_nx p2, seq_nx p3]
  exact ret_run (runD_ok e5)
end
end FL.K1
set_option Elab.async false
set_option linter.all false
set_option maxRecDepth 100000
set_option maxHeartbeats 4000000
namespace FL.K1
open PySem PySem.Spec PyProof.Rows L2 FL
/-! ### the law -/
def aLines : EM := eCall (mf__law_lines) (aCons (eVar 1) (aCons (eOp addF (eC (.int 1)) (eCall (mf__law_take) (aCons (eVar 1) (aCons (eC (.int 14)) (aNil))))) (aCons (eCall (mf__law_words) (aCons (eVar 1) (aCons (eC (.int 3)) (aNil)))) (aCons (eC (.int 99)) (aNil)))))
def aBent : SM := sSet 3 (eCall (mf__law_bent) (aCons (eVar 1) (aCons (eVar 3) (aNil))))
def aTake3 : AM := iOfA rng1F (aCons (eCall (mf__law_take) (aCons (eVar 1) (aCons (eC (.int 3)) (aNil)))) (aNil))
def aRepr : EM := eOf reprF (aCons (eVar 3) (aNil))
def aTwice (c : Nat → Addr) : EM := eOf lstF1 (aCons (eCall (mf__law_told c) (aCons (eVar 3) (aNil))) (aCons (eCall (mf__law_told c) (aCons (eOf tupleF (aCons (eVar 3) (aNil))) (aNil))) (aNil)))
def aDue : EM := eOp mulF (eOf lstF1 (aCons (eCall (mf__law_due) (aCons (eVar 3) (aNil))) (aNil))) (eC (.int 2))
def aTest (c : Nat → Addr) : TM := mOr (mBl (eOp neG (aTwice c) aDue)) (mBl (eOp neG aRepr (eVar 5)))
def aMove : TM := mNot (mTru (eCall (mf__law_move_right) (aCons (eVar 1) (aNil))))
def aBody (c : Nat → Addr) : SM := sSeq (sSet 3 aLines) (sSeq (sFor (b1 4) aTake3 aBent) (sSeq (sSet 5 aRepr) (sSeq (sIf (aTest c) (sRet (eC (.bl false))) sNext) (sIf aMove (sRet (eC (.bl false))) sNext))))
def aTurns : AM := iOfA rng1F (aCons (eOp addF (eC (.int 4)) (eOf min2F (aCons (eOf lenF (aCons (eVar 0) (aNil))) (aCons (eC (.int 12)) (aNil))))) (aNil))
def aLong (c : Nat → Addr) : TM := mNot (mTru (eCall (mf__law_long_right c) (aCons (eVar 1) (aNil))))
def aOdd : EM := eOf lstF1 (aCons (eC .non) (aCons (eC (.int 5)) (aCons (eC (.str "false")) (aCons (eC (.dic [])) (aCons (eC (.bl true)) (aCons (eOf tupF1 (aCons (eC (.str "not")) (aCons (eC (.int 0)) (aNil)))) (aNil)))))))
def aOddT (c : Nat → Addr) : TM := mBl (eOp neG (eCall (mf__law_told c) (aCons (eVar 7) (aNil))) (eC (.int 0)))
def aLc (c : Nat → Addr) : EM := eLc [7] 8 (c1 7) (iOf itemsF (eVar 6)) (aOddT c) (eVar 7)
def aEnd (c : Nat → Addr) : EM := eAnd (eOp eqG (aLc c) (eOf lstF1 (aNil))) (eOp isNF (eCall (mf_need_rows c) (aCons (eOf lstF1 (aNil)) (aNil))) (eC .non))
theorem law_form (c : Nat → Addr) : m_law c = sSeq (sFor (b1 2) aTurns (aBody c)) (sSeq (sIf (aLong c) (sRet (eC (.bl false))) sNext) (sSeq (sSet 6 aOdd) (sRet (aEnd c)))) := rfl
def wE2 (ns : List Int) (a2 a3 a4 a5 a6 a7 : Option D) : Env := [some (.scr ns), some .drw, a2, a3, a4, a5, a6, a7]
def wS2 (ns : List Int) (a2 a3 a4 a5 a6 : Option Sl) : Sls := [some (.dat (.scr ns)), some (.dat .drw), a2, a3, a4, a5, a6, none]
section
variable {ns : List Int} {s : S} {a2 a3 a4 a5 a6 : Option Sl} {c : Nat → Addr}
theorem wS2_dats : dats (wS2 ns a2 a3 a4 a5 a6) = wE2 ns (datOf a2) (datOf a3) (datOf a4) (datOf a5) (datOf a6) none := rfl
theorem aLines_run (g : GS s) (b2 b3 b4 b5 b6 b7 : Option D) : ∃ rs s2, aLines (wE2 ns b2 b3 b4 b5 b6 b7) s = .ok (.lst rs) s2 ∧ 0 < rs.length ∧ rs.length ≤ 14 ∧ (∀ d ∈ rs, Row 3 d) ∧ GS s2 := by
  obtain ⟨r, s1, e1, r0, r1, g1⟩ := take_run (n := 14) g (by decide) (by decide)
  obtain ⟨ws, s2, e2, l2, hw, g2⟩ := words_run (m := 3) g1 (by decide)
  obtain ⟨rs, s3, e3, l3, h3, g3⟩ := lines_run (m := (1 + r).toNat) (hi := 99) (ws := ws) g2 (by omega) (by omega) (by decide) (by decide) hw (by intro z; rw [z] at l2; cases l2) (by omega)
  refine ⟨rs, s3, ?_, by omega, by omega, h3, g3⟩
  rw [Int.toNat_of_nonneg (by omega)] at e3
  have f1 : (eVar 1) (wE2 ns b2 b3 b4 b5 b6 b7) s = .ok .drw s := rfl
  have f2 : (eVar 1) (wE2 ns b2 b3 b4 b5 b6 b7) s1 = .ok .drw s1 := rfl
  have q1 : (eOp addF (eC (.int 1)) (eCall (mf__law_take) (aCons (eVar 1) (aCons (eC (.int 14)) (aNil))))) (wE2 ns b2 b3 b4 b5 b6 b7) s = .ok (.int (1 + r)) s1 := by
    simp only [eOp_run, eCall_run, aCons_run, aNil_run, bind_ok, eC_run, f1, e1]
    rfl
  have q2 : (eCall (mf__law_words) (aCons (eVar 1) (aCons (eC (.int 3)) (aNil)))) (wE2 ns b2 b3 b4 b5 b6 b7) s1 = .ok (.lst ws) s2 := by
    simp only [eCall_run, aCons_run, aNil_run, bind_ok, eC_run, f2]
    exact e2
  unfold aLines
  simp only [eCall_run, aCons_run, aNil_run, bind_ok, eC_run, f1] at q1 q2 ⊢
  rw [q1, bind_ok, q2, bind_ok, bind_ok, bind_ok]
  exact e3
theorem bLoop : ∀ (is rs : List D) (n : Nat) (b4 : Option Sl) (s : S), GS s → (∀ d ∈ rs, Row n d) → 0 < rs.length → rs.length + is.length ≤ 100 → 3 ≤ n → n + is.length ≤ 8 →
    ∃ ys c4 s2, forL (b1 4) aBent is (wS2 ns a2 (some (.dat (.lst rs))) b4 a5 a6) s = .nx (wS2 ns a2 (some (.dat (.lst ys))) c4 a5 a6) s2 ∧ (∀ d ∈ ys, Row 8 d) ∧ ys.length ≤ rs.length + is.length ∧ GS s2 := by
  intro is
  induction is with
  | nil =>
    intro rs n b4 s g h h0 hl h3 h8
    exact ⟨rs, b4, s, rfl, fun d hd => (h d hd).mono (by simpa using h8), Nat.le_refl _, g⟩
  | cons i is ih =>
    intro rs n b4 s g h h0 hl h3 h8
    rw [List.length_cons] at h8 hl
    obtain ⟨ys, s1, e1, y0, yl, hy, g1⟩ := bent_run (n := n) g h h0 (by omega) (by omega) h3
    obtain ⟨zs, c4, s2, e2, hz, hl2, g2⟩ := ih ys (n + 1) (some (.dat i)) s1 g1 hy y0 (by omega) (by omega) (by omega)
    refine ⟨zs, c4, s2, ?_, hz, by rw [List.length_cons]; omega, g2⟩
    have q : aBent (wS2 ns a2 (some (.dat (.lst rs))) (some (.dat i)) a5 a6) s = .nx (wS2 ns a2 (some (.dat (.lst ys))) (some (.dat i)) a5 a6) s1 := by
      have f : (eCall (mf__law_bent) (aCons (eVar 1) (aCons (eVar 3) (aNil)))) (dats (wS2 ns a2 (some (.dat (.lst rs))) (some (.dat i)) a5 a6)) s = .ok (.lst ys) s1 := by
        rw [wS2_dats]
        have v1 : (eVar 1) (wE2 ns (datOf a2) (some (.lst rs)) (some i) (datOf a5) (datOf a6) none) s = .ok .drw s := rfl
        have v3 : (eVar 3) (wE2 ns (datOf a2) (some (.lst rs)) (some i) (datOf a5) (datOf a6) none) s = .ok (.lst rs) s := rfl
        show (eCall (mf__law_bent) (aCons (eVar 1) (aCons (eVar 3) (aNil)))) (wE2 ns (datOf a2) (some (.lst rs)) (some i) (datOf a5) (datOf a6) none) s = _
        simp only [eCall_run, aCons_run, aNil_run, bind_ok, v1, v3]
        exact e1
      unfold aBent
      rw [set_run (runD_ok f)]
      rfl
    unfold forL
    show (match aBent (wS2 ns a2 (some (.dat (.lst rs))) (some (.dat i)) a5 a6) s with
      | .nx ρ2 s2 => forL (b1 4) aBent is ρ2 s2
      | .ct ρ2 s2 => forL (b1 4) aBent is ρ2 s2
      | .bk ρ2 s2 => RS.nx ρ2 s2
      | .rt d s2 => .rt d s2
      | .ex C fs ρ2 s2 => .ex C fs ρ2 s2
      | .bad => .bad) = _
    rw [q]
    exact e2
theorem ne_say (o : Option Nat) : neG (.lst [sayD o, sayD o]) (.lst [sayD o, sayD o]) = some (.bl false) := by
  have key : ∀ p : PyData, toP (.lst [sayD o, sayD o]) = some p → SeqAt.shaped p = true → p.canLay0 = true → neG (.lst [sayD o, sayD o]) (.lst [sayD o, sayD o]) = some (.bl false) := fun p hp hs hc => by
    have e0 : scNF (.lst [sayD o, sayD o]) (.lst [sayD o, sayD o]) = none := rfl
    unfold neG orF
    rw [e0]
    unfold neF
    rw [hp]
    dsimp only
    rw [if_pos ⟨hs, hs⟩, PySem.SeqAt.eqv_refl p hc]
    rfl
  cases o with
  | none => exact key _ rfl (by decide +kernel) (by decide +kernel)
  | some i =>
    have hc : PyData.canLay0 (.list [.int (i : Nat), .int (i : Nat)]) = true := by simp [PyData.canLay0, PyData.canLayAll0]
    refine key _ rfl ?_ hc
    unfold SeqAt.shaped
    rw [Bool.and_eq_true]
    exact ⟨hc, by simp [PyData.depth, PyData.depthAll]⟩
end
end FL.K1
set_option Elab.async false
set_option linter.all false
set_option maxRecDepth 100000
set_option maxHeartbeats 4000000
namespace FL.K1
open PySem PySem.Spec PyProof.Rows L2 FL
section
variable {ns : List Int} {s : S} {a2 a3 a4 a5 a6 : Option Sl} {c : Nat → Addr}
theorem runA_ok {m : AM} {r : Sls} {ds : List D} {s s1 : S} (h : m (dats r) s = .ok ds s1) : runA m r s = .ok ds s1 := h
theorem seq_for {bnd : D → Sls → Option Sls} {mi : AM} {body n : SM} {r r2 : Sls} {ds : List D} {s s1 s2 : S} (h : mi (dats r) s = .ok ds s1) (hf : forL bnd body ds r s1 = .nx r2 s2) : sSeq (sFor bnd mi body) n r s = n r2 s2 := by
  have q : sFor bnd mi body r s = .nx r2 s2 := by
    show after (runA mi r s) r (fun ds s' => forL bnd body ds r s') = _
    rw [runA_ok h, after_ok, hf]
  exact seq_nx q
theorem rep2_run {bl : List D} (h : bl.length ≤ 2) : mulF (.lst bl) (.int 2) = some (.lst (List.replicate 2 bl).flatten) := by
  have e : repF (.lst bl) (.int 2) = some (.lst (List.replicate (2 : Int).toNat bl).flatten) := if_pos ⟨by omega, by omega, by
    have e1 : (2 : Int).toNat = 2 := rfl
    rw [e1, sizeLine_eq]
    omega⟩
  show (none : Option D).or (repF (.lst bl) (.int 2)) = _
  rw [e]
  rfl
theorem dbl_run (d : D) : mulF (.lst [d]) (.int 2) = some (.lst [d, d]) := rep2_run (bl := [d]) (by simp)
theorem aTest_run {ys : List D} {z : Str} (hy : ∀ d ∈ ys, Row 8 d) (hl : ys.length ≤ 40) (hz : reprF [.lst ys] = some (.str z)) (b2 b4 b6 b7 : Option D) : aTest c (wE2 ns b2 (some (.lst ys)) b4 (some (.str z)) b6 b7) s = .ok false s := by
  have v3 : (eVar 3) (wE2 ns b2 (some (.lst ys)) b4 (some (.str z)) b6 b7) s = .ok (.lst ys) s := rfl
  have v5 : (eVar 5) (wE2 ns b2 (some (.lst ys)) b4 (some (.str z)) b6 b7) s = .ok (.str z) s := rfl
  have r : ∀ x ∈ ys, ro x := fun x hx => ro_of (hy x hx)
  have nf := need_few (xs := ys) (by omega)
  have t1 : mf__law_told c [.lst ys] s = .ok (sayD (firstBad ys 0)) s := by rw [← nf]; exact told_run (.inl rfl) r s
  have t2 : mf__law_told c [.tup ys] s = .ok (sayD (firstBad ys 0)) s := by rw [← nf]; exact told_run (.inr rfl) r s
  have t3 := due_run (xs := ys) (by omega) r s
  have tw : aTwice c (wE2 ns b2 (some (.lst ys)) b4 (some (.str z)) b6 b7) s = .ok (.lst [sayD (firstBad ys 0), sayD (firstBad ys 0)]) s := by
    have tf : tupleF [.lst ys] = some (.tup ys) := rfl
    unfold aTwice
    simp only [eOf_run, eCall_run, aCons_run, aNil_run, bind_ok, v3, t1, tf, lift_some, t2]
    rw [lst1 (by simp), lift_some]
  have td : aDue (wE2 ns b2 (some (.lst ys)) b4 (some (.str z)) b6 b7) s = .ok (.lst [sayD (firstBad ys 0), sayD (firstBad ys 0)]) s := by
    unfold aDue
    simp only [eOp_run, eOf_run, eCall_run, aCons_run, aNil_run, bind_ok, v3, t3, eC_run]
    rw [lst1 (by simp), lift_some, bind_ok, dbl_run, lift_some]
  have tr : aRepr (wE2 ns b2 (some (.lst ys)) b4 (some (.str z)) b6 b7) s = .ok (.str z) s := by
    unfold aRepr
    simp only [eOf_run, aCons_run, aNil_run, bind_ok, v3, hz, lift_some]
  have nz : neG (.str z) (.str z) = some (.bl false) := by
    have e0 : scNF (.str z) (.str z) = some (.bl false) := by
      unfold scNF
      simp
    unfold neG orF
    rw [e0]
    rfl
  unfold aTest
  rw [mOr_run, mBl_run, eOp_run, tw, bind_ok, td, bind_ok, ne_say, lift_some, bind_ok]
  show (mBl (eOp neG aRepr (eVar 5))) (wE2 ns b2 (some (.lst ys)) b4 (some (.str z)) b6 b7) s = _
  rw [mBl_run, eOp_run, tr, bind_ok, v5, bind_ok, nz, lift_some, bind_ok]
theorem aMove_run (g : GS s) (b2 b3 b4 b5 b6 b7 : Option D) : ∃ s2, aMove (wE2 ns b2 b3 b4 b5 b6 b7) s = .ok false s2 ∧ GS s2 := by
  obtain ⟨s2, e, g2⟩ := moveR_run g
  refine ⟨s2, ?_, g2⟩
  have v1 : (eVar 1) (wE2 ns b2 b3 b4 b5 b6 b7) s = .ok .drw s := rfl
  unfold aMove
  rw [mNot_run, mTru_run]
  simp only [eCall_run, aCons_run, aNil_run, bind_ok, v1, e]
  rfl
theorem aTake3_run (g : GS s) (b2 b3 b4 b5 b6 b7 : Option D) : ∃ is s2, aTake3 (wE2 ns b2 b3 b4 b5 b6 b7) s = .ok is s2 ∧ is.length ≤ 2 ∧ GS s2 := by
  obtain ⟨r, s1, e1, r0, r1, g1⟩ := take_run (n := 3) g (by decide) (by decide)
  refine ⟨rangeD 0 r.toNat, s1, ?_, ?_, g1⟩
  · have v1 : (eVar 1) (wE2 ns b2 b3 b4 b5 b6 b7) s = .ok .drw s := rfl
    have q : rng1F [.int r] = some (rangeD 0 r.toNat) := rng1_run (by omega) (by omega)
    unfold aTake3
    rw [iOfA_run]
    simp only [eCall_run, aCons_run, aNil_run, bind_ok, eC_run, v1, e1]
    rw [q, lift_some]
  · unfold rangeD
    rw [List.length_map, List.length_range]
    omega
theorem aBody_run (g : GS s) : ∃ c3 c4 c5 s2, aBody c (wS2 ns a2 a3 a4 a5 a6) s = .nx (wS2 ns a2 c3 c4 c5 a6) s2 ∧ GS s2 := by
  obtain ⟨rs, s1, e1, l0, l1, h1, g1⟩ := aLines_run (ns := ns) g (datOf a2) (datOf a3) (datOf a4) (datOf a5) (datOf a6) none
  obtain ⟨is, s2, e2, l2, g2⟩ := aTake3_run (ns := ns) g1 (datOf a2) (some (.lst rs)) (datOf a4) (datOf a5) (datOf a6) none
  obtain ⟨ys, c4, s3, e3, h3, l3, g3⟩ := bLoop (ns := ns) (a2 := a2) (a5 := a5) (a6 := a6) is rs 3 a4 s2 g2 h1 l0 (by omega) (by omega) (by omega)
  obtain ⟨z, hz⟩ := repr_run h3 (by omega)
  obtain ⟨s4, e4, g4⟩ := aMove_run (ns := ns) g3 (datOf a2) (some (.lst ys)) (datOf c4) (some (.str z)) (datOf a6) none
  refine ⟨some (.dat (.lst ys)), c4, some (.dat (.str z)), s4, ?_, g4⟩
  have p1 : sSet 3 aLines (wS2 ns a2 a3 a4 a5 a6) s = .nx (wS2 ns a2 (some (.dat (.lst rs))) a4 a5 a6) s1 := by
    rw [set_run (runD_ok (by rw [wS2_dats]; exact e1))]
    rfl
  have p5 : sSet 5 aRepr (wS2 ns a2 (some (.dat (.lst ys))) c4 a5 a6) s3 = .nx (wS2 ns a2 (some (.dat (.lst ys))) c4 (some (.dat (.str z))) a6) s3 := by
    have q : aRepr (dats (wS2 ns a2 (some (.dat (.lst ys))) c4 a5 a6)) s3 = .ok (.str z) s3 := by
      rw [wS2_dats]
      have v3 : (eVar 3) (wE2 ns (datOf a2) (datOf (some (.dat (.lst ys)))) (datOf c4) (datOf a5) (datOf a6) none) s3 = .ok (.lst ys) s3 := rfl
      unfold aRepr
      simp only [eOf_run, aCons_run, aNil_run, bind_ok, v3, hz, lift_some]
    rw [set_run (runD_ok q)]
    rfl
  unfold aBody
  rw [seq_nx p1, seq_for (r2 := wS2 ns a2 (some (.dat (.lst ys))) c4 a5 a6) (by rw [wS2_dats]; exact e2) e3, seq_nx p5, seq_nx (if_nx (runT_ok (by rw [wS2_dats]; exact aTest_run h3 (by omega) hz _ _ _ _)))]
  exact if_nx (runT_ok (by rw [wS2_dats]; exact e4))
theorem tLoop : ∀ (is : List D) (b2 a3 a4 a5 : Option Sl) (s : S), GS s → ∃ c2 c3 c4 c5 s2, forL (b1 2) (aBody c) is (wS2 ns b2 a3 a4 a5 a6) s = .nx (wS2 ns c2 c3 c4 c5 a6) s2 ∧ GS s2 := by
  intro is
  induction is with
  | nil => exact fun b2 a3 a4 a5 s g => ⟨b2, a3, a4, a5, s, rfl, g⟩
  | cons i is ih =>
    intro b2 a3 a4 a5 s g
    obtain ⟨c3, c4, c5, s1, e1, g1⟩ := aBody_run (c := c) (ns := ns) (a2 := some (.dat i)) (a3 := a3) (a4 := a4) (a5 := a5) (a6 := a6) g
    obtain ⟨d2, d3, d4, d5, s2, e2, g2⟩ := ih (some (.dat i)) c3 c4 c5 s1 g1
    refine ⟨d2, d3, d4, d5, s2, ?_, g2⟩
    unfold forL
    show (match aBody c (wS2 ns (some (.dat i)) a3 a4 a5 a6) s with
      | .nx ρ2 s2 => forL (b1 2) (aBody c) is ρ2 s2
      | .ct ρ2 s2 => forL (b1 2) (aBody c) is ρ2 s2
      | .bk ρ2 s2 => RS.nx ρ2 s2
      | .rt d s2 => .rt d s2
      | .ex C fs ρ2 s2 => .ex C fs ρ2 s2
      | .bad => .bad) = _
    rw [e1]
    exact e2
theorem aTurns_run (hn : ns.length ≤ 63) (b2 b3 b4 b5 b6 b7 : Option D) : ∃ is, aTurns (wE2 ns b2 b3 b4 b5 b6 b7) s = .ok is s := by
  have v0 : (eVar 0) (wE2 ns b2 b3 b4 b5 b6 b7) s = .ok (.scr ns) s := rfl
  have f1 : lenF [.scr ns] = some (.int (ns.length : Nat)) := rfl
  have f2 : min2F [.int (ns.length : Nat), .int 12] = some (.int (if (12 : Int) < (ns.length : Nat) then 12 else (ns.length : Nat))) := rfl
  have f3 : ∀ j : Int, addF (.int 4) (.int j) = some (.int (4 + j)) := fun j => rfl
  have b : ∃ j : Int, (if (12 : Int) < (ns.length : Nat) then 12 else ((ns.length : Nat) : Int)) = j ∧ 0 ≤ j ∧ j ≤ 12 := ⟨_, rfl, by split <;> omega, by split <;> omega⟩
  obtain ⟨j, ej, j0, j1⟩ := b
  rw [ej] at f2
  have q : rng1F [.int (4 + j)] = some (rangeD 0 (4 + j).toNat) := rng1_run (by omega) (by omega)
  refine ⟨rangeD 0 (4 + j).toNat, ?_⟩
  unfold aTurns
  rw [iOfA_run]
  simp only [eOp_run, eOf_run, aCons_run, aNil_run, bind_ok, eC_run, v0, f1, lift_some, f2, f3, q]
theorem aLong_run (g : GS s) (b2 b3 b4 b5 b6 b7 : Option D) : ∃ s2, aLong c (wE2 ns b2 b3 b4 b5 b6 b7) s = .ok false s2 ∧ GS s2 := by
  obtain ⟨s2, e, g2⟩ := long_run (c := c) g
  refine ⟨s2, ?_, g2⟩
  have v1 : (eVar 1) (wE2 ns b2 b3 b4 b5 b6 b7) s = .ok .drw s := rfl
  unfold aLong
  rw [mNot_run, mTru_run]
  simp only [eCall_run, aCons_run, aNil_run, bind_ok, v1, e]
  rfl
def odds : List D := [.non, .int 5, .str "false", .dic [], .bl true, .tup [.str "not", .int 0]]
theorem aOdd_run (b2 b3 b4 b5 b6 b7 : Option D) : aOdd (wE2 ns b2 b3 b4 b5 b6 b7) s = .ok (.lst odds) s := by
  unfold aOdd
  simp only [eOf_run, aCons_run, aNil_run, bind_ok, eC_run]
  rw [tup1 (by simp), lift_some, bind_ok, bind_ok, bind_ok, bind_ok, bind_ok, bind_ok, bind_ok, lst1 (by simp), lift_some]
  rfl
theorem odd_told {x : D} (h : x ∈ odds) (s : S) : mf__law_told c [x] s = .ok (.int 0) s := by
  unfold odds at h
  simp only [List.mem_cons, List.not_mem_nil, or_false] at h
  rcases h with rfl | rfl | rfl | rfl | rfl | rfl
  · exact told_no rfl (fun xs h => by rcases h with h | h <;> cases h) s
  · exact told_no rfl (fun xs h => by rcases h with h | h <;> cases h) s
  · exact told_no rfl (fun xs h => by rcases h with h | h <;> cases h) s
  · exact told_no rfl (fun xs h => by rcases h with h | h <;> cases h) s
  · exact told_no rfl (fun xs h => by rcases h with h | h <;> cases h) s
  · have e := told_run (c := c) (d := .tup [.str "not", .int 0]) (xs := [.str "not", .int 0]) (.inr rfl) (fun x hx => by
      simp only [List.mem_cons, List.not_mem_nil, or_false] at hx
      rcases hx with rfl | rfl
      · exact ⟨rfl, fun xs e => by cases e⟩
      · exact ⟨rfl, fun xs e => by cases e⟩) s
    have n0 : needB [.str "not", .int 0] = some 0 := by rfl
    rw [n0] at e
    exact e
theorem aEnd_run (b2 b3 b4 b5 : Option D) : aEnd c (wE2 ns b2 b3 b4 b5 (some (.lst odds)) none) s = .ok (.bl true) s := by
  have l0 : lcL (c1 7) (aOddT c) (eVar 7) (wE2 ns b2 b3 b4 b5 (some (.lst odds)) none) odds s = .ok ((odds.filter fun _ => false).map id) s := lcL_filter fun d hd => by
    refine ⟨wE2 ns b2 b3 b4 b5 (some (.lst odds)) (some d), rfl, ?_, fun h => by cases h⟩
    have v7 : (eVar 7) (wE2 ns b2 b3 b4 b5 (some (.lst odds)) (some d)) s = .ok d s := rfl
    unfold aOddT
    rw [mBl_run, eOp_run]
    simp only [eCall_run, aCons_run, aNil_run, bind_ok, eC_run, v7, odd_told hd]
    rfl
  have f0 : (odds.filter fun _ => false).map id = ([] : List D) := rfl
  rw [f0] at l0
  have l1 : aLc c (wE2 ns b2 b3 b4 b5 (some (.lst odds)) none) s = .ok (.lst []) s := by
    show lcR (lcL (c1 7) (aOddT c) (eVar 7) (wE2 ns b2 b3 b4 b5 (some (.lst odds)) none) odds s) = _
    rw [l0]
    rfl
  have l2 : (eOf lstF1 (aNil)) (wE2 ns b2 b3 b4 b5 (some (.lst odds)) none) s = .ok (.lst []) s := by
    rw [eOf_run, aNil_run, bind_ok, lst1 (by simp), lift_some]
  have n1 : mf_need_rows c [.lst []] s = .ok .non s := by
    rw [need_run (xs := []) (.inl rfl) (fun x hx => by cases hx)]
    rfl
  have e0 : eqG (.lst []) (.lst []) = some (.bl true) := by rfl
  unfold aEnd
  rw [eAnd_run, eOp_run, l1, bind_ok, l2, bind_ok, e0, lift_some, bind_ok]
  show (eOp isNF (eCall (mf_need_rows c) (aCons (eOf lstF1 (aNil)) (aNil))) (eC .non)) (wE2 ns b2 b3 b4 b5 (some (.lst odds)) none) s = _
  rw [eOp_run, eCall_run, aCons_run, l2, bind_ok, aNil_run, bind_ok, bind_ok, n1, bind_ok, eC_run, bind_ok]
  rfl
theorem begC_ne (ns : List Int) : 0 < (begC ns).length := by
  unfold begC
  split
  · decide
  · rename_i h
    rw [List.length_map]
    exact List.length_pos_iff.mpr h
theorem law_true' (c : Nat → Addr) (ns : List Int) (hn : ns.length ≤ 63) : ∃ s, m_law c [some (.dat (.scr ns)), some (.dat .drw), none, none, none, none, none, none] ⟨begC ns, 0, 1⟩ = .rt (.bl true) s := by
  have g0 : GS ⟨begC ns, 0, 1⟩ := ⟨begC_ne ns, show (-18446744073709551616 : Int) < 1 by decide, show (1 : Int) < 18446744073709551616 by decide⟩
  obtain ⟨is, e1⟩ := aTurns_run (ns := ns) (s := ⟨begC ns, 0, 1⟩) hn none none none none none none
  obtain ⟨c2, c3, c4, c5, s2, e2, g2⟩ := tLoop (c := c) (ns := ns) (a6 := none) is none none none none ⟨begC ns, 0, 1⟩ g0
  obtain ⟨s3, e3, g3⟩ := aLong_run (c := c) (ns := ns) g2 (datOf c2) (datOf c3) (datOf c4) (datOf c5) none none
  refine ⟨s3, ?_⟩
  show m_law c (wS2 ns none none none none none) ⟨begC ns, 0, 1⟩ = _
  have p6 : sSet 6 aOdd (wS2 ns c2 c3 c4 c5 none) s3 = .nx (wS2 ns c2 c3 c4 c5 (some (.dat (.lst odds)))) s3 := by
    rw [set_run (runD_ok (by rw [wS2_dats]; exact aOdd_run _ _ _ _ _ _))]
    rfl
  rw [law_form, seq_for (r2 := wS2 ns c2 c3 c4 c5 none) (by rw [wS2_dats]; exact e1) e2, seq_nx (if_nx (runT_ok (by rw [wS2_dats]; exact e3))), seq_nx p6]
  exact ret_run (runD_ok (by rw [wS2_dats]; exact aEnd_run _ _ _ _))
end
end FL.K1
set_option Elab.async false
set_option linter.all false
set_option maxRecDepth 100000
set_option maxHeartbeats 0
/-! # The first law: the end -/
namespace FL.K1
open PySem PySem.Spec PyProof.Rows L2 FL
def spLaw (K : PySem.W.Frag) : Sp := fun vs H Q _ => ∃ (a : Addr) (ns : List Int), vs = [.ref a] ∧ SqL K H a (ns.map V.int) ∧ ns.length ≤ 63 ∧ ∀ H2, Q (.bl true) H2
section
variable {P : Program} {w : World} {K : PySem.W.Frag} {mg : Str → Option Value} {base : Heap} {c f : Nat → Addr} {fd : Nat → FuncData}
theorem ok_law (T : Fx K w mg c f fd) : FnX P w K mg base 9 (f 46) (fd 46) ["script"] (spLaw K) := by
  refine Fun.okRm T.d_law.fn sc_law (fun vs H Q E h => ?_) fun cdv A outer s H vs Q E hr h => ⟨tSeq (tAsg (tCallS (spB K) (WE fun c dd _ H => E c dd H) (tCons (tVar 0) tNil)) (gName 1)) (tS K (fun c dd _ H => E c dd H) (m_law c)), ?_, ?_⟩
  · obtain ⟨a, ns, rfl, _⟩ := h
    rfl
  · show PSs _ (defBody (top 46)) _
    exact pss_cons (ps_set (i := 1) sc_law.nd rfl (Or.inl rfl) (pe_callS (ok__law_begin T) (hr.r.mono (by decide)) rfl T.d__law_begin.g T.d__law_begin.fn.kp T.d__law_begin.b (fun σ => passAt (takes_of rfl rfl rfl rfl) σ) (pa_cons (pv 0) pa_nil))) (law_rest T cdv A outer s H E hr)
  · obtain ⟨a, ns, rfl, hS, hn, k⟩ := h
    refine ⟨_, rfl, a, ns, rfl, hS, fun H2 p q keep hp hq hne e1 e2 => ?_⟩
    have sF : Same (fun b => if b = a then H b else none) H2 := fun b o e => by
      dsimp only at e
      split at e
      · exact keep _ _ e
      · cases e
    have hS2 : SqL K (fun b => if b = a then H b else none) a (ns.map V.int) := by
      rcases hS with (h | ⟨o, h⟩) | h
      · exact .inl (.inl ((if_pos rfl).trans h))
      · exact .inl (.inr ⟨o, (if_pos rfl).trans h⟩)
      · exact .inr h
    have free : ∀ b, H b = none → (fun b => if b = a then H b else none : Hp) b = none := fun b hb => by
      dsimp only
      split
      · exact hb
      · rfl
    refine ⟨fun b => if b = a then H b else none, H2, some ⟨p, q⟩, fun b => if b = a then H b else none, [some (.dat (.scr ns)), some (.dat .drw), none, none, none, none, none, none], ⟨begC ns, 0, 1⟩, ⟨Ext.refl sF, ⟨hne, e1, e2, free p hp, free q hq⟩, ⟨rfl, fun i d e => ?_, fun i xs e => ?_, fun i j xs ys b e => ?_⟩⟩, ?_⟩
    · match i, e with
      | 0, e => cases e; exact ⟨_, rfl, .scr hS2⟩
      | 1, e => cases e; exact ⟨_, rfl, .drw rfl⟩
      | 2, e => cases e
      | 3, e => cases e
      | 4, e => cases e
      | 5, e => cases e
      | 6, e => cases e
      | 7, e => cases e
      | i + 8, e => simp at e
    · match i, e with
      | 0, e => cases e
      | 1, e => cases e
      | 2, e => cases e
      | 3, e => cases e
      | 4, e => cases e
      | 5, e => cases e
      | 6, e => cases e
      | 7, e => cases e
      | i + 8, e => simp at e
    · match i, e with
      | 0, e => cases e
      | 1, e => cases e
      | 2, e => cases e
      | 3, e => cases e
      | 4, e => cases e
      | 5, e => cases e
      | 6, e => cases e
      | 7, e => cases e
      | i + 8, e => simp at e
    obtain ⟨s2, e⟩ := law_true' c ns hn
    rw [e]
    intro F3 H3 v _ _ a3
    have e4 := at_bl a3
    subst e4
    exact k H3
end

/-! ### the head -/
def tabL : List (Str × He.Dv) := [("false", .int 1), ("does", .int 3), ("not", .int 2), ("and", .int 3), ("or", .int 3), ("shown", .int 3)]
def tabK : List Str := ["false", "does", "not", "and", "or", "shown"]
def exB (K : PySem.W.Frag) : Bool := oexA K (He.ga K "NoRow") && (excA K (He.ga K "NoRow") && (xfB K (He.ga K "NoRow") && (decide (PySem.W.findIn K (.ref (He.ga K "NoRow")) "at" = some none) && (decide (PySem.W.findIn K (.ref (He.ga K "NoRow")) "__init__" = some (some (.ref (He.ma K (He.ga K "NoRow") "__init__")))) && (decide (PySem.W.typeIn K (.ref (He.ma K (He.ga K "NoRow") "__init__")) = some (.type "function")) && (decide (PySem.W.exmOne K (.ref (He.ga K "NoRow")) (.ref (He.ga K "SightError")) = some true) && (He.valsB K (He.ga K "ROW_LENGTHS") tabL && (decide (PySem.W.kitAny K (.ref (He.ga K "NoRow")) [.ref (He.ga K "NoRow")] = some true) && (decide (PySem.W.kitAny K (.ref (He.ga K "NoRow")) [.type "ValueError"] = some true) && (decide (PySem.W.kitAny K (.ref (He.ga K "NoRow")) [.ref (He.ga K "NoSeat"), .ref (He.ga K "NoStand"), .ref (He.ga K "NoText"), .ref (He.ga K "NoWorths"), .ref (He.ga K "TooLong")] = some false) && (decide (PySem.W.kitAny K (.ref (He.ga K "NoRow")) [.ref (He.ga K "NoChoice"), .ref (He.ga K "NoDeed"), .ref (He.ga K "NoLetter"), .ref (He.ga K "NoLevel"), .ref (He.ga K "NoMachine"), .ref (He.ga K "NoMoves"), .ref (He.ga K "NoName"), .ref (He.ga K "NoPlayers")] = some false))))))))))))
def fn : List He.DefD := [⟨("is_list", none), "is_list", "is_list", defArgs (top 23), defBody (top 23), defScope (top 23), [], []⟩,
  ⟨("is_number", none), "is_number", "is_number", defArgs (top 24), defBody (top 24), defScope (top 24), [], []⟩,
  ⟨("is_below", none), "is_below", "is_below", defArgs (top 25), defBody (top 25), defScope (top 25), [], []⟩,
  ⟨("is_move", none), "is_move", "is_move", defArgs (top 26), defBody (top 26), defScope (top 26), [], []⟩,
  ⟨("parts_of", none), "parts_of", "parts_of", defArgs (top 27), defBody (top 27), defScope (top 27), [], []⟩,
  ⟨("is_row", none), "is_row", "is_row", defArgs (top 28), defBody (top 28), defScope (top 28), [], []⟩,
  ⟨("need_rows", none), "need_rows", "need_rows", defArgs (top 29), defBody (top 29), defScope (top 29), [], []⟩,
  ⟨("_law_begin", none), "_law_begin", "_law_begin", defArgs (top 31), defBody (top 31), defScope (top 31), [], []⟩,
  ⟨("_law_take", none), "_law_take", "_law_take", defArgs (top 32), defBody (top 32), defScope (top 32), [], []⟩,
  ⟨("_law_pick", none), "_law_pick", "_law_pick", defArgs (top 33), defBody (top 33), defScope (top 33), [], []⟩,
  ⟨("_law_words", none), "_law_words", "_law_words", defArgs (top 34), defBody (top 34), defScope (top 34), [], []⟩,
  ⟨("_law_lines", none), "_law_lines", "_law_lines", defArgs (top 35), defBody (top 35), defScope (top 35), [], []⟩,
  ⟨("_law_is_word", none), "_law_is_word", "_law_is_word", defArgs (top 36), defBody (top 36), defScope (top 36), [], []⟩,
  ⟨("_law_is_number", none), "_law_is_number", "_law_is_number", defArgs (top 37), defBody (top 37), defScope (top 37), [], []⟩,
  ⟨("_law_is_line", none), "_law_is_line", "_law_is_line", defArgs (top 38), defBody (top 38), defScope (top 38), [], []⟩,
  ⟨("_law_part_bent", none), "_law_part_bent", "_law_part_bent", defArgs (top 39), defBody (top 39), defScope (top 39), [], []⟩,
  ⟨("_law_line_bent", none), "_law_line_bent", "_law_line_bent", defArgs (top 40), defBody (top 40), defScope (top 40), [], []⟩,
  ⟨("_law_bent", none), "_law_bent", "_law_bent", defArgs (top 41), defBody (top 41), defScope (top 41), [], []⟩,
  ⟨("_law_due", none), "_law_due", "_law_due", defArgs (top 42), defBody (top 42), defScope (top 42), [], []⟩,
  ⟨("_law_told", none), "_law_told", "_law_told", defArgs (top 43), defBody (top 43), defScope (top 43), [], []⟩,
  ⟨("_law_move_right", none), "_law_move_right", "_law_move_right", defArgs (top 44), defBody (top 44), defScope (top 44), [], []⟩,
  ⟨("_law_long_right", none), "_law_long_right", "_law_long_right", defArgs (top 45), defBody (top 45), defScope (top 45), [], []⟩,
  ⟨("law", none), "law", "law", defArgs (top 46), defBody (top 46), defScope (top 46), [], []⟩,
  ⟨("NoRow", some "__init__"), "__init__", "NoRow.__init__", defArgs (inClass (top 2) 0), defBody (inClass (top 2) 0), defScope (inClass (top 2) 0), [], []⟩]
def fa : List He.Fa := ([.glo "is_list", .glo "is_number", .glo "is_below", .glo "is_move", .glo "parts_of", .glo "is_row", .glo "need_rows", .glo "_law_begin", .glo "_law_take", .glo "_law_pick", .glo "_law_words", .glo "_law_lines", .glo "_law_is_word", .glo "_law_is_number", .glo "_law_is_line", .glo "_law_part_bent", .glo "_law_line_bent", .glo "_law_bent", .glo "_law_due", .glo "_law_told", .glo "_law_move_right", .glo "_law_long_right", .glo "law", .free "ValueError", .free "abs", .free "all", .free "bool", .free "enumerate", .free "int", .free "isinstance"] : List He.Fa) ++ ([.free "len", .free "list", .free "min", .free "range", .free "repr", .free "str", .free "tuple", .str "LETTERS" "abcdefghijklmnopqrstuvwxyz", .int "LONGEST_MOVE" 8, .int "MOST_ROWS" 2000, .int "FARTHEST_SEAT" 3, .int "GREATEST_SHOWN" 99, .glo "ROW_LENGTHS", .glo "SightError", .glo "NoRow", .glo "NoMoves", .glo "NoChoice", .glo "NoPlayers", .glo "NoLevel", .glo "NoSeat", .glo "NoText", .glo "NoLetter", .glo "NoStand", .glo "NoMachine", .glo "NoWorths", .glo "NoName", .glo "NoDeed", .glo "TooLong"] : List He.Fa)
def ts : List He.Tab := [(fun K => He.ga K "ROW_LENGTHS", tabK)]
theorem tab_ok {K : PySem.W.Frag} {P : Params} {a : Addr} (h1 : He.valsB K a tabL = true) (h2 : He.dicW K a = some (He.keysIn P tabK)) : ∀ z g, tab_ROW_LENGTHS z = some g → ∃ r v, PySem.W.nsIn K a z = some r ∧ RelV v (r.getD .none) ∧ ∀ F Z, At K F Z v g := by
  intro z g hg
  have got : ∀ (k : Str) (i : Int), (k, He.Dv.int i) ∈ tabL → ∃ r v, PySem.W.nsIn K a k = some r ∧ RelV v (r.getD .none) ∧ ∀ F Z, At K F Z v (.int i) := fun k i hm => by
    obtain ⟨u, e1, e2⟩ := He.valsB_ok h1 hm
    exact ⟨some u, .int i, e1, e2, fun _ _ => .int i⟩
  unfold tab_ROW_LENGTHS at hg
  split at hg
  · rename_i e; subst e; cases hg; exact got _ _ (by unfold tabL; simp)
  · split at hg
    · rename_i e; subst e; cases hg; exact got _ _ (by unfold tabL; simp)
    · split at hg
      · rename_i e; subst e; cases hg; exact got _ _ (by unfold tabL; simp)
      · split at hg
        · rename_i e; subst e; cases hg; exact got _ _ (by unfold tabL; simp)
        · split at hg
          · rename_i e; subst e; cases hg; exact got _ _ (by unfold tabL; simp)
          · split at hg
            · rename_i e; subst e; cases hg; exact got _ _ (by unfold tabL; simp)
            · rename_i n1 n2 n3 n4 n5 n6
              cases hg
              exact ⟨none, .non, dicW_miss h2 (by unfold tabK; simp [n1, n2, n3, n4, n5, n6]), rfl, fun _ _ => .non⟩
theorem sub_ok {K : PySem.W.Frag} (c : Nat → Addr) (X : ExcC K (c 2)) (h0 : PySem.W.kitAny K (.ref (c 2)) [.ref (c 2)] = some true) (h1 : PySem.W.kitAny K (.ref (c 2)) [.type "ValueError"] = some true) (h2 : PySem.W.kitAny K (.ref (c 2)) [.ref (c 7), .ref (c 10), .ref (c 8), .ref (c 12), .ref (c 15)] = some false) (h3 : PySem.W.kitAny K (.ref (c 2)) [.ref (c 4), .ref (c 14), .ref (c 9), .ref (c 6), .ref (c 11), .ref (c 3), .ref (c 13), .ref (c 5)] = some false) : ∀ C us b, subC c C us = some b → ExcC K C ∧ PySem.W.kitAny K (.ref C) us = some b ∧ ∀ u, us = [u] → PySem.W.kitOne K (.ref C) u = some b := by
  intro C us b h
  unfold subC at h
  split at h
  · rename_i e
    subst e
    have one : ∀ u b, PySem.W.kitAny K (.ref (c 2)) [u] = some b → PySem.W.kitOne K (.ref (c 2)) u = some b := fun u b h => by
      unfold PySem.W.kitAny at h
      cases q : PySem.W.kitOne K (.ref (c 2)) u with
      | none => rw [q] at h; cases h
      | some d =>
        rw [q] at h
        cases d with
        | true => exact h
        | false => exact h
    have all : PySem.W.kitAny K (.ref (c 2)) us = some b := by
      unfold subT at h
      simp only [List.lookup_cons] at h
      split at h
      · rename_i q; have e := beq_iff_eq.mp q; subst e; cases h; exact h0
      · split at h
        · rename_i q; have e := beq_iff_eq.mp q; subst e; cases h; exact h1
        · split at h
          · rename_i q; have e := beq_iff_eq.mp q; subst e; cases h; exact h2
          · split at h
            · rename_i q; have e := beq_iff_eq.mp q; subst e; cases h; exact h3
            · cases h
    exact ⟨X, all, fun u e => one u b (by rw [← e]; exact all)⟩
  · cases h

theorem facts {w : World} {h : Heap} {K : PySem.W.Frag} {mg : Str → Option Value} (X : K.In h) (G : h.Ns mainGlobals mg) (c : He.SaysT fa fn ts w K) (cx : exB K = true) : ∃ (cc f : Nat → Addr) (fd : Nat → FuncData), f 46 = He.ga K "law" ∧ Fx K w mg cc f fd := by
  have d := c.d
  obtain ⟨fd23, F23⟩ := d.def_ 0 (d := ⟨("is_list", none), "is_list", "is_list", defArgs (top 23), defBody (top 23), defScope (top 23), [], []⟩) rfl
  obtain ⟨fd24, F24⟩ := d.def_ 1 (d := ⟨("is_number", none), "is_number", "is_number", defArgs (top 24), defBody (top 24), defScope (top 24), [], []⟩) rfl
  obtain ⟨fd25, F25⟩ := d.def_ 2 (d := ⟨("is_below", none), "is_below", "is_below", defArgs (top 25), defBody (top 25), defScope (top 25), [], []⟩) rfl
  obtain ⟨fd26, F26⟩ := d.def_ 3 (d := ⟨("is_move", none), "is_move", "is_move", defArgs (top 26), defBody (top 26), defScope (top 26), [], []⟩) rfl
  obtain ⟨fd27, F27⟩ := d.def_ 4 (d := ⟨("parts_of", none), "parts_of", "parts_of", defArgs (top 27), defBody (top 27), defScope (top 27), [], []⟩) rfl
  obtain ⟨fd28, F28⟩ := d.def_ 5 (d := ⟨("is_row", none), "is_row", "is_row", defArgs (top 28), defBody (top 28), defScope (top 28), [], []⟩) rfl
  obtain ⟨fd29, F29⟩ := d.def_ 6 (d := ⟨("need_rows", none), "need_rows", "need_rows", defArgs (top 29), defBody (top 29), defScope (top 29), [], []⟩) rfl
  obtain ⟨fd31, F31⟩ := d.def_ 7 (d := ⟨("_law_begin", none), "_law_begin", "_law_begin", defArgs (top 31), defBody (top 31), defScope (top 31), [], []⟩) rfl
  obtain ⟨fd32, F32⟩ := d.def_ 8 (d := ⟨("_law_take", none), "_law_take", "_law_take", defArgs (top 32), defBody (top 32), defScope (top 32), [], []⟩) rfl
  obtain ⟨fd33, F33⟩ := d.def_ 9 (d := ⟨("_law_pick", none), "_law_pick", "_law_pick", defArgs (top 33), defBody (top 33), defScope (top 33), [], []⟩) rfl
  obtain ⟨fd34, F34⟩ := d.def_ 10 (d := ⟨("_law_words", none), "_law_words", "_law_words", defArgs (top 34), defBody (top 34), defScope (top 34), [], []⟩) rfl
  obtain ⟨fd35, F35⟩ := d.def_ 11 (d := ⟨("_law_lines", none), "_law_lines", "_law_lines", defArgs (top 35), defBody (top 35), defScope (top 35), [], []⟩) rfl
  obtain ⟨fd36, F36⟩ := d.def_ 12 (d := ⟨("_law_is_word", none), "_law_is_word", "_law_is_word", defArgs (top 36), defBody (top 36), defScope (top 36), [], []⟩) rfl
  obtain ⟨fd37, F37⟩ := d.def_ 13 (d := ⟨("_law_is_number", none), "_law_is_number", "_law_is_number", defArgs (top 37), defBody (top 37), defScope (top 37), [], []⟩) rfl
  obtain ⟨fd38, F38⟩ := d.def_ 14 (d := ⟨("_law_is_line", none), "_law_is_line", "_law_is_line", defArgs (top 38), defBody (top 38), defScope (top 38), [], []⟩) rfl
  obtain ⟨fd39, F39⟩ := d.def_ 15 (d := ⟨("_law_part_bent", none), "_law_part_bent", "_law_part_bent", defArgs (top 39), defBody (top 39), defScope (top 39), [], []⟩) rfl
  obtain ⟨fd40, F40⟩ := d.def_ 16 (d := ⟨("_law_line_bent", none), "_law_line_bent", "_law_line_bent", defArgs (top 40), defBody (top 40), defScope (top 40), [], []⟩) rfl
  obtain ⟨fd41, F41⟩ := d.def_ 17 (d := ⟨("_law_bent", none), "_law_bent", "_law_bent", defArgs (top 41), defBody (top 41), defScope (top 41), [], []⟩) rfl
  obtain ⟨fd42, F42⟩ := d.def_ 18 (d := ⟨("_law_due", none), "_law_due", "_law_due", defArgs (top 42), defBody (top 42), defScope (top 42), [], []⟩) rfl
  obtain ⟨fd43, F43⟩ := d.def_ 19 (d := ⟨("_law_told", none), "_law_told", "_law_told", defArgs (top 43), defBody (top 43), defScope (top 43), [], []⟩) rfl
  obtain ⟨fd44, F44⟩ := d.def_ 20 (d := ⟨("_law_move_right", none), "_law_move_right", "_law_move_right", defArgs (top 44), defBody (top 44), defScope (top 44), [], []⟩) rfl
  obtain ⟨fd45, F45⟩ := d.def_ 21 (d := ⟨("_law_long_right", none), "_law_long_right", "_law_long_right", defArgs (top 45), defBody (top 45), defScope (top 45), [], []⟩) rfl
  obtain ⟨fd46, F46⟩ := d.def_ 22 (d := ⟨("law", none), "law", "law", defArgs (top 46), defBody (top 46), defScope (top 46), [], []⟩) rfl
  obtain ⟨fd102, F102⟩ := d.def_ 23 (d := ⟨("NoRow", some "__init__"), "__init__", "NoRow.__init__", defArgs (inClass (top 2) 0), defBody (inClass (top 2) 0), defScope (inClass (top 2) 0), [], []⟩) rfl
  obtain ⟨x0, y0⟩ := and2 cx
  obtain ⟨x1, y1⟩ := and2 y0
  obtain ⟨x2, y2⟩ := and2 y1
  obtain ⟨x3, y3⟩ := and2 y2
  obtain ⟨x4, y4⟩ := and2 y3
  obtain ⟨x5, y5⟩ := and2 y4
  obtain ⟨x6, y6⟩ := and2 y5
  obtain ⟨x7, y7⟩ := and2 y6
  obtain ⟨x8, y8⟩ := and2 y7
  obtain ⟨x9, y9⟩ := and2 y8
  obtain ⟨x10, x11⟩ := and2 y9
  have D23 := fun_of (st := top 23) F23
  have D24 := fun_of (st := top 24) F24
  have D25 := fun_of (st := top 25) F25
  have D26 := fun_of (st := top 26) F26
  have D27 := fun_of (st := top 27) F27
  have D28 := fun_of (st := top 28) F28
  have D29 := fun_of (st := top 29) F29
  have D31 := fun_of (st := top 31) F31
  have D32 := fun_of (st := top 32) F32
  have D33 := fun_of (st := top 33) F33
  have D34 := fun_of (st := top 34) F34
  have D35 := fun_of (st := top 35) F35
  have D36 := fun_of (st := top 36) F36
  have D37 := fun_of (st := top 37) F37
  have D38 := fun_of (st := top 38) F38
  have D39 := fun_of (st := top 39) F39
  have D40 := fun_of (st := top 40) F40
  have D41 := fun_of (st := top 41) F41
  have D42 := fun_of (st := top 42) F42
  have D43 := fun_of (st := top 43) F43
  have D44 := fun_of (st := top 44) F44
  have D45 := fun_of (st := top 45) F45
  have D46 := fun_of (st := top 46) F46
  have D102 := fun_of (st := inClass (top 2) 0) F102
  have kb : ∀ (s : Shared) (us : List Value), us.length = (["rows"] : List Str).length → BindsTo s fd29 ⟨[], (["rows"] : List Str).zip us⟩ ((["rows"] : List Str).zip us) := fun s us hl => by
    obtain ⟨oc, od, kV, doc, pm, an, cdv, ct, osl, e, _⟩ := D29.ex
    rw [e]
    match us, hl with
    | [u], _ => exact .of_eq rfl
  refine ⟨fun n => match n with | 1 => He.ga K "SightError" | 2 => He.ga K "NoRow" | 3 => He.ga K "NoMoves" | 4 => He.ga K "NoChoice" | 5 => He.ga K "NoPlayers" | 6 => He.ga K "NoLevel" | 7 => He.ga K "NoSeat" | 8 => He.ga K "NoText" | 9 => He.ga K "NoLetter" | 10 => He.ga K "NoStand" | 11 => He.ga K "NoMachine" | 12 => He.ga K "NoWorths" | 13 => He.ga K "NoName" | 14 => He.ga K "NoDeed" | 15 => He.ga K "TooLong" | 22 => He.ga K "ROW_LENGTHS" | _ => 0, fun n => match n with | 23 => He.ga K "is_list" | 24 => He.ga K "is_number" | 25 => He.ga K "is_below" | 26 => He.ga K "is_move" | 27 => He.ga K "parts_of" | 28 => He.ga K "is_row" | 29 => He.ga K "need_rows" | 31 => He.ga K "_law_begin" | 32 => He.ga K "_law_take" | 33 => He.ga K "_law_pick" | 34 => He.ga K "_law_words" | 35 => He.ga K "_law_lines" | 36 => He.ga K "_law_is_word" | 37 => He.ga K "_law_is_number" | 38 => He.ga K "_law_is_line" | 39 => He.ga K "_law_part_bent" | 40 => He.ga K "_law_line_bent" | 41 => He.ga K "_law_bent" | 42 => He.ga K "_law_due" | 43 => He.ga K "_law_told" | 44 => He.ga K "_law_move_right" | 45 => He.ga K "_law_long_right" | 46 => He.ga K "law" | 102 => He.ma K (He.ga K "NoRow") "__init__" | _ => 0, fun n => match n with | 23 => fd23 | 24 => fd24 | 25 => fd25 | 26 => fd26 | 27 => fd27 | 28 => fd28 | 29 => fd29 | 31 => fd31 | 32 => fd32 | 33 => fd33 | 34 => fd34 | 35 => fd35 | 36 => fd36 | 37 => fd37 | 38 => fd38 | 39 => fd39 | 40 => fd40 | 41 => fd41 | 42 => fd42 | 43 => fd43 | 44 => fd44 | 45 => fd45 | 46 => fd46 | 102 => fd102 | _ => fd102, rfl, ?_⟩
  exact {
    d_is_list := ⟨He.glo_ok X G (d.fact 0 (f := .glo "is_list") rfl), D23, D23.binds fun _ _ _ _ _ _ us hl => match us, hl with | [_], _ => rfl⟩
    d_is_number := ⟨He.glo_ok X G (d.fact 1 (f := .glo "is_number") rfl), D24, D24.binds fun _ _ _ _ _ _ us hl => match us, hl with | [_], _ => rfl⟩
    d_is_below := ⟨He.glo_ok X G (d.fact 2 (f := .glo "is_below") rfl), D25, D25.binds fun _ _ _ _ _ _ us hl => match us, hl with | [_, _], _ => rfl⟩
    d_is_move := ⟨He.glo_ok X G (d.fact 3 (f := .glo "is_move") rfl), D26, D26.binds fun _ _ _ _ _ _ us hl => match us, hl with | [_], _ => rfl⟩
    d_parts_of := ⟨He.glo_ok X G (d.fact 4 (f := .glo "parts_of") rfl), D27, D27.binds fun _ _ _ _ _ _ us hl => match us, hl with | [_], _ => rfl⟩
    d_is_row := ⟨He.glo_ok X G (d.fact 5 (f := .glo "is_row") rfl), D28, D28.binds fun _ _ _ _ _ _ us hl => match us, hl with | [_, _], _ => rfl⟩
    d_need_rows := ⟨He.glo_ok X G (d.fact 6 (f := .glo "need_rows") rfl), D29, D29.binds fun _ _ _ _ _ _ us hl => match us, hl with | [_], _ => rfl⟩
    d__law_begin := ⟨He.glo_ok X G (d.fact 7 (f := .glo "_law_begin") rfl), D31, D31.binds fun _ _ _ _ _ _ us hl => match us, hl with | [_], _ => rfl⟩
    d__law_take := ⟨He.glo_ok X G (d.fact 8 (f := .glo "_law_take") rfl), D32, D32.binds fun _ _ _ _ _ _ us hl => match us, hl with | [_, _], _ => rfl⟩
    d__law_pick := ⟨He.glo_ok X G (d.fact 9 (f := .glo "_law_pick") rfl), D33, D33.binds fun _ _ _ _ _ _ us hl => match us, hl with | [_, _], _ => rfl⟩
    d__law_words := ⟨He.glo_ok X G (d.fact 10 (f := .glo "_law_words") rfl), D34, D34.binds fun _ _ _ _ _ _ us hl => match us, hl with | [_, _], _ => rfl⟩
    d__law_lines := ⟨He.glo_ok X G (d.fact 11 (f := .glo "_law_lines") rfl), D35, D35.binds fun _ _ _ _ _ _ us hl => match us, hl with | [_, _, _, _], _ => rfl⟩
    d__law_is_word := ⟨He.glo_ok X G (d.fact 12 (f := .glo "_law_is_word") rfl), D36, D36.binds fun _ _ _ _ _ _ us hl => match us, hl with | [_], _ => rfl⟩
    d__law_is_number := ⟨He.glo_ok X G (d.fact 13 (f := .glo "_law_is_number") rfl), D37, D37.binds fun _ _ _ _ _ _ us hl => match us, hl with | [_, _, _], _ => rfl⟩
    d__law_is_line := ⟨He.glo_ok X G (d.fact 14 (f := .glo "_law_is_line") rfl), D38, D38.binds fun _ _ _ _ _ _ us hl => match us, hl with | [_, _], _ => rfl⟩
    d__law_part_bent := ⟨He.glo_ok X G (d.fact 15 (f := .glo "_law_part_bent") rfl), D39, D39.binds fun _ _ _ _ _ _ us hl => match us, hl with | [_, _, _], _ => rfl⟩
    d__law_line_bent := ⟨He.glo_ok X G (d.fact 16 (f := .glo "_law_line_bent") rfl), D40, D40.binds fun _ _ _ _ _ _ us hl => match us, hl with | [_, _, _], _ => rfl⟩
    d__law_bent := ⟨He.glo_ok X G (d.fact 17 (f := .glo "_law_bent") rfl), D41, D41.binds fun _ _ _ _ _ _ us hl => match us, hl with | [_, _], _ => rfl⟩
    d__law_due := ⟨He.glo_ok X G (d.fact 18 (f := .glo "_law_due") rfl), D42, D42.binds fun _ _ _ _ _ _ us hl => match us, hl with | [_], _ => rfl⟩
    d__law_told := ⟨He.glo_ok X G (d.fact 19 (f := .glo "_law_told") rfl), D43, D43.binds fun _ _ _ _ _ _ us hl => match us, hl with | [_], _ => rfl⟩
    d__law_move_right := ⟨He.glo_ok X G (d.fact 20 (f := .glo "_law_move_right") rfl), D44, D44.binds fun _ _ _ _ _ _ us hl => match us, hl with | [_], _ => rfl⟩
    d__law_long_right := ⟨He.glo_ok X G (d.fact 21 (f := .glo "_law_long_right") rfl), D45, D45.binds fun _ _ _ _ _ _ us hl => match us, hl with | [_], _ => rfl⟩
    d_law := ⟨He.glo_ok X G (d.fact 22 (f := .glo "law") rfl), D46, D46.binds fun _ _ _ _ _ _ us hl => match us, hl with | [_], _ => rfl⟩
    z_ValueError := He.free_ok X G (d.fact 23 (f := .free "ValueError") rfl)
    z_abs := He.free_ok X G (d.fact 24 (f := .free "abs") rfl)
    z_all := He.free_ok X G (d.fact 25 (f := .free "all") rfl)
    z_bool := He.free_ok X G (d.fact 26 (f := .free "bool") rfl)
    z_enumerate := He.free_ok X G (d.fact 27 (f := .free "enumerate") rfl)
    z_int := He.free_ok X G (d.fact 28 (f := .free "int") rfl)
    z_isinstance := He.free_ok X G (d.fact 29 (f := .free "isinstance") rfl)
    z_len := He.free_ok X G (d.fact 30 (f := .free "len") rfl)
    z_list := He.free_ok X G (d.fact 31 (f := .free "list") rfl)
    z_min := He.free_ok X G (d.fact 32 (f := .free "min") rfl)
    z_range := He.free_ok X G (d.fact 33 (f := .free "range") rfl)
    z_repr := He.free_ok X G (d.fact 34 (f := .free "repr") rfl)
    z_str := He.free_ok X G (d.fact 35 (f := .free "str") rfl)
    z_tuple := He.free_ok X G (d.fact 36 (f := .free "tuple") rfl)
    c_LETTERS := let ⟨t, e⟩ := He.str_ok X G (d.fact 37 (f := .str "LETTERS" "abcdefghijklmnopqrstuvwxyz") rfl); ⟨_, e, ⟨t, rfl⟩⟩
    c_LONGEST_MOVE := let ⟨t, e⟩ := He.int_ok X G (d.fact 38 (f := .int "LONGEST_MOVE" 8) rfl); ⟨_, e, ⟨t, rfl⟩⟩
    c_MOST_ROWS := let ⟨t, e⟩ := He.int_ok X G (d.fact 39 (f := .int "MOST_ROWS" 2000) rfl); ⟨_, e, ⟨t, rfl⟩⟩
    c_FARTHEST_SEAT := let ⟨t, e⟩ := He.int_ok X G (d.fact 40 (f := .int "FARTHEST_SEAT" 3) rfl); ⟨_, e, ⟨t, rfl⟩⟩
    c_GREATEST_SHOWN := let ⟨t, e⟩ := He.int_ok X G (d.fact 41 (f := .int "GREATEST_SHOWN" 99) rfl); ⟨_, e, ⟨t, rfl⟩⟩
    k_SightError := He.glo_ok X G (d.fact 43 (f := .glo "SightError") rfl)
    k_NoRow := He.glo_ok X G (d.fact 44 (f := .glo "NoRow") rfl)
    k_NoMoves := He.glo_ok X G (d.fact 45 (f := .glo "NoMoves") rfl)
    k_NoChoice := He.glo_ok X G (d.fact 46 (f := .glo "NoChoice") rfl)
    k_NoPlayers := He.glo_ok X G (d.fact 47 (f := .glo "NoPlayers") rfl)
    k_NoLevel := He.glo_ok X G (d.fact 48 (f := .glo "NoLevel") rfl)
    k_NoSeat := He.glo_ok X G (d.fact 49 (f := .glo "NoSeat") rfl)
    k_NoText := He.glo_ok X G (d.fact 50 (f := .glo "NoText") rfl)
    k_NoLetter := He.glo_ok X G (d.fact 51 (f := .glo "NoLetter") rfl)
    k_NoStand := He.glo_ok X G (d.fact 52 (f := .glo "NoStand") rfl)
    k_NoMachine := He.glo_ok X G (d.fact 53 (f := .glo "NoMachine") rfl)
    k_NoWorths := He.glo_ok X G (d.fact 54 (f := .glo "NoWorths") rfl)
    k_NoName := He.glo_ok X G (d.fact 55 (f := .glo "NoName") rfl)
    k_NoDeed := He.glo_ok X G (d.fact 56 (f := .glo "NoDeed") rfl)
    k_TooLong := He.glo_ok X G (d.fact 57 (f := .glo "TooLong") rfl)
    c_ROW_LENGTHS := He.glo_ok X G (d.fact 42 (f := .glo "ROW_LENGTHS") rfl)
    dk_ROW_LENGTHS := c.tab 0 (t := (fun K => He.ga K "ROW_LENGTHS", tabK)) rfl
    tab_ROW_LENGTHS := tab_ok x7 (by have e : ts.map (fun t => He.dicW K (t.1 K)) = ts.map fun t => some (He.keysIn w.params t.2) := congrArg (fun z : He.AlT => z.2) c; exact List.head_eq_of_cons_eq e)
    ox_NoRow := oexA_ok x0
    ix_NoRow := of_decide_eq_true x4
    tx_NoRow := of_decide_eq_true x5
    fi_NoRow := D102
    bx_NoRow := D102.binds fun _ _ _ _ _ _ us hl => match us, hl with | [_, _], _ => rfl
    no_NoRow := of_decide_eq_true x3
    xf_at := fun D hD => by
      have e := of_decide_eq_true hD
      subst e
      exact ⟨xfB_ok x2, of_decide_eq_true x3⟩
    sub := sub_ok _ (excA_ok x1) (of_decide_eq_true x8) (of_decide_eq_true x9) (of_decide_eq_true x10) (of_decide_eq_true x11)
    exm := fun D hD => by
      have e := of_decide_eq_true hD
      subst e
      exact of_decide_eq_true x6
    kb_need_rows := kb }
end FL.K1
set_option Elab.async false
set_option linter.all false
set_option maxRecDepth 100000
open PySem PySem.W PyProof.Rows in
set_option maxHeartbeats 0 in
theorem PySem.Challenge.cw_lookthrough_k01_what_rows_are_holds : PySem.Challenge.rw_lookthrough_k01_what_rows_are.Holds := by
  w_on; o_law; k_head; (case hw => w_witness2)
  k_fill
  refine FL.walk_X (l := PySem.Challenge.rw_lookthrough_k01_what_rows_are) (n := 63) (k := 9) (x := "script") (sp := FL.K1.spLaw) rfl (by decide) (by kernel_rfl) ⟨⟨rfl, by decide, by decide⟩, rfl⟩ (fun w h Y => PySem.W.kIn_of Y) ?F fun K H a ns hl _ hS => ⟨a, ns, rfl, hS, hl, fun _ => rfl⟩
  intro w mg fa h KX G hmg
  obtain ⟨cc, f, fd, ef, T⟩ := FL.K1.facts KX G (show He.obsT FL.K1.fa FL.K1.fn FL.K1.ts _ = He.valT FL.K1.fn FL.K1.ts w by kernel_rfl) (by kernel_rfl)
  have e := (show mg ("law" : PySem.Str) = some (.ref fa) from hmg).symm.trans T.d_law.g
  cases e
  refine ⟨fd 46, fun s v => ?_, fun b _ _ => FL.K1.ok_law T⟩
  obtain ⟨oc, od, kV, doc, pm, an, cdv, ct, osl, e, _⟩ := T.d_law.fn.ex
  rw [e]
  exact .of_eq rfl
