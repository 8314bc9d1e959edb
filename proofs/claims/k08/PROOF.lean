import PyProof.Rows.All
import Wide.All
import OpenK.AllK
import Wide.FinOn
import HandS.ForMost
import HandS.Exc
import HandS.TryOnly
import HandS.ExcOwn
import HandS.WordsExc
import HandS.ExcField
import HandS.ExcIs
import HandS.ExcInit
import HandS.HeadHook1
import HandS.Wide
import HandS.Gcd
import HandS.StrMore
import HandS.FStr
import HandS.TupAny
import HandS.IsInst
import HandS.Zip
import HandS.DictTup
import HandS.More
import HandS.Replace
import HandS.Style
import HandS.Flow
import KE.KExcIs
import HandS.ExcValue
import HandS.ReplaceLit
import KE.KMathGC
import HandS.Text
import PySem.Challenge.RW_layernets_k08_tables_and_other_things
set_option Elab.async false
set_option linter.all false
set_option maxRecDepth 100000
set_option maxHeartbeats 4100000
/-! Mi0: mirrors. Data without addresses, a state (slots, frozen part of the heap, a box of three ints), readings that say what a mirror says. -/
namespace Mi
open PySem PySem.Spec L2

inductive D where
  | non
  | bl (b : Bool)
  | int (i : Int)
  | str (s : Str)
  | lst (xs : List D)
  | tup (xs : List D)
  | dct (kvs : List (Key × D))
  | obj (c : Str) (fs : List (Str × D))
  | err (c : Str) (fs : List (Str × D))
  | fn (x : Str)
  | box
  | scr (ns : List Int)
  deriving Inhabited

abbrev Bx := Int × Int × Int
abbrev Fl := List (Str × D)

inductive R (α : Type) where
  | val (a : α) (x : Bx)
  | exc (c : Str) (fs : Fl) (x : Bx)
  | out

inductive Slot where
  | un
  | fz (d : D)
  | ol (ds : List D)
  | od (kds : List (Key × D))
  deriving Inhabited
abbrev En := List Slot

/-- a tuple: a frozen one, one of the module -/
def KTup (K : PySem.W.Frag) (a : Addr) (xs : List V) : Prop := ∃ (o : Obj) (its : Array Value) (n : Nat), K.lookup a = some o ∧ o.cls = .type "tuple" ∧ o.data = .seq its n ∧ its.size ≤ sizeLine ∧ Vals xs its.toList
def TupAt (K : PySem.W.Frag) (F : Hp) (a : Addr) (xs : List V) : Prop := F a = some (.tup xs) ∨ KTup K a xs
theorem TupAt.mono {K : PySem.W.Frag} {F F' : Hp} {a : Addr} {xs : List V} (h : TupAt K F a xs) (s : Same F F') : TupAt K F' a xs := h.imp (s _ _) id
/-- an exception's object, made or caught, of the class at C, its dict at d -/
def exv (a C : Addr) (d : Option Addr) : HO := .ext fun h => ∃ (oe : Obj) (vs : Array Value), h.get? a = some oe ∧ Zc (.ref C) d oe ∧ oe.data = .fields vs
mutual
inductive Rep (K : PySem.W.Frag) (b : Option Addr) (F : Hp) : V → D → Prop
  | non : Rep K b F .non .non
  | bl (c : Bool) : Rep K b F (.bl c) (.bl c)
  | int (i : Int) : Rep K b F (.int i) (.int i)
  | str (s : Str) : Rep K b F (.str s) (.str s)
  | lst {a : Addr} {vs : List V} {ds : List D} : F a = some (.lst vs) → RepL K b F vs ds → Rep K b F (.ref a) (.lst ds)
  | tup {a : Addr} {vs : List V} {ds : List D} : TupAt K F a vs → RepL K b F vs ds → Rep K b F (.ref a) (.tup ds)
  | dct {a : Addr} {kvs : List (Key × V)} {kds : List (Key × D)} : F a = some (.dK kvs) → RepK K b F kvs kds → Rep K b F (.ref a) (.dct kds)
  | obj {a C dx : Addr} {c : Str} {fs : List (Str × V)} {fds : Fl} : F a = some (.ins C dx fs) → C = He.ga K c → RepF K b F fs fds → Rep K b F (.ref a) (.obj c fds)
  | err0 {a C : Addr} {c : Str} : F a = some (exv a C none) → C = He.ga K c → Rep K b F (.ref a) (.err c [])
  | err {a C dx : Addr} {c : Str} {fs : List (Str × V)} {fds : Fl} : F a = some (exv a C (some dx)) → C = He.ga K c → F dx = some (.xd fs) → RepF K b F fs fds → Rep K b F (.ref a) (.err c fds)
  | fn {x : Str} : Rep K b F (.ref (He.ga K x)) (.fn x)
  | box {a : Addr} : b = some a → Rep K b F (.ref a) .box
  | scr {a : Addr} {ns : List Int} : SqL K F a (ns.map V.int) → Rep K b F (.ref a) (.scr ns)
inductive RepL (K : PySem.W.Frag) (b : Option Addr) (F : Hp) : List V → List D → Prop
  | nil : RepL K b F [] []
  | cons {v : V} {vs : List V} {d : D} {ds : List D} : Rep K b F v d → RepL K b F vs ds → RepL K b F (v :: vs) (d :: ds)
inductive RepK (K : PySem.W.Frag) (b : Option Addr) (F : Hp) : List (Key × V) → List (Key × D) → Prop
  | nil : RepK K b F [] []
  | cons {k : Key} {v : V} {vs : List (Key × V)} {d : D} {ds : List (Key × D)} : Rep K b F v d → RepK K b F vs ds → RepK K b F ((k, v) :: vs) ((k, d) :: ds)
inductive RepF (K : PySem.W.Frag) (b : Option Addr) (F : Hp) : List (Str × V) → Fl → Prop
  | nil : RepF K b F [] []
  | cons {k : Str} {v : V} {vs : List (Str × V)} {d : D} {ds : Fl} : Rep K b F v d → RepF K b F vs ds → RepF K b F ((k, v) :: vs) ((k, d) :: ds)
end

section
variable {K : PySem.W.Frag} {b : Option Addr} {F F' : Hp}
mutual
theorem Rep.mono (s : Same F F') : ∀ {v : V} {d : D}, Rep K b F v d → Rep K b F' v d
  | _, _, .non => .non
  | _, _, .bl c => .bl c
  | _, _, .int i => .int i
  | _, _, .str x => .str x
  | _, _, .lst h r => .lst (s _ _ h) (RepL.mono s r)
  | _, _, .tup h r => .tup (h.mono s) (RepL.mono s r)
  | _, _, .dct h r => .dct (s _ _ h) (RepK.mono s r)
  | _, _, .obj h e r => .obj (s _ _ h) e (RepF.mono s r)
  | _, _, .err0 h e => .err0 (s _ _ h) e
  | _, _, .err h e h2 r => .err (s _ _ h) e (s _ _ h2) (RepF.mono s r)
  | _, _, .fn => .fn
  | _, _, .box e => .box e
  | _, _, .scr e => .scr (s.seq e)
theorem RepL.mono (s : Same F F') : ∀ {v : List V} {d : List D}, RepL K b F v d → RepL K b F' v d
  | _, _, .nil => .nil
  | _, _, .cons h r => .cons (Rep.mono s h) (RepL.mono s r)
theorem RepK.mono (s : Same F F') : ∀ {v : List (Key × V)} {d : List (Key × D)}, RepK K b F v d → RepK K b F' v d
  | _, _, .nil => .nil
  | _, _, .cons h r => .cons (Rep.mono s h) (RepK.mono s r)
theorem RepF.mono (s : Same F F') : ∀ {v : List (Str × V)} {d : Fl}, RepF K b F v d → RepF K b F' v d
  | _, _, .nil => .nil
  | _, _, .cons h r => .cons (Rep.mono s h) (RepF.mono s r)
end
theorem RepL.length : ∀ {vs : List V} {ds : List D}, RepL K b F vs ds → vs.length = ds.length
  | _, _, .nil => rfl
  | _, _, .cons _ r => by rw [List.length_cons, List.length_cons, RepL.length r]
theorem RepL.get : ∀ {vs : List V} {ds : List D} {i : Nat} {d : D}, RepL K b F vs ds → ds[i]? = some d → ∃ v, vs[i]? = some v ∧ Rep K b F v d
  | _, _, _, _, .nil, e =>
    by simp at e
  | _, _, 0, _, .cons h _, e => by simp at e; subst e; exact ⟨_, rfl, h⟩
  | _, _, i + 1, d, .cons _ r, e => by
    obtain ⟨v, h1, h2⟩ := RepL.get (i := i) (d := d) r (by simpa using e)
    exact ⟨v, by simpa using h1, h2⟩
theorem RepL.get' : ∀ {vs : List V} {ds : List D} {i : Nat} {v : V}, RepL K b F vs ds → vs[i]? = some v → ∃ d, ds[i]? = some d ∧ Rep K b F v d
  | _, _, _, _, .nil, e =>
    by simp at e
  | _, _, 0, _, .cons h _, e => by simp at e; subst e; exact ⟨_, rfl, h⟩
  | _, _, i + 1, v, .cons _ r, e => by
    obtain ⟨d, h1, h2⟩ := RepL.get' (i := i) (v := v) r (by simpa using e)
    exact ⟨d, by simpa using h1, h2⟩
theorem RepL.append : ∀ {vs ws : List V} {ds es : List D}, RepL K b F vs ds → RepL K b F ws es → RepL K b F (vs ++ ws) (ds ++ es)
  | _, _, _, _, .nil, s => s
  | _, _, _, _, .cons h r, s => .cons h (RepL.append r s)
theorem RepL.take : ∀ {vs : List V} {ds : List D} (n : Nat), RepL K b F vs ds → RepL K b F (vs.take n) (ds.take n)
  | _, _, 0, _ => .nil
  | _, _, _ + 1, .nil => .nil
  | _, _, n + 1, .cons h r => .cons h (RepL.take n r)
theorem RepL.drop : ∀ {vs : List V} {ds : List D} (n : Nat), RepL K b F vs ds → RepL K b F (vs.drop n) (ds.drop n)
  | _, _, 0, r => r
  | _, _, _ + 1, .nil => .nil
  | _, _, n + 1, .cons _ r => RepL.drop n r
theorem RepL.set : ∀ {vs : List V} {ds : List D} {v : V} {d : D} (i : Nat), Rep K b F v d → RepL K b F vs ds → RepL K b F (vs.set i v) (ds.set i d)
  | _, _, _, _, _, _, .nil => .nil
  | _, _, _, _, 0, q, .cons _ r => .cons q r
  | _, _, _, _, i + 1, q, .cons h r => .cons h (RepL.set i q r)
theorem RepL.erase : ∀ {vs : List V} {ds : List D} (i : Nat), RepL K b F vs ds → RepL K b F (vs.eraseIdx i) (ds.eraseIdx i)
  | _, _, _, .nil => .nil
  | _, _, 0, .cons _ r => r
  | _, _, i + 1, .cons h r => .cons h (RepL.erase i r)
end

/-! ### the state -/
structure Cf where
  K : PySem.W.Frag
  b : Option Addr
  H0 : Hp
  F0 : Hp

def bxO (x : Bx) : HO := .lst [.int x.1, .int x.2.1, .int x.2.2]
structure Core (S : Cf) (F H : Hp) (x : Bx) : Prop where
  sub : Same F H
  f0 : Same S.F0 F
  fresh : ∀ p, S.H0 p ≠ none → S.F0 p = none → F p = none
  keep : ∀ p o, S.H0 p = some o → S.b ≠ some p → H p = some o
  box : ∀ a, S.b = some a → F a = none ∧ H a = some (bxO x)
def KeepB (b : Option Addr) (H H' : Hp) : Prop := ∀ p o, H p = some o → b ≠ some p → H' p = some o
theorem KeepB.refl {b : Option Addr} {H : Hp} : KeepB b H H := fun _ _ h _ => h
theorem KeepB.trans {b : Option Addr} {H H1 H2 : Hp} (a : KeepB b H H1) (c : KeepB b H1 H2) : KeepB b H H2 := fun p o h n => c p o (a p o h n) n
theorem KeepB.new {b : Option Addr} {H : Hp} {p : Addr} {o : HO} (h : H p = none) : KeepB b H (upd H p o) := fun q u e _ => by
  rw [upd_ne (ne_of_none e h)]
  exact e
theorem Same.new {H : Hp} {p : Addr} {o : HO} (h : H p = none) : Same H (upd H p o) := fun q u e => by
  rw [upd_ne (ne_of_none e h)]
  exact e

/-- what a slot is -/
def SlotOk (S : Cf) (F H : Hp) (v : Option V) : Slot → Prop
  | .un => True
  | .fz d => ∃ u, v = some u ∧ Rep S.K S.b F u d
  | .ol ds => ∃ p vs, v = some (.ref p) ∧ S.b ≠ some p ∧ S.H0 p = none ∧ F p = none ∧ H p = some (.lst vs) ∧ RepL S.K S.b F vs ds
  | .od kds => ∃ p kvs, v = some (.ref p) ∧ S.b ≠ some p ∧ S.H0 p = none ∧ F p = none ∧ H p = some (.dK kvs) ∧ RepK S.K S.b F kvs kds
def Slot.own : Slot → Bool
  | .ol _ => true
  | .od _ => true
  | _ => false
structure Rel (S : Cf) (F H : Hp) (σ : L2.St) (ρ : En) (x : Bx) : Prop where
  core : Core S F H x
  len : ρ.length = σ.length
  slot : ∀ (i : Nat) (s : Slot), ρ[i]? = some s → ∃ v, σ[i]? = some v ∧ SlotOk S F H v s
  dist : ∀ (i j : Nat) (s t : Slot) (p : Addr), i ≠ j → ρ[i]? = some s → ρ[j]? = some t → s.own = true → t.own = true → σ[i]? = some (some (.ref p)) → σ[j]? ≠ some (some (.ref p))

/-- an exception's dict -/
def XdOk (S : Cf) (F : Hp) (dd : Option Addr) (fs : Fl) : Prop := (fs = [] ∧ dd = none) ∨ ∃ a vs, dd = some a ∧ F a = some (.xd vs) ∧ RepF S.K S.b F vs fs

abbrev Rl (α β : Type) := Cf → Hp → β → α → Prop
def rlD : Rl D V := fun S F v d => Rep S.K S.b F v d
def rlL : Rl (List D) (List V) := fun S F v d => RepL S.K S.b F v d
def rlB {α : Type} : Rl α α := fun _ _ b' b => b' = b

def Post {α β : Type} (rl : Rl α β) (S : Cf) (W : WX) (σ : L2.St) (F H : Hp) (ρ : En) (r : R α) (Q : β → Hp → Prop) : Prop := match r with
  | .val a x' => ∀ v F' H', Rel S F' H' σ ρ x' → Same F F' → KeepB S.b H H' → rl S F' v a → Q v H'
  | .exc c fs x' => ∀ F' H' dd, Rel S F' H' σ ρ x' → Same F F' → KeepB S.b H H' → XdOk S F' dd fs → W (.ref (He.ga S.K c)) dd σ H'
  | .out => False
theorem Post.mono {α β : Type} {rl : Rl α β} {S : Cf} {W : WX} {σ : L2.St} {F H F1 H1 : Hp} {ρ : En} {r : R α} {Q : β → Hp → Prop} (s : Same F F1) (k : KeepB S.b H H1) (h : Post rl S W σ F H ρ r Q) : Post rl S W σ F1 H1 ρ r Q := by
  cases r with
  | val a x' => exact fun v F' H' a1 a2 a3 a4 => h v F' H' a1 (s.trans a2) (k.trans a3) a4
  | exc c fs x' => exact fun F' H' dd a1 a2 a3 a4 => h F' H' dd a1 (s.trans a2) (k.trans a3) a4
  | out => exact h

abbrev MM (α : Type) := En → Bx → R α
def R.bind {α β : Type} (r : R α) (k : α → Bx → R β) : R β := match r with
  | .val a x => k a x
  | .exc c fs x => .exc c fs x
  | .out => .out

/-- the reading that a mirror gives -/
def rd {α β : Type} (rl : Rl α β) (K : PySem.W.Frag) (W : WX) (m : MM α) : L2.St → Hp → (β → Hp → Prop) → Prop := fun σ H Q =>
  ∃ S F ρ x, S.K = K ∧ Rel S F H σ ρ x ∧ Post rl S W σ F H ρ (m ρ x) Q
abbrev rdE (K : PySem.W.Frag) (W : WX) (m : MM D) : TE := rd rlD K W m
abbrev rdT (K : PySem.W.Frag) (W : WX) (m : MM Bool) : TT := rd rlB K W m
abbrev rdA (K : PySem.W.Frag) (W : WX) (m : MM (List D)) : TA := rd rlL K W m
/-- .. with one, two values at hand -/
def rd1 {α β γ δ : Type} (rl : Rl α β) (rl' : Rl γ δ) (K : PySem.W.Frag) (W : WX) (k : α → MM γ) (v : β) : L2.St → Hp → (δ → Hp → Prop) → Prop := fun σ H Q =>
  ∃ S F ρ x a, S.K = K ∧ Rel S F H σ ρ x ∧ rl S F v a ∧ Post rl' S W σ F H ρ (k a ρ x) Q
def rd2 {α α' β β' γ δ : Type} (rl : Rl α β) (rl1 : Rl α' β') (rl' : Rl γ δ) (K : PySem.W.Frag) (W : WX) (k : α → α' → MM γ) (v : β) (v' : β') : L2.St → Hp → (δ → Hp → Prop) → Prop := fun σ H Q =>
  ∃ S F ρ x a a', S.K = K ∧ Rel S F H σ ρ x ∧ rl S F v a ∧ rl1 S F v' a' ∧ Post rl' S W σ F H ρ (k a a' ρ x) Q

section
variable {α α' β β' γ δ : Type} {rl : Rl α β} {rl1 : Rl α' β'} {rl' : Rl γ δ} {K : PySem.W.Frag} {W : WX} {σ : L2.St} {H : Hp} {Q : δ → Hp → Prop}
def Mono (rl : Rl α β) : Prop := ∀ S F F' v a, Same F F' → rl S F v a → rl S F' v a
theorem mono_D : Mono rlD := fun _ _ _ _ _ s h => Rep.mono s h
theorem mono_L : Mono rlL := fun _ _ _ _ _ s h => RepL.mono s h
theorem mono_B {α : Type} : Mono (rlB (α := α)) := fun _ _ _ _ _ _ h => h
def mBind (m : MM α) (k : α → MM γ) : MM γ := fun ρ x => (m ρ x).bind fun a x1 => k a ρ x1
theorem rd_bind {m : MM α} {k : α → MM γ} (h : rd rl' K W (mBind m k) σ H Q) : rd rl K W m σ H fun v H1 => rd1 rl rl' K W k v σ H1 Q := by
  obtain ⟨S, F, ρ, x, eK, r, p⟩ := h
  refine ⟨S, F, ρ, x, eK, r, ?_⟩
  unfold mBind at p
  cases e : m ρ x with
  | val a x1 =>
    rw [e] at p
    exact fun v F' H' r' s k hv => ⟨S, F', ρ, x1, a, eK, r', hv, p.mono s k⟩
  | exc c fs x1 =>
    rw [e] at p
    exact p
  | out =>
    rw [e] at p
    exact p.elim
theorem rd1_bind {v : β} {m : MM α'} {k : α → α' → MM γ} (hm : Mono rl) (h : rd1 rl rl' K W (fun a => mBind m (k a)) v σ H Q) : rd rl1 K W m σ H fun v' H1 => rd2 rl rl1 rl' K W k v v' σ H1 Q := by
  obtain ⟨S, F, ρ, x, a, eK, r, hv, p⟩ := h
  refine ⟨S, F, ρ, x, eK, r, ?_⟩
  have p : Post rl' S W σ F H ρ ((m ρ x).bind fun a1 x1 => k a a1 ρ x1) Q := p
  cases e : m ρ x with
  | val a1 x1 =>
    rw [e] at p
    exact fun v F' H' r' s k hv' => ⟨S, F', ρ, x1, a, a1, eK, r', hm _ _ _ _ _ s hv, hv', p.mono s k⟩
  | exc c fs x1 =>
    rw [e] at p
    exact p
  | out =>
    rw [e] at p
    exact p.elim
end

/-! ### weakening -/
section
variable {X : Cx}
theorem peI {e : Expr} {t t' : TE} (h : PE X e t) (k : ∀ σ H Q, t' σ H Q → t σ H Q) : PE X e t' := ⟨fun pins s σ H Q I q => h.run pins s σ H Q I (k σ H Q q)⟩
theorem ptI {e : Expr} {t t' : TT} (h : PT X e t) (k : ∀ σ H Q, t' σ H Q → t σ H Q) : PT X e t' := ⟨fun pins s σ H Q I q => h.run pins s σ H Q I (k σ H Q q)⟩
theorem pwI {e : Expr} {t t' : TT} (h : PW X e t) (k : ∀ σ H Q, t' σ H Q → t σ H Q) : PW X e t' := ⟨fun w pins s σ H Q I q => h.run w pins s σ H Q I (k σ H Q q)⟩
theorem paI {es : List Expr} {t t' : TA} (h : PA X es t) (k : ∀ σ H Q, t' σ H Q → t σ H Q) : PA X es t' := ⟨fun p pins s σ H Q I q => h.run p pins s σ H Q I (k σ H Q q)⟩
theorem psI {st : Stmt} {t t' : TS} (h : PS X st t) (k : ∀ D σ H, t' D σ H → t D σ H) : PS X st t' := ⟨fun pins s σ H D I q => h.run pins s σ H D I (k D σ H q)⟩
theorem pssI {st : List Stmt} {t t' : TS} (h : PSs X st t) (k : ∀ D σ H, t' D σ H → t D σ H) : PSs X st t' := ⟨fun pins s σ H D I q => h.run pins s σ H D I (k D σ H q)⟩
end

/-! ### the state moves -/
section
variable {S : Cf} {F H : Hp} {σ : L2.St} {ρ : En} {x : Bx}
theorem Core.ne_box (r : Core S F H x) {p : Addr} (h : H p = none) : S.b ≠ some p := fun e => by
  have := (r.box p e).2
  rw [h] at this
  cases this
theorem Core.nF (r : Core S F H x) {p : Addr} (h : H p = none) : F p = none := by
  cases e : F p with
  | none => rfl
  | some o =>
    rw [r.sub p o e] at h
    cases h
theorem Core.n0 (r : Core S F H x) {p : Addr} (h : H p = none) : S.H0 p = none := by
  cases e : S.H0 p with
  | none => rfl
  | some o =>
    rw [r.keep p o e (r.ne_box h)] at h
    cases h
/-- a new frozen object -/
theorem Core.alloc (r : Core S F H x) {p : Addr} {o : HO} (h : H p = none) : Core S (upd F p o) (upd H p o) x where
  sub := fun q u e => by
    by_cases hq : q = p
    · subst hq
      rw [upd_same] at e ⊢
      exact e
    · rw [upd_ne hq] at e ⊢
      exact r.sub q u e
  f0 := r.f0.trans (Same.new (r.nF h))
  fresh := fun q h1 h2 => by
    have hq : q ≠ p := fun e => by
      subst e
      exact h1 (r.n0 h)
    rw [upd_ne hq]
    exact r.fresh q h1 h2
  keep := fun q u e n => (KeepB.new h) q u (r.keep q u e n) n
  box := fun a e => by
    have hq : a ≠ p := fun z => by
      subst z
      exact r.ne_box h e
    rw [upd_ne hq, upd_ne hq]
    exact r.box a e
/-- a new object that is not frozen -/
theorem Core.allocO (r : Core S F H x) {p : Addr} {o : HO} (h : H p = none) : Core S F (upd H p o) x where
  sub := r.sub.trans (Same.new h)
  f0 := r.f0
  fresh := r.fresh
  keep := fun q u e n => (KeepB.new h) q u (r.keep q u e n) n
  box := fun a e => by
    have hq : a ≠ p := fun z => by
      subst z
      exact r.ne_box h e
    rw [upd_ne hq]
    exact r.box a e
theorem SlotOk.mono {F' H' : Hp} {v : Option V} {s : Slot} (a : Same F F') (k : KeepB S.b H H') (n : ∀ p, H p ≠ none → F p = none → S.b ≠ some p → F' p = none) (h : SlotOk S F H v s) : SlotOk S F' H' v s := by
  cases s with
  | un => trivial
  | fz d =>
    obtain ⟨u, e, r⟩ := h
    exact ⟨u, e, r.mono a⟩
  | ol ds =>
    obtain ⟨p, vs, e, nb, n0, nf, hh, r⟩ := h
    exact ⟨p, vs, e, nb, n0, n p (by rw [hh]; intro z; cases z) nf nb, k p _ hh nb, r.mono a⟩
  | od ds =>
    obtain ⟨p, vs, e, nb, n0, nf, hh, r⟩ := h
    exact ⟨p, vs, e, nb, n0, n p (by rw [hh]; intro z; cases z) nf nb, k p _ hh nb, r.mono a⟩
theorem Rel.go {F' H' : Hp} {x' : Bx} (r : Rel S F H σ ρ x) (c : Core S F' H' x') (a : Same F F') (k : KeepB S.b H H') (n : ∀ p, H p ≠ none → F p = none → S.b ≠ some p → F' p = none) : Rel S F' H' σ ρ x' where
  core := c
  len := r.len
  slot := fun i s e => let ⟨v, e1, h⟩ := r.slot i s e; ⟨v, e1, h.mono a k n⟩
  dist := r.dist
theorem Rel.alloc (r : Rel S F H σ ρ x) {p : Addr} {o : HO} (h : H p = none) : Rel S (upd F p o) (upd H p o) σ ρ x :=
  r.go (r.core.alloc h) (Same.new (r.core.nF h)) (KeepB.new h) fun q h1 h2 _ => by
    have hq : q ≠ p := fun e => h1 (e ▸ h)
    rw [upd_ne hq]
    exact h2
theorem Rel.allocO (r : Rel S F H σ ρ x) {p : Addr} {o : HO} (h : H p = none) : Rel S F (upd H p o) σ ρ x :=
  r.go (r.core.allocO h) (Same.refl F) (KeepB.new h) fun q h1 h2 _ => h2
end
end Mi

/-! Mi1: mirrors of expressions. -/
namespace Mi
open PySem PySem.Spec L2
section
variable {X : Cx} {W : WX}

/-- what a value at hand gives -/
theorem post_val {α β : Type} {rl : Rl α β} {S : Cf} {F H : Hp} {σ : L2.St} {ρ : En} {x : Bx} {a : α} {v : β} {Q : β → Hp → Prop} (r : Rel S F H σ ρ x) (p : Post rl S W σ F H ρ (.val a x) Q) (h : rl S F v a) : Q v H :=
  p v F H r (Same.refl F) KeepB.refl h

/-! ### on names and constants -/
def mVar (i : Nat) : MM D := fun ρ x => match ρ[i]? with
  | some (.fz d) => .val d x
  | _ => .out
theorem j_var (i : Nat) {y : Str} {pos : Pos} (hN : X.N[i]? = some y := by rfl) (hv : Vis X.env.scope y := by first | exact Or.inl rfl | exact Or.inr (Or.inl rfl) | exact Or.inr (Or.inr rfl)) (hd : (y == ("__debug__" : Str)) = false := by decide)
    (hcd : (y == ("__classdict__" : Str)) = false := by decide) : PE X (.Name y pos) (rdE X.K W (mVar i)) := peI (pe_var hN hv hd hcd) fun σ H Q h => by
  obtain ⟨S, F, ρ, x, eK, r, p⟩ := h
  unfold mVar at p
  split at p
  · rename_i d e
    obtain ⟨v, e1, u, e2, hr⟩ := r.slot i _ e
    exact ⟨u, by rw [e1, e2], post_val (rl := rlD) r p hr⟩
  · exact p.elim
def mC (d : D) : MM D := fun _ x => .val d x
theorem rd_c {v : V} {d : D} (hr : ∀ (S : Cf) (F : Hp), Rep S.K S.b F v d) : ∀ σ H Q, rdE X.K W (mC d) σ H Q → tC v σ H Q := fun σ H Q ⟨S, F, ρ, x, eK, r, p⟩ => post_val (rl := rlD) r p (hr S F)
theorem j_int {i : Int} {j : Nat} {pos : Pos} : PE X (.Constant (.int i) j pos) (rdE X.K W (mC (.int i))) := peI pe_int (rd_c fun _ _ => .int i)
theorem j_bl {b : Bool} {j : Nat} {pos : Pos} : PE X (.Constant (.bool b) j pos) (rdE X.K W (mC (.bl b))) := peI pe_bl (rd_c fun _ _ => .bl b)
theorem j_non {j : Nat} {pos : Pos} : PE X (.Constant .none j pos) (rdE X.K W (mC .non)) := peI pe_non (rd_c fun _ _ => .non)
theorem j_str {s : Str} {j : Nat} {pos : Pos} : PE X (.Constant (.str s) j pos) (rdE X.K W (mC (.str s))) := peI pe_str (rd_c fun _ _ => .str s)
/-- a module's constant int -/
theorem j_gint {i : Int} {y : Str} {pos : Pos} (hg : Gl X y) (hm : ∃ t, X.mg y = some (.int i t)) (hd : (y == ("__debug__" : Str)) = false := by decide) : PE X (.Name y pos) (rdE X.K W (mC (.int i))) := by
  obtain ⟨t, hm⟩ := hm
  exact peI (pe_glob (v := .int i) hg hm ⟨t, rfl⟩ hd) (rd_c fun _ _ => .int i)
/-- a def, a class as a value -/
theorem j_fn {y : Str} {pos : Pos} (hg : Gl X y) (hm : X.mg y = some (.ref (He.ga X.K y))) (hd : (y == ("__debug__" : Str)) = false := by decide) : PE X (.Name y pos) (rdE X.K W (mC (.fn y))) :=
  peI (pe_glob (v := .ref (He.ga X.K y)) hg hm rfl hd) fun σ H Q ⟨S, F, ρ, x, eK, r, p⟩ => post_val (rl := rlD) r p (by rw [← eK]; exact .fn)

/-! ### two operands, one -/
def mOp (g : D → D → MM D) (ma mb : MM D) : MM D := mBind ma fun a => mBind mb (g a)
def Real2 (K : PySem.W.Frag) (W : WX) (r : R2) (g : D → D → MM D) : Prop := ∀ S F H σ ρ x v1 v2 a b Q, S.K = K → Rel S F H σ ρ x → Rep S.K S.b F v1 a → Rep S.K S.b F v2 b → Post rlD S W σ F H ρ (g a b ρ x) Q → r v1 v2 H Q
theorem rd_op {K : PySem.W.Frag} {r : R2} {g : D → D → MM D} {ma mb : MM D} (hr : Real2 K W r g) {σ : L2.St} {H : Hp} {Q : VK} (h : rdE K W (mOp g ma mb) σ H Q) : tOp r (rdE K W ma) (rdE K W mb) σ H Q := by
  refine (show rdE K W ma σ H fun x H1 => rdE K W mb σ H1 fun y H2 => r x y H2 Q from ?_)
  obtain ⟨S, F, ρ, x, eK, rr, p⟩ := rd_bind (rl := rlD) h
  refine ⟨S, F, ρ, x, eK, rr, ?_⟩
  cases e : ma ρ x with
  | val a x1 =>
    rw [e] at p
    intro v F' H' r1 s1 k1 h1
    obtain ⟨S2, F2, ρ2, x2, eK2, rr2, p2⟩ := rd1_bind (rl1 := rlD) mono_D (p v F' H' r1 s1 k1 h1)
    refine ⟨S2, F2, ρ2, x2, eK2, rr2, ?_⟩
    cases e2 : mb ρ2 x2 with
    | val b x3 =>
      rw [e2] at p2
      intro v2 F3 H3 r3 s3 k3 h3
      obtain ⟨S4, F4, ρ4, x4, a4, b4, eK4, rr4, ha4, hb4, p4⟩ := p2 v2 F3 H3 r3 s3 k3 h3
      exact hr S4 F4 H3 σ ρ4 x4 v v2 a4 b4 Q eK4 rr4 ha4 hb4 p4
    | exc c fs x3 =>
      rw [e2] at p2
      exact p2
    | out =>
      rw [e2] at p2
      exact p2
  | exc c fs x1 =>
    rw [e] at p
    exact p
  | out =>
    rw [e] at p
    exact p
theorem j_op {op : Operator} {r : R2} {g : D → D → MM D} {ma mb : MM D} {a b : Expr} {pos : Pos} (ho : OpR X (binaryOp op) r) (hr : Real2 X.K W r g) (ha : PE X a (rdE X.K W ma)) (hb : PE X b (rdE X.K W mb)) : PE X (.BinOp a op b pos) (rdE X.K W (mOp g ma mb)) :=
  peI (pe_op ho ha hb) fun σ H Q h => rd_op hr h
theorem j_cmp {op : CmpOp} {r : R2} {g : D → D → MM D} {ma mb : MM D} {a b : Expr} {pos : Pos} (ho : OpR X (compareOp op) r) (hr : Real2 X.K W r g) (ha : PE X a (rdE X.K W ma)) (hb : PE X b (rdE X.K W mb)) (hm : behindInMarks op b = false) : PE X (.Compare a [op] [b] pos) (rdE X.K W (mOp g ma mb)) :=
  peI (pe_cmpR ho ha hb hm) fun σ H Q h => rd_op hr h
theorem j_ix {r : R2} {g : D → D → MM D} {ma mb : MM D} {a b : Expr} {pos : Pos} (ho : IxR X r) (hr : Real2 X.K W r g) (ha : PE X a (rdE X.K W ma)) (hb : PE X b (rdE X.K W mb)) (hs : PlainIx b := by exact fun _ _ => rfl) : PE X (.Subscript a b pos) (rdE X.K W (mOp g ma mb)) :=
  peI (pe_ix ho ha hb hs) fun σ H Q h => rd_op hr h

def o1 (o : Option D) : MM D := fun _ x => match o with
  | some d => .val d x
  | none => .out
theorem o1_some {d : D} {ρ : En} {x : Bx} : o1 (some d) ρ x = .val d x := rfl
/-- a scalar result -/
inductive Sca : V → D → Prop
  | non : Sca .non .non
  | bl (b : Bool) : Sca (.bl b) (.bl b)
  | int (i : Int) : Sca (.int i) (.int i)
  | str (s : Str) : Sca (.str s) (.str s)
theorem Sca.rep {K : PySem.W.Frag} {b : Option Addr} {F : Hp} {v : V} {d : D} (h : Sca v d) : Rep K b F v d := by
  cases h
  · exact .non
  · exact .bl _
  · exact .int _
  · exact .str _

/-! ### ints -/
def gI (f : Int → Int → Option D) (a b : D) : Option D := match a, b with
  | .int i, .int j => f i j
  | _, _ => none
theorem real_I {K : PySem.W.Frag} {C : Int → Int → Prop} {g : Int → Int → V} {f : Int → Int → Option D} (hf : ∀ i j d, f i j = some d → C i j ∧ Sca (g i j) d) : Real2 K W (rI C g) (fun a b => o1 (gI f a b)) := by
  intro S F H σ ρ x v1 v2 a b Q eK r ha hb p
  cases ha <;> cases hb <;> try exact p.elim
  rename_i i j
  have p : Post rlD S W σ F H ρ (o1 (f i j) ρ x) Q := p
  cases e : f i j with
  | none =>
    rw [e] at p
    exact p.elim
  | some d =>
    rw [e] at p
    obtain ⟨c, s⟩ := hf i j d e
    exact ⟨i, j, rfl, rfl, c, post_val (rl := rlD) r p s.rep⟩
theorem real_I0 {K : PySem.W.Frag} {g : Int → Int → V} {f : Int → Int → D} (hf : ∀ i j, Sca (g i j) (f i j)) : Real2 K W (rI0 g) (fun a b => o1 (gI (fun i j => some (f i j)) a b)) := by
  intro S F H σ ρ x v1 v2 a b Q eK r ha hb p
  cases ha <;> cases hb <;> try exact p.elim
  rename_i i j
  exact ⟨i, j, rfl, rfl, post_val (rl := rlD) r p (hf i j).rep⟩
theorem Real2.or {K : PySem.W.Frag} {r r' : R2} {g g' : D → D → Option D} (h : Real2 K W r fun a b => o1 (g a b)) (h' : Real2 K W r' fun a b => o1 (g' a b)) : Real2 K W (fun x y H Q => r x y H Q ∨ r' x y H Q) fun a b => o1 ((g a b).or (g' a b)) := by
  intro S F H σ ρ x v1 v2 a b Q eK r ha hb p
  have p : Post rlD S W σ F H ρ (o1 ((g a b).or (g' a b)) ρ x) Q := p
  cases e : g a b with
  | none =>
    refine .inr (h' S F H σ ρ x v1 v2 a b Q eK r ha hb ?_)
    rw [e] at p
    exact p
  | some d =>
    refine .inl (h S F H σ ρ x v1 v2 a b Q eK r ha hb ?_)
    rw [e] at p
    show Post rlD S W σ F H ρ (o1 (g a b) ρ x) Q
    rw [e]
    exact p
def gS (f : Str → Str → Option D) (a b : D) : Option D := match a, b with
  | .str i, .str j => f i j
  | _, _ => none
def big : Nat := 1000000
theorem big_le {n : Nat} (h : n ≤ big) : n ≤ sizeLine := Nat.le_trans h (by decide)
theorem big_lt {n : Nat} (h : n < big) : n < sizeLine := Nat.lt_of_lt_of_le h (by decide)
def fCat (i j : Str) : Option D := if i.length + j.length ≤ big then some (.str (i ++ j)) else none
theorem real_addS {K : PySem.W.Frag} : Real2 K W (fun x y H Q => ∃ i j, x = .str i ∧ y = .str j ∧ i.length + j.length ≤ sizeLine ∧ Q (.str (i ++ j)) H) (fun a b => o1 (gS fCat a b)) := by
  intro S F H σ ρ x v1 v2 a b Q eK r ha hb p
  cases ha <;> cases hb <;> try exact p.elim
  rename_i i j
  have p : Post rlD S W σ F H ρ (o1 (fCat i j) ρ x) Q := p
  unfold fCat at p
  split at p
  · rename_i h
    exact ⟨i, j, rfl, rfl, big_le h, post_val (rl := rlD) r p (.str _)⟩
  · exact p.elim
def gL (f : List D → List D → Option D) (a b : D) : Option D := match a, b with
  | .lst i, .lst j => f i j
  | _, _ => none
def fCatL (i j : List D) : Option D := if i.length + j.length ≤ big then some (.lst (i ++ j)) else none
/-- a new object as the value -/
theorem post_new {α : Type} {S : Cf} {F H : Hp} {σ : L2.St} {ρ : En} {x : Bx} {a : D} {Q : VK} {o : HO} (r : Rel S F H σ ρ x) (p : Post rlD S W σ F H ρ (.val a x) Q) {q : Addr} (n : H q = none) (h : Rep S.K S.b (upd F q o) (.ref q) a) : Q (.ref q) (upd H q o) :=
  p (.ref q) _ _ (r.alloc n) (Same.new (r.core.nF n)) (KeepB.new n) h
theorem real_addL {K : PySem.W.Frag} : Real2 K W rCat (fun a b => o1 (gL fCatL a b)) := by
  intro S F H σ ρ x v1 v2 a b Q eK r ha hb p
  cases ha <;> cases hb <;> try exact p.elim
  rename_i a1 vs1 ds1 h1 r1 a2 vs2 ds2 h2 r2
  have p : Post rlD S W σ F H ρ (o1 (fCatL ds1 ds2) ρ x) Q := p
  unfold fCatL at p
  split at p
  · rename_i h
    refine ⟨a1, a2, vs1, vs2, rfl, rfl, r.core.sub _ _ h1, r.core.sub _ _ h2, ?_, fun q n => post_new (α := D) r p n (.lst upd_same ?_)⟩
    · rw [r1.length, r2.length]
      exact big_le h
    · exact ((r1.append r2).mono (Same.new (r.core.nF n)))
  · exact p.elim
def gT (f : List D → List D → Option D) (a b : D) : Option D := match a, b with
  | .tup i, .tup j => f i j
  | _, _ => none
def fCatT (i j : List D) : Option D := if i.length + j.length ≤ big then some (.tup (i ++ j)) else none
theorem sqT {K : PySem.W.Frag} {H : Hp} {a : Addr} {xs : List V} (h : TupAt K H a xs) : SqT K H a xs := h.elim (fun h => .inl (.inl h)) .inr
theorem sqTK {K K' : PySem.W.Frag} {F H : Hp} {a : Addr} {xs : List V} (e : K' = K) (s : Same F H) (h : TupAt K' F a xs) : SqT K H a xs := by
  subst e
  exact sqT (h.mono s)
theorem sqL {K : PySem.W.Frag} {H : Hp} {a : Addr} {xs : List V} (h : H a = some (.lst xs)) : SqL K H a xs := .inl (.inl h)
theorem RepL.nil_of {K : PySem.W.Frag} {b : Option Addr} {F : Hp} {ds : List D} (r : RepL K b F [] ds) : ds = [] := by
  cases r
  rfl
theorem real_addT {K : PySem.W.Frag} : Real2 K W (rCatA K) (fun a b => o1 (gT fCatT a b)) := by
  intro S F H σ ρ x v1 v2 a b Q eK r ha hb p
  cases ha <;> cases hb <;> try exact p.elim
  rename_i a1 vs1 ds1 h1 r1 a2 vs2 ds2 h2 r2
  have p : Post rlD S W σ F H ρ (o1 (fCatT ds1 ds2) ρ x) Q := p
  unfold fCatT at p
  split at p
  · rename_i h
    refine ⟨a1, a2, vs1, vs2, rfl, rfl, sqTK eK r.core.sub h1, sqTK eK r.core.sub h2, ?_, fun e => ?_, fun _ e => ?_, fun _ _ q n => post_new (α := D) r p n (.tup (.inl upd_same) ((r1.append r2).mono (Same.new (r.core.nF n))))⟩
    · rw [r1.length, r2.length]
      exact big_le h
    · subst e
      have e2 := r1.nil_of
      subst e2
      exact post_val (rl := rlD) r p (.tup h2 r2)
    · subst e
      have e2 := r2.nil_of
      subst e2
      refine post_val (rl := rlD) r p ?_
      rw [List.append_nil]
      exact .tup h1 r1
  · exact p.elim
def gAdd (a b : D) : Option D := (gI (fun i j => some (.int (i + j))) a b).or ((gS fCat a b).or ((gL fCatL a b).or (gT fCatT a b)))
theorem op_addM : OpR X (binaryOp .Add) (fun x y H Q => rI0 (fun i j => V.int (i + j)) x y H Q ∨ ((∃ i j, x = .str i ∧ y = .str j ∧ i.length + j.length ≤ sizeLine ∧ Q (.str (i ++ j)) H) ∨ (rCat x y H Q ∨ rCatA X.K x y H Q))) :=
  op_add.or (op_add_str.or (op_cat.or op_catA))
theorem j_add {ma mb : MM D} {a b : Expr} {pos : Pos} (ha : PE X a (rdE X.K W ma)) (hb : PE X b (rdE X.K W mb)) : PE X (.BinOp a .Add b pos) (rdE X.K W (mOp (fun a b => o1 (gAdd a b)) ma mb)) :=
  j_op op_addM (Real2.or (real_I0 (f := fun i j => .int (i + j)) fun _ _ => .int _) (Real2.or real_addS (Real2.or real_addL real_addT))) ha hb
def gSub : D → D → Option D := gI fun i j => some (.int (i - j))
theorem j_sub {ma mb : MM D} {a b : Expr} {pos : Pos} (ha : PE X a (rdE X.K W ma)) (hb : PE X b (rdE X.K W mb)) : PE X (.BinOp a .Sub b pos) (rdE X.K W (mOp (fun a b => o1 (gSub a b)) ma mb)) :=
  j_op op_sub (real_I0 (f := fun i j => .int (i - j)) fun _ _ => .int _) ha hb
def lg (i : Int) : Nat := i.natAbs.log2
instance (i j : Int) : Decidable (CMul i j) := by unfold CMul; infer_instance
instance (i j : Int) : Decidable (CMulW i j) := by unfold CMulW; infer_instance
def okMul (i j : Int) : Bool := decide (CMul i j) || decide (CMulW i j)
def gMulI : D → D → Option D := gI fun i j => if okMul i j then some (.int (i * j)) else none
theorem op_mulM : OpR X (binaryOp .Mult) (rI (fun i j => okMul i j = true) fun i j => .int (i * j)) := opI fun i j _ _ _ _ _ hc q => by
  rcases Bool.or_eq_true_iff.mp hc with h | h
  · exact PyProof.Rows.mul_int q (CMul.ok (of_decide_eq_true h))
  · exact PyProof.Rows.mul_int q (CMulW.ok (of_decide_eq_true h))
theorem j_mulI {ma mb : MM D} {a b : Expr} {pos : Pos} (ha : PE X a (rdE X.K W ma)) (hb : PE X b (rdE X.K W mb)) : PE X (.BinOp a .Mult b pos) (rdE X.K W (mOp (fun a b => o1 (gMulI a b)) ma mb)) :=
  j_op op_mulM (real_I fun i j d h => by
    split at h
    · rename_i c
      cases h
      exact ⟨c, .int _⟩
    · cases h) ha hb
def gDiv : D → D → Option D := gI fun i j => if 0 < j ∧ lg j < 9000 then some (.int (i / j)) else none
theorem j_div {ma mb : MM D} {a b : Expr} {pos : Pos} (ha : PE X a (rdE X.K W ma)) (hb : PE X b (rdE X.K W mb)) : PE X (.BinOp a .FloorDiv b pos) (rdE X.K W (mOp (fun a b => o1 (gDiv a b)) ma mb)) :=
  j_op op_fdivW (real_I fun i j d h => by
    split at h
    · rename_i c
      cases h
      exact ⟨c, .int _⟩
    · cases h) ha hb
def gMod : D → D → Option D := gI fun i j => if 0 < j then some (.int (i % j)) else none
theorem j_mod {ma mb : MM D} {a b : Expr} {pos : Pos} (ha : PE X a (rdE X.K W ma)) (hb : PE X b (rdE X.K W mb)) : PE X (.BinOp a .Mod b pos) (rdE X.K W (mOp (fun a b => o1 (gMod a b)) ma mb)) :=
  j_op op_mod (real_I fun i j d h => by
    split at h
    · rename_i c
      cases h
      exact ⟨c, .int _⟩
    · cases h) ha hb
def gPow : D → D → Option D := gI fun i j => if 0 ≤ j ∧ j ≤ 1000 ∧ i.natAbs < 2 ^ 64 then some (.int (i ^ j.toNat)) else none
theorem j_pow {ma mb : MM D} {a b : Expr} {pos : Pos} (ha : PE X a (rdE X.K W ma)) (hb : PE X b (rdE X.K W mb)) : PE X (.BinOp a .Pow b pos) (rdE X.K W (mOp (fun a b => o1 (gPow a b)) ma mb)) :=
  j_op op_pow (real_I fun i j d h => by
    split at h
    · rename_i c
      cases h
      exact ⟨⟨c.1, by omega, c.2.2⟩, .int _⟩
    · cases h) ha hb
/-! ### comparisons -/
def gLt (a b : D) : Option D := (gI (fun i j => some (.bl (decide (i < j)))) a b).or (gS (fun i j => some (.bl (decide (i.cps.toList < j.cps.toList)))) a b)
def gLe (a b : D) : Option D := (gI (fun i j => some (.bl (decide (i ≤ j)))) a b).or (gS (fun i j => some (.bl (!decide (j.cps.toList < i.cps.toList)))) a b)
def gGt (a b : D) : Option D := (gI (fun i j => some (.bl (decide (j < i)))) a b).or (gS (fun i j => some (.bl (decide (j.cps.toList < i.cps.toList)))) a b)
def gGe (a b : D) : Option D := (gI (fun i j => some (.bl (decide (j ≤ i)))) a b).or (gS (fun i j => some (.bl (!decide (i.cps.toList < j.cps.toList)))) a b)
theorem real_S {K : PySem.W.Frag} {f : Str → Str → Bool} : Real2 K W (fun x y H Q => ∃ i j, x = V.str i ∧ y = V.str j ∧ Q (.bl (f i j)) H) (fun a b => o1 (gS (fun i j => some (.bl (f i j))) a b)) := by
  intro S F H σ ρ x v1 v2 a b Q eK r ha hb p
  cases ha <;> cases hb <;> try exact p.elim
  rename_i i j
  exact ⟨i, j, rfl, rfl, post_val (rl := rlD) r p (.bl _)⟩
theorem j_lt {ma mb : MM D} {a b : Expr} {pos : Pos} (ha : PE X a (rdE X.K W ma)) (hb : PE X b (rdE X.K W mb)) : PE X (.Compare a [.Lt] [b] pos) (rdE X.K W (mOp (fun a b => o1 (gLt a b)) ma mb)) :=
  j_cmp (op_lt.or op_lt_str) (Real2.or (real_I0 (f := fun i j => .bl (decide (i < j))) fun _ _ => .bl _) real_S) ha hb (nomark _)
theorem j_le {ma mb : MM D} {a b : Expr} {pos : Pos} (ha : PE X a (rdE X.K W ma)) (hb : PE X b (rdE X.K W mb)) : PE X (.Compare a [.LtE] [b] pos) (rdE X.K W (mOp (fun a b => o1 (gLe a b)) ma mb)) :=
  j_cmp (op_le.or op_le_str) (Real2.or (real_I0 (f := fun i j => .bl (decide (i ≤ j))) fun _ _ => .bl _) real_S) ha hb (nomark _)
theorem j_gt {ma mb : MM D} {a b : Expr} {pos : Pos} (ha : PE X a (rdE X.K W ma)) (hb : PE X b (rdE X.K W mb)) : PE X (.Compare a [.Gt] [b] pos) (rdE X.K W (mOp (fun a b => o1 (gGt a b)) ma mb)) :=
  j_cmp (op_gt.or op_gt_str) (Real2.or (real_I0 (f := fun i j => .bl (decide (j < i))) fun _ _ => .bl _) real_S) ha hb (nomark _)
theorem j_ge {ma mb : MM D} {a b : Expr} {pos : Pos} (ha : PE X a (rdE X.K W ma)) (hb : PE X b (rdE X.K W mb)) : PE X (.Compare a [.GtE] [b] pos) (rdE X.K W (mOp (fun a b => o1 (gGe a b)) ma mb)) :=
  j_cmp (op_ge.or op_ge_str) (Real2.or (real_I0 (f := fun i j => .bl (decide (j ≤ i))) fun _ _ => .bl _) real_S) ha hb (nomark _)

/-! ### equality of data -/
mutual
def D.py : D → Option PyData
  | .non => some .none
  | .bl b => some (.bool b)
  | .int i => some (.int i)
  | .str s => some (.str s)
  | .lst xs => (D.pys xs).map .list
  | .tup xs => (D.pys xs).map .tuple
  | .dct _ => none
  | .obj _ _ => none
  | .err _ _ => none
  | .fn _ => none
  | .box => none
  | .scr _ => none
def D.pys : List D → Option (List PyData)
  | [] => some []
  | d :: ds => match d.py, D.pys ds with
    | some p, some ps => some (p :: ps)
    | _, _ => none
end
mutual
theorem Rep.dp {K : PySem.W.Frag} {b : Option Addr} {F H : Hp} (s : Same F H) : ∀ {v : V} {d : D} {p : PyData}, Rep K b F v d → d.py = some p → Dp K H v p
  | _, _, _, .non, e => by
    rw [D.py] at e
    cases e
    exact .non
  | _, _, _, .bl c, e => by
    rw [D.py] at e
    cases e
    exact .bl c
  | _, _, _, .int i, e => by
    rw [D.py] at e
    cases e
    exact .int i
  | _, _, _, .str x, e => by
    rw [D.py] at e
    cases e
    exact .str x
  | _, _, _, .lst (ds := ds) h r, e => by
    rw [D.py] at e
    cases q : D.pys ds with
    | none =>
      rw [q] at e
      cases e
    | some ps =>
      rw [q] at e
      cases e
      exact .lst (sqL (s _ _ h)) (RepL.dp s r q)
  | _, _, _, .tup (ds := ds) h r, e => by
    rw [D.py] at e
    cases q : D.pys ds with
    | none =>
      rw [q] at e
      cases e
    | some ps =>
      rw [q] at e
      cases e
      exact .tup (sqT (h.mono s)) (RepL.dp s r q)
  | _, _, _, .dct _ _, e => by
    rw [D.py] at e
    cases e
  | _, _, _, .obj _ _ _, e => by
    rw [D.py] at e
    cases e
  | _, _, _, .err0 _ _, e => by
    rw [D.py] at e
    cases e
  | _, _, _, .err _ _ _ _, e => by
    rw [D.py] at e
    cases e
  | _, _, _, .fn, e => by
    rw [D.py] at e
    cases e
  | _, _, _, .box _, e => by
    rw [D.py] at e
    cases e
  | _, _, _, .scr _, e => by
    rw [D.py] at e
    cases e
theorem RepL.dp {K : PySem.W.Frag} {b : Option Addr} {F H : Hp} (s : Same F H) : ∀ {v : List V} {d : List D} {p : List PyData}, RepL K b F v d → D.pys d = some p → DpAll K H v p
  | _, _, _, .nil, e => by
    rw [D.pys] at e
    cases e
    exact .nil
  | _, _, _, .cons (d := d) (ds := ds) h r, e => by
    rw [D.pys] at e
    cases q1 : d.py with
    | none =>
      rw [q1] at e
      cases e
    | some p1 =>
      cases q2 : D.pys ds with
      | none =>
        rw [q1, q2] at e
        cases e
      | some p2 =>
        rw [q1, q2] at e
        cases e
        exact .cons (Rep.dp s h q1) (RepL.dp s r q2)
end
def gEqB (a b : D) : Option Bool := match a.py, b.py with
  | some p, some q => if SeqAt.shaped p && SeqAt.shaped q then some (PyData.eqv p q) else none
  | _, _ => none
def gEq (a b : D) : Option D := (gEqB a b).map .bl
def gNe (a b : D) : Option D := (gEqB a b).map fun c => .bl (!c)
theorem gEqB_some {a b : D} {c : Bool} (h : gEqB a b = some c) : ∃ p q, a.py = some p ∧ b.py = some q ∧ SeqAt.shaped p = true ∧ SeqAt.shaped q = true ∧ PyData.eqv p q = c := by
  unfold gEqB at h
  cases e1 : a.py with
  | none =>
    rw [e1] at h
    cases h
  | some p =>
    cases e2 : b.py with
    | none =>
      rw [e1, e2] at h
      cases h
    | some q =>
      rw [e1, e2] at h
      by_cases c1 : (SeqAt.shaped p && SeqAt.shaped q) = true
      · have h : (if (SeqAt.shaped p && SeqAt.shaped q) = true then some (PyData.eqv p q) else none) = some c := h
        rw [if_pos c1] at h
        obtain ⟨s1, s2⟩ := Bool.and_eq_true_iff.mp c1
        exact ⟨p, q, rfl, rfl, s1, s2, Option.some.inj h⟩
      · have h : (if (SeqAt.shaped p && SeqAt.shaped q) = true then some (PyData.eqv p q) else none) = some c := h
        rw [if_neg c1] at h
        cases h
theorem real_eq {K : PySem.W.Frag} : Real2 K W (rEqD K) (fun a b => o1 (gEq a b)) := by
  intro S F H σ ρ x v1 v2 a b Q eK r ha hb p
  cases e : gEqB a b with
  | none =>
    have p : Post rlD S W σ F H ρ (o1 ((gEqB a b).map .bl) ρ x) Q := p
    rw [e] at p
    exact p.elim
  | some c =>
    have p : Post rlD S W σ F H ρ (o1 ((gEqB a b).map .bl) ρ x) Q := p
    rw [e] at p
    obtain ⟨p1, q1, e1, e2, s1, s2, e3⟩ := gEqB_some e
    refine ⟨p1, q1, eK ▸ ha.dp r.core.sub e1, eK ▸ hb.dp r.core.sub e2, s1, s2, ?_⟩
    rw [e3]
    exact post_val (rl := rlD) r p (.bl _)
theorem real_ne {K : PySem.W.Frag} : Real2 K W (rNeD K) (fun a b => o1 (gNe a b)) := by
  intro S F H σ ρ x v1 v2 a b Q eK r ha hb p
  cases e : gEqB a b with
  | none =>
    have p : Post rlD S W σ F H ρ (o1 ((gEqB a b).map fun c => .bl (!c)) ρ x) Q := p
    rw [e] at p
    exact p.elim
  | some c =>
    have p : Post rlD S W σ F H ρ (o1 ((gEqB a b).map fun c => .bl (!c)) ρ x) Q := p
    rw [e] at p
    obtain ⟨p1, q1, e1, e2, s1, s2, e3⟩ := gEqB_some e
    refine ⟨p1, q1, eK ▸ ha.dp r.core.sub e1, eK ▸ hb.dp r.core.sub e2, s1, s2, ?_⟩
    rw [e3]
    exact post_val (rl := rlD) r p (.bl _)
theorem j_eq {ma mb : MM D} {a b : Expr} {pos : Pos} {k : Nat} (hr : Room k X.A) (ha : PE X a (rdE X.K W ma)) (hb : PE X b (rdE X.K W mb)) : PE X (.Compare a [.Eq] [b] pos) (rdE X.K W (mOp (fun a b => o1 (gEq a b)) ma mb)) :=
  j_cmp (op_eqD hr.units) real_eq ha hb (nomark _)
theorem j_ne {ma mb : MM D} {a b : Expr} {pos : Pos} {k : Nat} (hr : Room k X.A) (ha : PE X a (rdE X.K W ma)) (hb : PE X b (rdE X.K W mb)) : PE X (.Compare a [.NotEq] [b] pos) (rdE X.K W (mOp (fun a b => o1 (gNe a b)) ma mb)) :=
  j_cmp (op_neD hr.units) real_ne ha hb (nomark _)
def gIsN (a b : D) : Option D := match b with
  | .non => match a with
    | .non => some (.bl true)
    | _ => some (.bl false)
  | _ => none
def gNotN (a b : D) : Option D := match b with
  | .non => match a with
    | .non => some (.bl false)
    | _ => some (.bl true)
  | _ => none
theorem j_isN {ma mb : MM D} {a b : Expr} {pos : Pos} (ha : PE X a (rdE X.K W ma)) (hb : PE X b (rdE X.K W mb)) : PE X (.Compare a [.Is] [b] pos) (rdE X.K W (mOp (fun a b => o1 (gIsN a b)) ma mb)) :=
  j_cmp op_isN (fun S F H σ ρ x v1 v2 a b Q eK r ha hb p => by
    cases hb <;> try exact p.elim
    refine ⟨rfl, ?_⟩
    cases ha <;> exact post_val (rl := rlD) r p (.bl _)) ha hb (nomark _)
theorem j_notN {ma mb : MM D} {a b : Expr} {pos : Pos} (ha : PE X a (rdE X.K W ma)) (hb : PE X b (rdE X.K W mb)) : PE X (.Compare a [.IsNot] [b] pos) (rdE X.K W (mOp (fun a b => o1 (gNotN a b)) ma mb)) :=
  j_cmp op_notN (fun S F H σ ρ x v1 v2 a b Q eK r ha hb p => by
    cases hb <;> try exact p.elim
    refine ⟨rfl, ?_⟩
    cases ha <;> exact post_val (rl := rlD) r p (.bl _)) ha hb (nomark _)
/-! ### in, not in over flat things -/
def flD : D → Option V
  | .non => some .non
  | .bl b => some (.bl b)
  | .int i => some (.int i)
  | .str s => some (.str s)
  | _ => none
def flDs : List D → Option (List V)
  | [] => some []
  | d :: ds => match flD d, flDs ds with
    | some v, some vs => some (v :: vs)
    | _, _ => none
theorem Rep.fl {K : PySem.W.Frag} {b : Option Addr} {F : Hp} {v u : V} {d : D} (h : Rep K b F v d) (e : flD d = some u) : u = v ∧ flatV v = true := by
  cases h <;> (first | (cases e; exact ⟨rfl, rfl⟩) | cases e)
theorem RepL.fl {K : PySem.W.Frag} {b : Option Addr} {F : Hp} : ∀ {vs us : List V} {ds : List D}, RepL K b F vs ds → flDs ds = some us → us = vs ∧ vs.all flatV = true
  | _, _, _, .nil, e => by
    cases e
    exact ⟨rfl, rfl⟩
  | _, us, _, .cons (v := v) (vs := vs) (d := d) (ds := ds) h r, e => by
    rw [flDs] at e
    cases q1 : flD d with
    | none =>
      rw [q1] at e
      cases e
    | some p1 =>
      cases q2 : flDs ds with
      | none =>
        rw [q1, q2] at e
        cases e
      | some p2 =>
        rw [q1, q2] at e
        cases e
        obtain ⟨e1, f1⟩ := h.fl q1
        obtain ⟨e2, f2⟩ := RepL.fl r q2
        rw [e1, e2]
        exact ⟨rfl, by rw [List.all_cons, f1, f2] <;> rfl⟩
def gInB (a b : D) : Option Bool := match flD a, (match b with
  | .lst ds => flDs ds
  | .tup ds => flDs ds
  | _ => none) with
  | some v, some vs => some (inV v vs)
  | _, _ => none
def gIn (neg : Bool) (a b : D) : Option D := (gInB a b).map fun c => .bl (if neg then !c else c)
theorem real_in {K : PySem.W.Frag} {neg : Bool} : Real2 K W (rIn K neg) (fun a b => o1 (gIn neg a b)) := by
  intro S F H σ ρ x v1 v2 a b Q eK r ha hb p
  replace p : Post rlD S W σ F H ρ (o1 ((gInB a b).map fun c => .bl (if neg then !c else c)) ρ x) Q := p
  unfold gInB at p
  cases e1 : flD a with
  | none =>
    rw [e1] at p
    exact p.elim
  | some v =>
    obtain ⟨ev, fv⟩ := ha.fl e1
    subst ev
    rw [e1] at p
    cases hb <;> try exact p.elim
    · rename_i a2 vs ds h2 r2
      cases e2 : flDs ds with
      | none =>
        simp only [e2] at p
        exact p.elim
      | some us =>
        simp only [e2] at p
        obtain ⟨eu, fu⟩ := r2.fl e2
        subst eu
        exact ⟨a2, us, rfl, .inl (sqL (r.core.sub _ _ h2)), fv, fu, post_val (rl := rlD) r p (.bl _)⟩
    · rename_i a2 vs ds h2 r2
      cases e2 : flDs ds with
      | none =>
        simp only [e2] at p
        exact p.elim
      | some us =>
        simp only [e2] at p
        obtain ⟨eu, fu⟩ := r2.fl e2
        subst eu
        exact ⟨a2, us, rfl, .inr (sqTK eK r.core.sub h2), fv, fu, post_val (rl := rlD) r p (.bl _)⟩
end
end Mi

/-! Mi2: arguments, displays, tests, built-in functions and methods, subscripts, slices. -/
namespace Mi
open PySem PySem.Spec L2
section
variable {X : Cx} {W : WX}

/-! ### arguments -/
def mNil : MM (List D) := fun _ x => .val [] x
def mCons (m : MM D) (ms : MM (List D)) : MM (List D) := mBind m fun a => mBind ms fun as => fun _ x => .val (a :: as) x
theorem j_anil : PA X [] (rdA X.K W mNil) := paI pa_nil fun σ H Q ⟨S, F, ρ, x, eK, r, p⟩ => post_val (rl := rlL) r p .nil
theorem j_acons {e : Expr} {es : List Expr} {m : MM D} {ms : MM (List D)} (he : PE X e (rdE X.K W m)) (hr : PA X es (rdA X.K W ms)) (hs : starEach (e :: es) X.env = (false, eval e X.env) :: starEach es X.env := by rfl) : PA X (e :: es) (rdA X.K W (mCons m ms)) :=
  paI (pa_cons he hr hs) fun σ H Q h => by
    refine (show rdE X.K W m σ H fun x H1 => rdA X.K W ms σ H1 fun xs H2 => Q (x :: xs) H2 from ?_)
    obtain ⟨S, F, ρ, x, eK, rr, p⟩ := rd_bind (rl := rlD) h
    refine ⟨S, F, ρ, x, eK, rr, ?_⟩
    cases e : m ρ x with
    | val a x1 =>
      rw [e] at p
      intro v F' H' r1 s1 k1 h1
      obtain ⟨S2, F2, ρ2, x2, eK2, rr2, p2⟩ := rd1_bind (rl1 := rlL) mono_D (p v F' H' r1 s1 k1 h1)
      refine ⟨S2, F2, ρ2, x2, eK2, rr2, ?_⟩
      cases e2 : ms ρ2 x2 with
      | val b x3 =>
        rw [e2] at p2
        intro v2 F3 H3 r3 s3 k3 h3
        obtain ⟨S4, F4, ρ4, x4, a4, b4, eK4, rr4, ha4, hb4, p4⟩ := p2 v2 F3 H3 r3 s3 k3 h3
        exact post_val (rl := rlL) rr4 p4 (.cons ha4 hb4)
      | exc c fs x3 =>
        rw [e2] at p2
        exact p2
      | out =>
        rw [e2] at p2
        exact p2
    | exc c fs x1 =>
      rw [e] at p
      exact p
    | out =>
      rw [e] at p
      exact p
def mTup (ms : MM (List D)) : MM D := mBind ms fun ds => fun _ x => if ds.length ≤ big then .val (.tup ds) x else .out
def mLst (ms : MM (List D)) : MM D := mBind ms fun ds => fun _ x => if ds.length ≤ big then .val (.lst ds) x else .out
theorem rd_new {K : PySem.W.Frag} {ms : MM (List D)} {mk : List D → D} {mo : List V → HO} (hk : ∀ (S : Cf) (F : Hp) (a : Addr) (vs : List V) (ds : List D), F a = some (mo vs) → RepL S.K S.b F vs ds → Rep S.K S.b F (.ref a) (mk ds))
    {σ : L2.St} {H : Hp} {Q : VK} (h : rdE K W (mBind ms fun ds => fun _ x => if ds.length ≤ big then .val (mk ds) x else .out) σ H Q) :
    rdA K W ms σ H fun xs H1 => xs.length ≤ sizeLine ∧ ∀ p, H1 p = none → Q (.ref p) (upd H1 p (mo xs)) := by
  obtain ⟨S, F, ρ, x, eK, rr, p⟩ := rd_bind (rl := rlL) h
  refine ⟨S, F, ρ, x, eK, rr, ?_⟩
  cases e : ms ρ x with
  | val ds x1 =>
    rw [e] at p
    intro vs F' H' r1 s1 k1 h1
    obtain ⟨S2, F2, ρ2, x2, ds2, eK2, rr2, h2, p2⟩ := p vs F' H' r1 s1 k1 h1
    dsimp only at p2
    split at p2
    · rename_i hz
      have hl : RepL S2.K S2.b F2 vs ds2 := h2
      refine ⟨by rw [hl.length]; exact big_le hz, fun q n => post_new (α := D) rr2 p2 n (hk _ _ _ _ _ upd_same (hl.mono (Same.new (rr2.core.nF n))))⟩
    · exact p2.elim
  | exc c fs x1 =>
    rw [e] at p
    exact p
  | out =>
    rw [e] at p
    exact p
theorem j_tup {es : List Expr} {x1 : Nat} {pos : Pos} {ms : MM (List D)} (h : PA X es (rdA X.K W ms)) : PE X (.Tuple es x1 pos) (rdE X.K W (mTup ms)) :=
  peI (pe_tup h) fun σ H Q q => rd_new (mk := .tup) (mo := .tup) (fun _ _ _ _ _ a b => .tup (.inl a) b) q
theorem j_lst {es : List Expr} {pos : Pos} {ms : MM (List D)} (h : PA X es (rdA X.K W ms)) : PE X (.List es pos) (rdE X.K W (mLst ms)) :=
  peI (pe_lst h) fun σ H Q q => rd_new (mk := .lst) (mo := .lst) (fun _ _ _ _ _ a b => .lst a b) q

/-! ### one operand -/
def mUn (g : D → MM D) (m : MM D) : MM D := mBind m g
def Real1 {β : Type} (K : PySem.W.Frag) (W : WX) (rl : Rl β β) (r : V → Hp → (β → Hp → Prop) → Prop) (g : D → MM β) : Prop := ∀ S F H σ ρ x v a Q, S.K = K → Rel S F H σ ρ x → Rep S.K S.b F v a → Post rl S W σ F H ρ (g a ρ x) Q → r v H Q
theorem rd_un {α γ : Type} {K : PySem.W.Frag} {rl : Rl α γ} {r : V → Hp → (γ → Hp → Prop) → Prop} {g : D → MM α} {m : MM D} (hr : ∀ S F H σ ρ x v a Q, S.K = K → Rel S F H σ ρ x → Rep S.K S.b F v a → Post rl S W σ F H ρ (g a ρ x) Q → r v H Q) {σ : L2.St} {H : Hp} {Q : γ → Hp → Prop} (h : rd rl K W (mBind m g) σ H Q) :
    rdE K W m σ H fun x H1 => r x H1 Q := by
  obtain ⟨S, F, ρ, x, eK, rr, p⟩ := rd_bind (rl := rlD) h
  refine ⟨S, F, ρ, x, eK, rr, ?_⟩
  cases e : m ρ x with
  | val a x1 =>
    rw [e] at p
    intro v F' H' r1 s1 k1 h1
    obtain ⟨S2, F2, ρ2, x2, a2, eK2, rr2, h2, p2⟩ := p v F' H' r1 s1 k1 h1
    exact hr S2 F2 H' σ ρ2 x2 v a2 Q eK2 rr2 h2 p2
  | exc c fs x1 =>
    rw [e] at p
    exact p
  | out =>
    rw [e] at p
    exact p
/-- .. over a list of values -/
theorem rd_unL {α γ : Type} {K : PySem.W.Frag} {rl : Rl α γ} {r : List V → Hp → (γ → Hp → Prop) → Prop} {g : List D → MM α} {m : MM (List D)} (hr : ∀ S F H σ ρ x v a Q, S.K = K → Rel S F H σ ρ x → RepL S.K S.b F v a → Post rl S W σ F H ρ (g a ρ x) Q → r v H Q) {σ : L2.St} {H : Hp} {Q : γ → Hp → Prop} (h : rd rl K W (mBind m g) σ H Q) :
    rdA K W m σ H fun x H1 => r x H1 Q := by
  obtain ⟨S, F, ρ, x, eK, rr, p⟩ := rd_bind (rl := rlL) h
  refine ⟨S, F, ρ, x, eK, rr, ?_⟩
  cases e : m ρ x with
  | val a x1 =>
    rw [e] at p
    intro v F' H' r1 s1 k1 h1
    obtain ⟨S2, F2, ρ2, x2, a2, eK2, rr2, h2, p2⟩ := p v F' H' r1 s1 k1 h1
    exact hr S2 F2 H' σ ρ2 x2 v a2 Q eK2 rr2 h2 p2
  | exc c fs x1 =>
    rw [e] at p
    exact p
  | out =>
    rw [e] at p
    exact p
/-- -a -/
def gNeg : D → Option D
  | .int i => some (.int (-i))
  | _ => none
theorem j_neg {m : MM D} {a : Expr} {pos : Pos} (ha : PE X a (rdE X.K W m)) : PE X (.UnaryOp .USub a pos) (rdE X.K W (mBind m fun d => o1 (gNeg d))) :=
  peI (pe_un un_neg ha) fun σ H Q h => rd_un (rl := rlD) (r := rU fun i => V.int (-i)) (fun S F H σ ρ x v a Q eK r hr p => by
    cases hr <;> try exact p.elim
    exact ⟨_, rfl, post_val (rl := rlD) r p (.int _)⟩) h

/-! ### tests -/
def gTru : D → Option Bool
  | .non => some false
  | .bl b => some b
  | .int i => some (i != 0)
  | .str s => if s.length ≤ big then some ((s.length : Int) != 0) else none
  | .lst ds => some (!ds.isEmpty)
  | .tup ds => some (!ds.isEmpty)
  | .dct ds => some (!ds.isEmpty)
  | _ => none
def oB {α : Type} (o : Option α) : MM α := fun _ x => match o with
  | some b => .val b x
  | none => .out
def mTru (m : MM D) : MM Bool := mBind m fun d => oB (gTru d)
theorem RepL.emp {K : PySem.W.Frag} {b : Option Addr} {F : Hp} {vs : List V} {ds : List D} (r : RepL K b F vs ds) : ds.isEmpty = vs.isEmpty := by
  cases r <;> rfl
theorem RepK.emp {K : PySem.W.Frag} {b : Option Addr} {F : Hp} {vs : List (Key × V)} {ds : List (Key × D)} (r : RepK K b F vs ds) : ds.isEmpty = vs.isEmpty := by
  cases r <;> rfl
theorem rd_tru {K : PySem.W.Frag} {m : MM D} {σ : L2.St} {H : Hp} {Q : Bool → Hp → Prop} (h : rdT K W (mTru m) σ H Q) : rdE K W m σ H fun x H' => ∃ k, TruV K x H' k ∧ Q k H' :=
  rd_un (rl := rlB) (r := fun x H' Q => ∃ k, TruV K x H' k ∧ Q k H') (fun S F H σ ρ x v a Q eK r hr p => by
    cases hr with
    | non => exact ⟨false, rfl, post_val (rl := rlB) r p rfl⟩
    | bl c => exact ⟨c, rfl, post_val (rl := rlB) r p rfl⟩
    | int i => exact ⟨_, rfl, post_val (rl := rlB) r p rfl⟩
    | str s =>
      replace p : Post rlB S W σ F H ρ (oB (if s.length ≤ big then some ((s.length : Int) != 0) else none) ρ x) Q := p
      split at p
      · rename_i hz
        exact ⟨_, ⟨big_le hz, rfl⟩, post_val (rl := rlB) r p rfl⟩
      · exact p.elim
    | @lst a vs ds h r1 => exact ⟨!ds.isEmpty, .inl ⟨vs, sqL (r.core.sub _ _ h), by rw [r1.emp]⟩, post_val (rl := rlB) r p rfl⟩
    | @tup a vs ds h r1 => exact ⟨!ds.isEmpty, .inr (.inl ⟨vs, sqTK eK r.core.sub h, by rw [r1.emp]⟩), post_val (rl := rlB) r p rfl⟩
    | @dct a vs ds h r1 => exact ⟨!ds.isEmpty, .inr (.inr ⟨vs, r.core.sub _ _ h, by rw [r1.emp]⟩), post_val (rl := rlB) r p rfl⟩
    | obj _ _ _ => exact p.elim
    | err0 _ _ => exact p.elim
    | err _ _ _ _ => exact p.elim
    | fn => exact p.elim
    | box _ => exact p.elim
    | scr _ => exact p.elim) h
theorem j_test {m : MM D} {e : Expr} (h : PE X e (rdE X.K W m)) (he : ∀ whole, isTrue e X.env whole = (do let v ← whole; standAt e.pos; holding [v] (truthy v)) := by intro _; rfl) : PT X e (rdT X.K W (mTru m)) :=
  ptI (pt_truth h he) fun σ H Q q => rd_tru q
def mTAnd (m n : MM Bool) : MM Bool := mBind m fun c => if c then n else fun _ x => .val false x
def mTOr (m n : MM Bool) : MM Bool := mBind m fun c => if c then fun _ x => .val true x else n
def mTNot (m : MM Bool) : MM Bool := mBind m fun c => fun _ x => .val (!c) x
theorem rd_bindB {γ δ : Type} {rl' : Rl γ δ} {K : PySem.W.Frag} {m : MM Bool} {k : Bool → MM γ} {σ : L2.St} {H : Hp} {Q : δ → Hp → Prop} (h : rd rl' K W (mBind m k) σ H Q) : rdT K W m σ H fun b H1 => rd rl' K W (k b) σ H1 Q := by
  obtain ⟨S, F, ρ, x, eK, rr, p⟩ := rd_bind (rl := rlB) h
  refine ⟨S, F, ρ, x, eK, rr, ?_⟩
  cases e : m ρ x with
  | val a x1 =>
    rw [e] at p
    intro v F' H' r1 s1 k1 h1
    obtain ⟨S2, F2, ρ2, x2, a2, eK2, rr2, h2, p2⟩ := p v F' H' r1 s1 k1 h1
    have e3 : v = a2 := h2
    subst e3
    exact ⟨S2, F2, ρ2, x2, eK2, rr2, p2⟩
  | exc c fs x1 =>
    rw [e] at p
    exact p
  | out =>
    rw [e] at p
    exact p
theorem rd_monoQ {α β : Type} {rl : Rl α β} {K : PySem.W.Frag} {m : MM α} {σ : L2.St} {H : Hp} {Q Q' : β → Hp → Prop} (h : rd rl K W m σ H Q) (k : ∀ v H', Q v H' → Q' v H') : rd rl K W m σ H Q' := by
  obtain ⟨S, F, ρ, x, eK, rr, p⟩ := h
  refine ⟨S, F, ρ, x, eK, rr, ?_⟩
  cases e : m ρ x with
  | val a x1 =>
    rw [e] at p
    exact fun v F' H' a1 a2 a3 a4 => k _ _ (p v F' H' a1 a2 a3 a4)
  | exc c fs x1 =>
    rw [e] at p
    exact p
  | out =>
    rw [e] at p
    exact p
theorem rd_valB {α : Type} {K : PySem.W.Frag} {a : α} {σ : L2.St} {H : Hp} {Q : α → Hp → Prop} (h : rd rlB K W (fun _ x => .val a x) σ H Q) : Q a H := by
  obtain ⟨S, F, ρ, x, eK, rr, p⟩ := h
  exact post_val (rl := rlB) rr p rfl
theorem j_wand1 {a : Expr} {pos : Pos} {m : MM Bool} (h : PT X a (rdT X.K W m)) : PW X (.BoolOp .And [a] pos) (rdT X.K W m) := pw_and1 h
theorem j_wor1 {a : Expr} {pos : Pos} {m : MM Bool} (h : PT X a (rdT X.K W m)) : PW X (.BoolOp .Or [a] pos) (rdT X.K W m) := pw_or1 h
theorem j_wand {a b : Expr} {rest : List Expr} {pos : Pos} {m n : MM Bool} (ha : PT X a (rdT X.K W m)) (hb : PW X (.BoolOp .And (b :: rest) pos) (rdT X.K W n)) : PW X (.BoolOp .And (a :: b :: rest) pos) (rdT X.K W (mTAnd m n)) :=
  pwI (pw_and ha hb) fun σ H Q q => rd_monoQ (rd_bindB q) fun c H1 q1 => by
    cases c with
    | true => exact q1
    | false => exact rd_valB q1
theorem j_wor {a b : Expr} {rest : List Expr} {pos : Pos} {m n : MM Bool} (ha : PT X a (rdT X.K W m)) (hb : PW X (.BoolOp .Or (b :: rest) pos) (rdT X.K W n)) : PW X (.BoolOp .Or (a :: b :: rest) pos) (rdT X.K W (mTOr m n)) :=
  pwI (pw_or ha hb) fun σ H Q q => rd_monoQ (rd_bindB q) fun c H1 q1 => by
    cases c with
    | true => exact rd_valB q1
    | false => exact q1
theorem j_tnot {a : Expr} {pos : Pos} {m : MM Bool} (ha : PT X a (rdT X.K W m)) : PT X (.UnaryOp .Not a pos) (rdT X.K W (mTNot m)) :=
  ptI (pt_not ha) fun σ H Q q => rd_monoQ (rd_bindB q) fun c H1 q1 => rd_valB q1
/-- a if t else b -/
def mIf {α : Type} (t : MM Bool) (m n : MM α) : MM α := mBind t fun c => if c then m else n
theorem j_ifExp {c a b : Expr} {pos : Pos} {t : MM Bool} {m n : MM D} (hc : PT X c (rdT X.K W t)) (ha : PE X a (rdE X.K W m)) (hb : PE X b (rdE X.K W n)) : PE X (.IfExp c a b pos) (rdE X.K W (mIf t m n)) :=
  peI (pe_ifExp hc ha hb) fun σ H Q q => rd_monoQ (rd_bindB q) fun c H1 q1 => by
    cases c <;> exact q1
/-- and, or, not as values; all but the last are True or False -/
def asB (m : MM D) : MM Bool := mBind m fun d => match d with
  | .bl b => fun _ x => .val b x
  | _ => fun _ _ => .out
def mAndV (m n : MM D) : MM D := mBind (asB m) fun c => if c then n else fun _ x => .val (.bl false) x
def mOrV (m n : MM D) : MM D := mBind (asB m) fun c => if c then fun _ x => .val (.bl true) x else n
def mNotV (m : MM D) : MM D := mBind (asB m) fun c => fun _ x => .val (.bl (!c)) x
theorem rd_asB {K : PySem.W.Frag} {m : MM D} {σ : L2.St} {H : Hp} {Q : Bool → Hp → Prop} (h : rdT K W (asB m) σ H Q) : rdE K W m σ H fun x H' => ∃ c, x = .bl c ∧ Q c H' :=
  rd_un (rl := rlB) (r := fun x H' Q => ∃ c, x = .bl c ∧ Q c H') (fun S F H σ ρ x v a Q eK r hr p => by
    cases hr <;> try exact p.elim
    exact ⟨_, rfl, post_val (rl := rlB) r p rfl⟩) h
theorem rd_valD {K : PySem.W.Frag} {v : V} {d : D} {σ : L2.St} {H : Hp} {Q : V → Hp → Prop} (s : Sca v d) (h : rdE K W (fun _ x => .val d x) σ H Q) : Q v H := by
  obtain ⟨S, F, ρ, x, eK, rr, p⟩ := h
  exact post_val (rl := rlD) rr p s.rep
theorem j_one {op : BoolOp} {a : Expr} {pos : Pos} {m : MM D} (h : PE X a (rdE X.K W m)) : PE X (.BoolOp op [a] pos) (rdE X.K W m) := pe_one h
theorem j_and {a b : Expr} {rest : List Expr} {pos : Pos} {m n : MM D} (ha : PE X a (rdE X.K W m)) (hb : PE X (.BoolOp .And (b :: rest) pos) (rdE X.K W n)) : PE X (.BoolOp .And (a :: b :: rest) pos) (rdE X.K W (mAndV m n)) :=
  peI (pe_and ha hb) fun σ H Q q => rd_monoQ (rd_asB (rd_bindB q)) fun v H1 q1 => by
    obtain ⟨c, e, q1⟩ := q1
    refine ⟨c, e, ?_⟩
    cases c with
    | true => exact q1
    | false => exact rd_valD (.bl _) q1
theorem j_or {a b : Expr} {rest : List Expr} {pos : Pos} {m n : MM D} (ha : PE X a (rdE X.K W m)) (hb : PE X (.BoolOp .Or (b :: rest) pos) (rdE X.K W n)) : PE X (.BoolOp .Or (a :: b :: rest) pos) (rdE X.K W (mOrV m n)) :=
  peI (pe_or ha hb) fun σ H Q q => rd_monoQ (rd_asB (rd_bindB q)) fun v H1 q1 => by
    obtain ⟨c, e, q1⟩ := q1
    refine ⟨c, e, ?_⟩
    cases c with
    | true => exact rd_valD (.bl _) q1
    | false => exact q1
theorem j_notV {a : Expr} {pos : Pos} {m : MM D} (ha : PE X a (rdE X.K W m)) : PE X (.UnaryOp .Not a pos) (rdE X.K W (mNotV m)) :=
  peI (pe_not ha) fun σ H Q q => rd_monoQ (rd_asB (rd_bindB q)) fun v H1 q1 => by
    obtain ⟨c, e, q1⟩ := q1
    exact ⟨c, e, rd_valD (.bl _) q1⟩
end
end Mi

/-! Mi3: built-in functions and methods, subscripts, slices, f-strings. -/
namespace Mi
open PySem PySem.Spec L2
section
variable {X : Cx} {W : WX}

/-! ### built-in functions -/
def RealA (K : PySem.W.Frag) (W : WX) (r : List V → Hp → VK → Prop) (g : List D → MM D) : Prop := ∀ S F H σ ρ x vs ds Q, S.K = K → Rel S F H σ ρ x → RepL S.K S.b F vs ds → Post rlD S W σ F H ρ (g ds ρ x) Q → r vs H Q
def mCall (g : List D → Option D) (ms : MM (List D)) : MM D := mBind ms fun ds => o1 (g ds)
theorem RealA.or {K : PySem.W.Frag} {r r' : List V → Hp → VK → Prop} {g g' : List D → Option D} (h : RealA K W r fun ds => o1 (g ds)) (h' : RealA K W r' fun ds => o1 (g' ds)) : RealA K W (fun x H Q => r x H Q ∨ r' x H Q) fun ds => o1 ((g ds).or (g' ds)) := by
  intro S F H σ ρ x vs ds Q eK r hv p
  replace p : Post rlD S W σ F H ρ (o1 ((g ds).or (g' ds)) ρ x) Q := p
  cases e : g ds with
  | none =>
    refine .inr (h' S F H σ ρ x vs ds Q eK r hv ?_)
    rw [e] at p
    exact p
  | some d =>
    refine .inl (h S F H σ ρ x vs ds Q eK r hv ?_)
    rw [e] at p
    show Post rlD S W σ F H ρ (o1 (g ds) ρ x) Q
    rw [e]
    exact p
theorem j_callB {id : String} {r : List V → Hp → VK → Prop} {g : List D → Option D} {y : Str} {p pos : Pos} {e : Expr} {es : List Expr} {ms : MM (List D)} (hc : CallR X (.builtin id) r) (hr : RealA X.K W r fun ds => o1 (g ds)) (hg : Gl X y) (hm : X.mg y = none) (hv : bootBuiltins y = some (.builtin id)) (ha : PA X (e :: es) (rdA X.K W ms)) (hn : y ≠ "__name__" := by decide) (hdb : (y == ("__debug__" : Str)) = false := by decide)
    (he : starEach (e :: es) X.env = (false, eval e X.env) :: starEach es X.env := by rfl) (hpl : (backTo pos (starEach es X.env)).any (·.1) = false := by rfl) : PE X (.Call (.Name y p) (e :: es) [] pos) (rdE X.K W (mCall g ms)) :=
  peI (pe_callB hc hg hm hv ha hn hdb he hpl) fun σ H Q q => rd_unL (rl := rlD) (r := r) hr q
theorem j_callTy {T : String} {r : List V → Hp → VK → Prop} {g : List D → Option D} {y : Str} {p pos : Pos} {e : Expr} {es : List Expr} {ms : MM (List D)} (hc : CallR X (.type T) r) (hr : RealA X.K W r fun ds => o1 (g ds)) (hg : Gl X y) (hm : X.mg y = none) (hv : bootBuiltins y = some (.type T)) (ha : PA X (e :: es) (rdA X.K W ms)) (hn : y ≠ "__name__" := by decide) (hdb : (y == ("__debug__" : Str)) = false := by decide)
    (he : starEach (e :: es) X.env = (false, eval e X.env) :: starEach es X.env := by rfl) (hpl : (backTo pos (starEach es X.env)).any (·.1) = false := by rfl) : PE X (.Call (.Name y p) (e :: es) [] pos) (rdE X.K W (mCall g ms)) :=
  peI (pe_callTy hc hg hm hv ha hn hdb he hpl) fun σ H Q q => rd_unL (rl := rlD) (r := r) hr q
theorem rep1 {K : PySem.W.Frag} {b : Option Addr} {F : Hp} {vs : List V} {d : D} (h : RepL K b F vs [d]) : ∃ v, vs = [v] ∧ Rep K b F v d := by
  cases h with
  | cons a t =>
    cases t
    exact ⟨_, rfl, a⟩
theorem rep2 {K : PySem.W.Frag} {b : Option Addr} {F : Hp} {vs : List V} {d e : D} (h : RepL K b F vs [d, e]) : ∃ v u, vs = [v, u] ∧ Rep K b F v d ∧ Rep K b F u e := by
  cases h with
  | cons a t =>
    obtain ⟨u, e, h⟩ := rep1 t
    subst e
    exact ⟨_, _, rfl, a, h⟩
def gLen : List D → Option D
  | [.str s] => if s.length ≤ big then some (.int s.length) else none
  | [.lst ds] => some (.int ds.length)
  | [.tup ds] => some (.int ds.length)
  | [.dct ds] => some (.int ds.length)
  | _ => none
theorem RepK.length {K : PySem.W.Frag} {b : Option Addr} {F : Hp} : ∀ {vs : List (Key × V)} {ds : List (Key × D)}, RepK K b F vs ds → vs.length = ds.length
  | _, _, .nil => rfl
  | _, _, .cons _ r => by rw [List.length_cons, List.length_cons, RepK.length r]
theorem real_len {K : PySem.W.Frag} : RealA K W (fun xs H Q => (∃ x n, xs = [x] ∧ LenV K x H n ∧ Q (.int (n : Nat)) H) ∨ ∃ a kvs, xs = [V.ref a] ∧ H a = some (.dK kvs) ∧ Q (.int kvs.length) H) fun ds => o1 (gLen ds) := by
  intro S F H σ ρ x vs ds Q eK r hv p
  unfold gLen at p
  dsimp only at p
  split at p
  · obtain ⟨v, e, h⟩ := rep1 hv
    subst e
    cases h
    split at p
    · rename_i hz
      exact .inl ⟨_, _, rfl, ⟨big_le hz, rfl⟩, post_val (rl := rlD) r p (.int _)⟩
    · exact p.elim
  · obtain ⟨v, e, h⟩ := rep1 hv
    subst e
    cases h with
    | lst h r1 => exact .inl ⟨_, _, rfl, .inl ⟨_, sqL (r.core.sub _ _ h), r1.length.symm⟩, post_val (rl := rlD) r p (.int _)⟩
  · obtain ⟨v, e, h⟩ := rep1 hv
    subst e
    cases h with
    | tup h r1 => exact .inl ⟨_, _, rfl, .inr ⟨_, sqTK eK r.core.sub h, r1.length.symm⟩, post_val (rl := rlD) r p (.int _)⟩
  · obtain ⟨v, e, h⟩ := rep1 hv
    subst e
    cases h with
    | dct h r1 => exact .inr ⟨_, _, rfl, r.core.sub _ _ h, by rw [r1.length]; exact post_val (rl := rlD) r p (.int _)⟩
  · exact p.elim
theorem cr_len : CallR X (.builtin "len") (fun xs H Q => (∃ x n, xs = [x] ∧ LenV X.K x H n ∧ Q (.int (n : Nat)) H) ∨ ∃ a kvs, xs = [V.ref a] ∧ H a = some (.dK kvs) ∧ Q (.int kvs.length) H) := call_len.or call_lenD
def gInt : List D → Option D
  | [.int i] => some (.int i)
  | [.bl b] => some (.int (if b then 1 else 0))
  | [.str s] => match PySem.intText? s with
    | some n => if s.length ≤ 640 then some (.int n) else none
    | none => none
  | _ => none
theorem real_int {K : PySem.W.Frag} : RealA K W (fun xs H Q => ((∃ i, xs = [V.int i] ∧ Q (.int i) H) ∨ ∃ k, xs = [V.bl k] ∧ Q (.int (if k then 1 else 0)) H) ∨ ∃ a n, xs = [V.str a] ∧ PySem.intText? a = some n ∧ a.length ≤ 640 ∧ Q (.int n) H) fun ds => o1 (gInt ds) := by
  intro S F H σ ρ x vs ds Q eK r hv p
  unfold gInt at p
  dsimp only at p
  split at p
  · obtain ⟨v, e, h⟩ := rep1 hv
    subst e
    cases h
    exact .inl (.inl ⟨_, rfl, post_val (rl := rlD) r p (.int _)⟩)
  · obtain ⟨v, e, h⟩ := rep1 hv
    subst e
    cases h
    exact .inl (.inr ⟨_, rfl, post_val (rl := rlD) r p (.int _)⟩)
  · obtain ⟨v, e, h⟩ := rep1 hv
    subst e
    cases h
    split at p
    · rename_i n hn
      split at p
      · rename_i hz
        exact .inr ⟨_, _, rfl, hn, hz, post_val (rl := rlD) r p (.int _)⟩
      · exact p.elim
    · exact p.elim
  · exact p.elim
theorem cr_int : CallR X (.type "int") (fun xs H Q => ((∃ i, xs = [V.int i] ∧ Q (.int i) H) ∨ ∃ k, xs = [V.bl k] ∧ Q (.int (if k then 1 else 0)) H) ∨ ∃ a n, xs = [V.str a] ∧ PySem.intText? a = some n ∧ a.length ≤ 640 ∧ Q (.int n) H) := call_int1.or call_int_str
def gStr : List D → Option D
  | [.int i] => if lg i < 1920 then some (.str (Str.ofString (toString i))) else none
  | _ => none
theorem real_str {K : PySem.W.Frag} : RealA K W (fun xs H Q => ∃ i, xs = [V.int i] ∧ i.natAbs.log2 < 1920 ∧ Q (.str (toString i)) H) fun ds => o1 (gStr ds) := by
  intro S F H σ ρ x vs ds Q eK r hv p
  unfold gStr at p
  dsimp only at p
  split at p
  · obtain ⟨v, e, h⟩ := rep1 hv
    subst e
    cases h
    split at p
    · rename_i hz
      exact ⟨_, rfl, hz, post_val (rl := rlD) r p (.str _)⟩
    · exact p.elim
  · exact p.elim
def gAbs : List D → Option D
  | [.int i] => some (.int (if i < 0 then -i else i))
  | _ => none
theorem real_abs {K : PySem.W.Frag} : RealA K W (fun xs H Q => ∃ i, xs = [V.int i] ∧ Q (.int (if i < 0 then -i else i)) H) fun ds => o1 (gAbs ds) := by
  intro S F H σ ρ x vs ds Q eK r hv p
  unfold gAbs at p
  dsimp only at p
  split at p
  · obtain ⟨v, e, h⟩ := rep1 hv
    subst e
    cases h
    exact ⟨_, rfl, post_val (rl := rlD) r p (.int _)⟩
  · exact p.elim
def gMin2 : List D → Option D
  | [.int i, .int j] => some (.int (if j < i then j else i))
  | _ => none
def gMax2 : List D → Option D
  | [.int i, .int j] => some (.int (if j > i then j else i))
  | _ => none
theorem real_min2 {K : PySem.W.Frag} : RealA K W (fun xs H Q => ∃ i j, xs = [V.int i, .int j] ∧ Q (.int (if j < i then j else i)) H) fun ds => o1 (gMin2 ds) := by
  intro S F H σ ρ x vs ds Q eK r hv p
  unfold gMin2 at p
  dsimp only at p
  split at p
  · obtain ⟨v, u, e, h, h2⟩ := rep2 hv
    subst e
    cases h
    cases h2
    exact ⟨_, _, rfl, post_val (rl := rlD) r p (.int _)⟩
  · exact p.elim
theorem real_max2 {K : PySem.W.Frag} : RealA K W (fun xs H Q => ∃ i j, xs = [V.int i, .int j] ∧ Q (.int (if j > i then j else i)) H) fun ds => o1 (gMax2 ds) := by
  intro S F H σ ρ x vs ds Q eK r hv p
  unfold gMax2 at p
  dsimp only at p
  split at p
  · obtain ⟨v, u, e, h, h2⟩ := rep2 hv
    subst e
    cases h
    cases h2
    exact ⟨_, _, rfl, post_val (rl := rlD) r p (.int _)⟩
  · exact p.elim
def gGcd : List D → Option D
  | [.int i, .int j] => some (.int (Nat.gcd i.natAbs j.natAbs : Nat))
  | _ => none
theorem j_gcd {g : Str} {p pos : Pos} {e : Expr} {es : List Expr} {ms : MM (List D)} (hg : Gl X g) (hm : X.mg g = some (.builtin "math.gcd")) (ha : PA X (e :: es) (rdA X.K W ms)) (hdb : (g == ("__debug__" : Str)) = false := by decide)
    (he : starEach (e :: es) X.env = (false, eval e X.env) :: starEach es X.env := by rfl) (hpl : (backTo pos (starEach es X.env)).any (·.1) = false := by rfl) : PE X (.Call (.Name g p) (e :: es) [] pos) (rdE X.K W (mCall gGcd ms)) :=
  peI (pe_callBfun cr_gcd hg hm ha hdb he hpl) fun σ H Q q => rd_unL (rl := rlD) (r := rGcd) (fun S F H σ ρ x vs ds Q eK r hv p => by
    unfold gGcd at p
    split at p
    · obtain ⟨v, u, e, h, h2⟩ := rep2 hv
      subst e
      cases h
      cases h2
      exact ⟨_, _, rfl, post_val (rl := rlD) r p (.int _)⟩
    · exact p.elim) q
def asBs : List D → Option (List Bool)
  | [] => some []
  | .bl b :: ds => (asBs ds).map (b :: ·)
  | _ => none
theorem RepL.bls {K : PySem.W.Frag} {b : Option Addr} {F : Hp} : ∀ {vs : List V} {ds : List D} {bs : List Bool}, RepL K b F vs ds → asBs ds = some bs → vs = bs.map V.bl
  | _, _, _, .nil, e => by
    cases e
    rfl
  | _, _, bs, .cons (ds := ds) h r, e => by
    cases h <;> try (cases e)
    rename_i c
    replace e : (asBs ds).map (c :: ·) = some bs := e
    cases q : asBs ds with
    | none =>
      rw [q] at e
      cases e
    | some bs2 =>
      rw [q] at e
      cases e
      rw [RepL.bls r q]
      rfl
def gAll : List D → Option D
  | [.lst ds] => (asBs ds).map fun bs => .bl (bs.all id)
  | _ => none
def gAny : List D → Option D
  | [.lst ds] => (asBs ds).map fun bs => .bl (bs.any id)
  | _ => none
theorem real_all {K : PySem.W.Frag} : RealA K W (rAll K) fun ds => o1 (gAll ds) := by
  intro S F H σ ρ x vs ds Q eK r hv p
  unfold gAll at p
  dsimp only at p
  split at p
  · rename_i ds
    obtain ⟨v, e, h⟩ := rep1 hv
    subst e
    cases h with
    | lst h r1 =>
      cases q : asBs ds with
      | none =>
        rw [q] at p
        exact p.elim
      | some bs =>
        rw [q] at p
        have e2 := r1.bls q
        subst e2
        exact ⟨_, bs, rfl, sqL (r.core.sub _ _ h), post_val (rl := rlD) r p (.bl _)⟩
  · exact p.elim
theorem real_any {K : PySem.W.Frag} : RealA K W (rAny K) fun ds => o1 (gAny ds) := by
  intro S F H σ ρ x vs ds Q eK r hv p
  unfold gAny at p
  dsimp only at p
  split at p
  · rename_i ds
    obtain ⟨v, e, h⟩ := rep1 hv
    subst e
    cases h with
    | lst h r1 =>
      cases q : asBs ds with
      | none =>
        rw [q] at p
        exact p.elim
      | some bs =>
        rw [q] at p
        have e2 := r1.bls q
        subst e2
        exact ⟨_, bs, rfl, sqL (r.core.sub _ _ h), post_val (rl := rlD) r p (.bl _)⟩
  · exact p.elim
def gList : List D → Option D
  | [.lst ds] => some (.lst ds)
  | [.tup ds] => some (.lst ds)
  | _ => none
theorem real_list {K : PySem.W.Frag} : RealA K W (fun xs H Q => ∃ p ys, xs = [V.ref p] ∧ (SqL K H p ys ∨ SqT K H p ys) ∧ ∀ l, H l = none → Q (.ref l) (upd H l (.lst ys))) fun ds => o1 (gList ds) := by
  intro S F H σ ρ x vs ds Q eK r hv p
  unfold gList at p
  dsimp only at p
  split at p
  · obtain ⟨v, e, h⟩ := rep1 hv
    subst e
    cases h with
    | lst h r1 => exact ⟨_, _, rfl, .inl (sqL (r.core.sub _ _ h)), fun l n => post_new (α := D) r p n (.lst upd_same (r1.mono (Same.new (r.core.nF n))))⟩
  · obtain ⟨v, e, h⟩ := rep1 hv
    subst e
    cases h with
    | tup h r1 => exact ⟨_, _, rfl, .inr (sqTK eK r.core.sub h), fun l n => post_new (α := D) r p n (.lst upd_same (r1.mono (Same.new (r.core.nF n))))⟩
  · exact p.elim
def gTuple : List D → Option D
  | [.lst ds] => some (.tup ds)
  | [.tup ds] => some (.tup ds)
  | _ => none
theorem real_tuple {K : PySem.W.Frag} : RealA K W (fun xs H Q => ∃ p ys, xs = [V.ref p] ∧ ((SqL K H p ys ∧ ∀ l, H l = none → Q (.ref l) (upd H l (.tup ys))) ∨ (SqT K H p ys ∧ Q (.ref p) H))) fun ds => o1 (gTuple ds) := by
  intro S F H σ ρ x vs ds Q eK r hv p
  unfold gTuple at p
  dsimp only at p
  split at p
  · obtain ⟨v, e, h⟩ := rep1 hv
    subst e
    cases h with
    | lst h r1 => exact ⟨_, _, rfl, .inl ⟨sqL (r.core.sub _ _ h), fun l n => post_new (α := D) r p n (.tup (.inl upd_same) (r1.mono (Same.new (r.core.nF n))))⟩⟩
  · obtain ⟨v, e, h⟩ := rep1 hv
    subst e
    cases h with
    | tup h r1 => exact ⟨_, _, rfl, .inr ⟨sqTK eK r.core.sub h, post_val (rl := rlD) r p (.tup h r1)⟩⟩
  · exact p.elim

/-! ### sorted of texts -/
def leS (a b : Str) : Bool := !ltCps b.cps.toList a.cps.toList
def insS (a : Str) : List Str → List Str
  | [] => [a]
  | b :: r => if leS a b then a :: b :: r else b :: insS a r
def srtS : List Str → List Str
  | [] => []
  | a :: r => insS a (srtS r)
def asSs : List D → Option (List Str)
  | [] => some []
  | .str s :: ds => (asSs ds).map (s :: ·)
  | _ => none
theorem RepL.strs {K : PySem.W.Frag} {b : Option Addr} {F : Hp} : ∀ {vs : List V} {ds : List D} {bs : List Str}, RepL K b F vs ds → asSs ds = some bs → vs = bs.map V.str
  | _, _, _, .nil, e => by
    cases e
    rfl
  | _, _, bs, .cons (ds := ds) h r, e => by
    cases h <;> try (cases e)
    rename_i c
    replace e : (asSs ds).map (c :: ·) = some bs := e
    cases q : asSs ds with
    | none =>
      rw [q] at e
      cases e
    | some bs2 =>
      rw [q] at e
      cases e
      rw [RepL.strs r q]
      rfl
theorem repL_strs {K : PySem.W.Frag} {b : Option Addr} {F : Hp} : ∀ (l : List Str), RepL K b F (l.map V.str) (l.map D.str)
  | [] => .nil
  | s :: l => .cons (.str s) (repL_strs l)
end
end Mi

/-! Mi4: sorted texts, methods of texts, subscripts, slices, f-strings. -/
namespace Mi
open PySem PySem.Spec L2
theorem leS_iff {a b : Str} : leS a b = true ↔ a.cps.toList ≤ b.cps.toList := by
  unfold leS
  rw [PyProof.Rows.ltCps_eq]
  rw [Bool.not_eq_true', decide_eq_false_iff_not]
  exact List.not_lt
theorem insS_perm (a : Str) : ∀ l, (insS a l).Perm (a :: l)
  | [] => .refl _
  | b :: r => by
    unfold insS
    split
    · exact .refl _
    · exact ((insS_perm a r).cons b).trans (.swap a b r)
theorem srtS_perm : ∀ l, (srtS l).Perm l
  | [] => .refl _
  | a :: r => (insS_perm a (srtS r)).trans ((srtS_perm r).cons a)
theorem insS_pw (a : Str) : ∀ l, l.Pairwise (fun a b => leS a b = true) → (insS a l).Pairwise (fun a b => leS a b = true)
  | [], _ => by
    unfold insS
    exact List.pairwise_singleton _ _
  | b :: r, h => by
    obtain ⟨h1, h2⟩ :=
      List.pairwise_cons.mp h
    unfold insS
    split
    · rename_i c
      refine List.pairwise_cons.mpr ⟨fun y hy => ?_, h⟩
      rcases List.mem_cons.mp hy with
        e | hy
      · rw [e]
        exact c
      · exact leS_iff.mpr (List.le_trans (leS_iff.mp c) (leS_iff.mp (h1 y hy)))
    · rename_i c
      refine List.pairwise_cons.mpr ⟨fun y hy => ?_, insS_pw a r h2⟩
      have hy2 := (insS_perm a r).mem_iff.mp hy
      rcases List.mem_cons.mp hy2 with e | hy2
      · rw [e]
        rcases List.le_total a.cps.toList b.cps.toList with q | q
        · exact (c (leS_iff.mpr q)).elim
        · exact leS_iff.mpr q
      · exact h1 y hy2
theorem srtS_pw : ∀ l, (srtS l).Pairwise (fun a b => leS a b = true)
  | [] => .nil
  | a :: r => insS_pw a _ (srtS_pw r)
theorem rising_pw : ∀ (p : Str) (l : List Str), PyProof.Rows.risingS p l = true → (p :: l).Pairwise (fun a b => leS a b = true)
  | p, [], _ => List.pairwise_singleton _ _
  | p, x :: r, h => by
    unfold PyProof.Rows.risingS at h
    obtain ⟨h1, h2⟩ := Bool.and_eq_true_iff.mp h
    have ih := rising_pw x r h2
    refine List.pairwise_cons.mpr ⟨fun y hy => ?_, ih⟩
    have q1 : leS p x = true := h1
    rcases List.mem_cons.mp hy with
      e | hy
    · rw [e]
      exact q1
    · exact leS_iff.mpr (List.le_trans (leS_iff.mp q1) (leS_iff.mp ((List.pairwise_cons.mp ih).1 y hy)))
theorem sorted_pw : ∀ (l : List Str), PyProof.Rows.sortedS l = true → l.Pairwise (fun a b => leS a b = true)
  | [], _ => .nil
  | x :: r, h => rising_pw x r h
theorem srt_eq {ys xs : List Str} (p : ys.Perm xs) (s : PyProof.Rows.sortedS ys = true) : ys = srtS xs :=
  List.Perm.eq_of_pairwise (fun a b _ _ h1 h2 => Str.ext' (Array.toList_inj.mp (List.le_antisymm (leS_iff.mp h1) (leS_iff.mp h2)))) (sorted_pw ys s) (srtS_pw xs) (p.trans (srtS_perm xs).symm)
section
variable {X : Cx} {W : WX}
def gSorted : List D → Option D
  | [.lst ds] => match asSs ds with
    | some l => if l.length < 64 then some (.lst ((srtS l).map .str)) else none
    | none => none
  | _ => none
theorem real_sorted {K : PySem.W.Frag} : RealA K W (rSortedS K) fun ds => o1 (gSorted ds) := by
  intro S F H σ ρ x vs ds Q eK r hv p
  unfold gSorted at p
  dsimp only at p
  split at p
  · rename_i ds
    obtain ⟨v, e, h⟩ := rep1 hv
    subst e
    cases h with
    | lst h r1 =>
      split at p
      · rename_i l hl
        split at p
        · rename_i hz
          have e2 := r1.strs hl
          subst e2
          refine ⟨_, l, rfl, sqL (r.core.sub _ _ h), hz, fun ys q pm st n => ?_⟩
          have e3 := srt_eq pm st
          subst e3
          exact post_new (α := D) r p n (.lst upd_same (repL_strs _))
        · exact p.elim
      · exact p.elim
  · exact p.elim

/-! ### methods of texts -/
def isS : D → Option Str
  | .str s => some s
  | _ => none
def mM0 (g : Str → Option D) (m : MM D) : MM D := mBind m fun d => o1 ((isS d).bind g)
/-- s.m() -/
theorem j_m0 {name : Str} {id : String} {C : Str → Prop} {f : Str → V} {g : Str → Option D} {apos cpos : Pos} {o : Expr} {m : MM D} (pa : PlainAttrs "str") (slot : PySem.Slot "str" name id) (hty : typeOf (.builtin id) = pure (.type "method_descriptor"))
    (hm : MtR X id (fun x xs H Q => ∃ a, x = .str a ∧ xs = [] ∧ C a ∧ Q (f a) H)) (hf : ∀ a d, g a = some d → C a ∧ Sca (f a) d) (ho : PE X o (rdE X.K W m))
    (hbase : attributeBase o name X.env (eval o X.env) = eval o X.env := by rfl) (hline : (apos.endLine == cpos.line) = true := by rfl) : PE X (.Call (.Attribute o name apos) [] [] cpos) (rdE X.K W (mM0 g m)) :=
  peI (pe_bm0 pa slot hty hm ho hbase hline) fun σ H Q q => rd_un (rl := rlD) (r := fun x H1 Q => tyV X.K "str" x H1 ∧ ∃ a, x = .str a ∧ ([] : List V) = [] ∧ C a ∧ Q (f a) H1) (fun S F H σ ρ x v a Q eK r hr p => by
    cases hr <;> try exact p.elim
    rename_i s
    replace p : Post rlD S W σ F H ρ (o1 (g s) ρ x) Q := p
    cases e : g s with
    | none =>
      rw [e] at p
      exact p.elim
    | some d =>
      rw [e] at p
      obtain ⟨c, sc⟩ := hf s d e
      exact ⟨rfl, s, rfl, rfl, c, post_val (rl := rlD) r p sc.rep⟩) q
def mM1 (g : Str → List D → Option D) (m : MM D) (ms : MM (List D)) : MM D := mBind m fun d => match isS d with
  | some s => mBind ms fun as => o1 (g s as)
  | none => fun _ _ => .out
/-- s.m(e, ..) -/
theorem rd_unS {α γ : Type} {K : PySem.W.Frag} {rl : Rl α γ} {g : D → MM α} {m : MM D} {σ : L2.St} {r : V → Hp → (γ → Hp → Prop) → Prop} (hr : ∀ S F H ρ x v a Q, S.K = K → Rel S F H σ ρ x → Rep S.K S.b F v a → Post rl S W σ F H ρ (g a ρ x) Q → r v H Q) {H : Hp} {Q : γ → Hp → Prop} (h : rd rl K W (mBind m g) σ H Q) :
    rdE K W m σ H fun x H1 => r x H1 Q := by
  obtain ⟨S, F, ρ, x, eK, rr, p⟩ := rd_bind (rl := rlD) h
  refine ⟨S, F, ρ, x, eK, rr, ?_⟩
  cases e : m ρ x with
  | val a x1 =>
    rw [e] at p
    intro v F' H' r1 s1 k1 h1
    obtain ⟨S2, F2, ρ2, x2, a2, eK2, rr2, h2, p2⟩ := p v F' H' r1 s1 k1 h1
    exact hr S2 F2 H' ρ2 x2 v a2 Q eK2 rr2 h2 p2
  | exc c fs x1 =>
    rw [e] at p
    exact p
  | out =>
    rw [e] at p
    exact p
theorem j_m1 {name : Str} {id : String} {r : V → List V → Hp → VK → Prop} {g : Str → List D → Option D} {apos cpos : Pos} {o e : Expr} {es : List Expr} {m : MM D} {ms : MM (List D)} (pa : PlainAttrs "str") (slot : PySem.Slot "str" name id) (hty : typeOf (.builtin id) = pure (.type "method_descriptor"))
    (hm : MtR X id r) (hr : ∀ s, RealA X.K W (fun us H Q => r (.str s) us H Q) fun as => o1 (g s as)) (ho : PE X o (rdE X.K W m)) (ha : PA X (e :: es) (rdA X.K W ms))
    (hbase : attributeBase o name X.env (eval o X.env) = eval o X.env :=
      by rfl)
    (hfew : ((backTo cpos (starEach (e :: es) X.env)).all (fun x =>
      !x.1) && (backToKw cpos (keywordEach [] X.env)).all (fun x => x.1.isSome)
      && decide ((e :: es).length + ([] : List Keyword).length + (if ([] : List Keyword).isEmpty then 0 else 1) < 30)) = true :=
        by rfl)
    (hline : (apos.endLine == cpos.line) = true := by rfl) (hs : starEach (e :: es) X.env = (false, eval e X.env) :: starEach es X.env := by rfl)
      (hplain : (backTo cpos (starEach es X.env)).any (·.1) = false := by rfl) :
    PE X (.Call (.Attribute o name apos) (e :: es) [] cpos) (rdE X.K W (mM1 g m ms)) :=
  peI (pe_bm pa slot hty hm ho ha hbase hfew hline hs hplain) fun σ H Q q => rd_unS (rl := rlD) (r := fun x H1 Q => tyV X.K "str" x H1 ∧ rdA X.K W ms σ H1 fun xs H2 => r x xs H2 Q) (fun S F H ρ x v a Q eK rr hv p => by
    cases hv <;> try exact p.elim
    rename_i s
    exact ⟨rfl, rd_unL (rl := rlD) (r := fun us H Q => r (.str s) us H Q) (hr s) ⟨S, F, ρ, x, eK, rr, p⟩⟩) q
def gPart (s : Str) : List D → Option D
  | [.str z] => if (z.length == 0) = false ∧ s.length ≤ big then some (.tup [.str (Txt.partition s z).1, .str (Txt.partition s z).2.1, .str (Txt.partition s z).2.2]) else none
  | _ => none
def gSplit (s : Str) : List D → Option D
  | [.str z] => if (z.length == 0) = false ∧ s.length + 2 ≤ big then some (.lst ((Txt.split s z).map .str)) else none
  | _ => none
def gJoin (s : Str) : List D → Option D
  | [.lst ds] => match asSs ds with
    | some l => if (l.map (·.length)).sum + l.length * s.length ≤ big then some (.str (Txt.join s l)) else none
    | none => none
  | [.tup ds] => match asSs ds with
    | some l => if (l.map (·.length)).sum + l.length * s.length ≤ big then some (.str (Txt.join s l)) else none
    | none => none
  | _ => none
def gStarts (s : Str) : List D → Option D
  | [.str z] => some (.bl (Txt.startswith s z))
  | _ => none
theorem repL_str3 {K : PySem.W.Frag} {b : Option Addr} {F : Hp} {x y z : Str} : RepL K b F [.str x, .str y, .str z] [.str x, .str y, .str z] := .cons (.str _) (.cons (.str _) (.cons (.str _) .nil))
theorem j_partition {apos cpos : Pos} {o e : Expr} {m : MM D} {ms : MM (List D)} (ho : PE X o (rdE X.K W m)) (ha : PA X [e] (rdA X.K W ms))
    (hbase : attributeBase o "partition" X.env (eval o X.env) = eval o X.env := by rfl) (hfew : ((backTo cpos (starEach [e] X.env)).all (fun x => !x.1) && (backToKw cpos (keywordEach [] X.env)).all (fun x => x.1.isSome)
      && decide ([e].length + ([] : List Keyword).length + (if ([] : List Keyword).isEmpty then 0 else 1) < 30)) = true := by rfl) (hline : (apos.endLine == cpos.line) = true := by rfl) (hs : starEach [e] X.env = (false, eval e X.env) :: starEach [] X.env := by rfl) (hplain : (backTo cpos (starEach [] X.env)).any (·.1) = false := by rfl) :
    PE X (.Call (.Attribute o "partition" apos) [e] [] cpos) (rdE X.K W (mM1 gPart m ms)) :=
  j_m1 PySem.F.plainAttrs_str PySem.F.slot_str_partition PySem.F.type_str_partition mt_partition (fun s S F H σ ρ x vs ds Q eK r hv p => by
    unfold gPart at p
    dsimp only at p
    split at p
    · obtain ⟨v, e, h⟩ := rep1 hv
      subst e
      cases h
      split at p
      · rename_i hz
        exact ⟨_, _, rfl, rfl, hz.1, big_le hz.2, fun q n => post_new (α := D) r p n (.tup (.inl upd_same) repL_str3)⟩
      · exact p.elim
    · exact p.elim) ho ha hbase hfew hline hs hplain
theorem j_split {apos cpos : Pos} {o e : Expr} {m : MM D} {ms : MM (List D)} (ho : PE X o (rdE X.K W m)) (ha : PA X [e] (rdA X.K W ms))
    (hbase : attributeBase o "split" X.env (eval o X.env) = eval o X.env := by rfl) (hfew : ((backTo cpos (starEach [e] X.env)).all (fun x => !x.1) && (backToKw cpos (keywordEach [] X.env)).all (fun x => x.1.isSome)
      && decide ([e].length + ([] : List Keyword).length + (if ([] : List Keyword).isEmpty then 0 else 1) < 30)) = true := by rfl) (hline : (apos.endLine == cpos.line) = true := by rfl) (hs : starEach [e] X.env = (false, eval e X.env) :: starEach [] X.env := by rfl) (hplain : (backTo cpos (starEach [] X.env)).any (·.1) = false := by rfl) :
    PE X (.Call (.Attribute o "split" apos) [e] [] cpos) (rdE X.K W (mM1 gSplit m ms)) :=
  j_m1 PySem.F.plainAttrs_str PySem.F.slot_str_split PySem.F.type_str_split mt_split (fun s S F H σ ρ x vs ds Q eK r hv p => by
    unfold gSplit at p
    dsimp only at p
    split at p
    · obtain ⟨v, e, h⟩ := rep1 hv
      subst e
      cases h
      split at p
      · rename_i hz
        exact ⟨_, _, rfl, rfl, hz.1, big_le hz.2, fun q n => post_new (α := D) r p n (.lst upd_same (repL_strs _))⟩
      · exact p.elim
    · exact p.elim) ho ha hbase hfew hline hs hplain
theorem j_join {apos cpos : Pos} {o e : Expr} {m : MM D} {ms : MM (List D)} (ho : PE X o (rdE X.K W m)) (ha : PA X [e] (rdA X.K W ms))
    (hbase : attributeBase o "join" X.env (eval o X.env) = eval o X.env := by rfl) (hfew : ((backTo cpos (starEach [e] X.env)).all (fun x => !x.1) && (backToKw cpos (keywordEach [] X.env)).all (fun x => x.1.isSome)
      && decide ([e].length + ([] : List Keyword).length + (if ([] : List Keyword).isEmpty then 0 else 1) < 30)) = true := by rfl) (hline : (apos.endLine == cpos.line) = true := by rfl) (hs : starEach [e] X.env = (false, eval e X.env) :: starEach [] X.env := by rfl) (hplain : (backTo cpos (starEach [] X.env)).any (·.1) = false := by rfl) :
    PE X (.Call (.Attribute o "join" apos) [e] [] cpos) (rdE X.K W (mM1 gJoin m ms)) :=
  j_m1 PySem.F.plainAttrs_str PySem.F.slot_str_join PySem.F.type_str_join mt_join (fun s S F H σ ρ x vs ds Q eK r hv p => by
    unfold gJoin at p
    dsimp only at p
    split at p
    · obtain ⟨v, e, h⟩ := rep1 hv
      subst e
      cases h with
      | lst h r1 =>
        split at p
        · rename_i l hl
          split at p
          · rename_i hz
            have e2 := r1.strs hl
            subst e2
            exact ⟨_, _, l, rfl, rfl, .inl (sqL (r.core.sub _ _ h)), Nat.le_trans hz (by decide), post_val (rl := rlD) r p (.str _)⟩
          · exact p.elim
        · exact p.elim
    · obtain ⟨v, e, h⟩ := rep1 hv
      subst e
      cases h with
      | tup h r1 =>
        split at p
        · rename_i l hl
          split at p
          · rename_i hz
            have e2 := r1.strs hl
            subst e2
            exact ⟨_, _, l, rfl, rfl, .inr (sqTK eK r.core.sub h), Nat.le_trans hz (by decide), post_val (rl := rlD) r p (.str _)⟩
          · exact p.elim
        · exact p.elim
    · exact p.elim) ho ha hbase hfew hline hs hplain
theorem j_startswith {apos cpos : Pos} {o e : Expr} {m : MM D} {ms : MM (List D)} (ho : PE X o (rdE X.K W m)) (ha : PA X [e] (rdA X.K W ms))
    (hbase : attributeBase o "startswith" X.env (eval o X.env) = eval o X.env := by rfl) (hfew : ((backTo cpos (starEach [e] X.env)).all (fun x => !x.1) && (backToKw cpos (keywordEach [] X.env)).all (fun x => x.1.isSome)
      && decide ([e].length + ([] : List Keyword).length + (if ([] : List Keyword).isEmpty then 0 else 1) < 30)) = true := by rfl) (hline : (apos.endLine == cpos.line) = true := by rfl) (hs : starEach [e] X.env = (false, eval e X.env) :: starEach [] X.env := by rfl) (hplain : (backTo cpos (starEach [] X.env)).any (·.1) = false := by rfl) :
    PE X (.Call (.Attribute o "startswith" apos) [e] [] cpos) (rdE X.K W (mM1 gStarts m ms)) :=
  j_m1 PySem.F.plainAttrs_str PySem.F.slot_str_startswith PySem.F.type_str_startswith mt_startswith (fun s S F H σ ρ x vs ds Q eK r hv p => by
    unfold gStarts at p
    dsimp only at p
    split at p
    · obtain ⟨v, e, h⟩ := rep1 hv
      subst e
      cases h
      exact ⟨_, _, rfl, rfl, post_val (rl := rlD) r p (.bl _)⟩
    · exact p.elim) ho ha hbase hfew hline hs hplain
def gB (f : Str → Bool) (s : Str) : Option D := some (.bl (f s))
theorem gB_ok {f : Str → Bool} : ∀ a d, gB f a = some d → True ∧ Sca (V.bl (f a)) d := fun a d e => by
  cases e
  exact ⟨trivial, .bl _⟩

/-! ### subscripts -/
def gIx (a b : D) : Option D := match b with
  | .int i => match a with
    | .lst ds => atI ds i
    | .tup ds => atI ds i
    | .str s => if s.length ≤ big then (atI s.cps.toList i).map fun c => .str ⟨#[c]⟩ else none
    | _ => none
  | _ => none
theorem atI_rep {K : PySem.W.Frag} {b : Option Addr} {F : Hp} {vs : List V} {ds : List D} {i : Int} {d : D} (h : RepL K b F vs ds) (e : atI ds i = some d) : ∃ v, atI vs i = some v ∧ Rep K b F v d := by
  unfold atI at e ⊢
  rw [h.length]
  cases q : ixN ds.length i with
  | none =>
    rw [q] at e
    cases e
  | some j =>
    rw [q] at e
    exact h.get e
theorem real_ix {K : PySem.W.Frag} : Real2 K W (rIx K) fun a b => o1 (gIx a b) := by
  intro S F H σ ρ x v1 v2 a b Q eK r ha hb p
  cases hb <;> try exact p.elim
  rename_i i
  cases ha <;> try exact p.elim
  · rename_i s
    replace p : Post rlD S W σ F H ρ (o1 (if s.length ≤ big then (atI s.cps.toList i).map fun c => .str ⟨#[c]⟩ else none) ρ x) Q := p
    split at p
    · rename_i hz
      cases e : atI s.cps.toList i with
      | none =>
        rw [e] at p
        exact p.elim
      | some c =>
        rw [e] at p
        exact .inr (.inr ⟨s, i, c, rfl, rfl, big_le hz, e, post_val (rl := rlD) r p (.str _)⟩)
    · exact p.elim
  · rename_i a1 vs ds h r1
    replace p : Post rlD S W σ F H ρ (o1 (atI ds i) ρ x) Q := p
    cases e : atI ds i with
    | none =>
      rw [e] at p
      exact p.elim
    | some d =>
      rw [e] at p
      obtain ⟨v, e2, hv⟩ := atI_rep r1 e
      exact .inl ⟨a1, vs, i, v, rfl, rfl, sqL (r.core.sub _ _ h), e2, post_val (rl := rlD) r p hv⟩
  · rename_i a1 vs ds h r1
    replace p : Post rlD S W σ F H ρ (o1 (atI ds i) ρ x) Q := p
    cases e : atI ds i with
    | none =>
      rw [e] at p
      exact p.elim
    | some d =>
      rw [e] at p
      obtain ⟨v, e2, hv⟩ := atI_rep r1 e
      exact .inr (.inl ⟨a1, vs, i, v, rfl, rfl, sqTK eK r.core.sub h, e2, post_val (rl := rlD) r p hv⟩)
theorem j_item {ma mb : MM D} {a b : Expr} {pos : Pos} (ha : PE X a (rdE X.K W ma)) (hb : PE X b (rdE X.K W mb)) (hs : PlainIx b := by exact fun _ _ => rfl) : PE X (.Subscript a b pos) (rdE X.K W (mOp (fun a b => o1 (gIx a b)) ma mb)) :=
  j_ix ix_seq real_ix ha hb hs

/-! ### slices -/
def rlO : Rl (Option Int) (Option Int) := rlB
def mNoPart : MM (Option Int) := fun _ x => .val none x
def mPart (m : MM D) : MM (Option Int) := mBind m fun d => match d with
  | .int i => fun _ x => .val (some i) x
  | _ => fun _ _ => .out
theorem j_noPart : PO X none (rd rlB X.K W mNoPart) := ⟨fun pins s σ H Q I h => by
  obtain ⟨S, F, ρ, x, eK, rr, p⟩ := h
  exact (po_none (X := X)).run pins s σ H Q I (post_val (rl := rlB) rr p rfl)⟩
theorem j_part {e : Expr} {m : MM D} (h : PE X e (rdE X.K W m)) : PO X (some e) (rd rlB X.K W (mPart m)) := ⟨fun pins s σ H Q I q => (po_some h).run pins s σ H Q I
  (rd_un (rl := rlB) (r := fun x H1 Q => ∃ i, x = .int i ∧ Q (some i) H1) (fun S F H σ ρ x v a Q eK r hr p => by
    cases hr <;> try exact p.elim
    exact ⟨_, rfl, post_val (rl := rlB) r p rfl⟩) q)⟩
def cutD (ds : List D) (lo hi : Option Int) : List D := (ds.drop (HT.sIx ds.length 0 lo)).take (HT.sIx ds.length ds.length hi - HT.sIx ds.length 0 lo)
def gCut (lo hi : Option Int) : D → Option D
  | .lst ds => some (.lst (cutD ds lo hi))
  | .tup ds => some (.tup (cutD ds lo hi))
  | .str s => if s.length ≤ big then some (.str (cutS s lo hi)) else none
  | .scr ns => some (.lst (cutD (ns.map .int) lo hi))
  | _ => none
theorem repL_ints {K : PySem.W.Frag} {b : Option Addr} {F : Hp} : ∀ (l : List Int), RepL K b F (l.map V.int) (l.map D.int)
  | [] => .nil
  | s :: l => .cons (.int s) (repL_ints l)
theorem sqL_same {K : PySem.W.Frag} {H H' : Hp} {a : Addr} {xs : List V} (s : Same H H') (h : SqL K H a xs) : SqL K H' a xs := s.seq h
theorem cut_rep {K : PySem.W.Frag} {b : Option Addr} {F : Hp} {vs : List V} {ds : List D} (h : RepL K b F vs ds) (lo hi : Option Int) : RepL K b F (cutV vs lo hi) (cutD ds lo hi) := by
  unfold cutV cutD
  rw [h.length]
  exact (h.drop _).take _
def mSlice (m : MM D) (lo hi : MM (Option Int)) : MM D := mBind m fun d => mBind lo fun l => mBind hi fun u => o1 (gCut l u d)
theorem real_cut {S : Cf} {F H : Hp} {σ : L2.St} {ρ : En} {x : Bx} {v : V} {d : D} {Q : VK} {lo hi : Option Int} {K : PySem.W.Frag} (eK : S.K = K) (r : Rel S F H σ ρ x) (hv : Rep S.K S.b F v d) (p : Post rlD S W σ F H ρ (o1 (gCut lo hi d) ρ x) Q) :
    (rSlL K v lo hi H Q ∨ rSlA K v lo hi H Q) ∨ rSlS v lo hi H Q := by
  cases hv <;> try exact p.elim
  · rename_i s
    replace p : Post rlD S W σ F H ρ (o1 (if s.length ≤ big then some (.str (cutS s lo hi)) else none) ρ x) Q := p
    split at p
    · rename_i hz
      exact .inr ⟨s, rfl, big_le hz, post_val (rl := rlD) r p (.str _)⟩
    · exact p.elim
  · rename_i a1 vs ds h r1
    exact .inl (.inl ⟨a1, vs, rfl, sqL (r.core.sub _ _ h), fun q n => post_new (α := D) r p n (.lst upd_same ((cut_rep r1 lo hi).mono (Same.new (r.core.nF n))))⟩)
  · rename_i a1 vs ds h r1
    refine .inl (.inr ⟨a1, vs, rfl, sqTK eK r.core.sub h, fun w => post_val (rl := rlD) r p ?_, fun _ q n => post_new (α := D) r p n (.tup (.inl upd_same) ((cut_rep r1 lo hi).mono (Same.new (r.core.nF n))))⟩)
    have e : cutD ds lo hi = ds := by
      unfold cutD
      rw [← r1.length, w.1, w.2, List.drop_zero, Nat.sub_zero, r1.length, List.take_length]
    show Rep S.K S.b F (.ref a1) (.tup (cutD ds lo hi))
    rw [e]
    exact .tup h r1
  · rename_i a1 ns h
    exact .inl (.inl ⟨a1, ns.map V.int, rfl, by rw [← eK]; exact sqL_same r.core.sub h, fun q n => post_new (α := D) r p n (.lst upd_same (cut_rep (repL_ints ns) lo hi))⟩)
theorem j_slice {e : Expr} {lo hi : Option Expr} {p2 pos : Pos} {m : MM D} {ml mh : MM (Option Int)} (he : PE X e (rdE X.K W m)) (hl : PO X lo (rd rlB X.K W ml)) (hu : PO X hi (rd rlB X.K W mh)) : PE X (.Subscript e (.Slice lo hi none p2) pos) (rdE X.K W (mSlice m ml mh)) :=
  peI (pe_slice (((sl_list (X := X)).or sl_tupA).or sl_str) he hl hu) fun σ H Q q => rd_unS (rl := rlD) (r := fun x H1 Q => rd rlB X.K W ml σ H1 fun l H2 => rd rlB X.K W mh σ H2 fun u H3 => (rSlL X.K x l u H3 Q ∨ rSlA X.K x l u H3 Q) ∨ rSlS x l u H3 Q) (fun S F H ρ x v a Q eK rr hv p => by
    refine (show rd rlB X.K W ml σ H fun l H2 => rd rlB X.K W mh σ H2 fun u H3 => (rSlL X.K v l u H3 Q ∨ rSlA X.K v l u H3 Q) ∨ rSlS v l u H3 Q from ?_)
    have q1 : rd1 rlD rlD X.K W (fun a => mBind ml fun l => mBind mh fun u => o1 (gCut l u a)) v σ H Q := ⟨S, F, ρ, x, a, eK, rr, hv, p⟩
    obtain ⟨S2, F2, ρ2, x2, eK2, rr2, p2⟩ := rd1_bind (rl1 := rlB) mono_D q1
    refine ⟨S2, F2, ρ2, x2, eK2, rr2, ?_⟩
    cases e : ml ρ2 x2 with
    | exc c fs x1 =>
      rw [e] at p2
      exact p2
    | out =>
      rw [e] at p2
      exact p2
    | val l x3 =>
      rw [e] at p2
      intro l' F3 H3 r3 s3 k3 h3
      obtain ⟨S4, F4, ρ4, x4, a4, l4, eK4, rr4, ha4, hl4, p4⟩ := p2 l' F3 H3 r3 s3 k3 h3
      have el : l' = l4 := hl4
      subst el
      have q2 : rd1 rlD rlD X.K W (fun a => mBind mh fun u => o1 (gCut l' u a)) v σ H3 Q := ⟨S4, F4, ρ4, x4, a4, eK4, rr4, ha4, p4⟩
      obtain ⟨S5, F5, ρ5, x5, eK5, rr5, p5⟩ := rd1_bind (rl1 := rlB) mono_D q2
      refine ⟨S5, F5, ρ5, x5, eK5, rr5, ?_⟩
      cases e5 : mh ρ5 x5 with
      | exc c fs x1 =>
        rw [e5] at p5
        exact p5
      | out =>
        rw [e5] at p5
        exact p5
      | val u x6 =>
        rw [e5] at p5
        intro u' F6 H6 r6 s6 k6 h6
        obtain ⟨S7, F7, ρ7, x7, a7, u7, eK7, rr7, ha7, hu7, p7⟩ := p5 u' F6 H6 r6 s6 k6 h6
        have eu : u' = u7 := hu7
        subst eu
        exact real_cut eK7 rr7 ha7 p7) q

/-! ### f-strings -/
def mFmt (m : MM D) : MM D := mBind m fun d => match d with
  | .str s => if s.length ≤ big then fun _ x => .val (.str s) x else fun _ _ => .out
  | .int i => if lg i < 1920 then fun _ x => .val (.str (Str.ofString (toString i))) x else fun _ _ => .out
  | _ => fun _ _ => .out
theorem j_fmt {e : Expr} {m : MM D} {pos : Pos} (he : PE X e (rdE X.K W m)) : PE X (.FormattedValue e (-1) none pos) (rdE X.K W (mFmt m)) :=
  peI (pe_fmt he) fun σ H Q q => rd_un (rl := rlD) (r := fun x H1 Q => (∃ y : Str, x = .str y ∧ y.length ≤ sizeLine ∧ Q (.str y) H1) ∨ ∃ i : Int, x = .int i ∧ i.natAbs.log2 < 1920 ∧ Q (.str (toString i)) H1) (fun S F H σ ρ x v a Q eK r hr p => by
    cases hr <;> try exact p.elim
    · rename_i i
      dsimp only at p
      split at p
      · rename_i hz
        exact .inr ⟨i, rfl, hz, post_val (rl := rlD) r p (.str _)⟩
      · exact p.elim
    · rename_i s
      dsimp only at p
      split at p
      · rename_i hz
        exact .inl ⟨s, rfl, big_le hz, post_val (rl := rlD) r p (.str _)⟩
      · exact p.elim) q
end
end Mi

/-! Mi5: joined f-strings, isinstance, calls of defs. -/
namespace Mi
open PySem PySem.Spec L2
section
variable {X : Cx} {W : WX}
/-! ### f-strings -/
inductive PJm (X : Cx) (W : WX) : List Expr → List (MM D) → Prop where
  | nil : PJm X W [] []
  | cons {e : Expr} {m : MM D} {es : List Expr} {ms : List (MM D)} (h : PE X e (rdE X.K W m)) (r : PJm X W es ms) : PJm X W (e :: es) (m :: ms)
theorem PJm.pj : ∀ {es : List Expr} {ms : List (MM D)}, PJm X W es ms → PJ X es (ms.map (rdE X.K W))
  | _, _, .nil => .nil
  | _, _, .cons h r => .cons h r.pj
def mJ : List (MM D) → Str → MM D
  | [], acc => fun _ x => .val (.str acc) x
  | m :: ms, acc => mBind m fun d => match isS d with
    | some y => if (acc ++ y).length ≤ big then mJ ms (acc ++ y) else fun _ _ => .out
    | none => fun _ _ => .out
theorem rd_J {K : PySem.W.Frag} {σ : L2.St} {Q : VK} : ∀ (ms : List (MM D)) (acc : Str) (H : Hp), rdE K W (mJ ms acc) σ H Q → tJs (ms.map (rdE K W)) acc σ H fun out H1 => Q (.str out) H1
  | [], acc, H, h => by
    obtain ⟨S, F, ρ, x, eK, rr, p⟩ := h
    exact post_val (rl := rlD) rr p (.str _)
  | m :: ms, acc, H, h => rd_unS (rl := rlD) (r := fun x H1 Q => ∃ y : Str, x = .str y ∧ (acc ++ y).length ≤ sizeLine ∧ tJs (ms.map (rdE K W)) (acc ++ y) σ H1 fun out H1 => Q (.str out) H1) (fun S F H ρ x v a Q eK rr hv p => by
      cases hv <;> try exact p.elim
      rename_i y
      replace p : Post rlD S W σ F H ρ ((if (acc ++ y).length ≤ big then mJ ms (acc ++ y) else fun _ _ => .out) ρ x) Q := p
      split at p
      · rename_i hz
        exact ⟨y, rfl, big_le hz, rd_J ms (acc ++ y) H ⟨S, F, ρ, x, eK, rr, p⟩⟩
      · exact p.elim) h
theorem j_joined {v1 v2 : Expr} {rest : List Expr} {ms : List (MM D)} {pos : Pos} (h : PJm X W (v1 :: v2 :: rest) ms) : PE X (.JoinedStr (v1 :: v2 :: rest) pos) (rdE X.K W (mJ ms Str.empty)) :=
  peI (pe_joined h.pj) fun σ H Q q => rd_J ms Str.empty H q
theorem j_joined1 {e : Expr} {m : MM D} {pos : Pos} (he : PE X e (rdE X.K W m)) : PE X (.JoinedStr [e] pos) (rdE X.K W m) := pe_joined1 he

/-! ### isinstance -/
def tyN : D → Option String
  | .non => some "NoneType"
  | .bl _ => some "bool"
  | .int _ => some "int"
  | .str _ => some "str"
  | .lst _ => some "list"
  | .tup _ => some "tuple"
  | .dct _ => some "dict"
  | _ => none
def tyIs (t T : String) : Option Bool :=
  if T = "int" ∨ T = "bool" ∨ T = "str" ∨ T = "list" ∨ T = "tuple" ∨ T = "dict" then
    if t = "NoneType" ∨ t = "bool" ∨ t = "int" ∨ t = "str" ∨ t = "list" ∨ t = "tuple" ∨ t = "dict" then some (decide (t = T ∨ (t = "bool" ∧ T = "int"))) else none
  else none
theorem tyIs_kit {K : PySem.W.Frag} {t T : String} {b : Bool} (h : tyIs t T = some b) : PySem.W.kitOne K (.type t) (.type T) = some b := by
  refine kit_ty ?_
  unfold tyIs at h
  split at h
  · rename_i hT
    split at h
    · rename_i ht
      cases h
      rcases hT with rfl | rfl | rfl | rfl | rfl | rfl <;> rcases ht with rfl | rfl | rfl | rfl | rfl | rfl | rfl <;> decide +kernel
    · cases h
  · cases h
theorem Rep.ty {K : PySem.W.Frag} {b : Option Addr} {F H : Hp} (s : Same F H) {v : V} {d : D} {t : String} (h : Rep K b F v d) (e : tyN d = some t) : TyX K H v (.type t) := by
  cases h <;> first
    | (cases e; done)
    | (cases e; exact .base .non)
    | (cases e; exact .base (.bl _))
    | (cases e; exact .base (.int _))
    | (cases e; exact .base (.str _))
    | (cases e; exact .base (.lst (s _ _ (by assumption))))
    | (cases e; rename_i ht _; rcases ht with ht | ⟨o, its, n, h1, h2, _⟩; (· exact .base (.tup (s _ _ ht))); (· exact .kTuple h1 h2))
    | (cases e; exact .base (.dK (s _ _ (by assumption))))
def isi1 (T : String) (d : D) : Option Bool := (tyN d).bind fun t => tyIs t T
def isi : List String → D → Option Bool
  | [], _ => some false
  | T :: Ts, d => match isi1 T d with
    | some true => some true
    | some false => isi Ts d
    | none => none
def mIsi (T : String) (m : MM D) : MM D := mBind m fun d => o1 ((isi1 T d).map .bl)
theorem j_isi {y T : Str} {T0 : String} {p p2 pos : Pos} {e : Expr} {m : MM D} (hg : Gl X y) (hm : X.mg y = none) (hv : bootBuiltins y = some (.builtin "isinstance")) (hgT : Gl X T) (hmT : X.mg T = none) (hvT : bootBuiltins T = some (.type T0)) (he : PE X e (rdE X.K W m)) (hn : y ≠ "__name__" := by decide) (hdb : (y == ("__debug__" : Str)) = false := by decide) (hnT : T ≠ "__name__" := by decide) (hdT : (T == ("__debug__" : Str)) = false := by decide)
    (h1 : starEach (e :: [Expr.Name T p2]) X.env = (false, eval e X.env) :: starEach [Expr.Name T p2] X.env := by rfl) (h2 : starEach [Expr.Name T p2] X.env = (false, eval (Expr.Name T p2) X.env) :: starEach [] X.env := by rfl) (hpl : (backTo pos (starEach [Expr.Name T p2] X.env)).any (·.1) = false := by rfl) :
    PE X (.Call (.Name y p) [e, .Name T p2] [] pos) (rdE X.K W (mIsi T0 m)) :=
  peI (pe_callB call_isi hg hm hv (pa_cons he (pa_cons (pe_bltn (v := .ty T0) hgT hmT hvT rfl hnT hdT) pa_nil h2) h1) hn hdb h1 hpl) fun σ H Q q => rd_un (rl := rlD) (r := fun x H1 Q => rIsi X.K [x, .ty T0] H1 Q) (fun S F H σ ρ x v a Q eK r hr p => by
    replace p : Post rlD S W σ F H ρ (o1 ((isi1 T0 a).map .bl) ρ x) Q := p
    cases e1 : tyN a with
    | none =>
      unfold isi1 at p
      rw [e1] at p
      exact p.elim
    | some t =>
      unfold isi1 at p
      rw [e1] at p
      replace p : Post rlD S W σ F H ρ (o1 ((tyIs t T0).map .bl) ρ x) Q := p
      cases e2 : tyIs t T0 with
      | none =>
        rw [e2] at p
        exact p.elim
      | some b =>
        rw [e2] at p
        exact ⟨v, .ty T0, .type t, .type T0, b, rfl, .ty _, eK ▸ hr.ty r.core.sub e1, tyIs_kit e2, post_val (rl := rlD) r p (.bl _)⟩) q
def mIsi2 (T U : String) (m : MM D) : MM D := mBind m fun d => o1 ((isi [T, U] d).map .bl)
theorem isi2_kit {K : PySem.W.Frag} {T U : String} {t : String} {d : D} {b : Bool} (e : tyN d = some t) (h : isi [T, U] d = some b) : PySem.W.kitAny K (.type t) [.type T, .type U] = some b := by
  unfold isi at h
  have e1 : ∀ Z, isi1 Z d = tyIs t Z := fun Z => by
    unfold isi1
    rw [e]
    rfl
  rw [e1] at h
  cases q : tyIs t T with
  | none =>
    rw [q] at h
    cases h
  | some c =>
    rw [q] at h
    refine kitAny_cons (tyIs_kit q) (fun hc => ?_) (fun hc => ?_)
    · subst hc
      replace h : isi [U] d = some b := h
      unfold isi at h
      rw [e1] at h
      cases q2 : tyIs t U with
      | none =>
        rw [q2] at h
        cases h
      | some c2 =>
        rw [q2] at h
        refine kitAny_cons (tyIs_kit q2) (fun hc => ?_) (fun hc => ?_)
        · subst hc
          exact h
        · subst hc
          exact (Option.some.inj h).symm
    · subst hc
      exact (Option.some.inj h).symm
theorem j_isi2 {y T U : Str} {T0 U0 : String} {x1 : Nat} {p p2 p3 p4 pos : Pos} {e : Expr} {m : MM D} (hg : Gl X y) (hm : X.mg y = none) (hv : bootBuiltins y = some (.builtin "isinstance")) (hgT : Gl X T) (hmT : X.mg T = none) (hvT : bootBuiltins T = some (.type T0)) (hgU : Gl X U) (hmU : X.mg U = none) (hvU : bootBuiltins U = some (.type U0))
    (he : PE X e (rdE X.K W m)) (hn : y ≠ "__name__" := by decide) (hdb : (y == ("__debug__" : Str)) = false := by decide) (hnT : T ≠ "__name__" := by decide) (hdT : (T == ("__debug__" : Str)) = false := by decide) (hnU : U ≠ "__name__" := by decide) (hdU : (U == ("__debug__" : Str)) = false := by decide)
    (h1 : starEach (e :: [Expr.Tuple [.Name T p2, .Name U p3] x1 p4]) X.env = (false, eval e X.env) :: starEach [Expr.Tuple [.Name T p2, .Name U p3] x1 p4] X.env := by rfl) (h2 : starEach [Expr.Tuple [.Name T p2, .Name U p3] x1 p4] X.env = (false, eval (Expr.Tuple [.Name T p2, .Name U p3] x1 p4) X.env) :: starEach [] X.env := by rfl)
    (h3 : starEach (Expr.Name T p2 :: [Expr.Name U p3]) X.env = (false, eval (Expr.Name T p2) X.env) :: starEach [Expr.Name U p3] X.env := by rfl) (h4 : starEach [Expr.Name U p3] X.env = (false, eval (Expr.Name U p3) X.env) :: starEach [] X.env := by rfl)
    (hpl : (backTo pos (starEach [Expr.Tuple [.Name T p2, .Name U p3] x1 p4] X.env)).any (·.1) = false := by rfl) :
    PE X (.Call (.Name y p) [e, .Tuple [.Name T p2, .Name U p3] x1 p4] [] pos) (rdE X.K W (mIsi2 T0 U0 m)) :=
  peI (pe_callB call_isiT hg hm hv (pa_cons he (pa_cons (pe_tup (pa_cons (pe_bltn (v := .ty T0) hgT hmT hvT rfl hnT hdT) (pa_cons (pe_bltn (v := .ty U0) hgU hmU hvU rfl hnU hdU) pa_nil h4) h3)) pa_nil h2) h1) hn hdb h1 hpl) fun σ H Q q =>
    rd_un (rl := rlD) (r := fun x H1 Q => ([V.ty T0, .ty U0] : List V).length ≤ sizeLine ∧ ∀ q, H1 q = none → rIsiT X.K [x, .ref q] (upd H1 q (.tup [.ty T0, .ty U0])) Q) (fun S F H σ ρ x v a Q eK r hr p => by
      refine ⟨by show 2 ≤ sizeLine; decide, fun q n => ?_⟩
      replace p : Post rlD S W σ F H ρ (o1 ((isi [T0, U0] a).map .bl) ρ x) Q := p
      cases e2 : isi [T0, U0] a with
      | none =>
        rw [e2] at p
        exact p.elim
      | some b =>
        rw [e2] at p
        cases e1 : tyN a with
        | none =>
          unfold isi isi1 at e2
          rw [e1] at e2
          cases e2
        | some t =>
          have k : Same F (upd H q (.tup [.ty T0, .ty U0])) := r.core.sub.trans (Same.new n)
          exact ⟨v, q, [.ty T0, .ty U0], .type t, [.type T0, .type U0], b, rfl, upd_same, .cons (.ty _) (.cons (.ty _) .nil), eK ▸ hr.ty k e1, isi2_kit e1 e2, p (.bl b) _ _ (r.allocO n) (Same.refl F) (KeepB.new n) (.bl b)⟩) q

/-! ### a def's promise -/
def PostF (S : Cf) (r : R D) (Q : VK) (E : XK) : Prop := match r with
  | .val d x' => ∀ v F' H', Core S F' H' x' → Rep S.K S.b F' v d → Q v H'
  | .exc c fs x' => ∀ F' H' dd, Core S F' H' x' → XdOk S F' dd fs → E (.ref (He.ga S.K c)) dd H'
  | .out => False
abbrev Mr := List D → Bx → R D
def spM (K : PySem.W.Frag) (n : Nat) (f : Mr) : Sp := fun vs H Q E => ∃ S x ds, S.K = K ∧ S.H0 = H ∧ Core S S.F0 H x ∧ RepL S.K S.b S.F0 vs ds ∧ ds.length = n ∧ PostF S (f ds x) Q E
theorem Core.enter {S : Cf} {F H : Hp} {x : Bx} (r : Core S F H x) : Core ⟨S.K, S.b, H, F⟩ F H x := ⟨r.sub, Same.refl F, fun _ _ h => h, fun _ _ h _ => h, r.box⟩
theorem Core.exit {S : Cf} {F H F' H' : Hp} {x x' : Bx} (r : Core S F H x) (c : Core ⟨S.K, S.b, H, F⟩ F' H' x') : Core S F' H' x' where
  sub := c.sub
  f0 := r.f0.trans c.f0
  fresh := fun p h1 h2 => by
    by_cases hb : S.b = some p
    · exact (c.box p hb).1
    · cases e : S.H0 p with
      | none => exact (h1 e).elim
      | some o => exact c.fresh p (by rw [show (⟨S.K, S.b, H, F⟩ : Cf).H0 p = H p from rfl, r.keep p o e hb]; intro z; cases z) (r.fresh p h1 h2)
  keep := fun p o h1 h2 => c.keep p o (r.keep p o h1 h2) h2
  box := c.box
theorem Rel.back {S : Cf} {F H F' H' : Hp} {σ : L2.St} {ρ : En} {x x' : Bx} (r : Rel S F H σ ρ x) (c : Core ⟨S.K, S.b, H, F⟩ F' H' x') : Rel S F' H' σ ρ x' ∧ Same F F' ∧ KeepB S.b H H' :=
  ⟨r.go (r.core.exit c) c.f0 (fun p o h n => c.keep p o h n) (fun p h1 h2 _ => c.fresh p h1 h2), c.f0, fun p o h n => c.keep p o h n⟩
def mDef (n : Nat) (f : Mr) (ms : MM (List D)) : MM D := mBind ms fun ds => fun _ x => if ds.length = n then f ds x else .out
theorem rd_def {K : PySem.W.Frag} {n : Nat} {f : Mr} {ms : MM (List D)} {σ : L2.St} {H : Hp} {Q : VK} (q : rdE K W (mDef n f ms) σ H Q) : rdA K W ms σ H fun vs H1 => spM K n f vs H1 Q (WE W σ) := by
  obtain ⟨S, F, ρ, x, eK, rr, p⟩ := rd_bind (rl := rlL) q
  refine ⟨S, F, ρ, x, eK, rr, ?_⟩
  cases e : ms ρ x with
  | exc c fs x1 =>
    rw [e] at p
    exact p
  | out =>
    rw [e] at p
    exact p
  | val ds x1 =>
    rw [e] at p
    intro vs F' H' r1 s1 k1 h1
    obtain ⟨S2, F2, ρ2, x2, ds2, eK2, rr2, h2, p2⟩ := p vs F' H' r1 s1 k1 h1
    dsimp only at p2
    split at p2
    · rename_i hz
      refine ⟨⟨S2.K, S2.b, H', F2⟩, x2, ds2, eK2, rfl, rr2.core.enter, h2, hz, ?_⟩
      cases e2 : f ds2 x2 with
      | out =>
        rw [e2] at p2
        exact p2
      | val d x3 =>
        rw [e2] at p2
        intro v F3 H3 c3 h3
        obtain ⟨a1, a2, a3⟩ := rr2.back c3
        exact p2 v F3 H3 a1 a2 a3 h3
      | exc c fs x3 =>
        rw [e2] at p2
        intro F3 H3 dd c3 h3
        obtain ⟨a1, a2, a3⟩ := rr2.back c3
        exact p2 F3 H3 dd a1 a2 a3 h3
    · exact p2.elim
variable {f : Addr} {fd : FuncData} {ps : List Str} {k n : Nat} {g : Mr} {ms : MM (List D)} {y : Str} {e : Expr} {es : List Expr} {p pos : Pos}
/-- g(e, ..), g a def that keeps its mirror -/
theorem j_call (F : FnOk X.prog X.w X.K X.mg X.base (L2.CX X.prog X.w) k f fd ps (spM X.K n g)) (hr : Room k X.A) (tk : Takes X W) (hg : Gl X y) (hm : X.mg y = some (.ref f)) (hk : PySem.W.keepIn X.K (.ref f) = true) (hb : Binds X.K fd ps [])
    (ha : PA X (e :: es) (rdA X.K W ms)) (hdb : (y == ("__debug__" : Str)) = false := by decide) (he : starEach (e :: es) X.env = (false, eval e X.env) :: starEach es X.env := by rfl) (hpl : (backTo pos (starEach es X.env)).any (·.1) = false := by rfl) :
    PE X (.Call (.Name y p) (e :: es) [] pos) (rdE X.K W (mDef n g ms)) :=
  peI (pe_callS F hr hg hm hk hb (fun σ => passAt tk σ) ha hdb he hpl) fun σ H Q q => rd_def q
end
end Mi

/-! Mi6: what is walked; targets; list comprehensions. -/
namespace Mi
open PySem PySem.Spec L2
/-- what was there and not frozen is not frozen afterwards -/
def Nw (b : Option Addr) (F H F' : Hp) : Prop := ∀ p, H p ≠ none → F p = none → b ≠ some p → F' p = none
theorem Nw.same {b : Option Addr} {F H : Hp} : Nw b F H F := fun _ _ h _ => h
theorem Nw.new {b : Option Addr} {F H : Hp} {p : Addr} {o : HO} (h : H p = none) : Nw b F H (upd F p o) := fun q h1 h2 _ => by
  have hq : q ≠ p := fun e => h1 (e ▸ h)
  rw [upd_ne hq]
  exact h2
def Walks (K : PySem.W.Frag) (b : Option Addr) (F : Hp) (J : It) (ds : List D) : Prop := ∀ (S : Cf) (i : Nat) (F1 H : Hp) (x : Bx), S.K = K → S.b = b → Same F F1 → Core S F1 H x →
  (i < ds.length → J.go i H ∧ ∀ v H', J.yld i H v H' → ∃ F2 d, Core S F2 H' x ∧ Same F1 F2 ∧ KeepB b H H' ∧ Nw b F1 H F2 ∧ ds[i]? = some d ∧ Rep K b F2 v d) ∧ (ds.length ≤ i → J.stop i H)
def rlI : Rl (List D) It := fun S F J ds => Walks S.K S.b F J ds
theorem walks_lst {K : PySem.W.Frag} {b : Option Addr} {F : Hp} {a : Addr} {vs : List V} {ds : List D} (h : F a = some (.lst vs)) (r : RepL K b F vs ds) : Walks K b F (Itl K a) ds := fun S i F1 H x eK eb s c => by
  have ha : SqL K H a vs := sqL (c.sub _ _ (s _ _ h))
  refine ⟨fun hi => ?_, fun hi => ⟨vs, ha, by rw [r.length]; exact hi⟩⟩
  obtain ⟨v0, e0, h0⟩ := r.get (List.getElem?_eq_getElem hi)
  refine ⟨⟨vs, v0, ha, e0⟩, fun v H' y => ?_⟩
  obtain ⟨rfl, y2⟩ := y
  have e1 := y2 vs ha
  rw [e0] at e1
  cases e1
  exact ⟨F1, _, c, Same.refl _, KeepB.refl, Nw.same, List.getElem?_eq_getElem hi, h0.mono s⟩
theorem walks_tup {K : PySem.W.Frag} {b : Option Addr} {F : Hp} {a : Addr} {vs : List V} {ds : List D} (h : TupAt K F a vs) (r : RepL K b F vs ds) : Walks K b F (Itt K a) ds := fun S i F1 H x eK eb s c => by
  have ha : SqT K H a vs := sqTK rfl c.sub (h.mono s)
  refine ⟨fun hi => ?_, fun hi => ⟨vs, ha, by rw [r.length]; exact hi⟩⟩
  obtain ⟨v0, e0, h0⟩ := r.get (List.getElem?_eq_getElem hi)
  refine ⟨⟨vs, v0, ha, e0⟩, fun v H' y => ?_⟩
  obtain ⟨rfl, y2⟩ := y
  have e1 := y2 vs ha
  rw [e0] at e1
  cases e1
  exact ⟨F1, _, c, Same.refl _, KeepB.refl, Nw.same, List.getElem?_eq_getElem hi, h0.mono s⟩
def signs (s : Str) : List D := s.cps.toList.map fun c => .str ⟨#[c]⟩
theorem walks_str {K : PySem.W.Frag} {b : Option Addr} {F : Hp} {s : Str} : Walks K b F (Its s) (signs s) := fun S i F1 H x eK eb _ c => by
  have hl : (signs s).length = s.cps.size := by
    unfold signs
    rw [List.length_map,
      Array.length_toList]
  refine ⟨fun hi => ⟨by rw [hl] at hi; exact hi, fun v H' y => ?_⟩, fun hi => by rw [hl] at hi; exact hi⟩
  obtain ⟨rfl, cc, e1, rfl⟩ := y
  refine ⟨F1, .str ⟨#[cc]⟩, c, Same.refl _, KeepB.refl, Nw.same, ?_, .str _⟩
  unfold signs
  rw [List.getElem?_map, Array.getElem?_toList, e1]
  rfl
def rng (lo : Int) (n : Nat) : List D := (List.range n).map fun i => .int (lo + (i : Nat))
theorem walks_rng {K : PySem.W.Frag} {b : Option Addr} {F : Hp} {lo : Int} {n : Nat} : Walks K b F (Itr lo n) (rng lo n) := fun S i F1 H x eK eb _ c => by
  have hl : (rng lo n).length = n := by
    unfold rng
    rw [List.length_map,
      List.length_range]
  refine ⟨fun hi => ⟨by rw [hl] at hi; exact hi, fun v H' y => ?_⟩, fun hi => by rw [hl] at hi; exact hi⟩
  obtain ⟨rfl, rfl⟩ := y
  refine ⟨F1, .int (lo + (i : Nat)), c, Same.refl _, KeepB.refl, Nw.same, ?_, .int _⟩
  rw [hl] at hi
  unfold rng
  rw [List.getElem?_map, List.getElem?_range hi]
  rfl
theorem rep_pair {K : PySem.W.Frag} {b : Option Addr} {F : Hp} {p : Addr} {v u : V} {d e : D} (n : F p = none) (h1 : Rep K b F v d) (h2 : Rep K b F u e) : Rep K b (upd F p (.tup [v, u])) (.ref p) (.tup [d, e]) :=
  .tup (.inl upd_same) (.cons (h1.mono (Same.new n)) (.cons (h2.mono (Same.new n)) .nil))
def enumD (ds : List D) : List D := ds.mapIdx fun i d => .tup [.int (i : Nat), d]
theorem walks_enum {K : PySem.W.Frag} {b : Option Addr} {F : Hp} {a : Addr} {vs : List V} {ds : List D} (h : F a = some (.lst vs)) (r : RepL K b F vs ds) : Walks K b F (Ite K a) (enumD ds) := fun S i F1 H x eK eb s c => by
  have ha : SqL K H a vs := sqL (c.sub _ _ (s _ _ h))
  have hl : (enumD ds).length = ds.length := by
    unfold enumD
    rw [List.length_mapIdx]
  refine ⟨fun hi => ?_, fun hi => ⟨vs, ha, by rw [r.length, ← hl]; exact hi⟩⟩
  rw [hl] at hi
  obtain ⟨v0, e0, h0⟩ := r.get (List.getElem?_eq_getElem hi)
  refine ⟨⟨vs, v0, ha, e0⟩, fun v H' y => ?_⟩
  obtain ⟨T, u, rfl, n, rfl, y2⟩ := y
  have e1 := y2 vs ha
  rw [e0] at e1
  cases e1
  refine ⟨upd F1 T (.tup [.int (i : Nat), v0]), .tup [.int (i : Nat), ds[i]], c.alloc n, Same.new (c.nF n), KeepB.new n, Nw.new n, ?_, rep_pair (c.nF n) (.int _) (h0.mono s)⟩
  unfold enumD
  rw [List.getElem?_mapIdx, List.getElem?_eq_getElem hi]
  rfl
def zipD (ds es : List D) : List D := List.zipWith (fun d e => .tup [d, e]) ds es
theorem zipD_length (ds es : List D) : (zipD ds es).length = min ds.length es.length := by
  unfold zipD
  rw [List.length_zipWith]
theorem zip_get {ds es : List D} {i : Nat} (h1 : i < ds.length) (h2 : i < es.length) : (zipD ds es)[i]? = some (.tup [ds[i], es[i]]) := by
  unfold zipD
  rw [List.getElem?_zipWith, List.getElem?_eq_getElem h1, List.getElem?_eq_getElem h2]
theorem walks_zip {K : PySem.W.Frag} {b : Option Addr} {F : Hp} {a a' : Addr} {vs us : List V} {ds es : List D} (h : F a = some (.lst vs)) (r : RepL K b F vs ds) (h' : F a' = some (.lst us)) (r' : RepL K b F us es) : Walks K b F (Itz K a a') (zipD ds es) := fun S i F1 H x eK eb s c => by
  have ha : SqL K H a vs := sqL (c.sub _ _ (s _ _ h))
  have ha' : SqL K H a' us := sqL (c.sub _ _ (s _ _ h'))
  refine ⟨fun hi => ?_, fun hi => ⟨vs, us, ha, ha', by rw [r.length, r'.length]; rw [zipD_length] at hi; omega⟩⟩
  rw [zipD_length] at hi
  have h1 : i < ds.length := by omega
  have h2 : i < es.length := by omega
  obtain ⟨v0, e0, h0⟩ := r.get (List.getElem?_eq_getElem h1)
  obtain ⟨u0, e0', h0'⟩ := r'.get (List.getElem?_eq_getElem h2)
  refine ⟨⟨vs, us, v0, u0, ha, ha', e0, e0'⟩, fun v H' y => ?_⟩
  obtain ⟨T, u, w, rfl, n, rfl, y2, y3⟩ := y
  have e1 := y2 vs ha
  rw [e0] at e1
  cases e1
  have e2 := y3 us ha'
  rw [e0'] at e2
  cases e2
  exact ⟨upd F1 T (.tup [v0, u0]), _, c.alloc n, Same.new (c.nF n), KeepB.new n, Nw.new n, zip_get h1 h2, rep_pair (c.nF n) (h0.mono s) (h0'.mono s)⟩
theorem walks_zipT {K : PySem.W.Frag} {b : Option Addr} {F : Hp} {a a' : Addr} {vs us : List V} {ds es : List D} (h : TupAt K F a vs) (r : RepL K b F vs ds) (h' : TupAt K F a' us) (r' : RepL K b F us es) : Walks K b F (RZ.ItzT K a a') (zipD ds es) := fun S i F1 H x eK eb s c => by
  have ha : SqT K H a vs := sqTK rfl c.sub (h.mono s)
  have ha' : SqT K H a' us := sqTK rfl c.sub (h'.mono s)
  refine ⟨fun hi => ?_, fun hi => ⟨vs, us, ha, ha', by rw [r.length, r'.length]; rw [zipD_length] at hi; omega⟩⟩
  rw [zipD_length] at hi
  have h1 : i < ds.length := by omega
  have h2 : i < es.length := by omega
  obtain ⟨v0, e0, h0⟩ := r.get (List.getElem?_eq_getElem h1)
  obtain ⟨u0, e0', h0'⟩ := r'.get (List.getElem?_eq_getElem h2)
  refine ⟨⟨vs, us, v0, u0, ha, ha', e0, e0'⟩, fun v H' y => ?_⟩
  obtain ⟨T, u, w, rfl, n, rfl, y2, y3⟩ := y
  have e1 := y2 vs ha
  rw [e0] at e1
  cases e1
  have e2 := y3 us ha'
  rw [e0'] at e2
  cases e2
  exact ⟨upd F1 T (.tup [v0, u0]), _, c.alloc n, Same.new (c.nF n), KeepB.new n, Nw.new n, zip_get h1 h2, rep_pair (c.nF n) (h0.mono s) (h0'.mono s)⟩
section
variable {X : Cx} {W : WX} {tg : Expr}
theorem piI {e : Expr} {t t' : TI} (h : PI X tg e t) (k : ∀ σ H R, t' σ H R → t σ H R) : PI X tg e t' := ⟨fun pins s σ H R I q => h.run pins s σ H R I (k σ H R q)⟩
theorem piOr {e : Expr} {t t' : TI} (h : PI X tg e t) (h' : PI X tg e t') : PI X tg e (fun σ H R => t σ H R ∨ t' σ H R) := ⟨fun pins s σ H R I q => by
  rcases q with q | q
  · exact h.run pins s σ H R I q
  · exact h'.run pins s σ H R I q⟩
def itemsD : D → Option (List D)
  | .lst ds => some ds
  | .tup ds => some ds
  | .str s => some (signs s)
  | _ => none
def mIter (m : MM D) : MM (List D) := mBind m fun d => oB (itemsD d)
theorem j_iter {e : Expr} {m : MM D} (he : PE X e (rdE X.K W m)) : PI X tg e (rd rlI X.K W (mIter m)) :=
  piI (piOr (pi_list he) (piOr (pi_tup he) (pi_str he))) fun σ H R h => by
    obtain ⟨S, F, ρ, x, eK, rr, p⟩ := h
    have p : Post rlI S W σ F H ρ ((m ρ x).bind fun d x1 => oB (itemsD d) ρ x1) R := p
    cases e : m ρ x with
    | out =>
      rw [e] at p
      exact p.elim
    | exc c fs x1 =>
      refine .inl ⟨S, F, ρ, x, eK, rr, ?_⟩
      rw [e] at p ⊢
      exact p
    | val d x1 =>
      rw [e] at p
      cases d <;> try exact p.elim
      · rename_i s
        refine .inr (.inr ⟨S, F, ρ, x, eK, rr, ?_⟩)
        rw [e]
        intro v F' H' r1 s1 k1 h1
        cases h1
        exact ⟨s, rfl, p (Its s) F' H' r1 s1 k1 walks_str⟩
      · rename_i ds
        refine .inl ⟨S, F, ρ, x, eK, rr, ?_⟩
        rw [e]
        intro v F' H' r1 s1 k1 h1
        cases h1 with
        | @lst a vs _ h r => exact ⟨a, rfl, ⟨vs, sqL (r1.core.sub _ _ h)⟩, p (Itl X.K a) F' H' r1 s1 k1 (by rw [← eK]; exact walks_lst h r)⟩
      · rename_i ds
        refine .inr (.inl ⟨S, F, ρ, x, eK, rr, ?_⟩)
        rw [e]
        intro v F' H' r1 s1 k1 h1
        cases h1 with
        | @tup a vs _ h r => exact ⟨a, rfl, ⟨vs, sqTK eK r1.core.sub h⟩, p (Itt X.K a) F' H' r1 s1 k1 (by rw [← eK]; exact walks_tup h r)⟩
def gRng : List D → Option (List D)
  | [.int j] => if -(2 ^ 62) ≤ j ∧ j < 2 ^ 62 then some (rng 0 j.toNat) else none
  | _ => none
def gRng2 : List D → Option (List D)
  | [.int i, .int j] => if -(2 ^ 62) ≤ i ∧ i < 2 ^ 62 ∧ -(2 ^ 62) ≤ j ∧ j < 2 ^ 62 then some (rng i (j - i).toNat) else none
  | _ => none
theorem j_range1 {a : Expr} {ms : MM (List D)} {p pos : Pos} (hg : Gl X "range") (hm : X.mg "range" = none) (ha : PA X [a] (rdA X.K W ms)) (hs : starEach [a] X.env = [(false, eval a X.env)] := by rfl) : PI X tg (.Call (.Name "range" p) [a] [] pos) (rd rlI X.K W (mBind ms fun ds => oB (gRng ds))) :=
  piI (pi_range1 hg hm ha hs) fun σ H R h => rd_unL (rl := rlI) (r := fun vs H1 R => ∃ j : Int, vs = [.int j] ∧ -(2 ^ 62) ≤ j ∧ j < 2 ^ 62 ∧ R (Itr 0 j.toNat) H1) (fun S F H σ ρ x vs ds R eK r hv p => by
    unfold gRng at p
    split at p
    · obtain ⟨v, e, h⟩ := rep1 hv
      subst e
      cases h
      split at p
      · rename_i hz
        exact ⟨_, rfl, hz.1, hz.2, p _ F H r (Same.refl _) KeepB.refl walks_rng⟩
      · exact p.elim
    · exact p.elim) h
theorem j_range2 {a a2 : Expr} {ms : MM (List D)} {p pos : Pos} (hg : Gl X "range") (hm : X.mg "range" = none) (ha : PA X [a, a2] (rdA X.K W ms)) (hs : starEach [a, a2] X.env = [(false, eval a X.env), (false, eval a2 X.env)] := by rfl) (hs2 : starEach [a2] X.env = [(false, eval a2 X.env)] := by rfl) : PI X tg (.Call (.Name "range" p) [a, a2] [] pos) (rd rlI X.K W (mBind ms fun ds => oB (gRng2 ds))) :=
  piI (pi_range2 hg hm ha hs hs2) fun σ H R h => rd_unL (rl := rlI) (r := fun vs H1 R => ∃ i j : Int, vs = [.int i, .int j] ∧ (-(2 ^ 62) ≤ i ∧ i < 2 ^ 62 ∧ -(2 ^ 62) ≤ j ∧ j < 2 ^ 62) ∧ R (Itr i (j - i).toNat) H1) (fun S F H σ ρ x vs ds R eK r hv p => by
    unfold gRng2 at p
    split at p
    · obtain ⟨v, u, e, h, h2⟩ := rep2 hv
      subst e
      cases h
      cases h2
      split at p
      · rename_i hz
        exact ⟨_, _, rfl, hz, p _ F H r (Same.refl _) KeepB.refl walks_rng⟩
      · exact p.elim
    · exact p.elim) h
def gEnum : List D → Option (List D)
  | [.lst ds] => some (enumD ds)
  | _ => none
theorem j_enum {e : Expr} {ms : MM (List D)} {p pos tpos : Pos} {elts : List Expr} {kk : Nat} (hg : Gl X "enumerate") (hm : X.mg "enumerate" = none) (ha : PA X [e] (rdA X.K W ms)) (hs : starEach [e] X.env = [(false, eval e X.env)] := by rfl) :
    PI X (.Tuple elts kk tpos) (.Call (.Name "enumerate" p) [e] [] pos) (rd rlI X.K W (mBind ms fun ds => oB (gEnum ds))) :=
  piI (pi_enum hg hm ha hs) fun σ H R h => rd_unL (rl := rlI) (r := fun vs H1 R => ∃ a xs, vs = [.ref a] ∧ SqL X.K H1 a xs ∧ R (Ite X.K a) H1) (fun S F H σ ρ x vs ds R eK r hv p => by
    unfold gEnum at p
    split at p
    · obtain ⟨v, e, h⟩ := rep1 hv
      subst e
      cases h with
      | lst h r1 => exact ⟨_, _, rfl, sqL (r.core.sub _ _ h), p _ F H r (Same.refl _) KeepB.refl (by rw [← eK]; exact walks_enum h r1)⟩
    · exact p.elim) h
def gZip : List D → Option (List D)
  | [.lst ds, .lst es] => some (zipD ds es)
  | [.tup ds, .tup es] => some (zipD ds es)
  | _ => none
theorem j_zip {e e2 : Expr} {ms : MM (List D)} {p pos tpos : Pos} {elts : List Expr} {kk : Nat} (hg : Gl X "zip") (hm : X.mg "zip" = none) (ha : PA X [e, e2] (rdA X.K W ms)) (hs : starEach [e, e2] X.env = (false, eval e X.env) :: starEach [e2] X.env := by rfl) (hpl : (backTo pos (starEach [e2] X.env)).any (·.1) = false := by rfl) :
    PI X (.Tuple elts kk tpos) (.Call (.Name "zip" p) [e, e2] [] pos) (rd rlI X.K W (mBind ms fun ds => oB (gZip ds))) :=
  piI (RZ.pi_zipA hg hm ha hs hpl) fun σ H R h => rd_unL (rl := rlI) (r := fun vs H1 R => ∃ a b xs ys, vs = [.ref a, .ref b] ∧ ((SqL X.K H1 a xs ∧ SqL X.K H1 b ys ∧ R (Itz X.K a b) H1) ∨ (SqT X.K H1 a xs ∧ SqT X.K H1 b ys ∧ R (RZ.ItzT X.K a b) H1))) (fun S F H σ ρ x vs ds R eK r hv p => by
    unfold gZip at p
    split at p
    · obtain ⟨v, u, e, h, h2⟩ := rep2 hv
      subst e
      cases h with
      | lst h r1 =>
        cases h2 with
        | lst h' r2 => exact ⟨_, _, _, _, rfl, .inl ⟨sqL (r.core.sub _ _ h), sqL (r.core.sub _ _ h'), p _ F H r (Same.refl _) KeepB.refl (by rw [← eK]; exact walks_zip h r1 h' r2)⟩⟩
    · obtain ⟨v, u, e, h, h2⟩ := rep2 hv
      subst e
      cases h with
      | tup h r1 =>
        cases h2 with
        | tup h' r2 => exact ⟨_, _, _, _, rfl, .inr ⟨sqTK eK r.core.sub h, sqTK eK r.core.sub h', p _ F H r (Same.refl _) KeepB.refl (by rw [← eK]; exact walks_zipT h r1 h' r2)⟩⟩
    · exact p.elim) h
end
end Mi

/-! Mi7: targets, list comprehensions. -/
namespace Mi
open PySem PySem.Spec L2
/-! ### slots stored -/
theorem Rel.put {S : Cf} {F H : Hp} {σ : L2.St} {ρ : En} {x : Bx} {v : V} {d : D} (r : Rel S F H σ ρ x) (i : Nat) (h : Rep S.K S.b F v d) : Rel S F H (σ.set i (some v)) (ρ.set i (.fz d)) x where
  core := r.core
  len := by rw [List.length_set, List.length_set, r.len]
  slot := fun j s e => by
    by_cases hj : i = j
    · subst hj
      have hi : i < ρ.length := by
        have := (List.getElem?_eq_some_iff.mp e).1
        rwa [List.length_set] at this
      rw [List.getElem?_set_self hi] at e
      cases e
      exact ⟨some v, List.getElem?_set_self (by rw [← r.len]; exact hi), v, rfl, h⟩
    · rw [List.getElem?_set_ne hj] at e ⊢
      exact r.slot j s e
  dist := fun a b s t p hab ea eb os ot ha => by
    by_cases h1 : i = a
    · subst h1
      have hi : i < ρ.length := by
        have := (List.getElem?_eq_some_iff.mp ea).1
        rwa [List.length_set] at this
      rw [List.getElem?_set_self hi] at ea
      cases ea
      cases os
    · by_cases h2 : i = b
      · subst h2
        have hi : i < ρ.length := by
          have := (List.getElem?_eq_some_iff.mp eb).1
          rwa [List.length_set] at this
        rw [List.getElem?_set_self hi] at eb
        cases eb
        cases ot
      · rw [List.getElem?_set_ne h1] at ea ha
        rw [List.getElem?_set_ne h2] at eb ⊢
        exact r.dist a b s t p hab ea eb os ot ha
/-- a slot forgotten -/
theorem Rel.drop {S : Cf} {F H : Hp} {σ : L2.St} {ρ : En} {x : Bx} {v : Option V} (r : Rel S F H σ ρ x) (i : Nat) : Rel S F H (σ.set i v) (ρ.set i .un) x where
  core := r.core
  len := by rw [List.length_set, List.length_set, r.len]
  slot := fun j s e => by
    by_cases hj : i = j
    · subst hj
      have hi : i < ρ.length := by
        have := (List.getElem?_eq_some_iff.mp e).1
        rwa [List.length_set] at this
      rw [List.getElem?_set_self hi] at e
      cases e
      exact ⟨v, List.getElem?_set_self (by rw [← r.len]; exact hi), trivial⟩
    · rw [List.getElem?_set_ne hj] at e ⊢
      exact r.slot j s e
  dist := fun a b s t p hab ea eb os ot ha => by
    by_cases h1 : i = a
    · subst h1
      have hi : i < ρ.length := by
        have := (List.getElem?_eq_some_iff.mp ea).1
        rwa [List.length_set] at this
      rw [List.getElem?_set_self hi] at ea
      cases ea
      cases os
    · by_cases h2 : i = b
      · subst h2
        have hi : i < ρ.length := by
          have := (List.getElem?_eq_some_iff.mp eb).1
          rwa [List.length_set] at this
        rw [List.getElem?_set_self hi] at eb
        cases eb
        cases ot
      · rw [List.getElem?_set_ne h1] at ea ha
        rw [List.getElem?_set_ne h2] at eb ⊢
        exact r.dist a b s t p hab ea eb os ot ha

/-! ### targets -/
inductive Tg where
  | nm (i : Nat)
  | tp (is : List Nat)
def Tg.ixs : Tg → List Nat
  | .nm i => [i]
  | .tp is => is
def putE : List Nat → List D → En → En
  | i :: is, d :: ds, ρ => putE is ds (ρ.set i (.fz d))
  | _, _, ρ => ρ
def putV : List Nat → List V → L2.St → L2.St
  | i :: is, v :: vs, σ => putV is vs (σ.set i (some v))
  | _, _, σ => σ
def Tg.asg (t : Tg) (d : D) (ρ : En) : Option En := match t with
  | .nm i => some (ρ.set i (.fz d))
  | .tp is => match d with
    | .tup ds => if ds.length = is.length then some (putE is ds ρ) else none
    | .lst ds => if ds.length = is.length then some (putE is ds ρ) else none
    | _ => none
def gSeq : List Nat → TGs
  | [] => gNil
  | i :: is => gCons (gName i) (gSeq is)
def Tg.g (K : PySem.W.Frag) : Tg → TG
  | .nm i => gName i
  | .tp is => fun v σ H Q => gTup K is.length (gSeq is) v σ H Q ∨ gLst K is.length (gSeq is) v σ H Q
theorem gSeq_ok : ∀ (is : List Nat) (vs : List V) (σ : L2.St) (H : Hp) (Q : L2.St → Hp → Prop), vs.length = is.length → Q (putV is vs σ) H → gSeq is vs σ H Q
  | [], [], σ, H, Q, _, q => ⟨rfl, q⟩
  | i :: is, v :: vs, σ, H, Q, h, q => ⟨v, vs, rfl, gSeq_ok is vs _ H Q (by simpa using h) q⟩
  | [], _ :: _, _, _, _, h, _ => by simp at h
  | _ :: _, [], _, _, _, h, _ => by simp at h
theorem Rel.puts {S : Cf} {F H : Hp} {x : Bx} : ∀ (is : List Nat) {vs : List V} {ds : List D} {σ : L2.St} {ρ : En}, Rel S F H σ ρ x → RepL S.K S.b F vs ds → Rel S F H (putV is vs σ) (putE is ds ρ) x
  | [], _, _, _, _, r, _ => r
  | _ :: _, _, _, _, _, r, .nil => r
  | i :: is, _, _, _, _, r, .cons h t => Rel.puts is (r.put i h) t
/-- a target takes a value -/
theorem Tg.ok {S : Cf} {F H : Hp} {σ : L2.St} {ρ ρ' : En} {x : Bx} {v : V} {d : D} {Q : L2.St → Hp → Prop} (t : Tg) (r : Rel S F H σ ρ x) (h : Rep S.K S.b F v d) (e : t.asg d ρ = some ρ')
    (q : ∀ vs, Rel S F H (putV t.ixs vs σ) ρ' x → Q (putV t.ixs vs σ) H) : t.g S.K v σ H Q := by
  cases t with
  | nm i =>
    cases e
    exact q [v] (r.put i h)
  | tp is =>
    cases h <;> try (cases e; done)
    · rename_i a vs ds h r1
      replace e : (if ds.length = is.length then some (putE is ds ρ) else none) = some ρ' := e
      split at e
      · rename_i hl
        cases e
        exact .inr ⟨a, vs, rfl, sqL (r.core.sub _ _ h), by rw [r1.length, hl], gSeq_ok is vs σ H Q (by rw [r1.length, hl]) (q vs (r.puts is r1))⟩
      · cases e
    · rename_i a vs ds h r1
      replace e : (if ds.length = is.length then some (putE is ds ρ) else none) = some ρ' := e
      split at e
      · rename_i hl
        cases e
        exact .inl ⟨a, vs, rfl, sqTK rfl r.core.sub h, by rw [r1.length, hl], gSeq_ok is vs σ H Q (by rw [r1.length, hl]) (q vs (r.puts is r1))⟩
      · cases e
section
variable {X : Cx}
theorem pgOr {e : Expr} {t t' : TG} (h : PG X e t) (h' : PG X e t') : PG X e (fun v σ H Q => t v σ H Q ∨ t' v σ H Q) := ⟨fun pins s σ H v u Q I r q => by
  rcases q with q | q
  · exact h.run pins s σ H v u Q I r q
  · exact h'.run pins s σ H v u Q I r q⟩
theorem jg_nm (i : Nat) {y : Str} {pos : Pos} (hN : X.N.Nodup) (hi : X.N[i]? = some y := by rfl) (hx : Loc X.env.scope y := by first | exact Or.inl rfl | exact Or.inr rfl) (hf : X.fn y = true ∨ X.env.scope.names.lookup y = some .local := by first | exact .inl rfl | exact .inr rfl | assumption) : PG X (.Name y pos) ((Tg.nm i).g X.K) := pg_name hN hi hx hf
theorem jgs_nil : PGs X [] (gSeq []) := pgs_nil
theorem jgs_cons {e : Expr} {i : Nat} {es : List Expr} {is : List Nat} (h : PG X e (gName i)) (r : PGs X es (gSeq is)) (hs : List.map (fun x => x.snd) (assignEach (e :: es) X.env) = assign e X.env :: List.map (fun x => x.snd) (assignEach es X.env) := by rfl) : PGs X (e :: es) (gSeq (i :: is)) := pgs_cons h r hs
theorem jg_tp {es : List Expr} {is : List Nat} {k : Nat} {pos : Pos} (hc : X.calm = true) (h : PGs X es (gSeq is)) (hn : (assignEach es X.env).length = is.length := by rfl) (hst : (assignEach es X.env).findIdx? (·.1) = none := by rfl) : PG X (.Tuple es k pos) ((Tg.tp is).g X.K) :=
  pgOr (pg_tup hc h hn hst) (pg_lst hc h hn hst)
end
/-! ### wiped slots -/
def wipeE (ρ : En) : List Nat → En
  | [] => ρ
  | v :: vs => (wipeE ρ vs).set v .un
theorem Rel.wipe {S : Cf} {F H : Hp} {σ : L2.St} {ρ : En} {x : Bx} (r : Rel S F H σ ρ x) : ∀ vs, Rel S F H (wipe σ vs) (wipeE ρ vs) x
  | [] => r
  | v :: vs => (r.wipe vs).drop v
theorem set_none {σ : L2.St} {i : Nat} {v : Option V} (h : σ[i]? = some none ∨ σ.length ≤ i) : (σ.set i v).set i none = σ := by
  rw [List.set_set]
  rcases h with h | h
  · obtain ⟨h1, h2⟩ := List.getElem?_eq_some_iff.mp h
    conv => rhs; rw [← List.set_getElem_self h1]
    rw [h2]
  · exact List.set_eq_of_length_le h
theorem wipe_get {σ : L2.St} {i : Nat} : ∀ {vs : List Nat}, i ∈ vs → (L2.wipe σ vs)[i]? = some none ∨ (L2.wipe σ vs).length ≤ i
  | v :: vs, h => by
    unfold L2.wipe
    by_cases e : v = i
    · subst e
      by_cases hl : v < (L2.wipe σ vs).length
      · exact .inl (List.getElem?_set_self hl)
      · exact .inr (by rw [List.length_set]; omega)
    · have h2 : i ∈ vs := (List.mem_cons.mp h).resolve_left fun z => e z.symm
      rcases wipe_get (σ := σ) h2 with q | q
      · exact .inl (by rw [List.getElem?_set_ne e]; exact q)
      · exact .inr (by rw [List.length_set]; exact q)
theorem wipe_set {i : Nat} {v : Option V} : ∀ {vs : List Nat} {σ : L2.St}, i ∈ vs → L2.wipe (σ.set i v) vs = L2.wipe σ vs
  | w :: vs, σ, h => by
    unfold L2.wipe
    by_cases hi : i ∈ vs
    · rw [wipe_set hi]
    · have e : i = w := (List.mem_cons.mp h).resolve_right hi
      subst e
      have key : ∀ {us : List Nat}, i ∉ us → L2.wipe (σ.set i v) us = (L2.wipe σ us).set i v := by
        intro us
        induction us with
        | nil => intro _; rfl
        | cons u us ih =>
          intro hu
          have h1 : i ≠ u := fun z => hu (by rw [z]; exact List.mem_cons_self)
          have h2 : i ∉ us := fun z => hu (List.mem_cons_of_mem _ z)
          unfold L2.wipe
          rw [ih h2, List.set_comm _ _ h1]
      rw [key hi, List.set_set]
theorem wipe_wipe {σ : L2.St} : ∀ (vs us : List Nat), (∀ v ∈ us, v ∈ vs) → L2.wipe (L2.wipe σ us) vs = L2.wipe σ vs
  | vs, [], _ => rfl
  | vs, u :: us, h => by
    show L2.wipe ((L2.wipe σ us).set u none) vs = L2.wipe σ vs
    rw [wipe_set (h u List.mem_cons_self)]
    exact wipe_wipe vs us fun v hv => h v (List.mem_cons_of_mem _ hv)
theorem wipe_putV {vs : List Nat} : ∀ (is : List Nat) (us : List V) (σ : L2.St), (∀ i ∈ is, i ∈ vs) → L2.wipe (putV is us σ) vs = L2.wipe σ vs
  | [], _, _, _ => rfl
  | _ :: _, [], _, _ => rfl
  | i :: is, u :: us, σ, h => by
    show L2.wipe (putV is us (σ.set i (some u))) vs = L2.wipe σ vs
    rw [wipe_putV is us _ fun j hj => h j (List.mem_cons_of_mem _ hj), wipe_set (h i List.mem_cons_self)]

/-! ### list comprehensions -/
/-- owned slots are not seen from within -/
def shut : En → En := List.map fun s => match s with
  | .fz d => .fz d
  | _ => .un
theorem Rel.shut {S : Cf} {F H : Hp} {σ : L2.St} {ρ : En} {x : Bx} (r : Rel S F H σ ρ x) : Rel ⟨S.K, S.b, H, F⟩ F H σ (shut ρ) x where
  core := r.core.enter
  len := by
    unfold Mi.shut
    rw [List.length_map, r.len]
  slot := fun i s e => by
    unfold Mi.shut at e
    rw [List.getElem?_map] at e
    cases q : ρ[i]? with
    | none =>
      rw [q] at e
      cases e
    | some t =>
      rw [q] at e
      obtain ⟨v, e1, h⟩ := r.slot i t q
      refine ⟨v, e1, ?_⟩
      cases t with
      | fz d =>
        cases e
        exact h
      | un =>
        cases e
        trivial
      | ol ds =>
        cases e
        trivial
      | od ds =>
        cases e
        trivial
  dist := fun i j s t p _ ei _ os _ _ => by
    unfold Mi.shut at ei
    rw [List.getElem?_map] at ei
    cases q : ρ[i]? with
    | none =>
      rw [q] at ei
      cases ei
    | some t =>
      rw [q] at ei
      cases t <;> cases ei <;> cases os
def lcRun (tg : Tg) (cond : MM Bool) (elt : MM D) (ρ : En) : List D → List D → Bx → R (List D)
  | [], acc, x => .val acc x
  | d :: ds, acc, x => match tg.asg d ρ with
    | none => .out
    | some ρ1 => match cond ρ1 x with
      | .val true x1 => (match elt ρ1 x1 with
        | .val e x2 => if acc.length < big then lcRun tg cond elt ρ ds (acc ++ [e]) x2 else .out
        | _ => .out)
      | .val false x1 => lcRun tg cond elt ρ ds acc x1
      | _ => .out
def mLcL (mi : MM (List D)) (tg : Tg) (cond : MM Bool) (elt : MM D) (own : List Nat) : MM (List D) := fun ρ x => match mi ρ x with
  | .val ds x1 => lcRun tg cond elt (wipeE (shut ρ) own) ds [] x1
  | .exc c fs x1 => .exc c fs x1
  | .out => .out
def mLc (mi : MM (List D)) (tg : Tg) (cond : MM Bool) (elt : MM D) (own : List Nat) : MM D := mBind (mLcL mi tg cond elt own) fun ds => fun _ x => .val (.lst ds) x
abbrev Wf : WX := fun _ _ _ _ => False
section
variable {X : Cx} {W : WX}
def mYes : MM Bool := fun _ x => .val true x
theorem j_yes : PTs X [] (rdT X.K W mYes) := ⟨fun pins s σ H Q I h => pts_nil.run pins s σ H Q I (rd_valB h)⟩
theorem j_when {c : Expr} {m : MM Bool} (h : PT X c (rdT X.K W m)) : PTs X [c] (rdT X.K W m) := pts_one h
end
theorem Core.freeze {S : Cf} {F H : Hp} {x : Bx} (r : Core S F H x) {p : Addr} {o : HO} (h : H p = some o) (hf : F p = none) (nb : S.b ≠ some p) (n0 : S.H0 p = none) : Core S (upd F p o) H x where
  sub := fun q u e => by
    by_cases hq : q = p
    · subst hq
      rw [upd_same] at e
      rw [h, ← e]
    · rw [upd_ne hq] at e
      exact r.sub q u e
  f0 := r.f0.trans (Same.new hf)
  fresh := fun q h1 h2 => by
    have hq : q ≠ p := fun e => h1 (e ▸ n0)
    rw [upd_ne hq]
    exact r.fresh q h1 h2
  keep := r.keep
  box := fun a e => by
    have hq : a ≠ p := fun z => nb (z ▸ e)
    rw [upd_ne hq]
    exact r.box a e
theorem Core.write {S : Cf} {F H : Hp} {x : Bx} (r : Core S F H x) {p : Addr} {o : HO} (hf : F p = none) (nb : S.b ≠ some p) (n0 : S.H0 p = none) : Core S F (upd H p o) x where
  sub := fun q u e => by
    have hq : q ≠ p := fun z => by
      rw [z, hf] at e
      cases e
    rw [upd_ne hq]
    exact r.sub q u e
  f0 := r.f0
  fresh := r.fresh
  keep := fun q u e n => by
    have hq : q ≠ p := fun z => by
      rw [z, n0] at e
      cases e
    rw [upd_ne hq]
    exact r.keep q u e n
  box := fun a e => by
    have hq : a ≠ p := fun z => nb (z ▸ e)
    rw [upd_ne hq]
    exact r.box a e
def Pure (ρ : En) : Prop := ∀ (i : Nat) (s : Slot), ρ[i]? = some s → s = .un ∨ ∃ d, s = .fz d
theorem pure_shut (ρ : En) : Pure (shut ρ) := fun i s e => by
  unfold shut at e
  rw [List.getElem?_map] at e
  cases q : ρ[i]? with
  | none =>
    rw [q] at e
    cases e
  | some t =>
    rw [q] at e
    cases t <;> cases e
    · exact .inl rfl
    · exact .inr ⟨_, rfl⟩
    · exact .inl rfl
    · exact .inl rfl
theorem Pure.wipe {ρ : En} (h : Pure ρ) : ∀ vs, Pure (wipeE ρ vs)
  | [] => h
  | v :: vs => fun i s e => by
    have ih := Pure.wipe h vs
    unfold wipeE at e
    by_cases hj : v = i
    · subst hj
      have hi : v < (wipeE ρ vs).length := by
        have := (List.getElem?_eq_some_iff.mp e).1
        rwa [List.length_set] at this
      rw [List.getElem?_set_self hi] at e
      cases e
      exact .inl rfl
    · rw [List.getElem?_set_ne hj] at e
      exact ih i s e
theorem Rel.pure {S S2 : Cf} {F H F2 H2 : Hp} {σ : L2.St} {ρ : En} {x x2 : Bx} (r : Rel S F H σ ρ x) (hp : Pure ρ) (c : Core S2 F2 H2 x2) (s : Same F F2) (eK : S2.K = S.K) (eb : S2.b = S.b) : Rel S2 F2 H2 σ ρ x2 where
  core := c
  len := r.len
  slot := fun i t e => by
    obtain ⟨v, e1, h⟩ := r.slot i t e
    refine ⟨v, e1, ?_⟩
    rcases hp i t e with rfl | ⟨d, rfl⟩
    · trivial
    · obtain ⟨u, e2, q⟩ := h
      exact ⟨u, e2, by rw [eK, eb]; exact q.mono s⟩
  dist := fun i j t u p _ ei _ os _ _ => by
    rcases hp i t ei with rfl | ⟨d, rfl⟩ <;> cases os
section
variable {X : Cx} {W : WX}
theorem lc_go {K : PySem.W.Frag} {tg : Tg} {mc : MM Bool} {me : MM D} {vs : List Nat} (htg : ∀ i ∈ tg.ixs, i ∈ vs) {S : Cf} {σ : L2.St} {F1 H1 : Hp} {ρ : En} {x1 : Bx} {J : It} {ds : List D} {Q : VK} {P : R (List D) → Prop} (eK : S.K = K) (r1 : Rel S F1 H1 σ ρ x1) (w1 : Walks S.K S.b F1 J ds)
    (hP : ∀ r, P r → ∃ a x, r = .val a x) (p : P (lcRun tg mc me (wipeE (shut ρ) vs) ds [] x1)) (Dl : Addr) (hD : H1 Dl = none)
    (fin : ∀ acc x' F' H' us, P (.val acc x') → Core ⟨S.K, S.b, H1, F1⟩ F' H' x' → F' Dl = none → H' Dl = some (.lst us) → RepL S.K S.b F' us acc → Q (.ref Dl) H') :
    ∃ W : Nat → Nat → Hp → Prop, (∃ m, W 0 m (upd H1 Dl (.lst []))) ∧ ∀ i m H, W i m H → (J.stop i H ∧ Q (.ref Dl) H) ∨ (J.go i H ∧ ∃ Nx : Hp → Prop, (∀ H', Nx H' → ∃ m', m' < m ∧ W (i + 1) m' H') ∧ ∀ x H', J.yld i H x H' → tg.g K x (L2.wipe σ vs) H' fun σ2 H2 => L2.wipe σ2 vs = L2.wipe σ vs ∧ rdT K Wf mc σ2 H2 fun b H3 =>
      if b = true then rdE K Wf me σ2 H3 fun y H4 => ∃ acc, H4 Dl = some (.lst acc) ∧ acc.length < sizeLine ∧ Nx (upd H4 Dl (.lst (acc ++ [y]))) else Nx H3) := by
  have no1 : ¬ P .out := fun h => by
    obtain ⟨a, x, e⟩ := hP _ h
    cases e
  have rw0 : Rel ⟨S.K, S.b, H1, F1⟩ F1 H1 (L2.wipe σ vs) (wipeE (shut ρ) vs) x1 := r1.shut.wipe vs
  have pw : Pure (wipeE (shut ρ) vs) := (pure_shut ρ).wipe vs
  generalize hρ : wipeE (shut ρ) vs = ρw at p rw0 pw
  have nb : S.b ≠ some Dl := r1.core.ne_box hD
  refine ⟨fun i m H' => ∃ F' x' us acc, m = ds.length - i ∧ i ≤ ds.length ∧ Core ⟨S.K, S.b, H1, F1⟩ F' H' x' ∧ F' Dl = none ∧ H' Dl = some (.lst us) ∧ RepL S.K S.b F' us acc ∧ P (lcRun tg mc me ρw (ds.drop i) acc x'), ⟨ds.length, F1, x1, [], [], rfl, Nat.zero_le _, r1.core.enter.allocO hD, r1.core.nF hD, upd_same, .nil, p⟩, fun i m H' hW => ?_⟩
  obtain ⟨F', x', us, acc, rfl, hi, c', fD, hDl, ru, pp⟩ := hW
  obtain ⟨wa, wb⟩ := w1 ⟨S.K, S.b, H1, F1⟩ i F' H' x' rfl rfl c'.f0 c'
  by_cases hlt : i < ds.length
  · obtain ⟨hgo, hy⟩ := wa hlt
    refine .inr ⟨hgo, fun H'' => ∃ F' x' us acc, Core ⟨S.K, S.b, H1, F1⟩ F' H'' x' ∧ F' Dl = none ∧ H'' Dl = some (.lst us) ∧ RepL S.K S.b F' us acc ∧ P (lcRun tg mc me ρw (ds.drop (i + 1)) acc x'), fun H'' hN => ?_, fun v H'' y => ?_⟩
    · obtain ⟨F2, x2, us2, acc2, a1, a2, a3, a4, a5⟩ := hN
      exact ⟨ds.length - (i + 1), by omega, F2, x2, us2, acc2, rfl, hlt, a1, a2, a3, a4, a5⟩
    · obtain ⟨F2, d, c2, s2, k2, nw, ed, hv⟩ := hy v H'' y
      have f2 : F2 Dl = none := nw Dl (by rw [hDl]; intro z; cases z) fD nb
      have h2 : H'' Dl = some (.lst us) := k2 Dl _ hDl nb
      have edr : ds.drop i = d :: ds.drop (i + 1) := by
        obtain ⟨hl, e1⟩ := List.getElem?_eq_some_iff.mp ed
        rw [List.drop_eq_getElem_cons hl, e1]
      rw [edr] at pp
      unfold lcRun at pp
      cases ea : tg.asg d ρw with
      | none =>
        rw [ea] at pp
        exact (no1 pp).elim
      | some ρ1 =>
        rw [ea] at pp
        dsimp only at pp
        have re : Rel ⟨S.K, S.b, H'', F2⟩ F2 H'' (L2.wipe σ vs) ρw x' := rw0.pure pw c2.enter (c'.f0.trans s2) rfl rfl
        rw [← eK]
        refine Tg.ok (S := ⟨S.K, S.b, H'', F2⟩) tg re hv ea fun zs rz => ?_
        refine ⟨by rw [wipe_putV _ _ _ htg, wipe_wipe vs vs fun _ h => h], ?_⟩
        refine ⟨⟨S.K, S.b, H'', F2⟩, F2, ρ1, x', rfl, rz, ?_⟩
        cases e3 : mc ρ1 x' with
        | exc c fs x3 =>
          rw [e3] at pp
          exact (no1 pp).elim
        | out =>
          rw [e3] at pp
          exact (no1 pp).elim
        | val c x3 =>
          rw [e3] at pp
          intro b F3 H3 r3 s3 k3 hb
          have hb : b = c := hb
          subst hb
          cases b with
          | false =>
            refine (show ∃ F' x' us acc, Core ⟨S.K, S.b, H1, F1⟩ F' H3 x' ∧ F' Dl = none ∧ H3 Dl = some (.lst us) ∧ RepL S.K S.b F' us acc ∧ P (lcRun tg mc me ρw (ds.drop (i + 1)) acc x') from ?_)
            exact ⟨F3, x3, us, acc, c2.exit r3.core, r3.core.fresh Dl (by rw [show (⟨S.K, S.b, H'', F2⟩ : Cf).H0 Dl = H'' Dl from rfl, h2]; intro z; cases z) f2, k3 Dl _ h2 nb, ru.mono (s2.trans s3), pp⟩
          | true =>
            refine (show rdE S.K Wf me _ H3 _ from ?_)
            refine ⟨⟨S.K, S.b, H'', F2⟩, F3, ρ1, x3, rfl, r3, ?_⟩
            dsimp only at pp
            cases e4 : me ρ1 x3 with
            | exc c fs x3 =>
              rw [e4] at pp
              exact (no1 pp).elim
            | out =>
              rw [e4] at pp
              exact (no1 pp).elim
            | val d4 x4 =>
              rw [e4] at pp
              dsimp only at pp
              split at pp
              · rename_i hz
                intro v4 F4 H4 r4 s4 k4 h4
                have f4 : F4 Dl = none := r4.core.fresh Dl (by rw [show (⟨S.K, S.b, H'', F2⟩ : Cf).H0 Dl = H'' Dl from rfl, h2]; intro z; cases z) f2
                refine ⟨us, k4 Dl _ (k3 Dl _ h2 nb) nb, by rw [ru.length]; exact big_lt hz, F4, x4, us ++ [v4], acc ++ [d4], (c2.exit r4.core).write f4 nb hD, f4, upd_same, (ru.mono ((s2.trans s3).trans s4)).append (.cons h4 .nil), pp⟩
              · exact (no1 pp).elim
  · have ei : i = ds.length := by omega
    refine .inl ⟨wb (by omega), ?_⟩
    rw [ei, List.drop_length] at pp
    exact fin acc x' F' H' us pp c' fD hDl ru
theorem lcRun_exc (tg : Tg) (mc : MM Bool) (me : MM D) (ρ : En) : ∀ (ds acc : List D) (x : Bx) (c : Str) (fs : Fl) (x2 : Bx), lcRun tg mc me ρ ds acc x ≠ .exc c fs x2
  | [], _, _, _, _, _ => fun h => by
    unfold lcRun at h
    cases h
  | d :: ds, acc, x, c, fs, x2 => fun h => by
    unfold lcRun at h
    split at h
    · cases h
    · split at h
      · split at h
        · split at h
          · exact lcRun_exc tg mc me ρ ds _ _ c fs x2 h
          · cases h
        · cases h
      · exact lcRun_exc tg mc me ρ ds _ _ c fs x2 h
      · cases h
theorem rd_lc {K : PySem.W.Frag} {mi : MM (List D)} {tg : Tg} {mc : MM Bool} {me : MM D} {vs : List Nat} (htg : ∀ i ∈ tg.ixs, i ∈ vs) {σ : L2.St} {H : Hp} {Q : VK} (h : rdE K W (mLc mi tg mc me vs) σ H Q) : tLc (rd rlI K W mi) (tg.g K) (rdT K Wf mc) (rdE K Wf me) vs σ H Q := by
  obtain ⟨S, F, ρ, x, eK, rr, p⟩ := h
  refine (show rd rlI K W mi σ H _ from ?_)
  refine ⟨S, F, ρ, x, eK, rr, ?_⟩
  replace p : Post rlD S W σ F H ρ ((mLcL mi tg mc me vs ρ x).bind fun ds x => .val (.lst ds) x) Q := p
  unfold mLcL at p
  cases e : mi ρ x with
  | exc c fs x1 =>
    rw [e] at p
    exact p
  | out =>
    rw [e] at p
    exact p
  | val ds x1 =>
    rw [e] at p
    dsimp only at p
    intro J F1 H1 r1 s1 k1 w1 Dl hD
    cases e2 : lcRun tg mc me (wipeE (shut ρ) vs) ds [] x1 with
    | out =>
      rw [e2] at p
      exact p.elim
    | exc c fs x2 => exact (lcRun_exc _ _ _ _ _ _ _ _ _ _ e2).elim
    | val acc x2 =>
      rw [e2] at p
      refine lc_go (P := fun r => r = .val acc x2) htg eK r1 w1 (fun r h => ⟨_, _, h⟩) e2 Dl hD fun acc' x' F' H' us hp c' fD hDl ru => ?_
      cases hp
      have c3 : Core ⟨S.K, S.b, H1, F1⟩ (upd F' Dl (.lst us)) H' x2 := c'.freeze hDl fD (r1.core.ne_box hD) hD
      obtain ⟨a1, a2, a3⟩ := r1.back c3
      exact p (.ref Dl) _ H' a1 (s1.trans a2) (k1.trans a3) (.lst upd_same (ru.mono (Same.new fD)))
theorem j_lc {elt tgx iter : Expr} {ifs : List Expr} {scope : Scope} {own : List (Str × Nat)} {nl : List Nat} {pos : Pos} {mi : MM (List D)} {tg : Tg} {mc : MM Bool} {me : MM D} (hc : X.calm = true) (hN : X.N.Nodup) (hi : PI X tgx iter (rd rlI X.K W mi)) (ok : BlkOk X.N X.env.scope scope own)
    (hg : ∀ (s : Shared) (H : Hp) (C : Addr) (cl : List (Str × Addr)) (fp : List Addr), PG (X.blk s H scope (compEnvC scope cl C X.env) fp) tgx (tg.g X.K)) (ht : ∀ (s : Shared) (H : Hp) (C : Addr) (cl : List (Str × Addr)) (fp : List Addr), PTs (X.blk s H scope (compEnvC scope cl C X.env) fp) ifs (rdT X.K Wf mc))
    (he : ∀ (s : Shared) (H : Hp) (C : Addr) (cl : List (Str × Addr)) (fp : List Addr), PE (X.blk s H scope (compEnvC scope cl C X.env) fp) elt (rdE X.K Wf me)) (hnl : own.map (·.2) = nl := by rfl) (htg : ∀ i ∈ tg.ixs, i ∈ nl := by decide) (hs : ∀ x, foldedSetIterable iter X.env x = pure x := by intro _; rfl) :
    PE X (.ListComp elt [⟨tgx, iter, ifs, 0⟩] scope pos) (rdE X.K W (mLc mi tg mc me nl)) := by
  subst hnl
  exact peI (pe_lc hc hN hi ok hg ht he hs) fun σ H Q h => rd_lc htg h
end
end Mi

/-! Mi8: statements. -/
namespace Mi
open PySem PySem.Spec L2
inductive RS where
  | nx (ρ : En) (x : Bx)
  | brk (ρ : En) (x : Bx)
  | cnt (ρ : En) (x : Bx)
  | ret (d : D) (x : Bx)
  | retN (ds : List D) (x : Bx)
  | exc (c : Str) (fs : Fl) (ρ : En) (x : Bx)
  | out
abbrev MS := En → Bx → RS
def PostS (S : Cf) (W : WX) (r : RS) (D : Ends) : Prop := match r with
  | .nx ρ x => ∀ σ F H, Rel S F H σ ρ x → D.nx σ H
  | .brk ρ x => ∀ σ F H, Rel S F H σ ρ x → D.bk σ H
  | .cnt ρ x => ∀ σ F H, Rel S F H σ ρ x → D.ct σ H
  | .ret d x => ∀ v F H, Core S F H x → Rep S.K S.b F v d → D.rt v H
  | .retN ds x => ∀ p vs F H, Core S F H x → S.b ≠ some p → S.H0 p = none → F p = none → H p = some (.lst vs) → RepL S.K S.b F vs ds → D.rt (.ref p) H
  | .exc c fs ρ x => ∀ σ F H dd, Rel S F H σ ρ x → XdOk S F dd fs → W (.ref (He.ga S.K c)) dd σ H
  | .out => False
def rdS (K : PySem.W.Frag) (W : WX) (m : MS) : TS := fun D σ H => ∃ S F ρ x, S.K = K ∧ Rel S F H σ ρ x ∧ PostS S W (m ρ x) D
section
variable {X : Cx} {W : WX}
def mNext : MS := fun ρ x => .nx ρ x
def mSeq (m n : MS) : MS := fun ρ x => match m ρ x with
  | .nx ρ' x' => n ρ' x'
  | r => r
theorem js_nil : PSs X [] (rdS X.K W mNext) := pssI pss_nil fun D σ H ⟨S, F, ρ, x, eK, r, p⟩ => p σ F H r
theorem js_cons {st : Stmt} {rest : List Stmt} {m n : MS} (h1 : PS X st (rdS X.K W m)) (h2 : PSs X rest (rdS X.K W n)) : PSs X (st :: rest) (rdS X.K W (mSeq m n)) :=
  pssI (pss_cons h1 h2) fun D σ H ⟨S, F, ρ, x, eK, r, p⟩ => by
    refine ⟨S, F, ρ, x, eK, r, ?_⟩
    unfold mSeq at p
    cases e : m ρ x with
    | nx ρ' x' =>
      rw [e] at p
      exact fun σ' F' H' r' => ⟨S, F', ρ', x', eK, r', p⟩
    | brk ρ' x' =>
      rw [e] at p
      exact p
    | cnt ρ' x' =>
      rw [e] at p
      exact p
    | ret d x' =>
      rw [e] at p
      exact p
    | retN d x' =>
      rw [e] at p
      exact p
    | exc c fs ρ' x' =>
      rw [e] at p
      exact p
    | out =>
      rw [e] at p
      exact p
theorem js_one {st : Stmt} {m : MS} (h1 : PS X st (rdS X.K W m)) : PSs X [st] (rdS X.K W m) := pss_one h1
theorem js_pass {pos : Pos} : PS X (.Pass pos) (rdS X.K W mNext) := psI ps_pass fun D σ H ⟨S, F, ρ, x, eK, r, p⟩ => p σ F H r
theorem js_doc {x : Str} {j : Nat} {pos pos' : Pos} : PS X (.Expr (.Constant (.str x) j pos) pos') (rdS X.K W mNext) := psI ps_doc fun D σ H ⟨S, F, ρ, x, eK, r, p⟩ => p σ F H r
theorem js_break {pos : Pos} : PS X (.Break pos) (rdS X.K W fun ρ x => .brk ρ x) := psI ps_break fun D σ H ⟨S, F, ρ, x, eK, r, p⟩ => p σ F H r
theorem js_continue {pos : Pos} : PS X (.Continue pos) (rdS X.K W fun ρ x => .cnt ρ x) := psI ps_continue fun D σ H ⟨S, F, ρ, x, eK, r, p⟩ => p σ F H r

/-- an expression ahead of the rest of a statement -/
def mE {α : Type} (m : MM α) (k : α → MS) : MS := fun ρ x => match m ρ x with
  | .val d x1 => k d ρ x1
  | .exc c fs x1 => .exc c fs ρ x1
  | .out => .out
theorem rd_E {α β : Type} {rl : Rl α β} {K : PySem.W.Frag} {m : MM α} {k : α → MS} {D : Ends} {σ : L2.St} {H : Hp} {Q : β → Hp → Prop} (h : rdS K W (mE m k) D σ H)
    (q : ∀ S F H' ρ x v d, S.K = K → Rel S F H' σ ρ x → rl S F v d → PostS S W (k d ρ x) D → Q v H') : rd rl K W m σ H Q := by
  obtain ⟨S, F, ρ, x, eK, r, p⟩ := h
  refine ⟨S, F, ρ, x, eK, r, ?_⟩
  unfold mE at p
  cases e : m ρ x with
  | val d x1 =>
    rw [e] at p
    exact fun v F' H' r' _ _ hv => q S F' H' ρ x1 v d eK r' hv p
  | exc c fs x1 =>
    rw [e] at p
    exact fun F' H' dd r' _ _ hd => p σ F' H' dd r' hd
  | out =>
    rw [e] at p
    exact p
def mAsg (tg : Tg) (m : MM D) : MS := mE m fun d ρ x => match tg.asg d ρ with
  | some ρ' => .nx ρ' x
  | none => .out
theorem js_asg {tgx e : Expr} {pos : Pos} {tg : Tg} {m : MM D} (he : PE X e (rdE X.K W m)) (hg : PG X tgx (tg.g X.K)) (hs : swapsWithSole [tgx] e pos.line X.env = pure false := by rfl) (hw : swappedStores [tgx] e X.env = pure none := by rfl) (h1 : (assignEach [tgx] X.env).map (·.2) = [assign tgx X.env] := by rfl) : PS X (.Assign [tgx] e pos) (rdS X.K W (mAsg tg m)) :=
  psI (ps_asg he hg hs hw h1) fun D σ H h => rd_E (rl := rlD) h fun S F H' ρ x v d eK r hv p => by
    cases e : tg.asg d ρ with
    | none =>
      rw [e] at p
      exact p.elim
    | some ρ' =>
      rw [e] at p
      rw [← eK]
      exact Tg.ok tg r hv e fun vs r' => p _ _ _ r'
/-- y = [..] -/
theorem js_setLc {i : Nat} {y : Str} {py : Pos} {elt tgx iter : Expr} {ifs : List Expr} {scope : Scope} {own : List (Str × Nat)} {nl : List Nat} {pos spos : Pos} {mi : MM (List D)} {tg : Tg} {mc : MM Bool} {me : MM D} (hc : X.calm = true) (hN : X.N.Nodup) (hy : X.N[i]? = some y) (hyl : X.env.scope.names.lookup y = some .local)
    (hsw : swapsWith (.ListComp elt [⟨tgx, iter, ifs, 0⟩] scope pos) (some (.Name y py)) spos.line X.env = pure true) (hi : PI X tgx iter (rd rlI X.K W mi)) (ok : BlkOk X.N X.env.scope scope own)
    (hg : ∀ (s : Shared) (H : Hp) (C : Addr) (cl : List (Str × Addr)) (fp : List Addr), PG (X.blk s H scope (compEnvC scope cl C X.env) fp) tgx (tg.g X.K)) (ht : ∀ (s : Shared) (H : Hp) (C : Addr) (cl : List (Str × Addr)) (fp : List Addr), PTs (X.blk s H scope (compEnvC scope cl C X.env) fp) ifs (rdT X.K Wf mc))
    (he : ∀ (s : Shared) (H : Hp) (C : Addr) (cl : List (Str × Addr)) (fp : List Addr), PE (X.blk s H scope (compEnvC scope cl C X.env) fp) elt (rdE X.K Wf me)) (hnl : own.map (·.2) = nl := by rfl) (htg : ∀ i ∈ tg.ixs, i ∈ nl := by decide) (hs : ∀ x, foldedSetIterable iter X.env x = pure x := by intro _; rfl) :
    PS X (.Assign [.Name y py] (.ListComp elt [⟨tgx, iter, ifs, 0⟩] scope pos) spos) (rdS X.K W (mAsg (.nm i) (mLc mi tg mc me nl))) := by
  subst hnl
  exact psI (ps_setLc hc hN hy hyl hsw hi ok hg ht he hs) fun D σ H h => rd_lc htg (rd_E (rl := rlD) h fun S F H' ρ x v d eK r hv p => p _ _ _ (r.put i hv))
theorem js_expr {e : Expr} {pos : Pos} {m : MM D} (he : PE X e (rdE X.K W m)) (hs : swapsWith e none pos.line X.env = pure false := by rfl) : PS X (.Expr e pos) (rdS X.K W (mE m fun _ ρ x => .nx ρ x)) :=
  psI (ps_expr he hs) fun D σ H h => rd_E (rl := rlD) h fun S F H' ρ x v d eK r hv p => p _ _ _ r
def mRet (m : MM D) : MS := mE m fun d _ x => .ret d x
theorem js_ret {e : Expr} {pos : Pos} {m : MM D} (he : PE X e (rdE X.K W m)) : PS X (.Return (some e) pos) (rdS X.K W (mRet m)) :=
  psI (ps_ret he) fun D σ H h => rd_E (rl := rlD) h fun S F H' ρ x v d eK r hv p => p v F H' r.core hv
theorem js_retN {pos : Pos} : PS X (.Return none pos) (rdS X.K W fun _ x => .ret .non x) := psI ps_retN fun D σ H ⟨S, F, ρ, x, eK, r, p⟩ => p .non F H r.core .non
def mIfS (t : MM Bool) (m n : MS) : MS := mE t fun c => if c then m else n
theorem js_if {c : Expr} {a b : List Stmt} {pos : Pos} {t : MM Bool} {m n : MS} (hc : PT X c (rdT X.K W t)) (ha : PSs X a (rdS X.K W m)) (hb : PSs X b (rdS X.K W n)) : PS X (.If c a b pos) (rdS X.K W (mIfS t m n)) :=
  psI (ps_if hc ha hb) fun D σ H h => rd_E (rl := rlB) h fun S F H' ρ x v d eK r hv p => by
    have hv : v = d := hv
    subst hv
    cases v with
    | true => exact ⟨S, F, ρ, x, eK, r, p⟩
    | false => exact ⟨S, F, ρ, x, eK, r, p⟩
/-- a, b = e, f -/
def mPar (i j : Nat) (ms : MM (List D)) : MS := mE ms fun ds ρ x => match ds with
  | [d, e] => .nx ((ρ.set i (.fz d)).set j (.fz e)) x
  | _ => .out
theorem js_par {i j : Nat} {x y : Str} {a b : Expr} {ms : MM (List D)} {px py pt pos pt2 : Pos} {kt k2 : Nat} (hc : X.calm = true) (hN : X.N.Nodup) (hij : i ≠ j) (ha : PA X [a, b] (rdA X.K W ms)) (hi : X.N[i]? = some x := by rfl) (hj : X.N[j]? = some y := by rfl)
    (hx : X.env.scope.names.lookup x = some .local := by rfl) (hy : X.env.scope.names.lookup y = some .local := by rfl)
    (hw : swappedStores [.Tuple [.Name x px, .Name y py] kt pt] (.Tuple [a, b] k2 pt2) X.env = pure (some [x, y]) := by rfl) (hs : swapsWithSole [.Tuple [.Name x px, .Name y py] kt pt] (.Tuple [a, b] k2 pt2) pos.line X.env = pure false := by rfl) :
    PS X (.Assign [.Tuple [.Name x px, .Name y py] kt pt] (.Tuple [a, b] k2 pt2) pos) (rdS X.K W (mPar i j ms)) :=
  psI (ps_par hc hN hi hj hij hx hy ha hw hs) fun D σ H h => rd_E (rl := rlL) h fun S F H' ρ x vs ds eK r hv p => by
    have hv : RepL S.K S.b F vs ds := hv
    split at p
    · obtain ⟨v, u, e, h1, h2⟩ := rep2 hv
      exact ⟨v, u, e, p _ _ _ ((r.put i h1).put j h2)⟩
    · exact p.elim

/-! ### loops -/
theorem Rel.root {S : Cf} {F1 H1 : Hp} {x1 : Bx} (c : Core S F1 H1 x1) {F H : Hp} {σ : L2.St} {ρ : En} {x : Bx} (r : Rel ⟨S.K, S.b, S.H0, F1⟩ F H σ ρ x) : Rel S F H σ ρ x where
  core := ⟨r.core.sub, c.f0.trans r.core.f0, fun p h1 h2 => r.core.fresh p h1 (c.fresh p h1 h2), r.core.keep, r.core.box⟩
  len := r.len
  slot := fun i s e => let ⟨v, e1, h⟩ := r.slot i s e; ⟨v, e1, by cases s <;> exact h⟩
  dist := r.dist
theorem Rel.rooted {S : Cf} {F H : Hp} {σ : L2.St} {ρ : En} {x : Bx} (r : Rel S F H σ ρ x) : Rel ⟨S.K, S.b, S.H0, F⟩ F H σ ρ x where
  core := ⟨r.core.sub, Same.refl F, fun _ _ h => h, r.core.keep, r.core.box⟩
  len := r.len
  slot := fun i s e => let ⟨v, e1, h⟩ := r.slot i s e; ⟨v, e1, by cases s <;> exact h⟩
  dist := r.dist
theorem PostS.root {S : Cf} {F1 H1 : Hp} {x1 : Bx} (c : Core S F1 H1 x1) {r : RS} {D : Ends} (p : PostS S W r D) : PostS ⟨S.K, S.b, S.H0, F1⟩ W r D := by
  cases r with
  | nx ρ x => exact fun σ F H r => p σ F H (r.root c)
  | brk ρ x => exact fun σ F H r => p σ F H (r.root c)
  | cnt ρ x => exact fun σ F H r => p σ F H (r.root c)
  | ret d x => exact fun v F H r h => p v F H ⟨r.sub, c.f0.trans r.f0, fun q h1 h2 => r.fresh q h1 (c.fresh q h1 h2), r.keep, r.box⟩ h
  | retN ds x => exact fun q vs F H r a1 a2 => p q vs F H ⟨r.sub, c.f0.trans r.f0, fun q h1 h2 => r.fresh q h1 (c.fresh q h1 h2), r.keep, r.box⟩ a1 a2
  | exc e fs ρ x => exact fun σ F H dd r h => p σ F H dd (r.root c) h
  | out => exact p
def loopS (tg : Tg) (mb : MS) : List D → MS
  | [], ρ, x => .nx ρ x
  | d :: ds, ρ, x => match tg.asg d ρ with
    | none => .out
    | some ρ1 => match mb ρ1 x with
      | .nx ρ2 x2 => loopS tg mb ds ρ2 x2
      | .cnt ρ2 x2 => loopS tg mb ds ρ2 x2
      | .brk ρ2 x2 => .nx ρ2 x2
      | r => r
def mFor (mi : MM (List D)) (tg : Tg) (mb : MS) : MS := mE mi fun ds => loopS tg mb ds
theorem js_for {tgx iter : Expr} {body : List Stmt} {pos : Pos} {mi : MM (List D)} {tg : Tg} {mb : MS} (hp : PassesOwn (model X.prog X.w) X.A X.env X.xe) (hc : X.calm = true) (hi : PI X tgx iter (rd rlI X.K W mi)) (hg : PG X tgx (tg.g X.K)) (hb : PSs X body (rdS X.K W mb)) (hs : ∀ x, foldedSetIterable iter X.env x = pure x := by intro _; rfl) :
    PS X (.For tgx iter body [] pos) (rdS X.K W (mFor mi tg mb)) :=
  psI (ps_for hp hc hi hg hb hs) fun D σ H h => by
    refine (show rd rlI X.K W mi σ H _ from rd_E (rl := rlI) h fun S F1 H1 ρ x J ds eK r1 w1 p => ?_)
    have w1 : Walks S.K S.b F1 J ds := w1
    refine ⟨fun i m σ H => ∃ F ρ x, m = ds.length - i ∧ i ≤ ds.length ∧ Rel ⟨S.K, S.b, S.H0, F1⟩ F H σ ρ x ∧ PostS ⟨S.K, S.b, S.H0, F1⟩ W (loopS tg mb (ds.drop i) ρ x) D, ⟨ds.length, F1, ρ, x, rfl, Nat.zero_le _, r1.rooted, p.root r1.core⟩, fun i m σ' H' hW => ?_⟩
    obtain ⟨F', ρ', x', rfl, hi, r', pp⟩ := hW
    obtain ⟨wa, wb⟩ := w1 ⟨S.K, S.b, S.H0, F1⟩ i F' H' x' rfl rfl r'.core.f0 r'.core
    by_cases hlt : i < ds.length
    · obtain ⟨hgo, hy⟩ := wa hlt
      refine .inr ⟨hgo, fun σ'' H'' => ∃ F ρ x, Rel ⟨S.K, S.b, S.H0, F1⟩ F H'' σ'' ρ x ∧ PostS ⟨S.K, S.b, S.H0, F1⟩ W (loopS tg mb (ds.drop (i + 1)) ρ x) D, fun σ'' H'' hN => ?_, fun v H'' y => ?_⟩
      · obtain ⟨F2, ρ2, x2, a1, a2⟩ := hN
        exact ⟨ds.length - (i + 1), by omega, F2, ρ2, x2, rfl, hlt, a1, a2⟩
      · obtain ⟨F2, d, c2, s2, k2, nw, ed, hv⟩ := hy v H'' y
        have edr : ds.drop i = d :: ds.drop (i + 1) := by
          obtain ⟨hl, e1⟩ := List.getElem?_eq_some_iff.mp ed
          rw [List.drop_eq_getElem_cons hl, e1]
        rw [edr] at pp
        unfold loopS at pp
        have r2 : Rel ⟨S.K, S.b, S.H0, F1⟩ F2 H'' σ' ρ' x' := r'.go c2 s2 k2 nw
        cases ea : tg.asg d ρ' with
        | none =>
          rw [ea] at pp
          exact pp.elim
        | some ρ1 =>
          rw [ea] at pp
          dsimp only at pp
          rw [← eK]
          refine Tg.ok (S := ⟨S.K, S.b, S.H0, F1⟩) tg r2 hv ea fun zs rz => ?_
          refine ⟨⟨S.K, S.b, S.H0, F1⟩, F2, ρ1, x', rfl, rz, ?_⟩
          cases e3 : mb ρ1 x' with
          | nx ρ3 x3 =>
            rw [e3] at pp
            exact fun σ3 F3 H3 r3 => ⟨F3, ρ3, x3, r3, pp⟩
          | cnt ρ3 x3 =>
            rw [e3] at pp
            exact fun σ3 F3 H3 r3 => ⟨F3, ρ3, x3, r3, pp⟩
          | brk ρ3 x3 =>
            rw [e3] at pp
            exact fun σ3 F3 H3 r3 => pp σ3 F3 H3 r3
          | ret d3 x3 =>
            rw [e3] at pp
            exact pp
          | retN d3 x3 =>
            rw [e3] at pp
            exact pp
          | exc c3 f3 ρ3 x3 =>
            rw [e3] at pp
            exact pp
          | out =>
            rw [e3] at pp
            exact pp
    · have ei : i = ds.length := by omega
      refine .inl ⟨wb (by omega), ?_⟩
      rw [ei, List.drop_length] at pp
      exact pp σ' F' H' r'
end

/-! ### owned lists -/
def frz : En → En := List.map fun s => match s with
  | .ol ds => .fz (.lst ds)
  | .od ds => .fz (.dct ds)
  | s => s
end Mi

/-! Mi9: owned lists and dicts, borrowed and frozen ones, the box. -/
namespace Mi
open PySem PySem.Spec L2
/-! ### a new list that is nobody's yet -/
structure NewL (S : Cf) (F H : Hp) (σ : L2.St) (ρ : En) (p : Addr) (ds : List D) : Prop where
  nb : S.b ≠ some p
  n0 : S.H0 p = none
  nF : F p = none
  hH : ∃ vs, H p = some (.lst vs) ∧ RepL S.K S.b F vs ds
  nown : ∀ (i : Nat) (s : Slot), ρ[i]? = some s → s.own = true → σ[i]? ≠ some (some (.ref p))
theorem Rel.own_there {S : Cf} {F H : Hp} {σ : L2.St} {ρ : En} {x : Bx} (r : Rel S F H σ ρ x) {i : Nat} {s : Slot} {p : Addr} (e : ρ[i]? = some s) (o : s.own = true) (h : σ[i]? = some (some (.ref p))) : H p ≠ none := by
  obtain ⟨v, e1, hs⟩ := r.slot i s e
  rw [h] at e1
  cases e1
  cases s with
  | un => cases o
  | fz d => cases o
  | ol ds =>
    obtain ⟨q, vs, e2, _, _, _, hh, _⟩ := hs
    cases e2
    rw [hh]
    intro z
    cases z
  | od ds =>
    obtain ⟨q, vs, e2, _, _, _, hh, _⟩ := hs
    cases e2
    rw [hh]
    intro z
    cases z
theorem newL_of {S : Cf} {F H : Hp} {σ : L2.St} {ρ : En} {x : Bx} {p : Addr} {vs : List V} {ds : List D} (r : Rel S F H σ ρ x) (h : H p = none) (q : RepL S.K S.b F vs ds) : NewL S F (upd H p (.lst vs)) σ ρ p ds where
  nb := r.core.ne_box h
  n0 := r.core.n0 h
  nF := r.core.nF h
  hH := ⟨vs, upd_same, q⟩
  nown := fun i s e o z => r.own_there e o z h
def PostN (S : Cf) (W : WX) (σ : L2.St) (F H : Hp) (ρ : En) (r : R (List D)) (Q : VK) : Prop := match r with
  | .val ds x' => ∀ p F' H', Rel S F' H' σ ρ x' → NewL S F' H' σ ρ p ds → Same F F' → KeepB S.b H H' → H p = none → Q (.ref p) H'
  | .exc c fs x' => ∀ F' H' dd, Rel S F' H' σ ρ x' → Same F F' → KeepB S.b H H' → XdOk S F' dd fs → W (.ref (He.ga S.K c)) dd σ H'
  | .out => False
def rdN (K : PySem.W.Frag) (W : WX) (m : MM (List D)) : TE := fun σ H Q => ∃ S F ρ x, S.K = K ∧ Rel S F H σ ρ x ∧ PostN S W σ F H ρ (m ρ x) Q
theorem PostN.mono {S : Cf} {W : WX} {σ : L2.St} {F H F1 H1 : Hp} {ρ : En} {r : R (List D)} {Q : VK} (s : Same F F1) (k : KeepB S.b H H1) (h : PostN S W σ F H ρ r Q) : PostN S W σ F1 H1 ρ r Q := by
  cases r with
  | val a x' => exact fun p F' H' a1 a2 a3 a4 a5 => h p F' H' a1 a2 (s.trans a3) (k.trans a4) (by
      cases e : H p with
      | none => rfl
      | some o =>
        rw [k p o e a2.nb] at a5
        cases a5)
  | exc c fs x' => exact fun F' H' dd a1 a2 a3 a4 => h F' H' dd a1 (s.trans a2) (k.trans a3) a4
  | out => exact h
section
variable {X : Cx} {W : WX}
/-- from a reading of values ahead -/
theorem rd_toN {α : Type} {rl : Rl α (List V)} {K : PySem.W.Frag} {m : MM α} {g : α → MM (List D)} {σ : L2.St} {H : Hp} {Q : VK} {Q' : List V → Hp → Prop} (h : rdN K W (mBind m g) σ H Q)
    (k : ∀ S F H' ρ x vs a, S.K = K → Rel S F H' σ ρ x → rl S F vs a → PostN S W σ F H' ρ (g a ρ x) Q → Q' vs H') : rd rl K W m σ H Q' := by
  obtain ⟨S, F, ρ, x, eK, r, p⟩ := h
  refine ⟨S, F, ρ, x, eK, r, ?_⟩
  replace p : PostN S W σ F H ρ ((m ρ x).bind fun a x1 => g a ρ x1) Q := p
  cases e : m ρ x with
  | out =>
    rw [e] at p
    exact p.elim
  | exc c fs x1 =>
    rw [e] at p
    exact p
  | val a x1 =>
    rw [e] at p
    exact fun v F' H' a1 a2 a3 a4 => k S F' H' ρ x1 v a eK a1 a4 (p.mono a2 a3)
def mLstN (ms : MM (List D)) : MM (List D) := mBind ms fun ds => fun _ x => if ds.length ≤ big then .val ds x else .out
theorem jn_lst {es : List Expr} {pos : Pos} {ms : MM (List D)} (h : PA X es (rdA X.K W ms)) : PE X (.List es pos) (rdN X.K W (mLstN ms)) :=
  peI (pe_lst h) fun σ H Q q => rd_toN (rl := rlL) q fun S F H' ρ x vs a eK r hv p => by
    split at p
    · rename_i hz
      have hl : RepL S.K S.b F vs a := hv
      exact ⟨by rw [hl.length]; exact big_le hz, fun q n => p q F _ (r.allocO n) (newL_of r n hl) (Same.refl F) (KeepB.new n) n⟩
    · exact p.elim
def gListN : List D → Option (List D)
  | [.lst ds] => some ds
  | [.tup ds] => some ds
  | _ => none
theorem jn_list {y : Str} {p pos : Pos} {e : Expr} {es : List Expr} {ms : MM (List D)} (hg : Gl X y) (hm : X.mg y = none) (hv : bootBuiltins y = some (.type "list")) (ha : PA X (e :: es) (rdA X.K W ms)) (hn : y ≠ "__name__" := by decide) (hdb : (y == ("__debug__" : Str)) = false := by decide)
    (he : starEach (e :: es) X.env = (false, eval e X.env) :: starEach es X.env := by rfl) (hpl : (backTo pos (starEach es X.env)).any (·.1) = false := by rfl) : PE X (.Call (.Name y p) (e :: es) [] pos) (rdN X.K W (mBind ms fun ds => oB (gListN ds))) :=
  peI (pe_callTy call_list_of hg hm hv ha hn hdb he hpl) fun σ H Q q => rd_toN (rl := rlL) q fun S F H' ρ x vs a eK r hv p => by
    unfold gListN at p
    split at p
    · obtain ⟨v, e, h⟩ := rep1 hv
      subst e
      cases h with
      | lst h r1 => exact ⟨_, _, rfl, .inl (sqL (r.core.sub _ _ h)), fun l n => p l F _ (r.allocO n) (newL_of r n r1) (Same.refl F) (KeepB.new n) n⟩
    · obtain ⟨v, e, h⟩ := rep1 hv
      subst e
      cases h with
      | tup h r1 => exact ⟨_, _, rfl, .inr (sqTK eK r.core.sub h), fun l n => p l F _ (r.allocO n) (newL_of r n r1) (Same.refl F) (KeepB.new n) n⟩
    · exact p.elim
def mSplitN (m : MM D) (ms : MM (List D)) : MM (List D) := mBind m fun d => match isS d with
  | some s => mBind ms fun as => oB (match as with
    | [.str z] => if (z.length == 0) = false ∧ s.length + 2 ≤ big then some ((Txt.split s z).map .str) else none
    | _ => none)
  | none => fun _ _ => .out
theorem rd_toN1 {K : PySem.W.Frag} {m : MM D} {g : D → MM (List D)} {σ : L2.St} {H : Hp} {Q : VK} {Q' : V → Hp → Prop} (h : rdN K W (mBind m g) σ H Q)
    (k : ∀ S F H' ρ x v a, S.K = K → Rel S F H' σ ρ x → Rep S.K S.b F v a → PostN S W σ F H' ρ (g a ρ x) Q → Q' v H') : rdE K W m σ H Q' := by
  obtain ⟨S, F, ρ, x, eK, r, p⟩ := h
  refine ⟨S, F, ρ, x, eK, r, ?_⟩
  replace p : PostN S W σ F H ρ ((m ρ x).bind fun a x1 => g a ρ x1) Q := p
  cases e : m ρ x with
  | out =>
    rw [e] at p
    exact p.elim
  | exc c fs x1 =>
    rw [e] at p
    exact p
  | val a x1 =>
    rw [e] at p
    exact fun v F' H' a1 a2 a3 a4 => k S F' H' ρ x1 v a eK a1 a4 (p.mono a2 a3)
theorem jn_split {apos cpos : Pos} {o e : Expr} {m : MM D} {ms : MM (List D)} (ho : PE X o (rdE X.K W m)) (ha : PA X [e] (rdA X.K W ms))
    (hbase : attributeBase o "split" X.env (eval o X.env) = eval o X.env := by rfl) (hfew : ((backTo cpos (starEach [e] X.env)).all (fun x => !x.1) && (backToKw cpos (keywordEach [] X.env)).all (fun x => x.1.isSome)
      && decide ([e].length + ([] : List Keyword).length + (if ([] : List Keyword).isEmpty then 0 else 1) < 30)) = true := by rfl) (hline : (apos.endLine == cpos.line) = true := by rfl) (hs : starEach [e] X.env = (false, eval e X.env) :: starEach [] X.env := by rfl) (hplain : (backTo cpos (starEach [] X.env)).any (·.1) = false := by rfl) :
    PE X (.Call (.Attribute o "split" apos) [e] [] cpos) (rdN X.K W (mSplitN m ms)) :=
  peI (pe_bm PySem.F.plainAttrs_str PySem.F.slot_str_split PySem.F.type_str_split mt_split ho ha hbase hfew hline hs hplain) fun σ H Q q => rd_toN1 q fun S F H' ρ x v a eK r hv p => by
    cases hv <;> try exact p.elim
    rename_i s
    refine ⟨rfl, ?_⟩
    have q2 : rdN X.K W (mBind ms fun as => oB (match as with
      | [.str z] => if (z.length == 0) = false ∧ s.length + 2 ≤ big then some ((Txt.split s z).map .str) else none
      | _ => none)) σ H' Q := ⟨S, F, ρ, x, eK, r, p⟩
    refine rd_toN (rl := rlL) q2 fun S F H' ρ x vs a eK r hv p => ?_
    split at p
    · obtain ⟨v, e, h⟩ := rep1 hv
      subst e
      cases h
      split at p
      · rename_i hz
        exact ⟨_, _, rfl, rfl, hz.1, big_le hz.2, fun l n => p l F _ (r.allocO n) (newL_of r n (repL_strs _)) (Same.refl F) (KeepB.new n) n⟩
      · exact p.elim
    · exact p.elim
theorem rd_lcN {K : PySem.W.Frag} {mi : MM (List D)} {tg : Tg} {mc : MM Bool} {me : MM D} {vs : List Nat} (htg : ∀ i ∈ tg.ixs, i ∈ vs) {σ : L2.St} {H : Hp} {Q : VK} (h : rdN K W (mLcL mi tg mc me vs) σ H Q) : tLc (rd rlI K W mi) (tg.g K) (rdT K Wf mc) (rdE K Wf me) vs σ H Q := by
  obtain ⟨S, F, ρ, x, eK, rr, p⟩ := h
  refine (show rd rlI K W mi σ H _ from ?_)
  refine ⟨S, F, ρ, x, eK, rr, ?_⟩
  unfold mLcL at p
  cases e : mi ρ x with
  | exc c fs x1 =>
    rw [e] at p
    exact p
  | out =>
    rw [e] at p
    exact p
  | val ds x1 =>
    rw [e] at p
    dsimp only at p
    intro J F1 H1 r1 s1 k1 w1 Dl hD
    cases e2 : lcRun tg mc me (wipeE (shut ρ) vs) ds [] x1 with
    | out =>
      rw [e2] at p
      exact p.elim
    | exc c fs x2 => exact (lcRun_exc _ _ _ _ _ _ _ _ _ _ e2).elim
    | val acc x2 =>
      rw [e2] at p
      refine lc_go (P := fun r => r = .val acc x2) htg eK r1 w1 (fun r h => ⟨_, _, h⟩) e2 Dl hD fun acc' x' F' H' us hp c' fD hDl ru => ?_
      cases hp
      obtain ⟨a1, a2, a3⟩ := r1.back c'
      exact p Dl F' H' a1 ⟨r1.core.ne_box hD, r1.core.n0 hD, fD, ⟨us, hDl, ru⟩, fun i s e o z => r1.own_there e o z hD⟩ (s1.trans a2) (k1.trans a3) (by
        cases e : H Dl with
        | none => rfl
        | some o =>
          rw [k1 Dl o e (r1.core.ne_box hD)] at hD
          cases hD)

/-! ### owned slots -/
theorem Rel.getO {S : Cf} {F H : Hp} {σ : L2.St} {ρ : En} {x : Bx} (r : Rel S F H σ ρ x) {i : Nat} {ds : List D} (e : ρ[i]? = some (.ol ds)) : ∃ p vs, σ[i]? = some (some (.ref p)) ∧ S.b ≠ some p ∧ S.H0 p = none ∧ F p = none ∧ H p = some (.lst vs) ∧ RepL S.K S.b F vs ds := by
  obtain ⟨v, e1, p, vs, e2, h⟩ := r.slot i _ e
  subst e2
  exact ⟨p, vs, e1, h⟩
theorem Rel.own {S : Cf} {F H : Hp} {σ : L2.St} {ρ : En} {x : Bx} {p : Addr} {ds : List D} (r : Rel S F H σ ρ x) (n : NewL S F H σ ρ p ds) (i : Nat) : Rel S F H (σ.set i (some (.ref p))) (ρ.set i (.ol ds)) x where
  core := r.core
  len := by rw [List.length_set, List.length_set, r.len]
  slot := fun j s e => by
    by_cases hj : i = j
    · subst hj
      have hi : i < ρ.length := by
        have := (List.getElem?_eq_some_iff.mp e).1
        rwa [List.length_set] at this
      rw [List.getElem?_set_self hi] at e
      cases e
      obtain ⟨vs, h1, h2⟩ := n.hH
      exact ⟨_, List.getElem?_set_self (by rw [← r.len]; exact hi), p, vs, rfl, n.nb, n.n0, n.nF, h1, h2⟩
    · rw [List.getElem?_set_ne hj] at e ⊢
      exact r.slot j s e
  dist := fun a b s t q hab ea eb os ot ha => by
    by_cases h1 : i = a
    · subst h1
      have hi : i < ρ.length := by
        have := (List.getElem?_eq_some_iff.mp ea).1
        rwa [List.length_set] at this
      rw [List.getElem?_set_self (by rw [← r.len]; exact hi)] at ha
      cases ha
      rw [List.getElem?_set_ne hab] at eb ⊢
      exact n.nown b t eb ot
    · by_cases h2 : i = b
      · subst h2
        have hi : i < ρ.length := by
          have := (List.getElem?_eq_some_iff.mp eb).1
          rwa [List.length_set] at this
        rw [List.getElem?_set_ne h1] at ea ha
        rw [List.getElem?_set_self (by rw [← r.len]; exact hi)]
        intro z
        cases z
        exact n.nown a s ea os ha
      · rw [List.getElem?_set_ne h1] at ea ha
        rw [List.getElem?_set_ne h2] at eb ⊢
        exact r.dist a b s t q hab ea eb os ot ha
/-- an owned list is changed -/
theorem Rel.updO {S : Cf} {F H : Hp} {σ : L2.St} {ρ : En} {x : Bx} (r : Rel S F H σ ρ x) {i : Nat} {ds ds' : List D} {p : Addr} {vs' : List V} (e : ρ[i]? = some (.ol ds)) (ep : σ[i]? = some (some (.ref p))) (h : RepL S.K S.b F vs' ds') : Rel S F (upd H p (.lst vs')) σ (ρ.set i (.ol ds')) x := by
  obtain ⟨p', vs, e1, nb, n0, nF, hH, hr⟩ := r.getO e
  rw [ep] at e1
  cases e1
  have hi : i < ρ.length := (List.getElem?_eq_some_iff.mp e).1
  refine ⟨r.core.write nF nb n0, by rw [List.length_set, r.len], fun j s ej => ?_, fun a b s t q hab ea eb os ot ha => ?_⟩
  · by_cases hj : i = j
    · subst hj
      rw [List.getElem?_set_self hi] at ej
      cases ej
      exact ⟨_, ep, p, vs', rfl, nb, n0, nF, upd_same, h⟩
    · rw [List.getElem?_set_ne hj] at ej
      obtain ⟨v, e2, hs⟩ := r.slot j s ej
      refine ⟨v, e2, ?_⟩
      cases s with
      | un => trivial
      | fz d => exact hs
      | ol ds =>
        obtain ⟨q, us, e3, b1, b2, b3, b4, b5⟩ := hs
        subst e3
        have hq : q ≠ p := fun z => r.dist i j _ _ p hj e ej rfl rfl ep (by rw [e2, z])
        exact ⟨q, us, rfl, b1, b2, b3, by rw [upd_ne hq]; exact b4, b5⟩
      | od ds =>
        obtain ⟨q, us, e3, b1, b2, b3, b4, b5⟩ := hs
        subst e3
        have hq : q ≠ p := fun z => r.dist i j _ _ p hj e ej rfl rfl ep (by rw [e2, z])
        exact ⟨q, us, rfl, b1, b2, b3, by rw [upd_ne hq]; exact b4, b5⟩
  · have key : ∀ (c : Nat) (u : Slot), (ρ.set i (.ol ds'))[c]? = some u → u.own = true → ∃ u', ρ[c]? = some u' ∧ u'.own = true := fun c u ec oc => by
      by_cases hc : i = c
      · subst hc
        exact ⟨_, e, rfl⟩
      · rw [List.getElem?_set_ne hc] at ec
        exact ⟨u, ec, oc⟩
    obtain ⟨s', es, os'⟩ := key a s ea os
    obtain ⟨t', et, ot'⟩ := key b t eb ot
    exact r.dist a b s' t' q hab es et os' ot' ha
def mOwn (i : Nat) (m : MM (List D)) : MS := fun ρ x => match m ρ x with
  | .val ds x1 => .nx (ρ.set i (.ol ds)) x1
  | .exc c fs x1 => .exc c fs ρ x1
  | .out => .out
theorem rd_EN {K : PySem.W.Frag} {m : MM (List D)} {k : List D → MS} {D : Ends} {σ : L2.St} {H : Hp} {Q : VK} (h : rdS K W (mE m k) D σ H)
    (q : ∀ S F H' ρ x p ds, S.K = K → Rel S F H' σ ρ x → NewL S F H' σ ρ p ds → PostS S W (k ds ρ x) D → Q (.ref p) H') : rdN K W m σ H Q := by
  obtain ⟨S, F, ρ, x, eK, r, p⟩ := h
  refine ⟨S, F, ρ, x, eK, r, ?_⟩
  unfold mE at p
  cases e : m ρ x with
  | val d x1 =>
    rw [e] at p
    exact fun v F' H' r' hv _ _ _ => q S F' H' ρ x1 v d eK r' hv p
  | exc c fs x1 =>
    rw [e] at p
    exact fun F' H' dd r' _ _ hd => p σ F' H' dd r' hd
  | out =>
    rw [e] at p
    exact p
theorem js_own {i : Nat} {y : Str} {e : Expr} {pos pos' : Pos} {m : MM (List D)} (hN : X.N.Nodup) (he : PE X e (rdN X.K W m)) (hi : X.N[i]? = some y := by rfl) (hx : Loc X.env.scope y := by first | exact Or.inl rfl | exact Or.inr rfl) (hs : swapsWith e (some (.Name y pos')) pos.line X.env = pure false := by rfl) (hf : X.fn y = true ∨ X.env.scope.names.lookup y = some .local := by first | exact .inl rfl | exact .inr rfl | assumption) :
    PS X (.Assign [.Name y pos'] e pos) (rdS X.K W (mE m fun ds ρ x => .nx (ρ.set i (.ol ds)) x)) :=
  psI (ps_set hN hi hx he hs hf) fun D σ H h => rd_EN h fun S F H' ρ x p ds eK r n q => q _ _ _ (r.own n i)
/-- a, b = e, f, both new lists -/
theorem js_setLcN {i : Nat} {y : Str} {py : Pos} {elt tgx iter : Expr} {ifs : List Expr} {scope : Scope} {own : List (Str × Nat)} {nl : List Nat} {pos spos : Pos} {mi : MM (List D)} {tg : Tg} {mc : MM Bool} {me : MM D} (hc : X.calm = true) (hN : X.N.Nodup) (hy : X.N[i]? = some y) (hyl : X.env.scope.names.lookup y = some .local)
    (hsw : swapsWith (.ListComp elt [⟨tgx, iter, ifs, 0⟩] scope pos) (some (.Name y py)) spos.line X.env = pure true) (hi : PI X tgx iter (rd rlI X.K W mi)) (ok : BlkOk X.N X.env.scope scope own)
    (hg : ∀ (s : Shared) (H : Hp) (C : Addr) (cl : List (Str × Addr)) (fp : List Addr), PG (X.blk s H scope (compEnvC scope cl C X.env) fp) tgx (tg.g X.K)) (ht : ∀ (s : Shared) (H : Hp) (C : Addr) (cl : List (Str × Addr)) (fp : List Addr), PTs (X.blk s H scope (compEnvC scope cl C X.env) fp) ifs (rdT X.K Wf mc))
    (he : ∀ (s : Shared) (H : Hp) (C : Addr) (cl : List (Str × Addr)) (fp : List Addr), PE (X.blk s H scope (compEnvC scope cl C X.env) fp) elt (rdE X.K Wf me)) (hnl : own.map (·.2) = nl := by rfl) (htg : ∀ i ∈ tg.ixs, i ∈ nl := by decide) (hs : ∀ x, foldedSetIterable iter X.env x = pure x := by intro _; rfl) :
    PS X (.Assign [.Name y py] (.ListComp elt [⟨tgx, iter, ifs, 0⟩] scope pos) spos) (rdS X.K W (mE (mLcL mi tg mc me nl) fun ds ρ x => .nx (ρ.set i (.ol ds)) x)) := by
  subst hnl
  exact psI (ps_setLc hc hN hy hyl hsw hi ok hg ht he hs) fun D σ H h => rd_lcN htg (rd_EN h fun S F H' ρ x p ds eK r n q => q _ _ _ (r.own n i))
def mApp (i : Nat) (m : MM D) : MS := fun ρ x => match ρ[i]? with
  | some (.ol ds) => mE m (fun d ρ x => if ds.length < big then .nx (ρ.set i (.ol (ds ++ [d]))) x else .out) ρ x
  | _ => .out
/-- xs.append(e) -/
theorem js_app (i : Nat) {y : Str} {e : Expr} {p1 apos cpos pos : Pos} {m : MM D} (he : PE X e (rdE X.K W m)) (hN : X.N[i]? = some y := by rfl) (hv : Vis X.env.scope y := by first | exact Or.inl rfl | exact Or.inr (Or.inl rfl) | exact Or.inr (Or.inr rfl)) (hd : (y == ("__debug__" : Str)) = false := by decide) (hcd : (y == ("__classdict__" : Str)) = false := by decide)
    (h1 : starEach [e] X.env = (false, eval e X.env) :: starEach [] X.env := by rfl) (hbase : attributeBase (.Name y p1) "append" X.env (eval (.Name y p1) X.env) = eval (.Name y p1) X.env := by rfl) (hfew : ((backTo cpos (starEach [e] X.env)).all (fun x => !x.1) && (backToKw cpos (keywordEach [] X.env)).all (fun x => x.1.isSome)
      && decide ([e].length + ([] : List Keyword).length + (if ([] : List Keyword).isEmpty then 0 else 1) < 30)) = true := by rfl) (hline : (apos.endLine == cpos.line) = true := by rfl) (hplain : (backTo cpos (starEach [] X.env)).any (·.1) = false := by rfl)
    (hs : swapsWith (.Call (.Attribute (.Name y p1) "append" apos) [e] [] cpos) none pos.line X.env = pure false := by rfl) :
    PS X (.Expr (.Call (.Attribute (.Name y p1) "append" apos) [e] [] cpos) pos) (rdS X.K W (mApp i m)) :=
  psI (ps_expr (pe_bm PySem.F.plainAttrs_list PySem.F.slot_list_append PySem.F.type_list_append mt_append (pe_var (i := i) hN hv hd hcd) (pa_cons he pa_nil h1) hbase hfew hline h1 hplain) hs) fun D σ H h => by
    obtain ⟨S, F, ρ, x, eK, r, p⟩ := h
    unfold mApp at p
    split at p
    · rename_i ds e
      obtain ⟨q, vs, eσ, nb, n0, nF, hH, hr⟩ := r.getO e
      refine ⟨.ref q, eσ, .inl ⟨rfl, vs, sqL hH⟩, ?_⟩
      refine (show rdE X.K W m σ H _ from ?_)
      refine ⟨S, F, ρ, x, eK, r, ?_⟩
      unfold mE at p
      cases e1 : m ρ x with
      | out =>
        rw [e1] at p
        exact p
      | exc c fs x1 =>
        rw [e1] at p
        exact fun F' H' dd a1 _ _ a4 => p σ F' H' dd a1 a4
      | val d x1 =>
        rw [e1] at p
        dsimp only at p
        split at p
        · rename_i hz
          intro v F' H' r' s' k' hv
          have hv : Rep S.K S.b F' v d := hv
          have h2 : H' q = some (.lst vs) := k' q _ hH nb
          exact ⟨q, vs, v, rfl, rfl, h2, by rw [hr.length]; exact big_lt hz, p _ _ _ (r'.updO e eσ ((hr.mono s').append (.cons hv .nil)))⟩
        · exact p.elim
    · exact p.elim
/-- xs[j] = e, xs owned -/
def mSetI (i : Nat) (mj m : MM D) : MS := fun ρ x => match ρ[i]? with
  | some (.ol ds) => mE m (fun d => mE mj fun j ρ x => match j with
    | .int k => (match ixN ds.length k with
      | some n => .nx (ρ.set i (.ol (ds.set n d))) x
      | none => .out)
    | _ => .out) ρ x
  | _ => .out
theorem js_setI (i : Nat) {y : Str} {e j : Expr} {p1 p2 pos : Pos} {m mj : MM D} (he : PE X e (rdE X.K W m)) (hj : PE X j (rdE X.K W mj)) (hN : X.N[i]? = some y := by rfl) (hv : Vis X.env.scope y := by first | exact Or.inl rfl | exact Or.inr (Or.inl rfl) | exact Or.inr (Or.inr rfl)) (hd : (y == ("__debug__" : Str)) = false := by decide) (hcd : (y == ("__classdict__" : Str)) = false := by decide)
    (hs : swapsWithSole [.Subscript (.Name y p1) j p2] e pos.line X.env = pure false := by rfl) (hw : swappedStores [.Subscript (.Name y p1) j p2] e X.env = pure none := by rfl) (h1 : (assignEach [.Subscript (.Name y p1) j p2] X.env).map (·.2) = [assign (.Subscript (.Name y p1) j p2) X.env] := by rfl) (h2 : ∀ v, assign (.Subscript (.Name y p1) j p2) X.env v = (do let ov ← holding [v] (eval (.Name y p1) X.env); let iv ← holding [v, ov] (eval j X.env); standAt p2; holding [v, ov, iv] (setItem ov iv v); release [v, ov, iv] []) := by intro _; rfl) :
    PS X (.Assign [.Subscript (.Name y p1) j p2] e pos) (rdS X.K W (mSetI i mj m)) :=
  psI (ps_asg he (pg_sub (pe_var (i := i) hN hv hd hcd) hj set_list h2) hs hw h1) fun D σ H h => by
    obtain ⟨S, F, ρ, x, eK, r, p⟩ := h
    unfold mSetI at p
    split at p
    · rename_i ds e0
      obtain ⟨q, vs, eσ, nb, n0, nF, hH, hr⟩ := r.getO e0
      refine (show rdE X.K W m σ H _ from ?_)
      refine ⟨S, F, ρ, x, eK, r, ?_⟩
      unfold mE at p
      cases e1 : m ρ x with
      | out =>
        rw [e1] at p
        exact p
      | exc c fs x1 =>
        rw [e1] at p
        exact fun F' H' dd a1 _ _ a4 => p σ F' H' dd a1 a4
      | val d x1 =>
        rw [e1] at p
        dsimp only at p
        intro v F' H' r' s' k' hv
        have hv : Rep S.K S.b F' v d := hv
        refine ⟨.ref q, eσ, ?_⟩
        refine (show rdE X.K W mj σ H' _ from ?_)
        refine ⟨S, F', ρ, x1, eK, r', ?_⟩
        cases e2 : mj ρ x1 with
        | out =>
          rw [e2] at p
          exact p
        | exc c fs x1 =>
          rw [e2] at p
          exact fun F' H' dd a1 _ _ a4 => p σ F' H' dd a1 a4
        | val dj x2 =>
          rw [e2] at p
          dsimp only at p
          intro u F2 H2 r2 s2 k2 hu
          have hu : Rep S.K S.b F2 u dj := hu
          cases hu <;> try exact p.elim
          rename_i k
          dsimp only at p
          split at p
          · rename_i n hn
            have h3 : H2 q = some (.lst vs) := k2 q _ (k' q _ hH nb) nb
            exact ⟨q, vs, k, n, rfl, rfl, h3, by rw [hr.length]; exact hn, p _ _ _ (r2.updO e0 eσ (((hr.mono s').mono s2).set n (hv.mono s2)))⟩
          · exact p.elim
    · exact p.elim

/-! ### owned slots read: borrowed (the value a scalar), frozen for good -/
end
def Slot.fzd : Slot → Slot
  | .ol ds => .fz (.lst ds)
  | .od ds => .fz (.dct ds)
  | s => s
def frzS (sel : Nat → Bool) (ρ : En) : En := ρ.mapIdx fun i s => if sel i then s.fzd else s
theorem frzS_get {sel : Nat → Bool} {ρ : En} {i : Nat} {s : Slot} (h : (frzS sel ρ)[i]? = some s) : ∃ t, ρ[i]? = some t ∧ s = if sel i then t.fzd else t := by
  unfold frzS at h
  rw [List.getElem?_mapIdx] at h
  cases e : ρ[i]? with
  | none =>
    rw [e] at h
    cases h
  | some t =>
    rw [e] at h
    exact ⟨t, rfl, (Option.some.inj h).symm⟩
def OwnAt (sel : Nat → Bool) (σ : L2.St) (ρ : En) (p : Addr) : Prop := ∃ (i : Nat) (s : Slot), ρ[i]? = some s ∧ s.own = true ∧ sel i = true ∧ σ[i]? = some (some (.ref p))
open Classical in
noncomputable def frzH (sel : Nat → Bool) (F H : Hp) (σ : L2.St) (ρ : En) : Hp := fun p => if OwnAt sel σ ρ p then H p else F p
open Classical in
noncomputable def unfH (sel : Nat → Bool) (F : Hp) (σ : L2.St) (ρ : En) : Hp := fun p => if OwnAt sel σ ρ p then none else F p
section
variable {S : Cf} {F H : Hp} {σ : L2.St} {ρ : En} {x : Bx} {sel : Nat → Bool}
theorem Rel.ownAt (r : Rel S F H σ ρ x) {p : Addr} (h : OwnAt sel σ ρ p) : S.b ≠ some p ∧ S.H0 p = none ∧ F p = none ∧ ∃ o, H p = some o := by
  obtain ⟨i, s, e, o, _, eσ⟩ := h
  obtain ⟨v, e1, hs⟩ := r.slot i s e
  rw [eσ] at e1
  cases e1
  cases s with
  | un => cases o
  | fz d => cases o
  | ol ds =>
    obtain ⟨q, us, e3, b1, b2, b3, b4, b5⟩ := hs
    cases e3
    exact ⟨b1, b2, b3, _, b4⟩
  | od ds =>
    obtain ⟨q, us, e3, b1, b2, b3, b4, b5⟩ := hs
    cases e3
    exact ⟨b1, b2, b3, _, b4⟩
theorem frzH_yes {p : Addr} (h : OwnAt sel σ ρ p) : frzH sel F H σ ρ p = H p := if_pos h
theorem frzH_no {p : Addr} (h : ¬ OwnAt sel σ ρ p) : frzH sel F H σ ρ p = F p := if_neg h
theorem unfH_yes {p : Addr} (h : OwnAt sel σ ρ p) : unfH sel F σ ρ p = none := if_pos h
theorem unfH_no {p : Addr} (h : ¬ OwnAt sel σ ρ p) : unfH sel F σ ρ p = F p := if_neg h
theorem Rel.frz_same (r : Rel S F H σ ρ x) : Same F (frzH sel F H σ ρ) := fun p o e => by
  by_cases h : OwnAt sel σ ρ p
  · rw [(r.ownAt h).2.2.1] at e
    cases e
  · rw [frzH_no h]
    exact e
theorem Rel.frz (r : Rel S F H σ ρ x) : Rel S (frzH sel F H σ ρ) H σ (frzS sel ρ) x where
  core := ⟨fun p o e => by
      by_cases h : OwnAt sel σ ρ p
      · rw [frzH_yes h] at e
        exact e
      · rw [frzH_no h] at e
        exact r.core.sub p o e, r.core.f0.trans r.frz_same, fun p h1 h2 => by
      have h : ¬ OwnAt sel σ ρ p := fun z => h1 (r.ownAt z).2.1
      rw [frzH_no h]
      exact r.core.fresh p h1 h2, r.core.keep, fun a e => by
      have h : ¬ OwnAt sel σ ρ a := fun z => (r.ownAt z).1 e
      rw [frzH_no h]
      exact r.core.box a e⟩
  len := by
    unfold frzS
    rw [List.length_mapIdx, r.len]
  slot := fun i s e => by
    obtain ⟨t, et, es⟩ := frzS_get e
    obtain ⟨v, e1, ht⟩ := r.slot i t et
    refine ⟨v, e1, ?_⟩
    subst es
    cases hs : sel i with
    | true =>
      rw [if_pos rfl]
      cases t with
      | un => trivial
      | fz d =>
        obtain ⟨u, e2, q⟩ := ht
        exact ⟨u, e2, q.mono r.frz_same⟩
      | ol ds =>
        obtain ⟨q, us, e3, b1, b2, b3, b4, b5⟩ := ht
        subst e3
        exact ⟨_, rfl, .lst (by rw [frzH_yes ⟨i, _, et, rfl, hs, e1⟩]; exact b4) (b5.mono r.frz_same)⟩
      | od ds =>
        obtain ⟨q, us, e3, b1, b2, b3, b4, b5⟩ := ht
        subst e3
        exact ⟨_, rfl, .dct (by rw [frzH_yes ⟨i, _, et, rfl, hs, e1⟩]; exact b4) (b5.mono r.frz_same)⟩
    | false =>
      rw [if_neg
        Bool.false_ne_true]
      cases t with
      | un => trivial
      | fz d =>
        obtain ⟨u, e2, q⟩ := ht
        exact ⟨u, e2, q.mono r.frz_same⟩
      | ol ds =>
        obtain ⟨q, us, e3, b1, b2, b3, b4, b5⟩ := ht
        subst e3
        refine ⟨q, us, rfl, b1, b2, ?_, b4, b5.mono r.frz_same⟩
        have h : ¬ OwnAt sel σ ρ q := fun ⟨j, s, ej, oj, sj, ej2⟩ => by
          have hij : i ≠ j := fun z => by
            subst z
            rw [hs] at sj
            cases sj
          exact r.dist i j _ _ q hij et ej rfl oj e1 ej2
        rw [frzH_no h]
        exact b3
      | od ds =>
        obtain ⟨q, us, e3, b1, b2, b3, b4, b5⟩ := ht
        subst e3
        refine ⟨q, us, rfl, b1, b2, ?_, b4, b5.mono r.frz_same⟩
        have h : ¬ OwnAt sel σ ρ q := fun ⟨j, s, ej, oj, sj, ej2⟩ => by
          have hij : i ≠ j := fun z => by
            subst z
            rw [hs] at sj
            cases sj
          exact r.dist i j _ _ q hij et ej rfl oj e1 ej2
        rw [frzH_no h]
        exact b3
  dist := fun i j s t p hij ei ej os ot hi => by
    have key : ∀ (c : Nat) (u : Slot), (frzS sel ρ)[c]? = some u → u.own = true → ∃ u', ρ[c]? = some u' ∧ u'.own = true := fun c u ec oc => by
      obtain ⟨t, et, es⟩ := frzS_get ec
      subst es
      refine ⟨t, et, ?_⟩
      cases t with
      | un => split at oc <;> cases oc
      | fz d => split at oc <;> cases oc
      | ol ds => rfl
      | od ds => rfl
    obtain ⟨s', es, os'⟩ := key i s ei os
    obtain ⟨t', et, ot'⟩ := key j t ej ot
    exact r.dist i j s' t' p hij es et os' ot' hi
/-- back from a borrowing -/
theorem Rel.unfrz {F' H' : Hp} {x' : Bx} (r : Rel S F H σ ρ x) (r' : Rel S F' H' σ (frzS sel ρ) x') (s : Same (frzH sel F H σ ρ) F') (k : KeepB S.b H H') : Rel S (unfH sel F' σ ρ) H' σ ρ x' ∧ Same F (unfH sel F' σ ρ) := by
  have sF : Same F (unfH sel F' σ ρ) := fun p o e => by
    have h : ¬ OwnAt sel σ ρ p := fun z => by
      rw [(r.ownAt z).2.2.1] at e
      cases e
    rw [unfH_no h]
    exact s p o (r.frz_same p o e)
  have nw : ∀ p, H p ≠ none → F p = none → S.b ≠ some p → unfH sel F' σ ρ p = none ∨ (¬ OwnAt sel σ ρ p) := fun p _ _ _ => by
    by_cases h : OwnAt sel σ ρ p
    · exact .inl (unfH_yes h)
    · exact .inr h
  refine ⟨⟨⟨fun p o e => ?_, r.core.f0.trans sF, fun p h1 h2 => ?_, r'.core.keep, fun a e => ?_⟩, r.len, fun i t et => ?_, r.dist⟩, sF⟩
  · by_cases h : OwnAt sel σ ρ p
    · rw [unfH_yes h] at e
      cases e
    · rw [unfH_no h] at e
      exact r'.core.sub p o e
  · by_cases h : OwnAt sel σ ρ p
    · exact unfH_yes h
    · rw [unfH_no h]
      exact r'.core.fresh p h1 h2
  · have h : ¬ OwnAt sel σ ρ a := fun z => (r.ownAt z).1 e
    rw [unfH_no h]
    exact r'.core.box a e
  · obtain ⟨v, e1, ht⟩ := r.slot i t et
    refine ⟨v, e1, ?_⟩
    have other : ∀ q, σ[i]? = some (some (.ref q)) → t.own = true → unfH sel F' σ ρ q = none := fun q eq ot => by
      by_cases h : OwnAt sel σ ρ q
      · exact unfH_yes h
      · rw [unfH_no h]
        have hs : sel i = false := by
          cases hs : sel i with
          | false => rfl
          | true => exact (h ⟨i, t, et, ot, hs, eq⟩).elim
        have e2 : (frzS sel ρ)[i]? = some t := by
          unfold frzS
          rw [List.getElem?_mapIdx, et]
          show some (if sel i = true then t.fzd else t) = some t
          rw [hs]
          rfl
        obtain ⟨v2, e3, hq⟩ := r'.slot i t e2
        rw [eq] at e3
        cases e3
        cases t with
        | un => cases ot
        | fz d => cases ot
        | ol ds =>
          obtain ⟨q2, us, e4, _, _, b3, _, _⟩ := hq
          cases e4
          exact b3
        | od ds =>
          obtain ⟨q2, us, e4, _, _, b3, _, _⟩ := hq
          cases e4
          exact b3
    cases t with
    | un => trivial
    | fz d =>
      obtain ⟨u, e2, q⟩ := ht
      exact ⟨u, e2, q.mono sF⟩
    | ol ds =>
      obtain ⟨q, us, e3, b1, b2, b3, b4, b5⟩ := ht
      subst e3
      exact ⟨q, us, rfl, b1, b2, other q e1 rfl, k q _ b4 b1, b5.mono sF⟩
    | od ds =>
      obtain ⟨q, us, e3, b1, b2, b3, b4, b5⟩ := ht
      subst e3
      exact ⟨q, us, rfl, b1, b2, other q e1 rfl, k q _ b4 b1, b5.mono sF⟩
end
def allS : Nat → Bool := fun _ => true
def isSca : D → Bool
  | .non => true
  | .bl _ => true
  | .int _ => true
  | .str _ => true
  | _ => false
theorem Rep.sca {K K' : PySem.W.Frag} {b b' : Option Addr} {F F' : Hp} {v : V} {d : D} (h : Rep K b F v d) (s : isSca d = true) : Rep K' b' F' v d := by
  cases h <;> first | (cases s; done) | exact .non | exact .bl _ | exact .int _ | exact .str _
def mBor (m : MM D) : MM D := fun ρ x => match m (frzS allS ρ) x with
  | .val d x1 => if isSca d then .val d x1 else .out
  | _ => .out
def mBorT (m : MM Bool) : MM Bool := fun ρ x => match m (frzS allS ρ) x with
  | .val d x1 => .val d x1
  | _ => .out
section
variable {X : Cx} {W : WX}
theorem rd_bor {K : PySem.W.Frag} {m : MM D} {σ : L2.St} {H : Hp} {Q : VK} (h : rdE K W (mBor m) σ H Q) : rdE K W m σ H Q := by
  obtain ⟨S, F, ρ, x, eK, r, p⟩ := h
  unfold mBor at p
  refine ⟨S, _, _, x, eK, r.frz (sel := allS), ?_⟩
  cases e : m (frzS allS ρ) x with
  | out =>
    rw [e] at p
    exact p
  | exc c fs x1 =>
    rw [e] at p
    exact p.elim
  | val d x1 =>
    rw [e] at p
    dsimp only at p
    split at p
    · rename_i hz
      intro v F' H' r' s' k' hv
      obtain ⟨a1, a2⟩ := r.unfrz r' s' k'
      exact p v _ H' a1 a2 k' (Rep.sca hv hz)
    · exact p.elim
theorem j_bor {e : Expr} {m : MM D} (h : PE X e (rdE X.K W m)) : PE X e (rdE X.K W (mBor m)) := peI h fun σ H Q q => rd_bor q
theorem j_borT {e : Expr} {m : MM Bool} (h : PT X e (rdT X.K W m)) : PT X e (rdT X.K W (mBorT m)) := ptI h fun σ H Q q => by
  obtain ⟨S, F, ρ, x, eK, r, p⟩ := q
  unfold mBorT at p
  refine ⟨S, _, _, x, eK, r.frz (sel := allS), ?_⟩
  cases e : m (frzS allS ρ) x with
  | out =>
    rw [e] at p
    exact p
  | exc c fs x1 =>
    rw [e] at p
    exact p.elim
  | val d x1 =>
    rw [e] at p
    intro v F' H' r' s' k' hv
    obtain ⟨a1, a2⟩ := r.unfrz r' s' k'
    exact p v _ H' a1 a2 k' hv
theorem jss_frz {sts : List Stmt} {m : MS} (sel : Nat → Bool) (h : PSs X sts (rdS X.K W m)) : PSs X sts (rdS X.K W fun ρ x => m (frzS sel ρ) x) := pssI h fun D σ H q => by
  obtain ⟨S, F, ρ, x, eK, r, p⟩ := q
  exact ⟨S, _, _, x, eK, r.frz, p⟩
theorem js_frz {st : Stmt} {m : MS} (sel : Nat → Bool) (h : PS X st (rdS X.K W m)) : PS X st (rdS X.K W fun ρ x => m (frzS sel ρ) x) := psI h fun D σ H q => by
  obtain ⟨S, F, ρ, x, eK, r, p⟩ := q
  exact ⟨S, _, _, x, eK, r.frz, p⟩
end
end Mi

/-! Mi10: the box, parallel stores, raise, a def as a mirror. -/
namespace Mi
open PySem PySem.Spec L2
section
variable {X : Cx} {W : WX}
/-! ### the box -/
def bxAt (x : Bx) (i : Int) : Option D := if i = 0 then some (.int x.1) else if i = 1 then some (.int x.2.1) else if i = 2 then some (.int x.2.2) else none
def gItem (a b : D) : MM D := match a with
  | .box => (match b with
    | .int i => fun ρ x => o1 (bxAt x i) ρ x
    | _ => fun _ _ => .out)
  | a => o1 (gIx a b)
theorem real_item {K : PySem.W.Frag} : Real2 K W (rIx K) gItem := by
  intro S F H σ ρ x v1 v2 a b Q eK r ha hb p
  cases ha with
  | box e =>
    rename_i q
    cases hb <;> try exact p.elim
    rename_i i
    have hH := (r.core.box q e).2
    replace p : Post rlD S W σ F H ρ (o1 (bxAt x i) ρ x) Q := p
    unfold bxAt at p
    refine .inl ?_
    split at p
    · rename_i e0
      subst e0
      exact ⟨q, _, 0, .int x.1, rfl, rfl, sqL hH, rfl, post_val (rl := rlD) r p (.int _)⟩
    · split at p
      · rename_i e0
        subst e0
        exact ⟨q, _, 1, .int x.2.1, rfl, rfl, sqL hH, rfl, post_val (rl := rlD) r p (.int _)⟩
      · split at p
        · rename_i e0
          subst e0
          exact ⟨q, _, 2, .int x.2.2, rfl, rfl, sqL hH, rfl, post_val (rl := rlD) r p (.int _)⟩
        · exact p.elim
  | non => exact real_ix S F H σ ρ x _ _ _ _ Q eK r .non hb p
  | bl c => exact real_ix S F H σ ρ x _ _ _ _ Q eK r (.bl c) hb p
  | int i => exact real_ix S F H σ ρ x _ _ _ _ Q eK r (.int i) hb p
  | str s => exact real_ix S F H σ ρ x _ _ _ _ Q eK r (.str s) hb p
  | lst h r1 => exact real_ix S F H σ ρ x _ _ _ _ Q eK r (.lst h r1) hb p
  | tup h r1 => exact real_ix S F H σ ρ x _ _ _ _ Q eK r (.tup h r1) hb p
  | dct h r1 => exact real_ix S F H σ ρ x _ _ _ _ Q eK r (.dct h r1) hb p
  | obj h e r1 => exact real_ix S F H σ ρ x _ _ _ _ Q eK r (.obj h e r1) hb p
  | err0 h e => exact real_ix S F H σ ρ x _ _ _ _ Q eK r (.err0 h e) hb p
  | err h e h2 r1 => exact real_ix S F H σ ρ x _ _ _ _ Q eK r (.err h e h2 r1) hb p
  | fn => exact real_ix S F H σ ρ x _ _ _ _ Q eK r .fn hb p
  | scr h => exact real_ix S F H σ ρ x _ _ _ _ Q eK r (.scr h) hb p
theorem j_sub' {ma mb : MM D} {a b : Expr} {pos : Pos} (ha : PE X a (rdE X.K W ma)) (hb : PE X b (rdE X.K W mb)) (hs : PlainIx b := by exact fun _ _ => rfl) : PE X (.Subscript a b pos) (rdE X.K W (mOp gItem ma mb)) :=
  j_ix ix_seq real_item ha hb hs
theorem Core.boxset {S : Cf} {F H : Hp} {x x' : Bx} {a : Addr} (c : Core S F H x) (e : S.b = some a) : Core S F (upd H a (bxO x')) x' where
  sub := fun q u h => by
    have hq : q ≠ a := fun z => by
      rw [z, (c.box a e).1] at h
      cases h
    rw [upd_ne hq]
    exact c.sub q u h
  f0 := c.f0
  fresh := c.fresh
  keep := fun q u h n => by
    have hq : q ≠ a := fun z => n (z ▸ e)
    rw [upd_ne hq]
    exact c.keep q u h n
  box := fun b h => by
    rw [e] at h
    cases h
    exact ⟨(c.box a e).1, upd_same⟩
theorem Rel.boxset {S : Cf} {F H : Hp} {σ : L2.St} {ρ : En} {x x' : Bx} {a : Addr} (r : Rel S F H σ ρ x) (e : S.b = some a) : Rel S F (upd H a (bxO x')) σ ρ x' :=
  r.go (r.core.boxset e) (Same.refl F) (fun q u h n => by
    have hq : q ≠ a := fun z => n (z ▸ e)
    rw [upd_ne hq]
    exact h) (fun _ _ h _ => h)
def bxSet (x : Bx) (i : Int) (v : Int) : Option Bx := if i = 0 then some (v, x.2.1, x.2.2) else if i = 1 then some (x.1, v, x.2.2) else if i = 2 then some (x.1, x.2.1, v) else none
/-- box[j] = e -/
def mSetB (i : Nat) (mj m : MM D) : MS := fun ρ x => match ρ[i]? with
  | some (.fz .box) => mE m (fun d => mE mj fun j ρ x => match d with
    | .int v => (match j with
      | .int k => (match bxSet x k v with
        | some x' => .nx ρ x'
        | none => .out)
      | _ => .out)
    | _ => .out) ρ x
  | _ => .out
theorem js_setB (i : Nat) {y : Str} {e j : Expr} {p1 p2 pos : Pos} {m mj : MM D} (he : PE X e (rdE X.K W m)) (hj : PE X j (rdE X.K W mj)) (hN : X.N[i]? = some y := by rfl) (hv : Vis X.env.scope y := by first | exact Or.inl rfl | exact Or.inr (Or.inl rfl) | exact Or.inr (Or.inr rfl)) (hd : (y == ("__debug__" : Str)) = false := by decide) (hcd : (y == ("__classdict__" : Str)) = false := by decide)
    (hs : swapsWithSole [.Subscript (.Name y p1) j p2] e pos.line X.env = pure false := by rfl) (hw : swappedStores [.Subscript (.Name y p1) j p2] e X.env = pure none := by rfl) (h1 : (assignEach [.Subscript (.Name y p1) j p2] X.env).map (·.2) = [assign (.Subscript (.Name y p1) j p2) X.env] := by rfl)
    (h2 : ∀ v, assign (.Subscript (.Name y p1) j p2) X.env v = (do let ov ← holding [v] (eval (.Name y p1) X.env); let iv ← holding [v, ov] (eval j X.env); standAt p2; holding [v, ov, iv] (setItem ov iv v); release [v, ov, iv] []) := by intro _; rfl) :
    PS X (.Assign [.Subscript (.Name y p1) j p2] e pos) (rdS X.K W (mSetB i mj m)) :=
  psI (ps_asg he (pg_sub (pe_var (i := i) hN hv hd hcd) hj set_list h2) hs hw h1) fun D σ H h => by
    obtain ⟨S, F, ρ, x, eK, r, p⟩ := h
    unfold mSetB at p
    split at p
    · rename_i e0
      obtain ⟨w, e1, u0, e2, hb⟩ := r.slot i _ e0
      subst e2
      cases hb with
      | @box q eb =>
      refine (show rdE X.K W m σ H _ from ?_)
      refine ⟨S, F, ρ, x, eK, r, ?_⟩
      unfold mE at p
      cases e1 : m ρ x with
      | out =>
        rw [e1] at p
        exact p
      | exc c fs x1 =>
        rw [e1] at p
        exact fun F' H' dd a1 _ _ a4 => p σ F' H' dd a1 a4
      | val d x1 =>
        rw [e1] at p
        dsimp only at p
        intro v F' H' r' s' k' hv
        have hv : Rep S.K S.b F' v d := hv
        refine ⟨.ref q, by assumption, ?_⟩
        refine (show rdE X.K W mj σ H' _ from ?_)
        refine ⟨S, F', ρ, x1, eK, r', ?_⟩
        cases e2 : mj ρ x1 with
        | out =>
          rw [e2] at p
          exact p
        | exc c fs x1 =>
          rw [e2] at p
          exact fun F' H' dd a1 _ _ a4 => p σ F' H' dd a1 a4
        | val dj x2 =>
          rw [e2] at p
          dsimp only at p
          intro u F2 H2 r2 s2 k2 hu
          have hu : Rep S.K S.b F2 u dj := hu
          cases hv <;> try exact p.elim
          rename_i vi
          cases hu <;> try exact p.elim
          rename_i k
          dsimp only at p
          have h3 := (r2.core.box q eb).2
          unfold bxSet at p
          by_cases k0 : k = 0
          · subst k0
            exact ⟨q, _, 0, 0, rfl, rfl, h3, rfl, p _ _ _ (r2.boxset (x' := (vi, x2.2.1, x2.2.2)) eb)⟩
          · rw [if_neg k0] at p
            by_cases k1 : k = 1
            · subst k1
              exact ⟨q, _, 1, 1, rfl, rfl, h3, rfl, p _ _ _ (r2.boxset (x' := (x2.1, vi, x2.2.2)) eb)⟩
            · rw [if_neg k1] at p
              by_cases k2 : k = 2
              · subst k2
                exact ⟨q, _, 2, 2, rfl, rfl, h3, rfl, p _ _ _ (r2.boxset (x' := (x2.1, x2.2.1, vi)) eb)⟩
              · rw [if_neg k2] at p
                exact p.elim
    · exact p.elim

/-! ### a, b = e, f, both new lists -/
def mParN (i j : Nat) (m n : MM (List D)) : MS := mE m fun ds ρ x => match n (shut ρ) x with
  | .val es x2 => if i = j then .out else .nx ((ρ.set i (.ol ds)).set j (.ol es)) x2
  | _ => .out
theorem js_parN {i j : Nat} {x y : Str} {a b : Expr} {m n : MM (List D)} {px py pt pos pt2 : Pos} {kt k2 : Nat} (hc : X.calm = true) (hN : X.N.Nodup) (hij : i ≠ j) (ha : PE X a (rdN X.K W m)) (hb : PE X b (rdN X.K W n)) (hi : X.N[i]? = some x := by rfl) (hj : X.N[j]? = some y := by rfl)
    (hx : X.env.scope.names.lookup x = some .local := by rfl) (hy : X.env.scope.names.lookup y = some .local := by rfl) (h1 : starEach [a, b] X.env = (false, eval a X.env) :: starEach [b] X.env := by rfl) (h2 : starEach [b] X.env = (false, eval b X.env) :: starEach [] X.env := by rfl)
    (hw : swappedStores [.Tuple [.Name x px, .Name y py] kt pt] (.Tuple [a, b] k2 pt2) X.env = pure (some [x, y]) := by rfl) (hs : swapsWithSole [.Tuple [.Name x px, .Name y py] kt pt] (.Tuple [a, b] k2 pt2) pos.line X.env = pure false := by rfl) :
    PS X (.Assign [.Tuple [.Name x px, .Name y py] kt pt] (.Tuple [a, b] k2 pt2) pos) (rdS X.K W (mParN i j m n)) :=
  psI (ps_par hc hN hi hj hij hx hy (pa_cons ha (pa_cons hb pa_nil h2) h1) hw hs) fun D σ H h => rd_EN h fun S F1 H1 ρ x1 p ds eK r1 nl q => by
    refine (show rdN X.K W n σ H1 _ from ?_)
    have rsh := r1.shut
    cases e : n (shut ρ) x1 with
    | out =>
      rw [e] at q
      exact q.elim
    | exc c fs x2 =>
      rw [e] at q
      exact q.elim
    | val es x2 =>
      rw [e] at q
      dsimp only at q
      refine ⟨⟨S.K, S.b, H1, F1⟩, F1, shut ρ, x1, eK, rsh, ?_⟩
      rw [e]
      intro p2 F2 H2 r2 nl2 _ _ _
      rw [if_neg hij] at q
      obtain ⟨a1, a2, a3⟩ := r1.back r2.core
      obtain ⟨vs, hH, hr⟩ := nl.hH
      obtain ⟨us, hH2, hr2⟩ := nl2.hH
      have n1 : NewL S F2 H2 σ ρ p ds := ⟨nl.nb, nl.n0, r2.core.fresh p (by rw [show (⟨S.K, S.b, H1, F1⟩ : Cf).H0 p = H1 p from rfl, hH]; intro z; cases z) nl.nF, ⟨vs, r2.core.keep p _ hH nl.nb, hr.mono r2.core.f0⟩, nl.nown⟩
      have h1n : H1 p2 = none := nl2.n0
      have n2 : NewL S F2 H2 (σ.set i (some (.ref p))) (ρ.set i (.ol ds)) p2 es := by
        refine ⟨nl2.nb, r1.core.n0 h1n, nl2.nF, ⟨us, hH2, hr2⟩, fun k s ek ok => ?_⟩
        by_cases hk : i = k
        · subst hk
          have hi' : i < ρ.length := by
            have := (List.getElem?_eq_some_iff.mp ek).1
            rwa [List.length_set] at this
          rw [List.getElem?_set_self (by rw [← r1.len]; exact hi')]
          intro z
          cases z
          rw [hH] at h1n
          cases h1n
        · rw [List.getElem?_set_ne hk] at ek ⊢
          intro z
          exact r1.own_there ek ok z h1n
      exact ⟨_, _, rfl, q _ _ _ ((a1.own n1 i).own n2 j)⟩
/-- xs.append(ys.pop(e)) -/
def mAppPop (i j : Nat) (m : MM D) : MS := fun ρ x => match ρ[i]? with
  | some (.ol ds) => (match ρ[j]? with
    | some (.ol es) => mE m (fun d ρ x => match d with
      | .int k => (match ixN es.length k with
        | some n => (match es[n]? with
          | some z => if i ≠ j ∧ ds.length < big ∧ -(2 ^ 63) ≤ k ∧ k < 2 ^ 63 then .nx ((ρ.set j (.ol (es.eraseIdx n))).set i (.ol (ds ++ [z]))) x else .out
          | none => .out)
        | none => .out)
      | _ => .out) ρ x
    | _ => .out)
  | _ => .out
theorem js_appPop (i j : Nat) {y z : Str} {e : Expr} {p1 p2 apos apos2 cpos cpos2 pos : Pos} {m : MM D} (he : PE X e (rdE X.K W m)) (hN : X.N[i]? = some y := by rfl) (hNz : X.N[j]? = some z := by rfl) (hv : Vis X.env.scope y := by first | exact Or.inl rfl | exact Or.inr (Or.inl rfl) | exact Or.inr (Or.inr rfl)) (hvz : Vis X.env.scope z := by first | exact Or.inl rfl | exact Or.inr (Or.inl rfl) | exact Or.inr (Or.inr rfl)) (hd : (y == ("__debug__" : Str)) = false := by decide) (hcd : (y == ("__classdict__" : Str)) = false := by decide)
    (hdz : (z == ("__debug__" : Str)) = false := by decide) (hcdz : (z == ("__classdict__" : Str)) = false := by decide)
    (h1 : starEach [e] X.env = (false, eval e X.env) :: starEach [] X.env := by rfl) (hbase : attributeBase (.Name z p2) "pop" X.env (eval (.Name z p2) X.env) = eval (.Name z p2) X.env := by rfl) (hfew : ((backTo cpos2 (starEach [e] X.env)).all (fun x => !x.1) && (backToKw cpos2 (keywordEach [] X.env)).all (fun x => x.1.isSome)
      && decide ([e].length + ([] : List Keyword).length + (if ([] : List Keyword).isEmpty then 0 else 1) < 30)) = true := by rfl) (hline : (apos2.endLine == cpos2.line) = true := by rfl) (hplain : (backTo cpos2 (starEach [] X.env)).any (·.1) = false := by rfl)
    (h1' : starEach [Expr.Call (.Attribute (.Name z p2) "pop" apos2) [e] [] cpos2] X.env = (false, eval (.Call (.Attribute (.Name z p2) "pop" apos2) [e] [] cpos2) X.env) :: starEach [] X.env := by rfl) (hbase' : attributeBase (.Name y p1) "append" X.env (eval (.Name y p1) X.env) = eval (.Name y p1) X.env := by rfl) (hfew' : ((backTo cpos (starEach [Expr.Call (.Attribute (.Name z p2) "pop" apos2) [e] [] cpos2] X.env)).all (fun x => !x.1) && (backToKw cpos (keywordEach [] X.env)).all (fun x => x.1.isSome)
      && decide ([Expr.Call (.Attribute (.Name z p2) "pop" apos2) [e] [] cpos2].length + ([] : List Keyword).length + (if ([] : List Keyword).isEmpty then 0 else 1) < 30)) = true := by rfl) (hline' : (apos.endLine == cpos.line) = true := by rfl) (hplain' : (backTo cpos (starEach [] X.env)).any (·.1) = false := by rfl)
    (hs : swapsWith (.Call (.Attribute (.Name y p1) "append" apos) [.Call (.Attribute (.Name z p2) "pop" apos2) [e] [] cpos2] [] cpos) none pos.line X.env = pure false := by rfl) :
    PS X (.Expr (.Call (.Attribute (.Name y p1) "append" apos) [.Call (.Attribute (.Name z p2) "pop" apos2) [e] [] cpos2] [] cpos) pos) (rdS X.K W (mAppPop i j m)) :=
  psI (ps_expr (pe_bm PySem.F.plainAttrs_list PySem.F.slot_list_append PySem.F.type_list_append mt_append (pe_var (i := i) hN hv hd hcd) (pa_cons (pe_bm PySem.F.plainAttrs_list PySem.F.slot_list_pop PySem.F.type_list_pop mt_popAt (pe_var (i := j) hNz hvz hdz hcdz) (pa_cons he pa_nil h1) hbase hfew hline h1 hplain) pa_nil h1') hbase' hfew' hline' h1' hplain') hs) fun D σ H h => by
    obtain ⟨S, F, ρ, x, eK, r, p⟩ := h
    unfold mAppPop at p
    split at p
    · rename_i ds e
      split at p
      · rename_i es e'
        obtain ⟨q, vs, eσ, nb, n0, nF, hH, hr⟩ := r.getO e
        obtain ⟨q', vs', eσ', nb', n0', nF', hH', hr'⟩ := r.getO e'
        refine ⟨.ref q, eσ, .inl ⟨rfl, vs, sqL hH⟩, .ref q', eσ', .inl ⟨rfl, vs', sqL hH'⟩, ?_⟩
        refine (show rdE X.K W m σ H _ from ?_)
        refine ⟨S, F, ρ, x, eK, r, ?_⟩
        unfold mE at p
        cases e1 : m ρ x with
        | out =>
          rw [e1] at p
          exact p
        | exc c fs x1 =>
          rw [e1] at p
          exact fun F' H' dd a1 _ _ a4 => p σ F' H' dd a1 a4
        | val d x1 =>
          rw [e1] at p
          dsimp only at p
          intro v F2 H2 r2 s2 k2 hv
          have hv : Rep S.K S.b F2 v d := hv
          cases hv <;> try exact p.elim
          rename_i k
          dsimp only at p
          split at p
          · rename_i n hn
            split at p
            · rename_i z hz
              split at p
              · rename_i hc
                obtain ⟨hij, hz1, hk1, hk2⟩ := hc
                have g1 : H2 q = some (.lst vs) := k2 q _ hH nb
                have g2 : H2 q' = some (.lst vs') := k2 q' _ hH' nb'
                have hn' : ixN vs'.length k = some n := by rw [hr'.length]; exact hn
                obtain ⟨w, ew, hw⟩ := hr'.get hz
                have hqq : q ≠ q' := fun z => r.dist i j _ _ q hij e e' rfl rfl eσ (by rw [eσ', z])
                have rA := r2.updO e' eσ' ((hr'.mono s2).erase n)
                have eA : (ρ.set j (.ol (es.eraseIdx n)))[i]? = some (.ol ds) := by
                  rw [List.getElem?_set_ne (Ne.symm hij)]
                  exact e
                have rB := rA.updO eA eσ ((hr.mono s2).append (.cons (hw.mono s2) .nil))
                exact ⟨q', vs', k, n, w, rfl, rfl, g2, hk1, hk2, (ixN_seq hn').1, ew, q, vs, w, rfl, rfl, by rw [upd_ne hqq]; exact g1, by rw [hr.length]; exact big_lt hz1, p _ _ _ rB⟩
              · exact p.elim
            · exact p.elim
          · exact p.elim
      · exact p.elim
    · exact p.elim
end
/-! ### raise -/
def spI (C : Addr) (f : Str) : Sp := fun vs H Q _ => ∃ a v, vs = [.ref a, v] ∧ H a = some (exo a C none) ∧ ∀ dx, H dx = none → dx ≠ a → Q .non (upd (upd H dx (exd dx [(f, v)])) a (exo a C (some dx)))
/-- an own error class with an __init__ that keeps its one argument in f -/
structure ErrC (K : PySem.W.Frag) (c f : Str) (fd : FuncData) : Prop where
  T : OexC K (He.ga K c)
  iC : PySem.W.findIn K (.ref (He.ga K c)) "__init__" = some (some (.ref (He.ma K (He.ga K c) "__init__")))
  tI : PySem.W.typeIn K (.ref (He.ma K (He.ga K c) "__init__")) = some (.type "function")
  nf : PySem.W.findIn K (.ref (He.ga K c)) f = some none
section
variable {X : Cx} {W : WX}
def mRaise (c f : Str) (ms : MM (List D)) : MS := mE ms fun ds ρ x => match ds with
  | [d] => .exc c [(f, d)] ρ x
  | _ => .out
theorem js_raise {c f : Str} {fd : FuncData} {k : Nat} {ps : List Str} {e : Expr} {p pos pos2 : Pos} {ms : MM (List D)} (hc : X.calm = true) (tk : Takes X W) (E : ErrC X.K c f fd) (F1 : FnOk X.prog X.w X.K X.mg X.base CX0 k (He.ma X.K (He.ga X.K c) "__init__") fd ps (spI (He.ga X.K c) f)) (hr : Room (k + 1) X.A) (hb : Binds X.K fd ps []) (hg : Gl X c) (hm : X.mg c = some (.ref (He.ga X.K c))) (ha : PA X [e] (rdA X.K W ms))
    (hdb : (c == ("__debug__" : Str)) = false := by decide) (he : starEach [e] X.env = (false, eval e X.env) :: starEach [] X.env := by rfl) (hpl : (backTo pos (starEach [] X.env)).any (·.1) = false := by rfl) :
    PS X (.Raise (some (.Call (.Name c p) [e] [] pos)) none pos2) (rdS X.K W (mRaise c f ms)) :=
  psI (ps_raise hc tk (pmk_oex E.T E.iC E.tI F1 hr hb .nil (fun _ _ _ _ _ _ _ h => h.elim) hg hm ha hdb he hpl)) fun D σ H h => rd_E (rl := rlL) h fun S F H1 ρ x vs ds eK r hv q => by
    have hv : RepL S.K S.b F vs ds := hv
    split at q
    · rename_i d
      obtain ⟨v, ev, h1⟩ := rep1 hv
      subst ev
      refine ⟨by show 1 ≤ 1000; decide, fun a na => ⟨a, v, rfl, upd_same, fun dx nx ne => ⟨rfl, dx, [(f, v)], upd_same, by rw [upd_ne ne, upd_same], ?_, ?_⟩⟩⟩
      · rw [upd_ne ne] at nx
        exact nx
      · have ndx : H1 dx = none := by
          rw [upd_ne ne] at nx
          exact nx
        have eH : upd (L2.del (upd (upd (upd H1 a (exo a (He.ga X.K c) none)) dx (exd dx [(f, v)])) a (exo a (He.ga X.K c) (some dx))) a) dx (.xd [(f, v)]) = upd H1 dx (.xd [(f, v)]) := by
          funext b
          by_cases hbd : b = dx
          · subst hbd
            rw [upd_same, upd_same]
          · rw [upd_ne hbd, upd_ne hbd]
            by_cases hba : b = a
            · subst hba
              rw [del_same, na]
            · rw [del_ne hba, upd_ne hba, upd_ne hbd, upd_ne hba]
        rw [eH, ← eK]
        exact q σ _ _ (some dx) (r.alloc ndx) (.inr ⟨dx, [(f, v)], rfl, upd_same, .cons (h1.mono (Same.new (r.core.nF ndx))) .nil⟩)
    · exact q.elim
end
/-! ### a def -/
def startE (n : Nat) (ds : List D) : En := ds.map .fz ++ List.replicate (n - ds.length) .un
def mirror (n : Nat) (m : MS) : Mr := fun ds x => match m (startE n ds) x with
  | .nx _ x' => .val .non x'
  | .ret d x' => .val d x'
  | .exc c fs _ x' => .exc c fs x'
  | _ => .out
theorem rel_start {S : Cf} {H : Hp} {x : Bx} {vs : List V} {ds : List D} (N : List Str) (c : Core S S.F0 H x) (r : RepL S.K S.b S.F0 vs ds) : Rel S S.F0 H (L2.start N vs) (startE N.length ds) x where
  core := c
  len := by
    unfold L2.start startE
    rw [List.length_append, List.length_append, List.length_map, List.length_map, List.length_replicate, List.length_replicate, r.length]
  slot := fun i s e => by
    unfold startE at e
    unfold L2.start
    by_cases hi : i < ds.length
    · rw [List.getElem?_append_left (by rw [List.length_map]; exact hi), List.getElem?_map, List.getElem?_eq_getElem hi] at e
      cases e
      obtain ⟨v, ev, hv⟩ := r.get (List.getElem?_eq_getElem hi)
      refine ⟨some v, ?_, v, rfl, hv⟩
      rw [List.getElem?_append_left (by rw [List.length_map, r.length]; exact hi), List.getElem?_map, ev]
      rfl
    · rw [List.getElem?_append_right (by rw [List.length_map]; omega)] at e
      have hs : s = .un := (List.mem_replicate.mp (List.mem_of_getElem? e)).2
      subst hs
      have hl := (List.getElem?_eq_some_iff.mp e).1
      rw [List.length_map, List.length_replicate] at hl
      refine ⟨none, ?_, trivial⟩
      rw [List.getElem?_append_right (by rw [List.length_map, r.length]; omega), List.length_map, r.length]
      exact List.getElem?_replicate_of_lt hl
  dist := fun i j s t p _ e _ o _ _ => by
    unfold startE at e
    by_cases hi : i < ds.length
    · rw [List.getElem?_append_left (by rw [List.length_map]; exact hi), List.getElem?_map, List.getElem?_eq_getElem hi] at e
      cases e
      cases o
    · rw [List.getElem?_append_right (by rw [List.length_map]; omega)] at e
      have hs : s = .un := (List.mem_replicate.mp (List.mem_of_getElem? e)).2
      subst hs
      cases o
abbrev WD (E : XK) : WX := fun cls d _ H => E cls d H
section
variable {P : Program} {w : World} {K : PySem.W.Frag}
  {mg : Str → Option Value} {base : Heap}
theorem def_ok {x qual : Str} {st : Stmt} {f : Addr} {fd : FuncData} {N ps : List Str} {k : Nat} {m : MS} (F : Fun K x qual st f fd) (Sc : FnScope N ps (defScope st))
    (body : ∀ (cdv : Value) (A : Around) (outer : List PySem.Env) (s : Shared) (H : Hp) (E : XK), Room k (A.deeper (PyProof.Rows.envOfC qual (defScope st) s.heap.objs.size f cdv)) → PSs (cxOf (L2.CX P w) P w K mg base N qual (defScope st) f cdv A outer s H E) (defBody st) (rdS K (WD E) m)) :
    FnOk P w K mg base (L2.CX P w) (k + 1) f fd ps (spM K ps.length (mirror N.length m)) := by
  refine F.okX Sc (fun vs H Q E h => ?_) (fun cdv A outer s H vs Q E hr h => ⟨_, body cdv A outer s H E hr, ?_⟩)
  · obtain ⟨S, x, ds, _, _, _, r, hl, _⟩ := h
    rw [r.length, hl]
  · obtain ⟨S, x, ds, eK, eH, c, r, hl, p⟩ := h
    subst eH
    refine ⟨S, S.F0, startE N.length ds, x, eK, rel_start N c r, ?_⟩
    unfold mirror at p
    cases e : m (startE N.length ds) x with
    | nx ρ x' =>
      rw [e] at p
      exact fun σ F H r => p .non F H r.core .non
    | ret d x' =>
      rw [e] at p
      exact fun v F H c hv => p v F H c hv
    | exc c fs ρ x' =>
      rw [e] at p
      exact fun σ F H dd r hd => p F H dd r.core hd
    | retN ds x' =>
      rw [e] at p
      exact fun q vs F H c a1 a2 a3 a4 a5 => p.elim
    | brk ρ x' =>
      rw [e] at p
      exact p.elim
    | cnt ρ x' =>
      rw [e] at p
      exact p.elim
    | out =>
      rw [e] at p
      exact p
end
end Mi

/-! Mi11: defs by their names, calls by keywords, fresh lists returned, the box handed on, the law's end. -/
namespace Mi
open PySem PySem.Spec L2
/-! ### defs by their names -/
structure RawD (K : PySem.W.Frag) (mg : Str → Option Value) (x : Str) (st : Stmt) (ps : List Str) : Prop where
  ex : ∃ fd, Fun K x x st (He.ga K x) fd ∧ Binds K fd ps [] ∧ ∀ (s : Shared) (ws : List Value), ws.length = ps.length → BindsTo s fd ⟨[], ps.zip ws⟩ (ps.zip ws)
  gm : mg x = some (.ref (He.ga K x))
structure OkS (P : Program) (w : World) (K : PySem.W.Frag) (mg : Str → Option Value) (base : Heap) (k : Nat) (x : Str) (ps : List Str) (sp : Sp) : Prop where
  ex : ∃ fd, FnOk P w K mg base (L2.CX P w) k (He.ga K x) fd ps sp ∧ Binds K fd ps [] ∧ ∀ (s : Shared) (ws : List Value), ws.length = ps.length → BindsTo s fd ⟨[], ps.zip ws⟩ (ps.zip ws)
  gm : mg x = some (.ref (He.ga K x))
  kp : PySem.W.keepIn K (.ref (He.ga K x)) = true
abbrev OkD (P : Program) (w : World) (K : PySem.W.Frag) (mg : Str → Option Value) (base : Heap) (k : Nat) (x : Str) (ps : List Str) (f : Mr) : Prop := OkS P w K mg base k x ps (spM K ps.length f)
section
variable {P : Program} {w : World} {K : PySem.W.Frag}
  {mg : Str → Option Value} {base : Heap}
theorem okD {x : Str} {st : Stmt} {N ps : List Str} {k k' n : Nat} {m : MS} (R : RawD K mg x st ps) (Sc : FnScope N ps (defScope st)) (hn : N.length = n) (hk : k' = k + 1)
    (body : ∀ (f : Addr) (cdv : Value) (A : Around) (outer : List PySem.Env) (s : Shared) (H : Hp) (E : XK), Room k (A.deeper (PyProof.Rows.envOfC x (defScope st) s.heap.objs.size f cdv)) → PSs (cxOf (L2.CX P w) P w K mg base N x (defScope st) f cdv A outer s H E) (defBody st) (rdS K (WD E) m)) :
    OkD P w K mg base k' x ps (mirror n m) := by
  subst hn hk
  obtain ⟨fd, F, b, kb⟩ := R.ex
  exact ⟨⟨fd, def_ok F Sc (body (He.ga K x)), b, kb⟩, R.gm, F.kp⟩
theorem okD_out {x : Str} {st : Stmt} {ps : List Str} {k : Nat} (R : RawD K mg x st ps) : OkD P w K mg base k x ps (fun _ _ => .out) := by
  obtain ⟨fd, F, b, kb⟩ := R.ex
  refine ⟨⟨fd, ⟨fun vs H Q E h => ?_, fun A outer s H args us vs Q E _ _ _ _ h => ?_⟩, b, kb⟩, R.gm, F.kp⟩
  · obtain ⟨_, _, _, _, _, _, _, _, p⟩ := h
    exact p.elim
  · obtain ⟨_, _, _, _, _, _, _, _, p⟩ := h
    exact p.elim
theorem OkS.mono {x : Str} {ps : List Str} {sp : Sp} {j k : Nat} (h : j ≤ k) (O : OkS P w K mg base j x ps sp) : OkS P w K mg base k x ps sp := by
  obtain ⟨fd, F, b, kb⟩ := O.ex
  exact ⟨⟨fd, F.mono h, b, kb⟩, O.gm, O.kp⟩
theorem OkD.to {x : Str} {ps : List Str} {f g : Mr} {k : Nat} (O : OkD P w K mg base k x ps f) (e : f = g) : OkD P w K mg base k x ps g := e ▸ O
end
section
variable {X : Cx} {W : WX} {ps : List Str} {k : Nat} {g : Mr} {ms : MM (List D)} {y : Str} {e : Expr} {es : List Expr} {p pos : Pos}
theorem j_callD {n : Nat} (O : OkD X.prog X.w X.K X.mg X.base k y ps g) (hr : Room k X.A) (tk : Takes X W) (ha : PA X (e :: es) (rdA X.K W ms)) (hn : ps.length = n := by rfl) (hg : Gl X y := by rfl) (hdb : (y == ("__debug__" : Str)) = false := by decide) (he : starEach (e :: es) X.env = (false, eval e X.env) :: starEach es X.env := by rfl) (hpl : (backTo pos (starEach es X.env)).any (·.1) = false := by rfl) :
    PE X (.Call (.Name y p) (e :: es) [] pos) (rdE X.K W (mDef n g ms)) := by
  subst hn
  obtain ⟨fd, F, b, _⟩ := O.ex
  exact j_call F hr tk hg O.gm O.kp b ha hdb he hpl
/-- a call that lets nothing out -/
def mDef0 (n : Nat) (f : Mr) (ms : MM (List D)) : MM D := mBind ms fun ds => fun _ x => if ds.length = n then (match f ds x with
  | .val d x' => .val d x'
  | _ => .out) else .out
theorem spM0 {K : PySem.W.Frag} {S : Cf} {F H : Hp} {σ : L2.St} {ρ : En} {x : Bx} {n : Nat} {f : Mr} {vs : List V} {ds : List D} {Q : VK} (eK : S.K = K) (r : Rel S F H σ ρ x) (h : RepL S.K S.b F vs ds)
    (p : Post rlD S W σ F H ρ (if ds.length = n then (match f ds x with
      | .val d x' => .val d x'
      | _ => .out) else .out) Q) : spM K n f vs H Q E0 := by
  split at p
  · rename_i hz
    refine ⟨⟨S.K, S.b, H, F⟩, x, ds, eK, rfl, r.core.enter, h, hz, ?_⟩
    cases e2 : f ds x with
    | out =>
      rw [e2] at p
      exact p
    | val d x3 =>
      rw [e2] at p
      intro v F3 H3 c3 h3
      obtain ⟨a1, a2, a3⟩ := r.back c3
      exact p v F3 H3 a1 a2 a3 h3
    | exc c fs x3 =>
      rw [e2] at p
      exact p.elim
  · exact p.elim
theorem rd_kw {K : PySem.W.Frag} {ms : MM (List D)} {k : List D → MM D} {σ : L2.St} {H : Hp} {Q : VK} {Q' : List V → Hp → Prop} (h : rdE K W (mBind ms k) σ H Q) (q : ∀ S F H' ρ x vs ds, S.K = K → Rel S F H' σ ρ x → RepL S.K S.b F vs ds → Post rlD S W σ F H' ρ (k ds ρ x) Q → Q' vs H') : rdA K W ms σ H Q' := by
  obtain ⟨S, F, ρ, x, eK, rr, p⟩ := rd_bind (rl := rlL) h
  refine ⟨S, F, ρ, x, eK, rr, ?_⟩
  cases e : ms ρ x with
  | val a x1 =>
    rw [e] at p
    intro v F' H' r1 s1 k1 h1
    obtain ⟨S2, F2, ρ2, x2, a2, eK2, rr2, h2, p2⟩ := p v F' H' r1 s1 k1 h1
    exact q S2 F2 H' ρ2 x2 v a2 eK2 rr2 h2 p2
  | exc c fs x1 =>
    rw [e] at p
    exact p
  | out =>
    rw [e] at p
    exact p
theorem jk_nil : PK X [] (rdA X.K W mNil) := ⟨fun pos pins s σ H Q I h => by
  obtain ⟨S, F, ρ, x, eK, r, p⟩ := h
  exact pk_nil.run pos pins s σ H Q I (post_val (rl := rlL) r p .nil)⟩
theorem jk_cons {nm : Option Str} {kpos : Pos} {kws : List Keyword} {m : MM D} {ms : MM (List D)} (he : PE X e (rdE X.K W m)) (hr : PK X kws (rdA X.K W ms)) : PK X (⟨nm, e, kpos⟩ :: kws) (rdA X.K W (mCons m ms)) := ⟨fun pos pins s σ H Q I h => (pk_cons he hr).run pos pins s σ H Q I (by
  refine (show rdE X.K W m σ H fun x H1 => rdA X.K W ms σ H1 fun xs H2 => Q (x :: xs) H2 from ?_)
  obtain ⟨S, F, ρ, x, eK, rr, p⟩ := rd_bind (rl := rlD) h
  refine ⟨S, F, ρ, x, eK, rr, ?_⟩
  cases e : m ρ x with
  | val a x1 =>
    rw [e] at p
    intro v F' H' r1 s1 k1 h1
    obtain ⟨S2, F2, ρ2, x2, eK2, rr2, p2⟩ := rd1_bind (rl1 := rlL) mono_D (p v F' H' r1 s1 k1 h1)
    refine ⟨S2, F2, ρ2, x2, eK2, rr2, ?_⟩
    cases e2 : ms ρ2 x2 with
    | val b x3 =>
      rw [e2] at p2
      intro v2 F3 H3 r3 s3 k3 h3
      obtain ⟨S4, F4, ρ4, x4, a4, b4, eK4, rr4, ha4, hb4, p4⟩ := p2 v2 F3 H3 r3 s3 k3 h3
      exact post_val (rl := rlL) rr4 p4 (.cons ha4 hb4)
    | exc c fs x3 =>
      rw [e2] at p2
      exact p2
    | out =>
      rw [e2] at p2
      exact p2
  | exc c fs x1 =>
    rw [e] at p
    exact p
  | out =>
    rw [e] at p
    exact p)⟩
/-- g(a = e, ..), all parameters by their names, in their order -/
theorem j_callK0 {kws : List Keyword} {n : Nat} (O : OkD X.prog X.w X.K X.mg X.base k y ps g) (hr : Room k X.A) (hkw : PK X kws (rdA X.K W ms)) (hn : ps.length = n := by rfl) (hks : (backToKw pos (keywordEach kws X.env)).filterMap (·.1) = ps := by rfl) (hall : (backToKw pos (keywordEach kws X.env)).all (·.1.isSome) = true := by rfl) (hg : Gl X y := by rfl) (hdb : (y == ("__debug__" : Str)) = false := by decide)
    (hpl : ((backTo pos (starEach [] X.env)).any (·.1) || (backToKw pos (keywordEach kws X.env)).any (·.1.isNone)) = false :=
      by rfl) :
    PE X (.Call (.Name y p) [] kws pos) (rdE X.K W (mDef0 n g ms)) := by
  subst hn
  obtain ⟨fd, F, _, kb⟩ := O.ex
  refine ⟨fun pins s σ H Q I h =>
    ?_⟩
  refine wpAny_Call_Name_kw (ld_glob I hg O.gm ?_ hdb)
  have h2 : rdA X.K W ms σ H fun zs H2 => spM X.K ps.length g zs H2 Q E0 := rd_kw h fun S F H' ρ x vs ds eK r hv p => spM0 eK r hv p
  refine PySem.W.callWith_KW0 (h₀ := X.base) I.ok.mod.kin O.kp hall (thn (hkw.run pos pins s σ H _ I h2) fun ws s2 ⟨zs, H2, I2, rz, q2⟩ => ⟨I2.kIn, ?_⟩) hpl
  rw [hks]
  have hl : ws.length = ps.length := by
    rw [← rz.length]
    exact F.len _ _ _ _ q2
  refine wpAny_call (codeAny_mono (F.run X.A X.stack s2 H2 ⟨[], ps.zip ws⟩ ws zs Q E0 hr I2.env0 (kb s2 ws hl) rz q2) fun r s' hq => ?_)
  cases r with
  | error e => exact passL (X := X) pins σ H2 s2 e s' I2 hq
  | ok fl =>
    cases fl with
    | ret u => exact I2.after hq
    | next => exact False.elim hq
    | brk => exact False.elim hq
    | cont => exact False.elim hq
/-- g() -/
theorem j_call0 (O : OkD X.prog X.w X.K X.mg X.base k y [] g) (hr : Room k X.A) (hg : Gl X y := by rfl) (hdb : (y == ("__debug__" : Str)) = false := by decide) : PE X (.Call (.Name y p) [] [] pos) (rdE X.K W (mDef0 0 g mNil)) := by
  obtain ⟨fd, F, b, _⟩ := O.ex
  refine peI (pe_call0 F hr hg O.gm O.kp b .nil passL hdb) fun σ H Q h => ?_
  obtain ⟨S, F, ρ, x, eK, r, p⟩ := h
  exact spM0 (vs := []) (ds := []) eK r .nil p

/-! ### fresh lists returned -/
theorem js_retL {e : Expr} {pos : Pos} {m : MM (List D)} (he : PE X e (rdN X.K W m)) : PS X (.Return (some e) pos) (rdS X.K W (mE m fun ds _ x => .retN ds x)) :=
  psI (ps_ret he) fun D σ H h => rd_EN h fun S F H' ρ x p ds eK r n q => by
    obtain ⟨vs, hH, hr⟩ := n.hH
    exact q p vs F H' r.core n.nb n.n0 n.nF hH hr
abbrev MrN := List D → Bx → R (List D)
def spN (K : PySem.W.Frag) (n : Nat) (f : MrN) : Sp := fun vs H Q _ => ∃ S x ds, S.K = K ∧ S.H0 = H ∧ Core S S.F0 H x ∧ RepL S.K S.b S.F0 vs ds ∧ ds.length = n ∧ ∃ es x', f ds x = .val es x' ∧ ∀ p us F' H', Core S F' H' x' → S.b ≠ some p → S.H0 p = none → F' p = none → H' p = some (.lst us) → RepL S.K S.b F' us es → Q (.ref p) H'
def mirrorN (n : Nat) (m : MS) : MrN := fun ds x => match m (startE n ds) x with
  | .retN es x' => .val es x'
  | _ => .out
abbrev OkN (P : Program) (w : World) (K : PySem.W.Frag) (mg : Str → Option Value) (base : Heap) (k : Nat) (x : Str) (ps : List Str) (f : MrN) : Prop := OkS P w K mg base k x ps (spN K ps.length f)
end
section
variable {P : Program} {w : World} {K : PySem.W.Frag}
  {mg : Str → Option Value} {base : Heap}
theorem okN {x : Str} {st : Stmt} {N ps : List Str} {k k' n : Nat} {m : MS} (R : RawD K mg x st ps) (Sc : FnScope N ps (defScope st)) (hn : N.length = n) (hk : k' = k + 1)
    (body : ∀ (f : Addr) (cdv : Value) (A : Around) (outer : List PySem.Env) (s : Shared) (H : Hp) (E : XK), Room k (A.deeper (PyProof.Rows.envOfC x (defScope st) s.heap.objs.size f cdv)) → PSs (cxOf (L2.CX P w) P w K mg base N x (defScope st) f cdv A outer s H E) (defBody st) (rdS K (WD E) m)) :
    OkN P w K mg base k' x ps (mirrorN n m) := by
  subst hn hk
  obtain ⟨fd, F, b, kb⟩ := R.ex
  refine ⟨⟨fd, F.okX Sc (fun vs H Q E h => ?_) (fun cdv A outer s H vs Q E hr h => ⟨_, body (He.ga K x) cdv A outer s H E hr, ?_⟩), b, kb⟩, R.gm, F.kp⟩
  · obtain ⟨S, x, ds, _, _, _, r, hl, _⟩ := h
    rw [r.length, hl]
  · obtain ⟨S, x, ds, eK, eH, c, r, hl, es, x', ef, p⟩ := h
    subst eH
    refine ⟨S, S.F0, startE N.length ds, x, eK, rel_start N c r, ?_⟩
    unfold mirrorN at ef
    cases e : m (startE N.length ds) x with
    | retN es2 x2 =>
      rw [e] at ef
      cases ef
      exact fun q vs F H c a1 a2 a3 a4 a5 => p q vs F H c a1 a2 a3 a4 a5
    | nx ρ x' =>
      rw [e] at ef
      cases ef
    | ret d x' =>
      rw [e] at ef
      cases ef
    | exc c fs ρ x' =>
      rw [e] at ef
      cases ef
    | brk ρ x' =>
      rw [e] at ef
      cases ef
    | cnt ρ x' =>
      rw [e] at ef
      cases ef
    | out =>
      rw [e] at ef
      cases ef
end
section
variable {X : Cx} {W : WX} {ps : List Str} {k : Nat} {ms : MM (List D)} {y : Str} {e : Expr} {es : List Expr} {p pos : Pos}
def mDefN (n : Nat) (f : MrN) (ms : MM (List D)) : MM (List D) := mBind ms fun ds => fun _ x => if ds.length = n then (match f ds x with
  | .val d x' => .val d x'
  | _ => .out) else .out
theorem j_callN {g : MrN} {n : Nat} (O : OkN X.prog X.w X.K X.mg X.base k y ps g) (hr : Room k X.A) (ha : PA X (e :: es) (rdA X.K W ms)) (hn : ps.length = n := by rfl) (hg : Gl X y := by rfl) (hdb : (y == ("__debug__" : Str)) = false := by decide) (he : starEach (e :: es) X.env = (false, eval e X.env) :: starEach es X.env := by rfl) (hpl : (backTo pos (starEach es X.env)).any (·.1) = false := by rfl) :
    PE X (.Call (.Name y p) (e :: es) [] pos) (rdN X.K W (mDefN n g ms)) := by
  subst hn
  obtain ⟨fd, F, b, _⟩ := O.ex
  refine peI (pe_call F hr hg O.gm O.kp b .nil passL ha hdb he hpl) fun σ H Q q => rd_toN (rl := rlL) q fun S F H' ρ x vs ds eK r hv p => ?_
  have hv : RepL S.K S.b F vs ds := hv
  split at p
  · rename_i hz
    cases e2 : g ds x with
    | out =>
      rw [e2] at p
      exact p.elim
    | exc c fs x' =>
      rw [e2] at p
      exact p.elim
    | val es2 x' =>
      rw [e2] at p
      rw [List.append_nil]
      refine ⟨⟨S.K, S.b, H', F⟩, x, ds, eK, rfl, r.core.enter, hv, hz, es2, x', e2, fun q us F2 H2 c a1 a2 a3 a4 a5 => ?_⟩
      obtain ⟨b1, b2, b3⟩ := r.back c
      have a2 : H' q = none := a2
      exact p q F2 H2 b1 ⟨a1, r.core.n0 a2, a3, ⟨us, a4, a5⟩, fun i s e o z => r.own_there e o z a2⟩ b2 b3 a2
  · exact p.elim
/-- g(e, es ..), e a new list of three ints: g's box -/
def ints3 : List D → Option Bx
  | [.int a, .int b, .int c] => some (a, b, c)
  | _ => none
def mDefB (g : Mr) (m : MM (List D)) : MM D := mBind m fun ds => fun _ x => match ints3 ds with
  | some bx => (match g [.box] bx with
    | .val d _ => if isSca d then .val d x else .out
    | _ => .out)
  | none => .out
theorem ints3_rep {K : PySem.W.Frag} {b : Option Addr} {F : Hp} {vs : List V} {ds : List D} {bx : Bx} (h : ints3 ds = some bx) (r : RepL K b F vs ds) : HO.lst vs = bxO bx := by
  unfold ints3 at h
  split at h
  · cases h
    cases r with
    | cons h1 r =>
      cases h1
      cases r with
      | cons h2 r =>
        cases h2
        cases r with
        | cons h3 r =>
          cases h3
          cases r
          rfl
  · cases h
theorem j_callB' {q : Str} {g : Mr} {m : MM (List D)} (O : OkD X.prog X.w X.K X.mg X.base k y [q] g) (hr : Room k X.A) (ha : PE X e (rdN X.K W m)) (hg : Gl X y := by rfl) (hdb : (y == ("__debug__" : Str)) = false := by decide) (he : starEach [e] X.env = (false, eval e X.env) :: starEach [] X.env := by rfl) (hpl : (backTo pos (starEach [] X.env)).any (·.1) = false := by rfl) :
    PE X (.Call (.Name y p) [e] [] pos) (rdE X.K W (mDefB g m)) := by
  obtain ⟨fd, F, b, _⟩ := O.ex
  refine peI (pe_call F hr hg O.gm O.kp b .nil passL (pa_cons ha pa_nil he) hdb he hpl) fun σ H Q h => ?_
  obtain ⟨S, F, ρ, x, eK, r, pp⟩ := h
  refine (show rdN X.K W m σ H fun v H1 => spM X.K 1 g ([v] ++ []) H1 Q E0 from ?_)
  refine ⟨S, F, ρ, x, eK, r, ?_⟩
  replace pp : Post rlD S W σ F H ρ ((m ρ x).bind fun ds x => match ints3 ds with
    | some bx => (match g [.box] bx with
      | .val d _ => if isSca d then .val d x else .out
      | _ => .out)
    | none => .out) Q := pp
  cases e1 : m ρ x with
  | out =>
    rw [e1] at pp
    exact pp
  | exc c fs x' =>
    rw [e1] at pp
    exact pp
  | val ds x1 =>
    rw [e1] at pp
    intro a F1 H1 r1 nl s1 k1 n0
    replace pp : Post rlD S W σ F H ρ (match ints3 ds with
      | some bx => (match g [.box] bx with
        | .val d _ => if isSca d then .val d x1 else .out
        | _ => .out)
      | none => .out) Q := pp
    obtain ⟨vs, hH, hv⟩ := nl.hH
    cases e2 : ints3 ds with
    | none =>
      rw [e2] at pp
      exact pp.elim
    | some bx =>
      rw [e2] at pp
      dsimp only at pp
      have eo := ints3_rep e2 hv
      refine ⟨⟨S.K, some a, H1, F1⟩, bx, [.box], eK, rfl, ⟨r1.core.sub, Same.refl _, fun _ _ h => h, fun _ _ h _ => h, fun a' e' => ?_⟩, .cons (.box rfl) .nil, rfl, ?_⟩
      · cases e'
        exact ⟨nl.nF, by rw [hH, eo]⟩
      · cases e3 : g [.box] bx with
        | out =>
          rw [e3] at pp
          exact pp
        | exc c fs x' =>
          rw [e3] at pp
          exact pp.elim
        | val d x' =>
          rw [e3] at pp
          dsimp only at pp
          split at pp
          · rename_i hz
            intro v F' H' c hd
            have ne : ∀ {q : Addr} {o : HO}, S.H0 q = some o → q ≠ a := fun {q o} h z => by
              rw [z, nl.n0] at h
              cases h
            have kq : ∀ q o, H1 q = some o → q ≠ a → H' q = some o := fun q o h hq => c.keep q o h (fun z => hq (Option.some.inj z).symm)
            have fq : ∀ q, H1 q ≠ none → F1 q = none → F' q = none := fun q h1 h2 => c.fresh q h1 h2
            have cS : Core S F' H' x1 := by
              refine ⟨c.sub, r1.core.f0.trans c.f0, fun q h1 h2 => ?_, fun q o h n => kq q o (r1.core.keep q o h n) (ne h), fun b e => ?_⟩
              · cases e : S.H0 q with
                | none => exact (h1 e).elim
                | some o =>
                  by_cases hb : S.b = some q
                  · have h5 := r1.core.box q hb
                    exact fq q (by rw [h5.2]; intro z; cases z) h5.1
                  · exact fq q (by rw [r1.core.keep q o e hb]; intro z; cases z) (r1.core.fresh q h1 h2)
              · have h5 := r1.core.box b e
                have hba : b ≠ a := fun z => nl.nb (z ▸ e)
                exact ⟨fq b (by rw [h5.2]; intro z; cases z) h5.1, kq b _ h5.2 hba⟩
            have rS : Rel S F' H' σ ρ x1 := by
              refine ⟨cS, r1.len, fun i s e => ?_, r1.dist⟩
              obtain ⟨v, e4, hs⟩ := r1.slot i s e
              refine ⟨v, e4, ?_⟩
              cases s with
              | un => trivial
              | fz d =>
                obtain ⟨u, e5, h5⟩ := hs
                exact ⟨u, e5, h5.mono c.f0⟩
              | ol ds =>
                obtain ⟨q, us, e5, b1, b2, b3, b4, b5⟩ := hs
                subst e5
                have hqa : q ≠ a := fun z => nl.nown i _ e rfl (by rw [e4, z])
                exact ⟨q, us, rfl, b1, b2, fq q (by rw [b4]; intro z; cases z) b3, kq q _ b4 hqa, b5.mono c.f0⟩
              | od ds =>
                obtain ⟨q, us, e5, b1, b2, b3, b4, b5⟩ := hs
                subst e5
                have hqa : q ≠ a := fun z => nl.nown i _ e rfl (by rw [e4, z])
                exact ⟨q, us, rfl, b1, b2, fq q (by rw [b4]; intro z; cases z) b3, kq q _ b4 hqa, b5.mono c.f0⟩
            refine pp v F' H' rS (s1.trans c.f0) (fun q o h n => ?_) (Rep.sca hd hz)
            have hqa : q ≠ a := fun z => by
              rw [z, n0] at h
              cases h
            exact kq q o (k1 q o h n) hqa
          · exact pp.elim
end
/-- e or f, both new lists -/
def mOrN (m n : MM (List D)) : MM (List D) := mBind m fun ds => if ds.isEmpty then n else fun _ x => .val ds x
section
variable {X : Cx} {W : WX}
theorem jn_or {a b : Expr} {pos : Pos} {m n : MM (List D)} (ha : PE X a (rdN X.K W m)) (hb : PE X b (rdN X.K W n)) : PE X (.BoolOp .Or [a, b] pos) (rdN X.K W (mOrN m n)) :=
  peI (pe_orT ha (pe_one hb)) fun σ H Q h => by
    refine (show rdN X.K W m σ H fun x H1 => ∃ k, TruV X.K x H1 k ∧ if k = true then Q x H1 else rdN X.K W n σ H1 Q from ?_)
    obtain ⟨S, F, ρ, x, eK, r, p⟩ := h
    refine ⟨S, F, ρ, x, eK, r, ?_⟩
    replace p : PostN S W σ F H ρ ((m ρ x).bind fun ds x => (if ds.isEmpty then n else fun _ x => .val ds x) ρ x) Q := p
    cases e : m ρ x with
    | out =>
      rw [e] at p
      exact p
    | exc c fs x' =>
      rw [e] at p
      exact p
    | val ds x1 =>
      rw [e] at p
      replace p : PostN S W σ F H ρ ((if ds.isEmpty then n else fun _ x => .val ds x) ρ x1) Q := p
      intro q F1 H1 r1 nl s1 k1 n0
      obtain ⟨vs, hH, hr⟩ := nl.hH
      refine ⟨!ds.isEmpty, .inl ⟨vs, sqL hH, by rw [hr.emp]⟩, ?_⟩
      cases hb : ds.isEmpty with
      | true =>
        rw [hb] at p
        rw [if_neg (by decide)]
        exact ⟨S, F1, ρ, x1, eK, r1, p.mono s1 k1⟩
      | false =>
        rw [hb] at p
        rw [if_pos (by decide)]
        exact p q F1 H1 r1 nl s1 k1 n0
/-- an own error class, whole -/
structure ErrO (P : Program) (w : World) (K : PySem.W.Frag) (mg : Str → Option Value) (base : Heap) (c f : Str) : Prop where
  ex : ∃ fd, ErrC K c f fd ∧ FnOk P w K mg base CX0 1 (He.ma K (He.ga K c) "__init__") fd ["self", f] (spI (He.ga K c) f) ∧ Binds K fd ["self", f] []
  gm : mg c = some (.ref (He.ga K c))
theorem js_raiseE {c f : Str} {e : Expr} {p pos pos2 : Pos} {ms : MM (List D)} (hc : X.calm = true) (tk : Takes X W) (E : ErrO X.prog X.w X.K X.mg X.base c f) (hr : Room 2 X.A) (ha : PA X [e] (rdA X.K W ms)) (hg : Gl X c := by rfl)
    (hdb : (c == ("__debug__" : Str)) = false := by decide) (he : starEach [e] X.env = (false, eval e X.env) :: starEach [] X.env := by rfl) (hpl : (backTo pos (starEach [] X.env)).any (·.1) = false := by rfl) :
    PS X (.Raise (some (.Call (.Name c p) [e] [] pos)) none pos2) (rdS X.K W (mRaise c f ms)) := by
  obtain ⟨fd, EC, F, b⟩ := E.ex
  exact js_raise hc tk EC F hr b hg E.gm ha hdb he hpl
end
theorem init_ok {P : Program} {w : World} {K : PySem.W.Frag} {mg : Str → Option Value} {base : Heap} {c f qual : Str} {st : Stmt} {fd : FuncData} (F : Fun K "__init__" qual st (He.ma K (He.ga K c) "__init__") fd) (Sc : FnScope ["self", f] ["self", f] (defScope st)) (T : OexC K (He.ga K c)) (nf : PySem.W.findIn K (.ref (He.ga K c)) f = some none)
    (body : ∀ (cdv : Value) (A : Around) (outer : List PySem.Env) (s : Shared) (H : Hp) (E : XK), ∃ t, PSs (cxOf CX0 P w K mg base ["self", f] qual (defScope st) (He.ma K (He.ga K c) "__init__") cdv A outer s H E).nox (defBody st) t ∧ ∀ D σ H, tOst K f (tVar 0) (tVar 1) D σ H → t D σ H) : FnOk P w K mg base CX0 1 (He.ma K (He.ga K c) "__init__") fd ["self", f] (spI (He.ga K c) f) := by
  refine F.ok Sc (fun vs H Q E h => ?_) (fun cdv A outer s H vs Q E hr h => ?_)
  · obtain ⟨a, v, rfl, _⟩ := h
    rfl
  · obtain ⟨a, v, rfl, hH, q⟩ := h
    obtain ⟨t, ht, hi⟩ := body cdv A outer s H E
    refine ⟨t, ht, hi _ _ _ ?_⟩
    exact ⟨v, rfl, .ref a, rfl, a, _, rfl, T, nf, .inl ⟨hH, fun dx n ne => q dx n ne⟩⟩
theorem ga_eq {K : PySem.W.Frag} {x : Str} {f : Addr} (a : PySem.W.nsIn K mainGlobals x = some (some (.ref f))) : He.ga K x = f := by
  unfold He.ga
  rw [a]
theorem ma_eq {K : PySem.W.Frag} {C f : Addr} {m : Str} (a : PySem.W.findIn K (.ref C) m = some (some (.ref f))) : He.ma K C m = f := by
  unfold He.ma
  rw [a]
theorem rawD_mk {K : PySem.W.Frag} {mg : Str → Option Value} {h : Heap} {x : Str} {st : Stmt} {ps : List Str} {f : Addr} {od an : Option Addr} {osl : Array (Option Value)} {oc kV doc pm cdv ct : Value} (X : K.In h) (G : h.Ns mainGlobals mg) (a : PySem.W.nsIn K mainGlobals x = some (some (.ref f)))
    (l : K.lookup f = some ⟨oc, od, .func (PySem.W.fnOf x x (defArgs st) (defBody st) (defScope st) .none kV doc pm an cdv ct), osl⟩) (c : PySem.W.codeIn K cdv x = true) (k : PySem.W.keepIn K (.ref f) = true)
    (hb : ∀ (kV doc pm : Value) (an : Option Addr) (cdv ct : Value) (us : List Value), us.length = ps.length → bindArgs (PySem.W.fnOf x x (defArgs st) (defBody st) (defScope st) .none kV doc pm an cdv ct) ⟨us, []⟩ = pure (ps.zip us))
    (hk : ∀ (kV doc pm : Value) (an : Option Addr) (cdv ct : Value) (us : List Value), us.length = ps.length → bindArgs (PySem.W.fnOf x x (defArgs st) (defBody st) (defScope st) .none kV doc pm an cdv ct) ⟨[], ps.zip us⟩ = pure (ps.zip us)) : RawD K mg x st ps := by
  have e := ga_eq a
  have F : Fun K x x st f _ := fun_mk (st := st) l c k
  refine ⟨⟨_, e ▸ F, F.binds hb, fun s ws hl => BindsTo.of_eq (hk _ _ _ _ _ _ ws hl)⟩, ?_⟩
  rw [e]
  exact PySem.W.mg_of X G a
/-- the law's end -/
theorem law_sp {K : PySem.W.Frag} {f : Mr} {H : Hp} {a : Addr} {ns : List Int} (hS : SqL K H a (ns.map V.int)) (h : ∃ x', f [.scr ns] (0, 0, 0) = .val (.bl true) x') : spM K 1 f [.ref a] H (fun v _ => v = .bl true) fun _ _ _ => False := by
  obtain ⟨x', h⟩ := h
  refine ⟨⟨K, none, H, H⟩, (0, 0, 0), [.scr ns], rfl, rfl, ⟨Same.refl _, Same.refl _, fun _ _ h => h, fun _ _ h _ => h, fun _ e => nomatch e⟩, .cons (.scr hS) .nil, rfl, ?_⟩
  rw [h]
  intro v F' H' _ hv
  cases hv
  rfl
theorem cx_none {P : Program} {w : World} {H : Hp} {s : Shared} {e : Value} {s' : Shared} (h : L2.CX P w [] H s (fun _ _ _ => False) e s') : False := by
  obtain ⟨_, _, _, _, _, _, _, _, _, _, _, _, z⟩ :=
    h
  exact z
end Mi

/-! Mi12: comparisons as tests. -/
namespace Mi
open PySem PySem.Spec L2
section
variable {X : Cx} {W : WX}
/-- a bool as a test -/
def gTst : D → Option Bool
  | .bl b => some b
  | _ => none
def mTst (m : MM D) : MM Bool := mBind m fun d => oB (gTst d)
theorem rd_tst {K : PySem.W.Frag} {m : MM D} {σ : L2.St} {H : Hp} {Q : Bool → Hp → Prop} (h : rdT K W (mTst m) σ H Q) : rdE K W m σ H fun x H' => ∃ k, x = V.bl k ∧ Q k H' :=
  rd_un (rl := rlB) (r := fun x H' Q => ∃ k, x = V.bl k ∧ Q k H') (fun S F H σ ρ x v a Q eK r hr p => by
    cases hr <;> try exact p.elim
    exact ⟨_, rfl, post_val (rl := rlB) r p rfl⟩) h
theorem j_cmpT {op : CmpOp} {r : R2} {g : D → D → MM D} {ma mb : MM D} {a b : Expr} {pos : Pos} (ho : OpR X (compareOp op) r) (hr : Real2 X.K W r g) (ha : PE X a (rdE X.K W ma)) (hb : PE X b (rdE X.K W mb)) (hm : behindInMarks op b = false) : PT X (.Compare a [op] [b] pos) (rdT X.K W (mTst (mOp g ma mb))) :=
  ptI (pt_cmpR ho ha hb hm) fun σ H Q h => rd_op hr (rd_tst h)
theorem jt_lt {ma mb : MM D} {a b : Expr} {pos : Pos} (ha : PE X a (rdE X.K W ma)) (hb : PE X b (rdE X.K W mb)) : PT X (.Compare a [.Lt] [b] pos) (rdT X.K W (mTst (mOp (fun a b => o1 (gLt a b)) ma mb))) :=
  j_cmpT (op_lt.or op_lt_str) (Real2.or (real_I0 (f := fun i j => .bl (decide (i < j))) fun _ _ => .bl _) real_S) ha hb (nomark _)
theorem jt_le {ma mb : MM D} {a b : Expr} {pos : Pos} (ha : PE X a (rdE X.K W ma)) (hb : PE X b (rdE X.K W mb)) : PT X (.Compare a [.LtE] [b] pos) (rdT X.K W (mTst (mOp (fun a b => o1 (gLe a b)) ma mb))) :=
  j_cmpT (op_le.or op_le_str) (Real2.or (real_I0 (f := fun i j => .bl (decide (i ≤ j))) fun _ _ => .bl _) real_S) ha hb (nomark _)
theorem jt_gt {ma mb : MM D} {a b : Expr} {pos : Pos} (ha : PE X a (rdE X.K W ma)) (hb : PE X b (rdE X.K W mb)) : PT X (.Compare a [.Gt] [b] pos) (rdT X.K W (mTst (mOp (fun a b => o1 (gGt a b)) ma mb))) :=
  j_cmpT (op_gt.or op_gt_str) (Real2.or (real_I0 (f := fun i j => .bl (decide (j < i))) fun _ _ => .bl _) real_S) ha hb (nomark _)
theorem jt_ge {ma mb : MM D} {a b : Expr} {pos : Pos} (ha : PE X a (rdE X.K W ma)) (hb : PE X b (rdE X.K W mb)) : PT X (.Compare a [.GtE] [b] pos) (rdT X.K W (mTst (mOp (fun a b => o1 (gGe a b)) ma mb))) :=
  j_cmpT (op_ge.or op_ge_str) (Real2.or (real_I0 (f := fun i j => .bl (decide (j ≤ i))) fun _ _ => .bl _) real_S) ha hb (nomark _)

theorem jt_eq {ma mb : MM D} {a b : Expr} {pos : Pos} {k : Nat} (hr : Room k X.A) (ha : PE X a (rdE X.K W ma)) (hb : PE X b (rdE X.K W mb)) : PT X (.Compare a [.Eq] [b] pos) (rdT X.K W (mTst (mOp (fun a b => o1 (gEq a b)) ma mb))) :=
  j_cmpT (op_eqD hr.units) real_eq ha hb (nomark _)
theorem jt_ne {ma mb : MM D} {a b : Expr} {pos : Pos} {k : Nat} (hr : Room k X.A) (ha : PE X a (rdE X.K W ma)) (hb : PE X b (rdE X.K W mb)) : PT X (.Compare a [.NotEq] [b] pos) (rdT X.K W (mTst (mOp (fun a b => o1 (gNe a b)) ma mb))) :=
  j_cmpT (op_neD hr.units) real_ne ha hb (nomark _)
theorem jt_isN {ma mb : MM D} {a b : Expr} {pos : Pos} (ha : PE X a (rdE X.K W ma)) (hb : PE X b (rdE X.K W mb)) : PT X (.Compare a [.Is] [b] pos) (rdT X.K W (mTst (mOp (fun a b => o1 (gIsN a b)) ma mb))) :=
  j_cmpT op_isN (fun S F H σ ρ x v1 v2 a b Q eK r ha hb p => by
    cases hb <;> try exact p.elim
    refine ⟨rfl, ?_⟩
    cases ha <;> exact post_val (rl := rlD) r p (.bl _)) ha hb (nomark _)
theorem jt_notN {ma mb : MM D} {a b : Expr} {pos : Pos} (ha : PE X a (rdE X.K W ma)) (hb : PE X b (rdE X.K W mb)) : PT X (.Compare a [.IsNot] [b] pos) (rdT X.K W (mTst (mOp (fun a b => o1 (gNotN a b)) ma mb))) :=
  j_cmpT op_notN (fun S F H σ ρ x v1 v2 a b Q eK r ha hb p => by
    cases hb <;> try exact p.elim
    refine ⟨rfl, ?_⟩
    cases ha <;> exact post_val (rl := rlD) r p (.bl _)) ha hb (nomark _)
theorem j_subP {ma mb : MM D} {a b : Expr} {pos : Pos} (ha : PE X a (rdE X.K W ma)) (hb : PE X b (rdE X.K W mb)) (hs : PlainIx b := by exact fun _ _ => rfl) : PE X (.Subscript a b pos) (rdE X.K W (mOp (fun a b => o1 (gIx a b)) ma mb)) :=
  j_ix ix_seq real_ix ha hb hs
end
end Mi

/-! Mi13: mirrors that never look at the box. -/
namespace Mi
open PySem PySem.Spec L2
def R.st {α : Type} (x : Bx) : R α → R α
  | .val a _ => .val a x
  | .exc c fs _ => .exc c fs x
  | .out => .out
def RS.st (x : Bx) : RS → RS
  | .nx ρ _ => .nx ρ x
  | .brk ρ _ => .brk ρ x
  | .cnt ρ _ => .cnt ρ x
  | .ret d _ => .ret d x
  | .retN d _ => .retN d x
  | .exc c fs ρ _ => .exc c fs ρ x
  | .out => .out
def b0 : Bx := (0, 0, 0)
def Pu {α : Type} (m : MM α) : Prop := ∀ ρ x, m ρ x = (m ρ b0).st x
def PuS (m : MS) : Prop := ∀ ρ x, m ρ x = (m ρ b0).st x
def PuF (f : Mr) : Prop := ∀ ds x, f ds x = (f ds b0).st x
section
variable {α β : Type}
theorem R.st_st {r : R α} {x y : Bx} : (r.st x).st y = r.st y := by cases r <;> rfl
theorem RS.st_st {r : RS} {x y : Bx} : (r.st x).st y = r.st y := by cases r <;> rfl
theorem Pu.bind {m : MM α} {k : α → MM β} (h : Pu m) (hk : ∀ a, Pu (k a)) : Pu (mBind m k) := by
  intro ρ x
  unfold mBind
  rw [h ρ x]
  cases e : m ρ b0 with
  | val a x1 =>
    show k a ρ x = ((k a ρ x1)).st x
    rw [hk a ρ x, hk a ρ x1, R.st_st]
  | exc c fs x1 => rfl
  | out => rfl
theorem pu_val {a : α} : Pu (fun _ x => .val a x) := fun _ _ => rfl
theorem pu_out : Pu (fun _ _ => (.out : R α)) := fun _ _ => rfl
theorem pu_oB {o : Option α} : Pu (oB o) := by
  intro ρ x
  cases o <;> rfl
theorem pu_o1 {o : Option D} : Pu (o1 o) := by
  intro ρ x
  cases o <;> rfl
theorem pu_var {i : Nat} : Pu (mVar i) := by
  intro ρ x
  unfold mVar
  split <;> rfl
theorem pu_c {d : D} : Pu (mC d) := fun _ _ => rfl
theorem pu_nil : Pu mNil := fun _ _ => rfl
theorem pu_yes : Pu mYes := fun _ _ => rfl
theorem pu_noPart : Pu mNoPart := fun _ _ => rfl
theorem pu_if {c : Bool} {m n : MM α} (h : Pu m) (h' : Pu n) : Pu (if c = true then m else n) := by
  cases c
  · exact h'
  · exact h
theorem pu_if' {c : Prop} [Decidable c] {m n : MM α} (h : Pu m) (h' : Pu n) : Pu (if c then m else n) := by
  split
  · exact h
  · exact h'
theorem pu_cons {m : MM D} {ms : MM (List D)} (h : Pu m) (h' : Pu ms) : Pu (mCons m ms) := h.bind fun _ => h'.bind fun _ => pu_val
theorem pu_tup {ms : MM (List D)} (h : Pu ms) : Pu (mTup ms) := h.bind fun ds => by
  intro ρ x
  show (if _ then _ else _) = R.st x (if _ then _ else _)
  split <;> rfl
theorem pu_lst {ms : MM (List D)} (h : Pu ms) : Pu (mLst ms) := h.bind fun ds => by
  intro ρ x
  show (if _ then _ else _) = R.st x (if _ then _ else _)
  split <;> rfl
theorem pu_lstN {ms : MM (List D)} (h : Pu ms) : Pu (mLstN ms) := h.bind fun ds => by
  intro ρ x
  show (if _ then _ else _) = R.st x (if _ then _ else _)
  split <;> rfl
theorem pu_op {g : D → D → MM D} {m n : MM D} (hg : ∀ a b, Pu (g a b)) (h : Pu m) (h' : Pu n) : Pu (mOp g m n) := h.bind fun _ => h'.bind fun _ => hg _ _
theorem pu_call {g : List D → Option D} {ms : MM (List D)} (h : Pu ms) : Pu (mCall g ms) := h.bind fun _ => pu_o1
theorem pu_tru {m : MM D} (h : Pu m) : Pu (mTru m) := h.bind fun _ => pu_oB
theorem pu_tst {m : MM D} (h : Pu m) : Pu (mTst m) := h.bind fun _ => pu_oB
theorem pu_tor {m n : MM Bool} (h : Pu m) (h' : Pu n) : Pu (mTOr m n) := h.bind fun _ => pu_if pu_val h'
theorem pu_tand {m n : MM Bool} (h : Pu m) (h' : Pu n) : Pu (mTAnd m n) := h.bind fun _ => pu_if h' pu_val
theorem pu_tnot {m : MM Bool} (h : Pu m) : Pu (mTNot m) := h.bind fun _ => pu_val
theorem pu_asB {m : MM D} (h : Pu m) : Pu (asB m) := h.bind fun d => by
  intro ρ x
  cases d <;> rfl
theorem pu_andV {m n : MM D} (h : Pu m) (h' : Pu n) : Pu (mAndV m n) := (pu_asB h).bind fun _ => pu_if h' pu_val
theorem pu_orV {m n : MM D} (h : Pu m) (h' : Pu n) : Pu (mOrV m n) := (pu_asB h).bind fun _ => pu_if pu_val h'
theorem pu_notV {m : MM D} (h : Pu m) : Pu (mNotV m) := (pu_asB h).bind fun _ => pu_val
theorem pu_isi {T : String} {m : MM D} (h : Pu m) : Pu (mIsi T m) := h.bind fun _ => pu_o1
theorem pu_isi2 {T U : String} {m : MM D} (h : Pu m) : Pu (mIsi2 T U m) := h.bind fun _ => pu_o1
theorem pu_m0 {g : Str → Option D} {m : MM D} (h : Pu m) : Pu (mM0 g m) := h.bind fun _ => pu_o1
theorem pu_m1 {g : Str → List D → Option D} {m : MM D} {ms : MM (List D)} (h : Pu m) (h' : Pu ms) : Pu (mM1 g m ms) := h.bind fun d => by
  cases isS d with
  | none => exact pu_out
  | some s => exact h'.bind fun _ => pu_o1
theorem pu_splitN {m : MM D} {ms : MM (List D)} (h : Pu m) (h' : Pu ms) : Pu (mSplitN m ms) := h.bind fun d => by
  cases isS d with
  | none => exact pu_out
  | some s => exact h'.bind fun _ => pu_oB
theorem pu_part {m : MM D} (h : Pu m) : Pu (mPart m) := h.bind fun d => by
  cases d <;> first | exact pu_val | exact pu_out
theorem pu_slice {m : MM D} {lo hi : MM (Option Int)} (h : Pu m) (h1 : Pu lo) (h2 : Pu hi) : Pu (mSlice m lo hi) := h.bind fun _ => h1.bind fun _ => h2.bind fun _ => pu_o1
theorem pu_mIf {t : MM Bool} {m n : MM α} (h : Pu t) (h1 : Pu m) (h2 : Pu n) : Pu (mIf t m n) := h.bind fun _ => pu_if h1 h2
theorem pu_fmt {m : MM D} (h : Pu m) : Pu (mFmt m) := h.bind fun d => by
  intro ρ x
  cases d <;> first | rfl | skip
  · show (if _ then _ else _ : MM D) ρ x = R.st x ((if _ then _ else _ : MM D) ρ b0)
    split <;> rfl
  · show (if _ then _ else _ : MM D) ρ x = R.st x ((if _ then _ else _ : MM D) ρ b0)
    split <;> rfl
theorem pu_bor {m : MM D} (h : Pu m) : Pu (mBor m) := by
  intro ρ x
  unfold mBor
  rw [h]
  cases m (frzS allS ρ) b0 with
  | val a x1 =>
    show (if _ then _ else _) = R.st x (if _ then _ else _)
    split <;> rfl
  | exc c fs x1 => rfl
  | out => rfl
theorem pu_def {n : Nat} {f : Mr} {ms : MM (List D)} (h : PuF f) (h' : Pu ms) : Pu (mDef n f ms) := h'.bind fun ds => by
  intro ρ x
  show (if _ then _ else _) = R.st x (if _ then _ else _)
  split
  · exact h ds x
  · rfl
theorem pu_def0 {n : Nat} {f : Mr} {ms : MM (List D)} (h : PuF f) (h' : Pu ms) : Pu (mDef0 n f ms) := h'.bind fun ds => by
  intro ρ x
  show (if _ then _ else _) = R.st x (if _ then _ else _)
  split
  · rw [h ds x]
    cases f ds b0 <;> rfl
  · rfl
theorem pu_J : ∀ (ms : List (MM D)) (acc : Str), (∀ m ∈ ms, Pu m) → Pu (mJ ms acc)
  | [], acc, _ => pu_val
  | m :: ms, acc, h => by
    unfold mJ
    refine (h m (List.mem_cons_self ..)).bind fun d => ?_
    cases isS d with
    | none => exact pu_out
    | some y => exact pu_if' (pu_J ms _ fun m' hm => h m' (List.mem_cons_of_mem _ hm)) pu_out
theorem allM_nil : ∀ m ∈ ([] : List (MM D)), Pu m := fun _ h => nomatch h
theorem allM_cons {m : MM D} {ms : List (MM D)} (h : Pu m) (h' : ∀ m ∈ ms, Pu m) : ∀ m' ∈ m :: ms, Pu m' := fun m' hm => by
  cases hm with
  | head => exact h
  | tail _ hm => exact h' m' hm
theorem pu_iter {m : MM D} (h : Pu m) : Pu (mIter m) := h.bind fun _ => pu_oB
theorem pu_lcRun {tg : Tg} {c : MM Bool} {e : MM D} (hc : Pu c) (he : Pu e) {ρ : En} : ∀ (ds acc : List D) (x : Bx), lcRun tg c e ρ ds acc x = (lcRun tg c e ρ ds acc b0).st x
  | [], acc, x => rfl
  | d :: ds, acc, x => by
    unfold lcRun
    cases tg.asg d ρ with
    | none => rfl
    | some ρ1 =>
      dsimp only
      rw [hc ρ1 x]
      cases c ρ1 b0 with
      | val b x1 =>
        cases b with
        | true =>
          show (match e ρ1 x with
            | .val e2 x2 => if acc.length < big then lcRun tg c e ρ ds (acc ++ [e2]) x2 else .out
            | _ => .out) = R.st x (match e ρ1 x1 with
            | .val e2 x2 => if acc.length < big then lcRun tg c e ρ ds (acc ++ [e2]) x2 else .out
            | _ => .out)
          rw [he ρ1 x, he ρ1 x1]
          cases e ρ1 b0 with
          | val d2 x2 =>
            show (if acc.length < big then lcRun tg c e ρ ds (acc ++ [d2]) x else .out) = R.st x (if acc.length < big then lcRun tg c e ρ ds (acc ++ [d2]) x1 else .out)
            split
            · rw [pu_lcRun hc he ds _ x, pu_lcRun hc he ds _ x1, R.st_st]
            · rfl
          | exc _ _ _ => rfl
          | out => rfl
        | false =>
          show lcRun tg c e ρ ds acc x = R.st x (lcRun tg c e ρ ds acc x1)
          rw [pu_lcRun hc he ds _ x, pu_lcRun hc he ds _ x1, R.st_st]
      | exc _ _ _ => rfl
      | out => rfl
theorem pu_lcL {mi : MM (List D)} {tg : Tg} {c : MM Bool} {e : MM D} {own : List Nat} (hi : Pu mi) (hc : Pu c) (he : Pu e) : Pu (mLcL mi tg c e own) := by
  intro ρ x
  unfold mLcL
  rw [hi ρ x]
  cases mi ρ b0 with
  | val ds x1 =>
    show lcRun tg c e (wipeE (shut ρ) own) ds [] x = R.st x (lcRun tg c e (wipeE (shut ρ) own) ds [] x1)
    rw [pu_lcRun hc he ds _ x, pu_lcRun hc he ds _ x1, R.st_st]
  | exc _ _ _ => rfl
  | out => rfl
theorem pu_lc {mi : MM (List D)} {tg : Tg} {c : MM Bool} {e : MM D} {own : List Nat} (hi : Pu mi) (hc : Pu c) (he : Pu e) : Pu (mLc mi tg c e own) := (pu_lcL hi hc he).bind fun _ => pu_val
theorem pu_frz {m : MS} {sel : Nat → Bool} (h : PuS m) : PuS (fun ρ x => m (frzS sel ρ) x) := fun ρ x => h (frzS sel ρ) x
theorem pu_next : PuS mNext := fun _ _ => rfl
theorem pu_e {m : MM α} {k : α → MS} (h : Pu m) (hk : ∀ a, PuS (k a)) : PuS (mE m k) := by
  intro ρ x
  unfold mE
  rw [h ρ x]
  cases m ρ b0 with
  | val a x1 =>
    show k a ρ x = (k a ρ x1).st x
    rw [hk a ρ x, hk a ρ x1, RS.st_st]
  | exc c fs x1 => rfl
  | out => rfl
theorem pu_seq {m n : MS} (h : PuS m) (h' : PuS n) : PuS (mSeq m n) := by
  intro ρ x
  unfold mSeq
  rw [h ρ x]
  cases m ρ b0 with
  | nx ρ1 x1 =>
    show n ρ1 x = (n ρ1 x1).st x
    rw [h' ρ1 x, h' ρ1 x1, RS.st_st]
  | _ => rfl
theorem pu_ifS {t : MM Bool} {m n : MS} (h : Pu t) (h1 : PuS m) (h2 : PuS n) : PuS (mIfS t m n) := pu_e h fun c => by
  cases c
  · exact h2
  · exact h1
theorem pu_ret {m : MM D} (h : Pu m) : PuS (mRet m) := pu_e h fun _ _ _ => rfl
theorem pu_asg {tg : Tg} {m : MM D} (h : Pu m) : PuS (mAsg tg m) := pu_e h fun d ρ x => by
  cases tg.asg d ρ <;> rfl
theorem pu_raise {c f : Str} {ms : MM (List D)} (h : Pu ms) : PuS (mRaise c f ms) := pu_e h fun ds ρ x => by
  match ds with
  | [] => rfl
  | [d] => rfl
  | _ :: _ :: _ => rfl
theorem pu_eo {m : MM (List D)} {i : Nat} (h : Pu m) : PuS (mE m fun ds ρ x => .nx (ρ.set i (.ol ds)) x) := pu_e h fun _ _ _ => rfl
theorem pu_par {i j : Nat} {ms : MM (List D)} (h : Pu ms) : PuS (mPar i j ms) := pu_e h fun ds ρ x => by
  match ds with
  | [] => rfl
  | [_] => rfl
  | [_, _] => rfl
  | _ :: _ :: _ :: _ => rfl
theorem pu_app {i : Nat} {m : MM D} (h : Pu m) : PuS (mApp i m) := by
  intro ρ x
  unfold mApp
  split
  · exact pu_e h (fun d ρ x => by
      first
        | (dsimp only; split <;> rfl)
        | (split <;> rfl)) ρ x
  · rfl
theorem pu_setI {i : Nat} {mj m : MM D} (hj : Pu mj) (h : Pu m) : PuS (mSetI i mj m) := by
  intro ρ x
  unfold mSetI
  split
  · exact pu_e h (fun d => pu_e hj fun j ρ x => by
      cases j <;> first | rfl | (dsimp only; split <;> rfl) | (split <;> rfl)) ρ x
  · rfl
theorem pu_loop {tg : Tg} {mb : MS} (h : PuS mb) : ∀ ds : List D, PuS (loopS tg mb ds)
  | [], ρ, x => rfl
  | d :: ds, ρ, x => by
    unfold loopS
    cases tg.asg d ρ with
    | none => rfl
    | some ρ1 =>
      dsimp only
      rw [h ρ1 x]
      cases mb ρ1 b0 with
      | nx ρ2 x2 =>
        show loopS tg mb ds ρ2 x = RS.st x (loopS tg mb ds ρ2 x2)
        rw [pu_loop h ds ρ2 x, pu_loop h ds ρ2 x2, RS.st_st]
      | cnt ρ2 x2 =>
        show loopS tg mb ds ρ2 x = RS.st x (loopS tg mb ds ρ2 x2)
        rw [pu_loop h ds ρ2 x, pu_loop h ds ρ2 x2, RS.st_st]
      | _ => rfl
theorem pu_for {mi : MM (List D)} {tg : Tg} {mb : MS} (h : Pu mi) (hb : PuS mb) : PuS (mFor mi tg mb) := pu_e h fun _ => pu_loop hb _
theorem pu_mirror {n : Nat} {m : MS} (h : PuS m) : PuF (mirror n m) := by
  intro ds x
  unfold mirror
  rw [h _ x]
  cases m (startE n ds) b0 <;> rfl
theorem pu_never : PuF (fun _ _ => .out) := fun _ _ => rfl
/-- what it gives at the empty box it gives at every box -/
theorem PuF.at {f : Mr} (h : PuF f) {ds : List D} {d : D} {x1 : Bx} (e : f ds b0 = .val d x1) (x : Bx) : f ds x = .val d x := by
  rw [h ds x, e]
  rfl
end
end Mi

/-! Mi14: errors as values: caught, read, asked for their class. -/
namespace Mi
open PySem PySem.Spec
open L2 PyProof.Rows
theorem exv_ok {P : Program} {w : World} {H : Hp} {h : Heap} {a C : Addr} {d : Option Addr} {oe : Obj} {vs : Array Value} (e : h.get? a = some oe) (z : Zc (.ref C) d oe) (hd : oe.data = .fields vs) : ObjOk P w H h a (exv a C d) :=
  ⟨⟨oe, vs, e, z, hd⟩, ⟨oe, e⟩, fun _ _ ⟨o, v, q, r⟩ k => ⟨o, v, k o q, r⟩⟩
/-! ### an error that is held, as an object of the heap -/
/-- the dict of a held error -/
def DictAt (H : Hp) (d : Option Addr) (fs : List (Str × V)) : Prop := match d with
  | none => fs = []
  | some dx => H dx = some (.xd fs)
theorem exv_inst {X : Cx} {pins : List (Addr × Obj)} {σ : L2.St} {H : Hp} {s : Shared} {a C : Addr} {d : Option Addr} {fs : List (Str × V)} (I : L2.Inv X pins σ H s) (ea : H a = some (exv a C d)) (ed : DictAt H d fs) :
    ∃ (oe : Obj) (od : Option Obj), PySem.W.InstAt s.heap a oe C od ∧ ∀ (n : Str) (v : V), fs.lookup n = some v → PySem.W.hasDictIn X.K C = true → PySem.W.findIn X.K (.ref C) n = some none → ∃ u, RelV v u ∧ PySem.W.findObj X.K C od n = some (.value u) := by
  have q : (∃ (oe : Obj) (vs : Array Value), s.heap.get? a = some oe ∧ Zc (.ref C) d oe ∧ oe.data = .fields vs) := (show ObjOk X.prog X.w H s.heap a (.ext _) from I.hok a _ ea).1
  obtain ⟨oe, vs, hg, ⟨zc, zd⟩, hd⟩ := q
  have nc : PySem.W.notCls oe := by
    unfold PySem.W.notCls
    rw [hd]
  cases d with
  | none =>
    refine ⟨oe, none, ⟨hg, zc, nc, ?_⟩, fun n v e _ _ => ?_⟩
    · rw [zd]
      trivial
    · have e0 : fs = [] := ed
      rw [e0] at e
      cases e
  | some dx =>
    have hx : ∃ mA, s.heap.Ns1 dx mA ∧ ∀ f, RelO (fs.lookup f) (mA f) := show ObjOk X.prog X.w H s.heap dx (.xd fs) from I.hok dx _ ed
    obtain ⟨mA, hns, hr⟩ := hx
    obtain ⟨od, h1, h2⟩ := lookIn_ns hns
    refine ⟨oe, some od, ⟨hg, zc, nc, by rw [zd]; exact h1⟩, fun n v e hdi hno => ?_⟩
    obtain ⟨u, e3, r⟩ := (RelO.some_of (o := mA n) (v := v)) (e ▸ hr n)
    exact ⟨u, r, PySem.W.findObj_own hdi hno rfl (by rw [h2, e3])⟩
/-! ### its fields -/
def tErF (K : PySem.W.Frag) (n : Str) (te : TE) : TE := fun σ H Q => te σ H fun x H1 => ∃ (a C dx : Addr) (fs : List (Str × V)) (v : V), x = .ref a ∧ H1 a = some (exv a C (some dx)) ∧ ExcC K C ∧ PySem.W.findIn K (.ref C) n = some none ∧ H1 dx = some (.xd fs) ∧ fs.lookup n = some v ∧ Q v H1
theorem pe_erF {X : Cx} {e : Expr} {te : TE} {pos : Pos} {n : Str} (he : PE X e te) (hb : attributeBase e n X.env (eval e X.env) = eval e X.env := by rfl) : PE X (.Attribute e n pos) (tErF X.K n te) :=
  ⟨fun pins s σ H Q I h => attr_of hb (thn (he.run pins s σ H _ I h) fun u s1 ⟨x, H1, I1, rx, a, C, dx, fs, v, ex, ea, T, hno, ed, l, q⟩ => by
    subst ex
    cases rx
    obtain ⟨oe, od, J, look⟩ := exv_inst (fs := fs) I1 ea ed
    obtain ⟨w, rw, ew⟩ := look n v l T.hd hno
    exact HandSPX.exc_get I1.kIn J T.hg T.hk T.hs ew (handed_of rw) ⟨v, H1, I1.tok _, rw, q⟩)⟩
theorem RepF.look {K : PySem.W.Frag} {b : Option Addr} {F : Hp} {n : Str} {d : D} : ∀ {vs : List (Str × V)} {ds : Fl}, RepF K b F vs ds → ds.lookup n = some d → ∃ v, vs.lookup n = some v ∧ Rep K b F v d
  | _, _, .nil, e => by cases e
  | _, _, .cons (k := k) (v := v) (d := d') h r, e => by
    rw [List.lookup_cons] at e ⊢
    cases hk : n == k with
    | true =>
      rw [hk] at e
      cases e
      exact ⟨v, rfl, h⟩
    | false =>
      rw [hk] at e
      exact RepF.look r e
def gErF (cs : List Str) (n : Str) : D → Option D
  | .err c fs => if cs.contains c then fs.lookup n else none
  | _ => none
def mErF (cs : List Str) (n : Str) (m : MM D) : MM D := mBind m fun d => o1 (gErF cs n d)
section
variable {X : Cx} {W : WX}
theorem j_erF {cs : List Str} {n : Str} {e : Expr} {pos : Pos} {m : MM D} (hc : ∀ c ∈ cs, ExcC X.K (He.ga X.K c) ∧ PySem.W.findIn X.K (.ref (He.ga X.K c)) n = some none) (he : PE X e (rdE X.K W m)) (hb : attributeBase e n X.env (eval e X.env) = eval e X.env := by rfl) : PE X (.Attribute e n pos) (rdE X.K W (mErF cs n m)) :=
  peI (pe_erF he hb) fun σ H Q h => rd_un (rl := rlD) (r := fun x H1 Q => ∃ (a C dx : Addr) (fs : List (Str × V)) (v : V), x = .ref a ∧ H1 a = some (exv a C (some dx)) ∧ ExcC X.K C ∧ PySem.W.findIn X.K (.ref C) n = some none ∧ H1 dx = some (.xd fs) ∧ fs.lookup n = some v ∧ Q v H1) (fun S F H σ ρ x v a Q eK r hr p => by
    replace p : Post rlD S W σ F H ρ (o1 (gErF cs n a) ρ x) Q := p
    cases hr <;> try exact p.elim
    · rename_i a' C' c' ea ec
      replace p : Post rlD S W σ F H ρ (o1 (if cs.contains c' then (([] : Fl).lookup n) else none) ρ x) Q := p
      split at p
      · exact (show False from p).elim
      · exact (show False from p).elim
    · rename_i a' C' dx c' fs fds ea ec ed rf
      replace p : Post rlD S W σ F H ρ (o1 (if cs.contains c' then fds.lookup n else none) ρ x) Q := p
      split at p
      · rename_i hcs
        cases el : fds.lookup n with
        | none =>
          rw [el] at p
          exact p.elim
        | some d =>
          rw [el] at p
          obtain ⟨v, hl, hv⟩ := rf.look el
          obtain ⟨h1, h2⟩ := hc c' (List.contains_iff_mem.mp hcs)
          subst ec
          rw [eK] at ea
          exact ⟨_, _, dx, fs, v, rfl, r.core.sub _ _ ea, h1, h2, r.core.sub _ _ ed, hl, post_val (rl := rlD) r p hv⟩
      · exact (show False from p).elim) h
end
/-! ### its class -/
def rIsEr (K : PySem.W.Frag) (cv : Value) : V → Hp → VK → Prop := fun x H Q => ∃ (a C : Addr) (d : Option Addr) (fs : List (Str × V)) (b : Bool), x = .ref a ∧ H a = some (exv a C d) ∧ DictAt H d fs ∧ ExcC K C ∧ PySem.W.kitOne K (.ref C) cv = some b ∧ Q (.bl b) H
theorem call_isEr {X : Cx} {cw : V} {cv : Value} (hcv : ∀ u, RelV cw u → u = cv) : CallR X (.builtin "isinstance") (fun xs H Q => ∃ x, xs = [x, cw] ∧ rIsEr X.K cv x H Q) :=
  fun pins s σ H xs us Q I r ⟨x, ex, a, C, d, fs, b, ea', ea, ed, T, e, q⟩ => by
    subst ex ea'
    match us, r with
    | [u1, u2], .cons r1 (.cons r2 .nil) =>
      cases r1
      cases hcv u2 r2
      obtain ⟨oe, od, J, _⟩ := exv_inst I ea ed
      have hcl : (PySem.W.clsIn X.K C).isSome = true := by
        obtain ⟨cd, hc, _⟩ := PySem.W.any_some T.hd
        exact Option.isSome_iff_exists.mpr ⟨cd, hc⟩
      exact PySem.W.kia_one (PySem.W.kitx_exc hcl T.hg T.hk T.hs T.ha T.hn T.ht T.hm) I.kIn J e (fun z => nomatch z) fun tk => ⟨.bl b, H, I.tok tk, rfl, q⟩
def gIsE (tab : List (Str × Bool)) : D → Option D
  | .err c _ => (tab.lookup c).map .bl
  | _ => none
def mIsE (tab : List (Str × Bool)) (m : MM D) : MM D := mBind m fun d => o1 (gIsE tab d)
def TabE (K : PySem.W.Frag) (tab : List (Str × Bool)) (cv : Value) : Prop := ∀ c b, tab.lookup c = some b → ExcC K (He.ga K c) ∧ PySem.W.kitOne K (.ref (He.ga K c)) cv = some b
section
variable {X : Cx} {W : WX}
theorem real_isE {K : PySem.W.Frag} {tab : List (Str × Bool)} {cv : Value} (ht : TabE K tab cv) : ∀ S F H σ ρ x v a Q, S.K = K → Rel S F H σ ρ x → Rep S.K S.b F v a → Post rlD S W σ F H ρ (o1 (gIsE tab a) ρ x) Q → rIsEr K cv v H Q := by
  intro S F H σ ρ x v a Q eK r hr p
  cases hr <;> try exact p.elim
  · rename_i a' C' c' ea ec
    replace p : Post rlD S W σ F H ρ (o1 ((tab.lookup c').map .bl) ρ x) Q := p
    cases el : tab.lookup c' with
    | none =>
      rw [el] at p
      exact p.elim
    | some b =>
      rw [el] at p
      obtain ⟨h1, h2⟩ := ht c' b el
      subst ec
      rw [eK] at ea
      exact ⟨_, _, none, [], b, rfl, r.core.sub _ _ ea, rfl, h1, h2, post_val (rl := rlD) r p (.bl _)⟩
  · rename_i a' C' dx c' fs fds ea ec ed rf
    replace p : Post rlD S W σ F H ρ (o1 ((tab.lookup c').map .bl) ρ x) Q := p
    cases el : tab.lookup c' with
    | none =>
      rw [el] at p
      exact p.elim
    | some b =>
      rw [el] at p
      obtain ⟨h1, h2⟩ := ht c' b el
      subst ec
      rw [eK] at ea
      exact ⟨_, _, some dx, fs, b, rfl, r.core.sub _ _ ea, r.core.sub _ _ ed, h1, h2, post_val (rl := rlD) r p (.bl _)⟩
/-- isinstance(e, C), C an own class -/
theorem j_isE {y T : Str} {p p2 pos : Pos} {e : Expr} {m : MM D} {tab : List (Str × Bool)} (ht : TabE X.K tab (.ref (He.ga X.K T))) (hg : Gl X y) (hm : X.mg y = none) (hv : bootBuiltins y = some (.builtin "isinstance")) (hgT : Gl X T) (hmT : X.mg T = some (.ref (He.ga X.K T))) (he : PE X e (rdE X.K W m)) (hn : y ≠ "__name__" := by decide) (hdb : (y == ("__debug__" : Str)) = false := by decide) (hdT : (T == ("__debug__" : Str)) = false := by decide)
    (h1 : starEach (e :: [Expr.Name T p2]) X.env = (false, eval e X.env) :: starEach [Expr.Name T p2] X.env := by rfl) (h2 : starEach [Expr.Name T p2] X.env = (false, eval (Expr.Name T p2) X.env) :: starEach [] X.env := by rfl) (hpl : (backTo pos (starEach [Expr.Name T p2] X.env)).any (·.1) = false := by rfl) :
    PE X (.Call (.Name y p) [e, .Name T p2] [] pos) (rdE X.K W (mIsE tab m)) :=
  peI (pe_callB (call_isEr (cw := .ref (He.ga X.K T)) (cv := .ref (He.ga X.K T)) fun u r => r) hg hm hv (pa_cons he (pa_cons (pe_glob (v := .ref (He.ga X.K T)) hgT hmT rfl hdT) pa_nil h2) h1) hn hdb h1 hpl) fun σ H Q q =>
    rd_un (rl := rlD) (r := fun x H1 Q => ∃ x', [x, V.ref (He.ga X.K T)] = [x', V.ref (He.ga X.K T)] ∧ rIsEr X.K (.ref (He.ga X.K T)) x' H1 Q) (fun S F H σ ρ x v a Q eK r hr p => ⟨v, rfl, real_isE ht S F H σ ρ x v a Q eK r hr p⟩) q
/-- isinstance(e, T), T a built-in class -/
theorem j_isEb {y T : Str} {T0 : String} {p p2 pos : Pos} {e : Expr} {m : MM D} {tab : List (Str × Bool)} (ht : TabE X.K tab (.type T0)) (hg : Gl X y) (hm : X.mg y = none) (hv : bootBuiltins y = some (.builtin "isinstance")) (hgT : Gl X T) (hmT : X.mg T = none) (hvT : bootBuiltins T = some (.type T0)) (he : PE X e (rdE X.K W m)) (hn : y ≠ "__name__" := by decide) (hdb : (y == ("__debug__" : Str)) = false := by decide) (hnT : T ≠ "__name__" := by decide) (hdT : (T == ("__debug__" : Str)) = false := by decide)
    (h1 : starEach (e :: [Expr.Name T p2]) X.env = (false, eval e X.env) :: starEach [Expr.Name T p2] X.env := by rfl) (h2 : starEach [Expr.Name T p2] X.env = (false, eval (Expr.Name T p2) X.env) :: starEach [] X.env := by rfl) (hpl : (backTo pos (starEach [Expr.Name T p2] X.env)).any (·.1) = false := by rfl) :
    PE X (.Call (.Name y p) [e, .Name T p2] [] pos) (rdE X.K W (mIsE tab m)) :=
  peI (pe_callB (call_isEr (cw := .ty T0) (cv := .type T0) fun u r => r) hg hm hv (pa_cons he (pa_cons (pe_bltn (v := .ty T0) hgT hmT hvT rfl hnT hdT) pa_nil h2) h1) hn hdb h1 hpl) fun σ H Q q =>
    rd_un (rl := rlD) (r := fun x H1 Q => ∃ x', [x, V.ty T0] = [x', V.ty T0] ∧ rIsEr X.K (.type T0) x' H1 Q) (fun S F H σ ρ x v a Q eK r hr p => ⟨v, rfl, real_isE ht S F H σ ρ x v a Q eK r hr p⟩) q
end
/-! ### try: body, except c as n: suite, the error kept -/
/-- an error is at hand in the frame of X: without it the state was one of ours -/
structure Got (X : Cx) (pins : List (Addr × Obj)) (σ : L2.St) (H : Hp) (a C : Addr) (d : Option Addr) (s : Shared) : Prop where
  ex : ∃ (B : Heap) (s0 : Shared), L2.Inv X pins σ H s0 ∧ (∀ b o, s0.heap.get? b = some o → b ∉ frs X.stack → B.get? b = some o) ∧ s0.heap.UpToSlots s.heap ∧ HandSPX.FlyingZ B X.stack a (Zc (.ref C) d) s.heap ∧ s.os = s0.os ∧ AllBare s.gens
  na : H a = none
section
variable {X : Cx} {pins : List (Addr × Obj)} {σ : L2.St} {H : Hp} {s : Shared} {a C : Addr} {d : Option Addr}
theorem Got.inv (g : Got X pins σ H a C d s) : L2.Inv X pins σ H s :=
  let ⟨_, _, J, nb, up, fl, os, ag⟩ := g.ex
  J.landed nb fl.1 up os ag
theorem Got.obj (g : Got X pins σ H a C d s) : ∃ oe vs, s.heap.get? a = some oe ∧ Zc (.ref C) d oe ∧ oe.data = .fields vs :=
  let ⟨_, _, _, _, _, fl, _, _⟩ := g.ex
  fl.there
/-- .. and with it, tracked -/
theorem Got.kept (g : Got X pins σ H a C d s) : L2.Inv X pins σ (upd H a (exv a C d)) s := by
  obtain ⟨oe, vs, he, hz, hd⟩ := g.obj
  obtain ⟨B, s0, J, nb, up, fl, os, ag⟩ := g.ex
  have out : a ∉ frs X.stack := fun m => by
    obtain ⟨_, o, e, no⟩ := fl.2.2.1.mem m
    cases he.symm.trans e
    exact no vs hd
  have new0 : ∀ b o, s0.heap.get? b = some o → b ≠ a := fun b o e z => by
    have y := nb b o e (z ▸ out)
    rw [z, fl.2.1] at y
    cases y
  obtain ⟨G, onG, offG⟩ := restrict s.heap fun q => !(q == a)
  have same : ∀ b, b ≠ a → G.get? b = s.heap.get? b := fun b hb => onG b (by simp [hb])
  have gone : G.get? a = none := offG a (by simp)
  have JG : L2.Inv X pins σ H { s with heap := G } := by
    refine J.landed (B := B) nb (fun b o e => ?_) (fun b o e hn => ?_) os ag
    · rw [same b fun z => by rw [z, fl.2.1] at e; cases e]
      exact fl.1 b o e
    · obtain ⟨sl, q⟩ := up b o e hn
      exact ⟨sl, by rw [same b (new0 b o e)]; exact q⟩
  have back : ∀ b o, G.get? b = some o → s.heap.get? b = some o := fun b o e => by
    rw [← same b fun z => by rw [z, gone] at e; cases e]
    exact e
  have Z := L2.Inv.laidN (s := { s with heap := G }) (t' := s.toks) (h' := s.heap) (o := exv a C d) JG back gone g.na (exv_ok he hz hd)
  exact Z
theorem Got.again {M : Model} {A : Around} {E : Value → Shared → Prop} {Q : Unit → Shared → Prop} (g : Got X pins σ H a C d s) (k : ∀ s', Got X pins σ H a C d s' → Q () s') : wpAny M A (setFlight (.ref a) none) Q E s :=
  let ⟨B, s0, J, nb, up, fl, os, ag⟩ := g.ex
  HandSPX.lands_againZ fl fun _ fl' up' => k _ ⟨⟨B, s0, J, nb, up.trans up', fl', os, ag⟩, g.na⟩
theorem Got.cls (g : Got X pins σ H a C d s) (M : Model) : PySem.W.Looks M s.heap (typeOf (.ref a)) (.ref C) := fun _ _ _ _ k q =>
  let ⟨_, _, he, hz, _⟩ := g.obj
  wpAny_typeOf_ref (k _ _ he) (hz.1 ▸ q)
/-- the frame of a suite, and back -/
theorem suite_in (I : L2.Inv X pins σ H s) (b : Addr) : L2.Inv (X.suite b (X.pn ++ pins)) [] σ H s where
  ok := I.ok.suite _ _
  os := I.os
  bare := I.bare
  base := I.base
  loc := I.loc
  cell := I.cell
  free := I.free
  freeC := I.freeC
  pin := fun p hp => I.pin p (by rw [List.append_nil] at hp; exact hp)
  hok := I.hok
  len := I.len
theorem suite_out (ok : X.Ok) {b : Addr} (I : L2.Inv (X.suite b (X.pn ++ pins)) [] σ H s) : L2.Inv X pins σ H s where
  ok := ok
  os := I.os
  bare := I.bare
  base := I.base
  loc := I.loc
  cell := I.cell
  free := I.free
  freeC := I.freeC
  pin := fun p hp => I.pin p (List.mem_append_left _ hp)
  hok := I.hok
  len := I.len
end
def endsT (i : Nat) (D : Ends) : Ends := { nx := fun σ' H' => D.nx (σ'.set i none) H', rt := D.rt, bk := fun σ' H' => D.bk (σ'.set i none) H', ct := fun σ' H' => D.ct (σ'.set i none) H' }
theorem suite_ends {X : Cx} {pins : List (Addr × Obj)} {b : Addr} {i : Nat} {n : Str} {D : Ends} {pos : Pos} {A : Around} {E : Value → Shared → Prop} (ok : X.Ok) (hN : X.N.Nodup) (hi : X.N[i]? = some n) (hl : X.env.kindOf n = some .local) : ∀ (f : Flow) (s : Shared),
    SP (X.suite b (X.pn ++ pins)) [] (endsT i D) f s → wpAny (model X.prog X.w) A (do bindName X.env n .none; unbindBehindTheSuite X.env n pos) (fun _ s' => SP X pins D f s') E s
  | .next, _, ⟨_, _, I, q⟩ => gone_ok (suite_out ok I) hN hi hl fun _ J => ⟨_, _, J, q⟩
  | .brk, _, ⟨_, _, I, q⟩ => gone_ok (suite_out ok I) hN hi hl fun _ J => ⟨_, _, J, q⟩
  | .cont, _, ⟨_, _, I, q⟩ => gone_ok (suite_out ok I) hN hi hl fun _ J => ⟨_, _, J, q⟩
  | .ret _, _, ⟨_, _, _, I, r, q⟩ => gone_ok (suite_out ok I) hN hi hl fun _ J => ⟨_, _, _, J, r, q⟩
/-- what is wished of an error of the body: the clause takes it -/
def wAsT (K : PySem.W.Frag) (c : Value) (i : Nat) (ts : TS) (D : Ends) : WX := fun cls d σ H =>
  ∃ C, cls = .ref C ∧ PySem.W.exmOne K cls c = some true ∧ ∀ a, H a = none → ts (endsT i D) (σ.set i (some (.ref a))) (upd H a (exv a C d))
section
variable {X : Cx} {x n : Str} {c : Addr} {i : Nat} {body suite : List Stmt} {b₀ : Stmt} {np pos pos' : Pos} {tb : WX → TS} {ts : TS}
/-- the clause at work -/
theorem clause_ok {pins : List (Addr × Obj)} {σ : L2.St} {H : Hp} {s : Shared} {a C : Addr} {d : Option Addr} {D : Ends} (ok : X.Ok) (hN : X.N.Nodup) (hi : X.N[i]? = some n) (hl : X.env.kindOf n = some .local) (hg : Gl X x) (hm : X.mg x = some (.ref c)) (hdb : (x == ("__debug__" : Str)) = false)
    (hsu : ∀ (a : Addr) (pn : List (Addr × Obj)), PSs (X.suite a pn) (b₀ :: suite) ts) (G : Got X pins σ H a C d s) (he : PySem.W.exmOne X.K (.ref C) (.ref c) = some true) (hts : ts (endsT i D) (σ.set i (some (.ref a))) (upd H a (exv a C d))) :
    wpAny (model X.prog X.w) X.A (handleBy (.ref a) X.env [.ExceptHandler (some (.Name x np)) (some n) (b₀ :: suite) pos']) (SP X pins D) X.xe s := by
  refine wpAny_handleBy_cons (codeAny_handlers_test ?_) fun q => nomatch q
  refine ld_glob (X := X.suite a (X.pn ++ pins)) (suite_in G.inv a) hg hm ?_ hdb
  refine (PySem.W.exm_one G.inv.kIn (G.cls _) he).here ?_
  refine (show codeAny _ _ (.handlers _ _ _) _ _ from codeAny_handlers_suite_as (G.again fun s4 G4 => ?_))
  refine store_ok (X := X.suite a (X.pn ++ pins)) (v := .ref a) (suite_in G4.kept a) hN hi (.inl hl) rfl (fun s5 S5 => ?_) (.inr hl)
  exact wpAny_mono ((hsu a _).run [] s5 _ _ _ S5 hts) (suite_ends ok hN hi hl) fun _ _ z => z.elim
theorem ps_try_err (hs : X.stack = X.env :: X.outer) (hf : X.env.frame = some X.env.locals) (hN : X.N.Nodup) (hi : X.N[i]? = some n) (hl : X.env.kindOf n = some .local) (hg : Gl X x) (hm : X.mg x = some (.ref c)) (hdb : (x == ("__debug__" : Str)) = false)
    (hb : ∀ (W : WX) (pn : List (Addr × Obj)) (xe : Value → Shared → Prop), Takes (X.tr pn xe) W →
      PassesOwn (model X.prog X.w) X.A X.env xe → PSs (X.tr pn xe) body (tb W))
    (hsu : ∀ (a : Addr) (pn : List (Addr × Obj)), PSs (X.suite a pn) (b₀ :: suite) ts) :
    PS X (.Try body [.ExceptHandler (some (.Name x np)) (some n) (b₀ :: suite) pos'] [] [] pos) (fun D σ H => tb (wAsT X.K (.ref c) i ts D) D σ H) :=
  ⟨fun pins s σ H D I h => by
    have ok := I.ok
    have hfr : X.A.frames = some (X.env :: X.outer) := hs ▸ ok.frames
    refine wpAny_Try_except (wpAny_mono ((hb _ (X.pn ++ pins) _ (fun u s' xx => ?_) PassesOwn.looking).run [] s σ H D (I.toTry _) h) (fun f s1 out => ?_) fun _ _ z => z)
    · obtain ⟨a, B, s0, _, σ', H', cls, d, rfl, J, nb, up, sky, na, os, ag, C, rfl, he, hts⟩ := xx
      exact Sky.land Zc.steady hfr hf (hs ▸ sky) fun h3 fl3 up3 =>
        clause_ok ok hN hi hl hg hm hdb hsu ⟨⟨B, s0, J.ofTry ok, nb, up.trans up3, hs ▸ fl3, os, ag⟩, na⟩ he (hts a na)
    · match f, out with
      | .next, ⟨_, _, J, q⟩ => exact wpAny_execs_nil ⟨_, _, J.ofTry ok, q⟩
      | .brk, ⟨_, _, J, q⟩ => exact ⟨_, _, J.ofTry ok, q⟩
      | .cont, ⟨_, _, J, q⟩ => exact ⟨_, _, J.ofTry ok, q⟩
      | .ret _, ⟨_, _, _, J, r, q⟩ => exact ⟨_, _, _, J.ofTry ok, r, q⟩⟩
end
def mTry (tab : List (Str × Bool)) (i : Nat) (mb ms : MS) : MS := fun ρ x => match mb ρ x with
  | .exc c fs ρ1 x1 => (match tab.lookup c with
    | some true => (match ms (ρ1.set i (.fz (.err c fs))) x1 with
      | .nx ρ2 x2 => .nx (wipeE ρ2 [i]) x2
      | .brk ρ2 x2 => .brk (wipeE ρ2 [i]) x2
      | .cnt ρ2 x2 => .cnt (wipeE ρ2 [i]) x2
      | .ret d x2 => .ret d x2
      | _ => .out)
    | _ => .out)
  | r => r
def TabX (K : PySem.W.Frag) (tab : List (Str × Bool)) (cv : Value) : Prop := ∀ c b, tab.lookup c = some b → PySem.W.exmOne K (.ref (He.ga K c)) cv = some b
section
variable {X : Cx} {W : WX}
/-- a caught error's object, as data -/
theorem rep_err {S : Cf} {F H : Hp} {σ : L2.St} {ρ : En} {x : Bx} {a : Addr} {c : Str} {dd : Option Addr} {fs : Fl} (r : Rel S F H σ ρ x) (na : H a = none) (hd : XdOk S F dd fs) : Rep S.K S.b (upd F a (exv a (He.ga S.K c) dd)) (.ref a) (.err c fs) := by
  have nF := r.core.nF na
  rcases hd with ⟨rfl, rfl⟩ | ⟨dx, vs, rfl, e2, e3⟩
  · exact .err0 upd_same rfl
  · exact .err upd_same rfl (by rw [upd_ne fun z => by rw [z, nF] at e2; cases e2]; exact e2) (e3.mono (Same.new nF))
theorem rd_try {K : PySem.W.Frag} {tab : List (Str × Bool)} {i : Nat} {mb ms : MS} {cv : Value} (ht : TabX K tab cv) {D : Ends} {σ : L2.St} {H : Hp} (h : rdS K W (mTry tab i mb ms) D σ H) : rdS K (wAsT K cv i (rdS K Wf ms) D) mb D σ H := by
  obtain ⟨S, F, ρ, x, eK, r, p⟩ := h
  refine ⟨S, F, ρ, x, eK, r, ?_⟩
  unfold mTry at p
  generalize mb ρ x = R0 at p
  cases R0 with
  | exc c fs ρ1 x1 =>
    intro σ1 F1 H1 dd r1 hd
    dsimp only at p
    have hl : tab.lookup c = some true := by
      revert p
      cases tab.lookup c with
      | none => exact fun p => p.elim
      | some b =>
        cases b
        · exact fun p => p.elim
        · exact fun _ => rfl
    rw [hl] at p
    dsimp only at p
    refine ⟨He.ga S.K c, rfl, by rw [eK]; exact ht c true hl, fun a na => ⟨S, _, _, x1, eK, (r1.alloc na).put i (rep_err r1 na hd), ?_⟩⟩
    generalize ms (ρ1.set i (.fz (.err c fs))) x1 = R1 at p
    cases R1 with
    | nx ρ2 x2 => exact fun σ2 F2 H2 r2 => p _ F2 H2 (r2.wipe [i])
    | brk ρ2 x2 => exact fun σ2 F2 H2 r2 => p _ F2 H2 (r2.wipe [i])
    | cnt ρ2 x2 => exact fun σ2 F2 H2 r2 => p _ F2 H2 (r2.wipe [i])
    | ret d x2 => exact p
    | retN d x2 => exact p.elim
    | exc c2 fs2 ρ2 x2 => exact p.elim
    | out => exact p
  | _ => exact p
/-- try: .., except C as n: .. -/
theorem js_try {x n : Str} {i : Nat} {tab : List (Str × Bool)} {body suite : List Stmt} {b₀ : Stmt} {np pos pos' : Pos} {mb ms : MS} (ht : TabX X.K tab (.ref (He.ga X.K x))) (hs : X.stack = X.env :: X.outer) (hf : X.env.frame = some X.env.locals) (hN : X.N.Nodup) (hm : X.mg x = some (.ref (He.ga X.K x))) (tk : Takes X W)
    (hb : ∀ (W : WX) (pn : List (Addr × Obj)) (xe : Value → Shared → Prop), Takes (X.tr pn xe) W →
      PassesOwn (model X.prog X.w) X.A X.env xe → PSs (X.tr pn xe) body (rdS X.K W mb))
    (hsu : ∀ (a : Addr) (pn : List (Addr × Obj)), PSs (X.suite a pn) (b₀ :: suite) (rdS X.K Wf ms))
    (hi : X.N[i]? = some n := by rfl) (hln : X.env.kindOf n = some .local := by rfl) (hg : Gl X x := by rfl) (hdb : (x == ("__debug__" : Str)) = false := by decide) :
    PS X (.Try body [.ExceptHandler (some (.Name x np)) (some n) (b₀ :: suite) pos'] [] [] pos) (rdS X.K W (mTry tab i mb ms)) :=
  psI (ps_try_err (tb := fun W => rdS X.K W mb) hs hf hN hi hln hg hm hdb hb hsu) fun D σ H h => rd_try ht h
end
end Mi

/-! Mi15: replace, upper, a list so many times, a def out of a list called. -/
namespace Mi
open PySem PySem.Spec L2 PyProof.Rows
/-! ### a text replaced: a token must be out -/
def PE1 (X : Cx) (e : Expr) (t : TE) : Prop :=
  ∀ (pins : List (Addr × Obj)) (s : Shared) (σ : L2.St) (H : Hp) (Q : VK), Inv X pins σ H s → t σ H Q → wpAny (model X.prog X.w) X.A (eval e X.env) (fun v s1 => 1 ≤ s1.toks ∧ EP X pins σ Q v s1) X.xe s
section
variable {X : Cx} {W : WX}
theorem pe1_opc {op : Operator} {r : R2} {a : Expr} {ta : TE} {c : Str} {j : Nat} {p pos : Pos} (ho : OpR X (binaryOp op) r) (ha : PE X a ta) : PE1 X (.BinOp a op (.Constant (.str c) j p) pos) (tOp r ta (tC (.str c))) := by
  intro pins s σ H Q I h
  refine wpAny_BinOp (thn (ha.run pins s σ H _ I h) fun v s1 ⟨x, H1, I1, r1, q1⟩ => ?_)
  refine Calls.Constant_str (wpAny_mono (PySem.wpAny_toks (ho pins { s1 with toks := s1.toks + 1 } σ H1 x (.str c) v (.str c s1.toks) Q (I1.tok _) r1 ⟨_, rfl⟩ q1)) (fun u s2 q => ⟨?_, q.2⟩) fun _ _ z => z.2)
  have := q.1
  dsimp only at this
  omega
theorem pe1_op {op : Operator} {r : R2} {a b : Expr} {ta tb : TE} {pos : Pos} (ho : OpR X (binaryOp op) r) (ha : PE1 X a ta) (hb : PE X b tb) : PE1 X (.BinOp a op b pos) (tOp r ta tb) := by
  intro pins s σ H Q I h
  refine wpAny_BinOp (thn (ha pins s σ H _ I h) fun v s1 ⟨h1, x, H1, I1, r1, q1⟩ => ?_)
  refine wpAny_mono (PySem.wpAny_toks (hb.run pins s1 σ H1 _ I1 q1)) (fun u s2 q => ?_) fun _ _ z => z.2
  obtain ⟨h2, y, H2, I2, r2, q2⟩ := q
  refine wpAny_mono (PySem.wpAny_toks (ho pins s2 σ H2 x y v u Q I2 r1 r2 q2)) (fun z s3 q => ⟨?_, q.2⟩) fun _ _ z => z.2
  have := q.1
  omega
theorem pa_cons1 {e : Expr} {es : List Expr} {te : TE} {ta : TA} (ha : PE1 X e te) (hr : PAT X es ta) (hs : starEach (e :: es) X.env = (false, eval e X.env) :: starEach es X.env := by rfl) : PA X (e :: es) (tCons te ta) where
  run := fun pos pins s σ H Q I h => by
    have rest := fun u s1 (q : 1 ≤ s1.toks ∧ EP X pins σ _ u s1) => (let ⟨h1, _, H1, I1, r1, q1⟩ := q
      thn (hr pos pins s1 σ H1 _ h1 I1 q1) fun _ _ ⟨_, H2, I2, r2, q2⟩ => (⟨_, H2, I2, .cons r1 r2, q2⟩ : ∃ xs H2, L2.Inv X pins σ H2 _ ∧ Vals xs (u :: _) ∧ Q xs H2))
    rw [hs]
    exact Calls.spliced_cons (thn (ha pins s σ H _ I h) rest)
theorem pe1I {e : Expr} {t t' : TE} (h : PE1 X e t) (k : ∀ σ H Q, t' σ H Q → t σ H Q) : PE1 X e t' := fun pins s σ H Q I q => h pins s σ H Q I (k σ H Q q)
theorem petI {e : Expr} {t t' : TE} (h : PET X e t) (k : ∀ σ H Q, t' σ H Q → t σ H Q) : PET X e t' := fun pins s σ H Q h0 I q => h pins s σ H Q h0 I (k σ H Q q)
theorem patI {e : List Expr} {t t' : TA} (h : PAT X e t) (k : ∀ σ H Q, t' σ H Q → t σ H Q) : PAT X e t' := fun pos pins s σ H Q h0 I q => h pos pins s σ H Q h0 I (k σ H Q q)
theorem real_addM {K : PySem.W.Frag} : Real2 K W (fun x y H Q => rI0 (fun i j => V.int (i + j)) x y H Q ∨ ((∃ i j, x = .str i ∧ y = .str j ∧ i.length + j.length ≤ sizeLine ∧ Q (.str (i ++ j)) H) ∨ (rCat x y H Q ∨ rCatA K x y H Q))) (fun a b => o1 (gAdd a b)) :=
  Real2.or (real_I0 (f := fun i j => .int (i + j)) fun _ _ => .int _) (Real2.or real_addS (Real2.or real_addL real_addT))
theorem j1_addc {ma : MM D} {a : Expr} {c : Str} {j : Nat} {p pos : Pos} (ha : PE X a (rdE X.K W ma)) : PE1 X (.BinOp a .Add (.Constant (.str c) j p) pos) (rdE X.K W (mOp (fun a b => o1 (gAdd a b)) ma (mC (.str c)))) :=
  pe1I (pe1_opc op_addM ha) fun σ H Q h => by
    refine (show rdE X.K W ma σ H fun x H1 => tC (.str c) σ H1 fun y H2 => _ from ?_)
    refine rd_monoQ (show rdE X.K W ma σ H fun x H1 => rdE X.K W (mC (.str c)) σ H1 fun y H2 => _ from rd_op real_addM h) fun v H1 q => ?_
    exact rd_c (X := X) (W := W) (v := .str c) (d := .str c) (fun _ _ => .str c) σ H1 _ q
theorem j1_add {ma mb : MM D} {a b : Expr} {pos : Pos} (ha : PE1 X a (rdE X.K W ma)) (hb : PE X b (rdE X.K W mb)) : PE1 X (.BinOp a .Add b pos) (rdE X.K W (mOp (fun a b => o1 (gAdd a b)) ma mb)) :=
  pe1I (pe1_op op_addM ha hb) fun σ H Q h => rd_op real_addM h
theorem rd_cons {K : PySem.W.Frag} {m : MM D} {ms : MM (List D)} {σ : L2.St} {H : Hp} {Q : List V → Hp → Prop} (h : rdA K W (mCons m ms) σ H Q) : rdE K W m σ H fun x H1 => rdA K W ms σ H1 fun xs H2 => Q (x :: xs) H2 := by
  obtain ⟨S, F, ρ, x, eK, rr, p⟩ := rd_bind (rl := rlD) h
  refine ⟨S, F, ρ, x, eK, rr, ?_⟩
  cases e : m ρ x with
  | val a x1 =>
    rw [e] at p
    intro v F' H' r1 s1 k1 h1
    obtain ⟨S2, F2, ρ2, x2, eK2, rr2, p2⟩ := rd1_bind (rl1 := rlL) mono_D (p v F' H' r1 s1 k1 h1)
    refine ⟨S2, F2, ρ2, x2, eK2, rr2, ?_⟩
    cases e2 : ms ρ2 x2 with
    | val b x3 =>
      rw [e2] at p2
      intro v2 F3 H3 r3 s3 k3 h3
      obtain ⟨S4, F4, ρ4, x4, a4, b4, eK4, rr4, ha4, hb4, p4⟩ := p2 v2 F3 H3 r3 s3 k3 h3
      exact post_val (rl := rlL) rr4 p4 (.cons ha4 hb4)
    | exc c fs x3 =>
      rw [e2] at p2
      exact p2
    | out =>
      rw [e2] at p2
      exact p2
  | exc c fs x1 =>
    rw [e] at p
    exact p
  | out =>
    rw [e] at p
    exact p
theorem j1_acons {e : Expr} {es : List Expr} {m : MM D} {ms : MM (List D)} (he : PE1 X e (rdE X.K W m)) (hr : PAT X es (rdA X.K W ms)) (hs : starEach (e :: es) X.env = (false, eval e X.env) :: starEach es X.env := by rfl) : PA X (e :: es) (rdA X.K W (mCons m ms)) :=
  paI (pa_cons1 he hr hs) fun σ H Q h => rd_cons h
theorem jT_anil : PAT X [] (rdA X.K W mNil) := patI pat_nil fun σ H Q ⟨S, F, ρ, x, eK, r, p⟩ => post_val (rl := rlL) r p .nil
theorem jT_acons {e : Expr} {es : List Expr} {m : MM D} {ms : MM (List D)} (he : PET X e (rdE X.K W m)) (hr : PAT X es (rdA X.K W ms)) (hs : starEach (e :: es) X.env = (false, eval e X.env) :: starEach es X.env := by rfl) : PAT X (e :: es) (rdA X.K W (mCons m ms)) :=
  patI (pat_cons he hr hs) fun σ H Q h => rd_cons h
theorem jT_of {e : Expr} {t : TE} (h : PE X e t) : PET X e t := fun pins s σ H Q _ I q => h.run pins s σ H Q I q
def gRepl (y z s : Str) : Option D := if s.length + (s.length + 1) * z.length ≤ 16777216 then some (.str (Txt.replace s y z)) else none
theorem jT_repl {o : Expr} {y z : Str} {j k : Nat} {c0 c1 apos pos : Pos} {m : MM D} (ho : PE X o (rdE X.K W m)) (hyz : (y == z) = false := by decide)
    (hst : starEach [.Constant (.str y) j c0, .Constant (.str z) k c1] X.env = [(false, eval (.Constant (.str y) j c0) X.env), (false, eval (.Constant (.str z) k c1) X.env)] :=
      by rfl)
    (hbase : attributeBase o "replace" X.env (eval o X.env) = eval o X.env := by rfl)
      (hline : (apos.endLine == pos.line) = true := by rfl) :
    PET X (.Call (.Attribute o "replace" apos) [.Constant (.str y) j c0, .Constant (.str z) k c1] [] pos) (rdE X.K W (mM0 (gRepl y z) m)) :=
  petI (CwR.pet_replC ho hyz hst hbase hline) fun σ H Q h => rd_un (rl := rlD) (r := fun (v : V) (H1 : Hp) (Q : VK) => ∃ x : Str, v = .str x ∧ x.length + (x.length + 1) * z.length ≤ 16777216 ∧ Q (.str (Txt.replace x y z)) H1) (fun S F H σ ρ x v a Q eK r hr p => by
    cases hr <;> try exact p.elim
    rename_i s
    replace p : Post rlD S W σ F H ρ (o1 (gRepl y z s) ρ x) Q := p
    unfold gRepl at p
    split at p
    · rename_i hz
      exact ⟨s, rfl, hz, post_val (rl := rlD) r p (.str _)⟩
    · exact p.elim) h
def gUpper (s : Str) : Option D := if s.length ≤ 5592405 then some (.str (Txt.upper s)) else none
theorem gUpper_ok : ∀ a d, gUpper a = some d → a.length ≤ 5592405 ∧ Sca (V.str (Txt.upper a)) d := fun a d h => by
  unfold gUpper at h
  split at h
  · rename_i hz
    cases h
    exact ⟨hz, .str _⟩
  · cases h
theorem j_upper {apos cpos : Pos} {o : Expr} {m : MM D} (ho : PE X o (rdE X.K W m)) (hbase : attributeBase o "upper" X.env (eval o X.env) = eval o X.env := by rfl) (hline : (apos.endLine == cpos.line) = true := by rfl) : PE X (.Call (.Attribute o "upper" apos) [] [] cpos) (rdE X.K W (mM0 gUpper m)) :=
  j_m0 PySem.F.plainAttrs_str PySem.F.slot_str_upper PySem.F.type_str_upper mt_upper gUpper_ok ho hbase hline
/-! ### a list so many times -/
def gRepL (a b : D) : Option D := match a, b with
  | .lst ds, .int k => if -(2 ^ 63) ≤ k ∧ k < 2 ^ 63 ∧ ds.length * k.toNat ≤ big then some (.lst (List.replicate k.toNat ds).flatten) else none
  | _, _ => none
theorem real_rep {K : PySem.W.Frag} : Real2 K W rRep (fun a b => o1 (gRepL a b)) := by
  intro S F H σ ρ x v1 v2 a b Q eK r ha hb p
  cases ha <;> cases hb <;> try exact p.elim
  rename_i a1 vs1 ds1 h1 r1 k
  replace p : Post rlD S W σ F H ρ (o1 (if -(2 ^ 63) ≤ k ∧ k < 2 ^ 63 ∧ ds1.length * k.toNat ≤ big then some (.lst (List.replicate k.toNat ds1).flatten) else none) ρ x) Q := p
  split at p
  · rename_i hz
    refine ⟨a1, k, vs1, rfl, rfl, r.core.sub _ _ h1, hz.1, hz.2.1, ?_, fun q n => post_new (α := D) r p n (.lst upd_same ?_)⟩
    · rw [r1.length]
      exact big_le hz.2.2
    · have hrep : ∀ m : Nat, RepL S.K S.b F (List.replicate m vs1).flatten (List.replicate m ds1).flatten := fun m => by
        induction m with
        | zero => exact .nil
        | succ m ih =>
          simp only [List.replicate_succ, List.flatten_cons]
          exact r1.append ih
      exact (hrep _).mono (Same.new (r.core.nF n))
  · exact p.elim
theorem j_rep {ma mb : MM D} {a b : Expr} {pos : Pos} (ha : PE X a (rdE X.K W ma)) (hb : PE X b (rdE X.K W mb)) : PE X (.BinOp a .Mult b pos) (rdE X.K W (mOp (fun a b => o1 (gRepL a b)) ma mb)) :=
  j_op op_rep real_rep ha hb
/-! ### a def held as a value, called -/
def mFn (tab : List (Str × Mr)) (n : Nat) (mf : MM D) (ms : MM (List D)) : MM D := mBind mf fun d => match d with
  | .fn x => (match tab.lookup x with
    | some f => mDef n f ms
    | none => fun _ _ => .out)
  | _ => fun _ _ => .out
theorem j_callF {tab : List (Str × Mr)} {n k : Nat} {fe e : Expr} {es : List Expr} {pos : Pos} {mf : MM D} {ms : MM (List D)} (hO : ∀ x f, tab.lookup x = some f → ∃ ps, ps.length = n ∧ OkD X.prog X.w X.K X.mg X.base k x ps f) (hr : Room k X.A) (tk : Takes X W) (hf : PE X fe (rdE X.K W mf)) (ha : PA X (e :: es) (rdA X.K W ms))
    (ht : eval (.Call fe (e :: es) [] pos) X.env = (eval fe X.env >>= fun fv => callWith pos fv [] (backTo pos (starEach (e :: es) X.env)) (backToKw pos (keywordEach [] X.env))) := by rfl)
    (he : starEach (e :: es) X.env = (false, eval e X.env) :: starEach es X.env := by rfl) (hpl : (backTo pos (starEach es X.env)).any (·.1) = false := by rfl) : PE X (.Call fe (e :: es) [] pos) (rdE X.K W (mFn tab n mf ms)) := by
  refine ⟨fun pins s σ H Q I h =>
    ?_⟩
  have h2 : rdE X.K W mf σ H fun x H1 => ∃ y f ps, x = .ref (He.ga X.K y) ∧ ps.length = n ∧ OkD X.prog X.w X.K X.mg X.base k y ps f ∧ rdA X.K W ms σ H1 fun vs H2 => spM X.K n f vs H2 Q (WE W σ) :=
    rd_unS (rl := rlD) (r := fun x H1 Q => ∃ y f ps, x = .ref (He.ga X.K y) ∧ ps.length = n ∧ OkD X.prog X.w X.K X.mg X.base k y ps f ∧ rdA X.K W ms σ H1 fun vs H2 => spM X.K n f vs H2 Q (WE W σ)) (fun S F H ρ x v a Q eK r hr p => by
      cases hr <;> try exact p.elim
      rename_i y
      dsimp only at p
      cases el : tab.lookup y with
      | none =>
        rw [el] at p
        exact p.elim
      | some f =>
        rw [el] at p
        obtain ⟨ps, hl, O⟩ := hO y f el
        exact ⟨y, f, ps, by rw [eK], hl, O, rd_def ⟨S, F, ρ, x, eK, r, p⟩⟩) h
  refine PyProof.Rows.Call_ (thn (hf.run pins s σ H _ I h2) fun u s1 ⟨x, H1, I1, rx, y, f, ps, ex, hl, O, q⟩ => ?_) ht
  subst ex
  obtain rfl : u = Value.ref (He.ga X.K y) := rx
  obtain ⟨fd, F, b, _⟩ := O.ex
  subst hl
  refine PySem.W.callWith_K (h₀ := X.base) I.ok.mod.kin O.kp (thn (ha.run pos pins s1 σ H1 _ I1 q) fun us s2 ⟨vs, H2, I2, r, q2⟩ => ⟨I2.kIn, ?_⟩) he hpl
  exact run_fnS F hr b (passAt tk σ) I2 r q2
/-! ### a module's tuple of ints -/
def GTup (K : PySem.W.Frag) (mg : Str → Option Value) (y : Str) (is : List Int) : Prop := ∃ a, mg y = some (.ref a) ∧ KTup K a (is.map V.int)
theorem j_gtup {is : List Int} {y : Str} {pos : Pos} (hg : Gl X y) (hm : GTup X.K X.mg y is) (hd : (y == ("__debug__" : Str)) = false := by decide) : PE X (.Name y pos) (rdE X.K W (mC (.tup (is.map D.int)))) := by
  obtain ⟨a, hm, hk⟩ := hm
  exact peI (pe_glob (v := .ref a) hg hm rfl hd) fun σ H Q ⟨S, F, ρ, x, eK, r, p⟩ => post_val (rl := rlD) r p (.tup (.inr (by rw [eK]; exact hk)) (repL_ints is))
end
end Mi

/-! Mi16: tables of classes and defs; what never looks at the box. -/
namespace Mi
open PySem PySem.Spec L2
section
variable {K : PySem.W.Frag} {cv : Value} {c : Str} {b : Bool} {tab : List (Str × Bool)}
theorem tabX_nil : TabX K [] cv := fun _ _ e => by cases e
theorem tabX_cons (h : PySem.W.exmOne K (.ref (He.ga K c)) cv = some b) (r : TabX K tab cv) : TabX K ((c, b) :: tab) cv := fun c' b' e => by
  rw [List.lookup_cons] at e
  cases hk : c' == c with
  | true =>
    rw [hk] at e
    cases e
    rw [beq_iff_eq.mp hk]
    exact h
  | false =>
    rw [hk] at e
    exact r c' b' e
theorem tabE_nil : TabE K [] cv := fun _ _ e => by cases e
theorem tabE_cons (x : ExcC K (He.ga K c)) (h : PySem.W.kitOne K (.ref (He.ga K c)) cv = some b) (r : TabE K tab cv) : TabE K ((c, b) :: tab) cv := fun c' b' e => by
  rw [List.lookup_cons] at e
  cases hk : c' == c with
  | true =>
    rw [hk] at e
    cases e
    rw [beq_iff_eq.mp hk]
    exact ⟨x, h⟩
  | false =>
    rw [hk] at e
    exact r c' b' e
def ErC (K : PySem.W.Frag) (cs : List Str) (n : Str) : Prop := ∀ c ∈ cs, ExcC K (He.ga K c) ∧ PySem.W.findIn K (.ref (He.ga K c)) n = some none
theorem erC_nil {n : Str} : ErC K [] n := fun _ h => nomatch h
theorem erC_cons {n : Str} {cs : List Str} (x : ExcC K (He.ga K c)) (h : PySem.W.findIn K (.ref (He.ga K c)) n = some none) (r : ErC K cs n) : ErC K (c :: cs) n := fun c' m => by
  cases m with
  | head => exact ⟨x, h⟩
  | tail _ m => exact r c' m
end
section
variable {P : Program} {w : World} {K : PySem.W.Frag}
  {mg : Str → Option Value} {base : Heap}
def FnT (P : Program) (w : World) (K : PySem.W.Frag) (mg : Str → Option Value) (base : Heap) (k n : Nat) (tab : List (Str × Mr)) : Prop := ∀ x f, tab.lookup x = some f → ∃ ps : List Str, ps.length = n ∧ OkD P w K mg base k x ps f
theorem fnT_nil {k n : Nat} : FnT P w K mg base k n [] := fun _ _ e => by cases e
theorem fnT_cons {k j n : Nat} {tab : List (Str × Mr)} {x : Str} {ps : List Str} {f : Mr} (O : OkD P w K mg base j x ps f) (hk : j ≤ k) (hn : ps.length = n) (r : FnT P w K mg base k n tab) : FnT P w K mg base k n ((x, f) :: tab) := fun x' f' e => by
  rw [List.lookup_cons] at e
  cases hx : x' == x with
  | true =>
    rw [hx] at e
    cases e
    rw [beq_iff_eq.mp hx]
    exact ⟨ps, hn, O.mono hk⟩
  | false =>
    rw [hx] at e
    exact r x' f' e
theorem ErrO.nf {c f : Str} (E : ErrO P w K mg base c f) : PySem.W.findIn K (.ref (He.ga K c)) f = some none := by
  obtain ⟨_, E, _, _⟩ := E.ex
  exact E.nf
end
section
variable {α β : Type}
theorem pu_erF {cs : List Str} {n : Str} {m : MM D} (h : Pu m) : Pu (mErF cs n m) := h.bind fun _ => pu_o1
theorem pu_isE {tab : List (Str × Bool)} {m : MM D} (h : Pu m) : Pu (mIsE tab m) := h.bind fun _ => pu_o1
def PuT (tab : List (Str × Mr)) : Prop := ∀ x f, tab.lookup x = some f → PuF f
theorem puT_nil : PuT [] := fun _ _ e => by cases e
theorem puT_cons {x : Str} {f : Mr} {tab : List (Str × Mr)} (h : PuF f) (r : PuT tab) : PuT ((x, f) :: tab) := fun x' f' e => by
  rw [List.lookup_cons] at e
  cases hx : x' == x with
  | true =>
    rw [hx] at e
    cases e
    exact h
  | false =>
    rw [hx] at e
    exact r x' f' e
theorem pu_fn {tab : List (Str × Mr)} {n : Nat} {mf : MM D} {ms : MM (List D)} (h : PuT tab) (hf : Pu mf) (hs : Pu ms) : Pu (mFn tab n mf ms) := hf.bind fun d => by
  cases d <;> try exact pu_out
  rename_i x
  dsimp only
  cases e : tab.lookup x with
  | none => exact pu_out
  | some f => exact pu_def (h x f e) hs
theorem pu_try {tab : List (Str × Bool)} {i : Nat} {mb ms : MS} (h : PuS mb) (h' : PuS ms) : PuS (mTry tab i mb ms) := by
  intro ρ x
  unfold mTry
  rw [h ρ x]
  cases mb ρ b0 with
  | exc c fs ρ1 x1 =>
    show (match tab.lookup c with
      | some true => (match ms (ρ1.set i (.fz (.err c fs))) x with
        | .nx ρ2 x2 => RS.nx (wipeE ρ2 [i]) x2
        | .brk ρ2 x2 => .brk (wipeE ρ2 [i]) x2
        | .cnt ρ2 x2 => .cnt (wipeE ρ2 [i]) x2
        | .ret d x2 => .ret d x2
        | _ => .out)
      | _ => .out) = RS.st x (match tab.lookup c with
      | some true => (match ms (ρ1.set i (.fz (.err c fs))) x1 with
        | .nx ρ2 x2 => RS.nx (wipeE ρ2 [i]) x2
        | .brk ρ2 x2 => .brk (wipeE ρ2 [i]) x2
        | .cnt ρ2 x2 => .cnt (wipeE ρ2 [i]) x2
        | .ret d x2 => .ret d x2
        | _ => .out)
      | _ => .out)
    cases tab.lookup c with
    | none => rfl
    | some b =>
      cases b with
      | false => rfl
      | true =>
        dsimp only
        rw [h' _ x, h' _ x1]
        cases ms (ρ1.set i (.fz (.err c fs))) b0 <;> rfl
  | _ => rfl
end
end Mi

/-! Mi17: errors made by hand, as values: by place, by name, of nothing. -/
namespace Mi
open PySem PySem.Spec
open L2 PyProof.Rows
/-! ### an own error class called with one keyword: the machine's way, step by step -/
namespace Kw
open HandSPX Builtin PySem.Calls
section
variable {prog : Program} {w : World} {A : Around} {h : Heap} {gs : Array GenState} {dr : Drawn} {tk : Nat} {os : OsState}
variable {nm qn : Str} {C N fI : Addr} {bs bm bmB : List Value} {hd : Bool} {sn : List Str} {su : List Value} {ab : Bool} {co : Option Bool} {dd : Option Addr} {m0 m1 m2 m3 m5 : Option Value} {B newId initId : String}
/-- what is known of the class -/
structure Kn (F : ExcBaseFacts B newId initId bmB) (bm : List Value) : Prop where
  has : ∀ T : String, bm.contains (.type T) = bmB.contains (.type T)
theorem Kn.own {F : ExcBaseFacts B newId initId bmB} (k : Kn F bm) {T : String} {b : Bool} (e : bmB.contains (.type T) = b) : (Value.ref C :: bm).contains (.type T) = b :=
  (List.contains_cons).trans (by rw [k.has, e]; cases b <;> rfl)
/-- its __new__ may be asked so .. -/
theorem new_may {M : Model} {E : Value → Shared → Prop} {Q : Unit → Shared → Prop} {F : ExcBaseFacts B newId initId bmB} (k : Kn F bm) {ky : Str} {kv : Value}
    (hC : h.get? C = some (excClassObj nm qn C N bs bm hd sn su ab co dd m0 m1 m2 m3 m5 newId)) (q : Q () ⟨h, gs, dr, tk, os⟩) :
    wpAny M A (checkBuiltinCall newId ⟨[.ref C], [(ky, kv)]⟩) Q E ⟨h, gs, dr, tk, os⟩ := by
  have isB := k.own (C := C) F.hasB
  have star := F.noStar
  unfold checkBuiltinCall
  simp only [F.newKind, F.newSplit, F.newRow]
  repeat (first
    | exact q
    | refine wpAny_loadPart_at hC ?_
    | (refine wpAny_isSubtype_exc hC ?_
       rw [isB])
    | refine wpAny_staticBase_exc hC ?_
    | refine wpAny_madeBy_exc hC ?_
    | simp only [bne_self_eq_false, Bool.false_eq_true, if_false]
    | wp_step)
/-- .. and lays a record behind an empty tuple -/
theorem new_does {R : Result → Shared → Prop} {F : ExcBaseFacts B newId initId bmB} (k : Kn F bm) {ky : Str} {kv : Value}
    (hC : h.get? C = some (excClassObj nm qn C N bs bm hd sn su ab co dd m0 m1 m2 m3 m5 newId))
    (q : R (.ok (.ret (.ref (h.objs.size + 1)))) ⟨(h.push (W.kdv_tup [])).push (excO C h.objs.size), gs, dr, tk, os⟩) :
    codeAny (model prog w) A (.builtin newId ⟨[.ref C], [(ky, kv)]⟩) R ⟨h, gs, dr, tk, os⟩ := by
  have ends := F.ends
  have isB := k.own (C := C) F.hasB
  have noA := k.own (C := C) F.noAttr
  have noN := k.own (C := C) F.noName
  refine codeAny_builtinAt
    F.entry ?_
  refine PySem.wpAt_bind ?_
  refine PySem.wpAt_bind (PySem.wpAt_stack fun _ _ => PySem.wpAt_of_wpAny ?_)
  wp_walk
  refine PySem.wpAt_of_wpAny ?_
  rw [F.owner]
  repeat (first
    | with_reducible refine wpAny_madeHere_exc F.canon hC ?_
    | with_reducible refine wpAny_loadPart_at hC ?_
    | (with_reducible refine wpAny_isSubtype_exc hC ?_
       first
         | rw [isB]
         | rw [noA]
         | rw [noN])
    | wp_step)
  refine (show R _ _ from ?_)
  rw [Heap.size_push]
  exact q
/-- the class itself called: a record, then its own __init__ with the keyword -/
theorem call_does {R : Result → Shared → Prop} {F : ExcBaseFacts B newId initId bmB} (k : Kn F bm) {ky : Str} {kv : Value}
    (hC : h.get? C = some (excClassObj nm qn C N bs bm hd sn su ab co dd m0 m1 m2 m3 m5 newId)) (li : W.Looks (model prog w) h (typeLookup (.ref C) "__init__") (some (.ref fI)))
    (lb : ∀ self, W.Looks (model prog w) h (bindSpecial (.ref fI) self) (.ref fI, [self]))
    (q : codeAny (model prog w) (A.under (.builtin "type.__call__" ⟨[.ref C], [(ky, kv)]⟩)) (.call (.ref fI) ⟨[.ref (h.objs.size + 1)], [(ky, kv)]⟩) (W.InitBack (h.objs.size + 1) R) ⟨(h.push (W.kdv_tup [])).push (excO C h.objs.size), gs, dr, tk, os⟩) :
    codeAny (model prog w) A (.call (.ref C) ⟨[], [(ky, kv)]⟩) R ⟨h, gs, dr, tk, os⟩ := by
  have stay : ∀ b o, h.get? b = some o → ((h.push (W.kdv_tup [])).push (excO C h.objs.size)).get? b = some o := fun b o e => Heap.get?_push_of_some _ (Heap.get?_push_of_some _ e)
  have there : ((h.push (W.kdv_tup [])).push (excO C h.objs.size)).get? (h.objs.size + 1) = some (excO C h.objs.size) := by heap_get
  have own : (Value.ref C :: bm).contains (.ref C) = true := by simp
  have hC' := stay _ _ hC
  have t0 := tc_lookup
  have t1 := tc_bind (.ref C)
  have ty : (⟨h, gs, dr, tk, os⟩ : Shared).TypeIs (.ref C) "type" := ⟨_, hC, rfl⟩
  refine codeAny_of_tree ?_
  show wpAny (model prog w) _ (callAny (.ref C) ⟨[], [(ky, kv)]⟩) _ _ _
  repeat (any_goals (first
    | assumption
    | with_reducible refine wpAny_loadPart_at hC ?_
    | wp_step))
  refine ⟨rfl, codeAny_call_builtin_at (Code.quiet_builtin _ (by decide +kernel)) entry_typeCall (wpAny_check_type_call_sub hC ?_)⟩
  repeat (first
    | with_reducible refine wpAny_loadPart_at hC ?_
    | with_reducible refine wpAny_madeBy_exc hC ?_
    | wp_step)
  refine codeAny_call_builtin_code (Code.quiet_builtin _ F.quiet) (new_may k hC (new_does k hC ?_))
  refine (show wpAny _ _ _ _ _ _ from ?_)
  unfold isInstance
  repeat (first
    | with_reducible refine wpAny_loadPart_at there ?_
    | (with_reducible refine wpAny_isSubtype_exc hC' ?_
       rw [own])
    | wp_step)
  refine (show wpAny _ _ (typeLookup _ _) _ _ _ from (li.keeps stay).at (wpAny_holding (wpAny_bind ((lb _).keeps stay |>.at (wpAny_bind (wpAny_call (codeAny_mono q fun r s' z => ?_)))))))
  cases r with
  | error e => exact z
  | ok fl =>
    cases fl with
    | next => exact z.elim
    | brk => exact z.elim
    | cont => exact z.elim
    | ret v =>
      obtain ⟨ev, z⟩ := z
      subst ev
      first
        | exact
          wpAny_pure (wpAny_pure z)
        | (wp_walk
           exact z)
end
end Kw
/-! ### made in the frame of X -/
section
variable {X : Cx} {pins : List (Addr × Obj)} {σ : L2.St} {H : Hp} {hp : Heap} {gs : Array GenState} {dr : Drawn} {tk : Nat} {os : OsState}
/-- the heap behind the laying of an error that is told apart by its place a and its dict's place dx -/
abbrev errH (H : Hp) (a C dx : Addr) (f : Str) (v : V) : Hp := upd (upd H dx (.xd [(f, v)])) a (exv a C (some dx))
theorem told_exv {s : Shared} {a C dx : Addr} {f : Str} {v : V} (na : H a = none) (nd : H dx = none) (ne : dx ≠ a)
    (I : L2.Inv X pins σ (upd (upd (upd H a (exo a C none)) dx (exd dx [(f, v)])) a (exo a C (some dx))) s) : L2.Inv X pins σ (errH H a C dx f v) s := by
  have atA : upd (upd (upd H a (exo a C none)) dx (exd dx [(f, v)])) a (exo a C (some dx)) a = some (exo a C (some dx)) := upd_same
  have atD : upd (upd (upd H a (exo a C none)) dx (exd dx [(f, v)])) a (exo a C (some dx)) dx = some (exd dx [(f, v)]) := (upd_ne ne).trans upd_same
  obtain ⟨mA, names, look⟩ := exd_at I.hok atD
  obtain ⟨_, obj⟩ := exo_at I.hok atA
  have J : L2.Inv X pins σ _ { s with heap := s.heap, toks := s.toks } := I.write (t' := s.toks) (x := dx) (e := dx) (o := .xd [(f, v)]) (h' := s.heap) (atD ▸ True.intro) (.inl rfl) (fun _ _ _ h => h) (let ⟨o, _, _, e, _⟩ := names; ⟨o, e⟩) ⟨mA, names, look⟩
  have J2 := J.write (t' := s.toks) (x := a) (e := a) (o := exv a C (some dx)) (h' := s.heap) (by rw [upd_ne (Ne.symm ne), upd_same]; exact True.intro) (.inl rfl) (fun _ _ _ h => h) ⟨_, obj⟩ (exv_ok obj ⟨rfl, rfl⟩ rfl)
  have same : upd (upd (upd (upd (upd H a (exo a C none)) dx (exd dx [(f, v)])) a (exo a C (some dx))) dx (.xd [(f, v)])) a (exv a C (some dx)) = errH H a C dx f v := funext fun b => by
    unfold errH
    by_cases ha : b = a
    · rw [ha, upd_same, upd_same]
    · rw [upd_ne ha, upd_ne ha]
      by_cases hd : b = dx
      · rw [hd, upd_same, upd_same]
      · simp only [upd_ne ha, upd_ne hd]
  exact same ▸ J2
theorem init_does {fd : FuncData} {fI C : Addr} {f : Str} {u : Value} {v : V} {us : List Value} {A : Around} {args : Args} {Q : VK} (F : FnOk X.prog X.w X.K X.mg X.base CX0 1 fI fd ["self", f] (spI C f)) (I : L2.Inv X pins σ H ⟨hp, gs, dr, tk, os⟩) (rv : RelV v u) (hr : Room 1 A)
    (env : ∀ s' H', Env0 X.prog X.w X.K X.mg X.base X.A X.stack s' H' → Env0 X.prog X.w X.K X.mg X.base A X.stack s' H') (hb : ∀ s', BindsTo s' fd args [("self", .ref (hp.objs.size + 1)), (f, u)])
    (q : ∀ a dx, H a = none → H dx = none → dx ≠ a → Q (.ref a) (errH H a C dx f v)) :
    codeAny (model X.prog X.w) A (.call (.ref fI) args) (PySem.W.InitBack (hp.objs.size + 1) fun r s' => ∃ u', r = .ok (.ret u') ∧ EP X pins σ Q u' s') ⟨(hp.push (PySem.W.kdv_tup us)).push (HandSPX.excO C hp.objs.size), gs, dr, tk, os⟩ := by
  have na : H (hp.objs.size + 1) = none := I.hok.fresh (Nat.le_succ _)
  have got : ((hp.push (PySem.W.kdv_tup us)).push (HandSPX.excO C hp.objs.size)).get? (hp.objs.size + 1) = some (HandSPX.excO C hp.objs.size) := by heap_get
  have J := I.laid (t' := tk) (h' := (hp.push (PySem.W.kdv_tup us)).push (HandSPX.excO C hp.objs.size)) (a := hp.objs.size + 1) (o := exo (hp.objs.size + 1) C none) (fun b o e => Heap.get?_push_of_some _ (Heap.get?_push_of_some _ e)) (Nat.le_succ _) (exo_ok got)
  refine codeAny_mono (F.run A X.stack _ _ args [.ref (hp.objs.size + 1), u] [.ref (hp.objs.size + 1), v]
    (fun w H' => w = .non ∧ ∃ dx, H dx = none ∧ dx ≠ hp.objs.size + 1 ∧ H' = upd (upd (upd H (hp.objs.size + 1) (exo (hp.objs.size + 1) C none)) dx (exd dx [(f, v)])) (hp.objs.size + 1) (exo (hp.objs.size + 1) C (some dx)))
    (fun _ _ _ => False) hr (env _ _ J.env0) (hb _) (.cons rfl (.cons rv .nil)) ⟨_, v, rfl, upd_same, fun dx nx ne => ⟨rfl, dx, (upd_ne ne).symm.trans nx, ne, rfl⟩⟩) fun r s' z => ?_
  match r, z with
  | .error _, z => exact z.elim
  | .ok .next, z => exact z.elim
  | .ok .brk, z => exact z.elim
  | .ok .cont, z => exact z.elim
  | .ok (.ret u'), z =>
    obtain ⟨w, H2, K2, rw2, ew, dx, nd, ne, eH⟩ := J.after z
    subst ew eH
    exact ⟨rw2, _, rfl, .ref (hp.objs.size + 1), _, told_exv na nd ne K2, rfl, q _ dx na nd ne⟩
end
/-- an own error class, whole, also by a keyword -/
structure ErrK (P : Program) (w : World) (K : PySem.W.Frag) (mg : Str → Option Value) (base : Heap) (c f : Str) : Prop where
  ex : ∃ fd, ErrC K c f fd ∧ FnOk P w K mg base CX0 1 (He.ma K (He.ga K c) "__init__") fd ["self", f] (spI (He.ga K c) f) ∧ (∀ (s : Shared) (u v : Value), BindsTo s fd ⟨[u, v], []⟩ [("self", u), (f, v)]) ∧ ∀ (s : Shared) (u v : Value), BindsTo s fd ⟨[u], [(f, v)]⟩ [("self", u), (f, v)]
  gm : mg c = some (.ref (He.ga K c))
def tMkV (C : Addr) (f : Str) (ta : TA) : TE := fun σ H Q => ta σ H fun vs H1 => ∃ v, vs = [v] ∧ ∀ a dx, H1 a = none → H1 dx = none → dx ≠ a → Q (.ref a) (errH H1 a C dx f v)
section
variable {X : Cx} {W : WX} {c f : Str} {e : Expr} {ta : TA} {p pos : Pos}
theorem ret_of {M : Model} {A : Around} {E Q : Value → Shared → Prop} {g : Value} {args : Args} {s : Shared} (h : codeAny M A (.call g args) (fun r s' => ∃ u', r = .ok (.ret u') ∧ Q u' s') s) : wpAny M A (call g args.pos args.kw) Q E s :=
  wpAny_call (codeAny_mono h fun r s' ⟨u', e, q⟩ => by
    subst e
    exact q)
theorem pe_mkV (E : ErrK X.prog X.w X.K X.mg X.base c f) (hr : Room 2 X.A) (ha : PA X [e] ta) (hg : Gl X c := by rfl) (hdb : (c == ("__debug__" : Str)) = false := by decide)
    (he : starEach [e] X.env = (false, eval e X.env) :: starEach [] X.env := by rfl) (hpl : (backTo pos (starEach [] X.env)).any (·.1) = false := by rfl) : PE X (.Call (.Name c p) [e] [] pos) (tMkV (He.ga X.K c) f ta) where
  run := fun pins s σ H Q I h => by
    obtain ⟨fd, EC, F, hb, _⟩ := E.ex
    obtain ⟨nm, qn, N, bs, bm, sn, su, ab, co, dd, m0, m1, m2, m3, m5, cls, refs⟩ := EC.T.cls
    refine wpAny_Call_Name_kw (ld_glob I hg E.gm (PySem.W.callWith_K (h₀ := X.base) I.ok.mod.kin EC.T.kC (thn (ha.run pos pins s σ H _ I h) fun us s1 hh => ?_) he hpl) hdb)
    obtain ⟨vs, H1, I1, r1, v, ev, q⟩ := hh
    subst ev
    match us, r1 with
    | [u], .cons rv .nil =>
      refine ⟨I1.kIn, ret_of (args := ⟨[u], []⟩) (HandSPX.call_own PySem.F.excBase_ValueError (fun T => HandSPX.refsVE_contains T bm refs) (I1.kIn _ _ cls) (PySem.W.looks_findIn I1.kIn EC.iC) (fun self => PySem.W.bind_fn I1.kIn self EC.tI) (by show 1 ≤ sizeLine; decide) ?_)⟩
      exact init_does F I1 rv (hr.make (He.ga X.K c) [u] []) (fun _ _ z => z.make (He.ga X.K c) [u] []) (fun s' => hb s' _ u) q
theorem pe_mkW {kpos : Pos} (E : ErrK X.prog X.w X.K X.mg X.base c f) (hr : Room 2 X.A) (ha : PK X [⟨some f, e, kpos⟩] ta) (hg : Gl X c := by rfl) (hdb : (c == ("__debug__" : Str)) = false := by decide)
    (hks : (backToKw pos (keywordEach [⟨some f, e, kpos⟩] X.env)).filterMap (·.1) = [f] := by rfl) (hall : (backToKw pos (keywordEach [⟨some f, e, kpos⟩] X.env)).all (·.1.isSome) = true := by rfl)
    (hpl : ((backTo pos (starEach [] X.env)).any (·.1) || (backToKw pos (keywordEach [⟨some f, e, kpos⟩] X.env)).any (fun k => k.1.isNone)) = false := by rfl) : PE X (.Call (.Name c p) [] [⟨some f, e, kpos⟩] pos) (tMkV (He.ga X.K c) f ta) where
  run := fun pins s σ H Q I h => by
    obtain ⟨fd, EC, F, _, hb⟩ := E.ex
    obtain ⟨nm, qn, N, bs, bm, sn, su, ab, co, dd, m0, m1, m2, m3, m5, cls, refs⟩ := EC.T.cls
    refine wpAny_Call_Name_kw (ld_glob I hg E.gm (PySem.W.callWith_KW0 (h₀ := X.base) I.ok.mod.kin EC.T.kC hall (thn (ha.run pos pins s σ H _ I h) fun us s1 hh => ?_) hpl) hdb)
    obtain ⟨vs, H1, I1, r1, v, ev, q⟩ := hh
    subst ev
    match us, r1 with
    | [u], .cons rv .nil =>
      rw [hks]
      refine ⟨I1.kIn, ret_of (args := ⟨[], [(f, u)]⟩) (Kw.call_does (F := PySem.F.excBase_ValueError) ⟨fun T => HandSPX.refsVE_contains T bm refs⟩ (I1.kIn _ _ cls) (PySem.W.looks_findIn I1.kIn EC.iC) (fun self => PySem.W.bind_fn I1.kIn self EC.tI) ?_)⟩
      exact init_does F I1 rv (hr.make (He.ga X.K c) [] [(f, u)]) (fun _ _ z => z.make (He.ga X.K c) [] [(f, u)]) (fun s' => hb s' _ u) q
end
end Mi

/-! Mi18: mirrors of errors made by hand. -/
namespace Mi
open PySem PySem.Spec
open L2 PyProof.Rows
/-- an own error class without an own __init__ -/
structure Err0 (K : PySem.W.Frag) (mg : Str → Option Value) (c : Str) : Prop where
  ex : ∃ (B newId initId : String) (bmB : List Value), ExcBaseFacts B newId initId bmB ∧ PySem.W.excIn K (He.ga K c) bmB newId = true
  kp : PySem.W.keepIn K (.ref (He.ga K c)) = true
  gm : mg c = some (.ref (He.ga K c))
section
variable {X : Cx} {W : WX} {c f : Str} {e : Expr} {p pos : Pos} {ms : MM (List D)}
theorem pe_mk0 (E : Err0 X.K X.mg c) (hg : Gl X c := by rfl) (hdb : (c == ("__debug__" : Str)) = false := by decide) : PE X (.Call (.Name c p) [] [] pos) (fun σ H Q => ∀ a, H a = none → Q (.ref a) (upd H a (exv a (He.ga X.K c) none))) where
  run := fun pins s σ H Q I h => by
    obtain ⟨B, newId, initId, bmB, F, q⟩ := E.ex
    obtain ⟨bm, N, nm, qn, bs, hdct, sn, sub, ab, col, dd, k0, k1, k2, k3, k5, mN, hC, hN, hni, T⟩ := exc_obj I.kIn q
    refine wpAny_Call_Name_kw (ld_glob I hg E.gm (PySem.W.callWith_K0 I.kIn E.kp ?_) hdb)
    refine (show wpAny _ _ (call (.ref _) []) _ _ _ from wpAny_call_exc_subT F T hC hN hni (fun h' a hm => ?_) (Nat.zero_le _))
    have na : H a = none := I.hok.gone hm.new
    obtain ⟨t, ht, _, _⟩ :=
      hm.there
    exact ⟨.ref a, _, I.laidN (t' := s.toks) hm.keeps hm.new na (exv_ok ht ⟨rfl, rfl⟩ rfl), rfl, h a na⟩
def mMk0 (c : Str) : MM D := fun _ x => .val (.err c []) x
theorem j_mk0 (E : Err0 X.K X.mg c) (hg : Gl X c := by rfl) (hdb : (c == ("__debug__" : Str)) = false := by decide) : PE X (.Call (.Name c p) [] [] pos) (rdE X.K W (mMk0 c)) :=
  peI (pe_mk0 E hg hdb) fun σ H Q ⟨S, F, ρ, x, eK, r, q⟩ a na => by
    rw [← eK]
    exact post_new (α := D) r q na (.err0 upd_same rfl)
def mMkE (c f : Str) (ms : MM (List D)) : MM D := mBind ms fun ds => match ds with
  | [d] => fun _ x => .val (.err c [(f, d)]) x
  | _ => fun _ _ => .out
theorem rd_mkE {σ : L2.St} {H : Hp} {Q : VK} (h : rdE X.K W (mMkE c f ms) σ H Q) : tMkV (He.ga X.K c) f (rdA X.K W ms) σ H Q :=
  rd_unL (rl := rlD) (r := fun vs H1 Q => ∃ v, vs = [v] ∧ ∀ a dx, H1 a = none → H1 dx = none → dx ≠ a → Q (.ref a) (errH H1 a (He.ga X.K c) dx f v)) (fun S F H σ ρ x vs ds Q eK r hv q => by
    split at q
    · rename_i d
      obtain ⟨v, rfl, hd⟩ := rep1 hv
      refine ⟨v, rfl, fun a dx na nd ne => ?_⟩
      have r1 := r.alloc (o := .xd [(f, v)]) nd
      have na1 : upd H dx (.xd [(f, v)]) a = none := (upd_ne (Ne.symm ne)).trans na
      have r2 := r1.alloc (o := exv a (He.ga S.K c) (some dx)) na1
      have s1 : Same F (upd F dx (.xd [(f, v)])) := Same.new (r.core.nF nd)
      have s2 := Same.new (o := exv a (He.ga S.K c) (some dx)) (r1.core.nF na1)
      rw [← eK]
      exact q (.ref a) _ _ r2 (s1.trans s2) ((KeepB.new nd).trans (KeepB.new na1)) (.err upd_same rfl ((upd_ne ne).trans upd_same) (.cons (hd.mono (s1.trans s2)) .nil))
    · exact q.elim) h
theorem j_mkE (E : ErrK X.prog X.w X.K X.mg X.base c f) (hr : Room 2 X.A) (ha : PA X [e] (rdA X.K W ms)) (hg : Gl X c := by rfl) (hdb : (c == ("__debug__" : Str)) = false := by decide)
    (he : starEach [e] X.env = (false, eval e X.env) :: starEach [] X.env := by rfl) (hpl : (backTo pos (starEach [] X.env)).any (·.1) = false := by rfl) : PE X (.Call (.Name c p) [e] [] pos) (rdE X.K W (mMkE c f ms)) :=
  peI (pe_mkV E hr ha hg hdb he hpl) fun σ H Q h => rd_mkE h
theorem j_mkW {kpos : Pos} (E : ErrK X.prog X.w X.K X.mg X.base c f) (hr : Room 2 X.A) (ha : PK X [⟨some f, e, kpos⟩] (rdA X.K W ms)) (hg : Gl X c := by rfl) (hdb : (c == ("__debug__" : Str)) = false := by decide)
    (hks : (backToKw pos (keywordEach [⟨some f, e, kpos⟩] X.env)).filterMap (·.1) = [f] := by rfl) (hall : (backToKw pos (keywordEach [⟨some f, e, kpos⟩] X.env)).all (·.1.isSome) = true := by rfl)
    (hpl : ((backTo pos (starEach [] X.env)).any (·.1) || (backToKw pos (keywordEach [⟨some f, e, kpos⟩] X.env)).any (fun k => k.1.isNone)) = false := by rfl) : PE X (.Call (.Name c p) [] [⟨some f, e, kpos⟩] pos) (rdE X.K W (mMkE c f ms)) :=
  peI (pe_mkW E hr ha hg hdb hks hall hpl) fun σ H Q h => rd_mkE h
end
theorem ErrK.nf {P : Program} {w : World} {K : PySem.W.Frag} {mg : Str → Option Value} {base : Heap} {c f : Str} (E : ErrK P w K mg base c f) : PySem.W.findIn K (.ref (He.ga K c)) f = some none :=
  let ⟨_, E, _⟩ := E.ex
  E.nf
end Mi

/-! Mi19: while with fuel, sum, lcm, xs.pop(), elements of an owned list, one new list beside a value. -/
namespace Mi
open PySem PySem.Spec L2
section
variable {X : Cx} {W : WX}
/-! ### while: fuel in the mirror -/
def whileS (t : MM Bool) (mb : MS) : Nat → MS
  | 0 => fun _ _ => .out
  | n + 1 => mE t fun c => if c then (fun ρ x => match mb ρ x with
    | .nx ρ' x' => whileS t mb n ρ' x'
    | .cnt ρ' x' => whileS t mb n ρ' x'
    | .brk ρ' x' => .nx ρ' x'
    | .ret d x' => .ret d x'
    | .retN d x' => .retN d x'
    | .exc c f ρ' x' => .exc c f ρ' x'
    | .out => .out) else mNext
theorem js_while {c : Expr} {body : List Stmt} {pos : Pos} {t : MM Bool} {mb : MS} (n : Nat) (hp : PassesOwn (model X.prog X.w) X.A X.env X.xe) (hc : PT X c (rdT X.K W t)) (hb : PSs X body (rdS X.K W mb)) :
    PS X (.While c body [] pos) (rdS X.K W (whileS t mb n)) :=
  psI (ps_while hp hc hb) fun D σ H h => by
    obtain ⟨S, F1, ρ, x, eK, r1, p⟩ := h
    refine ⟨fun m σ H => ∃ F ρ x, Rel ⟨S.K, S.b, S.H0, F1⟩ F H σ ρ x ∧ PostS ⟨S.K, S.b, S.H0, F1⟩ W (whileS t mb m ρ x) D, ⟨n, F1, ρ, x, r1.rooted, p.root r1.core⟩, fun m σ' H' hW => ?_⟩
    obtain ⟨F', ρ', x', r', pp⟩ := hW
    refine (show rdT X.K W t σ' H' _ from ⟨⟨S.K, S.b, S.H0, F1⟩, F', ρ', x', eK, r', ?_⟩)
    cases m with
    | zero => exact pp.elim
    | succ m =>
      unfold whileS mE at pp
      cases e1 : t ρ' x' with
      | out =>
        rw [e1] at pp
        exact pp.elim
      | exc c fs x1 =>
        rw [e1] at pp
        exact fun F' H' dd a1 _ _ a4 => pp σ' F' H' dd a1 a4
      | val b x1 =>
        rw [e1] at pp
        intro v F2 H2 r2 s2 k2 hv
        have hv : v = b := hv
        subst hv
        cases v with
        | false => exact pp σ' F2 H2 r2
        | true =>
          rw [if_pos rfl]
          refine ⟨fun σ3 H3 => ∃ F ρ x, Rel ⟨S.K, S.b, S.H0, F1⟩ F H3 σ3 ρ x ∧ PostS ⟨S.K, S.b, S.H0, F1⟩ W (whileS t mb m ρ x) D, fun σ3 H3 hN => ⟨m, Nat.lt_succ_self m, hN⟩, ?_⟩
          refine (show rdS X.K W mb _ _ _ from ⟨⟨S.K, S.b, S.H0, F1⟩, F2, ρ', x1, eK, r2, ?_⟩)
          dsimp only at pp
          rw [if_pos rfl] at pp
          cases e3 : mb ρ' x1 with
          | nx ρ3 x3 =>
            rw [e3] at pp
            exact fun σ3 F3 H3 r3 => ⟨F3, ρ3, x3, r3, pp⟩
          | cnt ρ3 x3 =>
            rw [e3] at pp
            exact fun σ3 F3 H3 r3 => ⟨F3, ρ3, x3, r3, pp⟩
          | brk ρ3 x3 =>
            rw [e3] at pp
            exact fun σ3 F3 H3 r3 => pp σ3 F3 H3 r3
          | ret d3 x3 =>
            rw [e3] at pp
            exact pp
          | retN d3 x3 =>
            rw [e3] at pp
            exact pp
          | exc c3 f3 ρ3 x3 =>
            rw [e3] at pp
            exact pp
          | out =>
            rw [e3] at pp
            exact pp
theorem pu_while {t : MM Bool} {mb : MS} (h : Pu t) (hb : PuS mb) : ∀ n : Nat, PuS (whileS t mb n)
  | 0 => fun _ _ => rfl
  | n + 1 => pu_e h fun c => by
    cases c with
    | false => exact pu_next
    | true =>
      rw [if_pos rfl]
      intro ρ x
      show (match mb ρ x with
        | .nx ρ' x' => whileS t mb n ρ' x'
        | .cnt ρ' x' => whileS t mb n ρ' x'
        | .brk ρ' x' => .nx ρ' x'
        | .ret d x' => .ret d x'
        | .retN d x' => .retN d x'
        | .exc c f ρ' x' => .exc c f ρ' x'
        | .out => .out) = _
      rw [hb ρ x]
      cases e : mb ρ b0 with
      | nx ρ2 x2 => exact (pu_while h hb n ρ2 x).trans (by dsimp only; rw [e]; dsimp only; rw [pu_while h hb n ρ2 x2, RS.st_st])
      | cnt ρ2 x2 => exact (pu_while h hb n ρ2 x).trans (by dsimp only; rw [e]; dsimp only; rw [pu_while h hb n ρ2 x2, RS.st_st])
      | brk ρ2 x2 => dsimp only; rw [e]; rfl
      | ret d x2 => dsimp only; rw [e]; rfl
      | retN d x2 => dsimp only; rw [e]; rfl
      | exc c f ρ2 x2 => dsimp only; rw [e]; rfl
      | out => dsimp only; rw [e]; rfl
/-! ### sum -/
def asIs : List D → Option (List Int)
  | [] => some []
  | .int i :: ds => (asIs ds).map fun l => i :: l
  | _ => none
theorem RepL.ints {K : PySem.W.Frag} {b : Option Addr} {F : Hp} : ∀ {vs : List V} {ds : List D} {ns : List Int}, RepL K b F vs ds → asIs ds = some ns → vs = ns.map V.int
  | [], ds, ns, h, e => by
    cases h
    cases e
    rfl
  | v :: vs, ds, ns, h, e => by
    cases h with
    | cons h1 h2 =>
      cases h1 <;> first | (cases e; done) | skip
      rename_i es i
      cases q : asIs es with
      | none =>
        rw [asIs, q] at e
        cases e
      | some l =>
        rw [asIs, q] at e
        cases e
        rw [RepL.ints h2 q]
        rfl
def gSum : List D → Option D
  | [.lst ds] => (asIs ds).map fun ns => .int ns.sum
  | _ => none
theorem real_sum {K : PySem.W.Frag} : RealA K W (rSum K) fun ds => o1 (gSum ds) := by
  intro S F H σ ρ x vs ds Q eK r hv p
  unfold gSum at p
  dsimp only at p
  split at p
  · rename_i ds
    obtain ⟨v, e, h⟩ := rep1 hv
    subst e
    cases h with
    | lst h r1 =>
      cases q : asIs ds with
      | none =>
        rw [q] at p
        exact p.elim
      | some ns =>
        rw [q] at p
        have e2 := r1.ints q
        subst e2
        exact ⟨_, ns, rfl, sqL (r.core.sub _ _ h), post_val (rl := rlD) r p (.int _)⟩
  · exact p.elim
/-! ### lcm -/
def rLcmS : List V → Hp → VK → Prop := fun vs H Q => ∃ a b : Int, vs = [.int a, .int b] ∧ a.natAbs < 2 ^ 64 ∧ b.natAbs < 2 ^ 64 ∧ Q (.int ((Nat.lcm a.natAbs b.natAbs : Nat) : Int)) H
theorem cr_lcmS : CallR X (.builtin "math.lcm") rLcmS := by
  intro pins s σ
    H vs us Q I r h
  obtain ⟨a, b, rfl, ha, hb, q⟩ := h
  obtain ⟨t, u, rfl⟩ :=
    Vals.int2 r
  exact PySem.W.mc_lcm ha hb fun _ => ⟨.int _, H, I.tok _, ⟨_, rfl⟩, q⟩
def gLcm : List D → Option D
  | [.int i, .int j] => if i.natAbs < 2 ^ 64 ∧ j.natAbs < 2 ^ 64 then some (.int (Nat.lcm i.natAbs j.natAbs : Nat)) else none
  | _ => none
theorem j_lcm {g : Str} {p pos : Pos} {e : Expr} {es : List Expr} {ms : MM (List D)} (hg : Gl X g) (hm : X.mg g = some (.builtin "math.lcm")) (ha : PA X (e :: es) (rdA X.K W ms)) (hdb : (g == ("__debug__" : Str)) = false := by decide)
    (he : starEach (e :: es) X.env = (false, eval e X.env) :: starEach es X.env := by rfl) (hpl : (backTo pos (starEach es X.env)).any (·.1) = false := by rfl) : PE X (.Call (.Name g p) (e :: es) [] pos) (rdE X.K W (mCall gLcm ms)) :=
  peI (pe_callBfun cr_lcmS hg hm ha hdb he hpl) fun σ H Q q => rd_unL (rl := rlD) (r := rLcmS) (fun S F H σ ρ x vs ds Q eK r hv p => by
    unfold gLcm at p
    split at p
    · rename_i i j
      by_cases hz : i.natAbs < 2 ^ 64 ∧ j.natAbs < 2 ^ 64
      · obtain ⟨v, u, e, h, h2⟩ := rep2 hv
        subst e
        cases h
        cases h2
        rw [if_pos hz] at p
        exact ⟨_, _, rfl, hz.1, hz.2, post_val (rl := rlD) r p (.int _)⟩
      · rw [if_neg hz] at p
        exact p.elim
    · exact p.elim) q
/-! ### xs[j], xs owned -/
def mIxO (i : Nat) (mj : MM D) : MM D := fun ρ x => match ρ[i]? with
  | some (.ol ds) => (mBind mj fun d => match d with
    | .int k => o1 (atI ds k)
    | _ => fun _ _ => .out) ρ x
  | _ => .out
theorem j_ixO (i : Nat) {y : Str} {p1 pos : Pos} {j : Expr} {mj : MM D} (hj : PE X j (rdE X.K W mj)) (hN : X.N[i]? = some y := by rfl) (hv : Vis X.env.scope y := by first | exact Or.inl rfl | exact Or.inr (Or.inl rfl) | exact Or.inr (Or.inr rfl)) (hd : (y == ("__debug__" : Str)) = false := by decide) (hcd : (y == ("__classdict__" : Str)) = false := by decide)
    (hs : PlainIx j := by exact fun _ _ => rfl) : PE X (.Subscript (.Name y p1) j pos) (rdE X.K W (mIxO i mj)) :=
  peI (pe_ix ix_seq (pe_var (i := i) hN hv hd hcd) hj hs) fun σ H Q h => by
    obtain ⟨S, F, ρ, x, eK, r, p⟩ := h
    unfold mIxO at p
    split at p
    · rename_i ds e0
      obtain ⟨q, vs, eσ, nb, n0, nF, hH, hr⟩ := r.getO e0
      refine ⟨.ref q, eσ, ?_⟩
      refine (show rdE X.K W mj σ H _ from ⟨S, F, ρ, x, eK, r, ?_⟩)
      unfold mBind at p
      cases e1 : mj ρ x with
      | out =>
        rw [e1] at p
        exact p
      | exc c fs x1 =>
        rw [e1] at p
        exact p
      | val d x1 =>
        rw [e1] at p
        intro v F2 H2 r2 s2 k2 hv
        have hv : Rep S.K S.b F2 v d := hv
        replace p : Post rlD S W σ F H ρ ((match d with
          | .int k => o1 (atI ds k)
          | _ => fun _ _ => .out) ρ x1) Q := p
        cases hv <;> try exact p.elim
        rename_i k
        dsimp only at p
        cases e : atI ds k with
        | none =>
          rw [e] at p
          exact p.elim
        | some d2 =>
          rw [e] at p
          obtain ⟨w, e2, hw⟩ := atI_rep hr e
          have h3 : H2 q = some (.lst vs) := k2 q _ hH nb
          exact .inl ⟨q, vs, k, w, rfl, rfl, sqL h3, e2, p w F2 H2 r2 s2 k2 (hw.mono s2)⟩
    · exact p.elim
theorem pu_ixO {i : Nat} {mj : MM D} (h : Pu mj) : Pu (mIxO i mj) := fun ρ x => by
  unfold mIxO
  split
  · exact (h.bind fun d => by
      split
      · exact pu_o1
      · exact pu_out : Pu _) ρ x
  · rfl
/-! ### xs.pop(), xs owned -/
def mPop (i : Nat) : MS := fun ρ x => match ρ[i]? with
  | some (.ol ds) => if ds.isEmpty then .out else .nx (ρ.set i (.ol ds.dropLast)) x
  | _ => .out
theorem RepL.dropLast {K : PySem.W.Frag} {b : Option Addr} {F : Hp} {vs : List V} {ds : List D} (h : RepL K b F vs ds) : RepL K b F vs.dropLast ds.dropLast := by
  rw [List.dropLast_eq_take, List.dropLast_eq_take, h.length]
  exact h.take _
theorem js_pop (i : Nat) {y : Str} {p1 apos cpos pos : Pos} (hN : X.N[i]? = some y := by rfl) (hv : Vis X.env.scope y := by first | exact Or.inl rfl | exact Or.inr (Or.inl rfl) | exact Or.inr (Or.inr rfl)) (hd : (y == ("__debug__" : Str)) = false := by decide) (hcd : (y == ("__classdict__" : Str)) = false := by decide)
    (hbase : attributeBase (.Name y p1) "pop" X.env (eval (.Name y p1) X.env) = eval (.Name y p1) X.env := by rfl) (hline : (apos.endLine == cpos.line) = true := by rfl)
    (hs : swapsWith (.Call (.Attribute (.Name y p1) "pop" apos) [] [] cpos) none pos.line X.env = pure false := by rfl) :
    PS X (.Expr (.Call (.Attribute (.Name y p1) "pop" apos) [] [] cpos) pos) (rdS X.K W (mPop i)) :=
  psI (ps_expr (pe_bm0 PySem.F.plainAttrs_list PySem.F.slot_list_pop PySem.F.type_list_pop mt_pop (pe_var (i := i) hN hv hd hcd) hbase hline) hs) fun D σ H h => by
    obtain ⟨S, F, ρ, x, eK, r, p⟩ := h
    unfold mPop at p
    split at p
    · rename_i ds e
      split at p
      · exact p.elim
      · rename_i hz
        obtain ⟨q, vs, eσ, nb, n0, nF, hH, hr⟩ := r.getO e
        have hv0 : vs ≠ [] := fun z => hz (by rw [List.isEmpty_iff, ← List.length_eq_zero_iff, ← hr.length, z]; rfl)
        have hl : 0 < vs.length := List.length_pos_iff.mpr hv0
        exact ⟨.ref q, eσ, .inl ⟨rfl, vs, sqL hH⟩, q, vs, vs[vs.length - 1]'(by omega), rfl, rfl, hH, List.getElem?_eq_getElem _, p _ _ _ (r.updO e eσ hr.dropLast)⟩
    · exact p.elim
theorem pu_pop {i : Nat} : PuS (mPop i) := fun ρ x => by
  unfold mPop
  split
  · split <;> rfl
  · rfl
/-! ### a, b = [..], e: the first one new, the second a value -/
def mParM (i j : Nat) (m : MM (List D)) (n : MM D) : MS := mE m fun ds ρ x => match n (shut ρ) x with
  | .val d x2 => if i = j then .out else .nx ((ρ.set i (.ol ds)).set j (.fz d)) x2
  | _ => .out
theorem js_parM {i j : Nat} {x y : Str} {a b : Expr} {m : MM (List D)} {n : MM D} {px py pt pos pt2 : Pos} {kt k2 : Nat} (hc : X.calm = true) (hN : X.N.Nodup) (hij : i ≠ j) (ha : PE X a (rdN X.K W m)) (hb : PE X b (rdE X.K W n)) (hi : X.N[i]? = some x := by rfl) (hj : X.N[j]? = some y := by rfl)
    (hx : X.env.scope.names.lookup x = some .local := by rfl) (hy : X.env.scope.names.lookup y = some .local := by rfl) (h1 : starEach [a, b] X.env = (false, eval a X.env) :: starEach [b] X.env := by rfl) (h2 : starEach [b] X.env = (false, eval b X.env) :: starEach [] X.env := by rfl)
    (hw : swappedStores [.Tuple [.Name x px, .Name y py] kt pt] (.Tuple [a, b] k2 pt2) X.env = pure (some [x, y]) := by rfl) (hs : swapsWithSole [.Tuple [.Name x px, .Name y py] kt pt] (.Tuple [a, b] k2 pt2) pos.line X.env = pure false := by rfl) :
    PS X (.Assign [.Tuple [.Name x px, .Name y py] kt pt] (.Tuple [a, b] k2 pt2) pos) (rdS X.K W (mParM i j m n)) :=
  psI (ps_par hc hN hi hj hij hx hy (pa_cons ha (pa_cons hb pa_nil h2) h1) hw hs) fun D σ H h => rd_EN h fun S F1 H1 ρ x1 p ds eK r1 nl q => by
    refine (show rdE X.K W n σ H1 _ from ?_)
    have rsh := r1.shut
    cases e : n (shut ρ) x1 with
    | out =>
      rw [e] at q
      exact q.elim
    | exc c fs x2 =>
      rw [e] at q
      exact q.elim
    | val d x2 =>
      rw [e] at q
      dsimp only at q
      refine ⟨⟨S.K, S.b, H1, F1⟩, F1, shut ρ, x1, eK, rsh, ?_⟩
      rw [e]
      intro v F2 H2 r2 _ _ hv
      have hv : Rep S.K S.b F2 v d := hv
      rw [if_neg hij] at q
      obtain ⟨a1, a2, a3⟩ := r1.back r2.core
      obtain ⟨vs, hH, hr⟩ := nl.hH
      have n1 : NewL S F2 H2 σ ρ p ds := ⟨nl.nb, nl.n0, r2.core.fresh p (by rw [show (⟨S.K, S.b, H1, F1⟩ : Cf).H0 p = H1 p from rfl, hH]; intro z; cases z) nl.nF, ⟨vs, r2.core.keep p _ hH nl.nb, hr.mono r2.core.f0⟩, nl.nown⟩
      exact ⟨_, _, rfl, q _ _ _ ((a1.own n1 i).put j hv)⟩
end
end Mi

namespace GG
open PySem PySem.Spec L2 Mi
def topS (i : Nat) : Stmt := PySem.Challenge.pw_layernets_k08_tables_and_other_things.main.body.getD i (.Pass ⟨0, 0, 0, 0⟩)
abbrev s_l_box : Stmt := topS 20
theorem sc_l_box : FnScope ["_law_script", "_law_k", "_law_cell"] ["_law_script", "_law_k"] (defScope s_l_box) := ⟨rfl, rfl, rfl, by decide +kernel, rfl, by decide +kernel, by decide +kernel⟩
abbrev s_l_same : Stmt := topS 25
theorem sc_l_same : FnScope ["_law_got", "_law_due", "_law_a_so", "_law_b_so"] ["_law_got", "_law_due"] (defScope s_l_same) := ⟨rfl, rfl, rfl, by decide +kernel, rfl, by decide +kernel, by decide +kernel⟩
abbrev s_p_come_to_one : Stmt := topS 18
theorem sc_p_come_to_one : FnScope ["shares", "bottom", "share", "top", "part"] ["shares"] (defScope s_p_come_to_one) := ⟨rfl, rfl, rfl, by decide +kernel, rfl, by decide +kernel, by decide +kernel⟩
abbrev s_is_name : Stmt := topS 7
theorem sc_is_name : FnScope ["thing"] ["thing"] (defScope s_is_name) := ⟨rfl, rfl, rfl, by decide +kernel, rfl, by decide +kernel, by decide +kernel⟩
abbrev s_is_number : Stmt := topS 6
theorem sc_is_number : FnScope ["thing"] ["thing"] (defScope s_is_number) := ⟨rfl, rfl, rfl, by decide +kernel, rfl, by decide +kernel, by decide +kernel⟩
abbrev s_is_fraction : Stmt := topS 8
theorem sc_is_fraction : FnScope ["thing", "top", "bottom"] ["thing"] (defScope s_is_fraction) := ⟨rfl, rfl, rfl, by decide +kernel, rfl, by decide +kernel, by decide +kernel⟩
abbrev s_is_amount : Stmt := topS 9
theorem sc_is_amount : FnScope ["thing"] ["thing"] (defScope s_is_amount) := ⟨rfl, rfl, rfl, by decide +kernel, rfl, by decide +kernel, by decide +kernel⟩
abbrev s_is_share : Stmt := topS 10
theorem sc_is_share : FnScope ["thing"] ["thing"] (defScope s_is_share) := ⟨rfl, rfl, rfl, by decide +kernel, rfl, by decide +kernel, by decide +kernel⟩
abbrev s_p_is_pair : Stmt := topS 16
theorem sc_p_is_pair : FnScope ["thing"] ["thing"] (defScope s_p_is_pair) := ⟨rfl, rfl, rfl, by decide +kernel, rfl, by decide +kernel, by decide +kernel⟩
abbrev s_is_shares : Stmt := topS 14
theorem sc_is_shares : FnScope ["thing", "outlets", "pair", "name", "after"] ["thing"] (defScope s_is_shares) := ⟨rfl, rfl, rfl, by decide +kernel, rfl, by decide +kernel, by decide +kernel⟩
abbrev s_p_is_layer : Stmt := topS 17
theorem sc_p_is_layer : FnScope ["thing"] ["thing"] (defScope s_p_is_layer) := ⟨rfl, rfl, rfl, by decide +kernel, rfl, by decide +kernel, by decide +kernel⟩
abbrev s_is_less : Stmt := topS 3
theorem sc_is_less : FnScope ["one", "other"] ["one", "other"] (defScope s_is_less) := ⟨rfl, rfl, rfl, by decide +kernel, rfl, by decide +kernel, by decide +kernel⟩
abbrev s_united : Stmt := topS 12
theorem sc_united : FnScope ["steps", "rows", "until", "value"] ["steps"] (defScope s_united) := ⟨rfl, rfl, rfl, by decide +kernel, rfl, by decide +kernel, by decide +kernel⟩
abbrev s_is_table : Stmt := topS 15
theorem sc_is_table : FnScope ["thing", "ahead", "until", "_", "layer"] ["thing"] (defScope s_is_table) := ⟨rfl, rfl, rfl, by decide +kernel, rfl, by decide +kernel, by decide +kernel⟩
abbrev s_l_by_hand_right : Stmt := topS 30
theorem sc_l_by_hand_right : FnScope ["_law_p_so", "_law_q_so", "_law_both", "_law_fine", "_law_odd", "_law_got", "_law_due", "_law_own"] [] (defScope s_l_by_hand_right) := ⟨rfl, rfl, rfl, by decide +kernel, rfl, by decide +kernel, by decide +kernel⟩
abbrev s_l_cells : Stmt := topS 22
theorem sc_l_cells : FnScope ["_law_script", "_law_top_so", "_law_cells_so", "_law_k", "_law_cell", "_law_at_so"] ["_law_script", "_law_top_so"] (defScope s_l_cells) := ⟨rfl, rfl, rfl, by decide +kernel, rfl, by decide +kernel, by decide +kernel⟩
abbrev s_l_take : Stmt := topS 21
theorem sc_l_take : FnScope ["_law_box_here", "_law_size_so", "_law_drawn_so", "_law_once", "_law_far", "_law_again"] ["_law_box_here", "_law_size_so"] (defScope s_l_take) := ⟨rfl, rfl, rfl, by decide +kernel, rfl, by decide +kernel, by decide +kernel⟩
abbrev s_l_of : Stmt := topS 23
theorem sc_l_of : FnScope ["_law_box_here", "_law_goods_so"] ["_law_box_here", "_law_goods_so"] (defScope s_l_of) := ⟨rfl, rfl, rfl, by decide +kernel, rfl, by decide +kernel, by decide +kernel⟩
abbrev s_l_bent : Stmt := topS 31
theorem sc_l_bent : FnScope ["_law_box_here", "_law_told", "_law_k", "_law_until_so", "_law_shares_so", "_law_name_so", "_law_share_so", "_law_more"] ["_law_box_here", "_law_told"] (defScope s_l_bent) := ⟨rfl, rfl, rfl, by decide +kernel, rfl, by decide +kernel, by decide +kernel⟩
abbrev s_l_frac : Stmt := topS 26
theorem sc_l_frac : FnScope ["_law_top_so", "_law_low_so", "_law_one_so", "_law_two_so", "_law_sign_so"] ["_law_top_so", "_law_low_so"] (defScope s_l_frac) := ⟨rfl, rfl, rfl, by decide +kernel, rfl, by decide +kernel, by decide +kernel⟩
abbrev s_l_pick : Stmt := topS 24
theorem sc_l_pick : FnScope ["_law_box_here", "_law_goods_so", "_law_count_so", "_law_pool_so", "_law_found", "_law_turn"] ["_law_box_here", "_law_goods_so", "_law_count_so"] (defScope s_l_pick) := ⟨rfl, rfl, rfl, by decide +kernel, rfl, by decide +kernel, by decide +kernel⟩
abbrev s_l_plus : Stmt := topS 27
theorem sc_l_plus : FnScope ["_law_a_so", "_law_b_so"] ["_law_a_so", "_law_b_so"] (defScope s_l_plus) := ⟨rfl, rfl, rfl, by decide +kernel, rfl, by decide +kernel, by decide +kernel⟩
abbrev s_l_shares : Stmt := topS 28
theorem sc_l_shares : FnScope ["_law_box_here", "_law_outlets_so", "_law_some_so", "_law_weights_so", "_law_own", "_law_much_so"] ["_law_box_here", "_law_outlets_so"] (defScope s_l_shares) := ⟨rfl, rfl, rfl, by decide +kernel, rfl, by decide +kernel, by decide +kernel⟩
abbrev s_l_table : Stmt := topS 29
theorem sc_l_table : FnScope ["_law_box_here", "_law_most_so", "_law_outlets_so", "_law_found", "_law_here", "_law_turn", "_law_own"] ["_law_box_here", "_law_most_so"] (defScope s_l_table) := ⟨rfl, rfl, rfl, by decide +kernel, rfl, by decide +kernel, by decide +kernel⟩
abbrev s_l_right : Stmt := topS 32
theorem sc_l_right : FnScope ["_law_box_here", "_law_turn", "_law_told", "_law_bent_here", "_law_got", "_law_due", "_law_lap", "_law_own"] ["_law_box_here"] (defScope s_l_right) := ⟨rfl, rfl, rfl, by decide +kernel, rfl, by decide +kernel, by decide +kernel⟩
abbrev s_law : Stmt := topS 33
theorem sc_law : FnScope ["_law_script", "_law_cells_so", "_law_k"] ["_law_script"] (defScope s_law) := ⟨rfl, rfl, rfl, by decide +kernel, rfl, by decide +kernel, by decide +kernel⟩
/-! ### the mirrors -/
def M_l_box : MS :=
    (mSeq (mAsg (.nm 2) (mIf (mTst (mOp (fun a b => o1 (gLt a b)) (mVar 1) (mCall gLen (mCons (mVar 0) mNil)))) (mOp (fun a b => o1 (gIx a b)) (mVar 0) (mVar 1)) (mC (.int 0))))
    (mE (mLstN (mCons (mOp (fun a b => o1 (gMulI a b)) (mCall gAbs (mCons (mVar 2) mNil)) (mCall gInt (mCons (mOp (fun a b => o1 (gGe a b)) (mCall gAbs (mCons (mVar 2) mNil)) (mOp (fun a b => o1 (gPow a b)) (mC (.int 10)) (mC (.int 18)))) mNil))) (mCons (mOp (fun a b => o1 (gAdd a b)) (mOp (fun a b => o1 (gAdd a b)) (mOp (fun a b => o1 (gMod a b)) (mCall gInt (mCons (mVar 2) mNil)) (mC (.int 2305843009213693951))) (mOp (fun a b => o1 (gMulI a b)) (mC (.int 39373)) (mVar 1))) (mC (.int 81808))) (mCons (mC (.int 0)) mNil)))) fun ds _ x => .retN ds x))
def F_l_box : MrN := mirrorN 3 M_l_box
def M_l_same (g : Mr) : MS :=
    (mSeq (mIfS (mTru (mIsi2 "list" "tuple" (mVar 1)))
    (mSeq (mIfS (mTst (mOp (fun a b => o1 (gNe a b)) (mIsi "list" (mVar 0)) (mIsi "list" (mVar 1))))
    (mRet (mC (.bl false)))
    mNext)
    (mSeq (mIfS (mTst (mOp (fun a b => o1 (gNe a b)) (mIsi "tuple" (mVar 0)) (mIsi "tuple" (mVar 1))))
    (mRet (mC (.bl false)))
    mNext)
    (mRet (mAndV (mOp (fun a b => o1 (gEq a b)) (mCall gLen (mCons (mVar 0) mNil)) (mCall gLen (mCons (mVar 1) mNil))) (mCall gAll (mCons (mLc (mBind (mCons (mVar 0) (mCons (mVar 1) mNil)) fun ds => oB (gZip ds)) (.tp [2, 3]) mYes (mDef 2 g (mCons (mVar 2) (mCons (mVar 3) mNil))) [2, 3]) mNil))))))
    mNext)
    (mSeq (mIfS (mTOr (mTst (mOp (fun a b => o1 (gIsN a b)) (mVar 1) (mC .non))) (mTru (mIsi2 "bool" "str" (mVar 1))))
    (mRet (mAndV (mOp (fun a b => o1 (gEq a b)) (mVar 0) (mVar 1)) (mAndV (mOp (fun a b => o1 (gEq a b)) (mIsi "bool" (mVar 0)) (mIsi "bool" (mVar 1))) (mOp (fun a b => o1 (gEq a b)) (mOp (fun a b => o1 (gIsN a b)) (mVar 0) (mC .non)) (mOp (fun a b => o1 (gIsN a b)) (mVar 1) (mC .non))))))
    mNext)
    (mRet (mAndV (mIsi "int" (mVar 0)) (mAndV (mNotV (mIsi "bool" (mVar 0))) (mOp (fun a b => o1 (gEq a b)) (mVar 0) (mVar 1)))))))
def F_l_same : Nat → Mr
  | 0 => fun _ _ => .out
  | n + 1 => mirror 4 (M_l_same (F_l_same n))
def M_p_come_to_one : MS :=
    (mSeq (mAsg (.nm 1) (mC (.int 1)))
    (mSeq (mFor (mIter (mVar 0)) (.nm 2)
    (mAsg (.nm 1) (mCall gLcm (mCons (mVar 1) (mCons (mOp (fun a b => o1 (gIx a b)) (mVar 2) (mC (.int 1))) mNil)))))
    (mRet (mOp (fun a b => o1 (gEq a b)) (mCall gSum (mCons (mLc (mIter (mVar 0)) (.tp [3, 4]) mYes (mOp (fun a b => o1 (gMulI a b)) (mVar 3) (mOp (fun a b => o1 (gDiv a b)) (mVar 1) (mVar 4))) [3, 4]) mNil)) (mVar 1)))))
def F_p_come_to_one : Mr := mirror 5 M_p_come_to_one
def M_is_name : MS :=
    (mSeq (mIfS (mTOr (mTNot (mTru (mIsi "str" (mVar 0)))) (mTst (mOp (fun a b => o1 (gGt a b)) (mCall gLen (mCons (mVar 0) mNil)) (mC (.int 8)))))
    (mRet (mC (.bl false)))
    mNext)
    (mRet (mAndV (mM0 (gB Txt.isascii) (mVar 0)) (mAndV (mM0 (gB Txt.isalpha) (mVar 0)) (mM0 (gB Txt.islower) (mVar 0))))))
def F_is_name : Mr := mirror 1 M_is_name
def M_is_number : MS :=
    (mRet (mAndV (mIsi "int" (mVar 0)) (mNotV (mIsi "bool" (mVar 0)))))
def F_is_number : Mr := mirror 1 M_is_number
def M_is_fraction : MS :=
    (mSeq (mIfS (mTOr (mTNot (mTru (mIsi "tuple" (mVar 0)))) (mTst (mOp (fun a b => o1 (gNe a b)) (mCall gLen (mCons (mVar 0) mNil)) (mC (.int 2)))))
    (mRet (mC (.bl false)))
    mNext)
    (mSeq (mAsg (.tp [1, 2]) (mVar 0))
    (mSeq (mIfS (mTOr (mTNot (mTru (mDef 1 F_is_number (mCons (mVar 1) mNil)))) (mTNot (mTru (mDef 1 F_is_number (mCons (mVar 2) mNil)))))
    (mRet (mC (.bl false)))
    mNext)
    (mRet (mAndV (mOp (fun a b => o1 (gGe a b)) (mVar 2) (mC (.int 1))) (mOp (fun a b => o1 (gEq a b)) (mCall gGcd (mCons (mVar 1) (mCons (mVar 2) mNil))) (mC (.int 1))))))))
def F_is_fraction : Mr := mirror 3 M_is_fraction
def M_is_amount : MS :=
    (mRet (mAndV (mDef 1 F_is_fraction (mCons (mVar 0) mNil)) (mOp (fun a b => o1 (gGe a b)) (mOp (fun a b => o1 (gIx a b)) (mVar 0) (mC (.int 0))) (mC (.int 0)))))
def F_is_amount : Mr := mirror 1 M_is_amount
def M_is_share : MS :=
    (mRet (mAndV (mDef 1 F_is_amount (mCons (mVar 0) mNil)) (mOp (fun a b => o1 (gLe a b)) (mOp (fun a b => o1 (gIx a b)) (mVar 0) (mC (.int 0))) (mOp (fun a b => o1 (gIx a b)) (mVar 0) (mC (.int 1))))))
def F_is_share : Mr := mirror 1 M_is_share
def M_p_is_pair : MS :=
    (mSeq (mIfS (mTOr (mTNot (mTru (mIsi "tuple" (mVar 0)))) (mTst (mOp (fun a b => o1 (gNe a b)) (mCall gLen (mCons (mVar 0) mNil)) (mC (.int 2)))))
    (mRet (mC (.bl false)))
    mNext)
    (mRet (mAndV (mDef 1 F_is_name (mCons (mOp (fun a b => o1 (gIx a b)) (mVar 0) (mC (.int 0))) mNil)) (mAndV (mDef 1 F_is_share (mCons (mOp (fun a b => o1 (gIx a b)) (mVar 0) (mC (.int 1))) mNil)) (mOp (fun a b => o1 (gNe a b)) (mOp (fun a b => o1 (gIx a b)) (mVar 0) (mC (.int 1))) (mC (.tup ([0, 1].map D.int))))))))
def F_p_is_pair : Mr := mirror 1 M_p_is_pair
def M_is_shares : MS :=
    (mSeq (mIfS (mTOr (mTNot (mTru (mIsi "tuple" (mVar 0)))) (mTNot (mTru (mCall gAll (mCons (mLc (mIter (mVar 0)) (.nm 2) mYes (mDef 1 F_p_is_pair (mCons (mVar 2) mNil)) [2]) mNil)))))
    (mRet (mC (.bl false)))
    mNext)
    (mSeq (mAsg (.nm 1) (mLc (mIter (mVar 0)) (.nm 2) mYes (mOp (fun a b => o1 (gIx a b)) (mVar 2) (mC (.int 0))) [2]))
    (mSeq (mIfS (mTNot (mTru (mCall gAll (mCons (mLc (mBind (mCons (mVar 1) (mCons (mSlice (mVar 1) (mPart (mC (.int 1))) mNoPart) mNil)) fun ds => oB (gZip ds)) (.tp [3, 4]) mYes (mOp (fun a b => o1 (gLt a b)) (mVar 3) (mVar 4)) [3, 4]) mNil))))
    (mRet (mC (.bl false)))
    mNext)
    (mRet (mDef 1 F_p_come_to_one (mCons (mLc (mIter (mVar 0)) (.nm 2) mYes (mOp (fun a b => o1 (gIx a b)) (mVar 2) (mC (.int 1))) [2]) mNil))))))
def F_is_shares : Mr := mirror 5 M_is_shares
def M_p_is_layer : MS :=
    (mSeq (mIfS (mTOr (mTNot (mTru (mIsi "tuple" (mVar 0)))) (mTst (mOp (fun a b => o1 (gNe a b)) (mCall gLen (mCons (mVar 0) mNil)) (mC (.int 2)))))
    (mRet (mC (.bl false)))
    mNext)
    (mRet (mAndV (mOrV (mOp (fun a b => o1 (gIsN a b)) (mOp (fun a b => o1 (gIx a b)) (mVar 0) (mC (.int 0))) (mC .non)) (mDef 1 F_is_amount (mCons (mOp (fun a b => o1 (gIx a b)) (mVar 0) (mC (.int 0))) mNil))) (mDef 1 F_is_shares (mCons (mOp (fun a b => o1 (gIx a b)) (mVar 0) (mC (.int 1))) mNil)))))
def F_p_is_layer : Mr := mirror 1 M_p_is_layer
def M_is_less : MS :=
    (mRet (mOp (fun a b => o1 (gLt a b)) (mOp (fun a b => o1 (gMulI a b)) (mOp (fun a b => o1 (gIx a b)) (mVar 0) (mC (.int 0))) (mOp (fun a b => o1 (gIx a b)) (mVar 1) (mC (.int 1)))) (mOp (fun a b => o1 (gMulI a b)) (mOp (fun a b => o1 (gIx a b)) (mVar 1) (mC (.int 0))) (mOp (fun a b => o1 (gIx a b)) (mVar 0) (mC (.int 1))))))
def F_is_less : Mr := mirror 2 M_is_less
def M_united : MS :=
    (mSeq (mE (mLstN mNil) fun ds ρ x => .nx (ρ.set 1 (.ol ds)) x)
    (mSeq (mFor (mIter (mVar 0)) (.tp [2, 3])
    (mSeq (mIfS (mTAnd (mTst (mOp (fun a b => o1 (gGt a b)) (mBor (mCall gLen (mCons (mVar 1) mNil))) (mC (.int 0)))) (mTst (mOp (fun a b => o1 (gEq a b)) (mOp (fun a b => o1 (gIx a b)) (mIxO 1 (mBind (mC (.int 1)) fun d => o1 (gNeg d))) (mC (.int 1))) (mVar 3))))
    (mPop 1)
    mNext)
    (mApp 1 (mTup (mCons (mVar 2) (mCons (mVar 3) mNil))))))
    (fun ρ x => (mRet (mVar 1)) (frzS allS ρ) x)))
def F_united : Mr := mirror 4 M_united
def M_is_table : MS :=
    (mSeq (mIfS (mTOr (mTNot (mTru (mIsi "tuple" (mVar 0)))) (mTst (mOp (fun a b => o1 (gEq a b)) (mCall gLen (mCons (mVar 0) mNil)) (mC (.int 0)))))
    (mRet (mC (.bl false)))
    mNext)
    (mSeq (mIfS (mTNot (mTru (mCall gAll (mCons (mLc (mIter (mVar 0)) (.nm 4) mYes (mDef 1 F_p_is_layer (mCons (mVar 4) mNil)) [4]) mNil))))
    (mRet (mC (.bl false)))
    mNext)
    (mSeq (mIfS (mTOr (mTst (mOp (fun a b => o1 (gNotN a b)) (mOp (fun a b => o1 (gIx a b)) (mOp (fun a b => o1 (gIx a b)) (mVar 0) (mBind (mC (.int 1)) fun d => o1 (gNeg d))) (mC (.int 0))) (mC .non))) (mTru (mCall gAny (mCons (mLc (mIter (mSlice (mVar 0) mNoPart (mPart (mBind (mC (.int 1)) fun d => o1 (gNeg d))))) (.tp [2, 3]) mYes (mOp (fun a b => o1 (gIsN a b)) (mVar 2) (mC .non)) [2, 3]) mNil))))
    (mRet (mC (.bl false)))
    mNext)
    (mSeq (mAsg (.nm 1) (mC (.tup ([0, 1].map D.int))))
    (mSeq (mFor (mIter (mSlice (mVar 0) mNoPart (mPart (mBind (mC (.int 1)) fun d => o1 (gNeg d))))) (.tp [2, 3])
    (mSeq (mIfS (mTNot (mTru (mDef 2 F_is_less (mCons (mVar 1) (mCons (mVar 2) mNil)))))
    (mRet (mC (.bl false)))
    mNext)
    (mAsg (.nm 1) (mVar 2))))
    (mRet (mOp (fun a b => o1 (gEq a b)) (mCall gLen (mCons (mDef 1 F_united (mCons (mVar 0) mNil)) mNil)) (mCall gLen (mCons (mVar 0) mNil)))))))))
def F_is_table : Mr := mirror 5 M_is_table
def M_l_by_hand_right : MS :=
    (mSeq (mAsg (.tp [0, 1, 2]) (mTup (mCons (mTup (mCons (mTup (mCons (mC (.str "p")) (mCons (mTup (mCons (mC (.int 1)) (mCons (mC (.int 1)) mNil))) mNil))) mNil)) (mCons (mTup (mCons (mTup (mCons (mC (.str "q")) (mCons (mTup (mCons (mC (.int 1)) (mCons (mC (.int 1)) mNil))) mNil))) mNil)) (mCons (mTup (mCons (mTup (mCons (mC (.str "p")) (mCons (mTup (mCons (mC (.int 1)) (mCons (mC (.int 3)) mNil))) mNil))) (mCons (mTup (mCons (mC (.str "q")) (mCons (mTup (mCons (mC (.int 2)) (mCons (mC (.int 3)) mNil))) mNil))) mNil))) mNil)))))
    (mSeq (mAsg (.nm 3) (mLst (mCons (mVar 0) (mCons (mVar 2) (mCons (mTup (mCons (mTup (mCons (mC (.str "a")) (mCons (mTup (mCons (mC (.int 1)) (mCons (mC (.int 2)) mNil))) mNil))) (mCons (mTup (mCons (mC (.str "b")) (mCons (mTup (mCons (mC (.int 1)) (mCons (mC (.int 4)) mNil))) mNil))) (mCons (mTup (mCons (mC (.str "c")) (mCons (mTup (mCons (mC (.int 1)) (mCons (mC (.int 4)) mNil))) mNil))) mNil)))) (mCons (mTup (mCons (mTup (mCons (mC (.str "abcdefgh")) (mCons (mTup (mCons (mC (.int 1)) (mCons (mC (.int 1)) mNil))) mNil))) mNil)) mNil))))))
    (mSeq (mAsg (.nm 4) (mLst (mCons (mTup mNil) (mCons (mTup (mCons (mTup (mCons (mC (.str "p")) (mCons (mTup (mCons (mC (.int 1)) (mCons (mC (.int 2)) mNil))) mNil))) mNil)) (mCons (mTup (mCons (mTup (mCons (mC (.str "q")) (mCons (mTup (mCons (mC (.int 2)) (mCons (mC (.int 3)) mNil))) mNil))) (mCons (mTup (mCons (mC (.str "p")) (mCons (mTup (mCons (mC (.int 1)) (mCons (mC (.int 3)) mNil))) mNil))) mNil))) (mCons (mTup (mCons (mTup (mCons (mC (.str "p")) (mCons (mTup (mCons (mC (.int 2)) (mCons (mC (.int 4)) mNil))) mNil))) (mCons (mTup (mCons (mC (.str "q")) (mCons (mTup (mCons (mC (.int 1)) (mCons (mC (.int 2)) mNil))) mNil))) mNil))) mNil))))))
    (mSeq (mAsg (.nm 4) (mOp (fun a b => o1 (gAdd a b)) (mVar 4) (mLst (mCons (mTup (mCons (mTup (mCons (mC (.str "p")) (mCons (mTup (mCons (mC (.int 1)) (mCons (mC (.int 1)) mNil))) mNil))) (mCons (mTup (mCons (mC (.str "q")) (mCons (mTup (mCons (mC (.int 0)) (mCons (mC (.int 1)) mNil))) mNil))) mNil))) mNil))))
    (mSeq (mAsg (.nm 4) (mOp (fun a b => o1 (gAdd a b)) (mVar 4) (mLst (mCons (mTup (mCons (mTup (mCons (mC (.str "p")) (mCons (mTup (mCons (mC (.int 1)) (mCons (mC (.int 2)) mNil))) mNil))) (mCons (mTup (mCons (mC (.str "p")) (mCons (mTup (mCons (mC (.int 1)) (mCons (mC (.int 2)) mNil))) mNil))) mNil))) (mCons (mTup (mCons (mTup (mCons (mC (.str "p")) (mCons (mTup (mCons (mC (.int 2)) (mCons (mC (.int 1)) mNil))) mNil))) (mCons (mTup (mCons (mC (.str "q")) (mCons (mTup (mCons (mBind (mC (.int 1)) fun d => o1 (gNeg d)) (mCons (mC (.int 1)) mNil))) mNil))) mNil))) (mCons (mLst (mCons (mTup (mCons (mC (.str "p")) (mCons (mTup (mCons (mC (.int 1)) (mCons (mC (.int 1)) mNil))) mNil))) mNil)) mNil))))))
    (mSeq (mAsg (.nm 4) (mOp (fun a b => o1 (gAdd a b)) (mVar 4) (mLst (mCons (mTup (mCons (mLst (mCons (mC (.str "p")) (mCons (mTup (mCons (mC (.int 1)) (mCons (mC (.int 1)) mNil))) mNil))) mNil)) (mCons (mC .non) (mCons (mC (.int 7)) (mCons (mC (.str "")) mNil)))))))
    (mSeq (mAsg (.nm 4) (mOp (fun a b => o1 (gAdd a b)) (mVar 4) (mLst (mCons (mTup (mCons (mTup (mCons (mC (.str "P")) (mCons (mTup (mCons (mC (.int 1)) (mCons (mC (.int 1)) mNil))) mNil))) mNil)) (mCons (mTup (mCons (mTup (mCons (mC (.str "p")) (mCons (mC (.int 1)) mNil))) mNil)) (mCons (mTup (mCons (mTup (mCons (mC (.str "p")) (mCons (mTup (mCons (mC (.int 1)) (mCons (mC (.int 1)) mNil))) (mCons (mC (.int 1)) mNil)))) mNil)) (mCons (mTup (mCons (mTup (mCons (mC (.str "p")) (mCons (mLst (mCons (mC (.int 1)) (mCons (mC (.int 1)) mNil))) mNil))) mNil)) (mCons (mTup (mCons (mTup (mCons (mC (.str "p")) (mCons (mTup (mCons (mC (.int 1)) (mCons (mC (.int 0)) mNil))) mNil))) mNil)) mNil))))))))
    (mSeq (mAsg (.nm 4) (mOp (fun a b => o1 (gAdd a b)) (mVar 4) (mLst (mCons (mTup (mCons (mTup (mCons (mC (.str "p")) (mCons (mTup (mCons (mBind (mC (.int 1)) fun d => o1 (gNeg d)) (mCons (mBind (mC (.int 1)) fun d => o1 (gNeg d)) mNil))) mNil))) mNil)) mNil))))
    (mSeq (mAsg (.nm 4) (mOp (fun a b => o1 (gAdd a b)) (mVar 4) (mLst (mCons (mTup (mCons (mTup (mCons (mC (.int 1)) (mCons (mTup (mCons (mC (.int 1)) (mCons (mC (.int 1)) mNil))) mNil))) mNil)) (mCons (mTup (mCons (mTup (mCons (mC (.str "")) (mCons (mTup (mCons (mC (.int 1)) (mCons (mC (.int 1)) mNil))) mNil))) mNil)) (mCons (mTup (mCons (mTup (mCons (mC (.str "p")) (mCons (mTup (mCons (mC (.bl true)) (mCons (mC (.int 1)) mNil))) mNil))) mNil)) (mCons (mTup (mCons (mC (.str "p")) (mCons (mTup (mCons (mC (.int 1)) (mCons (mC (.int 1)) mNil))) mNil))) (mCons (mTup (mCons (mC .non) mNil)) mNil))))))))
    (mSeq (mAsg (.nm 4) (mOp (fun a b => o1 (gAdd a b)) (mVar 4) (mLst (mCons (mTup (mCons (mTup (mCons (mC (.str "p")) (mCons (mTup (mCons (mC (.int 1)) (mCons (mC .non) mNil))) mNil))) mNil)) (mCons (mTup (mCons (mTup (mCons (mC (.str "p")) (mCons (mC .non) mNil))) mNil)) mNil)))))
    (mSeq (mAsg (.nm 5) (mOp (fun a b => o1 (gAdd a b)) (mLc (mIter (mVar 3)) (.nm 7) mYes (mDef 1 F_is_shares (mCons (mVar 7) mNil)) [7]) (mLc (mIter (mVar 4)) (.nm 7) mYes (mDef 1 F_is_shares (mCons (mVar 7) mNil)) [7])))
    (mSeq (mAsg (.nm 6) (mOp (fun a b => o1 (gAdd a b)) (mOp (fun a b => o1 (gRepL a b)) (mLst (mCons (mC (.bl true)) mNil)) (mC (.int 4))) (mOp (fun a b => o1 (gRepL a b)) (mLst (mCons (mC (.bl false)) mNil)) (mC (.int 25)))))
    (mSeq (mAsg (.nm 3) (mLst (mCons (mTup (mCons (mTup (mCons (mC .non) (mCons (mVar 0) mNil))) mNil)) (mCons (mTup (mCons (mTup (mCons (mTup (mCons (mC (.int 3)) (mCons (mC (.int 1)) mNil))) (mCons (mVar 0) mNil))) (mCons (mTup (mCons (mC .non) (mCons (mVar 1) mNil))) mNil))) mNil))))
    (mSeq (mAsg (.nm 3) (mOp (fun a b => o1 (gAdd a b)) (mVar 3) (mLst (mCons (mTup (mCons (mTup (mCons (mTup (mCons (mC (.int 1)) (mCons (mC (.int 2)) mNil))) (mCons (mVar 0) mNil))) (mCons (mTup (mCons (mTup (mCons (mC (.int 2)) (mCons (mC (.int 1)) mNil))) (mCons (mVar 2) mNil))) (mCons (mTup (mCons (mTup (mCons (mC (.int 5)) (mCons (mC (.int 2)) mNil))) (mCons (mVar 0) mNil))) (mCons (mTup (mCons (mC .non) (mCons (mVar 1) mNil))) mNil))))) mNil))))
    (mSeq (mAsg (.nm 4) (mLst (mCons (mTup mNil) (mCons (mTup (mCons (mTup (mCons (mTup (mCons (mC (.int 3)) (mCons (mC (.int 1)) mNil))) (mCons (mVar 0) mNil))) mNil)) (mCons (mTup (mCons (mTup (mCons (mC .non) (mCons (mVar 0) mNil))) (mCons (mTup (mCons (mC .non) (mCons (mVar 1) mNil))) mNil))) (mCons (mTup (mCons (mTup (mCons (mTup (mCons (mC (.int 3)) (mCons (mC (.int 1)) mNil))) (mCons (mVar 0) mNil))) (mCons (mTup (mCons (mC .non) (mCons (mVar 0) mNil))) mNil))) mNil))))))
    (mSeq (mAsg (.nm 4) (mOp (fun a b => o1 (gAdd a b)) (mVar 4) (mLst (mCons (mTup (mCons (mTup (mCons (mTup (mCons (mC (.int 0)) (mCons (mC (.int 1)) mNil))) (mCons (mVar 0) mNil))) (mCons (mTup (mCons (mC .non) (mCons (mVar 1) mNil))) mNil))) mNil))))
    (mSeq (mAsg (.nm 4) (mOp (fun a b => o1 (gAdd a b)) (mVar 4) (mLst (mCons (mTup (mCons (mTup (mCons (mTup (mCons (mC (.int 3)) (mCons (mC (.int 1)) mNil))) (mCons (mVar 0) mNil))) (mCons (mTup (mCons (mTup (mCons (mC (.int 3)) (mCons (mC (.int 1)) mNil))) (mCons (mVar 2) mNil))) (mCons (mTup (mCons (mC .non) (mCons (mVar 1) mNil))) mNil)))) mNil))))
    (mSeq (mAsg (.nm 4) (mOp (fun a b => o1 (gAdd a b)) (mVar 4) (mLst (mCons (mTup (mCons (mTup (mCons (mTup (mCons (mC (.int 3)) (mCons (mC (.int 1)) mNil))) (mCons (mVar 0) mNil))) (mCons (mTup (mCons (mTup (mCons (mC (.int 2)) (mCons (mC (.int 1)) mNil))) (mCons (mVar 2) mNil))) (mCons (mTup (mCons (mC .non) (mCons (mVar 1) mNil))) mNil)))) (mCons (mLst (mCons (mTup (mCons (mC .non) (mCons (mVar 0) mNil))) mNil)) mNil)))))
    (mSeq (mAsg (.nm 4) (mOp (fun a b => o1 (gAdd a b)) (mVar 4) (mLst (mCons (mTup (mCons (mLst (mCons (mC .non) (mCons (mVar 0) mNil))) mNil)) (mCons (mTup (mCons (mC .non) (mCons (mVar 0) mNil))) (mCons (mTup (mCons (mTup (mCons (mC .non) (mCons (mVar 0) (mCons (mC (.int 1)) mNil)))) mNil)) (mCons (mTup (mCons (mTup (mCons (mC .non) (mCons (mTup mNil) mNil))) mNil)) (mCons (mTup (mCons (mTup (mCons (mC .non) (mCons (mCall gList (mCons (mVar 0) mNil)) mNil))) mNil)) mNil))))))))
    (mSeq (mAsg (.nm 4) (mOp (fun a b => o1 (gAdd a b)) (mVar 4) (mLst (mCons (mTup (mCons (mTup (mCons (mTup (mCons (mC (.int 2)) (mCons (mC (.int 4)) mNil))) (mCons (mVar 0) mNil))) (mCons (mTup (mCons (mC .non) (mCons (mVar 1) mNil))) mNil))) mNil))))
    (mSeq (mAsg (.nm 4) (mOp (fun a b => o1 (gAdd a b)) (mVar 4) (mLst (mCons (mTup (mCons (mTup (mCons (mC (.int 3)) (mCons (mVar 0) mNil))) (mCons (mTup (mCons (mC .non) (mCons (mVar 1) mNil))) mNil))) (mCons (mTup (mCons (mTup (mCons (mTup (mCons (mC (.int 3)) (mCons (mC (.int 0)) mNil))) (mCons (mVar 0) mNil))) (mCons (mTup (mCons (mC .non) (mCons (mVar 1) mNil))) mNil))) mNil)))))
    (mSeq (mAsg (.nm 4) (mOp (fun a b => o1 (gAdd a b)) (mVar 4) (mLst (mCons (mTup (mCons (mTup (mCons (mTup (mCons (mBind (mC (.int 3)) fun d => o1 (gNeg d)) (mCons (mC (.int 1)) mNil))) (mCons (mVar 0) mNil))) (mCons (mTup (mCons (mC .non) (mCons (mVar 1) mNil))) mNil))) (mCons (mTup (mCons (mC .non) mNil)) (mCons (mC .non) (mCons (mC (.int 0)) (mCons (mC (.str "x")) mNil))))))))
    (mSeq (mAsg (.nm 4) (mOp (fun a b => o1 (gAdd a b)) (mVar 4) (mLst (mCons (mTup (mCons (mTup (mCons (mTup (mCons (mC (.int 3)) (mCons (mC (.int 1)) mNil))) (mCons (mVar 0) mNil))) (mCons (mTup (mCons (mC .non) (mCons (mVar 1) mNil))) (mCons (mTup (mCons (mTup (mCons (mC (.int 4)) (mCons (mC (.int 1)) mNil))) (mCons (mVar 0) mNil))) mNil)))) (mCons (mTup (mCons (mTup (mCons (mTup (mCons (mC (.int 3)) (mCons (mC (.bl true)) mNil))) (mCons (mVar 0) mNil))) (mCons (mTup (mCons (mC .non) (mCons (mVar 1) mNil))) mNil))) mNil)))))
    (mSeq (mAsg (.nm 4) (mOp (fun a b => o1 (gAdd a b)) (mVar 4) (mLst (mCons (mTup (mCons (mTup (mCons (mC (.bl false)) (mCons (mVar 0) mNil))) mNil)) (mCons (mTup (mCons (mVar 0) mNil)) mNil)))))
    (mSeq (mAsg (.nm 5) (mOp (fun a b => o1 (gAdd a b)) (mOp (fun a b => o1 (gAdd a b)) (mVar 5) (mLc (mIter (mVar 3)) (.nm 7) mYes (mDef 1 F_is_table (mCons (mVar 7) mNil)) [7])) (mLc (mIter (mVar 4)) (.nm 7) mYes (mDef 1 F_is_table (mCons (mVar 7) mNil)) [7])))
    (mSeq (mAsg (.nm 5) (mOp (fun a b => o1 (gAdd a b)) (mVar 5) (mLst (mCons (mDef0 1 F_is_table (mCons (mOp (fun a b => o1 (gIx a b)) (mVar 3) (mC (.int 0))) mNil)) (mCons (mDef0 1 F_is_shares (mCons (mVar 2) mNil)) mNil)))))
    (mRet (mDef 2 (F_l_same 12) (mCons (mVar 5) (mCons (mOp (fun a b => o1 (gAdd a b)) (mOp (fun a b => o1 (gAdd a b)) (mOp (fun a b => o1 (gAdd a b)) (mVar 6) (mOp (fun a b => o1 (gRepL a b)) (mLst (mCons (mC (.bl true)) mNil)) (mC (.int 3)))) (mOp (fun a b => o1 (gRepL a b)) (mLst (mCons (mC (.bl false)) mNil)) (mC (.int 25)))) (mLst (mCons (mC (.bl true)) (mCons (mC (.bl true)) mNil)))) mNil))))))))))))))))))))))))))))))
def F_l_by_hand_right : Mr := mirror 8 M_l_by_hand_right
def M_l_cells : MS :=
    (mSeq (mE (mOrN (mBind (mCons (mSlice (mVar 0) mNoPart (mPart (mVar 1))) mNil) fun ds => oB (gListN ds)) (mLstN (mCons (mC (.int 0)) mNil))) fun ds ρ x => .nx (ρ.set 2 (.ol ds)) x)
    (mSeq (mFor (mBind (mCons (mSlice (mVar 0) (mPart (mVar 1)) (mPart (mC (.int 63)))) mNil) fun ds => oB (gEnum ds)) (.tp [3, 4])
    (mSeq (mAsg (.nm 5) (mOp (fun a b => o1 (gMod a b)) (mCall gInt (mCons (mVar 3) mNil)) (mVar 1)))
    (mSetI 2 (mVar 5) (mOp (fun a b => o1 (gAdd a b)) (mIxO 2 (mVar 5)) (mOp (fun a b => o1 (gMulI a b)) (mVar 4) (mOp (fun a b => o1 (gAdd a b)) (mVar 3) (mC (.int 2))))))))
    (fun ρ x => (mRet (mVar 2)) (frzS allS ρ) x)))
def F_l_cells : Mr := mirror 6 M_l_cells
def M_l_take : MS :=
    (mSeq (mIfS (mTst (mOp (fun a b => o1 (gGt a b)) (mOp gItem (mVar 0) (mC (.int 0))) (mC (.int 0))))
    (mSeq (mAsg (.nm 2) (mOp (fun a b => o1 (gMod a b)) (mCall gInt (mCons (mOp gItem (mVar 0) (mC (.int 0))) mNil)) (mVar 1)))
    (mSeq (mSetB 0 (mC (.int 0)) (mOp (fun a b => o1 (gDiv a b)) (mOp gItem (mVar 0) (mC (.int 0))) (mVar 1)))
    (mRet (mVar 2))))
    mNext)
    (mSeq (mSetB 0 (mC (.int 2)) (mOp (fun a b => o1 (gAdd a b)) (mOp gItem (mVar 0) (mC (.int 2))) (mC (.int 1))))
    (mSeq (mAsg (.nm 3) (mOp (fun a b => o1 (gMod a b)) (mCall gInt (mCons (mOp (fun a b => o1 (gMulI a b)) (mOp (fun a b => o1 (gAdd a b)) (mOp gItem (mVar 0) (mC (.int 1))) (mOp (fun a b => o1 (gMulI a b)) (mC (.int 48271)) (mOp gItem (mVar 0) (mC (.int 2))))) (mOp (fun a b => o1 (gAdd a b)) (mC (.int 39373)) (mOp gItem (mVar 0) (mC (.int 2))))) mNil)) (mC (.int 2147483647))))
    (mSeq (mAsg (.nm 4) (mOp (fun a b => o1 (gAdd a b)) (mOp (fun a b => o1 (gMod a b)) (mCall gInt (mCons (mVar 3) mNil)) (mC (.int 40009))) (mC (.int 7))))
    (mSeq (mAsg (.nm 5) (mOp (fun a b => o1 (gMod a b)) (mCall gInt (mCons (mOp (fun a b => o1 (gMulI a b)) (mOp (fun a b => o1 (gAdd a b)) (mOp (fun a b => o1 (gAdd a b)) (mVar 3) (mOp gItem (mVar 0) (mC (.int 2)))) (mOp (fun a b => o1 (gDiv a b)) (mOp gItem (mVar 0) (mC (.int 1))) (mC (.int 1000003)))) (mVar 4)) mNil)) (mC (.int 2147483629))))
    (mRet (mOp (fun a b => o1 (gMod a b)) (mCall gInt (mCons (mOp (fun a b => o1 (gDiv a b)) (mOp (fun a b => o1 (gMod a b)) (mCall gInt (mCons (mOp (fun a b => o1 (gAdd a b)) (mOp (fun a b => o1 (gMulI a b)) (mVar 5) (mC (.int 48271))) (mVar 3)) mNil)) (mC (.int 2147483587))) (mC (.int 64))) mNil)) (mVar 1))))))))
def F_l_take : Mr := mirror 6 M_l_take
def M_l_of : MS :=
    (mRet (mOp (fun a b => o1 (gIx a b)) (mVar 1) (mDef 2 F_l_take (mCons (mVar 0) (mCons (mCall gLen (mCons (mVar 1) mNil)) mNil)))))
def F_l_of : Mr := mirror 2 M_l_of
def M_l_bent : MS :=
    (mSeq (mAsg (.nm 2) (mDef 2 F_l_take (mCons (mVar 0) (mCons (mCall gLen (mCons (mVar 1) mNil)) mNil))))
    (mSeq (mAsg (.tp [3, 4]) (mOp (fun a b => o1 (gIx a b)) (mVar 1) (mVar 2)))
    (mSeq (mAsg (.tp [5, 6]) (mOp (fun a b => o1 (gIx a b)) (mVar 4) (mC (.int 0))))
    (mSeq (mAsg (.nm 7) (mLst (mCons (mTup (mCons (mVar 3) (mCons (mSlice (mVar 4) (mPart (mC (.int 1))) mNoPart) mNil))) mNil)))
    (mSeq (mAsg (.nm 7) (mOp (fun a b => o1 (gAdd a b)) (mVar 7) (mLst (mCons (mTup (mCons (mVar 3) (mCons (mOp (fun a b => o1 (gAdd a b)) (mTup (mCons (mTup (mCons (mVar 5) (mCons (mTup (mCons (mOp (fun a b => o1 (gMulI a b)) (mOp (fun a b => o1 (gIx a b)) (mVar 6) (mC (.int 0))) (mC (.int 2))) (mCons (mOp (fun a b => o1 (gMulI a b)) (mOp (fun a b => o1 (gIx a b)) (mVar 6) (mC (.int 1))) (mC (.int 2))) mNil))) mNil))) mNil)) (mSlice (mVar 4) (mPart (mC (.int 1))) mNoPart)) mNil))) mNil))))
    (mSeq (mAsg (.nm 7) (mOp (fun a b => o1 (gAdd a b)) (mVar 7) (mLst (mCons (mTup (mCons (mVar 3) (mCons (mOp (fun a b => o1 (gAdd a b)) (mVar 4) (mTup (mCons (mTup (mCons (mC (.str "zzzz")) (mCons (mTup (mCons (mC (.int 1)) (mCons (mC (.int 9)) mNil))) mNil))) mNil))) mNil))) (mCons (mTup (mCons (mVar 3) (mCons (mCall gList (mCons (mVar 4) mNil)) mNil))) mNil)))))
    (mSeq (mAsg (.nm 7) (mOp (fun a b => o1 (gAdd a b)) (mVar 7) (mLst (mCons (mTup (mCons (mVar 3) (mCons (mVar 4) (mCons (mC (.int 0)) mNil)))) mNil))))
    (mSeq (mAsg (.nm 7) (mOp (fun a b => o1 (gAdd a b)) (mVar 7) (mLst (mCons (mTup (mCons (mVar 3) (mCons (mOp (fun a b => o1 (gAdd a b)) (mTup (mCons (mTup (mCons (mC (.str "a b")) (mCons (mVar 6) mNil))) mNil)) (mSlice (mVar 4) (mPart (mC (.int 1))) mNoPart)) mNil))) (mCons (mTup (mCons (mTup (mCons (mC (.int 0)) (mCons (mC (.int 1)) mNil))) (mCons (mVar 4) mNil))) (mCons (mTup (mCons (mVar 3) mNil)) mNil))))))
    (mSeq (mAsg (.nm 7) (mOp (fun a b => o1 (gAdd a b)) (mVar 7) (mLst (mCons (mLst (mCons (mVar 3) (mCons (mVar 4) mNil))) mNil))))
    (mSeq (mIfS (mTst (mOp (fun a b => o1 (gLt a b)) (mVar 2) (mOp (fun a b => o1 (gSub a b)) (mCall gLen (mCons (mVar 1) mNil)) (mC (.int 1)))))
    (mSeq (mAsg (.nm 7) (mOp (fun a b => o1 (gAdd a b)) (mVar 7) (mLst (mCons (mTup (mCons (mC .non) (mCons (mVar 4) mNil))) (mCons (mTup (mCons (mVar 3) (mCons (mOp (fun a b => o1 (gIx a b)) (mOp (fun a b => o1 (gIx a b)) (mVar 1) (mOp (fun a b => o1 (gAdd a b)) (mVar 2) (mC (.int 1)))) (mC (.int 1))) mNil))) mNil)))))
    (mAsg (.nm 7) (mOp (fun a b => o1 (gAdd a b)) (mVar 7) (mLst (mCons (mTup (mCons (mTup (mCons (mOp (fun a b => o1 (gMulI a b)) (mOp (fun a b => o1 (gIx a b)) (mVar 3) (mC (.int 0))) (mC (.int 3))) (mCons (mOp (fun a b => o1 (gMulI a b)) (mOp (fun a b => o1 (gIx a b)) (mVar 3) (mC (.int 1))) (mC (.int 3))) mNil))) (mCons (mVar 4) mNil))) mNil)))))
    mNext)
    (mRet (mOp (fun a b => o1 (gAdd a b)) (mOp (fun a b => o1 (gAdd a b)) (mSlice (mVar 1) mNoPart (mPart (mVar 2))) (mTup (mCons (mDef 2 F_l_of (mCons (mVar 0) (mCons (mVar 7) mNil))) mNil))) (mSlice (mVar 1) (mPart (mOp (fun a b => o1 (gAdd a b)) (mVar 2) (mC (.int 1)))) mNoPart)))))))))))))
def F_l_bent : Mr := mirror 8 M_l_bent
def M_l_frac : MS :=
    (mSeq (mPar 2 3 (mCons (mCall gAbs (mCons (mVar 0) mNil)) (mCons (mCall gAbs (mCons (mVar 1) mNil)) mNil)))
    (mSeq (whileS (mTst (mOp (fun a b => o1 (gNe a b)) (mVar 3) (mC (.int 0))))
    (mPar 2 3 (mCons (mVar 3) (mCons (mOp (fun a b => o1 (gMod a b)) (mVar 2) (mVar 3)) mNil))) 64)
    (mSeq (mAsg (.nm 4) (mIf (mTst (mOp (fun a b => o1 (gGt a b)) (mVar 1) (mC (.int 0)))) (mC (.int 1)) (mBind (mC (.int 1)) fun d => o1 (gNeg d))))
    (mRet (mTup (mCons (mOp (fun a b => o1 (gDiv a b)) (mOp (fun a b => o1 (gMulI a b)) (mVar 4) (mVar 0)) (mVar 2)) (mCons (mOp (fun a b => o1 (gDiv a b)) (mOp (fun a b => o1 (gMulI a b)) (mVar 4) (mVar 1)) (mVar 2)) mNil)))))))
def F_l_frac : Mr := mirror 5 M_l_frac
def M_l_pick : MS :=
    (mSeq (mParN 3 4 (mBind (mCons (mVar 1) mNil) fun ds => oB (gListN ds)) (mLstN mNil))
    (mSeq (mFor (mBind (mCons (mCall gMin2 (mCons (mCall gInt (mCons (mVar 2) mNil)) (mCons (mBor (mCall gLen (mCons (mVar 3) mNil))) mNil))) mNil) fun ds => oB (gRng ds)) (.nm 5)
    (mAppPop 4 3 (mDef 2 F_l_take (mCons (mVar 0) (mCons (mBor (mCall gLen (mCons (mVar 3) mNil))) mNil)))))
    (fun ρ x => (mRet (mVar 4)) (frzS allS ρ) x)))
def F_l_pick : Mr := mirror 6 M_l_pick
def M_l_plus : MS :=
    (mRet (mDef 2 F_l_frac (mCons (mOp (fun a b => o1 (gAdd a b)) (mOp (fun a b => o1 (gMulI a b)) (mOp (fun a b => o1 (gIx a b)) (mVar 0) (mC (.int 0))) (mOp (fun a b => o1 (gIx a b)) (mVar 1) (mC (.int 1)))) (mOp (fun a b => o1 (gMulI a b)) (mOp (fun a b => o1 (gIx a b)) (mVar 1) (mC (.int 0))) (mOp (fun a b => o1 (gIx a b)) (mVar 0) (mC (.int 1))))) (mCons (mOp (fun a b => o1 (gMulI a b)) (mOp (fun a b => o1 (gIx a b)) (mVar 0) (mC (.int 1))) (mOp (fun a b => o1 (gIx a b)) (mVar 1) (mC (.int 1)))) mNil))))
def F_l_plus : Mr := mirror 2 M_l_plus
def M_l_shares : MS :=
    (mSeq (mAsg (.nm 2) (mCall gSorted (mCons (mDef 3 F_l_pick (mCons (mVar 0) (mCons (mVar 1) (mCons (mOp (fun a b => o1 (gAdd a b)) (mC (.int 1)) (mDef 2 F_l_take (mCons (mVar 0) (mCons (mC (.int 3)) mNil)))) mNil)))) mNil)))
    (mSeq (mAsg (.nm 3) (mLc (mIter (mVar 2)) (.nm 4) mYes (mOp (fun a b => o1 (gAdd a b)) (mC (.int 1)) (mDef 2 F_l_take (mCons (mVar 0) (mCons (mC (.int 4)) mNil)))) [4]))
    (mRet (mCall gTuple (mCons (mLc (mBind (mCons (mVar 2) (mCons (mVar 3) mNil)) fun ds => oB (gZip ds)) (.tp [4, 5]) mYes (mTup (mCons (mVar 4) (mCons (mDef 2 F_l_frac (mCons (mVar 5) (mCons (mCall gSum (mCons (mVar 3) mNil)) mNil))) mNil))) [4, 5]) mNil)))))
def F_l_shares : Mr := mirror 6 M_l_shares
def M_l_table : MS :=
    (mSeq (mAsg (.nm 2) (mDef 3 F_l_pick (mCons (mVar 0) (mCons (mLst (mCons (mC (.str "a")) (mCons (mC (.str "bed")) (mCons (mC (.str "p")) (mCons (mC (.str "q")) (mCons (mC (.str "tub")) mNil)))))) (mCons (mOp (fun a b => o1 (gAdd a b)) (mC (.int 2)) (mDef 2 F_l_take (mCons (mVar 0) (mCons (mC (.int 3)) mNil)))) mNil)))))
    (mSeq (mParM 3 4 (mLstN mNil) (mTup (mCons (mC (.int 0)) (mCons (mC (.int 1)) mNil))))
    (mSeq (mFor (mBind (mCons (mOp (fun a b => o1 (gAdd a b)) (mC (.int 1)) (mDef 2 F_l_take (mCons (mVar 0) (mCons (mVar 1) mNil)))) mNil) fun ds => oB (gRng ds)) (.nm 5)
    (mSeq (mAsg (.nm 6) (mDef 2 F_l_shares (mCons (mVar 0) (mCons (mVar 2) mNil))))
    (mIfS (mTOr (mBorT (mTst (mOp (fun a b => o1 (gEq a b)) (mVar 3) (mLst mNil)))) (mTst (mOp (fun a b => o1 (gNe a b)) (mOp (fun a b => o1 (gIx a b)) (mIxO 3 (mBind (mC (.int 1)) fun d => o1 (gNeg d))) (mC (.int 1))) (mVar 6))))
    (mSeq (mAsg (.nm 4) (mDef 2 F_l_plus (mCons (mVar 4) (mCons (mDef 2 F_l_frac (mCons (mOp (fun a b => o1 (gAdd a b)) (mC (.int 1)) (mDef 2 F_l_take (mCons (mVar 0) (mCons (mC (.int 9)) mNil)))) (mCons (mDef 2 F_l_of (mCons (mVar 0) (mCons (mLst (mCons (mC (.int 1)) (mCons (mC (.int 1)) (mCons (mC (.int 2)) (mCons (mC (.int 3)) mNil))))) mNil))) mNil))) mNil))))
    (mApp 3 (mTup (mCons (mVar 4) (mCons (mVar 6) mNil)))))
    mNext)))
    (mSeq (mSetI 3 (mBind (mC (.int 1)) fun d => o1 (gNeg d)) (mTup (mCons (mC .non) (mCons (mOp (fun a b => o1 (gIx a b)) (mIxO 3 (mBind (mC (.int 1)) fun d => o1 (gNeg d))) (mC (.int 1))) mNil))))
    (fun ρ x => (mRet (mCall gTuple (mCons (mVar 3) mNil))) (frzS allS ρ) x)))))
def F_l_table : Mr := mirror 7 M_l_table
def M_l_right : MS :=
    (mSeq (mFor (mBind (mCons (mC (.int 9)) mNil) fun ds => oB (gRng ds)) (.nm 1)
    (mSeq (mAsg (.nm 2) (mDef 2 F_l_table (mCons (mVar 0) (mCons (mC (.int 6)) mNil))))
    (mSeq (mAsg (.nm 3) (mLc (mBind (mCons (mC (.int 3)) mNil) fun ds => oB (gRng ds)) (.nm 6) mYes (mDef 2 F_l_bent (mCons (mVar 0) (mCons (mVar 2) mNil))) [6]))
    (mSeq (mAsg (.nm 4) (mLst (mCons (mDef 1 F_is_table (mCons (mVar 2) mNil)) (mCons (mDef 1 F_is_table (mCons (mCall gList (mCons (mVar 2) mNil)) mNil)) (mCons (mDef 1 F_is_table (mCons (mSlice (mVar 2) (mPart (mC (.int 1))) mNoPart) mNil)) (mCons (mDef 1 F_is_table (mCons (mSlice (mVar 2) mNoPart (mPart (mBind (mC (.int 1)) fun d => o1 (gNeg d)))) mNil)) mNil))))))
    (mSeq (mAsg (.nm 5) (mLst (mCons (mC (.bl true)) (mCons (mC (.bl false)) (mCons (mOp (fun a b => o1 (gGt a b)) (mCall gLen (mCons (mVar 2) mNil)) (mC (.int 1))) (mCons (mC (.bl false)) mNil))))))
    (mSeq (mIfS (mTNot (mTru (mDef 2 (F_l_same 12) (mCons (mOp (fun a b => o1 (gAdd a b)) (mVar 4) (mLc (mIter (mVar 3)) (.nm 7) mYes (mDef 1 F_is_table (mCons (mVar 7) mNil)) [7])) (mCons (mOp (fun a b => o1 (gAdd a b)) (mVar 5) (mOp (fun a b => o1 (gRepL a b)) (mLst (mCons (mC (.bl false)) mNil)) (mC (.int 3)))) mNil)))))
    (mRet (mC (.bl false)))
    mNext)
    (mIfS (mTNot (mTru (mDef 2 (F_l_same 12) (mCons (mLc (mIter (mVar 2)) (.nm 7) mYes (mDef 1 F_is_shares (mCons (mOp (fun a b => o1 (gIx a b)) (mVar 7) (mC (.int 1))) mNil)) [7]) (mCons (mOp (fun a b => o1 (gRepL a b)) (mLst (mCons (mC (.bl true)) mNil)) (mCall gLen (mCons (mVar 2) mNil))) mNil)))))
    (mRet (mC (.bl false)))
    mNext)))))))
    (mRet (mC (.bl true))))
def F_l_right : Mr := mirror 8 M_l_right
def M_law : MS :=
    (mSeq (mAsg (.nm 1) (mDef 2 F_l_cells (mCons (mVar 0) (mCons (mC (.int 3)) mNil))))
    (mSeq (mIfS (mTNot (mTru (mDef0 0 F_l_by_hand_right mNil)))
    (mRet (mC (.bl false)))
    mNext)
    (mRet (mCall gAll (mCons (mLc (mBind (mCons (mCall gLen (mCons (mVar 1) mNil)) mNil) fun ds => oB (gRng ds)) (.nm 2) mYes (mDefB F_l_right (mDefN 2 F_l_box (mCons (mVar 1) (mCons (mVar 2) mNil)))) [2]) mNil)))))
def F_law : Mr := mirror 3 M_law
/-! ### each def keeps its mirror -/
structure TF (K : PySem.W.Frag) (mg : Str → Option Value) : Prop where
  n_abs : mg "abs" = none
  n_all : mg "all" = none
  n_any : mg "any" = none
  n_bool : mg "bool" = none
  n_enumerate : mg "enumerate" = none
  n_int : mg "int" = none
  n_isinstance : mg "isinstance" = none
  n_len : mg "len" = none
  n_list : mg "list" = none
  n_min : mg "min" = none
  n_range : mg "range" = none
  n_sorted : mg "sorted" = none
  n_str : mg "str" = none
  n_sum : mg "sum" = none
  n_tuple : mg "tuple" = none
  n_zip : mg "zip" = none
  c_LONGEST_NAME : ∃ t, mg "LONGEST_NAME" = some (.int 8 t)
  t_ZERO : GTup K mg "ZERO" [0, 1]
  g_gcd : mg "gcd" = some (.builtin "math.gcd")
  g_lcm : mg "lcm" = some (.builtin "math.lcm")
theorem bb_abs : bootBuiltins "abs" = some (.builtin "abs") := by decide +kernel
theorem bb_all : bootBuiltins "all" = some (.builtin "all") := by decide +kernel
theorem bb_any : bootBuiltins "any" = some (.builtin "any") := by decide +kernel
theorem bb_bool : bootBuiltins "bool" = some (.type "bool") := by decide +kernel
theorem bb_enumerate : bootBuiltins "enumerate" = some (.type "enumerate") := by decide +kernel
theorem bb_int : bootBuiltins "int" = some (.type "int") := by decide +kernel
theorem bb_isinstance : bootBuiltins "isinstance" = some (.builtin "isinstance") := by decide +kernel
theorem bb_len : bootBuiltins "len" = some (.builtin "len") := by decide +kernel
theorem bb_list : bootBuiltins "list" = some (.type "list") := by decide +kernel
theorem bb_min : bootBuiltins "min" = some (.builtin "min") := by decide +kernel
theorem bb_range : bootBuiltins "range" = some (.type "range") := by decide +kernel
theorem bb_sorted : bootBuiltins "sorted" = some (.builtin "sorted") := by decide +kernel
theorem bb_str : bootBuiltins "str" = some (.type "str") := by decide +kernel
theorem bb_sum : bootBuiltins "sum" = some (.builtin "sum") := by decide +kernel
theorem bb_tuple : bootBuiltins "tuple" = some (.type "tuple") := by decide +kernel
theorem bb_zip : bootBuiltins "zip" = some (.type "zip") := by decide +kernel
section
variable {P : Program} {w : World} {K : PySem.W.Frag}
  {mg : Str → Option Value} {base : Heap}
theorem ok_l_box (T : TF K mg) (R : RawD K mg "_law_box" s_l_box ["_law_script", "_law_k"]) : OkN P w K mg base 1 "_law_box" ["_law_script", "_law_k"] F_l_box := by
  have nd := sc_l_box.nd
  refine okN (k := 0) (n := 3) (m := M_l_box) R sc_l_box rfl rfl fun _ cdv A outer s H E hr => ?_
  exact (js_cons (js_asg (j_ifExp (jt_lt (j_var 1) (j_callB cr_len real_len (by rfl) T.n_len bb_len (j_acons (j_var 0) j_anil))) (j_subP (j_var 0) (j_var 1)) j_int) (jg_nm 2 nd))
    (js_one (js_retL (jn_lst (j_acons (j_mulI (j_callB call_abs real_abs (by rfl) T.n_abs bb_abs (j_acons (j_var 2) j_anil)) (j_callTy cr_int real_int (by rfl) T.n_int bb_int (j_acons (j_ge (j_callB call_abs real_abs (by rfl) T.n_abs bb_abs (j_acons (j_var 2) j_anil)) (j_pow j_int j_int)) j_anil))) (j_acons (j_add (j_add (j_mod (j_callTy cr_int real_int (by rfl) T.n_int bb_int (j_acons (j_var 2) j_anil)) j_int) (j_mulI j_int (j_var 1))) j_int) (j_acons j_int j_anil)))))))
theorem ok_l_same (T : TF K mg) (R : RawD K mg "_law_same" s_l_same ["_law_got", "_law_due"]) : ∀ n, OkD P w K mg base (1 + n) "_law_same" ["_law_got", "_law_due"] (F_l_same n)
  | 0 => okD_out R
  | n + 1 => by
    have O_l_same := ok_l_same T R n
    have nd := sc_l_same.nd
    refine okD (k := 1 + n) (n := 4) (m := M_l_same (F_l_same n)) R sc_l_same rfl rfl fun _ cdv A outer s H E hr => ?_
    exact (js_cons (js_if (j_test (j_isi2 (by rfl) T.n_isinstance bb_isinstance (by rfl) T.n_list bb_list (by rfl) T.n_tuple bb_tuple (j_var 1)))
    (js_cons (js_if (jt_ne hr (j_isi (by rfl) T.n_isinstance bb_isinstance (by rfl) T.n_list bb_list (j_var 0)) (j_isi (by rfl) T.n_isinstance bb_isinstance (by rfl) T.n_list bb_list (j_var 1)))
    (js_one (js_ret j_bl))
    js_nil)
    (js_cons (js_if (jt_ne hr (j_isi (by rfl) T.n_isinstance bb_isinstance (by rfl) T.n_tuple bb_tuple (j_var 0)) (j_isi (by rfl) T.n_isinstance bb_isinstance (by rfl) T.n_tuple bb_tuple (j_var 1)))
    (js_one (js_ret j_bl))
    js_nil)
    (js_one (js_ret (j_and (j_eq hr (j_callB cr_len real_len (by rfl) T.n_len bb_len (j_acons (j_var 0) j_anil)) (j_callB cr_len real_len (by rfl) T.n_len bb_len (j_acons (j_var 1) j_anil))) (j_one (j_callB (cr_all rfl) real_all (by rfl) T.n_all bb_all (j_acons (j_lc rfl nd (j_zip (by rfl) T.n_zip (j_acons (j_var 0) (j_acons (j_var 1) j_anil))) (blkOk_by (own := [("_law_a_so", 2), ("_law_b_so", 3)]) (N := ["_law_got", "_law_due", "_law_a_so", "_law_b_so"]) (sc := defScope s_l_same) (by decide +kernel)) (fun _ _ _ _ _ => (jg_tp rfl (jgs_cons (jg_nm 2 nd) (jgs_cons (jg_nm 3 nd) jgs_nil)))) (fun _ _ _ _ _ => j_yes) (fun _ _ _ _ _ => (j_callD O_l_same hr takes0 (j_acons (j_var 2) (j_acons (j_var 3) j_anil))))) j_anil))))))))
    js_nil)
    (js_cons (js_if (PW.pt (j_wor (jt_isN (j_var 1) j_non) (j_wor1 (j_test (j_isi2 (by rfl) T.n_isinstance bb_isinstance (by rfl) T.n_bool bb_bool (by rfl) T.n_str bb_str (j_var 1))))))
    (js_one (js_ret (j_and (j_eq hr (j_var 0) (j_var 1)) (j_and (j_eq hr (j_isi (by rfl) T.n_isinstance bb_isinstance (by rfl) T.n_bool bb_bool (j_var 0)) (j_isi (by rfl) T.n_isinstance bb_isinstance (by rfl) T.n_bool bb_bool (j_var 1))) (j_one (j_eq hr (j_isN (j_var 0) j_non) (j_isN (j_var 1) j_non)))))))
    js_nil)
    (js_one (js_ret (j_and (j_isi (by rfl) T.n_isinstance bb_isinstance (by rfl) T.n_int bb_int (j_var 0)) (j_and (j_notV (j_isi (by rfl) T.n_isinstance bb_isinstance (by rfl) T.n_bool bb_bool (j_var 0))) (j_one (j_eq hr (j_var 0) (j_var 1)))))))))
theorem ok_p_come_to_one (T : TF K mg) (R : RawD K mg "_come_to_one" s_p_come_to_one ["shares"]) : OkD P w K mg base 1 "_come_to_one" ["shares"] F_p_come_to_one := by
  have nd := sc_p_come_to_one.nd
  refine okD (k := 0) (n := 5) (m := M_p_come_to_one) R sc_p_come_to_one rfl rfl fun _ cdv A outer s H E hr => ?_
  exact (js_cons (js_asg j_int (jg_nm 1 nd))
    (js_cons (js_for (passes_of rfl) rfl (j_iter (j_var 0)) (jg_nm 2 nd)
    (js_one (js_asg (j_lcm (by rfl) T.g_lcm (j_acons (j_var 1) (j_acons (j_subP (j_var 2) j_int) j_anil))) (jg_nm 1 nd))))
    (js_one (js_ret (j_eq hr (j_callB (cr_sum rfl) real_sum (by rfl) T.n_sum bb_sum (j_acons (j_lc rfl nd (j_iter (j_var 0)) (blkOk_by (own := [("top", 3), ("part", 4)]) (N := ["shares", "bottom", "share", "top", "part"]) (sc := defScope s_p_come_to_one) (by decide +kernel)) (fun _ _ _ _ _ => (jg_tp rfl (jgs_cons (jg_nm 3 nd) (jgs_cons (jg_nm 4 nd) jgs_nil)))) (fun _ _ _ _ _ => j_yes) (fun _ _ _ _ _ => (j_mulI (j_var 3) (j_div (j_var 1) (j_var 4))))) j_anil)) (j_var 1))))))
theorem ok_is_name (T : TF K mg) (R : RawD K mg "is_name" s_is_name ["thing"]) : OkD P w K mg base 1 "is_name" ["thing"] F_is_name := by
  have nd := sc_is_name.nd
  refine okD (k := 0) (n := 1) (m := M_is_name) R sc_is_name rfl rfl fun _ cdv A outer s H E hr => ?_
  exact (js_cons (js_if (PW.pt (j_wor (j_tnot (j_test (j_isi (by rfl) T.n_isinstance bb_isinstance (by rfl) T.n_str bb_str (j_var 0)))) (j_wor1 (jt_gt (j_callB cr_len real_len (by rfl) T.n_len bb_len (j_acons (j_var 0) j_anil)) (j_gint (by rfl) T.c_LONGEST_NAME)))))
    (js_one (js_ret j_bl))
    js_nil)
    (js_one (js_ret (j_and (j_m0 PySem.F.plainAttrs_str PySem.F.slot_str_isascii PySem.F.type_str_isascii mt_isascii (gB_ok (f := Txt.isascii)) (j_var 0)) (j_and (j_m0 PySem.F.plainAttrs_str PySem.F.slot_str_isalpha PySem.F.type_str_isalpha mt_isalpha (gB_ok (f := Txt.isalpha)) (j_var 0)) (j_one (j_m0 PySem.F.plainAttrs_str PySem.F.slot_str_islower PySem.F.type_str_islower mt_islower (gB_ok (f := Txt.islower)) (j_var 0))))))))
theorem ok_is_number (T : TF K mg) (R : RawD K mg "is_number" s_is_number ["thing"]) : OkD P w K mg base 1 "is_number" ["thing"] F_is_number := by
  have nd := sc_is_number.nd
  refine okD (k := 0) (n := 1) (m := M_is_number) R sc_is_number rfl rfl fun _ cdv A outer s H E hr => ?_
  exact (js_one (js_ret (j_and (j_isi (by rfl) T.n_isinstance bb_isinstance (by rfl) T.n_int bb_int (j_var 0)) (j_one (j_notV (j_isi (by rfl) T.n_isinstance bb_isinstance (by rfl) T.n_bool bb_bool (j_var 0)))))))
theorem ok_is_fraction (T : TF K mg) (R : RawD K mg "is_fraction" s_is_fraction ["thing"]) (O_is_number : OkD P w K mg base 1 "is_number" ["thing"] F_is_number) : OkD P w K mg base 2 "is_fraction" ["thing"] F_is_fraction := by
  have nd := sc_is_fraction.nd
  refine okD (k := 1) (n := 3) (m := M_is_fraction) R sc_is_fraction rfl rfl fun _ cdv A outer s H E hr => ?_
  exact (js_cons (js_if (PW.pt (j_wor (j_tnot (j_test (j_isi (by rfl) T.n_isinstance bb_isinstance (by rfl) T.n_tuple bb_tuple (j_var 0)))) (j_wor1 (jt_ne hr (j_callB cr_len real_len (by rfl) T.n_len bb_len (j_acons (j_var 0) j_anil)) j_int))))
    (js_one (js_ret j_bl))
    js_nil)
    (js_cons (js_asg (j_var 0) (jg_tp rfl (jgs_cons (jg_nm 1 nd) (jgs_cons (jg_nm 2 nd) jgs_nil))))
    (js_cons (js_if (PW.pt (j_wor (j_tnot (j_test (j_callD O_is_number (hr.mono (by decide)) (takes_of rfl rfl rfl rfl) (j_acons (j_var 1) j_anil)))) (j_wor1 (j_tnot (j_test (j_callD O_is_number (hr.mono (by decide)) (takes_of rfl rfl rfl rfl) (j_acons (j_var 2) j_anil)))))))
    (js_one (js_ret j_bl))
    js_nil)
    (js_one (js_ret (j_and (j_ge (j_var 2) j_int) (j_one (j_eq hr (j_gcd (by rfl) T.g_gcd (j_acons (j_var 1) (j_acons (j_var 2) j_anil))) j_int))))))))
theorem ok_is_amount (T : TF K mg) (R : RawD K mg "is_amount" s_is_amount ["thing"]) (O_is_fraction : OkD P w K mg base 2 "is_fraction" ["thing"] F_is_fraction) : OkD P w K mg base 3 "is_amount" ["thing"] F_is_amount := by
  have nd := sc_is_amount.nd
  refine okD (k := 2) (n := 1) (m := M_is_amount) R sc_is_amount rfl rfl fun _ cdv A outer s H E hr => ?_
  exact (js_one (js_ret (j_and (j_callD O_is_fraction (hr.mono (by decide)) (takes_of rfl rfl rfl rfl) (j_acons (j_var 0) j_anil)) (j_one (j_ge (j_subP (j_var 0) j_int) j_int)))))
theorem ok_is_share (T : TF K mg) (R : RawD K mg "is_share" s_is_share ["thing"]) (O_is_amount : OkD P w K mg base 3 "is_amount" ["thing"] F_is_amount) : OkD P w K mg base 4 "is_share" ["thing"] F_is_share := by
  have nd := sc_is_share.nd
  refine okD (k := 3) (n := 1) (m := M_is_share) R sc_is_share rfl rfl fun _ cdv A outer s H E hr => ?_
  exact (js_one (js_ret (j_and (j_callD O_is_amount (hr.mono (by decide)) (takes_of rfl rfl rfl rfl) (j_acons (j_var 0) j_anil)) (j_one (j_le (j_subP (j_var 0) j_int) (j_subP (j_var 0) j_int))))))
theorem ok_p_is_pair (T : TF K mg) (R : RawD K mg "_is_pair" s_p_is_pair ["thing"]) (O_is_share : OkD P w K mg base 4 "is_share" ["thing"] F_is_share) (O_is_name : OkD P w K mg base 1 "is_name" ["thing"] F_is_name) : OkD P w K mg base 5 "_is_pair" ["thing"] F_p_is_pair := by
  have nd := sc_p_is_pair.nd
  refine okD (k := 4) (n := 1) (m := M_p_is_pair) R sc_p_is_pair rfl rfl fun _ cdv A outer s H E hr => ?_
  exact (js_cons (js_if (PW.pt (j_wor (j_tnot (j_test (j_isi (by rfl) T.n_isinstance bb_isinstance (by rfl) T.n_tuple bb_tuple (j_var 0)))) (j_wor1 (jt_ne hr (j_callB cr_len real_len (by rfl) T.n_len bb_len (j_acons (j_var 0) j_anil)) j_int))))
    (js_one (js_ret j_bl))
    js_nil)
    (js_one (js_ret (j_and (j_callD O_is_name (hr.mono (by decide)) (takes_of rfl rfl rfl rfl) (j_acons (j_subP (j_var 0) j_int) j_anil)) (j_and (j_callD O_is_share (hr.mono (by decide)) (takes_of rfl rfl rfl rfl) (j_acons (j_subP (j_var 0) j_int) j_anil)) (j_one (j_ne hr (j_subP (j_var 0) j_int) (j_gtup (by rfl) T.t_ZERO))))))))
theorem ok_is_shares (T : TF K mg) (R : RawD K mg "is_shares" s_is_shares ["thing"]) (O_p_come_to_one : OkD P w K mg base 1 "_come_to_one" ["shares"] F_p_come_to_one) (O_p_is_pair : OkD P w K mg base 5 "_is_pair" ["thing"] F_p_is_pair) : OkD P w K mg base 6 "is_shares" ["thing"] F_is_shares := by
  have nd := sc_is_shares.nd
  refine okD (k := 5) (n := 5) (m := M_is_shares) R sc_is_shares rfl rfl fun _ cdv A outer s H E hr => ?_
  exact (js_cons (js_if (PW.pt (j_wor (j_tnot (j_test (j_isi (by rfl) T.n_isinstance bb_isinstance (by rfl) T.n_tuple bb_tuple (j_var 0)))) (j_wor1 (j_tnot (j_test (j_callB (cr_all rfl) real_all (by rfl) T.n_all bb_all (j_acons (j_lc rfl nd (j_iter (j_var 0)) (blkOk_by (own := [("pair", 2)]) (N := ["thing", "outlets", "pair", "name", "after"]) (sc := defScope s_is_shares) (by decide +kernel)) (fun _ _ _ _ _ => (jg_nm 2 nd)) (fun _ _ _ _ _ => j_yes) (fun _ _ _ _ _ => (j_callD O_p_is_pair (hr.mono (by decide)) takes0 (j_acons (j_var 2) j_anil)))) j_anil)))))))
    (js_one (js_ret j_bl))
    js_nil)
    (js_cons (js_setLc (i := 1) rfl nd rfl rfl (sw_true rfl rfl rfl (by decide +kernel)) (j_iter (j_var 0)) (blkOk_by (own := [("pair", 2)]) (N := ["thing", "outlets", "pair", "name", "after"]) (sc := defScope s_is_shares) (by decide +kernel)) (fun _ _ _ _ _ => (jg_nm 2 nd)) (fun _ _ _ _ _ => j_yes) (fun _ _ _ _ _ => (j_subP (j_var 2) j_int)))
    (js_cons (js_if (j_tnot (j_test (j_callB (cr_all rfl) real_all (by rfl) T.n_all bb_all (j_acons (j_lc rfl nd (j_zip (by rfl) T.n_zip (j_acons (j_var 1) (j_acons (j_slice (j_var 1) (j_part j_int) j_noPart) j_anil))) (blkOk_by (own := [("name", 3), ("after", 4)]) (N := ["thing", "outlets", "pair", "name", "after"]) (sc := defScope s_is_shares) (by decide +kernel)) (fun _ _ _ _ _ => (jg_tp rfl (jgs_cons (jg_nm 3 nd) (jgs_cons (jg_nm 4 nd) jgs_nil)))) (fun _ _ _ _ _ => j_yes) (fun _ _ _ _ _ => (j_lt (j_var 3) (j_var 4)))) j_anil))))
    (js_one (js_ret j_bl))
    js_nil)
    (js_one (js_ret (j_callD O_p_come_to_one (hr.mono (by decide)) (takes_of rfl rfl rfl rfl) (j_acons (j_lc rfl nd (j_iter (j_var 0)) (blkOk_by (own := [("pair", 2)]) (N := ["thing", "outlets", "pair", "name", "after"]) (sc := defScope s_is_shares) (by decide +kernel)) (fun _ _ _ _ _ => (jg_nm 2 nd)) (fun _ _ _ _ _ => j_yes) (fun _ _ _ _ _ => (j_subP (j_var 2) j_int))) j_anil)))))))
theorem ok_p_is_layer (T : TF K mg) (R : RawD K mg "_is_layer" s_p_is_layer ["thing"]) (O_is_shares : OkD P w K mg base 6 "is_shares" ["thing"] F_is_shares) (O_is_amount : OkD P w K mg base 3 "is_amount" ["thing"] F_is_amount) : OkD P w K mg base 7 "_is_layer" ["thing"] F_p_is_layer := by
  have nd := sc_p_is_layer.nd
  refine okD (k := 6) (n := 1) (m := M_p_is_layer) R sc_p_is_layer rfl rfl fun _ cdv A outer s H E hr => ?_
  exact (js_cons (js_if (PW.pt (j_wor (j_tnot (j_test (j_isi (by rfl) T.n_isinstance bb_isinstance (by rfl) T.n_tuple bb_tuple (j_var 0)))) (j_wor1 (jt_ne hr (j_callB cr_len real_len (by rfl) T.n_len bb_len (j_acons (j_var 0) j_anil)) j_int))))
    (js_one (js_ret j_bl))
    js_nil)
    (js_one (js_ret (j_and (j_or (j_isN (j_subP (j_var 0) j_int) j_non) (j_one (j_callD O_is_amount (hr.mono (by decide)) (takes_of rfl rfl rfl rfl) (j_acons (j_subP (j_var 0) j_int) j_anil)))) (j_one (j_callD O_is_shares (hr.mono (by decide)) (takes_of rfl rfl rfl rfl) (j_acons (j_subP (j_var 0) j_int) j_anil)))))))
theorem ok_is_less (T : TF K mg) (R : RawD K mg "is_less" s_is_less ["one", "other"]) : OkD P w K mg base 1 "is_less" ["one", "other"] F_is_less := by
  have nd := sc_is_less.nd
  refine okD (k := 0) (n := 2) (m := M_is_less) R sc_is_less rfl rfl fun _ cdv A outer s H E hr => ?_
  exact (js_one (js_ret (j_lt (j_mulI (j_subP (j_var 0) j_int) (j_subP (j_var 1) j_int)) (j_mulI (j_subP (j_var 1) j_int) (j_subP (j_var 0) j_int)))))
theorem ok_united (T : TF K mg) (R : RawD K mg "united" s_united ["steps"]) : OkD P w K mg base 1 "united" ["steps"] F_united := by
  have nd := sc_united.nd
  refine okD (k := 0) (n := 4) (m := M_united) R sc_united rfl rfl fun _ cdv A outer s H E hr => ?_
  exact (js_cons (js_own (i := 1) nd (jn_lst j_anil))
    (js_cons (js_for (passes_of rfl) rfl (j_iter (j_var 0)) (jg_tp rfl (jgs_cons (jg_nm 2 nd) (jgs_cons (jg_nm 3 nd) jgs_nil)))
    (js_cons (js_if (PW.pt (j_wand (jt_gt (j_bor (j_callB cr_len real_len (by rfl) T.n_len bb_len (j_acons (j_var 1) j_anil))) j_int) (j_wand1 (jt_eq hr (j_subP (j_ixO 1 (j_neg j_int)) j_int) (j_var 3)))))
    (js_one (js_pop 1))
    js_nil)
    (js_one (js_app 1 (j_tup (j_acons (j_var 2) (j_acons (j_var 3) j_anil)))))))
    (js_one (js_frz allS (js_ret (j_var 1))))))
theorem ok_is_table (T : TF K mg) (R : RawD K mg "is_table" s_is_table ["thing"]) (O_united : OkD P w K mg base 1 "united" ["steps"] F_united) (O_is_less : OkD P w K mg base 1 "is_less" ["one", "other"] F_is_less) (O_p_is_layer : OkD P w K mg base 7 "_is_layer" ["thing"] F_p_is_layer) : OkD P w K mg base 8 "is_table" ["thing"] F_is_table := by
  have nd := sc_is_table.nd
  refine okD (k := 7) (n := 5) (m := M_is_table) R sc_is_table rfl rfl fun _ cdv A outer s H E hr => ?_
  exact (js_cons (js_if (PW.pt (j_wor (j_tnot (j_test (j_isi (by rfl) T.n_isinstance bb_isinstance (by rfl) T.n_tuple bb_tuple (j_var 0)))) (j_wor1 (jt_eq hr (j_callB cr_len real_len (by rfl) T.n_len bb_len (j_acons (j_var 0) j_anil)) j_int))))
    (js_one (js_ret j_bl))
    js_nil)
    (js_cons (js_if (j_tnot (j_test (j_callB (cr_all rfl) real_all (by rfl) T.n_all bb_all (j_acons (j_lc rfl nd (j_iter (j_var 0)) (blkOk_by (own := [("layer", 4)]) (N := ["thing", "ahead", "until", "_", "layer"]) (sc := defScope s_is_table) (by decide +kernel)) (fun _ _ _ _ _ => (jg_nm 4 nd)) (fun _ _ _ _ _ => j_yes) (fun _ _ _ _ _ => (j_callD O_p_is_layer (hr.mono (by decide)) takes0 (j_acons (j_var 4) j_anil)))) j_anil))))
    (js_one (js_ret j_bl))
    js_nil)
    (js_cons (js_if (PW.pt (j_wor (jt_notN (j_subP (j_subP (j_var 0) (j_neg j_int)) j_int) j_non) (j_wor1 (j_test (j_callB (cr_any rfl) real_any (by rfl) T.n_any bb_any (j_acons (j_lc rfl nd (j_iter (j_slice (j_var 0) j_noPart (j_part (j_neg j_int)))) (blkOk_by (own := [("until", 2), ("_", 3)]) (N := ["thing", "ahead", "until", "_", "layer"]) (sc := defScope s_is_table) (by decide +kernel)) (fun _ _ _ _ _ => (jg_tp rfl (jgs_cons (jg_nm 2 nd) (jgs_cons (jg_nm 3 nd) jgs_nil)))) (fun _ _ _ _ _ => j_yes) (fun _ _ _ _ _ => (j_isN (j_var 2) j_non))) j_anil))))))
    (js_one (js_ret j_bl))
    js_nil)
    (js_cons (js_asg (j_gtup (by rfl) T.t_ZERO) (jg_nm 1 nd))
    (js_cons (js_for (passes_of rfl) rfl (j_iter (j_slice (j_var 0) j_noPart (j_part (j_neg j_int)))) (jg_tp rfl (jgs_cons (jg_nm 2 nd) (jgs_cons (jg_nm 3 nd) jgs_nil)))
    (js_cons (js_if (j_tnot (j_test (j_callD O_is_less (hr.mono (by decide)) (takes_of rfl rfl rfl rfl) (j_acons (j_var 1) (j_acons (j_var 2) j_anil)))))
    (js_one (js_ret j_bl))
    js_nil)
    (js_one (js_asg (j_var 2) (jg_nm 1 nd)))))
    (js_one (js_ret (j_eq hr (j_callB cr_len real_len (by rfl) T.n_len bb_len (j_acons (j_callD O_united (hr.mono (by decide)) (takes_of rfl rfl rfl rfl) (j_acons (j_var 0) j_anil)) j_anil)) (j_callB cr_len real_len (by rfl) T.n_len bb_len (j_acons (j_var 0) j_anil))))))))))
theorem ok_l_by_hand_right (T : TF K mg) (R : RawD K mg "_law_by_hand_right" s_l_by_hand_right []) (O_l_same : OkD P w K mg base 13 "_law_same" ["_law_got", "_law_due"] (F_l_same 12)) (O_is_shares : OkD P w K mg base 6 "is_shares" ["thing"] F_is_shares) (O_is_table : OkD P w K mg base 8 "is_table" ["thing"] F_is_table) : OkD P w K mg base 14 "_law_by_hand_right" [] F_l_by_hand_right := by
  have nd := sc_l_by_hand_right.nd
  refine okD (k := 13) (n := 8) (m := M_l_by_hand_right) R sc_l_by_hand_right rfl rfl fun _ cdv A outer s H E hr => ?_
  exact (js_cons (js_asg (j_tup (j_acons (j_tup (j_acons (j_tup (j_acons j_str (j_acons (j_tup (j_acons j_int (j_acons j_int j_anil))) j_anil))) j_anil)) (j_acons (j_tup (j_acons (j_tup (j_acons j_str (j_acons (j_tup (j_acons j_int (j_acons j_int j_anil))) j_anil))) j_anil)) (j_acons (j_tup (j_acons (j_tup (j_acons j_str (j_acons (j_tup (j_acons j_int (j_acons j_int j_anil))) j_anil))) (j_acons (j_tup (j_acons j_str (j_acons (j_tup (j_acons j_int (j_acons j_int j_anil))) j_anil))) j_anil))) j_anil)))) (jg_tp rfl (jgs_cons (jg_nm 0 nd) (jgs_cons (jg_nm 1 nd) (jgs_cons (jg_nm 2 nd) jgs_nil)))))
    (js_cons (js_asg (j_lst (j_acons (j_var 0) (j_acons (j_var 2) (j_acons (j_tup (j_acons (j_tup (j_acons j_str (j_acons (j_tup (j_acons j_int (j_acons j_int j_anil))) j_anil))) (j_acons (j_tup (j_acons j_str (j_acons (j_tup (j_acons j_int (j_acons j_int j_anil))) j_anil))) (j_acons (j_tup (j_acons j_str (j_acons (j_tup (j_acons j_int (j_acons j_int j_anil))) j_anil))) j_anil)))) (j_acons (j_tup (j_acons (j_tup (j_acons j_str (j_acons (j_tup (j_acons j_int (j_acons j_int j_anil))) j_anil))) j_anil)) j_anil))))) (jg_nm 3 nd))
    (js_cons (js_asg (j_lst (j_acons (j_tup j_anil) (j_acons (j_tup (j_acons (j_tup (j_acons j_str (j_acons (j_tup (j_acons j_int (j_acons j_int j_anil))) j_anil))) j_anil)) (j_acons (j_tup (j_acons (j_tup (j_acons j_str (j_acons (j_tup (j_acons j_int (j_acons j_int j_anil))) j_anil))) (j_acons (j_tup (j_acons j_str (j_acons (j_tup (j_acons j_int (j_acons j_int j_anil))) j_anil))) j_anil))) (j_acons (j_tup (j_acons (j_tup (j_acons j_str (j_acons (j_tup (j_acons j_int (j_acons j_int j_anil))) j_anil))) (j_acons (j_tup (j_acons j_str (j_acons (j_tup (j_acons j_int (j_acons j_int j_anil))) j_anil))) j_anil))) j_anil))))) (jg_nm 4 nd))
    (js_cons (js_asg (j_add (j_var 4) (j_lst (j_acons (j_tup (j_acons (j_tup (j_acons j_str (j_acons (j_tup (j_acons j_int (j_acons j_int j_anil))) j_anil))) (j_acons (j_tup (j_acons j_str (j_acons (j_tup (j_acons j_int (j_acons j_int j_anil))) j_anil))) j_anil))) j_anil))) (jg_nm 4 nd))
    (js_cons (js_asg (j_add (j_var 4) (j_lst (j_acons (j_tup (j_acons (j_tup (j_acons j_str (j_acons (j_tup (j_acons j_int (j_acons j_int j_anil))) j_anil))) (j_acons (j_tup (j_acons j_str (j_acons (j_tup (j_acons j_int (j_acons j_int j_anil))) j_anil))) j_anil))) (j_acons (j_tup (j_acons (j_tup (j_acons j_str (j_acons (j_tup (j_acons j_int (j_acons j_int j_anil))) j_anil))) (j_acons (j_tup (j_acons j_str (j_acons (j_tup (j_acons (j_neg j_int) (j_acons j_int j_anil))) j_anil))) j_anil))) (j_acons (j_lst (j_acons (j_tup (j_acons j_str (j_acons (j_tup (j_acons j_int (j_acons j_int j_anil))) j_anil))) j_anil)) j_anil))))) (jg_nm 4 nd))
    (js_cons (js_asg (j_add (j_var 4) (j_lst (j_acons (j_tup (j_acons (j_lst (j_acons j_str (j_acons (j_tup (j_acons j_int (j_acons j_int j_anil))) j_anil))) j_anil)) (j_acons j_non (j_acons j_int (j_acons j_str j_anil)))))) (jg_nm 4 nd))
    (js_cons (js_asg (j_add (j_var 4) (j_lst (j_acons (j_tup (j_acons (j_tup (j_acons j_str (j_acons (j_tup (j_acons j_int (j_acons j_int j_anil))) j_anil))) j_anil)) (j_acons (j_tup (j_acons (j_tup (j_acons j_str (j_acons j_int j_anil))) j_anil)) (j_acons (j_tup (j_acons (j_tup (j_acons j_str (j_acons (j_tup (j_acons j_int (j_acons j_int j_anil))) (j_acons j_int j_anil)))) j_anil)) (j_acons (j_tup (j_acons (j_tup (j_acons j_str (j_acons (j_lst (j_acons j_int (j_acons j_int j_anil))) j_anil))) j_anil)) (j_acons (j_tup (j_acons (j_tup (j_acons j_str (j_acons (j_tup (j_acons j_int (j_acons j_int j_anil))) j_anil))) j_anil)) j_anil))))))) (jg_nm 4 nd))
    (js_cons (js_asg (j_add (j_var 4) (j_lst (j_acons (j_tup (j_acons (j_tup (j_acons j_str (j_acons (j_tup (j_acons (j_neg j_int) (j_acons (j_neg j_int) j_anil))) j_anil))) j_anil)) j_anil))) (jg_nm 4 nd))
    (js_cons (js_asg (j_add (j_var 4) (j_lst (j_acons (j_tup (j_acons (j_tup (j_acons j_int (j_acons (j_tup (j_acons j_int (j_acons j_int j_anil))) j_anil))) j_anil)) (j_acons (j_tup (j_acons (j_tup (j_acons j_str (j_acons (j_tup (j_acons j_int (j_acons j_int j_anil))) j_anil))) j_anil)) (j_acons (j_tup (j_acons (j_tup (j_acons j_str (j_acons (j_tup (j_acons j_bl (j_acons j_int j_anil))) j_anil))) j_anil)) (j_acons (j_tup (j_acons j_str (j_acons (j_tup (j_acons j_int (j_acons j_int j_anil))) j_anil))) (j_acons (j_tup (j_acons j_non j_anil)) j_anil))))))) (jg_nm 4 nd))
    (js_cons (js_asg (j_add (j_var 4) (j_lst (j_acons (j_tup (j_acons (j_tup (j_acons j_str (j_acons (j_tup (j_acons j_int (j_acons j_non j_anil))) j_anil))) j_anil)) (j_acons (j_tup (j_acons (j_tup (j_acons j_str (j_acons j_non j_anil))) j_anil)) j_anil)))) (jg_nm 4 nd))
    (js_cons (js_asg (j_add (j_lc rfl nd (j_iter (j_var 3)) (blkOk_by (own := [("_law_own", 7)]) (N := ["_law_p_so", "_law_q_so", "_law_both", "_law_fine", "_law_odd", "_law_got", "_law_due", "_law_own"]) (sc := defScope s_l_by_hand_right) (by decide +kernel)) (fun _ _ _ _ _ => (jg_nm 7 nd)) (fun _ _ _ _ _ => j_yes) (fun _ _ _ _ _ => (j_callD O_is_shares (hr.mono (by decide)) takes0 (j_acons (j_var 7) j_anil)))) (j_lc rfl nd (j_iter (j_var 4)) (blkOk_by (own := [("_law_own", 7)]) (N := ["_law_p_so", "_law_q_so", "_law_both", "_law_fine", "_law_odd", "_law_got", "_law_due", "_law_own"]) (sc := defScope s_l_by_hand_right) (by decide +kernel)) (fun _ _ _ _ _ => (jg_nm 7 nd)) (fun _ _ _ _ _ => j_yes) (fun _ _ _ _ _ => (j_callD O_is_shares (hr.mono (by decide)) takes0 (j_acons (j_var 7) j_anil))))) (jg_nm 5 nd))
    (js_cons (js_asg (j_add (j_rep (j_lst (j_acons j_bl j_anil)) j_int) (j_rep (j_lst (j_acons j_bl j_anil)) j_int)) (jg_nm 6 nd))
    (js_cons (js_asg (j_lst (j_acons (j_tup (j_acons (j_tup (j_acons j_non (j_acons (j_var 0) j_anil))) j_anil)) (j_acons (j_tup (j_acons (j_tup (j_acons (j_tup (j_acons j_int (j_acons j_int j_anil))) (j_acons (j_var 0) j_anil))) (j_acons (j_tup (j_acons j_non (j_acons (j_var 1) j_anil))) j_anil))) j_anil))) (jg_nm 3 nd))
    (js_cons (js_asg (j_add (j_var 3) (j_lst (j_acons (j_tup (j_acons (j_tup (j_acons (j_tup (j_acons j_int (j_acons j_int j_anil))) (j_acons (j_var 0) j_anil))) (j_acons (j_tup (j_acons (j_tup (j_acons j_int (j_acons j_int j_anil))) (j_acons (j_var 2) j_anil))) (j_acons (j_tup (j_acons (j_tup (j_acons j_int (j_acons j_int j_anil))) (j_acons (j_var 0) j_anil))) (j_acons (j_tup (j_acons j_non (j_acons (j_var 1) j_anil))) j_anil))))) j_anil))) (jg_nm 3 nd))
    (js_cons (js_asg (j_lst (j_acons (j_tup j_anil) (j_acons (j_tup (j_acons (j_tup (j_acons (j_tup (j_acons j_int (j_acons j_int j_anil))) (j_acons (j_var 0) j_anil))) j_anil)) (j_acons (j_tup (j_acons (j_tup (j_acons j_non (j_acons (j_var 0) j_anil))) (j_acons (j_tup (j_acons j_non (j_acons (j_var 1) j_anil))) j_anil))) (j_acons (j_tup (j_acons (j_tup (j_acons (j_tup (j_acons j_int (j_acons j_int j_anil))) (j_acons (j_var 0) j_anil))) (j_acons (j_tup (j_acons j_non (j_acons (j_var 0) j_anil))) j_anil))) j_anil))))) (jg_nm 4 nd))
    (js_cons (js_asg (j_add (j_var 4) (j_lst (j_acons (j_tup (j_acons (j_tup (j_acons (j_tup (j_acons j_int (j_acons j_int j_anil))) (j_acons (j_var 0) j_anil))) (j_acons (j_tup (j_acons j_non (j_acons (j_var 1) j_anil))) j_anil))) j_anil))) (jg_nm 4 nd))
    (js_cons (js_asg (j_add (j_var 4) (j_lst (j_acons (j_tup (j_acons (j_tup (j_acons (j_tup (j_acons j_int (j_acons j_int j_anil))) (j_acons (j_var 0) j_anil))) (j_acons (j_tup (j_acons (j_tup (j_acons j_int (j_acons j_int j_anil))) (j_acons (j_var 2) j_anil))) (j_acons (j_tup (j_acons j_non (j_acons (j_var 1) j_anil))) j_anil)))) j_anil))) (jg_nm 4 nd))
    (js_cons (js_asg (j_add (j_var 4) (j_lst (j_acons (j_tup (j_acons (j_tup (j_acons (j_tup (j_acons j_int (j_acons j_int j_anil))) (j_acons (j_var 0) j_anil))) (j_acons (j_tup (j_acons (j_tup (j_acons j_int (j_acons j_int j_anil))) (j_acons (j_var 2) j_anil))) (j_acons (j_tup (j_acons j_non (j_acons (j_var 1) j_anil))) j_anil)))) (j_acons (j_lst (j_acons (j_tup (j_acons j_non (j_acons (j_var 0) j_anil))) j_anil)) j_anil)))) (jg_nm 4 nd))
    (js_cons (js_asg (j_add (j_var 4) (j_lst (j_acons (j_tup (j_acons (j_lst (j_acons j_non (j_acons (j_var 0) j_anil))) j_anil)) (j_acons (j_tup (j_acons j_non (j_acons (j_var 0) j_anil))) (j_acons (j_tup (j_acons (j_tup (j_acons j_non (j_acons (j_var 0) (j_acons j_int j_anil)))) j_anil)) (j_acons (j_tup (j_acons (j_tup (j_acons j_non (j_acons (j_tup j_anil) j_anil))) j_anil)) (j_acons (j_tup (j_acons (j_tup (j_acons j_non (j_acons (j_callTy call_list_of real_list (by rfl) T.n_list bb_list (j_acons (j_var 0) j_anil)) j_anil))) j_anil)) j_anil))))))) (jg_nm 4 nd))
    (js_cons (js_asg (j_add (j_var 4) (j_lst (j_acons (j_tup (j_acons (j_tup (j_acons (j_tup (j_acons j_int (j_acons j_int j_anil))) (j_acons (j_var 0) j_anil))) (j_acons (j_tup (j_acons j_non (j_acons (j_var 1) j_anil))) j_anil))) j_anil))) (jg_nm 4 nd))
    (js_cons (js_asg (j_add (j_var 4) (j_lst (j_acons (j_tup (j_acons (j_tup (j_acons j_int (j_acons (j_var 0) j_anil))) (j_acons (j_tup (j_acons j_non (j_acons (j_var 1) j_anil))) j_anil))) (j_acons (j_tup (j_acons (j_tup (j_acons (j_tup (j_acons j_int (j_acons j_int j_anil))) (j_acons (j_var 0) j_anil))) (j_acons (j_tup (j_acons j_non (j_acons (j_var 1) j_anil))) j_anil))) j_anil)))) (jg_nm 4 nd))
    (js_cons (js_asg (j_add (j_var 4) (j_lst (j_acons (j_tup (j_acons (j_tup (j_acons (j_tup (j_acons (j_neg j_int) (j_acons j_int j_anil))) (j_acons (j_var 0) j_anil))) (j_acons (j_tup (j_acons j_non (j_acons (j_var 1) j_anil))) j_anil))) (j_acons (j_tup (j_acons j_non j_anil)) (j_acons j_non (j_acons j_int (j_acons j_str j_anil))))))) (jg_nm 4 nd))
    (js_cons (js_asg (j_add (j_var 4) (j_lst (j_acons (j_tup (j_acons (j_tup (j_acons (j_tup (j_acons j_int (j_acons j_int j_anil))) (j_acons (j_var 0) j_anil))) (j_acons (j_tup (j_acons j_non (j_acons (j_var 1) j_anil))) (j_acons (j_tup (j_acons (j_tup (j_acons j_int (j_acons j_int j_anil))) (j_acons (j_var 0) j_anil))) j_anil)))) (j_acons (j_tup (j_acons (j_tup (j_acons (j_tup (j_acons j_int (j_acons j_bl j_anil))) (j_acons (j_var 0) j_anil))) (j_acons (j_tup (j_acons j_non (j_acons (j_var 1) j_anil))) j_anil))) j_anil)))) (jg_nm 4 nd))
    (js_cons (js_asg (j_add (j_var 4) (j_lst (j_acons (j_tup (j_acons (j_tup (j_acons j_bl (j_acons (j_var 0) j_anil))) j_anil)) (j_acons (j_tup (j_acons (j_var 0) j_anil)) j_anil)))) (jg_nm 4 nd))
    (js_cons (js_asg (j_add (j_add (j_var 5) (j_lc rfl nd (j_iter (j_var 3)) (blkOk_by (own := [("_law_own", 7)]) (N := ["_law_p_so", "_law_q_so", "_law_both", "_law_fine", "_law_odd", "_law_got", "_law_due", "_law_own"]) (sc := defScope s_l_by_hand_right) (by decide +kernel)) (fun _ _ _ _ _ => (jg_nm 7 nd)) (fun _ _ _ _ _ => j_yes) (fun _ _ _ _ _ => (j_callD O_is_table (hr.mono (by decide)) takes0 (j_acons (j_var 7) j_anil))))) (j_lc rfl nd (j_iter (j_var 4)) (blkOk_by (own := [("_law_own", 7)]) (N := ["_law_p_so", "_law_q_so", "_law_both", "_law_fine", "_law_odd", "_law_got", "_law_due", "_law_own"]) (sc := defScope s_l_by_hand_right) (by decide +kernel)) (fun _ _ _ _ _ => (jg_nm 7 nd)) (fun _ _ _ _ _ => j_yes) (fun _ _ _ _ _ => (j_callD O_is_table (hr.mono (by decide)) takes0 (j_acons (j_var 7) j_anil))))) (jg_nm 5 nd))
    (js_cons (js_asg (j_add (j_var 5) (j_lst (j_acons (j_callK0 O_is_table (hr.mono (by decide)) (jk_cons (j_subP (j_var 3) j_int) jk_nil)) (j_acons (j_callK0 O_is_shares (hr.mono (by decide)) (jk_cons (j_var 2) jk_nil)) j_anil)))) (jg_nm 5 nd))
    (js_one (js_ret (j_callD O_l_same (hr.mono (by decide)) (takes_of rfl rfl rfl rfl) (j_acons (j_var 5) (j_acons (j_add (j_add (j_add (j_var 6) (j_rep (j_lst (j_acons j_bl j_anil)) j_int)) (j_rep (j_lst (j_acons j_bl j_anil)) j_int)) (j_lst (j_acons j_bl (j_acons j_bl j_anil)))) j_anil)))))))))))))))))))))))))))))))
theorem ok_l_cells (T : TF K mg) (R : RawD K mg "_law_cells" s_l_cells ["_law_script", "_law_top_so"]) : OkD P w K mg base 1 "_law_cells" ["_law_script", "_law_top_so"] F_l_cells := by
  have nd := sc_l_cells.nd
  refine okD (k := 0) (n := 6) (m := M_l_cells) R sc_l_cells rfl rfl fun _ cdv A outer s H E hr => ?_
  exact (js_cons (js_own (i := 2) nd (jn_or (jn_list (by rfl) T.n_list bb_list (j_acons (j_slice (j_var 0) j_noPart (j_part (j_var 1))) j_anil)) (jn_lst (j_acons j_int j_anil))))
    (js_cons (js_for (passes_of rfl) rfl (j_enum (by rfl) T.n_enumerate (j_acons (j_slice (j_var 0) (j_part (j_var 1)) (j_part j_int)) j_anil)) (jg_tp rfl (jgs_cons (jg_nm 3 nd) (jgs_cons (jg_nm 4 nd) jgs_nil)))
    (js_cons (js_asg (j_mod (j_callTy cr_int real_int (by rfl) T.n_int bb_int (j_acons (j_var 3) j_anil)) (j_var 1)) (jg_nm 5 nd))
    (js_one (js_setI 2 (j_add (j_ixO 2 (j_var 5)) (j_mulI (j_var 4) (j_add (j_var 3) j_int))) (j_var 5)))))
    (js_one (js_frz allS (js_ret (j_var 2))))))
theorem ok_l_take (T : TF K mg) (R : RawD K mg "_law_take" s_l_take ["_law_box_here", "_law_size_so"]) : OkD P w K mg base 1 "_law_take" ["_law_box_here", "_law_size_so"] F_l_take := by
  have nd := sc_l_take.nd
  refine okD (k := 0) (n := 6) (m := M_l_take) R sc_l_take rfl rfl fun _ cdv A outer s H E hr => ?_
  exact (js_cons (js_if (jt_gt (j_sub' (j_var 0) j_int) j_int)
    (js_cons (js_asg (j_mod (j_callTy cr_int real_int (by rfl) T.n_int bb_int (j_acons (j_sub' (j_var 0) j_int) j_anil)) (j_var 1)) (jg_nm 2 nd))
    (js_cons (js_setB 0 (j_div (j_sub' (j_var 0) j_int) (j_var 1)) j_int)
    (js_one (js_ret (j_var 2)))))
    js_nil)
    (js_cons (js_setB 0 (j_add (j_sub' (j_var 0) j_int) j_int) j_int)
    (js_cons (js_asg (j_mod (j_callTy cr_int real_int (by rfl) T.n_int bb_int (j_acons (j_mulI (j_add (j_sub' (j_var 0) j_int) (j_mulI j_int (j_sub' (j_var 0) j_int))) (j_add j_int (j_sub' (j_var 0) j_int))) j_anil)) j_int) (jg_nm 3 nd))
    (js_cons (js_asg (j_add (j_mod (j_callTy cr_int real_int (by rfl) T.n_int bb_int (j_acons (j_var 3) j_anil)) j_int) j_int) (jg_nm 4 nd))
    (js_cons (js_asg (j_mod (j_callTy cr_int real_int (by rfl) T.n_int bb_int (j_acons (j_mulI (j_add (j_add (j_var 3) (j_sub' (j_var 0) j_int)) (j_div (j_sub' (j_var 0) j_int) j_int)) (j_var 4)) j_anil)) j_int) (jg_nm 5 nd))
    (js_one (js_ret (j_mod (j_callTy cr_int real_int (by rfl) T.n_int bb_int (j_acons (j_div (j_mod (j_callTy cr_int real_int (by rfl) T.n_int bb_int (j_acons (j_add (j_mulI (j_var 5) j_int) (j_var 3)) j_anil)) j_int) j_int) j_anil)) (j_var 1)))))))))
theorem ok_l_of (T : TF K mg) (R : RawD K mg "_law_of" s_l_of ["_law_box_here", "_law_goods_so"]) (O_l_take : OkD P w K mg base 1 "_law_take" ["_law_box_here", "_law_size_so"] F_l_take) : OkD P w K mg base 2 "_law_of" ["_law_box_here", "_law_goods_so"] F_l_of := by
  have nd := sc_l_of.nd
  refine okD (k := 1) (n := 2) (m := M_l_of) R sc_l_of rfl rfl fun _ cdv A outer s H E hr => ?_
  exact (js_one (js_ret (j_subP (j_var 1) (j_callD O_l_take (hr.mono (by decide)) (takes_of rfl rfl rfl rfl) (j_acons (j_var 0) (j_acons (j_callB cr_len real_len (by rfl) T.n_len bb_len (j_acons (j_var 1) j_anil)) j_anil))))))
theorem ok_l_bent (T : TF K mg) (R : RawD K mg "_law_bent" s_l_bent ["_law_box_here", "_law_told"]) (O_l_of : OkD P w K mg base 2 "_law_of" ["_law_box_here", "_law_goods_so"] F_l_of) (O_l_take : OkD P w K mg base 1 "_law_take" ["_law_box_here", "_law_size_so"] F_l_take) : OkD P w K mg base 3 "_law_bent" ["_law_box_here", "_law_told"] F_l_bent := by
  have nd := sc_l_bent.nd
  refine okD (k := 2) (n := 8) (m := M_l_bent) R sc_l_bent rfl rfl fun _ cdv A outer s H E hr => ?_
  exact (js_cons (js_asg (j_callD O_l_take (hr.mono (by decide)) (takes_of rfl rfl rfl rfl) (j_acons (j_var 0) (j_acons (j_callB cr_len real_len (by rfl) T.n_len bb_len (j_acons (j_var 1) j_anil)) j_anil))) (jg_nm 2 nd))
    (js_cons (js_asg (j_subP (j_var 1) (j_var 2)) (jg_tp rfl (jgs_cons (jg_nm 3 nd) (jgs_cons (jg_nm 4 nd) jgs_nil))))
    (js_cons (js_asg (j_subP (j_var 4) j_int) (jg_tp rfl (jgs_cons (jg_nm 5 nd) (jgs_cons (jg_nm 6 nd) jgs_nil))))
    (js_cons (js_asg (j_lst (j_acons (j_tup (j_acons (j_var 3) (j_acons (j_slice (j_var 4) (j_part j_int) j_noPart) j_anil))) j_anil)) (jg_nm 7 nd))
    (js_cons (js_asg (j_add (j_var 7) (j_lst (j_acons (j_tup (j_acons (j_var 3) (j_acons (j_add (j_tup (j_acons (j_tup (j_acons (j_var 5) (j_acons (j_tup (j_acons (j_mulI (j_subP (j_var 6) j_int) j_int) (j_acons (j_mulI (j_subP (j_var 6) j_int) j_int) j_anil))) j_anil))) j_anil)) (j_slice (j_var 4) (j_part j_int) j_noPart)) j_anil))) j_anil))) (jg_nm 7 nd))
    (js_cons (js_asg (j_add (j_var 7) (j_lst (j_acons (j_tup (j_acons (j_var 3) (j_acons (j_add (j_var 4) (j_tup (j_acons (j_tup (j_acons j_str (j_acons (j_tup (j_acons j_int (j_acons j_int j_anil))) j_anil))) j_anil))) j_anil))) (j_acons (j_tup (j_acons (j_var 3) (j_acons (j_callTy call_list_of real_list (by rfl) T.n_list bb_list (j_acons (j_var 4) j_anil)) j_anil))) j_anil)))) (jg_nm 7 nd))
    (js_cons (js_asg (j_add (j_var 7) (j_lst (j_acons (j_tup (j_acons (j_var 3) (j_acons (j_var 4) (j_acons j_int j_anil)))) j_anil))) (jg_nm 7 nd))
    (js_cons (js_asg (j_add (j_var 7) (j_lst (j_acons (j_tup (j_acons (j_var 3) (j_acons (j_add (j_tup (j_acons (j_tup (j_acons j_str (j_acons (j_var 6) j_anil))) j_anil)) (j_slice (j_var 4) (j_part j_int) j_noPart)) j_anil))) (j_acons (j_tup (j_acons (j_tup (j_acons j_int (j_acons j_int j_anil))) (j_acons (j_var 4) j_anil))) (j_acons (j_tup (j_acons (j_var 3) j_anil)) j_anil))))) (jg_nm 7 nd))
    (js_cons (js_asg (j_add (j_var 7) (j_lst (j_acons (j_lst (j_acons (j_var 3) (j_acons (j_var 4) j_anil))) j_anil))) (jg_nm 7 nd))
    (js_cons (js_if (jt_lt (j_var 2) (j_sub (j_callB cr_len real_len (by rfl) T.n_len bb_len (j_acons (j_var 1) j_anil)) j_int))
    (js_cons (js_asg (j_add (j_var 7) (j_lst (j_acons (j_tup (j_acons j_non (j_acons (j_var 4) j_anil))) (j_acons (j_tup (j_acons (j_var 3) (j_acons (j_subP (j_subP (j_var 1) (j_add (j_var 2) j_int)) j_int) j_anil))) j_anil)))) (jg_nm 7 nd))
    (js_one (js_asg (j_add (j_var 7) (j_lst (j_acons (j_tup (j_acons (j_tup (j_acons (j_mulI (j_subP (j_var 3) j_int) j_int) (j_acons (j_mulI (j_subP (j_var 3) j_int) j_int) j_anil))) (j_acons (j_var 4) j_anil))) j_anil))) (jg_nm 7 nd))))
    js_nil)
    (js_one (js_ret (j_add (j_add (j_slice (j_var 1) j_noPart (j_part (j_var 2))) (j_tup (j_acons (j_callD O_l_of (hr.mono (by decide)) (takes_of rfl rfl rfl rfl) (j_acons (j_var 0) (j_acons (j_var 7) j_anil))) j_anil))) (j_slice (j_var 1) (j_part (j_add (j_var 2) j_int)) j_noPart))))))))))))))
theorem ok_l_frac (T : TF K mg) (R : RawD K mg "_law_frac" s_l_frac ["_law_top_so", "_law_low_so"]) : OkD P w K mg base 1 "_law_frac" ["_law_top_so", "_law_low_so"] F_l_frac := by
  have nd := sc_l_frac.nd
  refine okD (k := 0) (n := 5) (m := M_l_frac) R sc_l_frac rfl rfl fun _ cdv A outer s H E hr => ?_
  exact (js_cons (js_par (i := 2) (j := 3) rfl nd (by decide) (j_acons (j_callB call_abs real_abs (by rfl) T.n_abs bb_abs (j_acons (j_var 0) j_anil)) (j_acons (j_callB call_abs real_abs (by rfl) T.n_abs bb_abs (j_acons (j_var 1) j_anil)) j_anil)))
    (js_cons (js_while 64 (passes_of rfl) (jt_ne hr (j_var 3) j_int)
    (js_one (js_par (i := 2) (j := 3) rfl nd (by decide) (j_acons (j_var 3) (j_acons (j_mod (j_var 2) (j_var 3)) j_anil)))))
    (js_cons (js_asg (j_ifExp (jt_gt (j_var 1) j_int) j_int (j_neg j_int)) (jg_nm 4 nd))
    (js_one (js_ret (j_tup (j_acons (j_div (j_mulI (j_var 4) (j_var 0)) (j_var 2)) (j_acons (j_div (j_mulI (j_var 4) (j_var 1)) (j_var 2)) j_anil))))))))
theorem ok_l_pick (T : TF K mg) (R : RawD K mg "_law_pick" s_l_pick ["_law_box_here", "_law_goods_so", "_law_count_so"]) (O_l_take : OkD P w K mg base 1 "_law_take" ["_law_box_here", "_law_size_so"] F_l_take) : OkD P w K mg base 2 "_law_pick" ["_law_box_here", "_law_goods_so", "_law_count_so"] F_l_pick := by
  have nd := sc_l_pick.nd
  refine okD (k := 1) (n := 6) (m := M_l_pick) R sc_l_pick rfl rfl fun _ cdv A outer s H E hr => ?_
  exact (js_cons (js_parN (i := 3) (j := 4) rfl nd (by decide) (jn_list (by rfl) T.n_list bb_list (j_acons (j_var 1) j_anil)) (jn_lst j_anil))
    (js_cons (js_for (passes_of rfl) rfl (j_range1 (by rfl) T.n_range (j_acons (j_callB (call_min2 rfl) real_min2 (by rfl) T.n_min bb_min (j_acons (j_callTy cr_int real_int (by rfl) T.n_int bb_int (j_acons (j_var 2) j_anil)) (j_acons (j_bor (j_callB cr_len real_len (by rfl) T.n_len bb_len (j_acons (j_var 3) j_anil))) j_anil))) j_anil)) (jg_nm 5 nd)
    (js_one (js_appPop 4 3 (j_callD O_l_take (hr.mono (by decide)) (takes_of rfl rfl rfl rfl) (j_acons (j_var 0) (j_acons (j_bor (j_callB cr_len real_len (by rfl) T.n_len bb_len (j_acons (j_var 3) j_anil))) j_anil))))))
    (js_one (js_frz allS (js_ret (j_var 4))))))
theorem ok_l_plus (T : TF K mg) (R : RawD K mg "_law_plus" s_l_plus ["_law_a_so", "_law_b_so"]) (O_l_frac : OkD P w K mg base 1 "_law_frac" ["_law_top_so", "_law_low_so"] F_l_frac) : OkD P w K mg base 2 "_law_plus" ["_law_a_so", "_law_b_so"] F_l_plus := by
  have nd := sc_l_plus.nd
  refine okD (k := 1) (n := 2) (m := M_l_plus) R sc_l_plus rfl rfl fun _ cdv A outer s H E hr => ?_
  exact (js_one (js_ret (j_callD O_l_frac (hr.mono (by decide)) (takes_of rfl rfl rfl rfl) (j_acons (j_add (j_mulI (j_subP (j_var 0) j_int) (j_subP (j_var 1) j_int)) (j_mulI (j_subP (j_var 1) j_int) (j_subP (j_var 0) j_int))) (j_acons (j_mulI (j_subP (j_var 0) j_int) (j_subP (j_var 1) j_int)) j_anil)))))
theorem ok_l_shares (T : TF K mg) (R : RawD K mg "_law_shares" s_l_shares ["_law_box_here", "_law_outlets_so"]) (O_l_frac : OkD P w K mg base 1 "_law_frac" ["_law_top_so", "_law_low_so"] F_l_frac) (O_l_take : OkD P w K mg base 1 "_law_take" ["_law_box_here", "_law_size_so"] F_l_take) (O_l_pick : OkD P w K mg base 2 "_law_pick" ["_law_box_here", "_law_goods_so", "_law_count_so"] F_l_pick) : OkD P w K mg base 3 "_law_shares" ["_law_box_here", "_law_outlets_so"] F_l_shares := by
  have nd := sc_l_shares.nd
  refine okD (k := 2) (n := 6) (m := M_l_shares) R sc_l_shares rfl rfl fun _ cdv A outer s H E hr => ?_
  exact (js_cons (js_asg (j_callB cr_sortedS real_sorted (by rfl) T.n_sorted bb_sorted (j_acons (j_callD O_l_pick (hr.mono (by decide)) (takes_of rfl rfl rfl rfl) (j_acons (j_var 0) (j_acons (j_var 1) (j_acons (j_add j_int (j_callD O_l_take (hr.mono (by decide)) (takes_of rfl rfl rfl rfl) (j_acons (j_var 0) (j_acons j_int j_anil)))) j_anil)))) j_anil)) (jg_nm 2 nd))
    (js_cons (js_asg (j_lc rfl nd (j_iter (j_var 2)) (blkOk_by (own := [("_law_own", 4)]) (N := ["_law_box_here", "_law_outlets_so", "_law_some_so", "_law_weights_so", "_law_own", "_law_much_so"]) (sc := defScope s_l_shares) (by decide +kernel)) (fun _ _ _ _ _ => (jg_nm 4 nd)) (fun _ _ _ _ _ => j_yes) (fun _ _ _ _ _ => (j_add j_int (j_callD O_l_take (hr.mono (by decide)) takes0 (j_acons (j_var 0) (j_acons j_int j_anil)))))) (jg_nm 3 nd))
    (js_one (js_ret (j_callTy call_tuple_of real_tuple (by rfl) T.n_tuple bb_tuple (j_acons (j_lc rfl nd (j_zip (by rfl) T.n_zip (j_acons (j_var 2) (j_acons (j_var 3) j_anil))) (blkOk_by (own := [("_law_own", 4), ("_law_much_so", 5)]) (N := ["_law_box_here", "_law_outlets_so", "_law_some_so", "_law_weights_so", "_law_own", "_law_much_so"]) (sc := defScope s_l_shares) (by decide +kernel)) (fun _ _ _ _ _ => (jg_tp rfl (jgs_cons (jg_nm 4 nd) (jgs_cons (jg_nm 5 nd) jgs_nil)))) (fun _ _ _ _ _ => j_yes) (fun _ _ _ _ _ => (j_tup (j_acons (j_var 4) (j_acons (j_callD O_l_frac (hr.mono (by decide)) takes0 (j_acons (j_var 5) (j_acons (j_callB (cr_sum rfl) real_sum (by rfl) T.n_sum bb_sum (j_acons (j_var 3) j_anil)) j_anil))) j_anil))))) j_anil))))))
theorem ok_l_table (T : TF K mg) (R : RawD K mg "_law_table" s_l_table ["_law_box_here", "_law_most_so"]) (O_l_take : OkD P w K mg base 1 "_law_take" ["_law_box_here", "_law_size_so"] F_l_take) (O_l_of : OkD P w K mg base 2 "_law_of" ["_law_box_here", "_law_goods_so"] F_l_of) (O_l_frac : OkD P w K mg base 1 "_law_frac" ["_law_top_so", "_law_low_so"] F_l_frac) (O_l_plus : OkD P w K mg base 2 "_law_plus" ["_law_a_so", "_law_b_so"] F_l_plus) (O_l_shares : OkD P w K mg base 3 "_law_shares" ["_law_box_here", "_law_outlets_so"] F_l_shares) (O_l_pick : OkD P w K mg base 2 "_law_pick" ["_law_box_here", "_law_goods_so", "_law_count_so"] F_l_pick) : OkD P w K mg base 4 "_law_table" ["_law_box_here", "_law_most_so"] F_l_table := by
  have nd := sc_l_table.nd
  refine okD (k := 3) (n := 7) (m := M_l_table) R sc_l_table rfl rfl fun _ cdv A outer s H E hr => ?_
  exact (js_cons (js_asg (j_callD O_l_pick (hr.mono (by decide)) (takes_of rfl rfl rfl rfl) (j_acons (j_var 0) (j_acons (j_lst (j_acons j_str (j_acons j_str (j_acons j_str (j_acons j_str (j_acons j_str j_anil)))))) (j_acons (j_add j_int (j_callD O_l_take (hr.mono (by decide)) (takes_of rfl rfl rfl rfl) (j_acons (j_var 0) (j_acons j_int j_anil)))) j_anil)))) (jg_nm 2 nd))
    (js_cons (js_parM (i := 3) (j := 4) rfl nd (by decide) (jn_lst j_anil) (j_tup (j_acons j_int (j_acons j_int j_anil))))
    (js_cons (js_for (passes_of rfl) rfl (j_range1 (by rfl) T.n_range (j_acons (j_add j_int (j_callD O_l_take (hr.mono (by decide)) (takes_of rfl rfl rfl rfl) (j_acons (j_var 0) (j_acons (j_var 1) j_anil)))) j_anil)) (jg_nm 5 nd)
    (js_cons (js_asg (j_callD O_l_shares (hr.mono (by decide)) (takes_of rfl rfl rfl rfl) (j_acons (j_var 0) (j_acons (j_var 2) j_anil))) (jg_nm 6 nd))
    (js_one (js_if (PW.pt (j_wor (j_borT (jt_eq hr (j_var 3) (j_lst j_anil))) (j_wor1 (jt_ne hr (j_subP (j_ixO 3 (j_neg j_int)) j_int) (j_var 6)))))
    (js_cons (js_asg (j_callD O_l_plus (hr.mono (by decide)) (takes_of rfl rfl rfl rfl) (j_acons (j_var 4) (j_acons (j_callD O_l_frac (hr.mono (by decide)) (takes_of rfl rfl rfl rfl) (j_acons (j_add j_int (j_callD O_l_take (hr.mono (by decide)) (takes_of rfl rfl rfl rfl) (j_acons (j_var 0) (j_acons j_int j_anil)))) (j_acons (j_callD O_l_of (hr.mono (by decide)) (takes_of rfl rfl rfl rfl) (j_acons (j_var 0) (j_acons (j_lst (j_acons j_int (j_acons j_int (j_acons j_int (j_acons j_int j_anil))))) j_anil))) j_anil))) j_anil))) (jg_nm 4 nd))
    (js_one (js_app 3 (j_tup (j_acons (j_var 4) (j_acons (j_var 6) j_anil))))))
    js_nil))))
    (js_cons (js_setI 3 (j_tup (j_acons j_non (j_acons (j_subP (j_ixO 3 (j_neg j_int)) j_int) j_anil))) (j_neg j_int))
    (js_one (js_frz allS (js_ret (j_callTy call_tuple_of real_tuple (by rfl) T.n_tuple bb_tuple (j_acons (j_var 3) j_anil)))))))))
theorem ok_l_right (T : TF K mg) (R : RawD K mg "_law_right" s_l_right ["_law_box_here"]) (O_is_shares : OkD P w K mg base 6 "is_shares" ["thing"] F_is_shares) (O_l_same : OkD P w K mg base 13 "_law_same" ["_law_got", "_law_due"] (F_l_same 12)) (O_is_table : OkD P w K mg base 8 "is_table" ["thing"] F_is_table) (O_l_bent : OkD P w K mg base 3 "_law_bent" ["_law_box_here", "_law_told"] F_l_bent) (O_l_table : OkD P w K mg base 4 "_law_table" ["_law_box_here", "_law_most_so"] F_l_table) : OkD P w K mg base 14 "_law_right" ["_law_box_here"] F_l_right := by
  have nd := sc_l_right.nd
  refine okD (k := 13) (n := 8) (m := M_l_right) R sc_l_right rfl rfl fun _ cdv A outer s H E hr => ?_
  exact (js_cons (js_for (passes_of rfl) rfl (j_range1 (by rfl) T.n_range (j_acons j_int j_anil)) (jg_nm 1 nd)
    (js_cons (js_asg (j_callD O_l_table (hr.mono (by decide)) (takes_of rfl rfl rfl rfl) (j_acons (j_var 0) (j_acons j_int j_anil))) (jg_nm 2 nd))
    (js_cons (js_setLc (i := 3) rfl nd rfl rfl (sw_true rfl rfl rfl (by decide +kernel)) (j_range1 (by rfl) T.n_range (j_acons j_int j_anil)) (blkOk_by (own := [("_law_lap", 6)]) (N := ["_law_box_here", "_law_turn", "_law_told", "_law_bent_here", "_law_got", "_law_due", "_law_lap", "_law_own"]) (sc := defScope s_l_right) (by decide +kernel)) (fun _ _ _ _ _ => (jg_nm 6 nd)) (fun _ _ _ _ _ => j_yes) (fun _ _ _ _ _ => (j_callD O_l_bent (hr.mono (by decide)) takes0 (j_acons (j_var 0) (j_acons (j_var 2) j_anil)))))
    (js_cons (js_asg (j_lst (j_acons (j_callD O_is_table (hr.mono (by decide)) (takes_of rfl rfl rfl rfl) (j_acons (j_var 2) j_anil)) (j_acons (j_callD O_is_table (hr.mono (by decide)) (takes_of rfl rfl rfl rfl) (j_acons (j_callTy call_list_of real_list (by rfl) T.n_list bb_list (j_acons (j_var 2) j_anil)) j_anil)) (j_acons (j_callD O_is_table (hr.mono (by decide)) (takes_of rfl rfl rfl rfl) (j_acons (j_slice (j_var 2) (j_part j_int) j_noPart) j_anil)) (j_acons (j_callD O_is_table (hr.mono (by decide)) (takes_of rfl rfl rfl rfl) (j_acons (j_slice (j_var 2) j_noPart (j_part (j_neg j_int))) j_anil)) j_anil))))) (jg_nm 4 nd))
    (js_cons (js_asg (j_lst (j_acons j_bl (j_acons j_bl (j_acons (j_gt (j_callB cr_len real_len (by rfl) T.n_len bb_len (j_acons (j_var 2) j_anil)) j_int) (j_acons j_bl j_anil))))) (jg_nm 5 nd))
    (js_cons (js_if (j_tnot (j_test (j_callD O_l_same (hr.mono (by decide)) (takes_of rfl rfl rfl rfl) (j_acons (j_add (j_var 4) (j_lc rfl nd (j_iter (j_var 3)) (blkOk_by (own := [("_law_own", 7)]) (N := ["_law_box_here", "_law_turn", "_law_told", "_law_bent_here", "_law_got", "_law_due", "_law_lap", "_law_own"]) (sc := defScope s_l_right) (by decide +kernel)) (fun _ _ _ _ _ => (jg_nm 7 nd)) (fun _ _ _ _ _ => j_yes) (fun _ _ _ _ _ => (j_callD O_is_table (hr.mono (by decide)) takes0 (j_acons (j_var 7) j_anil))))) (j_acons (j_add (j_var 5) (j_rep (j_lst (j_acons j_bl j_anil)) j_int)) j_anil)))))
    (js_one (js_ret j_bl))
    js_nil)
    (js_one (js_if (j_tnot (j_test (j_callD O_l_same (hr.mono (by decide)) (takes_of rfl rfl rfl rfl) (j_acons (j_lc rfl nd (j_iter (j_var 2)) (blkOk_by (own := [("_law_own", 7)]) (N := ["_law_box_here", "_law_turn", "_law_told", "_law_bent_here", "_law_got", "_law_due", "_law_lap", "_law_own"]) (sc := defScope s_l_right) (by decide +kernel)) (fun _ _ _ _ _ => (jg_nm 7 nd)) (fun _ _ _ _ _ => j_yes) (fun _ _ _ _ _ => (j_callD O_is_shares (hr.mono (by decide)) takes0 (j_acons (j_subP (j_var 7) j_int) j_anil)))) (j_acons (j_rep (j_lst (j_acons j_bl j_anil)) (j_callB cr_len real_len (by rfl) T.n_len bb_len (j_acons (j_var 2) j_anil))) j_anil)))))
    (js_one (js_ret j_bl))
    js_nil))))))))
    (js_one (js_ret j_bl)))
theorem ok_law (T : TF K mg) {fd : FuncData} (F : Fun K "law" "law" s_law (He.ga K "law") fd) (O_l_box : OkN P w K mg base 1 "_law_box" ["_law_script", "_law_k"] F_l_box) (O_l_right : OkD P w K mg base 14 "_law_right" ["_law_box_here"] F_l_right) (O_l_by_hand_right : OkD P w K mg base 14 "_law_by_hand_right" [] F_l_by_hand_right) (O_l_cells : OkD P w K mg base 1 "_law_cells" ["_law_script", "_law_top_so"] F_l_cells) : FnOk P w K mg base (L2.CX P w) 15 (He.ga K "law") fd ["_law_script"] (spM K 1 F_law) := by
  have nd := sc_law.nd
  exact def_ok (k := 14) (m := M_law) F sc_law fun cdv A outer s H E hr =>
    (js_cons (js_asg (j_callD O_l_cells (hr.mono (by decide)) (takes_of rfl rfl rfl rfl) (j_acons (j_var 0) (j_acons j_int j_anil))) (jg_nm 1 nd))
    (js_cons (js_if (j_tnot (j_test (j_call0 O_l_by_hand_right (hr.mono (by decide)))))
    (js_one (js_ret j_bl))
    js_nil)
    (js_one (js_ret (j_callB (cr_all rfl) real_all (by rfl) T.n_all bb_all (j_acons (j_lc rfl nd (j_range1 (by rfl) T.n_range (j_acons (j_callB cr_len real_len (by rfl) T.n_len bb_len (j_acons (j_var 1) j_anil)) j_anil)) (blkOk_by (own := [("_law_k", 2)]) (N := ["_law_script", "_law_cells_so", "_law_k"]) (sc := defScope s_law) (by decide +kernel)) (fun _ _ _ _ _ => (jg_nm 2 nd)) (fun _ _ _ _ _ => j_yes) (fun _ _ _ _ _ => (j_callB' O_l_right (hr.mono (by decide)) (j_callN O_l_box (hr.mono (by decide)) (j_acons (j_var 1) (j_acons (j_var 2) j_anil)))))) j_anil))))))
/-! ### all of them -/
theorem ok_all (T : TF K mg) (R_l_box : RawD K mg "_law_box" s_l_box ["_law_script", "_law_k"]) (R_l_same : RawD K mg "_law_same" s_l_same ["_law_got", "_law_due"]) (R_p_come_to_one : RawD K mg "_come_to_one" s_p_come_to_one ["shares"]) (R_is_name : RawD K mg "is_name" s_is_name ["thing"]) (R_is_number : RawD K mg "is_number" s_is_number ["thing"]) (R_is_fraction : RawD K mg "is_fraction" s_is_fraction ["thing"]) (R_is_amount : RawD K mg "is_amount" s_is_amount ["thing"]) (R_is_share : RawD K mg "is_share" s_is_share ["thing"]) (R_p_is_pair : RawD K mg "_is_pair" s_p_is_pair ["thing"]) (R_is_shares : RawD K mg "is_shares" s_is_shares ["thing"]) (R_p_is_layer : RawD K mg "_is_layer" s_p_is_layer ["thing"]) (R_is_less : RawD K mg "is_less" s_is_less ["one", "other"]) (R_united : RawD K mg "united" s_united ["steps"]) (R_is_table : RawD K mg "is_table" s_is_table ["thing"]) (R_l_by_hand_right : RawD K mg "_law_by_hand_right" s_l_by_hand_right []) (R_l_cells : RawD K mg "_law_cells" s_l_cells ["_law_script", "_law_top_so"]) (R_l_take : RawD K mg "_law_take" s_l_take ["_law_box_here", "_law_size_so"]) (R_l_of : RawD K mg "_law_of" s_l_of ["_law_box_here", "_law_goods_so"]) (R_l_bent : RawD K mg "_law_bent" s_l_bent ["_law_box_here", "_law_told"]) (R_l_frac : RawD K mg "_law_frac" s_l_frac ["_law_top_so", "_law_low_so"]) (R_l_pick : RawD K mg "_law_pick" s_l_pick ["_law_box_here", "_law_goods_so", "_law_count_so"]) (R_l_plus : RawD K mg "_law_plus" s_l_plus ["_law_a_so", "_law_b_so"]) (R_l_shares : RawD K mg "_law_shares" s_l_shares ["_law_box_here", "_law_outlets_so"]) (R_l_table : RawD K mg "_law_table" s_l_table ["_law_box_here", "_law_most_so"]) (R_l_right : RawD K mg "_law_right" s_l_right ["_law_box_here"]) {fd : FuncData} (F : Fun K "law" "law" s_law (He.ga K "law") fd) : FnOk P w K mg base (L2.CX P w) 15 (He.ga K "law") fd ["_law_script"] (spM K 1 F_law) := by
  have O_l_box := ok_l_box (P := P) (w := w) (base := base) T R_l_box
  have O_l_same := ok_l_same (P := P) (w := w) (base := base) T R_l_same 12
  have O_p_come_to_one := ok_p_come_to_one (P := P) (w := w) (base := base) T R_p_come_to_one
  have O_is_name := ok_is_name (P := P) (w := w) (base := base) T R_is_name
  have O_is_number := ok_is_number (P := P) (w := w) (base := base) T R_is_number
  have O_is_fraction := ok_is_fraction (P := P) (w := w) (base := base) T R_is_fraction O_is_number
  have O_is_amount := ok_is_amount (P := P) (w := w) (base := base) T R_is_amount O_is_fraction
  have O_is_share := ok_is_share (P := P) (w := w) (base := base) T R_is_share O_is_amount
  have O_p_is_pair := ok_p_is_pair (P := P) (w := w) (base := base) T R_p_is_pair O_is_share O_is_name
  have O_is_shares := ok_is_shares (P := P) (w := w) (base := base) T R_is_shares O_p_come_to_one O_p_is_pair
  have O_p_is_layer := ok_p_is_layer (P := P) (w := w) (base := base) T R_p_is_layer O_is_shares O_is_amount
  have O_is_less := ok_is_less (P := P) (w := w) (base := base) T R_is_less
  have O_united := ok_united (P := P) (w := w) (base := base) T R_united
  have O_is_table := ok_is_table (P := P) (w := w) (base := base) T R_is_table O_united O_is_less O_p_is_layer
  have O_l_by_hand_right := ok_l_by_hand_right (P := P) (w := w) (base := base) T R_l_by_hand_right O_l_same O_is_shares O_is_table
  have O_l_cells := ok_l_cells (P := P) (w := w) (base := base) T R_l_cells
  have O_l_take := ok_l_take (P := P) (w := w) (base := base) T R_l_take
  have O_l_of := ok_l_of (P := P) (w := w) (base := base) T R_l_of O_l_take
  have O_l_bent := ok_l_bent (P := P) (w := w) (base := base) T R_l_bent O_l_of O_l_take
  have O_l_frac := ok_l_frac (P := P) (w := w) (base := base) T R_l_frac
  have O_l_pick := ok_l_pick (P := P) (w := w) (base := base) T R_l_pick O_l_take
  have O_l_plus := ok_l_plus (P := P) (w := w) (base := base) T R_l_plus O_l_frac
  have O_l_shares := ok_l_shares (P := P) (w := w) (base := base) T R_l_shares O_l_frac O_l_take O_l_pick
  have O_l_table := ok_l_table (P := P) (w := w) (base := base) T R_l_table O_l_take O_l_of O_l_frac O_l_plus O_l_shares O_l_pick
  have O_l_right := ok_l_right (P := P) (w := w) (base := base) T R_l_right O_is_shares O_l_same O_is_table O_l_bent O_l_table
  have O_law := ok_law (P := P) (w := w) (base := base) T F O_l_box O_l_right O_l_by_hand_right O_l_cells
  exact O_law
end
end GG

namespace GG
open PySem PySem.Spec L2 Mi
theorem pu_l_same : ∀ n, PuF (F_l_same n)
  | 0 => pu_never
  | n + 1 => by
    have pu_me := pu_l_same n
    refine pu_mirror (m := M_l_same (F_l_same n)) ?_
    unfold M_l_same
    repeat' (first
      | with_reducible exact pu_var
      | with_reducible exact pu_c
      | with_reducible exact pu_nil
      | with_reducible exact pu_yes
      | with_reducible exact pu_noPart
      | with_reducible exact pu_next
      | with_reducible exact pu_o1
      | with_reducible exact pu_oB
      | with_reducible assumption
      | with_reducible refine pu_cons ?_ ?_
      | with_reducible refine pu_op (fun _ _ => pu_o1) ?_ ?_
      | with_reducible refine pu_call ?_
      | with_reducible refine pu_def ?_ ?_
      | with_reducible refine pu_seq ?_ ?_
      | with_reducible refine pu_asg ?_
      | with_reducible refine pu_ret ?_
      | with_reducible refine pu_tup ?_
      | with_reducible refine pu_lst ?_
      | with_reducible refine pu_lstN ?_
      | with_reducible refine pu_lc ?_ ?_ ?_
      | with_reducible refine pu_iter ?_
      | with_reducible refine pu_ifS ?_ ?_ ?_
      | with_reducible refine pu_tst ?_
      | with_reducible refine pu_tru ?_
      | with_reducible refine pu_andV ?_ ?_
      | with_reducible refine pu_orV ?_ ?_
      | with_reducible refine pu_notV ?_
      | with_reducible refine pu_isi ?_
      | with_reducible refine pu_isi2 ?_
      | with_reducible refine pu_tnot ?_
      | with_reducible refine pu_tor ?_ ?_
      | with_reducible refine pu_tand ?_ ?_
      | with_reducible refine pu_m0 ?_
      | with_reducible refine pu_m1 ?_ ?_
      | with_reducible refine pu_part ?_
      | with_reducible refine pu_slice ?_ ?_ ?_
      | with_reducible refine pu_mIf ?_ ?_ ?_
      | with_reducible refine pu_def0 ?_ ?_
      | with_reducible refine pu_fmt ?_
      | with_reducible refine pu_bor ?_
      | with_reducible refine pu_raise ?_
      | with_reducible refine pu_for ?_ ?_
      | with_reducible refine pu_setI ?_ ?_
      | with_reducible refine pu_par ?_
      | with_reducible refine pu_app ?_
      | with_reducible refine pu_splitN ?_ ?_
      | with_reducible refine pu_eo ?_
      | with_reducible refine pu_frz ?_
      | with_reducible refine pu_erF ?_
      | with_reducible refine pu_isE ?_
      | with_reducible refine pu_fn ?_ ?_ ?_
      | with_reducible exact puT_nil
      | with_reducible refine puT_cons ?_ ?_
      | with_reducible refine pu_try ?_ ?_
      | with_reducible refine pu_J _ _ (allM_cons ?_ ?_)
      | with_reducible exact allM_nil
      | with_reducible refine allM_cons ?_ ?_
      | with_reducible exact pu_pop
      | with_reducible refine pu_ixO ?_
      | with_reducible refine pu_while ?_ ?_ _
      | with_reducible refine Pu.bind ?_ (fun _ => pu_o1)
      | with_reducible refine Pu.bind ?_ (fun _ => pu_oB))
theorem pu_p_come_to_one : PuF F_p_come_to_one := by
  refine pu_mirror ?_
  unfold M_p_come_to_one
  repeat' (first
    | with_reducible exact pu_var
    | with_reducible exact pu_c
    | with_reducible exact pu_nil
    | with_reducible exact pu_yes
    | with_reducible exact pu_noPart
    | with_reducible exact pu_next
    | with_reducible exact pu_o1
    | with_reducible exact pu_oB
    | with_reducible assumption
    | with_reducible refine pu_cons ?_ ?_
    | with_reducible refine pu_op (fun _ _ => pu_o1) ?_ ?_
    | with_reducible refine pu_call ?_
    | with_reducible refine pu_def ?_ ?_
    | with_reducible refine pu_seq ?_ ?_
    | with_reducible refine pu_asg ?_
    | with_reducible refine pu_ret ?_
    | with_reducible refine pu_tup ?_
    | with_reducible refine pu_lst ?_
    | with_reducible refine pu_lstN ?_
    | with_reducible refine pu_lc ?_ ?_ ?_
    | with_reducible refine pu_iter ?_
    | with_reducible refine pu_ifS ?_ ?_ ?_
    | with_reducible refine pu_tst ?_
    | with_reducible refine pu_tru ?_
    | with_reducible refine pu_andV ?_ ?_
    | with_reducible refine pu_orV ?_ ?_
    | with_reducible refine pu_notV ?_
    | with_reducible refine pu_isi ?_
    | with_reducible refine pu_isi2 ?_
    | with_reducible refine pu_tnot ?_
    | with_reducible refine pu_tor ?_ ?_
    | with_reducible refine pu_tand ?_ ?_
    | with_reducible refine pu_m0 ?_
    | with_reducible refine pu_m1 ?_ ?_
    | with_reducible refine pu_part ?_
    | with_reducible refine pu_slice ?_ ?_ ?_
    | with_reducible refine pu_mIf ?_ ?_ ?_
    | with_reducible refine pu_def0 ?_ ?_
    | with_reducible refine pu_fmt ?_
    | with_reducible refine pu_bor ?_
    | with_reducible refine pu_raise ?_
    | with_reducible refine pu_for ?_ ?_
    | with_reducible refine pu_setI ?_ ?_
    | with_reducible refine pu_par ?_
    | with_reducible refine pu_app ?_
    | with_reducible refine pu_splitN ?_ ?_
    | with_reducible refine pu_eo ?_
    | with_reducible refine pu_frz ?_
    | with_reducible refine pu_erF ?_
    | with_reducible refine pu_isE ?_
    | with_reducible refine pu_fn ?_ ?_ ?_
    | with_reducible exact puT_nil
    | with_reducible refine puT_cons ?_ ?_
    | with_reducible refine pu_try ?_ ?_
    | with_reducible refine pu_J _ _ (allM_cons ?_ ?_)
    | with_reducible exact allM_nil
    | with_reducible refine allM_cons ?_ ?_
    | with_reducible exact pu_pop
    | with_reducible refine pu_ixO ?_
    | with_reducible refine pu_while ?_ ?_ _
    | with_reducible refine Pu.bind ?_ (fun _ => pu_o1)
    | with_reducible refine Pu.bind ?_ (fun _ => pu_oB))
theorem pu_is_name : PuF F_is_name := by
  refine pu_mirror ?_
  unfold M_is_name
  repeat' (first
    | with_reducible exact pu_var
    | with_reducible exact pu_c
    | with_reducible exact pu_nil
    | with_reducible exact pu_yes
    | with_reducible exact pu_noPart
    | with_reducible exact pu_next
    | with_reducible exact pu_o1
    | with_reducible exact pu_oB
    | with_reducible assumption
    | with_reducible refine pu_cons ?_ ?_
    | with_reducible refine pu_op (fun _ _ => pu_o1) ?_ ?_
    | with_reducible refine pu_call ?_
    | with_reducible refine pu_def ?_ ?_
    | with_reducible refine pu_seq ?_ ?_
    | with_reducible refine pu_asg ?_
    | with_reducible refine pu_ret ?_
    | with_reducible refine pu_tup ?_
    | with_reducible refine pu_lst ?_
    | with_reducible refine pu_lstN ?_
    | with_reducible refine pu_lc ?_ ?_ ?_
    | with_reducible refine pu_iter ?_
    | with_reducible refine pu_ifS ?_ ?_ ?_
    | with_reducible refine pu_tst ?_
    | with_reducible refine pu_tru ?_
    | with_reducible refine pu_andV ?_ ?_
    | with_reducible refine pu_orV ?_ ?_
    | with_reducible refine pu_notV ?_
    | with_reducible refine pu_isi ?_
    | with_reducible refine pu_isi2 ?_
    | with_reducible refine pu_tnot ?_
    | with_reducible refine pu_tor ?_ ?_
    | with_reducible refine pu_tand ?_ ?_
    | with_reducible refine pu_m0 ?_
    | with_reducible refine pu_m1 ?_ ?_
    | with_reducible refine pu_part ?_
    | with_reducible refine pu_slice ?_ ?_ ?_
    | with_reducible refine pu_mIf ?_ ?_ ?_
    | with_reducible refine pu_def0 ?_ ?_
    | with_reducible refine pu_fmt ?_
    | with_reducible refine pu_bor ?_
    | with_reducible refine pu_raise ?_
    | with_reducible refine pu_for ?_ ?_
    | with_reducible refine pu_setI ?_ ?_
    | with_reducible refine pu_par ?_
    | with_reducible refine pu_app ?_
    | with_reducible refine pu_splitN ?_ ?_
    | with_reducible refine pu_eo ?_
    | with_reducible refine pu_frz ?_
    | with_reducible refine pu_erF ?_
    | with_reducible refine pu_isE ?_
    | with_reducible refine pu_fn ?_ ?_ ?_
    | with_reducible exact puT_nil
    | with_reducible refine puT_cons ?_ ?_
    | with_reducible refine pu_try ?_ ?_
    | with_reducible refine pu_J _ _ (allM_cons ?_ ?_)
    | with_reducible exact allM_nil
    | with_reducible refine allM_cons ?_ ?_
    | with_reducible exact pu_pop
    | with_reducible refine pu_ixO ?_
    | with_reducible refine pu_while ?_ ?_ _
    | with_reducible refine Pu.bind ?_ (fun _ => pu_o1)
    | with_reducible refine Pu.bind ?_ (fun _ => pu_oB))
theorem pu_is_number : PuF F_is_number := by
  refine pu_mirror ?_
  unfold M_is_number
  repeat' (first
    | with_reducible exact pu_var
    | with_reducible exact pu_c
    | with_reducible exact pu_nil
    | with_reducible exact pu_yes
    | with_reducible exact pu_noPart
    | with_reducible exact pu_next
    | with_reducible exact pu_o1
    | with_reducible exact pu_oB
    | with_reducible assumption
    | with_reducible refine pu_cons ?_ ?_
    | with_reducible refine pu_op (fun _ _ => pu_o1) ?_ ?_
    | with_reducible refine pu_call ?_
    | with_reducible refine pu_def ?_ ?_
    | with_reducible refine pu_seq ?_ ?_
    | with_reducible refine pu_asg ?_
    | with_reducible refine pu_ret ?_
    | with_reducible refine pu_tup ?_
    | with_reducible refine pu_lst ?_
    | with_reducible refine pu_lstN ?_
    | with_reducible refine pu_lc ?_ ?_ ?_
    | with_reducible refine pu_iter ?_
    | with_reducible refine pu_ifS ?_ ?_ ?_
    | with_reducible refine pu_tst ?_
    | with_reducible refine pu_tru ?_
    | with_reducible refine pu_andV ?_ ?_
    | with_reducible refine pu_orV ?_ ?_
    | with_reducible refine pu_notV ?_
    | with_reducible refine pu_isi ?_
    | with_reducible refine pu_isi2 ?_
    | with_reducible refine pu_tnot ?_
    | with_reducible refine pu_tor ?_ ?_
    | with_reducible refine pu_tand ?_ ?_
    | with_reducible refine pu_m0 ?_
    | with_reducible refine pu_m1 ?_ ?_
    | with_reducible refine pu_part ?_
    | with_reducible refine pu_slice ?_ ?_ ?_
    | with_reducible refine pu_mIf ?_ ?_ ?_
    | with_reducible refine pu_def0 ?_ ?_
    | with_reducible refine pu_fmt ?_
    | with_reducible refine pu_bor ?_
    | with_reducible refine pu_raise ?_
    | with_reducible refine pu_for ?_ ?_
    | with_reducible refine pu_setI ?_ ?_
    | with_reducible refine pu_par ?_
    | with_reducible refine pu_app ?_
    | with_reducible refine pu_splitN ?_ ?_
    | with_reducible refine pu_eo ?_
    | with_reducible refine pu_frz ?_
    | with_reducible refine pu_erF ?_
    | with_reducible refine pu_isE ?_
    | with_reducible refine pu_fn ?_ ?_ ?_
    | with_reducible exact puT_nil
    | with_reducible refine puT_cons ?_ ?_
    | with_reducible refine pu_try ?_ ?_
    | with_reducible refine pu_J _ _ (allM_cons ?_ ?_)
    | with_reducible exact allM_nil
    | with_reducible refine allM_cons ?_ ?_
    | with_reducible exact pu_pop
    | with_reducible refine pu_ixO ?_
    | with_reducible refine pu_while ?_ ?_ _
    | with_reducible refine Pu.bind ?_ (fun _ => pu_o1)
    | with_reducible refine Pu.bind ?_ (fun _ => pu_oB))
theorem pu_is_fraction : PuF F_is_fraction := by
  have pu_is_number_ := pu_is_number
  refine pu_mirror ?_
  unfold M_is_fraction
  repeat' (first
    | with_reducible exact pu_var
    | with_reducible exact pu_c
    | with_reducible exact pu_nil
    | with_reducible exact pu_yes
    | with_reducible exact pu_noPart
    | with_reducible exact pu_next
    | with_reducible exact pu_o1
    | with_reducible exact pu_oB
    | with_reducible assumption
    | with_reducible refine pu_cons ?_ ?_
    | with_reducible refine pu_op (fun _ _ => pu_o1) ?_ ?_
    | with_reducible refine pu_call ?_
    | with_reducible refine pu_def ?_ ?_
    | with_reducible refine pu_seq ?_ ?_
    | with_reducible refine pu_asg ?_
    | with_reducible refine pu_ret ?_
    | with_reducible refine pu_tup ?_
    | with_reducible refine pu_lst ?_
    | with_reducible refine pu_lstN ?_
    | with_reducible refine pu_lc ?_ ?_ ?_
    | with_reducible refine pu_iter ?_
    | with_reducible refine pu_ifS ?_ ?_ ?_
    | with_reducible refine pu_tst ?_
    | with_reducible refine pu_tru ?_
    | with_reducible refine pu_andV ?_ ?_
    | with_reducible refine pu_orV ?_ ?_
    | with_reducible refine pu_notV ?_
    | with_reducible refine pu_isi ?_
    | with_reducible refine pu_isi2 ?_
    | with_reducible refine pu_tnot ?_
    | with_reducible refine pu_tor ?_ ?_
    | with_reducible refine pu_tand ?_ ?_
    | with_reducible refine pu_m0 ?_
    | with_reducible refine pu_m1 ?_ ?_
    | with_reducible refine pu_part ?_
    | with_reducible refine pu_slice ?_ ?_ ?_
    | with_reducible refine pu_mIf ?_ ?_ ?_
    | with_reducible refine pu_def0 ?_ ?_
    | with_reducible refine pu_fmt ?_
    | with_reducible refine pu_bor ?_
    | with_reducible refine pu_raise ?_
    | with_reducible refine pu_for ?_ ?_
    | with_reducible refine pu_setI ?_ ?_
    | with_reducible refine pu_par ?_
    | with_reducible refine pu_app ?_
    | with_reducible refine pu_splitN ?_ ?_
    | with_reducible refine pu_eo ?_
    | with_reducible refine pu_frz ?_
    | with_reducible refine pu_erF ?_
    | with_reducible refine pu_isE ?_
    | with_reducible refine pu_fn ?_ ?_ ?_
    | with_reducible exact puT_nil
    | with_reducible refine puT_cons ?_ ?_
    | with_reducible refine pu_try ?_ ?_
    | with_reducible refine pu_J _ _ (allM_cons ?_ ?_)
    | with_reducible exact allM_nil
    | with_reducible refine allM_cons ?_ ?_
    | with_reducible exact pu_pop
    | with_reducible refine pu_ixO ?_
    | with_reducible refine pu_while ?_ ?_ _
    | with_reducible refine Pu.bind ?_ (fun _ => pu_o1)
    | with_reducible refine Pu.bind ?_ (fun _ => pu_oB))
theorem pu_is_amount : PuF F_is_amount := by
  have pu_is_fraction_ := pu_is_fraction
  refine pu_mirror ?_
  unfold M_is_amount
  repeat' (first
    | with_reducible exact pu_var
    | with_reducible exact pu_c
    | with_reducible exact pu_nil
    | with_reducible exact pu_yes
    | with_reducible exact pu_noPart
    | with_reducible exact pu_next
    | with_reducible exact pu_o1
    | with_reducible exact pu_oB
    | with_reducible assumption
    | with_reducible refine pu_cons ?_ ?_
    | with_reducible refine pu_op (fun _ _ => pu_o1) ?_ ?_
    | with_reducible refine pu_call ?_
    | with_reducible refine pu_def ?_ ?_
    | with_reducible refine pu_seq ?_ ?_
    | with_reducible refine pu_asg ?_
    | with_reducible refine pu_ret ?_
    | with_reducible refine pu_tup ?_
    | with_reducible refine pu_lst ?_
    | with_reducible refine pu_lstN ?_
    | with_reducible refine pu_lc ?_ ?_ ?_
    | with_reducible refine pu_iter ?_
    | with_reducible refine pu_ifS ?_ ?_ ?_
    | with_reducible refine pu_tst ?_
    | with_reducible refine pu_tru ?_
    | with_reducible refine pu_andV ?_ ?_
    | with_reducible refine pu_orV ?_ ?_
    | with_reducible refine pu_notV ?_
    | with_reducible refine pu_isi ?_
    | with_reducible refine pu_isi2 ?_
    | with_reducible refine pu_tnot ?_
    | with_reducible refine pu_tor ?_ ?_
    | with_reducible refine pu_tand ?_ ?_
    | with_reducible refine pu_m0 ?_
    | with_reducible refine pu_m1 ?_ ?_
    | with_reducible refine pu_part ?_
    | with_reducible refine pu_slice ?_ ?_ ?_
    | with_reducible refine pu_mIf ?_ ?_ ?_
    | with_reducible refine pu_def0 ?_ ?_
    | with_reducible refine pu_fmt ?_
    | with_reducible refine pu_bor ?_
    | with_reducible refine pu_raise ?_
    | with_reducible refine pu_for ?_ ?_
    | with_reducible refine pu_setI ?_ ?_
    | with_reducible refine pu_par ?_
    | with_reducible refine pu_app ?_
    | with_reducible refine pu_splitN ?_ ?_
    | with_reducible refine pu_eo ?_
    | with_reducible refine pu_frz ?_
    | with_reducible refine pu_erF ?_
    | with_reducible refine pu_isE ?_
    | with_reducible refine pu_fn ?_ ?_ ?_
    | with_reducible exact puT_nil
    | with_reducible refine puT_cons ?_ ?_
    | with_reducible refine pu_try ?_ ?_
    | with_reducible refine pu_J _ _ (allM_cons ?_ ?_)
    | with_reducible exact allM_nil
    | with_reducible refine allM_cons ?_ ?_
    | with_reducible exact pu_pop
    | with_reducible refine pu_ixO ?_
    | with_reducible refine pu_while ?_ ?_ _
    | with_reducible refine Pu.bind ?_ (fun _ => pu_o1)
    | with_reducible refine Pu.bind ?_ (fun _ => pu_oB))
theorem pu_is_share : PuF F_is_share := by
  have pu_is_amount_ := pu_is_amount
  refine pu_mirror ?_
  unfold M_is_share
  repeat' (first
    | with_reducible exact pu_var
    | with_reducible exact pu_c
    | with_reducible exact pu_nil
    | with_reducible exact pu_yes
    | with_reducible exact pu_noPart
    | with_reducible exact pu_next
    | with_reducible exact pu_o1
    | with_reducible exact pu_oB
    | with_reducible assumption
    | with_reducible refine pu_cons ?_ ?_
    | with_reducible refine pu_op (fun _ _ => pu_o1) ?_ ?_
    | with_reducible refine pu_call ?_
    | with_reducible refine pu_def ?_ ?_
    | with_reducible refine pu_seq ?_ ?_
    | with_reducible refine pu_asg ?_
    | with_reducible refine pu_ret ?_
    | with_reducible refine pu_tup ?_
    | with_reducible refine pu_lst ?_
    | with_reducible refine pu_lstN ?_
    | with_reducible refine pu_lc ?_ ?_ ?_
    | with_reducible refine pu_iter ?_
    | with_reducible refine pu_ifS ?_ ?_ ?_
    | with_reducible refine pu_tst ?_
    | with_reducible refine pu_tru ?_
    | with_reducible refine pu_andV ?_ ?_
    | with_reducible refine pu_orV ?_ ?_
    | with_reducible refine pu_notV ?_
    | with_reducible refine pu_isi ?_
    | with_reducible refine pu_isi2 ?_
    | with_reducible refine pu_tnot ?_
    | with_reducible refine pu_tor ?_ ?_
    | with_reducible refine pu_tand ?_ ?_
    | with_reducible refine pu_m0 ?_
    | with_reducible refine pu_m1 ?_ ?_
    | with_reducible refine pu_part ?_
    | with_reducible refine pu_slice ?_ ?_ ?_
    | with_reducible refine pu_mIf ?_ ?_ ?_
    | with_reducible refine pu_def0 ?_ ?_
    | with_reducible refine pu_fmt ?_
    | with_reducible refine pu_bor ?_
    | with_reducible refine pu_raise ?_
    | with_reducible refine pu_for ?_ ?_
    | with_reducible refine pu_setI ?_ ?_
    | with_reducible refine pu_par ?_
    | with_reducible refine pu_app ?_
    | with_reducible refine pu_splitN ?_ ?_
    | with_reducible refine pu_eo ?_
    | with_reducible refine pu_frz ?_
    | with_reducible refine pu_erF ?_
    | with_reducible refine pu_isE ?_
    | with_reducible refine pu_fn ?_ ?_ ?_
    | with_reducible exact puT_nil
    | with_reducible refine puT_cons ?_ ?_
    | with_reducible refine pu_try ?_ ?_
    | with_reducible refine pu_J _ _ (allM_cons ?_ ?_)
    | with_reducible exact allM_nil
    | with_reducible refine allM_cons ?_ ?_
    | with_reducible exact pu_pop
    | with_reducible refine pu_ixO ?_
    | with_reducible refine pu_while ?_ ?_ _
    | with_reducible refine Pu.bind ?_ (fun _ => pu_o1)
    | with_reducible refine Pu.bind ?_ (fun _ => pu_oB))
theorem pu_p_is_pair : PuF F_p_is_pair := by
  have pu_is_share_ := pu_is_share
  have pu_is_name_ := pu_is_name
  refine pu_mirror ?_
  unfold M_p_is_pair
  repeat' (first
    | with_reducible exact pu_var
    | with_reducible exact pu_c
    | with_reducible exact pu_nil
    | with_reducible exact pu_yes
    | with_reducible exact pu_noPart
    | with_reducible exact pu_next
    | with_reducible exact pu_o1
    | with_reducible exact pu_oB
    | with_reducible assumption
    | with_reducible refine pu_cons ?_ ?_
    | with_reducible refine pu_op (fun _ _ => pu_o1) ?_ ?_
    | with_reducible refine pu_call ?_
    | with_reducible refine pu_def ?_ ?_
    | with_reducible refine pu_seq ?_ ?_
    | with_reducible refine pu_asg ?_
    | with_reducible refine pu_ret ?_
    | with_reducible refine pu_tup ?_
    | with_reducible refine pu_lst ?_
    | with_reducible refine pu_lstN ?_
    | with_reducible refine pu_lc ?_ ?_ ?_
    | with_reducible refine pu_iter ?_
    | with_reducible refine pu_ifS ?_ ?_ ?_
    | with_reducible refine pu_tst ?_
    | with_reducible refine pu_tru ?_
    | with_reducible refine pu_andV ?_ ?_
    | with_reducible refine pu_orV ?_ ?_
    | with_reducible refine pu_notV ?_
    | with_reducible refine pu_isi ?_
    | with_reducible refine pu_isi2 ?_
    | with_reducible refine pu_tnot ?_
    | with_reducible refine pu_tor ?_ ?_
    | with_reducible refine pu_tand ?_ ?_
    | with_reducible refine pu_m0 ?_
    | with_reducible refine pu_m1 ?_ ?_
    | with_reducible refine pu_part ?_
    | with_reducible refine pu_slice ?_ ?_ ?_
    | with_reducible refine pu_mIf ?_ ?_ ?_
    | with_reducible refine pu_def0 ?_ ?_
    | with_reducible refine pu_fmt ?_
    | with_reducible refine pu_bor ?_
    | with_reducible refine pu_raise ?_
    | with_reducible refine pu_for ?_ ?_
    | with_reducible refine pu_setI ?_ ?_
    | with_reducible refine pu_par ?_
    | with_reducible refine pu_app ?_
    | with_reducible refine pu_splitN ?_ ?_
    | with_reducible refine pu_eo ?_
    | with_reducible refine pu_frz ?_
    | with_reducible refine pu_erF ?_
    | with_reducible refine pu_isE ?_
    | with_reducible refine pu_fn ?_ ?_ ?_
    | with_reducible exact puT_nil
    | with_reducible refine puT_cons ?_ ?_
    | with_reducible refine pu_try ?_ ?_
    | with_reducible refine pu_J _ _ (allM_cons ?_ ?_)
    | with_reducible exact allM_nil
    | with_reducible refine allM_cons ?_ ?_
    | with_reducible exact pu_pop
    | with_reducible refine pu_ixO ?_
    | with_reducible refine pu_while ?_ ?_ _
    | with_reducible refine Pu.bind ?_ (fun _ => pu_o1)
    | with_reducible refine Pu.bind ?_ (fun _ => pu_oB))
theorem pu_is_shares : PuF F_is_shares := by
  have pu_p_come_to_one_ := pu_p_come_to_one
  have pu_p_is_pair_ := pu_p_is_pair
  refine pu_mirror ?_
  unfold M_is_shares
  repeat' (first
    | with_reducible exact pu_var
    | with_reducible exact pu_c
    | with_reducible exact pu_nil
    | with_reducible exact pu_yes
    | with_reducible exact pu_noPart
    | with_reducible exact pu_next
    | with_reducible exact pu_o1
    | with_reducible exact pu_oB
    | with_reducible assumption
    | with_reducible refine pu_cons ?_ ?_
    | with_reducible refine pu_op (fun _ _ => pu_o1) ?_ ?_
    | with_reducible refine pu_call ?_
    | with_reducible refine pu_def ?_ ?_
    | with_reducible refine pu_seq ?_ ?_
    | with_reducible refine pu_asg ?_
    | with_reducible refine pu_ret ?_
    | with_reducible refine pu_tup ?_
    | with_reducible refine pu_lst ?_
    | with_reducible refine pu_lstN ?_
    | with_reducible refine pu_lc ?_ ?_ ?_
    | with_reducible refine pu_iter ?_
    | with_reducible refine pu_ifS ?_ ?_ ?_
    | with_reducible refine pu_tst ?_
    | with_reducible refine pu_tru ?_
    | with_reducible refine pu_andV ?_ ?_
    | with_reducible refine pu_orV ?_ ?_
    | with_reducible refine pu_notV ?_
    | with_reducible refine pu_isi ?_
    | with_reducible refine pu_isi2 ?_
    | with_reducible refine pu_tnot ?_
    | with_reducible refine pu_tor ?_ ?_
    | with_reducible refine pu_tand ?_ ?_
    | with_reducible refine pu_m0 ?_
    | with_reducible refine pu_m1 ?_ ?_
    | with_reducible refine pu_part ?_
    | with_reducible refine pu_slice ?_ ?_ ?_
    | with_reducible refine pu_mIf ?_ ?_ ?_
    | with_reducible refine pu_def0 ?_ ?_
    | with_reducible refine pu_fmt ?_
    | with_reducible refine pu_bor ?_
    | with_reducible refine pu_raise ?_
    | with_reducible refine pu_for ?_ ?_
    | with_reducible refine pu_setI ?_ ?_
    | with_reducible refine pu_par ?_
    | with_reducible refine pu_app ?_
    | with_reducible refine pu_splitN ?_ ?_
    | with_reducible refine pu_eo ?_
    | with_reducible refine pu_frz ?_
    | with_reducible refine pu_erF ?_
    | with_reducible refine pu_isE ?_
    | with_reducible refine pu_fn ?_ ?_ ?_
    | with_reducible exact puT_nil
    | with_reducible refine puT_cons ?_ ?_
    | with_reducible refine pu_try ?_ ?_
    | with_reducible refine pu_J _ _ (allM_cons ?_ ?_)
    | with_reducible exact allM_nil
    | with_reducible refine allM_cons ?_ ?_
    | with_reducible exact pu_pop
    | with_reducible refine pu_ixO ?_
    | with_reducible refine pu_while ?_ ?_ _
    | with_reducible refine Pu.bind ?_ (fun _ => pu_o1)
    | with_reducible refine Pu.bind ?_ (fun _ => pu_oB))
theorem pu_p_is_layer : PuF F_p_is_layer := by
  have pu_is_shares_ := pu_is_shares
  have pu_is_amount_ := pu_is_amount
  refine pu_mirror ?_
  unfold M_p_is_layer
  repeat' (first
    | with_reducible exact pu_var
    | with_reducible exact pu_c
    | with_reducible exact pu_nil
    | with_reducible exact pu_yes
    | with_reducible exact pu_noPart
    | with_reducible exact pu_next
    | with_reducible exact pu_o1
    | with_reducible exact pu_oB
    | with_reducible assumption
    | with_reducible refine pu_cons ?_ ?_
    | with_reducible refine pu_op (fun _ _ => pu_o1) ?_ ?_
    | with_reducible refine pu_call ?_
    | with_reducible refine pu_def ?_ ?_
    | with_reducible refine pu_seq ?_ ?_
    | with_reducible refine pu_asg ?_
    | with_reducible refine pu_ret ?_
    | with_reducible refine pu_tup ?_
    | with_reducible refine pu_lst ?_
    | with_reducible refine pu_lstN ?_
    | with_reducible refine pu_lc ?_ ?_ ?_
    | with_reducible refine pu_iter ?_
    | with_reducible refine pu_ifS ?_ ?_ ?_
    | with_reducible refine pu_tst ?_
    | with_reducible refine pu_tru ?_
    | with_reducible refine pu_andV ?_ ?_
    | with_reducible refine pu_orV ?_ ?_
    | with_reducible refine pu_notV ?_
    | with_reducible refine pu_isi ?_
    | with_reducible refine pu_isi2 ?_
    | with_reducible refine pu_tnot ?_
    | with_reducible refine pu_tor ?_ ?_
    | with_reducible refine pu_tand ?_ ?_
    | with_reducible refine pu_m0 ?_
    | with_reducible refine pu_m1 ?_ ?_
    | with_reducible refine pu_part ?_
    | with_reducible refine pu_slice ?_ ?_ ?_
    | with_reducible refine pu_mIf ?_ ?_ ?_
    | with_reducible refine pu_def0 ?_ ?_
    | with_reducible refine pu_fmt ?_
    | with_reducible refine pu_bor ?_
    | with_reducible refine pu_raise ?_
    | with_reducible refine pu_for ?_ ?_
    | with_reducible refine pu_setI ?_ ?_
    | with_reducible refine pu_par ?_
    | with_reducible refine pu_app ?_
    | with_reducible refine pu_splitN ?_ ?_
    | with_reducible refine pu_eo ?_
    | with_reducible refine pu_frz ?_
    | with_reducible refine pu_erF ?_
    | with_reducible refine pu_isE ?_
    | with_reducible refine pu_fn ?_ ?_ ?_
    | with_reducible exact puT_nil
    | with_reducible refine puT_cons ?_ ?_
    | with_reducible refine pu_try ?_ ?_
    | with_reducible refine pu_J _ _ (allM_cons ?_ ?_)
    | with_reducible exact allM_nil
    | with_reducible refine allM_cons ?_ ?_
    | with_reducible exact pu_pop
    | with_reducible refine pu_ixO ?_
    | with_reducible refine pu_while ?_ ?_ _
    | with_reducible refine Pu.bind ?_ (fun _ => pu_o1)
    | with_reducible refine Pu.bind ?_ (fun _ => pu_oB))
theorem pu_is_less : PuF F_is_less := by
  refine pu_mirror ?_
  unfold M_is_less
  repeat' (first
    | with_reducible exact pu_var
    | with_reducible exact pu_c
    | with_reducible exact pu_nil
    | with_reducible exact pu_yes
    | with_reducible exact pu_noPart
    | with_reducible exact pu_next
    | with_reducible exact pu_o1
    | with_reducible exact pu_oB
    | with_reducible assumption
    | with_reducible refine pu_cons ?_ ?_
    | with_reducible refine pu_op (fun _ _ => pu_o1) ?_ ?_
    | with_reducible refine pu_call ?_
    | with_reducible refine pu_def ?_ ?_
    | with_reducible refine pu_seq ?_ ?_
    | with_reducible refine pu_asg ?_
    | with_reducible refine pu_ret ?_
    | with_reducible refine pu_tup ?_
    | with_reducible refine pu_lst ?_
    | with_reducible refine pu_lstN ?_
    | with_reducible refine pu_lc ?_ ?_ ?_
    | with_reducible refine pu_iter ?_
    | with_reducible refine pu_ifS ?_ ?_ ?_
    | with_reducible refine pu_tst ?_
    | with_reducible refine pu_tru ?_
    | with_reducible refine pu_andV ?_ ?_
    | with_reducible refine pu_orV ?_ ?_
    | with_reducible refine pu_notV ?_
    | with_reducible refine pu_isi ?_
    | with_reducible refine pu_isi2 ?_
    | with_reducible refine pu_tnot ?_
    | with_reducible refine pu_tor ?_ ?_
    | with_reducible refine pu_tand ?_ ?_
    | with_reducible refine pu_m0 ?_
    | with_reducible refine pu_m1 ?_ ?_
    | with_reducible refine pu_part ?_
    | with_reducible refine pu_slice ?_ ?_ ?_
    | with_reducible refine pu_mIf ?_ ?_ ?_
    | with_reducible refine pu_def0 ?_ ?_
    | with_reducible refine pu_fmt ?_
    | with_reducible refine pu_bor ?_
    | with_reducible refine pu_raise ?_
    | with_reducible refine pu_for ?_ ?_
    | with_reducible refine pu_setI ?_ ?_
    | with_reducible refine pu_par ?_
    | with_reducible refine pu_app ?_
    | with_reducible refine pu_splitN ?_ ?_
    | with_reducible refine pu_eo ?_
    | with_reducible refine pu_frz ?_
    | with_reducible refine pu_erF ?_
    | with_reducible refine pu_isE ?_
    | with_reducible refine pu_fn ?_ ?_ ?_
    | with_reducible exact puT_nil
    | with_reducible refine puT_cons ?_ ?_
    | with_reducible refine pu_try ?_ ?_
    | with_reducible refine pu_J _ _ (allM_cons ?_ ?_)
    | with_reducible exact allM_nil
    | with_reducible refine allM_cons ?_ ?_
    | with_reducible exact pu_pop
    | with_reducible refine pu_ixO ?_
    | with_reducible refine pu_while ?_ ?_ _
    | with_reducible refine Pu.bind ?_ (fun _ => pu_o1)
    | with_reducible refine Pu.bind ?_ (fun _ => pu_oB))
theorem pu_united : PuF F_united := by
  refine pu_mirror ?_
  unfold M_united
  repeat' (first
    | with_reducible exact pu_var
    | with_reducible exact pu_c
    | with_reducible exact pu_nil
    | with_reducible exact pu_yes
    | with_reducible exact pu_noPart
    | with_reducible exact pu_next
    | with_reducible exact pu_o1
    | with_reducible exact pu_oB
    | with_reducible assumption
    | with_reducible refine pu_cons ?_ ?_
    | with_reducible refine pu_op (fun _ _ => pu_o1) ?_ ?_
    | with_reducible refine pu_call ?_
    | with_reducible refine pu_def ?_ ?_
    | with_reducible refine pu_seq ?_ ?_
    | with_reducible refine pu_asg ?_
    | with_reducible refine pu_ret ?_
    | with_reducible refine pu_tup ?_
    | with_reducible refine pu_lst ?_
    | with_reducible refine pu_lstN ?_
    | with_reducible refine pu_lc ?_ ?_ ?_
    | with_reducible refine pu_iter ?_
    | with_reducible refine pu_ifS ?_ ?_ ?_
    | with_reducible refine pu_tst ?_
    | with_reducible refine pu_tru ?_
    | with_reducible refine pu_andV ?_ ?_
    | with_reducible refine pu_orV ?_ ?_
    | with_reducible refine pu_notV ?_
    | with_reducible refine pu_isi ?_
    | with_reducible refine pu_isi2 ?_
    | with_reducible refine pu_tnot ?_
    | with_reducible refine pu_tor ?_ ?_
    | with_reducible refine pu_tand ?_ ?_
    | with_reducible refine pu_m0 ?_
    | with_reducible refine pu_m1 ?_ ?_
    | with_reducible refine pu_part ?_
    | with_reducible refine pu_slice ?_ ?_ ?_
    | with_reducible refine pu_mIf ?_ ?_ ?_
    | with_reducible refine pu_def0 ?_ ?_
    | with_reducible refine pu_fmt ?_
    | with_reducible refine pu_bor ?_
    | with_reducible refine pu_raise ?_
    | with_reducible refine pu_for ?_ ?_
    | with_reducible refine pu_setI ?_ ?_
    | with_reducible refine pu_par ?_
    | with_reducible refine pu_app ?_
    | with_reducible refine pu_splitN ?_ ?_
    | with_reducible refine pu_eo ?_
    | with_reducible refine pu_frz ?_
    | with_reducible refine pu_erF ?_
    | with_reducible refine pu_isE ?_
    | with_reducible refine pu_fn ?_ ?_ ?_
    | with_reducible exact puT_nil
    | with_reducible refine puT_cons ?_ ?_
    | with_reducible refine pu_try ?_ ?_
    | with_reducible refine pu_J _ _ (allM_cons ?_ ?_)
    | with_reducible exact allM_nil
    | with_reducible refine allM_cons ?_ ?_
    | with_reducible exact pu_pop
    | with_reducible refine pu_ixO ?_
    | with_reducible refine pu_while ?_ ?_ _
    | with_reducible refine Pu.bind ?_ (fun _ => pu_o1)
    | with_reducible refine Pu.bind ?_ (fun _ => pu_oB))
theorem pu_is_table : PuF F_is_table := by
  have pu_united_ := pu_united
  have pu_is_less_ := pu_is_less
  have pu_p_is_layer_ := pu_p_is_layer
  refine pu_mirror ?_
  unfold M_is_table
  repeat' (first
    | with_reducible exact pu_var
    | with_reducible exact pu_c
    | with_reducible exact pu_nil
    | with_reducible exact pu_yes
    | with_reducible exact pu_noPart
    | with_reducible exact pu_next
    | with_reducible exact pu_o1
    | with_reducible exact pu_oB
    | with_reducible assumption
    | with_reducible refine pu_cons ?_ ?_
    | with_reducible refine pu_op (fun _ _ => pu_o1) ?_ ?_
    | with_reducible refine pu_call ?_
    | with_reducible refine pu_def ?_ ?_
    | with_reducible refine pu_seq ?_ ?_
    | with_reducible refine pu_asg ?_
    | with_reducible refine pu_ret ?_
    | with_reducible refine pu_tup ?_
    | with_reducible refine pu_lst ?_
    | with_reducible refine pu_lstN ?_
    | with_reducible refine pu_lc ?_ ?_ ?_
    | with_reducible refine pu_iter ?_
    | with_reducible refine pu_ifS ?_ ?_ ?_
    | with_reducible refine pu_tst ?_
    | with_reducible refine pu_tru ?_
    | with_reducible refine pu_andV ?_ ?_
    | with_reducible refine pu_orV ?_ ?_
    | with_reducible refine pu_notV ?_
    | with_reducible refine pu_isi ?_
    | with_reducible refine pu_isi2 ?_
    | with_reducible refine pu_tnot ?_
    | with_reducible refine pu_tor ?_ ?_
    | with_reducible refine pu_tand ?_ ?_
    | with_reducible refine pu_m0 ?_
    | with_reducible refine pu_m1 ?_ ?_
    | with_reducible refine pu_part ?_
    | with_reducible refine pu_slice ?_ ?_ ?_
    | with_reducible refine pu_mIf ?_ ?_ ?_
    | with_reducible refine pu_def0 ?_ ?_
    | with_reducible refine pu_fmt ?_
    | with_reducible refine pu_bor ?_
    | with_reducible refine pu_raise ?_
    | with_reducible refine pu_for ?_ ?_
    | with_reducible refine pu_setI ?_ ?_
    | with_reducible refine pu_par ?_
    | with_reducible refine pu_app ?_
    | with_reducible refine pu_splitN ?_ ?_
    | with_reducible refine pu_eo ?_
    | with_reducible refine pu_frz ?_
    | with_reducible refine pu_erF ?_
    | with_reducible refine pu_isE ?_
    | with_reducible refine pu_fn ?_ ?_ ?_
    | with_reducible exact puT_nil
    | with_reducible refine puT_cons ?_ ?_
    | with_reducible refine pu_try ?_ ?_
    | with_reducible refine pu_J _ _ (allM_cons ?_ ?_)
    | with_reducible exact allM_nil
    | with_reducible refine allM_cons ?_ ?_
    | with_reducible exact pu_pop
    | with_reducible refine pu_ixO ?_
    | with_reducible refine pu_while ?_ ?_ _
    | with_reducible refine Pu.bind ?_ (fun _ => pu_o1)
    | with_reducible refine Pu.bind ?_ (fun _ => pu_oB))
theorem pu_l_by_hand_right : PuF F_l_by_hand_right := by
  have pu_l_same_ := pu_l_same 12
  have pu_is_shares_ := pu_is_shares
  have pu_is_table_ := pu_is_table
  refine pu_mirror ?_
  unfold M_l_by_hand_right
  repeat' (first
    | with_reducible exact pu_var
    | with_reducible exact pu_c
    | with_reducible exact pu_nil
    | with_reducible exact pu_yes
    | with_reducible exact pu_noPart
    | with_reducible exact pu_next
    | with_reducible exact pu_o1
    | with_reducible exact pu_oB
    | with_reducible assumption
    | with_reducible refine pu_cons ?_ ?_
    | with_reducible refine pu_op (fun _ _ => pu_o1) ?_ ?_
    | with_reducible refine pu_call ?_
    | with_reducible refine pu_def ?_ ?_
    | with_reducible refine pu_seq ?_ ?_
    | with_reducible refine pu_asg ?_
    | with_reducible refine pu_ret ?_
    | with_reducible refine pu_tup ?_
    | with_reducible refine pu_lst ?_
    | with_reducible refine pu_lstN ?_
    | with_reducible refine pu_lc ?_ ?_ ?_
    | with_reducible refine pu_iter ?_
    | with_reducible refine pu_ifS ?_ ?_ ?_
    | with_reducible refine pu_tst ?_
    | with_reducible refine pu_tru ?_
    | with_reducible refine pu_andV ?_ ?_
    | with_reducible refine pu_orV ?_ ?_
    | with_reducible refine pu_notV ?_
    | with_reducible refine pu_isi ?_
    | with_reducible refine pu_isi2 ?_
    | with_reducible refine pu_tnot ?_
    | with_reducible refine pu_tor ?_ ?_
    | with_reducible refine pu_tand ?_ ?_
    | with_reducible refine pu_m0 ?_
    | with_reducible refine pu_m1 ?_ ?_
    | with_reducible refine pu_part ?_
    | with_reducible refine pu_slice ?_ ?_ ?_
    | with_reducible refine pu_mIf ?_ ?_ ?_
    | with_reducible refine pu_def0 ?_ ?_
    | with_reducible refine pu_fmt ?_
    | with_reducible refine pu_bor ?_
    | with_reducible refine pu_raise ?_
    | with_reducible refine pu_for ?_ ?_
    | with_reducible refine pu_setI ?_ ?_
    | with_reducible refine pu_par ?_
    | with_reducible refine pu_app ?_
    | with_reducible refine pu_splitN ?_ ?_
    | with_reducible refine pu_eo ?_
    | with_reducible refine pu_frz ?_
    | with_reducible refine pu_erF ?_
    | with_reducible refine pu_isE ?_
    | with_reducible refine pu_fn ?_ ?_ ?_
    | with_reducible exact puT_nil
    | with_reducible refine puT_cons ?_ ?_
    | with_reducible refine pu_try ?_ ?_
    | with_reducible refine pu_J _ _ (allM_cons ?_ ?_)
    | with_reducible exact allM_nil
    | with_reducible refine allM_cons ?_ ?_
    | with_reducible exact pu_pop
    | with_reducible refine pu_ixO ?_
    | with_reducible refine pu_while ?_ ?_ _
    | with_reducible refine Pu.bind ?_ (fun _ => pu_o1)
    | with_reducible refine Pu.bind ?_ (fun _ => pu_oB))
theorem pu_l_frac : PuF F_l_frac := by
  refine pu_mirror ?_
  unfold M_l_frac
  repeat' (first
    | with_reducible exact pu_var
    | with_reducible exact pu_c
    | with_reducible exact pu_nil
    | with_reducible exact pu_yes
    | with_reducible exact pu_noPart
    | with_reducible exact pu_next
    | with_reducible exact pu_o1
    | with_reducible exact pu_oB
    | with_reducible assumption
    | with_reducible refine pu_cons ?_ ?_
    | with_reducible refine pu_op (fun _ _ => pu_o1) ?_ ?_
    | with_reducible refine pu_call ?_
    | with_reducible refine pu_def ?_ ?_
    | with_reducible refine pu_seq ?_ ?_
    | with_reducible refine pu_asg ?_
    | with_reducible refine pu_ret ?_
    | with_reducible refine pu_tup ?_
    | with_reducible refine pu_lst ?_
    | with_reducible refine pu_lstN ?_
    | with_reducible refine pu_lc ?_ ?_ ?_
    | with_reducible refine pu_iter ?_
    | with_reducible refine pu_ifS ?_ ?_ ?_
    | with_reducible refine pu_tst ?_
    | with_reducible refine pu_tru ?_
    | with_reducible refine pu_andV ?_ ?_
    | with_reducible refine pu_orV ?_ ?_
    | with_reducible refine pu_notV ?_
    | with_reducible refine pu_isi ?_
    | with_reducible refine pu_isi2 ?_
    | with_reducible refine pu_tnot ?_
    | with_reducible refine pu_tor ?_ ?_
    | with_reducible refine pu_tand ?_ ?_
    | with_reducible refine pu_m0 ?_
    | with_reducible refine pu_m1 ?_ ?_
    | with_reducible refine pu_part ?_
    | with_reducible refine pu_slice ?_ ?_ ?_
    | with_reducible refine pu_mIf ?_ ?_ ?_
    | with_reducible refine pu_def0 ?_ ?_
    | with_reducible refine pu_fmt ?_
    | with_reducible refine pu_bor ?_
    | with_reducible refine pu_raise ?_
    | with_reducible refine pu_for ?_ ?_
    | with_reducible refine pu_setI ?_ ?_
    | with_reducible refine pu_par ?_
    | with_reducible refine pu_app ?_
    | with_reducible refine pu_splitN ?_ ?_
    | with_reducible refine pu_eo ?_
    | with_reducible refine pu_frz ?_
    | with_reducible refine pu_erF ?_
    | with_reducible refine pu_isE ?_
    | with_reducible refine pu_fn ?_ ?_ ?_
    | with_reducible exact puT_nil
    | with_reducible refine puT_cons ?_ ?_
    | with_reducible refine pu_try ?_ ?_
    | with_reducible refine pu_J _ _ (allM_cons ?_ ?_)
    | with_reducible exact allM_nil
    | with_reducible refine allM_cons ?_ ?_
    | with_reducible exact pu_pop
    | with_reducible refine pu_ixO ?_
    | with_reducible refine pu_while ?_ ?_ _
    | with_reducible refine Pu.bind ?_ (fun _ => pu_o1)
    | with_reducible refine Pu.bind ?_ (fun _ => pu_oB))
theorem pu_l_plus : PuF F_l_plus := by
  have pu_l_frac_ := pu_l_frac
  refine pu_mirror ?_
  unfold M_l_plus
  repeat' (first
    | with_reducible exact pu_var
    | with_reducible exact pu_c
    | with_reducible exact pu_nil
    | with_reducible exact pu_yes
    | with_reducible exact pu_noPart
    | with_reducible exact pu_next
    | with_reducible exact pu_o1
    | with_reducible exact pu_oB
    | with_reducible assumption
    | with_reducible refine pu_cons ?_ ?_
    | with_reducible refine pu_op (fun _ _ => pu_o1) ?_ ?_
    | with_reducible refine pu_call ?_
    | with_reducible refine pu_def ?_ ?_
    | with_reducible refine pu_seq ?_ ?_
    | with_reducible refine pu_asg ?_
    | with_reducible refine pu_ret ?_
    | with_reducible refine pu_tup ?_
    | with_reducible refine pu_lst ?_
    | with_reducible refine pu_lstN ?_
    | with_reducible refine pu_lc ?_ ?_ ?_
    | with_reducible refine pu_iter ?_
    | with_reducible refine pu_ifS ?_ ?_ ?_
    | with_reducible refine pu_tst ?_
    | with_reducible refine pu_tru ?_
    | with_reducible refine pu_andV ?_ ?_
    | with_reducible refine pu_orV ?_ ?_
    | with_reducible refine pu_notV ?_
    | with_reducible refine pu_isi ?_
    | with_reducible refine pu_isi2 ?_
    | with_reducible refine pu_tnot ?_
    | with_reducible refine pu_tor ?_ ?_
    | with_reducible refine pu_tand ?_ ?_
    | with_reducible refine pu_m0 ?_
    | with_reducible refine pu_m1 ?_ ?_
    | with_reducible refine pu_part ?_
    | with_reducible refine pu_slice ?_ ?_ ?_
    | with_reducible refine pu_mIf ?_ ?_ ?_
    | with_reducible refine pu_def0 ?_ ?_
    | with_reducible refine pu_fmt ?_
    | with_reducible refine pu_bor ?_
    | with_reducible refine pu_raise ?_
    | with_reducible refine pu_for ?_ ?_
    | with_reducible refine pu_setI ?_ ?_
    | with_reducible refine pu_par ?_
    | with_reducible refine pu_app ?_
    | with_reducible refine pu_splitN ?_ ?_
    | with_reducible refine pu_eo ?_
    | with_reducible refine pu_frz ?_
    | with_reducible refine pu_erF ?_
    | with_reducible refine pu_isE ?_
    | with_reducible refine pu_fn ?_ ?_ ?_
    | with_reducible exact puT_nil
    | with_reducible refine puT_cons ?_ ?_
    | with_reducible refine pu_try ?_ ?_
    | with_reducible refine pu_J _ _ (allM_cons ?_ ?_)
    | with_reducible exact allM_nil
    | with_reducible refine allM_cons ?_ ?_
    | with_reducible exact pu_pop
    | with_reducible refine pu_ixO ?_
    | with_reducible refine pu_while ?_ ?_ _
    | with_reducible refine Pu.bind ?_ (fun _ => pu_o1)
    | with_reducible refine Pu.bind ?_ (fun _ => pu_oB))
end GG

namespace GG
open PySem PySem.Spec L2 Mi
theorem gEqB_str (s t : Str) (hs : PyData.strOk s = true) (ht : PyData.strOk t = true) : gEqB (.str s) (.str t) = some (s == t) := by
  have h1 : ∀ s : Str, PyData.strOk s = true → (PyData.str s).canLay0 = true := fun s h => by simp [PyData.canLay0, h]
  have h2 : ∀ s : Str, (PyData.str s).depth ≤ 64 := fun s => by first | (show 0 ≤ 64; decide) | (show 1 ≤ 64; decide) | simp [PyData.depth]
  have h3 : (PyData.str s).eqv (PyData.str t) = (s == t) := by first | rfl | simp [PyData.eqv]
  simp [gEqB, D.py, SeqAt.shaped, h1 s hs, h1 t ht, h2, h3]
theorem gEqB_int (i j : Int) : gEqB (.int i) (.int j) = some (i == j) := rfl
theorem gEqB_bl (i j : Bool) : gEqB (.bl i) (.bl j) = some (i == j) := by cases i <;> cases j <;> rfl
/-- flat data of depth n -/
def plain : Nat → D → Bool
  | 0, _ => false
  | _ + 1, .str s => PyData.strOk s
  | _ + 1, .int _ => true
  | _ + 1, .bl _ => true
  | _ + 1, .non => true
  | n + 1, .lst ds => ds.all (plain n) && decide (ds.length ≤ 100)
  | n + 1, .tup ds => ds.all (plain n) && decide (ds.length ≤ 100)
  | _ + 1, _ => false
theorem same_run {m : MM D} {ρ : En} (i3 : 3 < ρ.length) : ∀ (ds : List D) (acc : List D) (x : Bx), (∀ d ∈ ds, ∀ ρ' x, ρ'[2]? = some (.fz d) → ρ'[3]? = some (.fz d) → m ρ' x = .val (.bl true) x) → acc.length + ds.length ≤ 100 →
    lcRun (.tp [2, 3]) mYes m ρ (zipD ds ds) acc x = .val (acc ++ List.replicate ds.length (.bl true)) x
  | [], acc, x, _, _ => by
    show (R.val acc x : R (List D)) = .val (acc ++ []) x
    rw [List.append_nil]
  | d :: ds, acc, x, h, hl => by
    have hl' : acc.length + (ds.length + 1) ≤ 100 := hl
    have hb : acc.length < big := by
      unfold big
      omega
    have ih := same_run (m := m) i3 ds (acc ++ [.bl true]) x (fun d hd => h d (List.mem_cons_of_mem _ hd)) (by rw [List.length_append]; show acc.length + 1 + _ ≤ _; omega)
    have hm := h d (List.mem_cons_self ..) ((ρ.set 2 (.fz d)).set 3 (.fz d)) x (by rw [List.getElem?_set_ne (by decide), List.getElem?_set_self (by omega)]) (by rw [List.getElem?_set_self (by rw [List.length_set]; omega)])
    show (match m ((ρ.set 2 (.fz d)).set 3 (.fz d)) x with
        | .val e x2 => if acc.length < big then lcRun (.tp [2, 3]) mYes m ρ (zipD ds ds) (acc ++ [e]) x2 else .out
        | _ => .out) = _
    rw [hm]
    show (if acc.length < big then lcRun (.tp [2, 3]) mYes m ρ (zipD ds ds) (acc ++ [.bl true]) x else .out) = _
    rw [if_pos hb, ih, List.append_assoc]
    rfl
theorem asBs_rep : ∀ n, asBs (List.replicate n (.bl true)) = some (List.replicate n true)
  | 0 => rfl
  | n + 1 => by
    rw [List.replicate_succ, List.replicate_succ]
    unfold asBs
    rw [asBs_rep n]
    rfl
theorem isiA_str (s : Str) : isi ["list", "tuple"] (.str s) = some false := by simp [isi, isi1, tyN, tyIs]
theorem isiA_int (s : Int) : isi ["list", "tuple"] (.int s) = some false := by simp [isi, isi1, tyN, tyIs]
theorem isiA_lst (s : List D) : isi ["list", "tuple"] (.lst s) = some true := by simp [isi, isi1, tyN, tyIs]
theorem isiA_tup (s : List D) : isi ["list", "tuple"] (.tup s) = some true := by simp [isi, isi1, tyN, tyIs]
theorem isiB_str (s : Str) : isi ["bool", "str"] (.str s) = some true := by simp [isi, isi1, tyN, tyIs]
theorem isiB_int (s : Int) : isi ["bool", "str"] (.int s) = some false := by simp [isi, isi1, tyN, tyIs]
theorem isi1_b_str (s : Str) : isi1 "bool" (.str s) = some false := by simp [isi1, tyN, tyIs]
theorem isi1_b_int (s : Int) : isi1 "bool" (.int s) = some false := by simp [isi1, tyN, tyIs]
theorem isi1_i_int (s : Int) : isi1 "int" (.int s) = some true := by simp [isi1, tyN, tyIs]
theorem isi1_l_lst (s : List D) : isi1 "list" (.lst s) = some true := by simp [isi1, tyN, tyIs]
theorem isi1_l_tup (s : List D) : isi1 "list" (.tup s) = some false := by simp [isi1, tyN, tyIs]
theorem isi1_t_tup (s : List D) : isi1 "tuple" (.tup s) = some true := by simp [isi1, tyN, tyIs]
theorem isi1_t_lst (s : List D) : isi1 "tuple" (.lst s) = some false := by simp [isi1, tyN, tyIs]
theorem isiA_bl (s : Bool) : isi ["list", "tuple"] (.bl s) = some false := by simp [isi, isi1, tyN, tyIs]
theorem isiA_non : isi ["list", "tuple"] .non = some false := by simp [isi, isi1, tyN, tyIs]
theorem isiB_bl (s : Bool) : isi ["bool", "str"] (.bl s) = some true := by simp [isi, isi1, tyN, tyIs]
theorem isi1_b_bl (s : Bool) : isi1 "bool" (.bl s) = some true := by simp [isi1, tyN, tyIs]
theorem isi1_b_non : isi1 "bool" .non = some false := by simp [isi1, tyN, tyIs]
theorem isi1_s_str (s : Str) : isi1 "str" (.str s) = some true := by simp [isi1, tyN, tyIs]
theorem isi1_s_tup (s : List D) : isi1 "str" (.tup s) = some false := by simp [isi1, tyN, tyIs]
theorem same_lc {n : Nat} {ds : List D} {z : D} (ih : ∀ d ∈ ds, ∀ x, F_l_same n [d, d] x = .val (.bl true) x) (hl : ds.length ≤ 100) (hz : z = .lst ds ∨ z = .tup ds) (x : Bx) :
    mLc (mBind (mCons (mVar 0) (mCons (mVar 1) mNil)) fun ds => oB (gZip ds)) (.tp [2, 3]) mYes (mDef 2 (F_l_same n) (mCons (mVar 2) (mCons (mVar 3) mNil))) [2, 3] [.fz z, .fz z, .un, .un] x = .val (.lst (List.replicate ds.length (.bl true))) x := by
  have run := fun ρ i3 => same_run (ρ := ρ) (m := mDef 2 (F_l_same n) (mCons (mVar 2) (mCons (mVar 3) mNil))) i3 ds [] x (fun d hd ρ' x e2 e3 => by simp [mDef, mBind, mCons, mVar, mNil, R.bind, e2, e3, ih d hd]) (by simpa using hl)
  have e : (mBind (mCons (mVar 0) (mCons (mVar 1) mNil)) fun ds => oB (gZip ds)) [.fz z, .fz z, .un, .un] x = .val (zipD ds ds) x := by
    rcases hz with rfl | rfl <;> simp [mBind, mCons, mVar, mNil, R.bind, gZip, oB]
  unfold mLc mLcL mBind
  show R.bind (match (mBind (mCons (mVar 0) (mCons (mVar 1) mNil)) fun ds => oB (gZip ds)) [.fz z, .fz z, .un, .un] x with
    | .val ds x1 => lcRun _ _ _ _ ds [] x1
    | .exc c fs x1 => .exc c fs x1
    | .out => .out) _ = _
  rw [e]
  show R.bind (lcRun _ _ _ _ (zipD ds ds) [] x) _ = _
  rw [run _ (by simp [wipeE, shut])]
  rfl
theorem same_refl : ∀ (n : Nat) (d : D), plain n d = true → ∀ x, F_l_same n [d, d] x = .val (.bl true) x
  | 0, _, h, _ => nomatch h
  | n + 1, .str s, h, x => by
    have hs := gEqB_str s s h h
    simp [F_l_same, M_l_same, mirror, startE, mSeq, mIfS, mE, mTru, mTst, mIsi2, mIsi, mVar, mBind, R.bind, o1, oB, gTru, mNext, mTOr, mOp, gIsN, mC, gTst, mRet, mAndV, asB, gEq, hs, gEqB_bl, isiA_str, isiB_str, isi1_b_str]
  | n + 1, .int i, _, x => by
    simp [F_l_same, M_l_same, mirror, startE, mSeq, mIfS, mE, mTru, mTst, mIsi2, mIsi, mVar, mBind, R.bind, o1, oB, gTru, mNext, mTOr, mOp, gIsN, mC, gTst, mRet, mAndV, asB, gEq, gEqB_int, gEqB_bl, isiA_int, isiB_int, isi1_b_int, isi1_i_int, mNotV]
  | n + 1, .lst ds, h, x => by
    unfold plain at h
    rw [Bool.and_eq_true, List.all_eq_true] at h
    have hLc := same_lc (n := n) (ds := ds) (z := .lst ds) (fun d hd => same_refl n d (h.1 d hd)) (of_decide_eq_true h.2) (by first | exact .inl rfl | exact .inr rfl) x
    show mirror 4 (M_l_same (F_l_same n)) _ _ = _
    unfold M_l_same mirror
    revert hLc
    generalize (mLc (mBind (mCons (mVar 0) (mCons (mVar 1) mNil)) fun ds => oB (gZip ds)) (.tp [2, 3]) mYes (mDef 2 (F_l_same n) (mCons (mVar 2) (mCons (mVar 3) mNil))) [2, 3]) = E
    intro hLc
    simp [startE, mSeq, mIfS, mE, mTru, mTst, mIsi2, mIsi, mVar, mBind, R.bind, o1, oB, gTru, mNext, mTOr, mOp, gIsN, mC, gTst, mRet, mAndV, asB, gEq, gNe, gEqB_int, gEqB_bl, isiA_lst, isi1_l_lst, isi1_t_lst, mNotV, mCall, mCons, mNil, gLen, gAll, asBs_rep, hLc]
  | n + 1, .tup ds, h, x => by
    unfold plain at h
    rw [Bool.and_eq_true, List.all_eq_true] at h
    have hLc := same_lc (n := n) (ds := ds) (z := .tup ds) (fun d hd => same_refl n d (h.1 d hd)) (of_decide_eq_true h.2) (by first | exact .inl rfl | exact .inr rfl) x
    show mirror 4 (M_l_same (F_l_same n)) _ _ = _
    unfold M_l_same mirror
    revert hLc
    generalize (mLc (mBind (mCons (mVar 0) (mCons (mVar 1) mNil)) fun ds => oB (gZip ds)) (.tp [2, 3]) mYes (mDef 2 (F_l_same n) (mCons (mVar 2) (mCons (mVar 3) mNil))) [2, 3]) = E
    intro hLc
    simp [startE, mSeq, mIfS, mE, mTru, mTst, mIsi2, mIsi, mVar, mBind, R.bind, o1, oB, gTru, mNext, mTOr, mOp, gIsN, mC, gTst, mRet, mAndV, asB, gEq, gNe, gEqB_int, gEqB_bl, isiA_tup, isi1_l_tup, isi1_t_tup, mNotV, mCall, mCons, mNil, gLen, gAll, asBs_rep, hLc]
  | n + 1, .non, h, x => by
    have hs : gEqB .non .non = some true := rfl
    simp [F_l_same, M_l_same, mirror, startE, mSeq, mIfS, mE, mTru, mTst, mIsi2, mIsi, mVar, mBind, R.bind, o1, oB, gTru, mNext, mTOr, mOp, gIsN, mC, gTst, mRet, mAndV, asB, gEq, hs, gEqB_bl, isiA_non, isi1_b_non]
  | n + 1, .bl c, h, x => by
    simp [F_l_same, M_l_same, mirror, startE, mSeq, mIfS, mE, mTru, mTst, mIsi2, mIsi, mVar, mBind, R.bind, o1, oB, gTru, mNext, mTOr, mOp, gIsN, mC, gTst, mRet, mAndV, asB, gEq, gEqB_bl, isiA_bl, isiB_bl, isi1_b_bl]
  | n + 1, .dct _, h, x => nomatch h
  | n + 1, .obj .., h, x => nomatch h
  | n + 1, .err .., h, x => nomatch h
  | n + 1, .fn .., h, x => nomatch h
  | n + 1, .box, h, x => nomatch h
  | n + 1, .scr _, h, x => nomatch h
mutual
def eqD : D → D → Bool
  | .non, .non => true
  | .bl a, .bl b => a == b
  | .int a, .int b => decide (a = b)
  | .str a, .str b => decide (a.cps.toList = b.cps.toList)
  | .lst a, .lst b => eqDs a b
  | .tup a, .tup b => eqDs a b
  | _, _ => false
def eqDs : List D → List D → Bool
  | [], [] => true
  | a :: as, b :: bs => eqD a b && eqDs as bs
  | _, _ => false
end
mutual
theorem eqD_ok : ∀ a b, eqD a b = true → a = b
  | .non, .non, _ => rfl
  | .bl a, .bl b, h => by
    unfold eqD at h
    rw [eq_of_beq h]
  | .int a, .int b, h => by
    unfold eqD at h
    rw [of_decide_eq_true h]
  | .str a, .str b, h => by
    unfold eqD at h
    rw [TL.ext_tl (of_decide_eq_true h)]
  | .lst a, .lst b, h => by
    unfold eqD at h
    rw [eqDs_ok a b h]
  | .tup a, .tup b, h => by
    unfold eqD at h
    rw [eqDs_ok a b h]
theorem eqDs_ok : ∀ a b, eqDs a b = true → a = b
  | [], [], _ => rfl
  | a :: as, b :: bs, h => by
    unfold eqDs at h
    rw [Bool.and_eq_true] at h
    rw [eqD_ok a b h.1, eqDs_ok as bs h.2]
end
def okv (d : D) (r : R D) : Bool := match r with
  | .val e _ => eqD d e
  | _ => false
theorem okv_at {f : Mr} (h : PuF f) {ds : List D} {d : D} (e : okv d (f ds b0) = true) (x : Bx) : f ds x = .val d x := by
  cases e1 : f ds b0 with
  | val e2 y =>
    rw [e1] at e
    have e3 := eqD_ok d e2 e
    subst e3
    exact h.at e1 x
  | exc _ _ _ =>
    rw [e1] at e
    cases e
  | out =>
    rw [e1] at e
    cases e
end GG

namespace GG
open PySem PySem.Spec L2 Mi
theorem bl (n : Nat) (h : n ≤ 20) : n ≤ big := Nat.le_trans h (by decide)
theorem bg (n : Nat) (h : n < 200) : n < big := Nat.lt_of_lt_of_le h (by decide)
theorem okMul_r {i j : Int} (h : -(2 ^ 64) < j ∧ j < 2 ^ 64) : okMul i j = true := by
  unfold okMul
  rw [Bool.or_eq_true]
  exact .inl (decide_eq_true (.inr h))
theorem okMul_l {i j : Int} (h : -(2 ^ 64) < i ∧ i < 2 ^ 64) : okMul i j = true := by
  unfold okMul
  rw [Bool.or_eq_true]
  exact .inl (decide_eq_true (.inl h))
theorem lg_lt {j : Int} (h : 0 ≤ j) (h' : j < 2 ^ 64) : lg j < 9000 := by
  unfold lg
  by_cases hz : j.natAbs = 0
  · rw [hz]
    decide
  · have := (Nat.log2_lt hz (k := 64)).mpr (by omega)
    omega
def Inv (k : Int) (x : Bx) : Prop := 0 ≤ x.2.1 ∧ x.2.1 < 2 ^ 62 ∧ 0 ≤ x.2.2 ∧ x.2.2 ≤ k
theorem take_ok (b0 b1 b2 n : Int) (h1 : 0 ≤ b1) (hb1 : b1 < 2 ^ 62) (h2 : 0 ≤ b2) (h2' : b2 < 1000000) (hn : 0 < n) (hn' : n < 100) : ∃ r b0' b2', F_l_take [.box, .int n] (b0, b1, b2) = .val (.int r) (b0', b1, b2') ∧ 0 ≤ r ∧ r < n ∧ b2 ≤ b2' ∧ b2' ≤ b2 + 1 := by
  have k1 : lg n < 9000 := lg_lt (by omega) (by omega)
  have k2 : okMul 48271 (b2 + 1) = true := okMul_l (by decide)
  have k3 : ∀ i, okMul i (39373 + (b2 + 1)) = true := fun i => okMul_r (by omega)
  have k4 : ∀ i j, okMul i (j % 40009 + 7) = true := fun i j => okMul_r (by omega)
  have k5 : ∀ i, okMul i 48271 = true := fun i => okMul_r (by decide)
  have k6 : lg 1000003 < 9000 := lg_lt (by decide) (by decide)
  have k7 : lg 64 < 9000 := lg_lt (by decide) (by decide)
  unfold F_l_take M_l_take mirror
  by_cases hb : 0 < b0
  · simp [startE, mSeq, mIfS, mE, mTst, mOp, mBind, R.bind, mVar, gItem, bxAt, mC, o1, gGt, gI, gTst, oB, mAsg, Tg.asg, mSetB, mRet, mCall, mCons, mNil, gInt, gMod, gDiv, gAdd, gMulI, bxSet, mNext, hn, hb, k1]
    exact ⟨_, _, _, ⟨rfl, rfl, rfl⟩, Int.emod_nonneg _ (by omega), Int.emod_lt_of_pos _ hn, by omega, by omega⟩
  · simp [startE, mSeq, mIfS, mE, mTst, mOp, mBind, R.bind, mVar, gItem, bxAt, mC, o1, gGt, gI, gTst, oB, mAsg, Tg.asg, mSetB, mRet, mCall, mCons, mNil, gInt, gMod, gDiv, gAdd, gMulI, bxSet, mNext, hn, hb, k1, k2, k3, k4, k5, k6, k7]
    exact ⟨_, _, _, ⟨rfl, rfl, rfl⟩, Int.emod_nonneg _ (by omega), Int.emod_lt_of_pos _ hn, by omega, by omega⟩
theorem take' {k : Int} {x : Bx} (hi : Inv k x) (hk : k < 900000) (n : Nat) (hn : 0 < n) (hn' : n < 100) : ∃ (r : Nat) (x' : Bx), r < n ∧ F_l_take [.box, .int n] x = .val (.int r) x' ∧ Inv (k + 1) x' := by
  obtain ⟨b0, b1, b2⟩ := x
  obtain ⟨h1, h2, h3, h4⟩ := hi
  dsimp only at h1 h2 h3 h4
  obtain ⟨r, c0, c2, e, r0, r1, q0, q1⟩ := take_ok b0 b1 b2 n h1 h2 h3 (by omega) (by omega) (by omega)
  refine ⟨r.toNat, (c0, b1, c2), by omega, ?_, h1, h2, by dsimp only; omega, by dsimp only; omega⟩
  rw [e, Int.toNat_of_nonneg r0]
theorem of_ok {k : Int} {x : Bx} (hi : Inv k x) (hk : k < 900000) (ds : List D) (hn : 0 < ds.length) (hn' : ds.length < 100) : ∃ d ∈ ds, ∃ (x' : Bx), F_l_of [.box, .lst ds] x = .val d x' ∧ Inv (k + 1) x' := by
  obtain ⟨r, x', hr, e, h'⟩ := take' hi hk ds.length hn hn'
  refine ⟨ds[r], List.getElem_mem hr, x', ?_, h'⟩
  have ha : atI ds (r : Int) = some ds[r] := atI_nat (List.getElem?_eq_getElem hr)
  simp [F_l_of, M_l_of, mirror, startE, mRet, mE, mOp, mBind, R.bind, mVar, mCons, mNil, mCall, gLen, o1, mDef, e, gItem, gIx, ha]
theorem ixN_nat {n r : Nat} (h : r < n) : ixN n (r : Int) = some r := by
  unfold ixN
  simp [h]
  try omega
theorem pick_step {ds es : List D} {s1 s2 s5 : Slot} {x x' : Bx} {r : Nat} (hr : r < ds.length) (e : F_l_take [.box, .int ds.length] x = .val (.int r) x') (hd : ds.length < 100) (he : es.length < 100) :
    mAppPop 4 3 (mDef 2 F_l_take (mCons (mVar 0) (mCons (mBor (mCall gLen (mCons (mVar 3) mNil))) mNil))) [.fz .box, s1, s2, .ol ds, .ol es, s5] x = .nx [.fz .box, s1, s2, .ol (ds.eraseIdx r), .ol (es ++ [ds[r]]), s5] x' := by
  have h1 : es.length < big := by
    unfold big
    omega
  simp [mAppPop, mE, mDef, mBind, R.bind, mCons, mVar, mNil, mBor, frzS, allS, Slot.fzd, mCall, gLen, o1, isSca, e, ixN_nat hr, h1]
  rw [List.getElem?_eq_getElem hr]
  dsimp only
  rw [if_pos (by omega)]
end GG

namespace GG
open PySem PySem.Spec L2 Mi
theorem hand_ok : okv (.bl true) (F_l_by_hand_right [] b0) = true := by decide +kernel
def SUBS : List (List Str) := [["a"], ["bed"], ["p"], ["q"], ["tub"], ["a", "bed"], ["a", "p"], ["a", "q"], ["a", "tub"], ["bed", "p"], ["bed", "q"], ["bed", "tub"], ["p", "q"], ["p", "tub"], ["q", "tub"],
  ["a", "bed", "p"], ["a", "bed", "q"], ["a", "bed", "tub"], ["a", "p", "q"], ["a", "p", "tub"], ["a", "q", "tub"], ["bed", "p", "q"], ["bed", "p", "tub"], ["bed", "q", "tub"], ["p", "q", "tub"]]
def W4 : List Nat := [1, 2, 3, 4]
def wss : Nat → List (List Nat)
  | 0 => [[]]
  | n + 1 => W4.flatMap fun w => (wss n).map fun l => w :: l
def frD (w t : Nat) : D := .tup [.int ((w / Nat.gcd w t : Nat) : Int), .int ((t / Nat.gcd w t : Nat) : Int)]
def prs (t : Nat) : List Str → List Nat → List D
  | n :: ns, w :: ws => .tup [.str n, frD w t] :: prs t ns ws
  | _, _ => []
def shL (p : List Str) (ws : List Nat) : List D := prs ws.sum p ws
def isTh (d : D) : Bool := okv (.bl true) (F_is_shares [d] b0)
def isFa (d : D) : Bool := okv (.bl false) (F_is_shares [d] b0)
def dbl : D → D
  | .tup [n, .tup [.int a, .int b]] => .tup [n, .tup [.int (a * 2), .int (b * 2)]]
  | d => d
def ab : D → D
  | .tup [_, f] => .tup [.str "a b", f]
  | d => d
def zz : D := .tup [.str "zzzz", .tup [.int 1, .int 9]]
def chkS (l : List D) : Bool := isTh (.tup l) && isFa (.tup l.tail) && isFa (.tup (dbl (l.headD .non) :: l.tail)) && isFa (.tup (l ++ [zz])) && isFa (.tup (ab (l.headD .non) :: l.tail))
def pyOk (d : D) : Bool := match gEqB d d with
  | some true => true
  | _ => false
def shpB (d : D) : Bool := match d.py with
  | some p => SeqAt.shaped p
  | none => false
def cS (p : List Str) : Bool := (wss p.length).all fun ws => chkS (shL p ws)
theorem cS_0 : cS ["a"] = true := by decide +kernel
theorem cS_1 : cS ["bed"] = true := by decide +kernel
theorem cS_2 : cS ["p"] = true := by decide +kernel
theorem cS_3 : cS ["q"] = true := by decide +kernel
theorem cS_4 : cS ["tub"] = true := by decide +kernel
theorem cS_5 : cS ["a", "bed"] = true := by decide +kernel
theorem cS_6 : cS ["a", "p"] = true := by decide +kernel
theorem cS_7 : cS ["a", "q"] = true := by decide +kernel
theorem cS_8 : cS ["a", "tub"] = true := by decide +kernel
theorem cS_9 : cS ["bed", "p"] = true := by decide +kernel
theorem cS_10 : cS ["bed", "q"] = true := by decide +kernel
theorem cS_11 : cS ["bed", "tub"] = true := by decide +kernel
theorem cS_12 : cS ["p", "q"] = true := by decide +kernel
theorem cS_13 : cS ["p", "tub"] = true := by decide +kernel
theorem cS_14 : cS ["q", "tub"] = true := by decide +kernel
theorem cS_15 : cS ["a", "bed", "p"] = true := by decide +kernel
theorem cS_16 : cS ["a", "bed", "q"] = true := by decide +kernel
theorem cS_17 : cS ["a", "bed", "tub"] = true := by decide +kernel
theorem cS_18 : cS ["a", "p", "q"] = true := by decide +kernel
theorem cS_19 : cS ["a", "p", "tub"] = true := by decide +kernel
theorem cS_20 : cS ["a", "q", "tub"] = true := by decide +kernel
theorem cS_21 : cS ["bed", "p", "q"] = true := by decide +kernel
theorem cS_22 : cS ["bed", "p", "tub"] = true := by decide +kernel
theorem cS_23 : cS ["bed", "q", "tub"] = true := by decide +kernel
theorem cS_24 : cS ["p", "q", "tub"] = true := by decide +kernel
theorem eS : (SUBS.all fun p => (wss p.length).all fun ws => chkS (shL p ws)) = true := by
  show (SUBS.all fun p => cS p) = true
  refine List.all_eq_true.mpr fun p hp => ?_
  simp only [SUBS, List.mem_cons, List.not_mem_nil, or_false] at hp
  rcases hp with rfl | rfl | rfl | rfl | rfl | rfl | rfl | rfl | rfl | rfl | rfl | rfl | rfl | rfl | rfl | rfl | rfl | rfl | rfl | rfl | rfl | rfl | rfl | rfl | rfl
  · exact cS_0
  · exact cS_1
  · exact cS_2
  · exact cS_3
  · exact cS_4
  · exact cS_5
  · exact cS_6
  · exact cS_7
  · exact cS_8
  · exact cS_9
  · exact cS_10
  · exact cS_11
  · exact cS_12
  · exact cS_13
  · exact cS_14
  · exact cS_15
  · exact cS_16
  · exact cS_17
  · exact cS_18
  · exact cS_19
  · exact cS_20
  · exact cS_21
  · exact cS_22
  · exact cS_23
  · exact cS_24
theorem eE : (SUBS.all fun p => (wss p.length).all fun ws => pyOk (.tup (shL p ws)) && shpB (.tup (shL p ws))) = true := by decide +kernel
theorem eF : (W4.all fun w => (List.range 13).all fun t => decide (t = 0) || okv (frD w t) (F_l_frac [.int ((w : Nat) : Int), .int ((t : Nat) : Int)] b0)) = true := by decide +kernel
/-- n sixths -/
def un (n : Nat) : Nat × Nat := if n % 6 = 0 then (n / 6, 1) else if n % 3 = 0 then (n / 3, 2) else if n % 2 = 0 then (n / 2, 3) else (n, 6)
def unD (n : Nat) : D := .tup [.int ((un n).1 : Nat), .int ((un n).2 : Nat)]
def STEPS : List (Nat × Nat × Nat) := (List.range 9).flatMap fun t => [(t + 1, 1, 6 * (t + 1)), (t + 1, 2, 3 * (t + 1)), (t + 1, 3, 2 * (t + 1))]
theorem eA : (STEPS.all fun s => okv (unD s.2.2) (F_l_frac [.int ((s.1 : Nat) : Int), .int ((s.2.1 : Nat) : Int)] b0)) = true := by decide +kernel
theorem eB : ((List.range 325).all fun n => okv (.bl true) (F_is_amount [unD n] b0) && (decide (n = 0) || okv (.bl false) (F_is_amount [.tup [.int ((un n).1 * 3 : Nat), .int ((un n).2 * 3 : Nat)]] b0))) = true := by decide +kernel
end GG

namespace GG
open PySem PySem.Spec L2 Mi
def MS6 : List Nat := [2, 3, 4, 6, 8, 9, 10, 12, 14, 15, 16, 18, 21, 24, 27, 30, 36, 42, 48, 54]
def cC (m : Nat) : Bool := (List.range 271).all fun n => okv (unD (n + m)) (F_l_plus [unD n, unD m] b0)
theorem cC_2 : cC 2 = true := by decide +kernel
theorem cC_3 : cC 3 = true := by decide +kernel
theorem cC_4 : cC 4 = true := by decide +kernel
theorem cC_6 : cC 6 = true := by decide +kernel
theorem cC_8 : cC 8 = true := by decide +kernel
theorem cC_9 : cC 9 = true := by decide +kernel
theorem cC_10 : cC 10 = true := by decide +kernel
theorem cC_12 : cC 12 = true := by decide +kernel
theorem cC_14 : cC 14 = true := by decide +kernel
theorem cC_15 : cC 15 = true := by decide +kernel
theorem cC_16 : cC 16 = true := by decide +kernel
theorem cC_18 : cC 18 = true := by decide +kernel
theorem cC_21 : cC 21 = true := by decide +kernel
theorem cC_24 : cC 24 = true := by decide +kernel
theorem cC_27 : cC 27 = true := by decide +kernel
theorem cC_30 : cC 30 = true := by decide +kernel
theorem cC_36 : cC 36 = true := by decide +kernel
theorem cC_42 : cC 42 = true := by decide +kernel
theorem cC_48 : cC 48 = true := by decide +kernel
theorem cC_54 : cC 54 = true := by decide +kernel
theorem eC {m : Nat} (h : m ∈ MS6) : cC m = true := by
  simp only [MS6, List.mem_cons, List.not_mem_nil, or_false] at h
  rcases h with rfl | rfl | rfl | rfl | rfl | rfl | rfl | rfl | rfl | rfl | rfl | rfl | rfl | rfl | rfl | rfl | rfl | rfl | rfl | rfl
  · exact cC_2
  · exact cC_3
  · exact cC_4
  · exact cC_6
  · exact cC_8
  · exact cC_9
  · exact cC_10
  · exact cC_12
  · exact cC_14
  · exact cC_15
  · exact cC_16
  · exact cC_18
  · exact cC_21
  · exact cC_24
  · exact cC_27
  · exact cC_30
  · exact cC_36
  · exact cC_42
  · exact cC_48
  · exact cC_54
theorem eM : (STEPS.all fun s => MS6.any fun m => decide (s.2.2 = m)) = true := by decide +kernel
theorem plus_at {n m : Nat} (hn : n < 271) (hm : m ∈ MS6) (x : Bx) : F_l_plus [unD n, unD m] x = .val (unD (n + m)) x :=
  okv_at pu_l_plus (List.all_eq_true.mp (eC hm) n (List.mem_range.mpr hn)) x
theorem frac_at {s : Nat × Nat × Nat} (h : s ∈ STEPS) (x : Bx) : F_l_frac [.int ((s.1 : Nat) : Int), .int ((s.2.1 : Nat) : Int)] x = .val (unD s.2.2) x :=
  okv_at pu_l_frac (List.all_eq_true.mp eA s h) x
theorem step_mem {s : Nat × Nat × Nat} (h : s ∈ STEPS) : s.2.2 ∈ MS6 := by
  obtain ⟨m, hm, e⟩ := List.any_eq_true.mp (List.all_eq_true.mp eM s h)
  rw [of_decide_eq_true e]
  exact hm
end GG

namespace GG
open PySem PySem.Spec L2 Mi
theorem erase_map {α β : Type} (f : α → β) : ∀ (l : List α) (r : Nat), (l.map f).eraseIdx r = (l.eraseIdx r).map f
  | [], _ => rfl
  | _ :: _, 0 => rfl
  | a :: l, r + 1 => by
    show f a :: (l.map f).eraseIdx r = f a :: (l.eraseIdx r).map f
    rw [erase_map f l r]
theorem erase_perm {α : Type} : ∀ (l : List α) (r : Nat) (h : r < l.length), (l[r] :: l.eraseIdx r).Perm l
  | a :: l, 0, _ => List.Perm.refl _
  | a :: l, r + 1, h => by
    have ih := erase_perm l r (by simpa using h)
    show (l[r]'(by simpa using h) :: a :: l.eraseIdx r).Perm (a :: l)
    exact (List.Perm.swap _ _ _).trans (ih.cons a)
def PB : MS := mAppPop 4 3 (mDef 2 F_l_take (mCons (mVar 0) (mCons (mBor (mCall gLen (mCons (mVar 3) mNil))) mNil)))
theorem pb_step {P E : List Str} {s1 s2 s5 : Slot} {x x' : Bx} {r : Nat} (hr : r < P.length) (e : F_l_take [.box, .int P.length] x = .val (.int r) x') (hd : P.length < 50) (he : E.length < 50) :
    PB [.fz .box, s1, s2, .ol (P.map .str), .ol (E.map .str), s5] x = .nx [.fz .box, s1, s2, .ol ((P.eraseIdx r).map .str), .ol ((E ++ [P[r]]).map .str), s5] x' := by
  have h := pick_step (ds := P.map .str) (es := E.map .str) (s1 := s1) (s2 := s2) (s5 := s5) (r := r) (x := x) (x' := x') (by rw [List.length_map]; exact hr) (by rw [List.length_map]; exact e) (by rw [List.length_map]; omega) (by rw [List.length_map]; omega)
  rw [erase_map, List.getElem_map] at h
  rw [List.map_append]
  exact h
theorem pick_loop {s1 s2 : Slot} : ∀ (ks : List D) (P E : List Str) (s5 : Slot) (x : Bx) (k : Int), Inv k x → k + ks.length < 800000 → ks.length ≤ P.length → P.length < 50 → E.length + ks.length < 50 →
    ∃ (new rest : List Str) (s5' : Slot) (x' : Bx), loopS (.nm 5) PB ks [.fz .box, s1, s2, .ol (P.map .str), .ol (E.map .str), s5] x = .nx [.fz .box, s1, s2, .ol (rest.map .str), .ol ((E ++ new).map .str), s5'] x' ∧ new.length = ks.length ∧ (new ++ rest).Perm P ∧ Inv (k + ks.length) x'
  | [], P, E, s5, x, k, hi, _, _, _, _ => ⟨[], P, s5, x, by rw [List.append_nil]; rfl, rfl, List.Perm.refl _, by simpa using hi⟩
  | d :: ks, P, E, s5, x, k, hi, hk, hl, hp, he => by
    rw [List.length_cons] at hk hl he
    obtain ⟨r, x1, hr, e1, i1⟩ := take' hi (by omega) P.length (by omega) (by omega)
    have st := pb_step (s1 := s1) (s2 := s2) (s5 := .fz d) (E := E) hr e1 hp (by omega)
    have lE : (P.eraseIdx r).length = P.length - 1 := List.length_eraseIdx_of_lt hr
    obtain ⟨new, rest, s5', x2, e2, h1, h2, h3⟩ := pick_loop (s1 := s1) (s2 := s2) ks (P.eraseIdx r) (E ++ [P[r]]) (.fz d) x1 (k + 1) i1 (by omega) (by omega) (by omega) (by rw [List.length_append]; show E.length + 1 + _ < _; omega)
    refine ⟨P[r] :: new, rest, s5', x2, ?_, by rw [List.length_cons, List.length_cons, h1], ?_, ?_⟩
    · show (match PB ([.fz .box, s1, s2, .ol (P.map .str), .ol (E.map .str), .fz d]) x with
        | .nx ρ2 x2 => loopS (.nm 5) PB ks ρ2 x2
        | .cnt ρ2 x2 => loopS (.nm 5) PB ks ρ2 x2
        | .brk ρ2 x2 => .nx ρ2 x2
        | r => r) = _
      rw [st]
      dsimp only
      rw [e2, List.append_assoc]
      rfl
    · exact ((h2.cons P[r]).trans (erase_perm P r hr))
    · have e : k + 1 + (ks.length : Int) = k + ((ks.length + 1 : Nat) : Int) := by omega
      rw [List.length_cons, ← e]
      exact h3
theorem gRng_m {m : Nat} (h : m ≤ 9) : ∃ ks, gRng [.int m] = some ks ∧ ks.length = m := by
  have h4 : m = 0 ∨ m = 1 ∨ m = 2 ∨ m = 3 ∨ m = 4 ∨ m = 5 ∨ m = 6 ∨ m = 7 ∨ m = 8 ∨ m = 9 := by omega
  rcases h4 with rfl | rfl | rfl | rfl | rfl | rfl | rfl | rfl | rfl | rfl <;> exact ⟨_, rfl, rfl⟩
theorem rng_of {M : MM D} {ρ : En} {GR : List D → Option (List D)} {n : Int} {ds : List D} {x x' : Bx} (hM : M ρ x = .val (.int n) x') (hg : GR [.int n] = some ds) : (mBind (mCons M mNil) fun ds => oB (GR ds)) ρ x = .val ds x' := by
  simp [mBind, mCons, mNil, R.bind, hM, oB, hg]
theorem M_pick_eq : M_l_pick = mSeq (mParN 3 4 (mBind (mCons (mVar 1) mNil) fun ds => oB (gListN ds)) (mLstN mNil))
      (mSeq (mFor (mBind (mCons (mCall gMin2 (mCons (mCall gInt (mCons (mVar 2) mNil)) (mCons (mBor (mCall gLen (mCons (mVar 3) mNil))) mNil))) mNil) fun ds => oB (gRng ds)) (.nm 5) PB) (fun ρ x => (mRet (mVar 4)) (frzS allS ρ) x)) := rfl
theorem pick_ok {k : Int} {x : Bx} (hi : Inv k x) (hk : k < 700000) (P : List Str) (hP : P.length ≤ 5) (n : Nat) (hn : n ≤ 4) :
    ∃ (new rest : List Str) (x' : Bx), F_l_pick [.box, .lst (P.map .str), .int n] x = .val (.lst (new.map .str)) x' ∧ new.length = min n P.length ∧ (new ++ rest).Perm P ∧ Inv (k + 4) x' := by
  obtain ⟨ks, ek, hks⟩ := gRng_m (m := min n P.length) (by omega)
  obtain ⟨new, rest, s5, x1, e1, h1, h2, h3⟩ := pick_loop (s1 := .fz (.lst (P.map .str))) (s2 := .fz (.int n)) ks P [] .un x k hi (by omega) (by omega) (by omega) (by simp; omega)
  refine ⟨new, rest, x1, ?_, by omega, h2, ?_⟩
  · have em : (if P.length < n then ((P.length : Nat) : Int) else (n : Int)) = ((min n P.length : Nat) : Int) := by
      split <;> omega
    have p1 : (mParN 3 4 (mBind (mCons (mVar 1) mNil) fun ds => oB (gListN ds)) (mLstN mNil)) [.fz .box, .fz (.lst (P.map .str)), .fz (.int n), .un, .un, .un] x = .nx [.fz .box, .fz (.lst (P.map .str)), .fz (.int n), .ol (P.map .str), .ol [], .un] x := by
      simp [mParN, mE, mBind, R.bind, mCons, mVar, mNil, gListN, oB, mLstN, shut, bl]
    have p2 : (mCall gMin2 (mCons (mCall gInt (mCons (mVar 2) mNil)) (mCons (mBor (mCall gLen (mCons (mVar 3) mNil))) mNil))) [.fz .box, .fz (.lst (P.map .str)), .fz (.int n), .ol (P.map .str), .ol [], .un] x = .val (.int ((min n P.length : Nat) : Int)) x := by
      simp [mBind, R.bind, mCons, mVar, mNil, mCall, gInt, gMin2, mBor, frzS, allS, Slot.fzd, gLen, o1, isSca, em]
    have p3 : (mBind (mCons (mCall gMin2 (mCons (mCall gInt (mCons (mVar 2) mNil)) (mCons (mBor (mCall gLen (mCons (mVar 3) mNil))) mNil))) mNil) fun ds => oB (gRng ds)) [.fz .box, .fz (.lst (P.map .str)), .fz (.int n), .ol (P.map .str), .ol [], .un] x = .val ks x := rng_of p2 ek
    have e0 : F_l_pick [.box, .lst (P.map .str), .int n] x = mirror 6 M_l_pick [.box, .lst (P.map .str), .int n] x := rfl
    rw [e0, M_pick_eq]
    simp only [List.map_nil, List.nil_append] at e1
    revert e1 p1 p3
    generalize PB = B
    generalize (mParN 3 4 (mBind (mCons (mVar 1) mNil) fun ds => oB (gListN ds)) (mLstN mNil)) = C
    generalize (mBind (mCons (mCall gMin2 (mCons (mCall gInt (mCons (mVar 2) mNil)) (mCons (mBor (mCall gLen (mCons (mVar 3) mNil))) mNil))) mNil) fun ds => oB (gRng ds)) = E
    intro e1 p1 p3
    have es : startE 6 [.box, .lst (P.map .str), .int n] = [.fz .box, .fz (.lst (P.map .str)), .fz (.int n), .un, .un, .un] := rfl
    simp only [mirror, es, mSeq, p1, mFor, mE, p3, e1]
    rfl
  · obtain ⟨a, b, c, d⟩ := h3
    exact ⟨a, b, c, by omega⟩
end GG

namespace GG
open PySem PySem.Spec L2 Mi
def NAMES : List Str := ["a", "bed", "p", "q", "tub"]
def eqS (a b : Str) : Bool := decide (TL.tl a = TL.tl b)
theorem eqS_ok {a b : Str} (h : eqS a b = true) : a = b := TL.ext_tl (of_decide_eq_true h)
def eqL : List Str → List Str → Bool
  | [], [] => true
  | a :: as, b :: bs => eqS a b && eqL as bs
  | _, _ => false
theorem eqL_ok : ∀ (as bs : List Str), eqL as bs = true → as = bs
  | [], [], _ => rfl
  | a :: as, b :: bs, h => by
    unfold eqL at h
    rw [Bool.and_eq_true] at h
    rw [eqS_ok h.1, eqL_ok as bs h.2]
def inS (l : List Str) : Bool := SUBS.any fun t => eqL t l
theorem inS_ok {l : List Str} (h : inS l = true) : l ∈ SUBS := by
  obtain ⟨t, ht, e⟩ := List.any_eq_true.mp h
  rw [← eqL_ok t l e]
  exact ht
theorem g1 : (NAMES.all fun a => inS (srtS [a])) = true := by decide +kernel
theorem g2 : (NAMES.all fun a => NAMES.all fun b => eqS a b || inS (srtS [a, b])) = true := by decide +kernel
theorem g3 : (NAMES.all fun a => NAMES.all fun b => NAMES.all fun c => eqS a b || (eqS a c || (eqS b c || inS (srtS [a, b, c])))) = true := by decide +kernel
theorem or_r {a b : Bool} (h : (a || b) = true) (n : a ≠ true) : b = true := by
  cases a
  · exact h
  · exact absurd rfl n
theorem subs_ok {l : List Str} (hn : l.Nodup) (hm : ∀ a ∈ l, a ∈ NAMES) (h1 : 1 ≤ l.length) (h3 : l.length ≤ 3) : srtS l ∈ SUBS := by
  match l, h1, h3 with
  | [a], _, _ => exact inS_ok (List.all_eq_true.mp g1 a (hm a (by simp)))
  | [a, b], _, _ =>
    have hab : a ≠ b := by
      intro z
      simp [z] at hn
    exact inS_ok (or_r (List.all_eq_true.mp (List.all_eq_true.mp g2 a (hm a (by simp))) b (hm b (by simp))) fun z => hab (eqS_ok z))
  | [a, b, c], _, _ =>
    simp only [List.nodup_cons, List.mem_cons, List.not_mem_nil, or_false, not_or] at hn
    exact inS_ok (or_r (or_r (or_r (List.all_eq_true.mp (List.all_eq_true.mp (List.all_eq_true.mp g3 a (hm a (by simp))) b (hm b (by simp))) c (hm c (by simp))) fun z => hn.1.1 (eqS_ok z)) fun z => hn.1.2 (eqS_ok z)) fun z => hn.2.1 (eqS_ok z))
theorem asSs_map : ∀ l : List Str, asSs (l.map .str) = some l
  | [] => rfl
  | a :: l => by
    show asSs (.str a :: l.map .str) = _
    unfold asSs
    rw [asSs_map l]
    rfl
theorem asIs_map : ∀ l : List Int, asIs (l.map .int) = some l
  | [] => rfl
  | a :: l => by
    show asIs (.int a :: l.map .int) = _
    unfold asIs
    rw [asIs_map l]
    rfl
theorem wss_mem : ∀ {ws : List Nat}, (∀ w ∈ ws, w ∈ W4) → ws ∈ wss ws.length
  | [], _ => by simp [wss]
  | w :: ws, h => by
    show _ ∈ W4.flatMap fun w => (wss ws.length).map fun l => w :: l
    rw [List.mem_flatMap]
    exact ⟨w, h w (List.mem_cons_self ..), List.mem_map.mpr ⟨ws, wss_mem fun v hv => h v (List.mem_cons_of_mem _ hv), rfl⟩⟩
/-- the weights -/
theorem w_loop {ρ : En} (hb : ρ[0]? = some (.fz .box)) : ∀ (ds acc : List D) (x : Bx) (k : Int), Inv k x → k + ds.length < 800000 → acc.length + ds.length ≤ 50 → ∃ (ws : List Nat) (x' : Bx), (∀ w ∈ ws, w ∈ W4) ∧ ws.length = ds.length ∧
    lcRun (.nm 4) mYes (mOp (fun a b => o1 (gAdd a b)) (mC (.int 1)) (mDef 2 F_l_take (mCons (mVar 0) (mCons (mC (.int 4)) mNil)))) ρ ds acc x = .val (acc ++ ws.map fun w => .int ((w : Nat) : Int)) x' ∧ Inv (k + ds.length) x'
  | [], acc, x, k, hi, _, _ => ⟨[], x, by simp, rfl, by rw [List.map_nil, List.append_nil]; rfl, by simpa using hi⟩
  | d :: ds, acc, x, k, hi, hk, hl => by
    rw [List.length_cons] at hk hl
    obtain ⟨r, x1, hr, e1, i1⟩ := take' hi (by omega) 4 (by decide) (by decide)
    obtain ⟨ws, x2, h1, h2, h3, h4⟩ := w_loop hb ds (acc ++ [.int ((r + 1 : Nat) : Int)]) x1 (k + 1) i1 (by omega) (by rw [List.length_append]; show acc.length + 1 + _ ≤ _; omega)
    have hw : r + 1 ∈ W4 := by
      have : r = 0 ∨ r = 1 ∨ r = 2 ∨ r = 3 := by omega
      rcases this with rfl | rfl | rfl | rfl <;> decide
    refine ⟨(r + 1) :: ws, x2, ?_, by rw [List.length_cons, List.length_cons, h2], ?_, ?_⟩
    · intro w h
      rcases List.mem_cons.mp h with
        rfl | h
      · exact hw
      · exact h1 w h
    · have hb' : (ρ.set 4 (.fz d))[0]? = some (.fz .box) := by
        rw [List.getElem?_set_ne (by decide)]
        exact hb
      have e1' : F_l_take [.box, .int 4] x = .val (.int r) x1 := e1
      have ea : (1 : Int) + (r : Int) = ((r + 1 : Nat) : Int) := by omega
      have em : mOp (fun a b => o1 (gAdd a b)) (mC (.int 1)) (mDef 2 F_l_take (mCons (mVar 0) (mCons (mC (.int 4)) mNil))) (ρ.set 4 (.fz d)) x = .val (.int ((r + 1 : Nat) : Int)) x1 := by
        simp [mOp, mBind, R.bind, mC, mDef, mCons, mVar, mNil, hb', e1', gAdd, gI, o1, ea]
      show (match mOp (fun a b => o1 (gAdd a b)) (mC (.int 1)) (mDef 2 F_l_take (mCons (mVar 0) (mCons (mC (.int 4)) mNil))) (ρ.set 4 (.fz d)) x with
        | .val e x2 => if acc.length < big then lcRun (.nm 4) mYes (mOp (fun a b => o1 (gAdd a b)) (mC (.int 1)) (mDef 2 F_l_take (mCons (mVar 0) (mCons (mC (.int 4)) mNil)))) ρ ds (acc ++ [e]) x2 else .out
        | _ => .out) = _
      rw [em]
      dsimp only
      rw [if_pos (bg _ (by omega)), h3, List.append_assoc]
      rfl
    · rw [List.length_cons]
      have e : k + 1 + (ds.length : Int) = k + ((ds.length + 1 : Nat) : Int) := by omega
      rw [← e]
      exact h4
theorem frac_w {w t : Nat} (hw : w ∈ W4) (h1 : 1 ≤ t) (h2 : t < 13) (x : Bx) : F_l_frac [.int ((w : Nat) : Int), .int ((t : Nat) : Int)] x = .val (frD w t) x := by
  have h := List.all_eq_true.mp (List.all_eq_true.mp eF w hw) t (List.mem_range.mpr h2)
  exact okv_at pu_l_frac (or_r h fun z => by have := of_decide_eq_true z; omega) x
/-- the pairs -/
theorem p_loop {ρ : En} {ws0 : List Nat} (h3 : ρ[3]? = some (.fz (.lst (ws0.map fun w => .int ((w : Nat) : Int))))) (hl5 : 5 < ρ.length) (s1 : 1 ≤ ws0.sum) (s2 : ws0.sum < 13) (x : Bx) : ∀ (ns : List Str) (ws : List Nat) (acc : List D), (∀ w ∈ ws, w ∈ W4) → acc.length + ns.length ≤ 50 → ns.length = ws.length →
    lcRun (.tp [4, 5]) mYes (mTup (mCons (mVar 4) (mCons (mDef 2 F_l_frac (mCons (mVar 5) (mCons (mCall gSum (mCons (mVar 3) mNil)) mNil))) mNil))) ρ (zipD (ns.map .str) (ws.map fun w => .int ((w : Nat) : Int))) acc x = .val (acc ++ prs ws0.sum ns ws) x
  | [], [], acc, _, _, _ => by
    show (R.val acc x : R (List D)) = .val (acc ++ []) x
    rw [List.append_nil]
  | n :: ns, w :: ws, acc, hw, hl, e => by
    rw [List.length_cons] at hl
    have ih := p_loop h3 hl5 s1 s2 x ns ws (acc ++ [.tup [.str n, frD w ws0.sum]]) (fun v hv => hw v (List.mem_cons_of_mem _ hv)) (by rw [List.length_append]; show acc.length + 1 + _ ≤ _; omega) (by simpa using e)
    have h3' : ((ρ.set 4 (.fz (.str n))).set 5 (.fz (.int ((w : Nat) : Int))))[3]? = some (.fz (.lst (ws0.map fun w => .int ((w : Nat) : Int)))) := by
      rw [List.getElem?_set_ne (by decide), List.getElem?_set_ne (by decide)]
      exact h3
    have h4' : ((ρ.set 4 (.fz (.str n))).set 5 (.fz (.int ((w : Nat) : Int))))[4]? = some (.fz (.str n)) := by
      rw [List.getElem?_set_ne (by decide)]
      exact List.getElem?_set_self (by omega)
    have h5' : ((ρ.set 4 (.fz (.str n))).set 5 (.fz (.int ((w : Nat) : Int))))[5]? = some (.fz (.int ((w : Nat) : Int))) := List.getElem?_set_self (by rw [List.length_set]; omega)
    have gs : gSum [.lst (ws0.map fun w => .int ((w : Nat) : Int))] = some (.int ((ws0.sum : Nat) : Int)) := by
      have e1 : (ws0.map fun w => D.int ((w : Nat) : Int)) = (ws0.map fun w => ((w : Nat) : Int)).map .int := by rw [List.map_map]; rfl
      have e2 : ∀ l : List Nat, (l.map fun w => ((w : Nat) : Int)).sum = ((l.sum : Nat) : Int) := by
        intro l
        induction l with
        | nil => rfl
        | cons a l ih => simp only [List.map_cons, List.sum_cons, ih]; omega
      show (asIs _).map _ = _
      rw [e1, asIs_map]
      show some (D.int _) = _
      rw [e2]
    have ef := frac_w (hw w (List.mem_cons_self ..)) s1 s2 x
    have em : mTup (mCons (mVar 4) (mCons (mDef 2 F_l_frac (mCons (mVar 5) (mCons (mCall gSum (mCons (mVar 3) mNil)) mNil))) mNil)) ((ρ.set 4 (.fz (.str n))).set 5 (.fz (.int ((w : Nat) : Int)))) x = .val (.tup [.str n, frD w ws0.sum]) x := by
      simp only [mTup, mBind, R.bind, mCons, mVar, mNil, mDef, mCall, h3', h4', h5', gs, o1, ef, List.length_cons, List.length_nil]
      rfl
    show (match mTup (mCons (mVar 4) (mCons (mDef 2 F_l_frac (mCons (mVar 5) (mCons (mCall gSum (mCons (mVar 3) mNil)) mNil))) mNil)) ((ρ.set 4 (.fz (.str n))).set 5 (.fz (.int ((w : Nat) : Int)))) x with
        | .val e x2 => if acc.length < big then lcRun (.tp [4, 5]) mYes (mTup (mCons (mVar 4) (mCons (mDef 2 F_l_frac (mCons (mVar 5) (mCons (mCall gSum (mCons (mVar 3) mNil)) mNil))) mNil))) ρ (zipD (ns.map .str) (ws.map fun w => .int ((w : Nat) : Int))) (acc ++ [e]) x2 else .out
        | _ => .out) = _
    rw [em]
    dsimp only
    rw [if_pos (bg _ (by omega)), ih, List.append_assoc]
    rfl
end GG

namespace GG
open PySem PySem.Spec L2 Mi
/-- SHARES as the law draws them -/
def Sh (d : D) : Prop := ∃ p ∈ SUBS, ∃ ws ∈ wss p.length, d = .tup (shL p ws)
def WM : MM D := mOp (fun a b => o1 (gAdd a b)) (mC (.int 1)) (mDef 2 F_l_take (mCons (mVar 0) (mCons (mC (.int 4)) mNil)))
def FM : MM D := mTup (mCons (mVar 4) (mCons (mDef 2 F_l_frac (mCons (mVar 5) (mCons (mCall gSum (mCons (mVar 3) mNil)) mNil))) mNil))
theorem M_shares_eq : M_l_shares = (mSeq (mAsg (.nm 2) (mCall gSorted (mCons (mDef 3 F_l_pick (mCons (mVar 0) (mCons (mVar 1) (mCons (mOp (fun a b => o1 (gAdd a b)) (mC (.int 1)) (mDef 2 F_l_take (mCons (mVar 0) (mCons (mC (.int 3)) mNil)))) mNil)))) mNil)))
    (mSeq (mAsg (.nm 3) (mLc (mIter (mVar 2)) (.nm 4) mYes WM [4]))
    (mRet (mCall gTuple (mCons (mLc (mBind (mCons (mVar 2) (mCons (mVar 3) mNil)) fun ds => oB (gZip ds)) (.tp [4, 5]) mYes FM [4, 5]) mNil))))) := rfl
theorem lc_of {mi : MM (List D)} {tg : Tg} {e : MM D} {own : List Nat} {ρ ρ1 : En} {x x1 x2 : Bx} {ds out : List D} (h1 : mi ρ x = .val ds x1) (h0 : wipeE (shut ρ) own = ρ1) (h2 : lcRun tg mYes e ρ1 ds [] x1 = .val out x2) : mLc mi tg mYes e own ρ x = .val (.lst out) x2 := by
  unfold mLc mLcL
  simp [mBind, h1, h0, h2, R.bind]
theorem sum_le : ∀ (ws : List Nat), (∀ w ∈ ws, w ∈ W4) → ws.length ≤ ws.sum ∧ ws.sum ≤ 4 * ws.length
  | [], _ => by simp
  | w :: ws, h => by
    have ih := sum_le ws fun v hv => h v (List.mem_cons_of_mem _ hv)
    have hw := h w (List.mem_cons_self ..)
    simp only [W4, List.mem_cons, List.not_mem_nil, or_false] at hw
    simp only [List.length_cons, List.sum_cons]
    omega
theorem shares_ok {k : Int} {x : Bx} (hi : Inv k x) (hk : k < 600000) {os : List Str} (h2 : 1 ≤ os.length) (h5 : os.length ≤ 5) (hn : os.Nodup) (hm : ∀ a ∈ os, a ∈ NAMES) :
    ∃ (d : D) (x' : Bx), F_l_shares [.box, .lst (os.map .str)] x = .val d x' ∧ Sh d ∧ Inv (k + 8) x' := by
  obtain ⟨r, x1, hr, e1, i1⟩ := take' hi (by omega) 3 (by decide) (by decide)
  obtain ⟨new, rest, x2, e2, l2, pm, i2⟩ := pick_ok i1 (by omega) os h5 (r + 1) (by omega)
  have hnn : (new ++ rest).Nodup := pm.nodup_iff.mpr hn
  have hp : srtS new ∈ SUBS := subs_ok (List.nodup_append.mp hnn).1 (fun a ha => hm a (pm.mem_iff.mp (List.mem_append_left _ ha))) (by omega) (by omega)
  have lp : (srtS new).length = new.length := (srtS_perm new).length_eq
  obtain ⟨ws, x3, hw, lw, e3, i3⟩ := w_loop (ρ := [.fz .box, .fz (.lst (os.map .str)), .fz (.lst ((srtS new).map .str)), .un, .un, .un]) rfl ((srtS new).map .str) [] x2 (k + 1 + 4) i2 (by rw [List.length_map]; omega) (by rw [List.length_map]; show 0 + _ ≤ _; omega)
  rw [List.length_map] at lw i3
  obtain ⟨s1, s2⟩ := sum_le ws hw
  have e4 := p_loop (ρ := [.fz .box, .fz (.lst (os.map .str)), .fz (.lst ((srtS new).map .str)), .fz (.lst (ws.map fun w => .int ((w : Nat) : Int))), .un, .un]) (ws0 := ws) rfl (by simp) (by omega) (by omega) x3 (srtS new) ws [] hw (by show 0 + _ ≤ _; omega) (by omega)
  refine ⟨.tup (shL (srtS new) ws), x3, ?_, ⟨srtS new, hp, ws, by rw [← lw]; exact wss_mem hw, rfl⟩, ?_⟩
  · have e1' : F_l_take [.box, .int 3] x = .val (.int r) x1 := e1
    have ea : (1 : Int) + (r : Int) = ((r + 1 : Nat) : Int) := by omega
    have p1 : (mOp (fun a b => o1 (gAdd a b)) (mC (.int 1)) (mDef 2 F_l_take (mCons (mVar 0) (mCons (mC (.int 3)) mNil)))) [.fz .box, .fz (.lst (os.map .str)), .un, .un, .un, .un] x = .val (.int ((r + 1 : Nat) : Int)) x1 := by
      simp [mOp, mBind, R.bind, mC, mDef, mCons, mVar, mNil, e1', gAdd, gI, o1, ea]
    have gs : gSorted [.lst (new.map .str)] = some (.lst ((srtS new).map .str)) := by
      show (match asSs (new.map .str) with
        | some l => if l.length < 64 then some (D.lst ((srtS l).map .str)) else none
        | none => none) = _
      rw [asSs_map]
      exact if_pos (by omega)
    have p2 : (mCall gSorted (mCons (mDef 3 F_l_pick (mCons (mVar 0) (mCons (mVar 1) (mCons (mOp (fun a b => o1 (gAdd a b)) (mC (.int 1)) (mDef 2 F_l_take (mCons (mVar 0) (mCons (mC (.int 3)) mNil)))) mNil)))) mNil)) [.fz .box, .fz (.lst (os.map .str)), .un, .un, .un, .un] x = .val (.lst ((srtS new).map .str)) x2 := by
      revert p1
      generalize (mOp (fun a b => o1 (gAdd a b)) (mC (.int 1)) (mDef 2 F_l_take (mCons (mVar 0) (mCons (mC (.int 3)) mNil)))) = B
      intro p1
      revert e2 p1
      generalize ((r + 1 : Nat) : Int) = N
      intro e2 p1
      simp [mCall, mDef, mBind, R.bind, mCons, mVar, mNil, p1, e2, gs, o1]
    have p3 : mLc (mIter (mVar 2)) (.nm 4) mYes WM [4] [.fz .box, .fz (.lst (os.map .str)), .fz (.lst ((srtS new).map .str)), .un, .un, .un] x2 = .val (.lst (ws.map fun w => .int ((w : Nat) : Int))) x3 := lc_of (ds := (srtS new).map .str) rfl rfl e3
    have p4 : mLc (mBind (mCons (mVar 2) (mCons (mVar 3) mNil)) fun ds => oB (gZip ds)) (.tp [4, 5]) mYes FM [4, 5] [.fz .box, .fz (.lst (os.map .str)), .fz (.lst ((srtS new).map .str)), .fz (.lst (ws.map fun w => .int ((w : Nat) : Int))), .un, .un] x3 = .val (.lst (shL (srtS new) ws)) x3 := lc_of (ds := zipD ((srtS new).map .str) (ws.map fun w => .int ((w : Nat) : Int))) rfl rfl e4
    have e0 : F_l_shares [.box, .lst (os.map .str)] x = mirror 6 M_l_shares [.box, .lst (os.map .str)] x := rfl
    rw [e0, M_shares_eq]
    revert p2 p3 p4
    generalize (mCall gSorted (mCons (mDef 3 F_l_pick (mCons (mVar 0) (mCons (mVar 1) (mCons (mOp (fun a b => o1 (gAdd a b)) (mC (.int 1)) (mDef 2 F_l_take (mCons (mVar 0) (mCons (mC (.int 3)) mNil)))) mNil)))) mNil)) = A1
    generalize mLc (mIter (mVar 2)) (.nm 4) mYes WM [4] = A2
    generalize mLc (mBind (mCons (mVar 2) (mCons (mVar 3) mNil)) fun ds => oB (gZip ds)) (.tp [4, 5]) mYes FM [4, 5] = A3
    intro p2 p3 p4
    have es : startE 6 [.box, .lst (os.map .str)] = [.fz .box, .fz (.lst (os.map .str)), .un, .un, .un, .un] := rfl
    simp [mirror, es, mSeq, mAsg, mE, Tg.asg, p2, p3, mRet, mCall, mCons, mBind, R.bind, p4, mNil, gTuple, o1]
  · obtain ⟨a, b, c, d⟩ := i3
    exact ⟨a, b, c, by omega⟩
end GG

namespace GG
open PySem PySem.Spec L2 Mi
def okP (k : Nat) (d : D) : Prop := ∃ p, d.py = some p ∧ p.canLay0 = true ∧ p.depth ≤ k
def okPB (k : Nat) (d : D) : Bool := match d.py with
  | some p => p.canLay0 && decide (p.depth ≤ k)
  | none => false
theorem okPB_ok {k : Nat} {d : D} (h : okPB k d = true) : okP k d := by
  unfold okPB at h
  split at h
  · rename_i p e
    rw [Bool.and_eq_true] at h
    exact ⟨p, e, h.1, of_decide_eq_true h.2⟩
  · cases h
theorem eP : (SUBS.all fun p => (wss p.length).all fun ws => okPB 10 (.tup (shL p ws))) = true := by decide +kernel
theorem okPs {k : Nat} : ∀ (ds : List D), (∀ d ∈ ds, okP k d) → ∃ ps, D.pys ds = some ps ∧ PyData.canLayAll0 ps = true ∧ PyData.depthAll ps ≤ k
  | [], _ => ⟨[], rfl, by simp [PyData.canLayAll0], by simp [PyData.depthAll]⟩
  | d :: ds, h => by
    obtain ⟨p, e1, e2, e3⟩ := h d (List.mem_cons_self ..)
    obtain ⟨ps, f1, f2, f3⟩ := okPs ds fun d hd => h d (List.mem_cons_of_mem _ hd)
    refine ⟨p :: ps, by unfold D.pys; rw [e1, f1], by simp [PyData.canLayAll0, e2, f2], ?_⟩
    simp only [PyData.depthAll]
    omega
theorem okP_lst {k : Nat} {ds : List D} (h : ∀ d ∈ ds, okP k d) : okP (k + 1) (.lst ds) := by
  obtain ⟨ps, f1, f2, f3⟩ := okPs ds h
  exact ⟨.list ps, by unfold D.py; rw [f1]; rfl, by simp [PyData.canLay0, f2], by simp only [PyData.depth]; omega⟩
theorem okP_tup {k : Nat} {ds : List D} (h : ∀ d ∈ ds, okP k d) : okP (k + 1) (.tup ds) := by
  obtain ⟨ps, f1, f2, f3⟩ := okPs ds h
  exact ⟨.tuple ps, by unfold D.py; rw [f1]; rfl, by simp [PyData.canLay0, f2], by simp only [PyData.depth]; omega⟩
theorem okP_int (k : Nat) (i : Int) : okP (k + 1) (.int i) := ⟨.int i, rfl, by simp [PyData.canLay0], by simp [PyData.depth]⟩
theorem okP.mono {k l : Nat} {d : D} (h : okP k d) (e : k ≤ l) : okP l d := h.elim fun p ⟨a, b, c⟩ => ⟨p, a, b, Nat.le_trans c e⟩
theorem shp {k : Nat} {p : PyData} (h : p.canLay0 = true) (d : p.depth ≤ k) (hk : k ≤ 64) : SeqAt.shaped p = true := by
  unfold SeqAt.shaped
  rw [h, decide_eq_true (Nat.le_trans d hk)]
  rfl
theorem gEqB_of {k : Nat} {a b : D} (ha : okP k a) (hb : okP k b) (hk : k ≤ 64) : ∃ c, gEqB a b = some c := by
  obtain ⟨p, e1, e2, e3⟩ := ha
  obtain ⟨q, f1, f2, f3⟩ := hb
  exact ⟨PyData.eqv p q, by unfold gEqB; rw [e1, f1]; dsimp only; rw [shp e2 e3 hk, shp f2 f3 hk]; rfl⟩
theorem Sh.okP {d : D} (h : Sh d) : okP 10 d := by
  obtain ⟨p, hp, ws, hw, rfl⟩ := h
  exact okPB_ok (List.all_eq_true.mp (List.all_eq_true.mp eP p hp) ws hw)
theorem unD_ok (n : Nat) : okP 10 (unD n) := (okP_tup (k := 1) fun d hd => by
  simp only [List.mem_cons, List.not_mem_nil, or_false] at hd
  rcases hd with rfl | rfl <;> exact okP_int 0 _).mono (by decide)
def lay (e : Nat × D) : D := .tup [unD e.1, e.2]
theorem lay_ok {e : Nat × D} (h : Sh e.2) : okP 11 (lay e) := okP_tup fun d hd => by
  simp only [List.mem_cons, List.not_mem_nil, or_false] at hd
  rcases hd with rfl | rfl
  · exact unD_ok _
  · exact h.okP
theorem nil_eq {L : List (Nat × D)} (h : ∀ e ∈ L, Sh e.2) : gEqB (.lst (L.map lay)) (.lst []) = some L.isEmpty := by
  cases L with
  | nil => rfl
  | cons e L =>
    obtain ⟨p, e1, e2, e3⟩ := lay_ok (h e (List.mem_cons_self ..))
    obtain ⟨ps, f1, f2, f3⟩ := okPs (L.map lay) fun d hd => by
      obtain ⟨a, ha, rfl⟩ := List.mem_map.mp hd
      exact lay_ok (h a (List.mem_cons_of_mem _ ha))
    have g : (D.lst (lay e :: L.map lay)).py = some (.list (p :: ps)) := by
      unfold D.py D.pys
      rw [e1, f1]
      rfl
    have s : SeqAt.shaped (.list (p :: ps)) = true := shp (k := 12) (by simp [PyData.canLay0, PyData.canLayAll0, e2, f2]) (by simp only [PyData.depth, PyData.depthAll]; omega) (by decide)
    have g0 : (D.lst []).py = some (.list []) := rfl
    have s0 : SeqAt.shaped (.list []) = true := by decide
    show gEqB (.lst (lay e :: L.map lay)) (.lst []) = some false
    unfold gEqB
    rw [g, g0]
    dsimp only
    rw [s, s0]
    rfl
def lastN (n : Nat) : List (Nat × D) → Nat
  | [] => n
  | e :: L => lastN e.1 L
def Inc (n : Nat) : List (Nat × D) → Prop
  | [] => True
  | e :: L => n < e.1 ∧ Inc e.1 L
def Adj (p : Option D) : List (Nat × D) → Prop
  | [] => True
  | e :: L => (∀ d, p = some d → gEqB d e.2 = some false) ∧ Adj (some e.2) L
def lastS (p : Option D) : List (Nat × D) → Option D
  | [] => p
  | e :: L => lastS (some e.2) L
theorem Inc.app {m : Nat} {s : D} : ∀ {L : List (Nat × D)} {n : Nat}, Inc n L → lastN n L < m → Inc n (L ++ [(m, s)])
  | [], _, _, h => ⟨h, trivial⟩
  | _ :: _, _, h, h2 => ⟨h.1, Inc.app h.2 h2⟩
theorem Adj.app {m : Nat} {s : D} : ∀ {L : List (Nat × D)} {p : Option D}, Adj p L → (∀ d, lastS p L = some d → gEqB d s = some false) → Adj p (L ++ [(m, s)])
  | [], _, _, h => ⟨h, trivial⟩
  | _ :: _, _, h, h2 => ⟨h.1, Adj.app h.2 h2⟩
theorem lastN_app (m : Nat) (s : D) : ∀ (L : List (Nat × D)) (n : Nat), lastN n (L ++ [(m, s)]) = m
  | [], _ => rfl
  | e :: L, _ => lastN_app m s L e.1
theorem lastS_app (m : Nat) (s : D) : ∀ (L : List (Nat × D)) (p : Option D), lastS p (L ++ [(m, s)]) = some s
  | [], _ => rfl
  | e :: L, _ => lastS_app m s L (some e.2)
structure Good (L : List (Nat × D)) (n : Nat) : Prop where
  sh : ∀ e ∈ L, Sh e.2
  inc : Inc 0 L
  adj : Adj none L
  last : lastN 0 L = n
end GG

namespace GG
open PySem PySem.Spec L2 Mi
def kM1 : MM D := mBind (mC (.int 1)) fun d => o1 (gNeg d)
def kE0 : MM Bool := mBorT (mTst (mOp (fun a b => o1 (gEq a b)) (mVar 3) (mLst mNil)))
def kLs : MM D := mOp (fun a b => o1 (gIx a b)) (mIxO 3 kM1) (mC (.int 1))
def kTT : MM Bool := mTOr kE0 (mTst (mOp (fun a b => o1 (gNe a b)) kLs (mVar 6)))
def kTS : MM D := mDef 2 F_l_shares (mCons (mVar 0) (mCons (mVar 2) mNil))
def kR9 : MM D := mOp (fun a b => o1 (gAdd a b)) (mC (.int 1)) (mDef 2 F_l_take (mCons (mVar 0) (mCons (mC (.int 9)) mNil)))
def kO4 : MM D := mDef 2 F_l_of (mCons (mVar 0) (mCons (mLst (mCons (mC (.int 1)) (mCons (mC (.int 1)) (mCons (mC (.int 2)) (mCons (mC (.int 3)) mNil))))) mNil))
def kFr : MM D := mDef 2 F_l_frac (mCons kR9 (mCons kO4 mNil))
def kTH : MM D := mDef 2 F_l_plus (mCons (mVar 4) (mCons kFr mNil))
def kTA : MM D := mTup (mCons (mVar 4) (mCons (mVar 6) mNil))
def kTB : MS := mSeq (mAsg (.nm 6) kTS) (mIfS kTT (mSeq (mAsg (.nm 4) kTH) (mApp 3 kTA)) mNext)
theorem atI_last {L : List D} {d : D} : atI (L ++ [d]) (-1) = some d := by
  unfold atI ixN
  have h : (L ++ [d]).length = L.length + 1 := by simp
  rw [h, if_neg (by decide), if_pos (by omega)]
  have e : ((-1 : Int) + ((L.length + 1 : Nat) : Int)).toNat = L.length := by omega
  show (L ++ [d])[((-1 : Int) + ((L.length + 1 : Nat) : Int)).toNat]? = _
  rw [e, List.getElem?_append_right (Nat.le_refl _), Nat.sub_self]
  rfl
theorem split_last : ∀ (L : List (Nat × D)), L ≠ [] → ∃ M e, L = M ++ [e] := fun L h => ⟨L.dropLast, L.getLast h, (List.dropLast_concat_getLast h).symm⟩
variable {s0 s1 s2 s5 s6 : Slot} {x x' : Bx} {n : Nat}
theorem e0_val {L : List (Nat × D)} (h : ∀ e ∈ L, Sh e.2) : kE0 [s0, s1, s2, .ol (L.map lay), .fz (unD n), s5, s6] x = .val L.isEmpty x := by
  have e := nil_eq h
  unfold kE0
  cases s0 <;> cases s1 <;> cases s2 <;> simp [mBorT, frzS, allS, Slot.fzd, mTst, mOp, mBind, R.bind, mVar, mLst, mNil, bl, gEq, e, o1, gTst, oB]
theorem ls_val {M : List (Nat × D)} {e : Nat × D} : kLs [s0, s1, s2, .ol ((M ++ [e]).map lay), .fz (unD n), s5, s6] x = .val e.2 x := by
  have e1 : atI ((M ++ [e]).map lay) (-1) = some (lay e) := by
    rw [List.map_append]
    exact atI_last
  have e2 : gIx (lay e) (.int 1) = some e.2 := rfl
  unfold kLs kM1
  revert e1
  generalize (M ++ [e]).map lay = LL
  intro e1
  simp [mOp, mBind, R.bind, mIxO, mC, gNeg, o1, e1, e2]
theorem tt_val {L : List (Nat × D)} {own : D} (h : ∀ e ∈ L, Sh e.2) (ho : Sh own) : ∃ b, kTT [s0, s1, s2, .ol (L.map lay), .fz (unD n), s5, .fz own] x = .val b x ∧ (b = true → ∀ d, lastS none L = some d → gEqB d own = some false) ∧ (b = false → L ≠ []) := by
  have e0 := e0_val (s0 := s0) (s1 := s1) (s2 := s2) (s5 := s5) (s6 := .fz own) (x := x) (n := n) h
  by_cases hL : L = []
  · subst hL
    refine ⟨true, ?_, fun _ d hd => (nomatch hd), fun z => nomatch z⟩
    unfold kTT mTOr mBind
    rw [e0]
    rfl
  · obtain ⟨M, e, rfl⟩ := split_last L hL
    have hi : (M ++ [e]).isEmpty = false := by cases M <;> rfl
    obtain ⟨c, hc⟩ := gEqB_of (h e (by simp)).okP ho.okP (by decide)
    have ls := ls_val (s0 := s0) (s1 := s1) (s2 := s2) (s5 := s5) (s6 := .fz own) (x := x) (n := n) (M := M) (e := e)
    refine ⟨!c, ?_, fun hb d hd => ?_, fun _ => hL⟩
    · unfold kTT
      revert e0 ls
      generalize (M ++ [e]).map lay = LL
      generalize kE0 = A
      generalize kLs = B
      intro e0 ls
      simp [mTOr, mBind, R.bind, e0, hi, mTst, mOp, ls, mVar, gNe, hc, o1, gTst, oB]
    · rw [lastS_app] at hd
      cases hd
      cases c
      · exact hc
      · cases hb
theorem fr_val {k : Int} (hi : Inv k x) (hk : k < 500000) {s1 s2 s3 s4 s5 s6 : Slot} : ∃ m x', kFr [.fz .box, s1, s2, s3, s4, s5, s6] x = .val (unD m) x' ∧ m ∈ MS6 ∧ Inv (k + 2) x' := by
  obtain ⟨r, x1, hr, e1, i1⟩ := take' hi (by omega) 9 (by decide) (by decide)
  obtain ⟨d, hd, x2, e2, i2⟩ := of_ok i1 (by omega) [.int 1, .int 1, .int 2, .int 3] (by decide) (by decide)
  have e1' : F_l_take [.box, .int 9] x = .val (.int r) x1 := e1
  have ea : (1 : Int) + (r : Int) = ((r + 1 : Nat) : Int) := by omega
  have p1 : kR9 [.fz .box, s1, s2, s3, s4, s5, s6] x = .val (.int ((r + 1 : Nat) : Int)) x1 := by
    simp [kR9, mOp, mBind, R.bind, mC, mDef, mCons, mVar, mNil, e1', gAdd, gI, o1, ea]
  have p2 : kO4 [.fz .box, s1, s2, s3, s4, s5, s6] x1 = .val d x2 := by
    simp [kO4, mBind, R.bind, mC, mDef, mCons, mVar, mNil, mLst, bl, e2]
  have hs : ∃ s ∈ STEPS, D.int ((s.1 : Nat) : Int) = .int ((r + 1 : Nat) : Int) ∧ D.int ((s.2.1 : Nat) : Int) = d := by
    have hm : ∀ t ∈ [(r + 1, 1, 6 * (r + 1)), (r + 1, 2, 3 * (r + 1)), (r + 1, 3, 2 * (r + 1))], t ∈ STEPS := fun t ht => List.mem_flatMap.mpr ⟨r, List.mem_range.mpr hr, ht⟩
    simp only [List.mem_cons, List.not_mem_nil, or_false] at hd
    rcases hd with rfl | rfl | rfl | rfl
    · exact ⟨_, hm (r + 1, 1, 6 * (r + 1)) (by simp), rfl, rfl⟩
    · exact ⟨_, hm (r + 1, 1, 6 * (r + 1)) (by simp), rfl, rfl⟩
    · exact ⟨_, hm (r + 1, 2, 3 * (r + 1)) (by simp), rfl, rfl⟩
    · exact ⟨_, hm (r + 1, 3, 2 * (r + 1)) (by simp), rfl, rfl⟩
  obtain ⟨s, hs, f1, f2⟩ := hs
  have e3 := frac_at hs x2
  rw [f1, f2] at e3
  refine ⟨s.2.2, x2, ?_, step_mem hs, ?_⟩
  · unfold kFr
    revert p1 p2 e3
    generalize kR9 = A
    generalize kO4 = B
    generalize ((r + 1 : Nat) : Int) = N
    intro p1 p2 e3
    simp [mDef, mBind, R.bind, mCons, mNil, p1, p2, e3]
  · have e : k + 1 + 1 = k + 2 := by omega
    rw [← e]
    exact i2
theorem ms6_le {m : Nat} (h : m ∈ MS6) : 1 ≤ m ∧ m ≤ 54 := by
  simp only [MS6, List.mem_cons, List.not_mem_nil, or_false] at h
  omega
theorem tb_step {k : Int} (hi : Inv k x) (hk : k < 400000) {os : List Str} (h2 : 1 ≤ os.length) (h5 : os.length ≤ 5) (hn : os.Nodup) (hm : ∀ a ∈ os, a ∈ NAMES) {L : List (Nat × D)} (g : Good L n) (hb : n < 271) (hl : L.length < 100) :
    ∃ (L' : List (Nat × D)) (n' : Nat) (own : D) (x' : Bx), kTB [.fz .box, s1, .fz (.lst (os.map .str)), .ol (L.map lay), .fz (unD n), s5, s6] x = .nx [.fz .box, s1, .fz (.lst (os.map .str)), .ol (L'.map lay), .fz (unD n'), s5, .fz own] x' ∧ Good L' n' ∧ L' ≠ [] ∧ L'.length ≤ L.length + 1 ∧ n' ≤ n + 54 ∧ Inv (k + 10) x' := by
  obtain ⟨own, x1, e1, ho, i1⟩ := shares_ok hi (by omega) h2 h5 hn hm
  have p1 : kTS [.fz .box, s1, .fz (.lst (os.map .str)), .ol (L.map lay), .fz (unD n), s5, s6] x = .val own x1 := by
    simp [kTS, mDef, mBind, R.bind, mCons, mNil, mVar, e1]
  obtain ⟨b, p2, hbt, hbf⟩ := tt_val (s0 := .fz .box) (s1 := s1) (s2 := .fz (.lst (os.map .str))) (s5 := s5) (x := x1) (n := n) g.sh ho
  cases b with
  | false =>
    refine ⟨L, n, own, x1, ?_, g, hbf rfl, Nat.le_succ _, Nat.le_add_right _ _, ?_⟩
    · unfold kTB
      revert p1 p2
      generalize kTS = A
      generalize kTT = B
      generalize L.map lay = LL
      intro p1 p2
      simp [mSeq, mAsg, mE, p1, Tg.asg, mIfS, p2, mNext]
    · obtain ⟨a, b, c, d⟩ := i1
      exact ⟨a, b, c, by omega⟩
  | true =>
    obtain ⟨m, x2, e3, hm6, i2⟩ := fr_val (s1 := s1) (s2 := .fz (.lst (os.map .str))) (s3 := .ol (L.map lay)) (s4 := .fz (unD n)) (s5 := s5) (s6 := .fz own) i1 (by omega)
    have hle := ms6_le hm6
    have e4 := plus_at hb hm6 x2
    have p3 : kTH [.fz .box, s1, .fz (.lst (os.map .str)), .ol (L.map lay), .fz (unD n), s5, .fz own] x1 = .val (unD (n + m)) x2 := by
      unfold kTH
      revert e3
      generalize kFr = A
      generalize L.map lay = LL
      intro e3
      simp [mDef, mBind, R.bind, mCons, mNil, mVar, e3, e4]
    refine ⟨L ++ [(n + m, own)], n + m, own, x2, ?_, ⟨?_, g.inc.app (by rw [g.last]; omega), g.adj.app (hbt rfl), lastN_app _ _ _ _⟩, by simp, by simp, by omega, ?_⟩
    · have hz : (L.map lay).length < big := by
        rw [List.length_map]
        exact bg _ (by omega)
      rw [List.map_append]
      show _ = RS.nx [.fz .box, s1, .fz (.lst (os.map .str)), .ol (L.map lay ++ [.tup [unD (n + m), own]]), .fz (unD (n + m)), s5, .fz own] x2
      unfold kTB
      revert p1 p2 p3 hz
      generalize kTS = A
      generalize kTT = B
      generalize kTH = C
      generalize L.map lay = LL
      intro p1 p2 p3 hz
      simp [mSeq, mAsg, mE, p1, Tg.asg, mIfS, p2, p3, mApp, kTA, mTup, mCons, mNil, mVar, mBind, R.bind, bl, hz]
    · intro e he
      rcases List.mem_append.mp he with h | h
      · exact g.sh e h
      · rw [List.mem_singleton] at h
        subst h
        exact ho
    · have e : k + 8 + 2 = k + 10 := by omega
      rw [← e]
      exact i2
end GG

namespace GG
open PySem PySem.Spec L2 Mi
variable {s1 s5 s6 : Slot} {x x' : Bx} {n : Nat}
theorem tb_loop {os : List Str} (h2 : 1 ≤ os.length) (h5 : os.length ≤ 5) (hn : os.Nodup) (hm : ∀ a ∈ os, a ∈ NAMES) : ∀ (ks : List D) {L : List (Nat × D)} {n : Nat} {s5 s6 : Slot} {x : Bx} {k : Int}, Inv k x → k + 10 * ks.length < 400000 → Good L n → n + 54 * ks.length < 325 → L.length + ks.length < 100 → (L ≠ [] ∨ ks ≠ []) →
    ∃ (L' : List (Nat × D)) (n' : Nat) (t5 t6 : Slot) (x' : Bx), loopS (.nm 5) kTB ks [.fz .box, s1, .fz (.lst (os.map .str)), .ol (L.map lay), .fz (unD n), s5, s6] x = .nx [.fz .box, s1, .fz (.lst (os.map .str)), .ol (L'.map lay), .fz (unD n'), t5, t6] x' ∧ Good L' n' ∧ L' ≠ [] ∧ L'.length ≤ L.length + ks.length ∧ n' ≤ n + 54 * ks.length ∧ Inv (k + 10 * ks.length) x'
  | [], L, n, s5, s6, x, k, hi, _, g, _, _, hne => ⟨L, n, s5, s6, x, rfl, g, hne.elim id fun z => absurd rfl z, Nat.le_refl _, Nat.le_refl _, by simpa using hi⟩
  | d :: ks, L, n, s5, s6, x, k, hi, hk, g, hb, hl, _ => by
    rw [List.length_cons] at hk hb hl
    obtain ⟨L1, n1, own, x1, e1, g1, ne1, l1, b1, i1⟩ := tb_step (s1 := s1) (s5 := .fz d) (s6 := s6) hi (by omega) h2 h5 hn hm g (by omega) (by omega)
    obtain ⟨L2, n2, t5, t6, x2, e2, g2, ne2, l2, b2, i2⟩ := tb_loop h2 h5 hn hm ks (s5 := .fz d) (s6 := .fz own) i1 (by omega) g1 (by omega) (by omega) (.inl ne1)
    refine ⟨L2, n2, t5, t6, x2, ?_, g2, ne2, by rw [List.length_cons]; omega, by rw [List.length_cons]; omega, ?_⟩
    · show (match kTB [.fz .box, s1, .fz (.lst (os.map .str)), .ol (L.map lay), .fz (unD n), .fz d, s6] x with
        | .nx ρ2 x2 => loopS (.nm 5) kTB ks ρ2 x2
        | .cnt ρ2 x2 => loopS (.nm 5) kTB ks ρ2 x2
        | .brk ρ2 x2 => .nx ρ2 x2
        | r => r) = _
      rw [e1]
      exact e2
    · have e : k + 10 + 10 * (ks.length : Int) = k + 10 * ((ks.length + 1 : Nat) : Int) := by omega
      rw [List.length_cons, ← e]
      exact i2
/-- a TABLE as the law draws it -/
def tabL (M : List (Nat × D)) (s : D) : List D := M.map lay ++ [.tup [.non, s]]
structure Tab (M : List (Nat × D)) (s : D) : Prop where
  good : ∃ n, n < 325 ∧ Good (M ++ [(n, s)]) n
  short : M.length ≤ 5
def kN : MM D := mOp (fun a b => o1 (gAdd a b)) (mC (.int 2)) (mDef 2 F_l_take (mCons (mVar 0) (mCons (mC (.int 3)) mNil)))
def kNm : MM D := mLst (mCons (mC (.str "a")) (mCons (mC (.str "bed")) (mCons (mC (.str "p")) (mCons (mC (.str "q")) (mCons (mC (.str "tub")) mNil)))))
def kPk : MM D := mDef 3 F_l_pick (mCons (mVar 0) (mCons kNm (mCons kN mNil)))
def kPar : MS := mParM 3 4 (mLstN mNil) (mTup (mCons (mC (.int 0)) (mCons (mC (.int 1)) mNil)))
def kTurns : MM D := mOp (fun a b => o1 (gAdd a b)) (mC (.int 1)) (mDef 2 F_l_take (mCons (mVar 0) (mCons (mVar 1) mNil)))
def kIt : MM (List D) := mBind (mCons kTurns mNil) fun ds => oB (gRng ds)
def kSt : MS := mSetI 3 kM1 (mTup (mCons (mC .non) (mCons kLs mNil)))
def kRt : MS := fun ρ x => (mRet (mCall gTuple (mCons (mVar 3) mNil))) (frzS allS ρ) x
theorem M_table_eq : M_l_table = mSeq (mAsg (.nm 2) kPk) (mSeq kPar (mSeq (mFor kIt (.nm 5) kTB) (mSeq kSt kRt))) := rfl
theorem st_val {M : List (Nat × D)} {e : Nat × D} {s0 s2 s4 : Slot} {n : Nat} : kSt [s0, s1, s2, .ol ((M ++ [e]).map lay), .fz (unD n), s5, s6] x = .nx [s0, s1, s2, .ol (tabL M e.2), .fz (unD n), s5, s6] x := by
  have ls := ls_val (s0 := s0) (s1 := s1) (s2 := s2) (s5 := s5) (s6 := s6) (x := x) (n := n) (M := M) (e := e)
  have hx : ixN ((M ++ [e]).map lay).length (-1) = some M.length := by
    rw [List.length_map]
    unfold ixN
    have h : (M ++ [e]).length = M.length + 1 := by simp
    rw [h, if_neg (by decide), if_pos (by omega)]
    show some ((-1 : Int) + ((M.length + 1 : Nat) : Int)).toNat = _
    have e : ((-1 : Int) + ((M.length + 1 : Nat) : Int)).toNat = M.length := by omega
    rw [e]
  have hs : ((M ++ [e]).map lay).set M.length (.tup [.non, e.2]) = tabL M e.2 := by
    unfold tabL
    rw [List.map_append, List.set_append_right _ _ (by rw [List.length_map]; exact Nat.le_refl _), List.length_map, Nat.sub_self]
    rfl
  unfold kSt kM1
  revert ls hx hs
  generalize (M ++ [e]).map lay = LL
  generalize kLs = A
  intro ls hx hs
  simp [mSetI, mE, mTup, mCons, mBind, R.bind, mC, ls, mNil, bl, gNeg, o1, hx, hs]
theorem table_ok {k : Int} (hi : Inv k x) (hk : k < 300000) : ∃ (M : List (Nat × D)) (s : D) (x' : Bx), F_l_table [.box, .int 6] x = .val (.tup (tabL M s)) x' ∧ Tab M s ∧ Inv (k + 70) x' := by
  obtain ⟨r, x1, hr, e1, i1⟩ := take' hi (by omega) 3 (by decide) (by decide)
  obtain ⟨os, rest, x2, e2, l2, pm, i2⟩ := pick_ok i1 (by omega) NAMES (by decide) (r + 2) (by omega)
  have hN5 : NAMES.length = 5 := rfl
  have hNd : NAMES.Nodup := by
    have : (NAMES.map TL.tl).Nodup := by decide
    exact List.Pairwise.of_map TL.tl (fun a b h z => h (by rw [z])) this
  have hnn : (os ++ rest).Nodup := pm.nodup_iff.mpr hNd
  obtain ⟨t, x3, ht, e3, i3⟩ := take' i2 (by omega) 6 (by decide) (by decide)
  obtain ⟨ks, ek, hks⟩ := gRng_m (m := t + 1) (by omega)
  have g0 : Good [] 0 := ⟨by simp, trivial, trivial, rfl⟩
  obtain ⟨L, n, t5, t6, x4, e4, g4, ne4, l4, b4, i4⟩ := tb_loop (s1 := .fz (.int 6)) (s5 := .un) (s6 := .un) (by omega) (by omega) (List.nodup_append.mp hnn).1 (fun a ha => pm.mem_iff.mp (List.mem_append_left _ ha)) ks i3 (by omega) g0 (by omega) (by simp; omega) (.inr (by intro z; rw [z] at hks; simp at hks))
  obtain ⟨M, e, rfl⟩ := split_last L ne4
  have ln : e.1 = n := by
    have h := g4.last
    obtain ⟨a, b⟩ := e
    rw [lastN_app] at h
    exact h
  have sv := st_val (s0 := .fz .box) (s1 := .fz (.int 6)) (s2 := .fz (.lst (os.map .str))) (s4 := .un) (s5 := t5) (s6 := t6) (x := x4) (n := n) (M := M) (e := e)
  refine ⟨M, e.2, x4, ?_, ⟨⟨n, by omega, by rw [← ln] at g4 ⊢; exact g4⟩, ?_⟩, ?_⟩
  · have e1' : F_l_take [.box, .int 3] x = .val (.int r) x1 := e1
    have e3' : F_l_take [.box, .int 6] x2 = .val (.int t) x3 := e3
    have ea : (2 : Int) + (r : Int) = ((r + 2 : Nat) : Int) := by omega
    have et : (1 : Int) + (t : Int) = ((t + 1 : Nat) : Int) := by omega
    have p1 : kN [.fz .box, .fz (.int 6), .un, .un, .un, .un, .un] x = .val (.int ((r + 2 : Nat) : Int)) x1 := by
      simp [kN, mOp, mBind, R.bind, mC, mDef, mCons, mVar, mNil, e1', gAdd, gI, o1, ea]
    have p2 : kNm [.fz .box, .fz (.int 6), .un, .un, .un, .un, .un] x = .val (.lst (NAMES.map .str)) x := by
      simp [kNm, NAMES, mLst, mBind, R.bind, mC, mCons, mNil, bl]
    have p3 : kPk [.fz .box, .fz (.int 6), .un, .un, .un, .un, .un] x = .val (.lst (os.map .str)) x2 := by
      unfold kPk
      revert p1 p2 e2
      generalize kN = A
      generalize kNm = B
      generalize ((r + 2 : Nat) : Int) = N
      generalize NAMES.map D.str = NN
      intro p1 p2 e2
      simp [mDef, mBind, R.bind, mCons, mVar, mNil, p1, p2, e2]
    have p4 : kPar [.fz .box, .fz (.int 6), .fz (.lst (os.map .str)), .un, .un, .un, .un] x2 = .nx [.fz .box, .fz (.int 6), .fz (.lst (os.map .str)), .ol [], .fz (unD 0), .un, .un] x2 := by
      have u0 : unD 0 = .tup [.int 0, .int 1] := rfl
      rw [u0]
      simp [kPar, mParM, mE, mLstN, mNil, mBind, R.bind, bl, mTup, mCons, mC]
    have p5 : kTurns [.fz .box, .fz (.int 6), .fz (.lst (os.map .str)), .ol [], .fz (unD 0), .un, .un] x2 = .val (.int ((t + 1 : Nat) : Int)) x3 := by
      simp [kTurns, mOp, mBind, R.bind, mC, mDef, mCons, mVar, mNil, e3', gAdd, gI, o1, et]
    have p6 : kIt [.fz .box, .fz (.int 6), .fz (.lst (os.map .str)), .ol [], .fz (unD 0), .un, .un] x2 = .val ks x3 := rng_of p5 ek
    have p7 : kRt [.fz .box, .fz (.int 6), .fz (.lst (os.map .str)), .ol (tabL M e.2), .fz (unD n), t5, t6] x4 = .ret (.tup (tabL M e.2)) x4 := by
      generalize tabL M e.2 = TT
      cases t5 <;> cases t6 <;> simp [kRt, frzS, allS, Slot.fzd, mRet, mE, mCall, mBind, R.bind, mCons, mVar, mNil, gTuple, o1]
    have e0 : F_l_table [.box, .int 6] x = mirror 7 M_l_table [.box, .int 6] x := rfl
    rw [e0, M_table_eq]
    have es : startE 7 [.box, .int 6] = [.fz .box, .fz (.int 6), .un, .un, .un, .un, .un] := rfl
    simp only [List.map_nil] at e4
    revert p3 p4 p6 e4 sv p7
    generalize kPk = A1
    generalize kPar = A2
    generalize kIt = A3
    generalize kTB = A4
    generalize kSt = A5
    generalize kRt = A6
    generalize (M ++ [e]).map lay = LL
    generalize tabL M e.2 = TT
    intro p3 p4 p6 e4 sv p7
    simp [mirror, es, mSeq, mAsg, mE, p3, Tg.asg, p4, mFor, p6, e4, sv, p7]
  · have : (M ++ [e]).length = M.length + 1 := by simp
    simp only [List.length_nil] at l4
    omega
  · obtain ⟨a, b, c, d⟩ := i4
    exact ⟨a, b, c, by omega⟩
end GG

namespace GG
open PySem PySem.Spec L2 Mi
theorem lc_map {tg : Tg} {e : MM D} {ρ : En} {x : Bx} {f : D → D} : ∀ (ds acc : List D), (∀ d ∈ ds, ∃ ρ1, tg.asg d ρ = some ρ1 ∧ e ρ1 x = .val (f d) x) → acc.length + ds.length ≤ 100 → lcRun tg mYes e ρ ds acc x = .val (acc ++ ds.map f) x
  | [], acc, _, _ => by
    show (R.val acc x : R (List D)) = .val (acc ++ []) x
    rw [List.append_nil]
  | d :: ds, acc, h, hl => by
    rw [List.length_cons] at hl
    obtain ⟨ρ1, h1, h2⟩ := h d (List.mem_cons_self ..)
    have ih := lc_map (tg := tg) (e := e) (ρ := ρ) (x := x) (f := f) ds (acc ++ [f d]) (fun d hd => h d (List.mem_cons_of_mem _ hd)) (by rw [List.length_append]; show acc.length + 1 + _ ≤ _; omega)
    unfold lcRun
    rw [h1]
    show (match e ρ1 x with
      | .val e2 x2 => if acc.length < big then lcRun tg mYes e ρ ds (acc ++ [e2]) x2 else .out
      | _ => .out) = _
    rw [h2]
    dsimp only
    rw [if_pos (bg _ (by omega)), ih, List.append_assoc]
    rfl
theorem asBs_map (f : D → Bool) : ∀ l : List D, asBs (l.map fun d => .bl (f d)) = some (l.map f)
  | [] => rfl
  | a :: l => by
    show asBs (.bl (f a) :: l.map fun d => .bl (f d)) = _
    unfold asBs
    rw [asBs_map f l]
    rfl
def oD : Option Nat → D
  | none => .non
  | some n => unD n
def lay' (e : Option Nat × D) : D := .tup [oD e.1, e.2]
structure Ly (e : Option Nat × D) : Prop where
  sh : Sh e.2
  lt : ∀ n, e.1 = some n → n < 325
theorem Sh.chk {l : D} (h : Sh l) : ∃ ps, l = .tup ps ∧ chkS ps = true := by
  obtain ⟨p, hp, ws, hw, rfl⟩ := h
  exact ⟨_, rfl, List.all_eq_true.mp (List.all_eq_true.mp eS p hp) ws hw⟩
theorem Sh.yes {s : D} (h : Sh s) (x : Bx) : F_is_shares [s] x = .val (.bl true) x := by
  obtain ⟨ps, rfl, hc⟩ := h.chk
  unfold chkS at hc
  simp only [Bool.and_eq_true]
    at hc
  exact okv_at pu_is_shares hc.1.1.1.1 x
theorem amount_at {n : Nat} (h : n < 325) (x : Bx) : F_is_amount [unD n] x = .val (.bl true) x := by
  have h1 := List.all_eq_true.mp eB n (List.mem_range.mpr h)
  rw [Bool.and_eq_true] at h1
  exact okv_at pu_is_amount h1.1 x
theorem layer2 {u s : D} {a b : Bool} {x : Bx} (hu : u = .non ∧ a = true ∨ gIsN u .non = some (.bl false) ∧ ∀ x, F_is_amount [u] x = .val (.bl a) x) (hs : ∀ x, F_is_shares [s] x = .val (.bl b) x) : F_p_is_layer [.tup [u, s]] x = .val (.bl (a && b)) x := by
  have g0 : gIx (.tup [u, s]) (.int 0) = some u := rfl
  have g1 : gIx (.tup [u, s]) (.int 1) = some s := rfl
  have g2 : gIsN D.non .non = some (.bl true) := rfl
  rcases hu with ⟨rfl, rfl⟩ | ⟨e1, e2⟩
  · simp [F_p_is_layer, M_p_is_layer, mirror, startE, mSeq, mIfS, mE, mTOr, mTNot, mTru, mIsi, mVar, mBind, R.bind, o1, oB, gTru, isi1_t_tup, mTst, mOp, gNe, gEqB_int, mCall, mCons, mNil, gLen, mC, gTst, mNext, mRet, mAndV, mOrV, asB, g0, g1, g2, mDef, hs]
  · cases a <;> simp [F_p_is_layer, M_p_is_layer, mirror, startE, mSeq, mIfS, mE, mTOr, mTNot, mTru, mIsi, mVar, mBind, R.bind, o1, oB, gTru, isi1_t_tup, mTst, mOp, gNe, gEqB_int, mCall, mCons, mNil, gLen, mC, gTst, mNext, mRet, mAndV, mOrV, asB, g0, g1, g2, mDef, hs, e1, e2]
end GG

namespace GG
open PySem PySem.Spec L2 Mi
theorem is_non (o : Option Nat) : gIsN (oD o) .non = some (.bl o.isNone) := by
  cases o <;> rfl
theorem layer_yes {e : Option Nat × D} (h : Ly e) (x : Bx) : F_p_is_layer [lay' e] x = .val (.bl true) x := by
  obtain ⟨o, s⟩ := e
  have hs := fun x => h.sh.yes x
  cases o with
  | none => exact layer2 (a := true) (b := true) (.inl ⟨rfl, rfl⟩) hs
  | some n => exact layer2 (a := true) (b := true) (.inr ⟨rfl, fun x => amount_at (h.lt n rfl) x⟩) hs
def jLY : MM D := mDef 1 F_p_is_layer (mCons (mVar 4) mNil)
def jA : MM Bool := mTOr (mTNot (mTru (mIsi "tuple" (mVar 0)))) (mTst (mOp (fun a b => o1 (gEq a b)) (mCall gLen (mCons (mVar 0) mNil)) (mC (.int 0))))
def jBl : MM D := mLc (mIter (mVar 0)) (.nm 4) mYes jLY [4]
def jB : MM Bool := mTNot (mTru (mCall gAll (mCons jBl mNil)))
def jC1 : MM Bool := mTst (mOp (fun a b => o1 (gNotN a b)) (mOp (fun a b => o1 (gIx a b)) (mOp (fun a b => o1 (gIx a b)) (mVar 0) kM1) (mC (.int 0))) (mC .non))
def jSl : MM D := mSlice (mVar 0) mNoPart (mPart kM1)
def jCl : MM D := mLc (mIter jSl) (.tp [2, 3]) mYes (mOp (fun a b => o1 (gIsN a b)) (mVar 2) (mC .non)) [2, 3]
def jC : MM Bool := mTOr jC1 (mTru (mCall gAny (mCons jCl mNil)))
def jD : MM D := mC (.tup ([0, 1].map D.int))
def jF : MS := mSeq (mIfS (mTNot (mTru (mDef 2 F_is_less (mCons (mVar 1) (mCons (mVar 2) mNil))))) (mRet (mC (.bl false))) mNext) (mAsg (.nm 1) (mVar 2))
def jR : MM D := mOp (fun a b => o1 (gEq a b)) (mCall gLen (mCons (mDef 1 F_united (mCons (mVar 0) mNil)) mNil)) (mCall gLen (mCons (mVar 0) mNil))
def jNo : MS := mRet (mC (.bl false))
theorem M_is_table_eq : M_is_table = mSeq (mIfS jA jNo mNext) (mSeq (mIfS jB jNo mNext) (mSeq (mIfS jC jNo mNext) (mSeq (mAsg (.nm 1) jD) (mSeq (mFor (mIter jSl) (.tp [2, 3]) jF) (mRet jR))))) := rfl
variable {x : Bx} {Ls : List D} {s1 s2 s3 s4 : Slot}
theorem a_val : jA [.fz (.tup Ls), s1, s2, s3, s4] x = .val Ls.isEmpty x := by
  cases Ls <;> simp [jA, mTOr, mTNot, mTru, mIsi, mVar, mBind, R.bind, o1, oB, gTru, isi1_t_tup, mTst, mOp, gEq, gEqB_int, mCall, mCons, mNil, gLen, mC, gTst]
  omega
theorem bl_val {lb : D → Bool} (h : ∀ L ∈ Ls, F_p_is_layer [L] x = .val (.bl (lb L)) x) (hl : Ls.length ≤ 90) : jBl [.fz (.tup Ls), .un, .un, .un, .un] x = .val (.lst (Ls.map fun L => .bl (lb L))) x := by
  have run := lc_map (tg := .nm 4) (e := jLY) (ρ := [.fz (.tup Ls), .un, .un, .un, .un]) (x := x) (f := fun L => .bl (lb L)) Ls [] (fun L hL => ⟨[.fz (.tup Ls), .un, .un, .un, .fz L], rfl, by
    simp [jLY, mDef, mBind, R.bind, mCons, mVar, mNil, h L hL]⟩) (by show 0 + _ ≤ _; omega)
  exact lc_of (ds := Ls) rfl rfl run
theorem b_val {lb : D → Bool} (h : ∀ L ∈ Ls, F_p_is_layer [L] x = .val (.bl (lb L)) x) (hl : Ls.length ≤ 90) : jB [.fz (.tup Ls), .un, .un, .un, .un] x = .val (!Ls.all lb) x := by
  have e := bl_val h hl
  unfold jB
  revert e
  generalize jBl = B
  intro e
  have ea : (Ls.map lb).all id = Ls.all lb := by
    rw [List.all_map]
    rfl
  simp [mTNot, mTru, mCall, mCons, mBind, R.bind, mNil, e, gAll, asBs_map, o1, oB, gTru, ea]
theorem bad_layer {lb : D → Bool} (h : ∀ L ∈ Ls, F_p_is_layer [L] x = .val (.bl (lb L)) x) (hl : Ls.length ≤ 90) (hn : Ls.all lb = false) : F_is_table [.tup Ls] x = .val (.bl false) x := by
  have e1 := a_val (Ls := Ls) (s1 := .un) (s2 := .un) (s3 := .un) (s4 := .un) (x := x)
  have e2 := b_val h hl
  rw [hn] at e2
  have hE : Ls.isEmpty = false := by
    cases Ls
    · cases hn
    · rfl
  rw [hE] at e1
  have e0 : F_is_table [.tup Ls] x = mirror 5 M_is_table [.tup Ls] x := rfl
  rw [e0, M_is_table_eq]
  have es : startE 5 [.tup Ls] = [.fz (.tup Ls), .un, .un, .un, .un] := rfl
  revert e1 e2
  generalize jA = A
  generalize jB = B
  generalize jC = C
  generalize jF = F
  generalize jR = G
  intro e1 e2
  simp [mirror, es, mSeq, mIfS, mE, e1, e2, jNo, mRet, mC, mNext]
theorem gcut_last {A : List D} {l : D} : gCut none (some (-1)) (.tup (A ++ [l])) = some (.tup A) := by
  have h : (A ++ [l]).length = A.length + 1 := by simp
  have c : cutD (A ++ [l]) none (some (-1)) = A := by
    unfold cutD HT.sIx
    rw [h]
    have e : (-1 + ((A.length : Int) + 1)).toNat = A.length := by omega
    simp [e]
  show (some (D.tup (cutD (A ++ [l]) none (some (-1)))) : Option D) = _
  rw [c]
theorem sl_val {A : List D} {l : D} : jSl [.fz (.tup (A ++ [l])), s1, s2, s3, s4] x = .val (.tup A) x := by
  have e := gcut_last (A := A) (l := l)
  unfold jSl kM1
  generalize A ++ [l] = LL at *
  simp [mSlice, mNoPart, mPart, mVar, mBind, R.bind, mC, gNeg, o1, e]
theorem c_val {A : List (Option Nat × D)} {l : Option Nat × D} (hl : A.length ≤ 90) : jC [.fz (.tup (A.map lay' ++ [lay' l])), .un, .un, .un, .un] x = .val (!l.1.isNone || A.any fun e => e.1.isNone) x := by
  have e1 : atI (A.map lay' ++ [lay' l]) (-1) = some (lay' l) := atI_last
  have e2 : gIx (lay' l) (.int 0) = some (oD l.1) := rfl
  have e3 : gNotN (oD l.1) .non = some (.bl (!l.1.isNone)) := by
    cases l.1 <;> rfl
  have p1 : jC1 [.fz (.tup (A.map lay' ++ [lay' l])), .un, .un, .un, .un] x = .val (!l.1.isNone) x := by
    unfold jC1 kM1
    revert e1
    generalize A.map lay' ++ [lay' l] = LL
    intro e1
    have e1' : gIx (.tup LL) (.int (-1)) = some (lay' l) := e1
    simp [mTst, mOp, mBind, R.bind, mVar, mC, gNeg, o1, e1', e2, e3, gTst, oB]
  have p2 := sl_val (A := A.map lay') (l := lay' l) (s1 := .un) (s2 := .un) (s3 := .un) (s4 := .un) (x := x)
  have run := lc_map (tg := .tp [2, 3]) (e := mOp (fun a b => o1 (gIsN a b)) (mVar 2) (mC .non)) (ρ := [.fz (.tup (A.map lay' ++ [lay' l])), .un, .un, .un, .un]) (x := x) (f := fun d => match d with
    | .tup [u, _] => .bl (match u with
      | .non => true
      | _ => false)
    | _ => .non) (A.map lay') [] (fun d hd => by
      obtain ⟨e, he, rfl⟩ := List.mem_map.mp hd
      refine ⟨[.fz (.tup (A.map lay' ++ [lay' l])), .un, .fz (oD e.1), .fz e.2, .un], rfl, ?_⟩
      obtain ⟨o, s⟩ := e
      cases o <;> rfl) (by rw [List.length_map]; show 0 + _ ≤ _; omega)
  have p3 : jCl [.fz (.tup (A.map lay' ++ [lay' l])), .un, .un, .un, .un] x = .val (.lst (A.map fun e => .bl e.1.isNone)) x := by
    have e : ([] : List D) ++ (A.map lay').map (fun d => match d with
      | .tup [u, _] => D.bl (match u with
        | .non => true
        | _ => false)
      | _ => .non) = A.map fun e => .bl e.1.isNone := by
      rw [List.nil_append, List.map_map]
      apply List.map_congr_left
      intro a _
      obtain ⟨o, s⟩ := a
      cases o <;> rfl
    rw [e] at run
    refine lc_of (ds := A.map lay') ?_ rfl run
    unfold mIter
    show mBind jSl _ _ _ = _
    unfold mBind
    rw [p2]
    rfl
  have ea : ∀ B : List (Option Nat × D), asBs (B.map fun e => D.bl e.1.isNone) = some (B.map fun e => e.1.isNone) := by
    intro B
    induction B with
    | nil => rfl
    | cons b B ih =>
      show asBs (.bl b.1.isNone :: B.map fun e => D.bl e.1.isNone) = _
      unfold asBs
      rw [ih]
      rfl
  have p4 : mTru (mCall gAny (mCons jCl mNil)) [.fz (.tup (A.map lay' ++ [lay' l])), .un, .un, .un, .un] x = .val (A.any fun e => e.1.isNone) x := by
    have eb : (A.map fun e => e.1.isNone).any id = A.any fun e => e.1.isNone := by
      rw [List.any_map]
      rfl
    revert p3
    generalize jCl = B
    intro p3
    simp [mTru, mCall, mCons, mBind, R.bind, mNil, p3, gAny, ea, o1, oB, gTru, eb]
  unfold jC
  revert p1 p4
  generalize jC1 = B
  generalize mTru (mCall gAny (mCons jCl mNil)) = E
  intro p1 p4
  cases hz : l.1.isNone <;> simp [mTOr, mBind, R.bind, p1, p4, hz]
end GG

namespace GG
open PySem PySem.Spec L2 Mi
variable {x : Bx} {s0 s1 s2 s3 s4 : Slot}
theorem un_pos (n : Nat) : 1 ≤ (un n).2 ∧ (un n).2 ≤ 6 ∧ (un n).1 ≤ n ∧ (un n).1 * 6 = n * (un n).2 := by
  unfold un
  split
  · refine ⟨?_, ?_, ?_, ?_⟩ <;> dsimp only <;> omega
  · split
    · refine ⟨?_, ?_, ?_, ?_⟩ <;> dsimp only <;> omega
    · split
      · refine ⟨?_, ?_, ?_, ?_⟩ <;> dsimp only <;> omega
      · refine ⟨?_, ?_, ?_, ?_⟩ <;> dsimp only <;> omega
theorem cross {a b c d n m : Nat} (hb : 1 ≤ b) (hd : 1 ≤ d) (h1 : a * 6 = n * b) (h2 : c * 6 = m * d) : a * d < c * b ↔ n < m := by
  have e1 : a * d * 6 = n * (b * d) := by rw [Nat.mul_right_comm, h1, Nat.mul_assoc]
  have e2 : c * b * 6 = m * (b * d) := by rw [Nat.mul_right_comm, h2, Nat.mul_assoc, Nat.mul_comm d b]
  have e3 : a * d < c * b ↔ n * (b * d) < m * (b * d) := by
    rw [← e1, ← e2]
    omega
  rw [e3]
  exact Nat.mul_lt_mul_right (Nat.mul_pos hb hd)
theorem less_gen (a b c d : Int) (k1 : okMul a d = true) (k2 : okMul c b = true) (x : Bx) : F_is_less [.tup [.int a, .int b], .tup [.int c, .int d]] x = .val (.bl (decide (a * d < c * b))) x := by
  have e1 : gIx (.tup [.int a, .int b]) (.int 0) = some (.int a) := rfl
  have e2 : gIx (.tup [.int a, .int b]) (.int 1) = some (.int b) := rfl
  have e3 : gIx (.tup [.int c, .int d]) (.int 0) = some (.int c) := rfl
  have e4 : gIx (.tup [.int c, .int d]) (.int 1) = some (.int d) := rfl
  have g : gLt (.int (a * d)) (.int (c * b)) = some (.bl (decide (a * d < c * b))) := rfl
  simp [F_is_less, M_is_less, mirror, startE, mRet, mE, mOp, mBind, R.bind, mVar, mC, o1, e1, e2, e3, e4, gMulI, gI, k1, k2, g]
theorem less_at (n m : Nat) (hn : n < 1000) (hm : m < 1000) (x : Bx) : F_is_less [unD n, unD m] x = .val (.bl (decide (n < m))) x := by
  obtain ⟨a1, a2, a3, a4⟩ := un_pos n
  obtain ⟨b1, b2, b3, b4⟩ := un_pos m
  have h := less_gen ((un n).1 : Nat) ((un n).2 : Nat) ((un m).1 : Nat) ((un m).2 : Nat) (okMul_r (by omega)) (okMul_r (by omega)) x
  have hz : (((un n).1 : Nat) : Int) * ((un m).2 : Nat) < ((un m).1 : Nat) * ((un n).2 : Nat) ↔ n < m := by
    rw [← cross a1 b1 a4 b4, ← Int.natCast_mul, ← Int.natCast_mul]
    exact Int.ofNat_lt
  have hd : decide ((((un n).1 : Nat) : Int) * ((un m).2 : Nat) < ((un m).1 : Nat) * ((un n).2 : Nat)) = decide (n < m) := by
    by_cases h : n < m
    · rw [decide_eq_true h, decide_eq_true (hz.mpr h)]
    · rw [decide_eq_false h, decide_eq_false fun z => h (hz.mp z)]
  rw [hd] at h
  exact h
theorem f_yes0 {T s a b : D} {FL : Mr} (l : FL [a, b] x = .val (.bl true) x) : (mSeq (mIfS (mTNot (mTru (mDef 2 FL (mCons (mVar 1) (mCons (mVar 2) mNil))))) (mRet (mC (.bl false))) mNext) (mAsg (.nm 1) (mVar 2))) [.fz T, .fz a, .fz b, .fz s, s4] x = .nx [.fz T, .fz b, .fz b, .fz s, s4] x := by
  simp [mSeq, mIfS, mE, mTNot, mTru, mDef, mBind, R.bind, mCons, mVar, mNil, l, gTru, oB, mNext, mAsg, Tg.asg]
theorem f_no0 {T s a b : D} {FL : Mr} (l : FL [a, b] x = .val (.bl false) x) : (mSeq (mIfS (mTNot (mTru (mDef 2 FL (mCons (mVar 1) (mCons (mVar 2) mNil))))) (mRet (mC (.bl false))) mNext) (mAsg (.nm 1) (mVar 2))) [.fz T, .fz a, .fz b, .fz s, s4] x = .ret (.bl false) x := by
  simp [mSeq, mIfS, mE, mTNot, mTru, mDef, mBind, R.bind, mCons, mVar, mNil, l, gTru, oB, mNext, mAsg, Tg.asg, mRet, mC]
theorem jF_eq : jF = mSeq (mIfS (mTNot (mTru (mDef 2 F_is_less (mCons (mVar 1) (mCons (mVar 2) mNil))))) (mRet (mC (.bl false))) mNext) (mAsg (.nm 1) (mVar 2)) := rfl
theorem f_yes {T s : D} {n m : Nat} (hn : n < 1000) (hm : m < 1000) (c : n < m) : jF [.fz T, .fz (unD n), .fz (unD m), .fz s, s4] x = .nx [.fz T, .fz (unD m), .fz (unD m), .fz s, s4] x := by
  have l := less_at n m hn hm x
  rw [decide_eq_true c] at l
  rw [jF_eq]
  exact f_yes0 l
theorem f_no {T s : D} {n m : Nat} (hn : n < 1000) (hm : m < 1000) (c : ¬ n < m) : jF [.fz T, .fz (unD n), .fz (unD m), .fz s, s4] x = .ret (.bl false) x := by
  have l := less_at n m hn hm x
  rw [decide_eq_false c] at l
  rw [jF_eq]
  exact f_no0 l
theorem l_step {T a b s : D} {B : MS} {ds : List D} : loopS (.tp [2, 3]) B (D.tup [b, s] :: ds) [.fz T, .fz a, s2, s3, s4] x = match B [.fz T, .fz a, .fz b, .fz s, s4] x with
        | .nx ρ2 x2 => loopS (.tp [2, 3]) B ds ρ2 x2
        | .cnt ρ2 x2 => loopS (.tp [2, 3]) B ds ρ2 x2
        | .brk ρ2 x2 => .nx ρ2 x2
        | r => r := rfl
end GG

namespace GG
open PySem PySem.Spec L2 Mi
variable {x : Bx} {s0 s1 s2 s3 s4 : Slot}
def incB (n : Nat) : List (Option Nat × D) → Bool
  | [] => true
  | e :: A => match e.1 with
    | none => false
    | some m => decide (n < m) && incB m A
theorem f_loop {T : D} (A : List (Option Nat × D)) : ∀ {n : Nat} {s2 s3 : Slot}, n < 1000 → (∀ e ∈ A, ∃ m, e.1 = some m ∧ m < 1000) →
    (incB n A = true → ∃ n' t2 t3, loopS (.tp [2, 3]) jF (A.map lay') [.fz T, .fz (unD n), s2, s3, s4] x = .nx [.fz T, .fz (unD n'), t2, t3, s4] x) ∧ (incB n A = false → loopS (.tp [2, 3]) jF (A.map lay') [.fz T, .fz (unD n), s2, s3, s4] x = .ret (.bl false) x) := by
  induction A with
  | nil => exact fun {n s2 s3} _ _ => ⟨fun _ => ⟨n, s2, s3, rfl⟩, fun h => nomatch h⟩
  | cons e A ih =>
    intro n s2 s3 hn h
    obtain ⟨m, em, hm⟩ := h e (List.mem_cons_self ..)
    obtain ⟨o, s⟩ := e
    dsimp only at em
    subst em
    obtain ⟨ih1, ih2⟩ := ih (n := m) (s2 := .fz (unD m)) (s3 := .fz s) hm fun e he => h e (List.mem_cons_of_mem _ he)
    have em : ((some m, s) :: A).map lay' = D.tup [unD m, s] :: A.map lay' := rfl
    rw [em, l_step]
    by_cases c : n < m
    · rw [f_yes hn hm c]
      have e1 : incB n ((some m, s) :: A) = incB m A := by
        show (decide (n < m) && incB m A) = _
        rw [decide_eq_true c]
        rfl
      rw [e1]
      exact ⟨ih1, ih2⟩
    · rw [f_no hn hm c]
      have e1 : incB n ((some m, s) :: A) = false := by
        show (decide (n < m) && incB m A) = _
        rw [decide_eq_false c]
        rfl
      rw [e1]
      exact ⟨fun z => (nomatch z), fun _ => rfl⟩
end GG

namespace GG
open PySem PySem.Spec L2 Mi
variable {x : Bx} {s0 s1 s2 s3 s4 : Slot}
/-! ### united -/
def uE1 : MM D := mOp (fun a b => o1 (gIx a b)) (mIxO 1 kM1) (mC (.int 1))
def uT1 : MM Bool := mTst (mOp (fun a b => o1 (gGt a b)) (mBor (mCall gLen (mCons (mVar 1) mNil))) (mC (.int 0)))
def uT2 : MM Bool := mTst (mOp (fun a b => o1 (gEq a b)) uE1 (mVar 3))
def uB : MS := mSeq (mIfS (mTAnd uT1 uT2) (mPop 1) mNext) (mApp 1 (mTup (mCons (mVar 2) (mCons (mVar 3) mNil))))
def uR : MS := fun ρ x => (mRet (mVar 1)) (frzS allS ρ) x
theorem M_united_eq : M_united = mSeq (mE (mLstN mNil) fun ds ρ x => .nx (ρ.set 1 (.ol ds)) x) (mSeq (mFor (mIter (mVar 0)) (.tp [2, 3]) uB) uR) := rfl
def eqT (a b : D) : Bool := match gEqB a b with
  | some c => c
  | none => false
def stp (p : Option D) (b : D) : Nat := match p with
  | some d => if eqT d b then 0 else 1
  | none => 1
def cnt (p : Option D) : List (Option Nat × D) → Nat
  | [] => 0
  | e :: G => stp p e.2 + cnt (some e.2) G
def lastO (p : Option D) : List (Option Nat × D) → Option D
  | [] => p
  | e :: G => lastO (some e.2) G
theorem lastO_app (e : Option Nat × D) : ∀ (A : List (Option Nat × D)) (p : Option D), lastO p (A ++ [e]) = some e.2
  | [], _ => rfl
  | a :: A, _ => lastO_app e A (some a.2)
theorem u_step {T : D} {acc : List (Option Nat × D)} {e : Option Nat × D} (ha : ∀ a ∈ acc, Sh a.2) (he : Sh e.2) (hl : acc.length < 100) : ∃ acc', uB [.fz T, .ol (acc.map lay'), .fz (oD e.1), .fz e.2] x = .nx [.fz T, .ol (acc'.map lay'), .fz (oD e.1), .fz e.2] x ∧ (∀ a ∈ acc', Sh a.2) ∧ lastO none acc' = some e.2 ∧ acc'.length = acc.length + stp (lastO none acc) e.2 := by
  have ap : ∀ LL : List D, LL.length < big → (mApp 1 (mTup (mCons (mVar 2) (mCons (mVar 3) mNil)))) [.fz T, .ol LL, .fz (oD e.1), .fz e.2] x = .nx [.fz T, .ol (LL ++ [lay' e]), .fz (oD e.1), .fz e.2] x := by
    intro LL hz
    have h : lay' e = .tup [oD e.1, e.2] := rfl
    rw [h]
    simp [mApp, mE, mTup, mCons, mBind, R.bind, mVar, mNil, bl, hz]
  by_cases hE : acc = []
  · subst hE
    refine ⟨[e], ?_, fun a h => by rw [List.mem_singleton] at h; rw [h]; exact he, rfl, rfl⟩
    have p1 : uT1 [.fz T, .ol [], .fz (oD e.1), .fz e.2] x = .val false x := by
      simp [uT1, mTst, mOp, mBor, frzS, allS, Slot.fzd, mCall, mCons, mBind, R.bind, mVar, mNil, gLen, o1, isSca, mC, gGt, gI, gTst, oB]
    have ap0 := ap [] (by decide)
    unfold uB
    revert p1 ap0
    generalize uT1 = A
    generalize uT2 = B
    generalize mApp 1 (mTup (mCons (mVar 2) (mCons (mVar 3) mNil))) = C
    intro p1 ap0
    simp [mSeq, mIfS, mE, mTAnd, mBind, R.bind, p1, mNext, ap0]
  · obtain ⟨B, l, rfl⟩ : ∃ B l, acc = B ++ [l] := ⟨acc.dropLast, acc.getLast hE, (List.dropLast_concat_getLast hE).symm⟩
    obtain ⟨c, hc⟩ := gEqB_of (ha l (by simp)).okP he.okP (by decide)
    have hT : eqT l.2 e.2 = c := by
      unfold eqT
      rw [hc]
    have hs : stp (some l.2) e.2 = if c then 0 else 1 := by
      unfold stp
      dsimp only
      rw [hT]
    rw [lastO_app, hs]
    have hz0 : ((B ++ [l]).map lay').length < big := by
      rw [List.length_map]
      exact bg _ (by omega)
    have p1 : uT1 [.fz T, .ol ((B ++ [l]).map lay'), .fz (oD e.1), .fz e.2] x = .val true x := by
      have hp : 0 < ((B ++ [l]).map lay').length := by simp
      revert hp
      generalize (B ++ [l]).map lay' = LL
      intro hp
      have hp' : (0 : Int) < (LL.length : Int) := by omega
      simp [uT1, mTst, mOp, mBor, frzS, allS, Slot.fzd, mCall, mCons, mBind, R.bind, mVar, mNil, gLen, o1, isSca, mC, gGt, gI, gTst, oB, hp, hp']
    have p2 : uT2 [.fz T, .ol ((B ++ [l]).map lay'), .fz (oD e.1), .fz e.2] x = .val c x := by
      have e1 : atI ((B ++ [l]).map lay') (-1) = some (lay' l) := by
        rw [List.map_append]
        exact atI_last
      have e2 : gIx (lay' l) (.int 1) = some l.2 := rfl
      revert e1
      generalize (B ++ [l]).map lay' = LL
      intro e1
      simp [uT2, uE1, kM1, mTst, mOp, mBind, R.bind, mIxO, mC, gNeg, o1, e1, e2, mVar, gEq, hc, gTst, oB]
    cases c with
    | false =>
      refine ⟨B ++ [l] ++ [e], ?_, fun a h => ?_, lastO_app _ _ _, by simp⟩
      · have ap0 := ap _ hz0
        have eL : (B ++ [l] ++ [e]).map lay' = (B ++ [l]).map lay' ++ [lay' e] := by rw [List.map_append]; rfl
        rw [eL]
        unfold uB
        revert p1 p2 ap0
        generalize uT1 = A
        generalize uT2 = A2
        generalize mApp 1 (mTup (mCons (mVar 2) (mCons (mVar 3) mNil))) = C
        generalize (B ++ [l]).map lay' = LL
        intro p1 p2 ap0
        simp [mSeq, mIfS, mE, mTAnd, mBind, R.bind, p1, p2, mNext, ap0]
      · rcases List.mem_append.mp h with
        h | h
        · exact ha a h
        · rw [List.mem_singleton] at h
          rw [h]
          exact he
    | true =>
      refine ⟨B ++ [e], ?_, fun a h => ?_, lastO_app _ _ _, by simp⟩
      · have hzB : (B.map lay').length < big := by
          rw [List.length_map]
          exact bg _ (by have : (B ++ [l]).length = B.length + 1 := by simp
                         omega)
        have ap0 := ap _ hzB
        have pp : mPop 1 [.fz T, .ol ((B ++ [l]).map lay'), .fz (oD e.1), .fz e.2] x = .nx [.fz T, .ol (B.map lay'), .fz (oD e.1), .fz e.2] x := by
          have d1 : ((B ++ [l]).map lay').dropLast = B.map lay' := by
            rw [List.map_append]
            exact List.dropLast_concat
          have d2 : ((B ++ [l]).map lay').isEmpty = false := by
            rw [List.map_append]
            cases B <;> rfl
          generalize (B ++ [l]).map lay' = LL at d1 d2
          simp [mPop, d1, d2]
        have eL : (B ++ [e]).map lay' = B.map lay' ++ [lay' e] := by rw [List.map_append]; rfl
        rw [eL]
        unfold uB
        revert p1 p2 ap0 pp
        generalize uT1 = A
        generalize uT2 = A2
        generalize mApp 1 (mTup (mCons (mVar 2) (mCons (mVar 3) mNil))) = C
        generalize mPop 1 = P
        generalize (B ++ [l]).map lay' = LL
        intro p1 p2 ap0 pp
        simp [mSeq, mIfS, mE, mTAnd, mBind, R.bind, p1, p2, pp, ap0]
      · rcases List.mem_append.mp h with
        h | h
        · exact ha a (List.mem_append_left _ h)
        · rw [List.mem_singleton] at h
          rw [h]
          exact he
end GG

namespace GG
open PySem PySem.Spec L2 Mi
variable {x : Bx} {s0 s1 s2 s3 s4 : Slot}
theorem l_step4 {T b s : D} {sA : Slot} {B : MS} {ds : List D} : loopS (.tp [2, 3]) B (D.tup [b, s] :: ds) [.fz T, sA, s2, s3] x = match B [.fz T, sA, .fz b, .fz s] x with
        | .nx ρ2 x2 => loopS (.tp [2, 3]) B ds ρ2 x2
        | .cnt ρ2 x2 => loopS (.tp [2, 3]) B ds ρ2 x2
        | .brk ρ2 x2 => .nx ρ2 x2
        | r => r := rfl
theorem u_loop {T : D} (G : List (Option Nat × D)) : ∀ {acc : List (Option Nat × D)} {s2 s3 : Slot}, (∀ a ∈ acc, Sh a.2) → (∀ e ∈ G, Sh e.2) → acc.length + G.length < 100 →
    ∃ (acc' : List (Option Nat × D)) (t2 t3 : Slot), loopS (.tp [2, 3]) uB (G.map lay') [.fz T, .ol (acc.map lay'), s2, s3] x = .nx [.fz T, .ol (acc'.map lay'), t2, t3] x ∧ acc'.length = acc.length + cnt (lastO none acc) G := by
  induction G with
  | nil => exact fun {acc s2 s3} _ _ _ => ⟨acc, s2, s3, rfl, rfl⟩
  | cons e G ih =>
    intro acc s2 s3 ha hg hl
    rw [List.length_cons] at hl
    obtain ⟨acc1, e1, h1, h2, h3⟩ := u_step (T := T) (x := x) (acc := acc) ha (hg e (List.mem_cons_self ..)) (by omega)
    have hlen : acc1.length ≤ acc.length + 1 := by
      rw [h3]
      unfold stp
      split
      · split <;> omega
      · omega
    obtain ⟨acc2, t2, t3, e2, h4⟩ := ih (acc := acc1) (s2 := .fz (oD e.1)) (s3 := .fz e.2) h1 (fun a h => hg a (List.mem_cons_of_mem _ h)) (by omega)
    refine ⟨acc2, t2, t3, ?_, ?_⟩
    · have em : (e :: G).map lay' = D.tup [oD e.1, e.2] :: G.map lay' := rfl
      rw [em, l_step4, e1]
      exact e2
    · rw [h4, h2, h3]
      show _ = acc.length + (stp (lastO none acc) e.2 + cnt (some e.2) G)
      omega
theorem united_ok {G : List (Option Nat × D)} (hg : ∀ e ∈ G, Sh e.2) (hl : G.length < 90) : ∃ U : List D, F_united [.tup (G.map lay')] x = .val (.lst U) x ∧ U.length = cnt none G := by
  obtain ⟨acc, t2, t3, e1, h1⟩ := u_loop (T := .tup (G.map lay')) (x := x) G (acc := []) (s2 := .un) (s3 := .un) (by simp) hg (by simp; omega)
  refine ⟨acc.map lay', ?_, by rw [List.length_map, h1]; simp [lastO]⟩
  have e0 : F_united [.tup (G.map lay')] x = mirror 4 M_united [.tup (G.map lay')] x := rfl
  have es : startE 4 [.tup (G.map lay')] = [.fz (.tup (G.map lay')), .un, .un, .un] := rfl
  have p1 : (mE (mLstN mNil) fun ds ρ x => .nx (ρ.set 1 (.ol ds)) x) [.fz (.tup (G.map lay')), .un, .un, .un] x = .nx [.fz (.tup (G.map lay')), .ol [], .un, .un] x := by
    simp [mE, mLstN, mNil, mBind, R.bind, bl]
  have p2 : mIter (mVar 0) [.fz (.tup (G.map lay')), .ol [], .un, .un] x = .val (G.map lay') x := rfl
  have p3 : uR [.fz (.tup (G.map lay')), .ol (acc.map lay'), t2, t3] x = .ret (.lst (acc.map lay')) x := by
    generalize acc.map lay' = U
    simp [uR, frzS, allS, Slot.fzd, mRet, mE, mVar]
  simp only [List.map_nil] at e1
  rw [e0, M_united_eq]
  revert e1 p1 p2 p3
  rw [show mirror 4 (mSeq (mE (mLstN mNil) fun ds ρ x => .nx (ρ.set 1 (.ol ds)) x) (mSeq (mFor (mIter (mVar 0)) (.tp [2, 3]) uB) uR)) [.tup (G.map lay')] x = (match (mSeq (mE (mLstN mNil) fun ds ρ x => .nx (ρ.set 1 (.ol ds)) x) (mSeq (mFor (mIter (mVar 0)) (.tp [2, 3]) uB) uR)) [.fz (.tup (G.map lay')), .un, .un, .un] x with
    | .nx _ x' => R.val D.non x'
    | .ret d x' => .val d x'
    | .exc c fs _ x' => .exc c fs x'
    | _ => .out) from rfl]
  generalize uB = B
  generalize uR = C
  generalize (mE (mLstN mNil) fun ds ρ x => RS.nx (ρ.set 1 (.ol ds)) x) = E
  generalize mIter (mVar 0) = I
  generalize G.map lay' = GL
  generalize acc.map lay' = AL
  intro e1 p1 p2 p3
  simp [mSeq, p1, mFor, mE, p2, e1, p3]
theorem r_val {G : List (Option Nat × D)} (hg : ∀ e ∈ G, Sh e.2) (hl : G.length < 90) : jR [.fz (.tup (G.map lay')), s1, s2, s3, s4] x = .val (.bl (decide (cnt none G = G.length))) x := by
  obtain ⟨U, e1, h1⟩ := united_ok (x := x) hg hl
  have hL : (G.map lay').length = G.length := List.length_map ..
  rw [← h1, ← hL]
  have aux : ∀ (FU : Mr) (GL : List D), FU [.tup GL] x = .val (.lst U) x → (mOp (fun a b => o1 (gEq a b)) (mCall gLen (mCons (mDef 1 FU (mCons (mVar 0) mNil)) mNil)) (mCall gLen (mCons (mVar 0) mNil))) [.fz (.tup GL), s1, s2, s3, s4] x = .val (.bl (decide (U.length = GL.length))) x := by
    intro FU GL e
    have g : gEqB (.int (U.length : Nat)) (.int (GL.length : Nat)) = some (decide (U.length = GL.length)) := by
      rw [gEqB_int]
      congr 1
      by_cases h : U.length = GL.length
      · rw [h, decide_eq_true rfl]
        simp
      · rw [decide_eq_false h]
        have : ((U.length : Nat) : Int) ≠ ((GL.length : Nat) : Int) := by omega
        simpa using this
    simp [mOp, mCall, mCons, mDef, mBind, R.bind, mVar, mNil, e, gLen, o1, gEq, g]
  exact aux F_united _ e1
def tabOk (A : List (Option Nat × D)) (l : Option Nat × D) : Bool := l.1.isNone && !(A.any fun e => e.1.isNone) && incB 0 A && decide (cnt none (A ++ [l]) = (A ++ [l]).length)
theorem istab {A : List (Option Nat × D)} {l : Option Nat × D} (hl : A.length ≤ 50) (h : ∀ e ∈ A ++ [l], Ly e) : F_is_table [.tup ((A ++ [l]).map lay')] x = .val (.bl (tabOk A l)) x := by
  have hm : (A ++ [l]).map lay' = A.map lay' ++ [lay' l] := by rw [List.map_append]; rfl
  have hn : (A ++ [l]).length = A.length + 1 := by simp
  have e1 := a_val (Ls := (A ++ [l]).map lay') (s1 := .un) (s2 := .un) (s3 := .un) (s4 := .un) (x := x)
  have hE : ((A ++ [l]).map lay').isEmpty = false := by
    rw [hm]
    cases A <;> rfl
  rw [hE] at e1
  have e2 := b_val (Ls := (A ++ [l]).map lay') (lb := fun _ => true) (x := x) (fun L hL => by
    obtain ⟨e, he, rfl⟩ := List.mem_map.mp hL
    exact layer_yes (h e he) x) (by rw [List.length_map]; omega)
  have hT : ((A ++ [l]).map lay').all (fun _ => true) = true := List.all_eq_true.mpr fun _ _ => rfl
  rw [hT] at e2
  have e3 := c_val (A := A) (l := l) (x := x) (by omega)
  rw [← hm] at e3
  have e4 : jD [.fz (.tup ((A ++ [l]).map lay')), .un, .un, .un, .un] x = .val (unD 0) x := rfl
  have e5 : mIter jSl [.fz (.tup ((A ++ [l]).map lay')), .fz (unD 0), .un, .un, .un] x = .val (A.map lay') x := by
    have := sl_val (A := A.map lay') (l := lay' l) (s1 := .fz (unD 0)) (s2 := .un) (s3 := .un) (s4 := .un) (x := x)
    rw [← hm] at this
    unfold mIter
    show mBind jSl _ _ _ = _
    unfold mBind
    rw [this]
    rfl
  have e6 := fun (n : Nat) (t2 t3 : Slot) => r_val (G := A ++ [l]) (s1 := .fz (unD n)) (s2 := t2) (s3 := t3) (s4 := .un) (x := x) (fun e he => (h e he).sh) (by omega)
  have e0 : F_is_table [.tup ((A ++ [l]).map lay')] x = (match (mSeq (mIfS jA jNo mNext) (mSeq (mIfS jB jNo mNext) (mSeq (mIfS jC jNo mNext) (mSeq (mAsg (.nm 1) jD) (mSeq (mFor (mIter jSl) (.tp [2, 3]) jF) (mRet jR)))))) [.fz (.tup ((A ++ [l]).map lay')), .un, .un, .un, .un] x with
    | .nx _ x' => R.val D.non x'
    | .ret d x' => .val d x'
    | .exc c fs _ x' => .exc c fs x'
    | _ => .out) := rfl
  rw [e0]
  have hno : ∀ ρ, jNo ρ x = .ret (.bl false) x := fun _ => rfl
  have hf := f_loop (T := .tup ((A ++ [l]).map lay')) (x := x) (s4 := .un) A (n := 0) (s2 := .un) (s3 := .un) (by decide)
  unfold tabOk
  cases hc : (!l.1.isNone || A.any fun e => e.1.isNone) with
  | true =>
    rw [hc] at e3
    have ht : (l.1.isNone && !(A.any fun e => e.1.isNone) && incB 0 A && decide (cnt none (A ++ [l]) = (A ++ [l]).length)) = false := by
      cases h1 : l.1.isNone <;> cases h2 : (A.any fun e => e.1.isNone) <;> simp_all
    rw [ht]
    clear e0 hf hm e4 e5 e6
    revert e1 e2 e3 hno
    generalize jA = QA
    generalize jB = QB
    generalize jC = QC
    generalize jNo = QN
    generalize jF = QF
    generalize jR = QR
    generalize (A ++ [l]).map lay' = GL
    intro e1 e2 e3 hno
    simp [mSeq, mIfS, mE, e1, e2, e3, mNext, hno]
  | false =>
    rw [hc] at e3
    have h1 : l.1.isNone = true := by
      cases hz : l.1.isNone
      · rw [hz] at hc
        cases hc
      · rfl
    have h2 : (A.any fun e => e.1.isNone) = false := by
      rw [h1] at hc
      exact hc
    have hs : ∀ e ∈ A, ∃ m, e.1 = some m ∧ m < 1000 := by
      intro e he
      cases ho : e.1 with
      | none =>
        have : (A.any fun e => e.1.isNone) = true := List.any_eq_true.mpr ⟨e, he, by rw [ho]; rfl⟩
        rw [h2] at this
        cases this
      | some m =>
        have := (h e (List.mem_append_left _ he)).lt m ho
        exact ⟨m, rfl, by omega⟩
    obtain ⟨hf1, hf2⟩ := hf hs
    rw [h1, h2]
    cases hi : incB 0 A with
    | false =>
      have e7 := hf2 hi
      clear e0 hm hf1 hf2
      revert e1 e2 e3 hno e4 e5 e6 e7
      generalize jA = QA
      generalize jB = QB
      generalize jC = QC
      generalize jD = QD
      generalize jNo = QN
      generalize jF = QF
      generalize jR = QR
      generalize mIter jSl = QI
      generalize (A ++ [l]).map lay' = GL
      generalize A.map lay' = AL
      intro e1 e2 e3 hno e4 e5 e6 e7
      simp [mSeq, mIfS, mE, e1, e2, e3, mNext, hno, mAsg, Tg.asg, e4, mFor, e5, e7]
    | true =>
      obtain ⟨n', t2, t3, e7⟩ := hf1 hi
      have e8 := e6 n' t2 t3
      clear e0 hm hf1 hf2 e6
      revert e1 e2 e3 hno e4 e5 e7 e8
      generalize jA = QA
      generalize jB = QB
      generalize jC = QC
      generalize jD = QD
      generalize jNo = QN
      generalize jF = QF
      generalize jR = QR
      generalize mIter jSl = QI
      generalize (A ++ [l]).map lay' = GL
      generalize A.map lay' = AL
      intro e1 e2 e3 hno e4 e5 e7 e8
      simp [mSeq, mIfS, mE, e1, e2, e3, mNext, hno, mAsg, Tg.asg, e4, mFor, e5, e7, mRet, e8]
end GG

namespace GG
open PySem PySem.Spec L2 Mi
theorem gAdd_lst {i j : List D} (h : i.length + j.length ≤ 1000) : gAdd (.lst i) (.lst j) = some (.lst (i ++ j)) := by
  have h0 : i.length + j.length ≤ big := Nat.le_trans h (by decide)
  simp [gAdd, gI, gS, gL, fCatL, h0]
theorem gAdd_tup {i j : List D} (h : i.length + j.length ≤ 1000) : gAdd (.tup i) (.tup j) = some (.tup (i ++ j)) := by
  have h0 : i.length + j.length ≤ big := Nat.le_trans h (by decide)
  simp [gAdd, gI, gS, gL, gT, fCatT, h0]
theorem gcut_1 {a : D} {l : List D} : gCut (some 1) none (.tup (a :: l)) = some (.tup l) := by
  have c : cutD (a :: l) (some 1) none = l := by
    unfold cutD HT.sIx
    simp
  show (some (D.tup (cutD (a :: l) (some 1) none)) : Option D) = _
  rw [c]
theorem gcut_to {Ls : List D} {r : Nat} (h : r ≤ Ls.length) : gCut none (some (r : Int)) (.tup Ls) = some (.tup (Ls.take r)) := by
  have c : cutD Ls none (some (r : Int)) = Ls.take r := by
    unfold cutD HT.sIx
    have e : min r Ls.length = r := by omega
    have e0 : ¬ ((r : Int) < 0) := by omega
    simp [e, e0]
  show (some (D.tup (cutD Ls none (some (r : Int)))) : Option D) = _
  rw [c]
theorem gcut_from {Ls : List D} {r : Nat} (h : r ≤ Ls.length) : gCut (some (r : Int)) none (.tup Ls) = some (.tup (Ls.drop r)) := by
  have c : cutD Ls (some (r : Int)) none = Ls.drop r := by
    unfold cutD HT.sIx
    have e : min r Ls.length = r := by omega
    have e2 : (Ls.drop r).take (Ls.length - r) = Ls.drop r := List.take_of_length_le (by rw [List.length_drop]; omega)
    have e0 : ¬ ((r : Int) < 0) := by omega
    simp [e, e2, e0]
  show (some (D.tup (cutD Ls (some (r : Int)) none)) : Option D) = _
  rw [c]
/-! ### SHARES, bent -/
theorem wss_len : ∀ (n : Nat) {ws : List Nat}, ws ∈ wss n → ws.length = n
  | 0, ws, h => by
    simp [wss] at h
    rw [h]
    rfl
  | n + 1, ws, h => by
    obtain ⟨w, _, h⟩ := List.mem_flatMap.mp h
    obtain ⟨l, hl, rfl⟩ := List.mem_map.mp h
    rw [List.length_cons, wss_len n hl]
theorem subs_ne : (SUBS.all fun p => !p.isEmpty) = true := by decide
structure ShB (nm : Str) (a b : Int) (prs : List D) : Prop where
  no0 : ∀ x, F_is_shares [.tup prs] x = .val (.bl false) x
  no1 : ∀ x, F_is_shares [.tup (.tup [.str nm, .tup [.int (a * 2), .int (b * 2)]] :: prs)] x = .val (.bl false) x
  no2 : ∀ x, F_is_shares [.tup (.tup [.str nm, .tup [.int a, .int b]] :: (prs ++ [zz]))] x = .val (.bl false) x
  no5 : ∀ x, F_is_shares [.tup (.tup [.str (Str.ofString "a b"), .tup [.int a, .int b]] :: prs)] x = .val (.bl false) x
  len : prs.length ≤ 10
theorem prs_len (t : Nat) : ∀ (ns : List Str) (ws : List Nat), (prs t ns ws).length ≤ ns.length
  | [], _ => by simp [prs]
  | _ :: _, [] => by simp [prs]
  | n :: ns, w :: ws => by
    have := prs_len t ns ws
    simp only [prs, List.length_cons]
    omega
theorem subs_len : (SUBS.all fun p => decide (p.length ≤ 10)) = true := by decide
theorem Sh.bend {s : D} (h : Sh s) : ∃ nm a b prs, s = .tup (.tup [.str nm, .tup [.int a, .int b]] :: prs) ∧ ShB nm a b prs := by
  obtain ⟨p, hp, ws, hw, rfl⟩ := h
  have hc := List.all_eq_true.mp (List.all_eq_true.mp eS p hp) ws hw
  have hne := List.all_eq_true.mp subs_ne p hp
  have hln := of_decide_eq_true (List.all_eq_true.mp subs_len p hp)
  have hl := wss_len _ hw
  match p, ws, hl, hne, hc, hln with
  | n :: ns, w :: ws, _, _, hc, hln =>
    unfold chkS at hc
    simp only [Bool.and_eq_true]
      at hc
    obtain ⟨⟨⟨⟨_, h1⟩, h2⟩, h3⟩, h4⟩ := hc
    refine ⟨n, _, _, prs (w :: ws).sum ns ws, rfl, ⟨fun x => okv_at pu_is_shares h1 x, fun x => okv_at pu_is_shares h2 x, fun x => okv_at pu_is_shares h3 x, fun x => okv_at pu_is_shares h4 x, ?_⟩⟩
    have := prs_len (w :: ws).sum ns ws
    rw [List.length_cons] at hln
    omega
  | [], _, _, hne, _, _ => exact nomatch hne
theorem shares_lst {l : List D} (x : Bx) : F_is_shares [.lst l] x = .val (.bl false) x := by
  have aux : ∀ (P Q : MS), mirror 5 (mSeq (mIfS (mTOr (mTNot (mTru (mIsi "tuple" (mVar 0)))) (fun ρ x => (.out : R Bool))) (mRet (mC (.bl false))) P) Q) [.lst l] x = .val (.bl false) x := by
    intro P Q
    simp [mirror, startE, mSeq, mIfS, mE, mTOr, mTNot, mTru, mIsi, mVar, mBind, R.bind, o1, oB, gTru, isi1_t_lst, mRet, mC]
  have aux2 : ∀ (T : MM Bool) (P Q : MS), mirror 5 (mSeq (mIfS (mTOr (mTNot (mTru (mIsi "tuple" (mVar 0)))) T) (mRet (mC (.bl false))) P) Q) [.lst l] x = .val (.bl false) x := by
    intro T P Q
    simp [mirror, startE, mSeq, mIfS, mE, mTOr, mTNot, mTru, mIsi, mVar, mBind, R.bind, o1, oB, gTru, isi1_t_lst, mRet, mC]
  exact aux2 _ _ _
theorem table_lst {l : List D} (x : Bx) : F_is_table [.lst l] x = .val (.bl false) x := by
  have aux2 : ∀ (T : MM Bool) (P Q : MS), mirror 5 (mSeq (mIfS (mTOr (mTNot (mTru (mIsi "tuple" (mVar 0)))) T) (mRet (mC (.bl false))) P) Q) [.lst l] x = .val (.bl false) x := by
    intro T P Q
    simp [mirror, startE, mSeq, mIfS, mE, mTOr, mTNot, mTru, mIsi, mVar, mBind, R.bind, o1, oB, gTru, isi1_t_lst, mRet, mC]
  exact aux2 _ _ _
theorem table_nil (x : Bx) : F_is_table [.tup []] x = .val (.bl false) x := by
  have aux2 : ∀ (P Q : MS), mirror 5 (mSeq (mIfS (mTOr (mTNot (mTru (mIsi "tuple" (mVar 0)))) (mTst (mOp (fun a b => o1 (gEq a b)) (mCall gLen (mCons (mVar 0) mNil)) (mC (.int 0))))) (mRet (mC (.bl false))) P) Q) [.tup []] x = .val (.bl false) x := by
    intro P Q
    simp [mirror, startE, mSeq, mIfS, mE, mTOr, mTNot, mTru, mIsi, mVar, mBind, R.bind, o1, oB, gTru, isi1_t_tup, mRet, mC, mTst, mOp, gEq, gEqB_int, mCall, mCons, mNil, gLen, gTst]
  exact aux2 _ _
theorem layer_lst {l : List D} (x : Bx) : F_p_is_layer [.lst l] x = .val (.bl false) x := by
  have aux2 : ∀ (T : MM Bool) (P Q : MS), mirror 1 (mSeq (mIfS (mTOr (mTNot (mTru (mIsi "tuple" (mVar 0)))) T) (mRet (mC (.bl false))) P) Q) [.lst l] x = .val (.bl false) x := by
    intro T P Q
    simp [mirror, startE, mSeq, mIfS, mE, mTOr, mTNot, mTru, mIsi, mVar, mBind, R.bind, o1, oB, gTru, isi1_t_lst, mRet, mC]
  exact aux2 _ _ _
theorem layer_len {l : List D} (h : l.length ≠ 2) (x : Bx) : F_p_is_layer [.tup l] x = .val (.bl false) x := by
  have g : gEqB (.int (l.length : Nat)) (.int 2) = some false := by
    rw [gEqB_int]
    have : ((l.length : Nat) : Int) ≠ 2 := by omega
    simpa using this
  have aux2 : ∀ (P Q : MS), mirror 1 (mSeq (mIfS (mTOr (mTNot (mTru (mIsi "tuple" (mVar 0)))) (mTst (mOp (fun a b => o1 (gNe a b)) (mCall gLen (mCons (mVar 0) mNil)) (mC (.int 2))))) (mRet (mC (.bl false))) P) Q) [.tup l] x = .val (.bl false) x := by
    intro P Q
    simp [mirror, startE, mSeq, mIfS, mE, mTOr, mTNot, mTru, mIsi, mVar, mBind, R.bind, o1, oB, gTru, isi1_t_tup, mRet, mC, mTst, mOp, gNe, g, mCall, mCons, mNil, gLen, gTst]
  exact aux2 _ _
end GG

namespace GG
open PySem PySem.Spec L2 Mi
def b1 : MS := mAsg (.nm 7) (mLst (mCons (mTup (mCons (mVar 3) (mCons (mSlice (mVar 4) (mPart (mC (.int 1))) mNoPart) mNil))) mNil))
def b2 : MS := mAsg (.nm 7) (mOp (fun a b => o1 (gAdd a b)) (mVar 7) (mLst (mCons (mTup (mCons (mVar 3) (mCons (mOp (fun a b => o1 (gAdd a b)) (mTup (mCons (mTup (mCons (mVar 5) (mCons (mTup (mCons (mOp (fun a b => o1 (gMulI a b)) (mOp (fun a b => o1 (gIx a b)) (mVar 6) (mC (.int 0))) (mC (.int 2))) (mCons (mOp (fun a b => o1 (gMulI a b)) (mOp (fun a b => o1 (gIx a b)) (mVar 6) (mC (.int 1))) (mC (.int 2))) mNil))) mNil))) mNil)) (mSlice (mVar 4) (mPart (mC (.int 1))) mNoPart)) mNil))) mNil)))
def b3 : MS := mAsg (.nm 7) (mOp (fun a b => o1 (gAdd a b)) (mVar 7) (mLst (mCons (mTup (mCons (mVar 3) (mCons (mOp (fun a b => o1 (gAdd a b)) (mVar 4) (mTup (mCons (mTup (mCons (mC (.str "zzzz")) (mCons (mTup (mCons (mC (.int 1)) (mCons (mC (.int 9)) mNil))) mNil))) mNil))) mNil))) (mCons (mTup (mCons (mVar 3) (mCons (mCall gList (mCons (mVar 4) mNil)) mNil))) mNil))))
def b4 : MS := mAsg (.nm 7) (mOp (fun a b => o1 (gAdd a b)) (mVar 7) (mLst (mCons (mTup (mCons (mVar 3) (mCons (mVar 4) (mCons (mC (.int 0)) mNil)))) mNil)))
def b5 : MS := mAsg (.nm 7) (mOp (fun a b => o1 (gAdd a b)) (mVar 7) (mLst (mCons (mTup (mCons (mVar 3) (mCons (mOp (fun a b => o1 (gAdd a b)) (mTup (mCons (mTup (mCons (mC (.str "a b")) (mCons (mVar 6) mNil))) mNil)) (mSlice (mVar 4) (mPart (mC (.int 1))) mNoPart)) mNil))) (mCons (mTup (mCons (mTup (mCons (mC (.int 0)) (mCons (mC (.int 1)) mNil))) (mCons (mVar 4) mNil))) (mCons (mTup (mCons (mVar 3) mNil)) mNil)))))
def b6 : MS := mAsg (.nm 7) (mOp (fun a b => o1 (gAdd a b)) (mVar 7) (mLst (mCons (mLst (mCons (mVar 3) (mCons (mVar 4) mNil))) mNil)))
def bT : MM Bool := mTst (mOp (fun a b => o1 (gLt a b)) (mVar 2) (mOp (fun a b => o1 (gSub a b)) (mCall gLen (mCons (mVar 1) mNil)) (mC (.int 1))))
def b7 : MS := mAsg (.nm 7) (mOp (fun a b => o1 (gAdd a b)) (mVar 7) (mLst (mCons (mTup (mCons (mC .non) (mCons (mVar 4) mNil))) (mCons (mTup (mCons (mVar 3) (mCons (mOp (fun a b => o1 (gIx a b)) (mOp (fun a b => o1 (gIx a b)) (mVar 1) (mOp (fun a b => o1 (gAdd a b)) (mVar 2) (mC (.int 1)))) (mC (.int 1))) mNil))) mNil))))
def b8 : MS := mAsg (.nm 7) (mOp (fun a b => o1 (gAdd a b)) (mVar 7) (mLst (mCons (mTup (mCons (mTup (mCons (mOp (fun a b => o1 (gMulI a b)) (mOp (fun a b => o1 (gIx a b)) (mVar 3) (mC (.int 0))) (mC (.int 3))) (mCons (mOp (fun a b => o1 (gMulI a b)) (mOp (fun a b => o1 (gIx a b)) (mVar 3) (mC (.int 1))) (mC (.int 3))) mNil))) (mCons (mVar 4) mNil))) mNil)))
def bRt : MS := mRet (mOp (fun a b => o1 (gAdd a b)) (mOp (fun a b => o1 (gAdd a b)) (mSlice (mVar 1) mNoPart (mPart (mVar 2))) (mTup (mCons (mDef 2 F_l_of (mCons (mVar 0) (mCons (mVar 7) mNil))) mNil))) (mSlice (mVar 1) (mPart (mOp (fun a b => o1 (gAdd a b)) (mVar 2) (mC (.int 1)))) mNoPart))
def bK : MS := mAsg (.nm 2) (mDef 2 F_l_take (mCons (mVar 0) (mCons (mCall gLen (mCons (mVar 1) mNil)) mNil)))
def bU : MS := mAsg (.tp [3, 4]) (mOp (fun a b => o1 (gIx a b)) (mVar 1) (mVar 2))
def bN : MS := mAsg (.tp [5, 6]) (mOp (fun a b => o1 (gIx a b)) (mVar 4) (mC (.int 0)))
theorem M_bent_eq : M_l_bent = mSeq bK (mSeq bU (mSeq bN (mSeq b1 (mSeq b2 (mSeq b3 (mSeq b4 (mSeq b5 (mSeq b6 (mSeq (mIfS bT (mSeq b7 b8) mNext) bRt))))))))) := rfl
variable {x x' : Bx} {T u f : D} {r : Nat} {nm : Str} {a b : Int} {prs : List D}
def bE (T : D) (r : Nat) (u s : D) (nm : Str) (f : D) (m : Slot) : En := [.fz .box, .fz T, .fz (.int r), .fz u, .fz s, .fz (.str nm), .fz f, m]
def sD (nm : Str) (a b : Int) (prs : List D) : D := .tup (.tup [.str nm, .tup [.int a, .int b]] :: prs)
def fD (a b : Int) : D := .tup [.int a, .int b]
def c0 (u : D) (prs : List D) : D := .tup [u, .tup prs]
def c1 (u : D) (nm : Str) (a b : Int) (prs : List D) : D := .tup [u, .tup (.tup [.str nm, .tup [.int (a * 2), .int (b * 2)]] :: prs)]
def c2 (u : D) (nm : Str) (a b : Int) (prs : List D) : D := .tup [u, .tup (.tup [.str nm, .tup [.int a, .int b]] :: (prs ++ [zz]))]
def c3 (u : D) (nm : Str) (a b : Int) (prs : List D) : D := .tup [u, .lst (.tup [.str nm, .tup [.int a, .int b]] :: prs)]
def c4 (u s : D) : D := .tup [u, s, .int 0]
def c5 (u : D) (a b : Int) (prs : List D) : D := .tup [u, .tup (.tup [.str (Str.ofString "a b"), .tup [.int a, .int b]] :: prs)]
def c6 (s : D) : D := .tup [.tup [.int 0, .int 1], s]
def c7 (u : D) : D := .tup [u]
def c8 (u s : D) : D := .lst [u, s]
theorem m2 (i : Int) : okMul i 2 = true := okMul_r (by decide)
theorem m3 (i : Int) : okMul i 3 = true := okMul_r (by decide)
theorem fg0 : gIx (fD a b) (.int 0) = some (.int a) := rfl
theorem fg1 : gIx (fD a b) (.int 1) = some (.int b) := rfl
theorem sg1 : gCut (some 1) none (sD nm a b prs) = some (.tup prs) := gcut_1
theorem b1_val : b1 (bE T r u (sD nm a b prs) nm (fD a b) .un) x = .nx (bE T r u (sD nm a b prs) nm (fD a b) (.fz (.lst [c0 u prs]))) x := by
  have h := sg1 (nm := nm) (a := a) (b := b) (prs := prs)
  unfold bE
  generalize sD nm a b prs = S at *
  simp [b1, mAsg, mE, mLst, mCons, mTup, mSlice, mPart, mNoPart, mVar, mC, mNil, mBind, R.bind, o1, h, bl, Tg.asg, c0]
theorem b2_val {M : List D} (hM : M.length ≤ 20) (hp : prs.length ≤ 20) : b2 (bE T r u (sD nm a b prs) nm (fD a b) (.fz (.lst M))) x = .nx (bE T r u (sD nm a b prs) nm (fD a b) (.fz (.lst (M ++ [c1 u nm a b prs])))) x := by
  have h := sg1 (nm := nm) (a := a) (b := b) (prs := prs)
  have h0 := fg0 (a := a) (b := b)
  have h1 := fg1 (a := a) (b := b)
  have g : gAdd (.lst M) (.lst [c1 u nm a b prs]) = some (.lst (M ++ [c1 u nm a b prs])) := gAdd_lst (by simp; omega)
  have g2 : gAdd (.tup [.tup [.str nm, .tup [.int (a * 2), .int (b * 2)]]]) (.tup prs) = some (.tup (.tup [.str nm, .tup [.int (a * 2), .int (b * 2)]] :: prs)) := gAdd_tup (by simp; omega)
  unfold c1 at g ⊢
  unfold bE
  generalize sD nm a b prs = S at *
  generalize fD a b = F at *
  simp [b2, mAsg, mE, mLst, mCons, mTup, mSlice, mPart, mNoPart, mVar, mC, mNil, mBind, R.bind, o1, h, h0, h1, bl, Tg.asg, mOp, gMulI, gI, m2, g, g2]
theorem b3_val {M : List D} (hM : M.length ≤ 20) (hp : prs.length ≤ 20) : b3 (bE T r u (sD nm a b prs) nm (fD a b) (.fz (.lst M))) x = .nx (bE T r u (sD nm a b prs) nm (fD a b) (.fz (.lst (M ++ [c2 u nm a b prs, c3 u nm a b prs])))) x := by
  have g : gAdd (.lst M) (.lst [c2 u nm a b prs, c3 u nm a b prs]) = some (.lst (M ++ [c2 u nm a b prs, c3 u nm a b prs])) := gAdd_lst (by simp; omega)
  have g2 : gAdd (sD nm a b prs) (.tup [zz]) = some (.tup (.tup [.str nm, .tup [.int a, .int b]] :: (prs ++ [zz]))) := gAdd_tup (by simp; omega)
  have g3 : gList [sD nm a b prs] = some (.lst (.tup [.str nm, .tup [.int a, .int b]] :: prs)) := rfl
  unfold c2 c3 at g ⊢
  unfold bE
  unfold zz at g g2 ⊢
  generalize sD nm a b prs = S at *
  simp [b3, mAsg, mE, mLst, mCons, mTup, mVar, mC, mNil, mBind, R.bind, o1, bl, Tg.asg, mOp, mCall, g, g2, g3]
theorem b4_val {M : List D} {s : D} (hM : M.length ≤ 20) : b4 (bE T r u s nm f (.fz (.lst M))) x = .nx (bE T r u s nm f (.fz (.lst (M ++ [c4 u s])))) x := by
  have g : gAdd (.lst M) (.lst [c4 u s]) = some (.lst (M ++ [c4 u s])) := gAdd_lst (by simp; omega)
  unfold c4 at g ⊢
  unfold bE
  simp [b4, mAsg, mE, mLst, mCons, mTup, mVar, mC, mNil, mBind, R.bind, o1, bl, Tg.asg, mOp, g]
theorem b5_val {M : List D} (hM : M.length ≤ 20) (hp : prs.length ≤ 20) : b5 (bE T r u (sD nm a b prs) nm (fD a b) (.fz (.lst M))) x = .nx (bE T r u (sD nm a b prs) nm (fD a b) (.fz (.lst (M ++ [c5 u a b prs, c6 (sD nm a b prs), c7 u])))) x := by
  have h := sg1 (nm := nm) (a := a) (b := b) (prs := prs)
  have g : gAdd (.lst M) (.lst [c5 u a b prs, c6 (sD nm a b prs), c7 u]) = some (.lst (M ++ [c5 u a b prs, c6 (sD nm a b prs), c7 u])) := gAdd_lst (by simp; omega)
  have g2 : gAdd (.tup [.tup [.str (Str.ofString "a b"), fD a b]]) (.tup prs) = some (.tup (.tup [.str (Str.ofString "a b"), fD a b] :: prs)) := gAdd_tup (by simp; omega)
  have c : c5 u a b prs = .tup [u, .tup (.tup [.str (Str.ofString "a b"), fD a b] :: prs)] := rfl
  rw [c] at g ⊢
  unfold c6 c7 at g ⊢
  unfold bE
  generalize sD nm a b prs = S at *
  generalize fD a b = F at *
  simp [b5, mAsg, mE, mLst, mCons, mTup, mSlice, mPart, mNoPart, mVar, mC, mNil, mBind, R.bind, o1, h, bl, Tg.asg, mOp, g, g2]
theorem b6_val {M : List D} {s : D} (hM : M.length ≤ 20) : b6 (bE T r u s nm f (.fz (.lst M))) x = .nx (bE T r u s nm f (.fz (.lst (M ++ [c8 u s])))) x := by
  have g : gAdd (.lst M) (.lst [c8 u s]) = some (.lst (M ++ [c8 u s])) := gAdd_lst (by simp; omega)
  unfold c8 at g ⊢
  unfold bE
  simp [b6, mAsg, mE, mLst, mCons, mTup, mVar, mC, mNil, mBind, R.bind, o1, bl, Tg.asg, mOp, g]
theorem bT_val {Ls : List D} {s : D} {m : Slot} : bT (bE (.tup Ls) r u s nm f m) x = .val (decide (r + 1 < Ls.length)) x := by
  have h : (decide ((r : Int) < (Ls.length : Int) - 1)) = decide (r + 1 < Ls.length) := by
    by_cases h : r + 1 < Ls.length
    · rw [decide_eq_true h, decide_eq_true (by omega)]
    · rw [decide_eq_false h, decide_eq_false (by omega)]
  rw [← h]
  unfold bE
  simp [bT, mTst, mOp, mVar, mCall, mCons, mNil, mBind, R.bind, gLen, o1, mC, Mi.gSub, gI, gLt, gTst, oB]
theorem b7_val {Ls M : List D} {s w v : D} (hM : M.length ≤ 20) (hn : Ls[r + 1]? = some (.tup [v, w])) : b7 (bE (.tup Ls) r u s nm f (.fz (.lst M))) x = .nx (bE (.tup Ls) r u s nm f (.fz (.lst (M ++ [.tup [.non, s], .tup [u, w]])))) x := by
  have g : gAdd (.lst M) (.lst [.tup [.non, s], .tup [u, w]]) = some (.lst (M ++ [.tup [.non, s], .tup [u, w]])) := gAdd_lst (by simp; omega)
  have e1 : gIx (.tup Ls) (.int ((r : Int) + 1)) = some (.tup [v, w]) := by
    have e : (r : Int) + 1 = ((r + 1 : Nat) : Int) := by omega
    rw [e]
    exact atI_nat hn
  have e2 : gIx (.tup [v, w]) (.int 1) = some w := rfl
  have e3 : gAdd (.int r) (.int 1) = some (.int ((r : Int) + 1)) := rfl
  unfold bE
  simp [b7, mAsg, mE, mLst, mCons, mTup, mVar, mC, mNil, mBind, R.bind, o1, bl, Tg.asg, mOp, g, e1, e2, e3]
theorem b8_val {M : List D} {s : D} {t q : Int} (hM : M.length ≤ 20) : b8 (bE T r (fD t q) s nm f (.fz (.lst M))) x = .nx (bE T r (fD t q) s nm f (.fz (.lst (M ++ [.tup [fD (t * 3) (q * 3), s]])))) x := by
  have g : gAdd (.lst M) (.lst [.tup [fD (t * 3) (q * 3), s]]) = some (.lst (M ++ [.tup [fD (t * 3) (q * 3), s]])) := gAdd_lst (by simp; omega)
  have h0 := fg0 (a := t) (b := q)
  have h1 := fg1 (a := t) (b := q)
  have hh : fD (t * 3) (q * 3) = .tup [.int (t * 3), .int (q * 3)] := rfl
  rw [hh] at g ⊢
  unfold bE
  generalize fD t q = F at *
  simp [b8, mAsg, mE, mLst, mCons, mTup, mVar, mC, mNil, mBind, R.bind, o1, bl, Tg.asg, mOp, gMulI, gI, m3, g, h0, h1]
end GG

namespace GG
open PySem PySem.Spec L2 Mi
variable {x x' : Bx}
def base (u : D) (nm : Str) (a b : Int) (prs : List D) : List D := [c0 u prs, c1 u nm a b prs, c2 u nm a b prs, c3 u nm a b prs, c4 u (sD nm a b prs), c5 u a b prs, c6 (sD nm a b prs), c7 u, c8 u (sD nm a b prs)]
def base2 (u : D) (nm : Str) (a b : Int) (prs : List D) (w : D) (t q : Int) : List D := base u nm a b prs ++ [.tup [.non, sD nm a b prs], .tup [u, w]] ++ [.tup [fD (t * 3) (q * 3), sD nm a b prs]]
theorem at_head {a : D} {l : List D} : atI (a :: l) 0 = some a := by
  have h : (0 : Int) < ((a :: l).length : Nat) := by simp
  unfold atI ixN
  rw [if_pos (by decide), if_pos h]
  rfl
theorem rt_val {k : Int} (hi : Inv k x) (hk : k < 700000) {Ls C : List D} {r : Nat} {u s f : D} {nm : Str} (hr : r < Ls.length) (hL : Ls.length ≤ 10) (hC : 0 < C.length) (hC2 : C.length < 50) : ∃ d ∈ C, ∃ x', bRt (bE (.tup Ls) r u s nm f (.fz (.lst C))) x = .ret (.tup (Ls.take r ++ d :: Ls.drop (r + 1))) x' ∧ Inv (k + 1) x' := by
  obtain ⟨d, hd, x1, e1, i1⟩ := of_ok hi (by omega) C hC (by omega)
  refine ⟨d, hd, x1, ?_, i1⟩
  have g1 := gcut_to (Ls := Ls) (r := r) (by omega)
  have g2 : gCut (some ((r : Int) + 1)) none (.tup Ls) = some (.tup (Ls.drop (r + 1))) := by
    have e : (r : Int) + 1 = ((r + 1 : Nat) : Int) := by omega
    rw [e]
    exact gcut_from (by omega)
  have g3 : gAdd (.tup (Ls.take r)) (.tup [d]) = some (.tup (Ls.take r ++ [d])) := gAdd_tup (by rw [List.length_take]; simp; omega)
  have g4 : gAdd (.tup (Ls.take r ++ [d])) (.tup (Ls.drop (r + 1))) = some (.tup (Ls.take r ++ d :: Ls.drop (r + 1))) := by
    have := gAdd_tup (i := Ls.take r ++ [d]) (j := Ls.drop (r + 1)) (by rw [List.length_append, List.length_take, List.length_drop]; simp; omega)
    rw [List.append_assoc]
      at this
    exact this
  have g5 : gAdd (.int r) (.int 1) = some (.int ((r : Int) + 1)) := rfl
  unfold bE
  generalize Ls.take r = A1 at *
  generalize Ls.drop (r + 1) = A2 at *
  simp [bRt, mRet, mE, mOp, mSlice, mNoPart, mPart, mVar, mTup, mCons, mDef, mNil, mBind, R.bind, g1, o1, e1, bl, g3, mC, g5, g2, g4]
theorem bent_ok {k : Int} (hi : Inv k x) (hk : k < 600000) {A1 A2 : List D} {Ls : List D} (h0 : 0 < Ls.length) (hl : Ls.length ≤ 10) (hs : ∀ L ∈ Ls, ∃ u nm a b prs, L = .tup [u, sD nm a b prs] ∧ prs.length ≤ 10)
    (hu : ∀ (i : Nat), i + 1 < Ls.length → ∃ t q s, Ls[i]? = some (.tup [fD t q, s])) :
    ∃ (r : Nat) (d : D) (x' : Bx) (u : D) (nm : Str) (a b : Int) (prs : List D), r < Ls.length ∧ Ls[r]? = some (.tup [u, sD nm a b prs]) ∧ F_l_bent [.box, .tup Ls] x = .val (.tup (Ls.take r ++ d :: Ls.drop (r + 1))) x' ∧ Inv (k + 2) x' ∧
      (d ∈ base u nm a b prs ∨ r + 1 < Ls.length ∧ ∃ v w t q, Ls[r + 1]? = some (.tup [v, w]) ∧ u = fD t q ∧ d ∈ base2 u nm a b prs w t q) := by
  obtain ⟨r, x1, hr, e1, i1⟩ := take' hi (by omega) Ls.length h0 (by omega)
  obtain ⟨u, nm, a, b, prs, eL, hp⟩ := hs Ls[r] (List.getElem_mem hr)
  have er : Ls[r]? = some (.tup [u, sD nm a b prs]) := by
    rw [List.getElem?_eq_getElem hr, eL]
  have pK : bK [.fz .box, .fz (.tup Ls), .un, .un, .un, .un, .un, .un] x = .nx [.fz .box, .fz (.tup Ls), .fz (.int r), .un, .un, .un, .un, .un] x1 := by
    simp [bK, mAsg, mE, mDef, mCall, mCons, mVar, mNil, mBind, R.bind, gLen, o1, e1, Tg.asg]
  have pU : bU [.fz .box, .fz (.tup Ls), .fz (.int r), .un, .un, .un, .un, .un] x1 = .nx [.fz .box, .fz (.tup Ls), .fz (.int r), .fz u, .fz (sD nm a b prs), .un, .un, .un] x1 := by
    have g : gIx (.tup Ls) (.int r) = some (.tup [u, sD nm a b prs]) := atI_nat er
    generalize sD nm a b prs = S at *
    simp [bU, mAsg, mE, mOp, mVar, mBind, R.bind, g, o1, Tg.asg, putE]
  have pN : bN [.fz .box, .fz (.tup Ls), .fz (.int r), .fz u, .fz (sD nm a b prs), .un, .un, .un] x1 = .nx (bE (.tup Ls) r u (sD nm a b prs) nm (fD a b) .un) x1 := by
    have g : gIx (sD nm a b prs) (.int 0) = some (.tup [.str nm, fD a b]) := at_head
    unfold bE
    generalize sD nm a b prs = S at *
    generalize fD a b = F at *
    simp [bN, mAsg, mE, mOp, mVar, mC, mBind, R.bind, g, o1, Tg.asg, putE]
  have q1 := b1_val (T := .tup Ls) (r := r) (u := u) (nm := nm) (a := a) (b := b) (prs := prs) (x := x1)
  have q2 := b2_val (T := .tup Ls) (r := r) (u := u) (nm := nm) (a := a) (b := b) (prs := prs) (x := x1) (M := [c0 u prs]) (by simp) (by omega)
  have q3 := b3_val (T := .tup Ls) (r := r) (u := u) (nm := nm) (a := a) (b := b) (prs := prs) (x := x1) (M := [c0 u prs] ++ [c1 u nm a b prs]) (by simp) (by omega)
  have q4 := b4_val (T := .tup Ls) (r := r) (u := u) (nm := nm) (f := fD a b) (s := sD nm a b prs) (x := x1) (M := [c0 u prs] ++ [c1 u nm a b prs] ++ [c2 u nm a b prs, c3 u nm a b prs]) (by simp)
  have q5 := b5_val (T := .tup Ls) (r := r) (u := u) (nm := nm) (a := a) (b := b) (prs := prs) (x := x1) (M := [c0 u prs] ++ [c1 u nm a b prs] ++ [c2 u nm a b prs, c3 u nm a b prs] ++ [c4 u (sD nm a b prs)]) (by simp) (by omega)
  have q6 := b6_val (T := .tup Ls) (r := r) (u := u) (nm := nm) (f := fD a b) (s := sD nm a b prs) (x := x1) (M := [c0 u prs] ++ [c1 u nm a b prs] ++ [c2 u nm a b prs, c3 u nm a b prs] ++ [c4 u (sD nm a b prs)] ++ [c5 u a b prs, c6 (sD nm a b prs), c7 u]) (by simp)
  have qT := bT_val (Ls := Ls) (r := r) (u := u) (nm := nm) (f := fD a b) (s := sD nm a b prs) (x := x1) (m := .fz (.lst (base u nm a b prs)))
  have hb : [c0 u prs] ++ [c1 u nm a b prs] ++ [c2 u nm a b prs, c3 u nm a b prs] ++ [c4 u (sD nm a b prs)] ++ [c5 u a b prs, c6 (sD nm a b prs), c7 u] ++ [c8 u (sD nm a b prs)] = base u nm a b prs := rfl
  rw [hb] at q6
  have lb : (base u nm a b prs).length = 9 := rfl
  have es : startE 8 [.box, .tup Ls] = [.fz .box, .fz (.tup Ls), .un, .un, .un, .un, .un, .un] := rfl
  have e0 : F_l_bent [.box, .tup Ls] x = (match (mSeq bK (mSeq bU (mSeq bN (mSeq b1 (mSeq b2 (mSeq b3 (mSeq b4 (mSeq b5 (mSeq b6 (mSeq (mIfS bT (mSeq b7 b8) mNext) bRt)))))))))) [.fz .box, .fz (.tup Ls), .un, .un, .un, .un, .un, .un] x with
    | .nx _ x' => R.val D.non x'
    | .ret d x' => .val d x'
    | .exc c fs _ x' => .exc c fs x'
    | _ => .out) := rfl
  by_cases hlast : r + 1 < Ls.length
  · rw [decide_eq_true hlast] at qT
    obtain ⟨t, q, s', hu'⟩ := hu r hlast
    have huu : u = fD t q := by
      rw [er] at hu'
      injection hu' with h
      injection h with h
      injection h
    obtain ⟨v, nm', a', b', prs', eN, _⟩ := hs Ls[r + 1] (List.getElem_mem hlast)
    have en : Ls[r + 1]? = some (.tup [v, sD nm' a' b' prs']) := by
      rw [List.getElem?_eq_getElem hlast, eN]
    have q7 := b7_val (Ls := Ls) (r := r) (u := u) (nm := nm) (f := fD a b) (s := sD nm a b prs) (x := x1) (M := base u nm a b prs) (v := v) (w := sD nm' a' b' prs') (by rw [lb]; decide) en
    have q8 := b8_val (T := .tup Ls) (r := r) (nm := nm) (f := fD a b) (s := sD nm a b prs) (x := x1) (t := t) (q := q) (M := base u nm a b prs ++ [.tup [.non, sD nm a b prs], .tup [u, sD nm' a' b' prs']]) (by simp [lb])
    rw [← huu] at q8
    obtain ⟨d, hd, x2, eR, i2⟩ := rt_val i1 (by omega) (Ls := Ls) (C := base2 u nm a b prs (sD nm' a' b' prs') t q) (r := r) (u := u) (s := sD nm a b prs) (nm := nm) (f := fD a b) hr hl (by simp [base2]) (by simp [base2, lb])
    refine ⟨r, d, x2, u, nm, a, b, prs, hr, er, ?_, ?_, .inr ⟨hlast, v, _, t, q, en, huu, hd⟩⟩
    · rw [e0]
      clear e0 es er eL en eN hs hu hd
      unfold base2 at eR
      revert pK pU pN q1 q2 q3 q4 q5 q6 qT q7 q8 eR
      generalize base u nm a b prs = BB
      generalize bE (.tup Ls) r u (sD nm a b prs) nm (fD a b) = EE
      generalize [c0 u prs] ++ [c1 u nm a b prs] ++ [c2 u nm a b prs, c3 u nm a b prs] ++ [c4 u (sD nm a b prs)] ++ [c5 u a b prs, c6 (sD nm a b prs), c7 u] = B5
      generalize [c0 u prs] ++ [c1 u nm a b prs] ++ [c2 u nm a b prs, c3 u nm a b prs] ++ [c4 u (sD nm a b prs)] = B4
      generalize [c0 u prs] ++ [c1 u nm a b prs] ++ [c2 u nm a b prs, c3 u nm a b prs] = B3
      generalize [c0 u prs] ++ [c1 u nm a b prs] = B2
      generalize [c0 u prs] = B1
      generalize sD nm a b prs = S
      generalize bK = y0
      generalize bU = y1
      generalize bN = y2
      generalize b1 = y3
      generalize b2 = y4
      generalize b3 = y5
      generalize b4 = y6
      generalize b5 = y7
      generalize b6 = y8
      generalize b7 = y9
      generalize b8 = y10
      generalize bT = y11
      generalize bRt = y12
      intro pK pU pN q1 q2 q3 q4 q5 q6 qT q7 q8 eR
      simp only [mSeq, pK, pU, pN, q1, q2, q3, q4, q5, q6, mIfS, mE, qT, if_true, q7, q8, eR]
    · have e : k + 1 + 1 = k + 2 := by omega
      rw [← e]
      exact i2
  · rw [decide_eq_false hlast] at qT
    obtain ⟨d, hd, x2, eR, i2⟩ := rt_val i1 (by omega) (Ls := Ls) (C := base u nm a b prs) (r := r) (u := u) (s := sD nm a b prs) (nm := nm) (f := fD a b) hr hl (by rw [lb]; decide) (by rw [lb]; decide)
    refine ⟨r, d, x2, u, nm, a, b, prs, hr, er, ?_, ?_, .inl hd⟩
    · rw [e0]
      clear e0 es er eL hs hu hd
      revert pK pU pN q1 q2 q3 q4 q5 q6 qT eR
      generalize base u nm a b prs = BB
      generalize bE (.tup Ls) r u (sD nm a b prs) nm (fD a b) = EE
      generalize [c0 u prs] ++ [c1 u nm a b prs] ++ [c2 u nm a b prs, c3 u nm a b prs] ++ [c4 u (sD nm a b prs)] ++ [c5 u a b prs, c6 (sD nm a b prs), c7 u] = B5
      generalize [c0 u prs] ++ [c1 u nm a b prs] ++ [c2 u nm a b prs, c3 u nm a b prs] ++ [c4 u (sD nm a b prs)] = B4
      generalize [c0 u prs] ++ [c1 u nm a b prs] ++ [c2 u nm a b prs, c3 u nm a b prs] = B3
      generalize [c0 u prs] ++ [c1 u nm a b prs] = B2
      generalize [c0 u prs] = B1
      generalize sD nm a b prs = S
      generalize bK = y0
      generalize bU = y1
      generalize bN = y2
      generalize b1 = y3
      generalize b2 = y4
      generalize b3 = y5
      generalize b4 = y6
      generalize b5 = y7
      generalize b6 = y8
      generalize bT = y11
      generalize bRt = y12
      intro pK pU pN q1 q2 q3 q4 q5 q6 qT eR
      simp [mSeq, pK, pU, pN, q1, q2, q3, q4, q5, q6, mIfS, mE, qT, mNext, eR]
    · have e : k + 1 + 1 = k + 2 := by omega
      rw [← e]
      exact i2
end GG

namespace GG
open PySem PySem.Spec L2 Mi
variable {x x' : Bx}
/-! ### a bent TABLE is none -/
theorem bad_at {Ls : List D} (hl : Ls.length ≤ 90) (h : ∀ L ∈ Ls, ∃ b, F_p_is_layer [L] x = .val (.bl b) x) (hb : ∃ L ∈ Ls, F_p_is_layer [L] x = .val (.bl false) x) : F_is_table [.tup Ls] x = .val (.bl false) x := by
  refine bad_layer (lb := fun L => match F_p_is_layer [L] x with
    | .val (.bl b) _ => b
    | _ => false) (fun L hL => ?_) hl ?_
  · obtain ⟨b, e⟩ := h L hL
    rw [e]
  · obtain ⟨L, hL, e⟩ := hb
    rw [List.all_eq_false]
    exact ⟨L, hL, by rw [e]; simp⟩
theorem oD_amount {o : Option Nat} (h : ∀ n, o = some n → n < 325) : oD o = .non ∧ true = true ∨ gIsN (oD o) .non = some (.bl false) ∧ ∀ x, F_is_amount [oD o] x = .val (.bl true) x := by
  cases o with
  | none =>
    exact .inl ⟨rfl, rfl⟩
  | some n => exact .inr ⟨rfl, fun x => amount_at (h n rfl) x⟩
theorem incB_no : ∀ (A1 : List (Option Nat × D)) (n : Nat) (s : D) (A2 : List (Option Nat × D)), incB n (A1 ++ (some 0, s) :: A2) = false
  | [], n, s, A2 => by
    show (decide (n < 0) && incB 0 A2) = false
    simp
  | (none, _) :: A1, n, s, A2 => rfl
  | (some m, _) :: A1, n, s, A2 => by
    show (decide (n < m) && incB m (A1 ++ (some 0, s) :: A2)) = false
    rw [incB_no A1 m s A2, Bool.and_false]
theorem stp_le (p : Option D) (d : D) : stp p d ≤ 1 := by
  unfold stp
  split
  · split <;> omega
  · omega
theorem cnt_le : ∀ (G : List (Option Nat × D)) (p : Option D), cnt p G ≤ G.length
  | [], _ => Nat.le_refl _
  | e :: G, p => by
    have h := cnt_le G (some e.2)
    have h2 := stp_le p e.2
    show stp p e.2 + cnt (some e.2) G ≤ G.length + 1
    omega
theorem cnt_lt {o o2 : Option Nat} {w : D} (hw : eqT w w = true) : ∀ (A1 : List (Option Nat × D)) (p : Option D) (A3 : List (Option Nat × D)), cnt p (A1 ++ (o, w) :: (o2, w) :: A3) < (A1 ++ (o, w) :: (o2, w) :: A3).length
  | [], p, A3 => by
    have h := cnt_le A3 (some w)
    have h2 := stp_le p w
    have h3 : stp (some w) w = 0 := by
      unfold stp
      dsimp only
      rw [hw]
      rfl
    show stp p w + (stp (some w) w + cnt (some w) A3) < A3.length + 1 + 1
    omega
  | e :: A1, p, A3 => by
    have h := cnt_lt (o := o) (o2 := o2) hw A1 (some e.2) A3
    have h2 := stp_le p e.2
    show stp p e.2 + cnt (some e.2) (A1 ++ (o, w) :: (o2, w) :: A3) < (A1 ++ (o, w) :: (o2, w) :: A3).length + 1
    omega
theorem Sh.self {s : D} (h : Sh s) : eqT s s = true := by
  obtain ⟨p, hp, ws, hw, rfl⟩ := h
  have hc := List.all_eq_true.mp (List.all_eq_true.mp eE p hp) ws hw
  rw [Bool.and_eq_true] at hc
  have h1 := hc.1
  unfold pyOk at h1
  unfold eqT
  split at h1
  · rename_i e
    rw [e]
  · cases h1
theorem istab_no {A : List (Option Nat × D)} {l : Option Nat × D} (hl : A.length ≤ 50) (h : ∀ e ∈ A ++ [l], Ly e) (hn : tabOk A l = false) : F_is_table [.tup ((A ++ [l]).map lay')] x = .val (.bl false) x := by
  rw [istab hl h, hn]
/-- the bent layer between the others -/
theorem bent_no {A1 A2 : List (Option Nat × D)} {o : Option Nat} {nm : Str} {a b : Int} {prs : List D} {d : D} (hl : A1.length + A2.length ≤ 40) (h1 : ∀ e ∈ A1, Ly e) (h2 : ∀ e ∈ A2, Ly e) (he : Ly (o, sD nm a b prs)) (hB : ShB nm a b prs)
    (hd : d ∈ base (oD o) nm a b prs ∨ ∃ o2 w A3 n, A2 = (o2, w) :: A3 ∧ n ≠ 0 ∧ o = some n ∧ d ∈ base2 (oD o) nm a b prs w ((un n).1 : Nat) ((un n).2 : Nat)) : F_is_table [.tup (A1.map lay' ++ d :: A2.map lay')] x = .val (.bl false) x := by
  have hS := he.sh
  have hO := oD_amount he.lt
  have bad : (∀ x, F_p_is_layer [d] x = .val (.bl false) x) → F_is_table [.tup (A1.map lay' ++ d :: A2.map lay')] x = .val (.bl false) x := by
    intro hz
    refine bad_at (by simp; omega) (fun L hL => ?_) ⟨d, by simp, hz x⟩
    rcases List.mem_append.mp hL with h | h
    · obtain ⟨e, he, rfl⟩ := List.mem_map.mp h
      exact ⟨true, layer_yes (h1 e he) x⟩
    · rcases List.mem_cons.mp h with
      rfl | h
      · exact ⟨false, hz x⟩
      · obtain ⟨e, he, rfl⟩ := List.mem_map.mp h
        exact ⟨true, layer_yes (h2 e he) x⟩
  have whole : ∀ e : Option Nat × D, Ly e → d = lay' e → (∀ (A : List (Option Nat × D)) (l : Option Nat × D), A1 ++ e :: A2 = A ++ [l] → tabOk A l = false) → F_is_table [.tup (A1.map lay' ++ d :: A2.map lay')] x = .val (.bl false) x := by
    intro e hE ed ht
    have hne : A1 ++ e :: A2 ≠ [] := by simp
    have hq := List.dropLast_concat_getLast hne
    have em : A1.map lay' ++ d :: A2.map lay' = (A1 ++ e :: A2).map lay' := by
      rw [ed, List.map_append]
      rfl
    rw [em]
    generalize (A1 ++ e :: A2).dropLast = A at hq
    generalize (A1 ++ e :: A2).getLast hne = l at hq
    have ln : (A1 ++ e :: A2).length = A.length + 1 := by
      rw [← hq]
      simp
    have ln2 : (A1 ++ e :: A2).length = A1.length + (A2.length + 1) := by simp
    rw [← hq]
    refine istab_no (by omega) (fun f hf => ?_) (ht A l hq.symm)
    rw [hq] at hf
    rcases List.mem_append.mp hf with h | h
    · exact h1 f h
    · rcases List.mem_cons.mp h with
      rfl | h
      · exact hE
      · exact h2 f h
  have hbase : d ∈ base (oD o) nm a b prs → F_is_table [.tup (A1.map lay' ++ d :: A2.map lay')] x = .val (.bl false) x := by
    intro hd
    simp only [base, List.mem_cons, List.not_mem_nil, or_false] at hd
    rcases hd with rfl | rfl | rfl | rfl | rfl | rfl | rfl | rfl | rfl
    · exact bad fun x => layer2 (a := true) (b := false) hO hB.no0
    · exact bad fun x => layer2 (a := true) (b := false) hO hB.no1
    · exact bad fun x => layer2 (a := true) (b := false) hO hB.no2
    · exact bad fun x => layer2 (a := true) (b := false) hO fun x => shares_lst x
    · exact bad fun x => layer_len (by simp) x
    · exact bad fun x => layer2 (a := true) (b := false) hO hB.no5
    · refine whole (some 0, sD nm a b prs) ⟨hS, fun n hn => by cases hn; decide⟩ rfl fun A l hA => ?_
      unfold tabOk
      rcases List.eq_nil_or_concat A2 with rfl | ⟨B, z, rfl⟩
      · have := List.append_inj_right' hA rfl
        have hl : l = (some 0, sD nm a b prs) := by
          injection this with h
          exact h.symm
        rw [hl]
        rfl
      · have hA' : (A1 ++ (some 0, sD nm a b prs) :: B) ++ [z] = A ++ [l] := by
          rw [← hA]
          simp
        have := List.append_inj_left' hA' rfl
        rw [← this, incB_no, Bool.and_false, Bool.false_and]
    · exact bad fun x => layer_len (by simp) x
    · exact bad fun x => layer_lst x
  rcases hd with hd | ⟨o2, w, A3, n, rfl, hn, rfl, hd⟩
  · exact hbase hd
  · unfold base2 at hd
    rcases List.mem_append.mp hd with hd | hd
    · rcases List.mem_append.mp hd with hd | hd
      · exact hbase hd
      · simp only [List.mem_cons, List.not_mem_nil, or_false] at hd
        rcases hd with rfl | rfl
        · refine whole (none, sD nm a b prs) ⟨hS, fun n hn => nomatch hn⟩ rfl fun A l hA => ?_
          unfold tabOk
          have : (A.any fun e => e.1.isNone) = true := by
            rcases List.eq_nil_or_concat A3 with rfl | ⟨B, z, rfl⟩
            · have hA' : (A1 ++ [(none, sD nm a b prs)]) ++ [(o2, w)] = A ++ [l] := by
                rw [← hA]
                simp
              rw [← List.append_inj_left' hA' rfl]
              simp
            · have hA' : (A1 ++ (none, sD nm a b prs) :: (o2, w) :: B) ++ [z] = A ++ [l] := by
                rw [← hA]
                simp
              rw [← List.append_inj_left' hA' rfl]
              simp
          rw [this]
          simp
        · have hW := h2 (o2, w) (by simp)
          refine whole (some n, w) ⟨hW.sh, fun m hm => he.lt m hm⟩ rfl fun A l hA => ?_
          unfold tabOk
          have := cnt_lt (o := some n) (o2 := o2) hW.sh.self A1 none A3
          rw [hA] at this
          rw [decide_eq_false (by omega),
            Bool.and_false]
    · rw [List.mem_singleton] at hd
      subst hd
      have ht := he.lt n rfl
      have h3 := List.all_eq_true.mp eB n (List.mem_range.mpr ht)
      rw [Bool.and_eq_true] at h3
      have h4 := or_r h3.2 fun z => hn (of_decide_eq_true z)
      refine bad fun x => layer2 (a := false) (b := true) (.inr ⟨rfl, fun x => ?_⟩) hS.yes
      exact okv_at pu_is_amount h4 x
end GG

namespace GG
open PySem PySem.Spec L2 Mi
variable {x x' : Bx}
def cv (e : Nat × D) : Option Nat × D := (some e.1, e.2)
theorem tab_eq {M : List (Nat × D)} {s : D} : tabL M s = (M.map cv ++ [(none, s)]).map lay' := by
  unfold tabL
  rw [List.map_append, List.map_map]
  rfl
theorem Inc.weak {m : Nat} : ∀ {L : List (Nat × D)} {n : Nat}, Inc n L → m ≤ n → Inc m L
  | [], _, _, _ => trivial
  | _ :: _, _, h, e => ⟨Nat.lt_of_le_of_lt e h.1, h.2⟩
theorem Adj.weak : ∀ {L : List (Nat × D)} {p : Option D}, Adj p L → Adj none L
  | [], _, _ => trivial
  | _ :: _, _, h => ⟨fun _ z => (nomatch z), h.2⟩
theorem lastN_le : ∀ {L : List (Nat × D)} {n : Nat}, Inc n L → n ≤ lastN n L
  | [], _, _ => Nat.le_refl _
  | e :: L, n, h => Nat.le_trans (Nat.le_of_lt h.1) (lastN_le (L := L) (n := e.1) h.2)
theorem Inc.mem : ∀ {L : List (Nat × D)} {n : Nat}, Inc n L → ∀ e ∈ L, n < e.1 ∧ e.1 ≤ lastN n L
  | f :: L, n, h, e, he => by
    rcases List.mem_cons.mp he with
      rfl | he
    · exact ⟨h.1, lastN_le h.2⟩
    · have := Inc.mem h.2 e he
      exact ⟨Nat.lt_trans h.1 this.1, this.2⟩
theorem incB_yes {z : Nat × D} : ∀ {M : List (Nat × D)} {n : Nat}, Inc n (M ++ [z]) → incB n (M.map cv) = true
  | [], _, _ => rfl
  | e :: M, n, h => by
    show (decide (n < e.1) && incB e.1 (M.map cv)) = true
    rw [decide_eq_true h.1, incB_yes h.2]
    rfl
theorem cnt_yes {n : Nat} {s : D} : ∀ {M : List (Nat × D)} {p : Option D}, Adj p (M ++ [(n, s)]) → cnt p (M.map cv ++ [(none, s)]) = M.length + 1
  | [], p, h => by
    show stp p s + 0 = 0 + 1
    unfold stp
    split
    · rename_i d
      have := h.1 d rfl
      have e : eqT d s = false := by
        unfold eqT
        rw [this]
      rw [e]
      rfl
    · rfl
  | e :: M, p, h => by
    show stp p e.2 + cnt (some e.2) (M.map cv ++ [(none, s)]) = M.length + 1 + 1
    rw [cnt_yes h.2]
    have : stp p e.2 = 1 := by
      unfold stp
      split
      · rename_i d
        have := h.1 d rfl
        have e : eqT d e.2 = false := by
          unfold eqT
          rw [this]
        rw [e]
        rfl
      · rfl
    omega
structure TabB (M : List (Nat × D)) (s : D) : Prop where
  ly : ∀ e ∈ M.map cv ++ [(none, s)], Ly e
  pos : ∀ e ∈ M, e.1 ≠ 0
  short : M.length ≤ 5
  good : ∃ n, Inc 0 (M ++ [(n, s)]) ∧ Adj none (M ++ [(n, s)])
theorem Tab.b {M : List (Nat × D)} {s : D} (h : Tab M s) : TabB M s := by
  obtain ⟨n, hn, g⟩ := h.good
  have hi := g.inc.mem
  rw [g.last] at hi
  refine ⟨fun e he => ?_, fun e he => ?_, h.short, n, g.inc, g.adj⟩
  · rcases List.mem_append.mp he with
    he | he
    · obtain ⟨f, hf, rfl⟩ := List.mem_map.mp he
      have := hi f (List.mem_append_left _ hf)
      exact ⟨g.sh f (List.mem_append_left _ hf), fun m hm => by cases hm; omega⟩
    · rw [List.mem_singleton]
      at he
      subst he
      exact ⟨g.sh (n, s) (by simp), fun m hm => nomatch hm⟩
  · have := hi e (List.mem_append_left _ he)
    omega
theorem TabB.yes {M : List (Nat × D)} {s : D} (h : TabB M s) (x : Bx) : F_is_table [.tup (tabL M s)] x = .val (.bl true) x := by
  obtain ⟨n, h1, h2⟩ := h.good
  have hs := h.short
  rw [tab_eq, istab (by rw [List.length_map]; omega) h.ly]
  have a1 : ((M.map cv).any fun e => e.1.isNone) = false := by
    rw [List.any_eq_false]
    intro e he
    obtain ⟨f, _, rfl⟩ := List.mem_map.mp he
    simp [cv]
  have a2 : (M.map cv ++ [((none : Option Nat), s)]).length = M.length + 1 := by simp
  have a3 : tabOk (M.map cv) (none, s) = true := by
    unfold tabOk
    rw [a1, incB_yes h1, cnt_yes h2, a2, decide_eq_true rfl]
    rfl
  rw [a3]
theorem TabB.tail {e : Nat × D} {M : List (Nat × D)} {s : D} (h : TabB (e :: M) s) : TabB M s := by
  obtain ⟨n, h1, h2⟩ := h.good
  have hs := h.short
  rw [List.length_cons] at hs
  exact ⟨fun f hf => h.ly f (List.mem_cons_of_mem _ hf), fun f hf => h.pos f (List.mem_cons_of_mem _ hf), by omega, n, Inc.weak (L := M ++ [(n, s)]) h1.2 (Nat.zero_le _), Adj.weak (L := M ++ [(n, s)]) h2.2⟩
theorem TabB.init {M : List (Nat × D)} {s : D} (h : TabB M s) (x : Bx) : F_is_table [.tup (M.map lay)] x = .val (.bl false) x := by
  have hs := h.short
  rcases List.eq_nil_or_concat M with rfl | ⟨B, z, rfl⟩
  · exact table_nil x
  · rw [List.concat_eq_append] at h hs ⊢
    have e : (B ++ [z]).map lay = (B.map cv ++ [cv z]).map lay' := by
      rw [List.map_append, List.map_append, List.map_map]
      rfl
    rw [List.length_append] at hs
    rw [e]
    refine istab_no (by rw [List.length_map]; simp at hs; omega) (fun f hf => ?_) ?_
    · refine h.ly f (List.mem_append_left _ ?_)
      rw [List.map_append]
      exact hf
    · unfold tabOk
      rfl
theorem sD_inj {nm nm' : Str} {a b a' b' : Int} {p p' : List D} (h : sD nm a b p = sD nm' a' b' p') : nm = nm' ∧ a = a' ∧ b = b' ∧ p = p' := by
  unfold sD at h
  injection h with h
  injection h with h1 h2
  injection h1 with h1
  injection h1 with h3 h4
  injection h3 with h3
  injection h4 with h4
  injection h4 with h4
  injection h4 with h5 h6
  injection h5 with h5
  injection h6 with h6
  injection h6 with h6
  exact ⟨h3, h5, h6, h2⟩
theorem fD_inj {a b c d : Int} (h : fD a b = fD c d) : a = c ∧ b = d := by
  unfold fD at h
  injection h with h
  injection h with h1 h2
  injection h1 with h1
  injection h2 with h2
  injection h2 with h2
  exact ⟨h1, h2⟩
theorem lay_inj {u s : D} {e : Option Nat × D} (h : lay' e = .tup [u, s]) : oD e.1 = u ∧ e.2 = s := by
  unfold lay' at h
  injection h with h
  injection h with h1 h2
  injection h2 with h2
  exact ⟨h1, h2⟩
theorem bent_final {k : Int} (hi : Inv k x) (hk : k < 500000) {M : List (Nat × D)} {s : D} (h : TabB M s) : ∃ (B : List D) (x' : Bx), F_l_bent [.box, .tup (tabL M s)] x = .val (.tup B) x' ∧ Inv (k + 2) x' ∧ ∀ y, F_is_table [.tup B] y = .val (.bl false) y := by
  have hs := h.short
  rw [tab_eq]
  have hg : (M.map cv ++ [((none : Option Nat), s)]).length = M.length + 1 := by simp
  have hgi : ∀ i, i < M.length → (M.map cv ++ [((none : Option Nat), s)])[i]? = (M[i]?).map cv := by
    intro i hi
    rw [List.getElem?_append_left (by rw [List.length_map]; exact hi), List.getElem?_map]
  have hly := h.ly
  generalize hG : M.map cv ++ [((none : Option Nat), s)] = G at *
  obtain ⟨r, d, x1, u, nm, a, b, prs, hr, er, eb, i1, hd⟩ := bent_ok hi (by omega) (A1 := []) (A2 := []) (Ls := G.map lay') (by rw [List.length_map]; omega) (by rw [List.length_map]; omega) (fun L hL => by
      obtain ⟨e, he, rfl⟩ := List.mem_map.mp hL
      obtain ⟨nm, a, b, prs, h1, h2⟩ := (hly e he).sh.bend
      refine ⟨oD e.1, nm, a, b, prs, ?_, h2.len⟩
      unfold lay'
      rw [h1]
      rfl) (fun i hi => by
      rw [List.length_map] at hi
      rw [List.getElem?_map, hgi i (by omega), List.getElem?_eq_getElem (show i < M.length by omega)]
      exact ⟨_, _, _, rfl⟩)
  rw [List.length_map] at hr
  rw [List.getElem?_map, List.getElem?_eq_getElem hr] at er
  have er' : lay' G[r] = .tup [u, sD nm a b prs] := by
    injection er
  obtain ⟨eu, es⟩ := lay_inj er'
  have hlr := hly G[r] (List.getElem_mem hr)
  have hB : ShB nm a b prs := by
    obtain ⟨nm', a', b', prs', h1, h2⟩ := hlr.sh.bend
    rw [es] at h1
    obtain ⟨rfl, rfl, rfl, rfl⟩ := sD_inj h1
    exact h2
  have hE : Ly (G[r].1, sD nm a b prs) := ⟨es ▸ hlr.sh, hlr.lt⟩
  refine ⟨_, x1, eb, i1, fun y => ?_⟩
  rw [← List.map_take, ← List.map_drop]
  refine bent_no (A1 := G.take r) (A2 := G.drop (r + 1)) (o := G[r].1) (nm := nm) (a := a) (b := b) (prs := prs) (by rw [List.length_take, List.length_drop]; omega) (fun e he => hly e (List.mem_of_mem_take he)) (fun e he => hly e (List.mem_of_mem_drop he)) hE hB ?_
  rw [eu]
  rcases hd with hd | ⟨hlast, v, w, t, q, en, hu, hd⟩
  · exact .inl hd
  · refine .inr ?_
    rw [List.length_map] at hlast
    rw [List.getElem?_map, List.getElem?_eq_getElem hlast] at en
    have en' : lay' G[r + 1] = .tup [v, w] := by
      injection en
    obtain ⟨_, ew⟩ := lay_inj en'
    have hrM : r < M.length := by omega
    have hGr := hgi r hrM
    rw [List.getElem?_eq_getElem hr, List.getElem?_eq_getElem hrM] at hGr
    have hGr' : G[r] = cv M[r] := by
      injection hGr
    have ho : G[r].1 = some M[r].1 := by
      rw [hGr']
      rfl
    refine ⟨G[r + 1].1, w, G.drop (r + 2), M[r].1, ?_, h.pos _ (List.getElem_mem hrM), ho, ?_⟩
    · rw [List.drop_eq_getElem_cons hlast, ← ew]
    · rw [ho] at eu
      have e3 : fD ((un M[r].1).1 : Nat) ((un M[r].1).2 : Nat) = fD t q := by
        rw [← hu]
        exact eu
      obtain ⟨e4, e5⟩ := fD_inj e3
      rw [e4, e5]
      exact hd
end GG

namespace GG
open PySem PySem.Spec L2 Mi
variable {x x' : Bx} {s1 s3 s4 s5 s6 s7 : Slot}
def rBe : MM D := mDef 2 F_l_bent (mCons (mVar 0) (mCons (mVar 2) mNil))
def rBs : MM D := mLc (mBind (mCons (mC (.int 3)) mNil) fun ds => oB (gRng ds)) (.nm 6) mYes rBe [6]
def rTb : MM D := mDef 2 F_l_table (mCons (mVar 0) (mCons (mC (.int 6)) mNil))
def rG1 : MM D := mDef 1 F_is_table (mCons (mVar 2) mNil)
def rG2 : MM D := mDef 1 F_is_table (mCons (mCall gList (mCons (mVar 2) mNil)) mNil)
def rG3 : MM D := mDef 1 F_is_table (mCons (mSlice (mVar 2) (mPart (mC (.int 1))) mNoPart) mNil)
def rG4 : MM D := mDef 1 F_is_table (mCons (mSlice (mVar 2) mNoPart (mPart kM1)) mNil)
def rG : MM D := mLst (mCons rG1 (mCons rG2 (mCons rG3 (mCons rG4 mNil))))
def rDu : MM D := mLst (mCons (mC (.bl true)) (mCons (mC (.bl false)) (mCons (mOp (fun a b => o1 (gGt a b)) (mCall gLen (mCons (mVar 2) mNil)) (mC (.int 1))) (mCons (mC (.bl false)) mNil))))
def rL1 : MM D := mLc (mIter (mVar 3)) (.nm 7) mYes (mDef 1 F_is_table (mCons (mVar 7) mNil)) [7]
def rS1 : MM D := mDef 2 (F_l_same 12) (mCons (mOp (fun a b => o1 (gAdd a b)) (mVar 4) rL1) (mCons (mOp (fun a b => o1 (gAdd a b)) (mVar 5) (mOp (fun a b => o1 (gRepL a b)) (mLst (mCons (mC (.bl false)) mNil)) (mC (.int 3)))) mNil))
def rL2 : MM D := mLc (mIter (mVar 2)) (.nm 7) mYes (mDef 1 F_is_shares (mCons (mOp (fun a b => o1 (gIx a b)) (mVar 7) (mC (.int 1))) mNil)) [7]
def rS2 : MM D := mDef 2 (F_l_same 12) (mCons rL2 (mCons (mOp (fun a b => o1 (gRepL a b)) (mLst (mCons (mC (.bl true)) mNil)) (mCall gLen (mCons (mVar 2) mNil))) mNil))
def rBody : MS := mSeq (mAsg (.nm 2) rTb) (mSeq (mAsg (.nm 3) rBs) (mSeq (mAsg (.nm 4) rG) (mSeq (mAsg (.nm 5) rDu) (mSeq (mIfS (mTNot (mTru rS1)) jNo mNext) (mIfS (mTNot (mTru rS2)) jNo mNext)))))
theorem M_right_eq : M_l_right = mSeq (mFor (mBind (mCons (mC (.int 9)) mNil) fun ds => oB (gRng ds)) (.nm 1) rBody) (mRet (mC (.bl true))) := rfl
theorem b_run {ρ : En} {M : List (Nat × D)} {s : D} (h : TabB M s) (h0 : ρ[0]? = some (.fz .box)) (h2 : ρ[2]? = some (.fz (.tup (tabL M s)))) : ∀ (ds acc : List D) {x : Bx} {k : Int}, Inv k x → k + 2 * ds.length < 400000 → acc.length + ds.length ≤ 50 →
    ∃ (Bs : List (List D)) (x' : Bx), lcRun (.nm 6) mYes rBe ρ ds acc x = .val (acc ++ Bs.map .tup) x' ∧ Bs.length = ds.length ∧ (∀ B ∈ Bs, ∀ y, F_is_table [.tup B] y = .val (.bl false) y) ∧ Inv (k + 2 * ds.length) x'
  | [], acc, x, k, hi, _, _ => ⟨[], x, by rw [List.map_nil, List.append_nil]; rfl, rfl, by simp, by simpa using hi⟩
  | d :: ds, acc, x, k, hi, hk, hl => by
    rw [List.length_cons] at hk hl
    obtain ⟨B, x1, e1, i1, hB⟩ := bent_final hi (by omega) h
    obtain ⟨Bs, x2, e2, h3, h4, i2⟩ := b_run h h0 h2 ds (acc ++ [.tup B]) i1 (by omega) (by rw [List.length_append]; show acc.length + 1 + _ ≤ _; omega)
    have h0' : (ρ.set 6 (.fz d))[0]? = some (.fz .box) := by
      rw [List.getElem?_set_ne (by decide)]
      exact h0
    have h2' : (ρ.set 6 (.fz d))[2]? = some (.fz (.tup (tabL M s))) := by
      rw [List.getElem?_set_ne (by decide)]
      exact h2
    have em : rBe (ρ.set 6 (.fz d)) x = .val (.tup B) x1 := by
      revert e1 h2'
      generalize tabL M s = TL
      unfold rBe
      generalize F_l_bent = FB
      intro e1 h2'
      simp [mDef, mBind, R.bind, mCons, mVar, mNil, h0', h2', e1]
    refine ⟨B :: Bs, x2, ?_, by rw [List.length_cons, List.length_cons, h3], ?_, ?_⟩
    · show (match rBe (ρ.set 6 (.fz d)) x with
        | .val e x2 => if acc.length < big then lcRun (.nm 6) mYes rBe ρ ds (acc ++ [e]) x2 else .out
        | _ => .out) = _
      rw [em]
      dsimp only
      rw [if_pos (bg _ (by omega)), e2, List.append_assoc]
      rfl
    · intro C hC
      rcases List.mem_cons.mp hC with rfl | hC
      · exact hB
      · exact h4 C hC
    · have e : k + 2 + 2 * (ds.length : Int) = k + 2 * ((ds.length + 1 : Nat) : Int) := by omega
      rw [List.length_cons, ← e]
      exact i2
theorem d1_call {F : Mr} {m : MM D} {ρ : En} {d e : D} {y z : Bx} (h : m ρ x = .val d y) (h2 : F [d] y = .val e z) : mDef 1 F (mCons m mNil) ρ x = .val e z := by
  simp [mDef, mBind, R.bind, mCons, mNil, h, h2]
theorem d2_call {F : Mr} {m n : MM D} {ρ : En} {d1 d2 e : D} {y z w : Bx} (h : m ρ x = .val d1 y) (h1 : n ρ y = .val d2 z) (h2 : F [d1, d2] z = .val e w) : mDef 2 F (mCons m (mCons n mNil)) ρ x = .val e w := by
  simp [mDef, mBind, R.bind, mCons, mNil, h, h1, h2]
theorem rep_f3 : gRepL (.lst [.bl false]) (.int 3) = some (.lst [.bl false, .bl false, .bl false]) := rfl
theorem flat_rep (b : D) : ∀ n : Nat, (List.replicate n [b]).flatten = List.replicate n b
  | 0 => rfl
  | n + 1 => by
    rw [List.replicate_succ, List.replicate_succ, List.flatten_cons, flat_rep b n]
    rfl
theorem rep_t {n : Nat} (h : n ≤ 1000) : gRepL (.lst [.bl true]) (.int (n : Int)) = some (.lst (List.replicate n (.bl true))) := by
  have hc : -(2 ^ 63) ≤ (n : Int) ∧ (n : Int) < 2 ^ 63 ∧ [D.bl true].length * (n : Int).toNat ≤ big := by
    refine ⟨by omega,
      by omega, ?_⟩
    unfold big
    rw [List.length_singleton, Int.toNat_natCast]
    omega
  unfold gRepL
  dsimp only
  rw [if_pos hc, Int.toNat_natCast, flat_rep]
theorem plain_bls {n : Nat} {l : List D} (h : ∀ d ∈ l, ∃ b, d = .bl b) (hl : l.length ≤ 100) : plain (n + 2) (.lst l) = true := by
  unfold plain
  rw [Bool.and_eq_true, List.all_eq_true]
  refine ⟨fun d hd => ?_, decide_eq_true hl⟩
  obtain ⟨b, rfl⟩ := h d hd
  rfl
end GG

namespace GG
open PySem PySem.Spec L2 Mi
variable {x x' : Bx} {s1 s3 s4 s5 s6 s7 : Slot}
theorem map_k {α β : Type} (c : β) : ∀ l : List α, (l.map fun _ => c) = List.replicate l.length c
  | [] => rfl
  | a :: l => by
    show c :: (l.map fun _ => c) = _
    rw [map_k c l]
    rfl
def Eb (s1 : Slot) (d : D) (s3 s4 s5 s6 s7 : Slot) : En := [.fz .box, s1, .fz d, s3, s4, s5, s6, s7]
theorem g_val {M : List (Nat × D)} {s : D} (h : TabB M s) : rG (Eb s1 (.tup (tabL M s)) s3 s4 s5 s6 s7) x = .val (.lst [.bl true, .bl false, .bl (decide (1 < (tabL M s).length)), .bl false]) x := by
  have v2 : mVar 2 (Eb s1 (.tup (tabL M s)) s3 s4 s5 s6 s7) x = .val (.tup (tabL M s)) x := rfl
  have p1 : rG1 (Eb s1 (.tup (tabL M s)) s3 s4 s5 s6 s7) x = .val (.bl true) x := d1_call v2 (h.yes x)
  have p2 : rG2 (Eb s1 (.tup (tabL M s)) s3 s4 s5 s6 s7) x = .val (.bl false) x := d1_call (d := .lst (tabL M s)) rfl (table_lst x)
  have p3 : rG3 (Eb s1 (.tup (tabL M s)) s3 s4 s5 s6 s7) x = .val (.bl (decide (1 < (tabL M s).length))) x := by
    cases M with
    | nil =>
      have e1 : tabL [] s = [.tup [.non, s]] := rfl
      rw [e1]
      exact d1_call (d := .tup []) rfl (table_nil x)
    | cons e M =>
      have e1 : tabL (e :: M) s = lay e :: tabL M s := rfl
      have hn : 1 < (lay e :: tabL M s).length := by
        unfold tabL
        simp
      have gc := gcut_1 (a := lay e) (l := tabL M s)
      rw [e1, decide_eq_true hn]
      have sl : mSlice (mVar 2) (mPart (mC (.int 1))) mNoPart (Eb s1 (.tup (lay e :: tabL M s)) s3 s4 s5 s6 s7) x = .val (.tup (tabL M s)) x := by
        unfold Eb
        generalize tabL M s = TL at *
        generalize lay e = l at *
        simp [mSlice, mPart, mNoPart, mVar, mC, mBind, R.bind, gc, o1]
      exact d1_call sl (h.tail.yes x)
  have p4 : rG4 (Eb s1 (.tup (tabL M s)) s3 s4 s5 s6 s7) x = .val (.bl false) x := by
    have gc : gCut none (some (-1)) (.tup (tabL M s)) = some (.tup (M.map lay)) := gcut_last
    have sl : mSlice (mVar 2) mNoPart (mPart kM1) (Eb s1 (.tup (tabL M s)) s3 s4 s5 s6 s7) x = .val (.tup (M.map lay)) x := by
      unfold Eb kM1
      generalize tabL M s = TL at *
      simp [mSlice, mPart, mNoPart, mVar, mC, mBind, R.bind, gNeg, gc, o1]
    exact d1_call sl (h.init x)
  generalize decide (1 < (tabL M s).length) = c at *
  unfold rG
  generalize Eb s1 (.tup (tabL M s)) s3 s4 s5 s6 s7 = E at *
  generalize rG1 = q1 at *
  generalize rG2 = q2 at *
  generalize rG3 = q3 at *
  generalize rG4 = q4 at *
  simp [mLst, mCons, mNil, mBind, R.bind, p1, p2, p3, p4, bl]
theorem du_val {TL : List D} : rDu (Eb s1 (.tup TL) s3 s4 s5 s6 s7) x = .val (.lst [.bl true, .bl false, .bl (decide (1 < TL.length)), .bl false]) x := by
  have h : decide ((1 : Int) < ((TL.length : Nat) : Int)) = decide (1 < TL.length) := by
    by_cases h : 1 < TL.length
    · rw [decide_eq_true h, decide_eq_true (by omega)]
    · rw [decide_eq_false h, decide_eq_false (by omega)]
  rw [← h]
  unfold Eb
  simp [rDu, mLst, mCons, mNil, mBind, R.bind, mC, mOp, mCall, mVar, gLen, o1, gGt, gI, bl]
theorem l1_val {Bs : List (List D)} {d : D} (hl : Bs.length = 3) (hB : ∀ B ∈ Bs, ∀ y, F_is_table [.tup B] y = .val (.bl false) y) : rL1 (Eb s1 d (.fz (.lst (Bs.map .tup))) s4 s5 s6 s7) x = .val (.lst [.bl false, .bl false, .bl false]) x := by
  have run := lc_map (tg := .nm 7) (e := mDef 1 F_is_table (mCons (mVar 7) mNil)) (ρ := wipeE (shut (Eb s1 d (.fz (.lst (Bs.map .tup))) s4 s5 s6 s7)) [7]) (x := x) (f := fun _ => .bl false) (Bs.map .tup) [] (fun L hL => by
    obtain ⟨B, hB', rfl⟩ := List.mem_map.mp hL
    refine ⟨_, rfl, d1_call (d := .tup B) ?_ (hB B hB' x)⟩
    have hlen : 7 < (wipeE (shut (Eb s1 d (.fz (.lst (Bs.map .tup))) s4 s5 s6 s7)) [7]).length := by simp [wipeE, shut, Eb]
    unfold mVar
    rw [List.getElem?_set_self hlen]) (by rw [List.length_map, hl]; decide)
  have e : ([] : List D) ++ (Bs.map D.tup).map (fun _ => D.bl false) = [.bl false, .bl false, .bl false] := by
    match Bs, hl with
    | [a, b, c], _ => rfl
  rw [e] at run
  exact lc_of (ds := Bs.map .tup) rfl rfl run
theorem l2_val {G : List (Option Nat × D)} (hg : ∀ e ∈ G, Sh e.2) (hl : G.length ≤ 50) : rL2 (Eb s1 (.tup (G.map lay')) s3 s4 s5 s6 s7) x = .val (.lst (List.replicate G.length (.bl true))) x := by
  have run := lc_map (tg := .nm 7) (e := mDef 1 F_is_shares (mCons (mOp (fun a b => o1 (gIx a b)) (mVar 7) (mC (.int 1))) mNil)) (ρ := wipeE (shut (Eb s1 (.tup (G.map lay')) s3 s4 s5 s6 s7)) [7]) (x := x) (f := fun _ => .bl true) (G.map lay') [] (fun L hL => by
    obtain ⟨e, he, rfl⟩ := List.mem_map.mp hL
    refine ⟨_, rfl, d1_call (d := e.2) ?_ ((hg e he).yes x)⟩
    have hlen : 7 < (wipeE (shut (Eb s1 (.tup (G.map lay')) s3 s4 s5 s6 s7)) [7]).length := by simp [wipeE, shut, Eb]
    have hv : mVar 7 ((wipeE (shut (Eb s1 (.tup (G.map lay')) s3 s4 s5 s6 s7)) [7]).set 7 (.fz (lay' e))) x = .val (lay' e) x := by
      unfold mVar
      rw [List.getElem?_set_self hlen]
    have g : gIx (lay' e) (.int 1) = some e.2 := rfl
    simp [mOp, mBind, R.bind, hv, mC, g, o1]) (by rw [List.length_map]; show 0 + _ ≤ _; omega)
  have e : ([] : List D) ++ (G.map lay').map (fun _ => D.bl true) = List.replicate G.length (.bl true) := by
    rw [List.nil_append, map_k, List.length_map]
  rw [e] at run
  exact lc_of (ds := G.map lay') rfl rfl run
theorem s1_val {Bs : List (List D)} {d : D} {c : Bool} (hl : Bs.length = 3) (hB : ∀ B ∈ Bs, ∀ y, F_is_table [.tup B] y = .val (.bl false) y) : rS1 (Eb s1 d (.fz (.lst (Bs.map .tup))) (.fz (.lst [.bl true, .bl false, .bl c, .bl false])) (.fz (.lst [.bl true, .bl false, .bl c, .bl false])) s6 s7) x = .val (.bl true) x := by
  have p1 := l1_val (s1 := s1) (d := d) (s4 := .fz (.lst [.bl true, .bl false, .bl c, .bl false])) (s5 := .fz (.lst [.bl true, .bl false, .bl c, .bl false])) (s6 := s6) (s7 := s7) (x := x) hl hB
  have g : gAdd (.lst [.bl true, .bl false, .bl c, .bl false]) (.lst [.bl false, .bl false, .bl false]) = some (.lst [.bl true, .bl false, .bl c, .bl false, .bl false, .bl false, .bl false]) := gAdd_lst (by simp)
  have q1 : mOp (fun a b => o1 (gAdd a b)) (mVar 4) rL1 (Eb s1 d (.fz (.lst (Bs.map .tup))) (.fz (.lst [.bl true, .bl false, .bl c, .bl false])) (.fz (.lst [.bl true, .bl false, .bl c, .bl false])) s6 s7) x = .val (.lst [.bl true, .bl false, .bl c, .bl false, .bl false, .bl false, .bl false]) x := by
    revert p1
    unfold Eb
    generalize rL1 = L
    intro p1
    simp [mOp, mBind, R.bind, mVar, p1, g, o1]
  have q2 : mOp (fun a b => o1 (gAdd a b)) (mVar 5) (mOp (fun a b => o1 (gRepL a b)) (mLst (mCons (mC (.bl false)) mNil)) (mC (.int 3))) (Eb s1 d (.fz (.lst (Bs.map .tup))) (.fz (.lst [.bl true, .bl false, .bl c, .bl false])) (.fz (.lst [.bl true, .bl false, .bl c, .bl false])) s6 s7) x = .val (.lst [.bl true, .bl false, .bl c, .bl false, .bl false, .bl false, .bl false]) x := by
    unfold Eb
    simp [mOp, mBind, R.bind, mVar, mLst, mCons, mC, mNil, bl, rep_f3, g, o1]
  refine d2_call q1 q2 (same_refl 12 _ (plain_bls (n := 10) (fun d hd => ?_) (by simp)) x)
  simp only [List.mem_cons, List.not_mem_nil, or_false] at hd
  rcases hd with rfl | rfl | rfl | rfl | rfl | rfl | rfl <;> exact ⟨_, rfl⟩
theorem s2_val {G : List (Option Nat × D)} (hg : ∀ e ∈ G, Sh e.2) (hl : G.length ≤ 50) : rS2 (Eb s1 (.tup (G.map lay')) s3 s4 s5 s6 s7) x = .val (.bl true) x := by
  have p1 := l2_val (s1 := s1) (s3 := s3) (s4 := s4) (s5 := s5) (s6 := s6) (s7 := s7) (x := x) hg hl
  have g := rep_t (n := G.length) (by omega)
  have hL : (G.map lay').length = G.length := List.length_map ..
  have q2 : mOp (fun a b => o1 (gRepL a b)) (mLst (mCons (mC (.bl true)) mNil)) (mCall gLen (mCons (mVar 2) mNil)) (Eb s1 (.tup (G.map lay')) s3 s4 s5 s6 s7) x = .val (.lst (List.replicate G.length (.bl true))) x := by
    have aux : ∀ (GR : D → D → Option D) (GL : List D) (z : D), GR (.lst [.bl true]) (.int (GL.length : Nat)) = some z → mOp (fun a b => o1 (GR a b)) (mLst (mCons (mC (.bl true)) mNil)) (mCall gLen (mCons (mVar 2) mNil)) (Eb s1 (.tup GL) s3 s4 s5 s6 s7) x = .val z x := by
      intro GR GL z hz
      unfold Eb
      simp [mOp, mBind, R.bind, mVar, mLst, mCons, mC, mNil, bl, mCall, gLen, hz, o1]
    rw [← hL] at g ⊢
    exact aux gRepL _ _ g
  refine d2_call p1 q2 (same_refl 12 _ (plain_bls (n := 10) (fun d hd => ?_) (by rw [List.length_replicate]; omega)) x)
  rw [List.eq_of_mem_replicate hd]
  exact ⟨_, rfl⟩
end GG

namespace GG
open PySem PySem.Spec L2 Mi
theorem at3_0 {a b c : D} : atI [a, b, c] 0 = some a := rfl
theorem at3_1 {a b c : D} : atI [a, b, c] 1 = some b := rfl
theorem at3_2 {a b c : D} : atI [a, b, c] 2 = some c := rfl
section
variable {x x' : Bx} {s1 s2 s3 s4 s5 s6 s7 : Slot}
theorem body_ok {k : Int} (hi : Inv k x) (hk : k < 200000) : ∃ (t2 t3 t4 t5 t6 t7 : Slot) (x' : Bx), rBody [.fz .box, s1, s2, s3, s4, s5, s6, s7] x = .nx [.fz .box, s1, t2, t3, t4, t5, t6, t7] x' ∧ Inv (k + 76) x' := by
  obtain ⟨M, s, x1, e1, hT, i1⟩ := table_ok hi (by omega)
  have h := hT.b
  have hsh := h.short
  obtain ⟨ks, ek, hks⟩ := gRng_m (m := 3) (by decide)
  obtain ⟨Bs, x2, e2, hl, hB, i2⟩ := b_run (ρ := wipeE (shut (Eb s1 (.tup (tabL M s)) s3 s4 s5 s6 s7)) [6]) h rfl rfl ks [] i1 (by omega) (by show 0 + _ ≤ _; omega)
  have p1 : rTb [.fz .box, s1, s2, s3, s4, s5, s6, s7] x = .val (.tup (tabL M s)) x1 := d2_call rfl rfl e1
  have p2 : rBs (Eb s1 (.tup (tabL M s)) s3 s4 s5 s6 s7) x1 = .val (.lst (Bs.map .tup)) x2 := lc_of (ds := ks) (rng_of (n := 3) rfl ek) rfl e2
  have p3 := g_val (s1 := s1) (s3 := .fz (.lst (Bs.map .tup))) (s4 := s4) (s5 := s5) (s6 := s6) (s7 := s7) (x := x2) h
  have p4 := du_val (s1 := s1) (s3 := .fz (.lst (Bs.map .tup))) (s4 := .fz (.lst [.bl true, .bl false, .bl (decide (1 < (tabL M s).length)), .bl false])) (s5 := s5) (s6 := s6) (s7 := s7) (x := x2) (TL := tabL M s)
  have p5 := s1_val (s1 := s1) (d := .tup (tabL M s)) (c := decide (1 < (tabL M s).length)) (s6 := s6) (s7 := s7) (x := x2) (Bs := Bs) (by omega) hB
  have p6 := s2_val (s1 := s1) (s3 := .fz (.lst (Bs.map .tup))) (s4 := .fz (.lst [.bl true, .bl false, .bl (decide (1 < (tabL M s).length)), .bl false])) (s5 := .fz (.lst [.bl true, .bl false, .bl (decide (1 < (tabL M s).length)), .bl false])) (s6 := s6) (s7 := s7) (x := x2) (G := M.map cv ++ [(none, s)]) (fun e he => (h.ly e he).sh) (by simp; omega)
  rw [← tab_eq] at p6
  refine ⟨.fz (.tup (tabL M s)), .fz (.lst (Bs.map .tup)), .fz (.lst [.bl true, .bl false, .bl (decide (1 < (tabL M s).length)), .bl false]), .fz (.lst [.bl true, .bl false, .bl (decide (1 < (tabL M s).length)), .bl false]), s6, s7, x2, ?_, ?_⟩
  rotate_left
  · have e : k + 70 + 2 * (ks.length : Int) = k + 76 := by omega
    rw [← e]
    exact i2
  · unfold rBody
    clear e1 e2 hB h hT
    unfold Eb at *
    revert p1 p2 p3 p4 p5 p6
    generalize rTb = q1
    generalize rBs = q2
    generalize rG = q3
    generalize rDu = q4
    generalize rS1 = q5
    generalize rS2 = q6
    generalize decide (1 < (tabL M s).length) = c
    generalize tabL M s = TL
    generalize Bs.map D.tup = BL
    intro p1 p2 p3 p4 p5 p6
    simp [mSeq, mAsg, mE, Tg.asg, p1, p2, p3, p4, mIfS, mTNot, mTru, mBind, R.bind, p5, p6, gTru, oB, mNext]
end
theorem r_loop : ∀ (ks : List D) {s1 s2 s3 s4 s5 s6 s7 : Slot} {x : Bx} {k : Int}, Inv k x → k + 76 * ks.length < 200000 → ∃ (t1 t2 t3 t4 t5 t6 t7 : Slot) (x' : Bx), loopS (.nm 1) rBody ks [.fz .box, s1, s2, s3, s4, s5, s6, s7] x = .nx [.fz .box, t1, t2, t3, t4, t5, t6, t7] x'
  | [], s1, s2, s3, s4, s5, s6, s7, x, k, _, _ => ⟨s1, s2, s3, s4, s5, s6, s7, x, rfl⟩
  | d :: ks, s1, s2, s3, s4, s5, s6, s7, x, k, hi, hk => by
    rw [List.length_cons] at hk
    obtain ⟨t2, t3, t4, t5, t6, t7, x1, e1, i1⟩ := body_ok (s1 := .fz d) (s2 := s2) (s3 := s3) (s4 := s4) (s5 := s5) (s6 := s6) (s7 := s7) hi (by omega)
    obtain ⟨u1, u2, u3, u4, u5, u6, u7, x2, e2⟩ := r_loop ks (s1 := .fz d) (s2 := t2) (s3 := t3) (s4 := t4) (s5 := t5) (s6 := t6) (s7 := t7) i1 (by omega)
    refine ⟨u1, u2, u3, u4, u5, u6, u7, x2, ?_⟩
    show (match rBody [.fz .box, .fz d, s2, s3, s4, s5, s6, s7] x with
        | .nx ρ2 x2 => loopS (.nm 1) rBody ks ρ2 x2
        | .cnt ρ2 x2 => loopS (.nm 1) rBody ks ρ2 x2
        | .brk ρ2 x2 => .nx ρ2 x2
        | r => r) = _
    rw [e1]
    exact e2
theorem right_ok {x : Bx} (hi : Inv 0 x) : ∃ x', F_l_right [.box] x = .val (.bl true) x' := by
  obtain ⟨ks, ek, hks⟩ := gRng_m (m := 9) (by decide)
  obtain ⟨t1, t2, t3, t4, t5, t6, t7, x1, e1⟩ := r_loop ks (s1 := .un) (s2 := .un) (s3 := .un) (s4 := .un) (s5 := .un) (s6 := .un) (s7 := .un) hi (by omega)
  refine ⟨x1, ?_⟩
  have p1 : (mBind (mCons (mC (.int 9)) mNil) fun ds => oB (gRng ds)) [.fz .box, .un, .un, .un, .un, .un, .un, .un] x = .val ks x := rng_of (n := 9) rfl ek
  have e0 : F_l_right [.box] x = (match (mSeq (mFor (mBind (mCons (mC (.int 9)) mNil) fun ds => oB (gRng ds)) (.nm 1) rBody) (mRet (mC (.bl true)))) [.fz .box, .un, .un, .un, .un, .un, .un, .un] x with
    | .nx _ x' => R.val D.non x'
    | .ret d x' => .val d x'
    | .exc c fs _ x' => .exc c fs x'
    | _ => .out) := rfl
  rw [e0]
  revert e1 p1
  generalize rBody = B
  generalize (mBind (mCons (mC (.int 9)) mNil) fun ds => oB (gRng ds)) = I
  intro e1 p1
  simp [mSeq, mFor, mE, p1, e1, mRet, mC]
theorem box_ok {cs : List Int} {k : Nat} (hk : k < cs.length) (hl : cs.length ≤ 3) (x : Bx) : ∃ a b, F_l_box [.lst (cs.map .int), .int k] x = .val [.int a, .int b, .int 0] x ∧ Inv 0 (a, b, 0) := by
  have ha : atI (cs.map D.int) (k : Int) = some (.int cs[k]) := atI_nat (by rw [List.getElem?_map, List.getElem?_eq_getElem hk]; rfl)
  have hm : ∀ i : Int, okMul i 1 = true := fun i => okMul_r (by decide)
  have hm0 : ∀ i : Int, okMul i 0 = true := fun i => okMul_r (by decide)
  have hm1 : ∀ i : Int, okMul 39373 i = true := fun i => okMul_l (by decide)
  generalize cs[k] = z at ha
  have hI : ∀ a, Inv 0 (a, z % 2305843009213693951 + 39373 * k + 81808, 0) := by
    intro a
    have := Int.emod_nonneg z (b := 2305843009213693951) (by decide)
    have := Int.emod_lt_of_pos z (b := 2305843009213693951) (by decide)
    refine ⟨?_, ?_, Int.le_refl _, Int.le_refl _⟩
    · dsimp only
      omega
    · dsimp only
      omega
  suffices h : ∃ a, F_l_box [.lst (cs.map .int), .int k] x = .val [.int a, .int (z % 2305843009213693951 + 39373 * k + 81808), .int 0] x from h.elim fun a h => ⟨a, _, h, hI a⟩
  by_cases hz : (1000000000000000000 : Int) ≤ if z < 0 then -z else z
  · simp [F_l_box, M_l_box, mirrorN, startE, mSeq, mAsg, Tg.asg, mE, mIf, mTst, mOp, mBind, R.bind, mVar, mCall, mCons, mNil, gLen, o1, gLt, gI, gTst, oB, hk, gIx, ha, mC, mLstN, gAbs, gInt, gGe, gPow, gMulI, gMod, gAdd, hm1, bl, hz, hm, hm0]
  · simp [F_l_box, M_l_box, mirrorN, startE, mSeq, mAsg, Tg.asg, mE, mIf, mTst, mOp, mBind, R.bind, mVar, mCall, mCons, mNil, gLen, o1, gLt, gI, gTst, oB, hk, gIx, ha, mC, mLstN, gAbs, gInt, gGe, gPow, gMulI, gMod, gAdd, hm1, bl, hz, hm, hm0]
theorem cells_step {c0 c1 c2 : Int} {ns : D} {s3 s4 s5 : Slot} {i : Nat} {c : Int} {x : Bx} (hi : i < 100) : ∃ d0 d1 d2 s5', (mSeq (mAsg (.nm 5) (mOp (fun a b => o1 (gMod a b)) (mCall gInt (mCons (mVar 3) mNil)) (mVar 1)))
    (mSetI 2 (mVar 5) (mOp (fun a b => o1 (gAdd a b)) (mIxO 2 (mVar 5)) (mOp (fun a b => o1 (gMulI a b)) (mVar 4) (mOp (fun a b => o1 (gAdd a b)) (mVar 3) (mC (.int 2)))))))
    [.fz ns, .fz (.int 3), .ol [.int c0, .int c1, .int c2], .fz (.int i), .fz (.int c), s5] x = .nx [.fz ns, .fz (.int 3), .ol [.int d0, .int d1, .int d2], .fz (.int i), .fz (.int c), s5'] x := by
  have hm : okMul c (i + 2) = true := okMul_r (by omega)
  have h3 : (i : Int) % 3 = 0 ∨ (i : Int) % 3 = 1 ∨ (i : Int) % 3 = 2 := by omega
  rcases h3 with h | h | h <;>
  simp [mSeq, mAsg, Tg.asg, mE, mOp, mBind, R.bind, mVar, mCall, mCons, mNil, o1, gMod, gI, gInt, h, mSetI, mIxO, mBor, frzS, allS, Slot.fzd, gIx, at3_0, at3_1, at3_2, isSca, gMulI, gAdd, mC, hm, ixN]
theorem cells_loop {ns : D} {x : Bx} : ∀ (zs : List Int) (j : Nat) (c0 c1 c2 : Int) (s3 s4 s5 : Slot), j + zs.length < 100 → ∃ d0 d1 d2 t3 t4 t5, loopS (.tp [3, 4]) (mSeq (mAsg (.nm 5) (mOp (fun a b => o1 (gMod a b)) (mCall gInt (mCons (mVar 3) mNil)) (mVar 1)))
    (mSetI 2 (mVar 5) (mOp (fun a b => o1 (gAdd a b)) (mIxO 2 (mVar 5)) (mOp (fun a b => o1 (gMulI a b)) (mVar 4) (mOp (fun a b => o1 (gAdd a b)) (mVar 3) (mC (.int 2)))))))
    (zs.mapIdx fun i z => .tup [.int ((i + j : Nat) : Int), .int z]) [.fz ns, .fz (.int 3), .ol [.int c0, .int c1, .int c2], s3, s4, s5] x = .nx [.fz ns, .fz (.int 3), .ol [.int d0, .int d1, .int d2], t3, t4, t5] x
  | [], j, c0, c1, c2, s3, s4, s5, _ => ⟨c0, c1, c2, s3, s4, s5, rfl⟩
  | z :: zs, j, c0, c1, c2, s3, s4, s5, hl => by
    rw [List.length_cons] at hl
    obtain ⟨d0, d1, d2, t5, e⟩ := cells_step (c0 := c0) (c1 := c1) (c2 := c2) (ns := ns) (s3 := s3) (s4 := s4) (s5 := s5) (i := j) (c := z) (x := x) (by omega)
    obtain ⟨f0, f1, f2, u3, u4, u5, e2⟩ := cells_loop (ns := ns) (x := x) zs (j + 1) d0 d1 d2 (.fz (.int j)) (.fz (.int z)) t5 (by omega)
    refine ⟨f0, f1, f2, u3, u4, u5, ?_⟩
    rw [← e2, List.mapIdx_cons]
    have ei : (fun (i : Nat) (z : Int) => D.tup [.int ((i + 1 + j : Nat) : Int), .int z]) = fun (i : Nat) (z : Int) => D.tup [.int ((i + (j + 1) : Nat) : Int), .int z] := by
      funext i z
      rw [Nat.add_assoc, Nat.add_comm 1 j]
    revert e
    generalize (mSeq (mAsg (.nm 5) (mOp (fun a b => o1 (gMod a b)) (mCall gInt (mCons (mVar 3) mNil)) (mVar 1)))
      (mSetI 2 (mVar 5) (mOp (fun a b => o1 (gAdd a b)) (mIxO 2 (mVar 5)) (mOp (fun a b => o1 (gMulI a b)) (mVar 4) (mOp (fun a b => o1 (gAdd a b)) (mVar 3) (mC (.int 2))))))) = B
    intro e
    rw [← ei]
    simp [loopS, Tg.asg, putE, e]
theorem cells_ok (ns : List Int) (hl : ns.length ≤ 63) (x : Bx) : ∃ cs : List Int, 1 ≤ cs.length ∧ cs.length ≤ 3 ∧ F_l_cells [.scr ns, .int 3] x = .val (.lst (cs.map .int)) x := by
  match ns, hl with
  | [], _ => 
    refine ⟨[0], by decide, by decide, ?_⟩
    simp [F_l_cells, M_l_cells, mirror, startE, mSeq, mE, mOrN, mBind, R.bind, mCons, mNil, mSlice, mVar, mNoPart, mPart, gCut, cutD, HT.sIx, o1, oB, gListN, mLstN, mC, bl, mFor, gEnum, enumD, loopS, mRet, frzS, allS, Slot.fzd]
  | [a], _ =>
    refine ⟨[a], by simp, by simp, ?_⟩
    simp [F_l_cells, M_l_cells, mirror, startE, mSeq, mE, mOrN, mBind, R.bind, mCons, mNil, mSlice, mVar, mNoPart, mPart, gCut, cutD, HT.sIx, o1, oB, gListN, mLstN, mC, bl, mFor, gEnum, enumD, loopS, mRet, frzS, allS, Slot.fzd]
  | [a, b], _ =>
    refine ⟨[a, b], by simp, by simp, ?_⟩
    simp [F_l_cells, M_l_cells, mirror, startE, mSeq, mE, mOrN, mBind, R.bind, mCons, mNil, mSlice, mVar, mNoPart, mPart, gCut, cutD, HT.sIx, o1, oB, gListN, mLstN, mC, bl, mFor, gEnum, enumD, loopS, mRet, frzS, allS, Slot.fzd]
  | a :: b :: c :: rest, hl =>
    have hr : rest.length ≤ 60 := by
      simp only [List.length_cons] at hl
      omega
    obtain ⟨d0, d1, d2, t3, t4, t5, e⟩ := cells_loop (ns := .scr (a :: b :: c :: rest)) (x := x) rest 0 a b c .un .un .un (by omega)
    refine ⟨[d0, d1, d2], by simp, by simp, ?_⟩
    have q1 : gCut none (some 3) (.scr (a :: b :: c :: rest)) = some (.lst [.int a, .int b, .int c]) := by
      have hz : min 3 (rest.length + 1 + 1 + 1) = 3 := by omega
      simp [gCut, cutD, HT.sIx, hz]
    have q2 : gCut (some 3) (some 63) (.scr (a :: b :: c :: rest)) = some (.lst (rest.map .int)) := by
      have hz : min 3 (rest.length + 1 + 1 + 1) = 3 := by omega
      have hy : min 63 (rest.length + 1 + 1 + 1) - 3 = rest.length := by omega
      have ht : List.take rest.length (List.map D.int rest) = List.map D.int rest := List.take_of_length_le (by rw [List.length_map]; exact Nat.le_refl _)
      simp [gCut, cutD, HT.sIx, hz, hy, ht]
    have q3 : enumD (rest.map .int) = rest.mapIdx fun i z => .tup [.int ((i + 0 : Nat) : Int), .int z] := by
      unfold enumD
      apply List.ext_getElem?
      intro i
      rw [List.getElem?_mapIdx, List.getElem?_mapIdx, List.getElem?_map]
      cases rest[i]? <;> rfl
    show mirror 6 M_l_cells _ _ = _
    unfold M_l_cells mirror
    revert e
    generalize (mSeq (mAsg (.nm 5) (mOp (fun a b => o1 (gMod a b)) (mCall gInt (mCons (mVar 3) mNil)) (mVar 1)))
      (mSetI 2 (mVar 5) (mOp (fun a b => o1 (gAdd a b)) (mIxO 2 (mVar 5)) (mOp (fun a b => o1 (gMulI a b)) (mVar 4) (mOp (fun a b => o1 (gAdd a b)) (mVar 3) (mC (.int 2))))))) = B
    intro e
    simp only [Nat.add_zero] at e q3
    simp [startE, mSeq, mE, mOrN, mBind, R.bind, mCons, mNil, mSlice, mVar, mNoPart, mPart, q1, q2, q3, o1, oB, gListN, mLstN, mC, bl, mFor, gEnum, mRet, e, frzS, allS, Slot.fzd]
theorem hand_at (x : Bx) : F_l_by_hand_right [] x = .val (.bl true) x := okv_at pu_l_by_hand_right hand_ok x
theorem all_cells {cs : List Int} (h1 : 1 ≤ cs.length) (h3 : cs.length ≤ 3) {ρ : En} (hρ : ρ[1]? = some (.fz (.lst (cs.map .int)))) (hn : 2 < ρ.length) (x : Bx) : ∀ (ks : List Nat) (acc : List D), (∀ k ∈ ks, k < cs.length) → acc.length + ks.length ≤ 100 →
    lcRun (.nm 2) mYes (mDefB F_l_right (mDefN 2 F_l_box (mCons (mVar 1) (mCons (mVar 2) mNil)))) ρ (ks.map fun k => .int ((k : Nat) : Int)) acc x = .val (acc ++ List.replicate ks.length (.bl true)) x
  | [], acc, _, _ => by
    show (R.val acc x : R (List D)) = .val (acc ++ []) x
    rw [List.append_nil]
  | k :: ks, acc, h, hl => by
    rw [List.length_cons] at hl
    have hb : acc.length < big := by
      unfold big
      omega
    obtain ⟨a, b, eb, iv⟩ := box_ok (h k (List.mem_cons_self ..)) h3 x
    obtain ⟨x', er⟩ := right_ok iv
    have ih := all_cells h1 h3 hρ hn x ks (acc ++ [.bl true]) (fun k hk => h k (List.mem_cons_of_mem _ hk)) (by rw [List.length_append]; show acc.length + 1 + _ ≤ _; omega)
    have h1' : (ρ.set 2 (.fz (.int k)))[1]? = some (.fz (.lst (cs.map .int))) := by rw [List.getElem?_set_ne (by decide)]; exact hρ
    have h2' : (ρ.set 2 (.fz (.int k)))[2]? = some (.fz (.int k)) := List.getElem?_set_self hn
    have em : mDefB F_l_right (mDefN 2 F_l_box (mCons (mVar 1) (mCons (mVar 2) mNil))) (ρ.set 2 (.fz (.int k))) x = .val (.bl true) x := by
      simp [mDefB, mDefN, mBind, R.bind, mCons, mVar, mNil, h1', hn, eb, ints3, er, isSca]
    show (match mDefB F_l_right (mDefN 2 F_l_box (mCons (mVar 1) (mCons (mVar 2) mNil))) (ρ.set 2 (.fz (.int k))) x with
        | .val e x2 => if acc.length < big then lcRun (.nm 2) mYes (mDefB F_l_right (mDefN 2 F_l_box (mCons (mVar 1) (mCons (mVar 2) mNil)))) ρ (ks.map fun k => .int ((k : Nat) : Int)) (acc ++ [e]) x2 else .out
        | _ => .out) = _
    rw [em]
    show (if acc.length < big then lcRun (.nm 2) mYes (mDefB F_l_right (mDefN 2 F_l_box (mCons (mVar 1) (mCons (mVar 2) mNil)))) ρ (ks.map fun k => .int ((k : Nat) : Int)) (acc ++ [.bl true]) x else .out) = _
    rw [if_pos hb, ih, List.append_assoc]
    rfl
theorem gRng_len {n : Nat} (h : n ≤ 3) : gRng [.int n] = some ((List.range n).map fun k => .int ((k : Nat) : Int)) := by
  have h4 : n = 0 ∨ n = 1 ∨ n = 2 ∨ n = 3 := by omega
  rcases h4 with rfl | rfl | rfl | rfl <;> rfl
theorem x0 {ns cs : List Int} {x : Bx} : (mCall gLen (mCons (mVar 1) mNil)) [.fz (.scr ns), .fz (.lst (cs.map .int)), .un] x = .val (.int cs.length) x := by
  have hl : gLen [.lst (cs.map .int)] = some (.int cs.length) := by
    show some (D.int ((cs.map D.int).length : Nat)) = _
    rw [List.length_map]
  show o1 (gLen [.lst (cs.map .int)]) [.fz (.scr ns), .fz (.lst (cs.map .int)), .un] x = _
  rw [hl]
  rfl
theorem x1 {M : MM D} {ρ : En} {GR : List D → Option (List D)} {n : Int} {ds : List D} {x : Bx} (hM : M ρ x = .val (.int n) x) (hg : GR [.int n] = some ds) : (mBind (mCons M mNil) fun ds => oB (GR ds)) ρ x = .val ds x := by
  simp [mBind, mCons, mNil, R.bind, hM, oB, hg]
theorem x2 {B : MM D} {ns cs : List Int} {I : MM (List D)} (e1 : I [.fz (.scr ns), .fz (.lst (cs.map .int)), .un] (0, 0, 0) = .val ((List.range cs.length).map fun k => .int ((k : Nat) : Int)) (0, 0, 0))
    (run : lcRun (.nm 2) mYes B [.fz (.scr ns), .fz (.lst (cs.map .int)), .un] ((List.range cs.length).map fun k => .int ((k : Nat) : Int)) [] (0, 0, 0) = .val (List.replicate cs.length (.bl true)) (0, 0, 0)) : (mLc I (.nm 2) mYes B [2]) [.fz (.scr ns), .fz (.lst (cs.map .int)), .un] (0, 0, 0) = .val (.lst (List.replicate cs.length (.bl true))) (0, 0, 0) := by
  unfold mLc mLcL
  simp [mBind, e1, wipeE, shut, run, R.bind]
theorem x3 {L : MM D} {ρ : En} {n : Nat} {x : Bx} (e2 : L ρ x = .val (.lst (List.replicate n (.bl true))) x) : mCall gAll (mCons L mNil) ρ x = .val (.bl true) x := by
  simp [mCall, mBind, mCons, mNil, R.bind, e2, gAll, asBs_rep, o1]
theorem law_gen {FC FH : Mr} {G : MM D} {ns cs : List Int} (ec : FC [.scr ns, .int 3] (0, 0, 0) = .val (.lst (cs.map .int)) (0, 0, 0)) (hh : FH [] (0, 0, 0) = .val (.bl true) (0, 0, 0))
    (hG : G [.fz (.scr ns), .fz (.lst (cs.map .int)), .un] (0, 0, 0) = .val (.bl true) (0, 0, 0)) :
    mirror 3 (mSeq (mAsg (.nm 1) (mDef 2 FC (mCons (mVar 0) (mCons (mC (.int 3)) mNil)))) (mSeq (mIfS (mTNot (mTru (mDef0 0 FH mNil))) (mRet (mC (.bl false))) mNext) (mRet G))) [.scr ns] (0, 0, 0) = .val (.bl true) (0, 0, 0) := by
  simp [mirror, startE, mSeq, mE, mAsg, Tg.asg, mDef, mBind, R.bind, mCons, mVar, mNil, mC, ec, mRet, mIfS, mTNot, mTru, gTru, oB, mNext, mDef0, hh, hG]
theorem law_eq : F_law = mirror 3 (mSeq (mAsg (.nm 1) (mDef 2 F_l_cells (mCons (mVar 0) (mCons (mC (.int 3)) mNil)))) (mSeq (mIfS (mTNot (mTru (mDef0 0 F_l_by_hand_right mNil))) (mRet (mC (.bl false))) mNext)
      (mRet (mCall gAll (mCons (mLc (mBind (mCons (mCall gLen (mCons (mVar 1) mNil)) mNil) fun ds => oB (gRng ds)) (.nm 2) mYes (mDefB F_l_right (mDefN 2 F_l_box (mCons (mVar 1) (mCons (mVar 2) mNil)))) [2]) mNil))))) := rfl
theorem law_val (ns : List Int) (hl : ns.length ≤ 63) : ∃ x', F_law [.scr ns] (0, 0, 0) = .val (.bl true) x' := by
  obtain ⟨cs, h1, h3, ec⟩ := cells_ok ns hl (0, 0, 0)
  have run := all_cells (ρ := [.fz (.scr ns), .fz (.lst (cs.map .int)), .un]) h1 h3 rfl (by simp) (0, 0, 0) (List.range cs.length) [] (fun k hk => List.mem_range.mp hk) (by rw [List.length_range]; show 0 + _ ≤ _; omega)
  rw [List.length_range, List.nil_append] at run
  exact ⟨(0, 0, 0), law_eq ▸ law_gen ec (hand_at (0, 0, 0)) (x3 (x2 (x1 x0 (gRng_len h3)) run))⟩
end GG

namespace GG
open PySem PySem.Spec L2 Mi
theorem all_mk {l : PySem.W.OpenLaw} {w : World} {K : PySem.W.Frag} {h : Heap} {mg : Str → Option Value} {fa : Addr} (X : K.In h) (G : h.Ns mainGlobals mg) (hfa : mg "law" = some (.ref fa))
    {od0 an0 : Option Addr} {sl0 : Array (Option Value)} {oc0 kV0 dc0 pm0 cd0 ct0 : Value} {f0 : Addr}
    {od1 an1 : Option Addr} {sl1 : Array (Option Value)} {oc1 kV1 dc1 pm1 cd1 ct1 : Value} {f1 : Addr}
    {od2 an2 : Option Addr} {sl2 : Array (Option Value)} {oc2 kV2 dc2 pm2 cd2 ct2 : Value} {f2 : Addr}
    {od3 an3 : Option Addr} {sl3 : Array (Option Value)} {oc3 kV3 dc3 pm3 cd3 ct3 : Value} {f3 : Addr}
    {od4 an4 : Option Addr} {sl4 : Array (Option Value)} {oc4 kV4 dc4 pm4 cd4 ct4 : Value} {f4 : Addr}
    {od5 an5 : Option Addr} {sl5 : Array (Option Value)} {oc5 kV5 dc5 pm5 cd5 ct5 : Value} {f5 : Addr}
    {od6 an6 : Option Addr} {sl6 : Array (Option Value)} {oc6 kV6 dc6 pm6 cd6 ct6 : Value} {f6 : Addr}
    {od7 an7 : Option Addr} {sl7 : Array (Option Value)} {oc7 kV7 dc7 pm7 cd7 ct7 : Value} {f7 : Addr}
    {od8 an8 : Option Addr} {sl8 : Array (Option Value)} {oc8 kV8 dc8 pm8 cd8 ct8 : Value} {f8 : Addr}
    {od9 an9 : Option Addr} {sl9 : Array (Option Value)} {oc9 kV9 dc9 pm9 cd9 ct9 : Value} {f9 : Addr}
    {od10 an10 : Option Addr} {sl10 : Array (Option Value)} {oc10 kV10 dc10 pm10 cd10 ct10 : Value} {f10 : Addr}
    {od11 an11 : Option Addr} {sl11 : Array (Option Value)} {oc11 kV11 dc11 pm11 cd11 ct11 : Value} {f11 : Addr}
    {od12 an12 : Option Addr} {sl12 : Array (Option Value)} {oc12 kV12 dc12 pm12 cd12 ct12 : Value} {f12 : Addr}
    {od13 an13 : Option Addr} {sl13 : Array (Option Value)} {oc13 kV13 dc13 pm13 cd13 ct13 : Value} {f13 : Addr}
    {od14 an14 : Option Addr} {sl14 : Array (Option Value)} {oc14 kV14 dc14 pm14 cd14 ct14 : Value} {f14 : Addr}
    {od15 an15 : Option Addr} {sl15 : Array (Option Value)} {oc15 kV15 dc15 pm15 cd15 ct15 : Value} {f15 : Addr}
    {od16 an16 : Option Addr} {sl16 : Array (Option Value)} {oc16 kV16 dc16 pm16 cd16 ct16 : Value} {f16 : Addr}
    {od17 an17 : Option Addr} {sl17 : Array (Option Value)} {oc17 kV17 dc17 pm17 cd17 ct17 : Value} {f17 : Addr}
    {od18 an18 : Option Addr} {sl18 : Array (Option Value)} {oc18 kV18 dc18 pm18 cd18 ct18 : Value} {f18 : Addr}
    {od19 an19 : Option Addr} {sl19 : Array (Option Value)} {oc19 kV19 dc19 pm19 cd19 ct19 : Value} {f19 : Addr}
    {od20 an20 : Option Addr} {sl20 : Array (Option Value)} {oc20 kV20 dc20 pm20 cd20 ct20 : Value} {f20 : Addr}
    {od21 an21 : Option Addr} {sl21 : Array (Option Value)} {oc21 kV21 dc21 pm21 cd21 ct21 : Value} {f21 : Addr}
    {od22 an22 : Option Addr} {sl22 : Array (Option Value)} {oc22 kV22 dc22 pm22 cd22 ct22 : Value} {f22 : Addr}
    {od23 an23 : Option Addr} {sl23 : Array (Option Value)} {oc23 kV23 dc23 pm23 cd23 ct23 : Value} {f23 : Addr}
    {od24 an24 : Option Addr} {sl24 : Array (Option Value)} {oc24 kV24 dc24 pm24 cd24 ct24 : Value} {f24 : Addr}
    {od25 an25 : Option Addr} {sl25 : Array (Option Value)} {oc25 kV25 dc25 pm25 cd25 ct25 : Value} {f25 : Addr}
    {tk_LONGEST_NAME : Tok}
    {ga_ZERO : Addr} {go_ZERO : Option Addr} {gn_ZERO : Nat} {gs_ZERO : Array (Option Value)} {gt0_ZERO gt1_ZERO : Tok}
    (a0 : PySem.W.nsIn K mainGlobals "_law_box" = some (some (.ref f0))) (l0 : K.lookup f0 = some ⟨oc0, od0, .func (PySem.W.fnOf "_law_box" "_law_box" (defArgs s_l_box) (defBody s_l_box) (defScope s_l_box) .none kV0 dc0 pm0 an0 cd0 ct0), sl0⟩) (c0 : PySem.W.codeIn K cd0 "_law_box" = true) (k0 : PySem.W.keepIn K (.ref f0) = true)
    (a1 : PySem.W.nsIn K mainGlobals "_law_same" = some (some (.ref f1))) (l1 : K.lookup f1 = some ⟨oc1, od1, .func (PySem.W.fnOf "_law_same" "_law_same" (defArgs s_l_same) (defBody s_l_same) (defScope s_l_same) .none kV1 dc1 pm1 an1 cd1 ct1), sl1⟩) (c1 : PySem.W.codeIn K cd1 "_law_same" = true) (k1 : PySem.W.keepIn K (.ref f1) = true)
    (a2 : PySem.W.nsIn K mainGlobals "_come_to_one" = some (some (.ref f2))) (l2 : K.lookup f2 = some ⟨oc2, od2, .func (PySem.W.fnOf "_come_to_one" "_come_to_one" (defArgs s_p_come_to_one) (defBody s_p_come_to_one) (defScope s_p_come_to_one) .none kV2 dc2 pm2 an2 cd2 ct2), sl2⟩) (c2 : PySem.W.codeIn K cd2 "_come_to_one" = true) (k2 : PySem.W.keepIn K (.ref f2) = true)
    (a3 : PySem.W.nsIn K mainGlobals "is_name" = some (some (.ref f3))) (l3 : K.lookup f3 = some ⟨oc3, od3, .func (PySem.W.fnOf "is_name" "is_name" (defArgs s_is_name) (defBody s_is_name) (defScope s_is_name) .none kV3 dc3 pm3 an3 cd3 ct3), sl3⟩) (c3 : PySem.W.codeIn K cd3 "is_name" = true) (k3 : PySem.W.keepIn K (.ref f3) = true)
    (a4 : PySem.W.nsIn K mainGlobals "is_number" = some (some (.ref f4))) (l4 : K.lookup f4 = some ⟨oc4, od4, .func (PySem.W.fnOf "is_number" "is_number" (defArgs s_is_number) (defBody s_is_number) (defScope s_is_number) .none kV4 dc4 pm4 an4 cd4 ct4), sl4⟩) (c4 : PySem.W.codeIn K cd4 "is_number" = true) (k4 : PySem.W.keepIn K (.ref f4) = true)
    (a5 : PySem.W.nsIn K mainGlobals "is_fraction" = some (some (.ref f5))) (l5 : K.lookup f5 = some ⟨oc5, od5, .func (PySem.W.fnOf "is_fraction" "is_fraction" (defArgs s_is_fraction) (defBody s_is_fraction) (defScope s_is_fraction) .none kV5 dc5 pm5 an5 cd5 ct5), sl5⟩) (c5 : PySem.W.codeIn K cd5 "is_fraction" = true) (k5 : PySem.W.keepIn K (.ref f5) = true)
    (a6 : PySem.W.nsIn K mainGlobals "is_amount" = some (some (.ref f6))) (l6 : K.lookup f6 = some ⟨oc6, od6, .func (PySem.W.fnOf "is_amount" "is_amount" (defArgs s_is_amount) (defBody s_is_amount) (defScope s_is_amount) .none kV6 dc6 pm6 an6 cd6 ct6), sl6⟩) (c6 : PySem.W.codeIn K cd6 "is_amount" = true) (k6 : PySem.W.keepIn K (.ref f6) = true)
    (a7 : PySem.W.nsIn K mainGlobals "is_share" = some (some (.ref f7))) (l7 : K.lookup f7 = some ⟨oc7, od7, .func (PySem.W.fnOf "is_share" "is_share" (defArgs s_is_share) (defBody s_is_share) (defScope s_is_share) .none kV7 dc7 pm7 an7 cd7 ct7), sl7⟩) (c7 : PySem.W.codeIn K cd7 "is_share" = true) (k7 : PySem.W.keepIn K (.ref f7) = true)
    (a8 : PySem.W.nsIn K mainGlobals "_is_pair" = some (some (.ref f8))) (l8 : K.lookup f8 = some ⟨oc8, od8, .func (PySem.W.fnOf "_is_pair" "_is_pair" (defArgs s_p_is_pair) (defBody s_p_is_pair) (defScope s_p_is_pair) .none kV8 dc8 pm8 an8 cd8 ct8), sl8⟩) (c8 : PySem.W.codeIn K cd8 "_is_pair" = true) (k8 : PySem.W.keepIn K (.ref f8) = true)
    (a9 : PySem.W.nsIn K mainGlobals "is_shares" = some (some (.ref f9))) (l9 : K.lookup f9 = some ⟨oc9, od9, .func (PySem.W.fnOf "is_shares" "is_shares" (defArgs s_is_shares) (defBody s_is_shares) (defScope s_is_shares) .none kV9 dc9 pm9 an9 cd9 ct9), sl9⟩) (c9 : PySem.W.codeIn K cd9 "is_shares" = true) (k9 : PySem.W.keepIn K (.ref f9) = true)
    (a10 : PySem.W.nsIn K mainGlobals "_is_layer" = some (some (.ref f10))) (l10 : K.lookup f10 = some ⟨oc10, od10, .func (PySem.W.fnOf "_is_layer" "_is_layer" (defArgs s_p_is_layer) (defBody s_p_is_layer) (defScope s_p_is_layer) .none kV10 dc10 pm10 an10 cd10 ct10), sl10⟩) (c10 : PySem.W.codeIn K cd10 "_is_layer" = true) (k10 : PySem.W.keepIn K (.ref f10) = true)
    (a11 : PySem.W.nsIn K mainGlobals "is_less" = some (some (.ref f11))) (l11 : K.lookup f11 = some ⟨oc11, od11, .func (PySem.W.fnOf "is_less" "is_less" (defArgs s_is_less) (defBody s_is_less) (defScope s_is_less) .none kV11 dc11 pm11 an11 cd11 ct11), sl11⟩) (c11 : PySem.W.codeIn K cd11 "is_less" = true) (k11 : PySem.W.keepIn K (.ref f11) = true)
    (a12 : PySem.W.nsIn K mainGlobals "united" = some (some (.ref f12))) (l12 : K.lookup f12 = some ⟨oc12, od12, .func (PySem.W.fnOf "united" "united" (defArgs s_united) (defBody s_united) (defScope s_united) .none kV12 dc12 pm12 an12 cd12 ct12), sl12⟩) (c12 : PySem.W.codeIn K cd12 "united" = true) (k12 : PySem.W.keepIn K (.ref f12) = true)
    (a13 : PySem.W.nsIn K mainGlobals "is_table" = some (some (.ref f13))) (l13 : K.lookup f13 = some ⟨oc13, od13, .func (PySem.W.fnOf "is_table" "is_table" (defArgs s_is_table) (defBody s_is_table) (defScope s_is_table) .none kV13 dc13 pm13 an13 cd13 ct13), sl13⟩) (c13 : PySem.W.codeIn K cd13 "is_table" = true) (k13 : PySem.W.keepIn K (.ref f13) = true)
    (a14 : PySem.W.nsIn K mainGlobals "_law_by_hand_right" = some (some (.ref f14))) (l14 : K.lookup f14 = some ⟨oc14, od14, .func (PySem.W.fnOf "_law_by_hand_right" "_law_by_hand_right" (defArgs s_l_by_hand_right) (defBody s_l_by_hand_right) (defScope s_l_by_hand_right) .none kV14 dc14 pm14 an14 cd14 ct14), sl14⟩) (c14 : PySem.W.codeIn K cd14 "_law_by_hand_right" = true) (k14 : PySem.W.keepIn K (.ref f14) = true)
    (a15 : PySem.W.nsIn K mainGlobals "_law_cells" = some (some (.ref f15))) (l15 : K.lookup f15 = some ⟨oc15, od15, .func (PySem.W.fnOf "_law_cells" "_law_cells" (defArgs s_l_cells) (defBody s_l_cells) (defScope s_l_cells) .none kV15 dc15 pm15 an15 cd15 ct15), sl15⟩) (c15 : PySem.W.codeIn K cd15 "_law_cells" = true) (k15 : PySem.W.keepIn K (.ref f15) = true)
    (a16 : PySem.W.nsIn K mainGlobals "_law_take" = some (some (.ref f16))) (l16 : K.lookup f16 = some ⟨oc16, od16, .func (PySem.W.fnOf "_law_take" "_law_take" (defArgs s_l_take) (defBody s_l_take) (defScope s_l_take) .none kV16 dc16 pm16 an16 cd16 ct16), sl16⟩) (c16 : PySem.W.codeIn K cd16 "_law_take" = true) (k16 : PySem.W.keepIn K (.ref f16) = true)
    (a17 : PySem.W.nsIn K mainGlobals "_law_of" = some (some (.ref f17))) (l17 : K.lookup f17 = some ⟨oc17, od17, .func (PySem.W.fnOf "_law_of" "_law_of" (defArgs s_l_of) (defBody s_l_of) (defScope s_l_of) .none kV17 dc17 pm17 an17 cd17 ct17), sl17⟩) (c17 : PySem.W.codeIn K cd17 "_law_of" = true) (k17 : PySem.W.keepIn K (.ref f17) = true)
    (a18 : PySem.W.nsIn K mainGlobals "_law_bent" = some (some (.ref f18))) (l18 : K.lookup f18 = some ⟨oc18, od18, .func (PySem.W.fnOf "_law_bent" "_law_bent" (defArgs s_l_bent) (defBody s_l_bent) (defScope s_l_bent) .none kV18 dc18 pm18 an18 cd18 ct18), sl18⟩) (c18 : PySem.W.codeIn K cd18 "_law_bent" = true) (k18 : PySem.W.keepIn K (.ref f18) = true)
    (a19 : PySem.W.nsIn K mainGlobals "_law_frac" = some (some (.ref f19))) (l19 : K.lookup f19 = some ⟨oc19, od19, .func (PySem.W.fnOf "_law_frac" "_law_frac" (defArgs s_l_frac) (defBody s_l_frac) (defScope s_l_frac) .none kV19 dc19 pm19 an19 cd19 ct19), sl19⟩) (c19 : PySem.W.codeIn K cd19 "_law_frac" = true) (k19 : PySem.W.keepIn K (.ref f19) = true)
    (a20 : PySem.W.nsIn K mainGlobals "_law_pick" = some (some (.ref f20))) (l20 : K.lookup f20 = some ⟨oc20, od20, .func (PySem.W.fnOf "_law_pick" "_law_pick" (defArgs s_l_pick) (defBody s_l_pick) (defScope s_l_pick) .none kV20 dc20 pm20 an20 cd20 ct20), sl20⟩) (c20 : PySem.W.codeIn K cd20 "_law_pick" = true) (k20 : PySem.W.keepIn K (.ref f20) = true)
    (a21 : PySem.W.nsIn K mainGlobals "_law_plus" = some (some (.ref f21))) (l21 : K.lookup f21 = some ⟨oc21, od21, .func (PySem.W.fnOf "_law_plus" "_law_plus" (defArgs s_l_plus) (defBody s_l_plus) (defScope s_l_plus) .none kV21 dc21 pm21 an21 cd21 ct21), sl21⟩) (c21 : PySem.W.codeIn K cd21 "_law_plus" = true) (k21 : PySem.W.keepIn K (.ref f21) = true)
    (a22 : PySem.W.nsIn K mainGlobals "_law_shares" = some (some (.ref f22))) (l22 : K.lookup f22 = some ⟨oc22, od22, .func (PySem.W.fnOf "_law_shares" "_law_shares" (defArgs s_l_shares) (defBody s_l_shares) (defScope s_l_shares) .none kV22 dc22 pm22 an22 cd22 ct22), sl22⟩) (c22 : PySem.W.codeIn K cd22 "_law_shares" = true) (k22 : PySem.W.keepIn K (.ref f22) = true)
    (a23 : PySem.W.nsIn K mainGlobals "_law_table" = some (some (.ref f23))) (l23 : K.lookup f23 = some ⟨oc23, od23, .func (PySem.W.fnOf "_law_table" "_law_table" (defArgs s_l_table) (defBody s_l_table) (defScope s_l_table) .none kV23 dc23 pm23 an23 cd23 ct23), sl23⟩) (c23 : PySem.W.codeIn K cd23 "_law_table" = true) (k23 : PySem.W.keepIn K (.ref f23) = true)
    (a24 : PySem.W.nsIn K mainGlobals "_law_right" = some (some (.ref f24))) (l24 : K.lookup f24 = some ⟨oc24, od24, .func (PySem.W.fnOf "_law_right" "_law_right" (defArgs s_l_right) (defBody s_l_right) (defScope s_l_right) .none kV24 dc24 pm24 an24 cd24 ct24), sl24⟩) (c24 : PySem.W.codeIn K cd24 "_law_right" = true) (k24 : PySem.W.keepIn K (.ref f24) = true)
    (a25 : PySem.W.nsIn K mainGlobals "law" = some (some (.ref f25))) (l25 : K.lookup f25 = some ⟨oc25, od25, .func (PySem.W.fnOf "law" "law" (defArgs s_law) (defBody s_law) (defScope s_law) .none kV25 dc25 pm25 an25 cd25 ct25), sl25⟩) (c25 : PySem.W.codeIn K cd25 "law" = true) (k25 : PySem.W.keepIn K (.ref f25) = true)
    (z_abs : PySem.W.nsIn K mainGlobals "abs" = some none)
    (z_all : PySem.W.nsIn K mainGlobals "all" = some none)
    (z_any : PySem.W.nsIn K mainGlobals "any" = some none)
    (z_bool : PySem.W.nsIn K mainGlobals "bool" = some none)
    (z_enumerate : PySem.W.nsIn K mainGlobals "enumerate" = some none)
    (z_int : PySem.W.nsIn K mainGlobals "int" = some none)
    (z_isinstance : PySem.W.nsIn K mainGlobals "isinstance" = some none)
    (z_len : PySem.W.nsIn K mainGlobals "len" = some none)
    (z_list : PySem.W.nsIn K mainGlobals "list" = some none)
    (z_min : PySem.W.nsIn K mainGlobals "min" = some none)
    (z_range : PySem.W.nsIn K mainGlobals "range" = some none)
    (z_sorted : PySem.W.nsIn K mainGlobals "sorted" = some none)
    (z_str : PySem.W.nsIn K mainGlobals "str" = some none)
    (z_sum : PySem.W.nsIn K mainGlobals "sum" = some none)
    (z_tuple : PySem.W.nsIn K mainGlobals "tuple" = some none)
    (z_zip : PySem.W.nsIn K mainGlobals "zip" = some none)
    (z_LONGEST_NAME : PySem.W.nsIn K mainGlobals "LONGEST_NAME" = some (some (.int 8 tk_LONGEST_NAME)))
    (z_ZERO : PySem.W.nsIn K mainGlobals "ZERO" = some (some (.ref ga_ZERO))) (zl_ZERO : K.lookup ga_ZERO = some ⟨.type "tuple", go_ZERO, .seq #[.int 0 gt0_ZERO, .int 1 gt1_ZERO] gn_ZERO, gs_ZERO⟩)
    (z_gcd : PySem.W.nsIn K mainGlobals "gcd" = some (some (.builtin "math.gcd")))
    (z_lcm : PySem.W.nsIn K mainGlobals "lcm" = some (some (.builtin "math.lcm")))
    : ∃ fd : FuncData, (∀ (s : Shared) (v : Value), BindsTo s fd ⟨[v], []⟩ [("_law_script", v)]) ∧ ∀ base : Heap, K.In base → base.Ns mainGlobals mg → FnOk l.prog w K mg base (L2.CX l.prog w) 15 fa fd ["_law_script"] (spM K 1 F_law) := by
  have T : TF K mg := ⟨PySem.W.mg_none_of X G z_abs, PySem.W.mg_none_of X G z_all, PySem.W.mg_none_of X G z_any, PySem.W.mg_none_of X G z_bool, PySem.W.mg_none_of X G z_enumerate, PySem.W.mg_none_of X G z_int, PySem.W.mg_none_of X G z_isinstance, PySem.W.mg_none_of X G z_len, PySem.W.mg_none_of X G z_list, PySem.W.mg_none_of X G z_min, PySem.W.mg_none_of X G z_range, PySem.W.mg_none_of X G z_sorted, PySem.W.mg_none_of X G z_str, PySem.W.mg_none_of X G z_sum, PySem.W.mg_none_of X G z_tuple, PySem.W.mg_none_of X G z_zip, ⟨_, PySem.W.mg_of X G z_LONGEST_NAME⟩, ⟨_, PySem.W.mg_of X G z_ZERO, _, _, _, zl_ZERO, rfl, rfl, (by show 2 ≤ sizeLine; decide), (.cons ⟨_, rfl⟩ (.cons ⟨_, rfl⟩ .nil))⟩, PySem.W.mg_of X G z_gcd, PySem.W.mg_of X G z_lcm⟩
  have R_l_box : RawD K mg "_law_box" s_l_box ["_law_script", "_law_k"] := rawD_mk X G a0 l0 c0 k0 (fun _ _ _ _ _ _ us hl => match us, hl with | [_, _], _ => rfl) (fun _ _ _ _ _ _ us hl => match us, hl with | [_, _], _ => rfl)
  have R_l_same : RawD K mg "_law_same" s_l_same ["_law_got", "_law_due"] := rawD_mk X G a1 l1 c1 k1 (fun _ _ _ _ _ _ us hl => match us, hl with | [_, _], _ => rfl) (fun _ _ _ _ _ _ us hl => match us, hl with | [_, _], _ => rfl)
  have R_p_come_to_one : RawD K mg "_come_to_one" s_p_come_to_one ["shares"] := rawD_mk X G a2 l2 c2 k2 (fun _ _ _ _ _ _ us hl => match us, hl with | [_], _ => rfl) (fun _ _ _ _ _ _ us hl => match us, hl with | [_], _ => rfl)
  have R_is_name : RawD K mg "is_name" s_is_name ["thing"] := rawD_mk X G a3 l3 c3 k3 (fun _ _ _ _ _ _ us hl => match us, hl with | [_], _ => rfl) (fun _ _ _ _ _ _ us hl => match us, hl with | [_], _ => rfl)
  have R_is_number : RawD K mg "is_number" s_is_number ["thing"] := rawD_mk X G a4 l4 c4 k4 (fun _ _ _ _ _ _ us hl => match us, hl with | [_], _ => rfl) (fun _ _ _ _ _ _ us hl => match us, hl with | [_], _ => rfl)
  have R_is_fraction : RawD K mg "is_fraction" s_is_fraction ["thing"] := rawD_mk X G a5 l5 c5 k5 (fun _ _ _ _ _ _ us hl => match us, hl with | [_], _ => rfl) (fun _ _ _ _ _ _ us hl => match us, hl with | [_], _ => rfl)
  have R_is_amount : RawD K mg "is_amount" s_is_amount ["thing"] := rawD_mk X G a6 l6 c6 k6 (fun _ _ _ _ _ _ us hl => match us, hl with | [_], _ => rfl) (fun _ _ _ _ _ _ us hl => match us, hl with | [_], _ => rfl)
  have R_is_share : RawD K mg "is_share" s_is_share ["thing"] := rawD_mk X G a7 l7 c7 k7 (fun _ _ _ _ _ _ us hl => match us, hl with | [_], _ => rfl) (fun _ _ _ _ _ _ us hl => match us, hl with | [_], _ => rfl)
  have R_p_is_pair : RawD K mg "_is_pair" s_p_is_pair ["thing"] := rawD_mk X G a8 l8 c8 k8 (fun _ _ _ _ _ _ us hl => match us, hl with | [_], _ => rfl) (fun _ _ _ _ _ _ us hl => match us, hl with | [_], _ => rfl)
  have R_is_shares : RawD K mg "is_shares" s_is_shares ["thing"] := rawD_mk X G a9 l9 c9 k9 (fun _ _ _ _ _ _ us hl => match us, hl with | [_], _ => rfl) (fun _ _ _ _ _ _ us hl => match us, hl with | [_], _ => rfl)
  have R_p_is_layer : RawD K mg "_is_layer" s_p_is_layer ["thing"] := rawD_mk X G a10 l10 c10 k10 (fun _ _ _ _ _ _ us hl => match us, hl with | [_], _ => rfl) (fun _ _ _ _ _ _ us hl => match us, hl with | [_], _ => rfl)
  have R_is_less : RawD K mg "is_less" s_is_less ["one", "other"] := rawD_mk X G a11 l11 c11 k11 (fun _ _ _ _ _ _ us hl => match us, hl with | [_, _], _ => rfl) (fun _ _ _ _ _ _ us hl => match us, hl with | [_, _], _ => rfl)
  have R_united : RawD K mg "united" s_united ["steps"] := rawD_mk X G a12 l12 c12 k12 (fun _ _ _ _ _ _ us hl => match us, hl with | [_], _ => rfl) (fun _ _ _ _ _ _ us hl => match us, hl with | [_], _ => rfl)
  have R_is_table : RawD K mg "is_table" s_is_table ["thing"] := rawD_mk X G a13 l13 c13 k13 (fun _ _ _ _ _ _ us hl => match us, hl with | [_], _ => rfl) (fun _ _ _ _ _ _ us hl => match us, hl with | [_], _ => rfl)
  have R_l_by_hand_right : RawD K mg "_law_by_hand_right" s_l_by_hand_right [] := rawD_mk X G a14 l14 c14 k14 (fun _ _ _ _ _ _ us hl => match us, hl with | [], _ => rfl) (fun _ _ _ _ _ _ us hl => match us, hl with | [], _ => rfl)
  have R_l_cells : RawD K mg "_law_cells" s_l_cells ["_law_script", "_law_top_so"] := rawD_mk X G a15 l15 c15 k15 (fun _ _ _ _ _ _ us hl => match us, hl with | [_, _], _ => rfl) (fun _ _ _ _ _ _ us hl => match us, hl with | [_, _], _ => rfl)
  have R_l_take : RawD K mg "_law_take" s_l_take ["_law_box_here", "_law_size_so"] := rawD_mk X G a16 l16 c16 k16 (fun _ _ _ _ _ _ us hl => match us, hl with | [_, _], _ => rfl) (fun _ _ _ _ _ _ us hl => match us, hl with | [_, _], _ => rfl)
  have R_l_of : RawD K mg "_law_of" s_l_of ["_law_box_here", "_law_goods_so"] := rawD_mk X G a17 l17 c17 k17 (fun _ _ _ _ _ _ us hl => match us, hl with | [_, _], _ => rfl) (fun _ _ _ _ _ _ us hl => match us, hl with | [_, _], _ => rfl)
  have R_l_bent : RawD K mg "_law_bent" s_l_bent ["_law_box_here", "_law_told"] := rawD_mk X G a18 l18 c18 k18 (fun _ _ _ _ _ _ us hl => match us, hl with | [_, _], _ => rfl) (fun _ _ _ _ _ _ us hl => match us, hl with | [_, _], _ => rfl)
  have R_l_frac : RawD K mg "_law_frac" s_l_frac ["_law_top_so", "_law_low_so"] := rawD_mk X G a19 l19 c19 k19 (fun _ _ _ _ _ _ us hl => match us, hl with | [_, _], _ => rfl) (fun _ _ _ _ _ _ us hl => match us, hl with | [_, _], _ => rfl)
  have R_l_pick : RawD K mg "_law_pick" s_l_pick ["_law_box_here", "_law_goods_so", "_law_count_so"] := rawD_mk X G a20 l20 c20 k20 (fun _ _ _ _ _ _ us hl => match us, hl with | [_, _, _], _ => rfl) (fun _ _ _ _ _ _ us hl => match us, hl with | [_, _, _], _ => rfl)
  have R_l_plus : RawD K mg "_law_plus" s_l_plus ["_law_a_so", "_law_b_so"] := rawD_mk X G a21 l21 c21 k21 (fun _ _ _ _ _ _ us hl => match us, hl with | [_, _], _ => rfl) (fun _ _ _ _ _ _ us hl => match us, hl with | [_, _], _ => rfl)
  have R_l_shares : RawD K mg "_law_shares" s_l_shares ["_law_box_here", "_law_outlets_so"] := rawD_mk X G a22 l22 c22 k22 (fun _ _ _ _ _ _ us hl => match us, hl with | [_, _], _ => rfl) (fun _ _ _ _ _ _ us hl => match us, hl with | [_, _], _ => rfl)
  have R_l_table : RawD K mg "_law_table" s_l_table ["_law_box_here", "_law_most_so"] := rawD_mk X G a23 l23 c23 k23 (fun _ _ _ _ _ _ us hl => match us, hl with | [_, _], _ => rfl) (fun _ _ _ _ _ _ us hl => match us, hl with | [_, _], _ => rfl)
  have R_l_right : RawD K mg "_law_right" s_l_right ["_law_box_here"] := rawD_mk X G a24 l24 c24 k24 (fun _ _ _ _ _ _ us hl => match us, hl with | [_], _ => rfl) (fun _ _ _ _ _ _ us hl => match us, hl with | [_], _ => rfl)
  have F_lw := fun_mk (st := s_law) l25 c25 k25
  have e := hfa.symm.trans (PySem.W.mg_of X G a25)
  cases e
  refine ⟨PySem.W.fnOf "law" "law" (defArgs s_law) (defBody s_law) (defScope s_law) .none kV25 dc25 pm25 an25 cd25 ct25, fun s v => .of_eq rfl, fun base _ _ => ?_⟩
  have el : He.ga K "law" = fa := ga_eq a25
  have O := ok_all (P := l.prog) (w := w) (base := base) T R_l_box R_l_same R_p_come_to_one R_is_name R_is_number R_is_fraction R_is_amount R_is_share R_p_is_pair R_is_shares R_p_is_layer R_is_less R_united R_is_table R_l_by_hand_right R_l_cells R_l_take R_l_of R_l_bent R_l_frac R_l_pick R_l_plus R_l_shares R_l_table R_l_right (el.symm ▸ F_lw)
  rw [el] at O
  exact O
end GG

open PySem
open PySem.W PyProof.Rows
set_option maxHeartbeats 0 in
theorem PySem.Challenge.cw_layernets_k08_tables_and_other_things_holds : PySem.Challenge.rw_layernets_k08_tables_and_other_things.Holds := by
  w_on
  o_law
  k_head
  (case hw => w_witness2)
  k_fill
  refine L2.walk_of (l := PySem.Challenge.rw_layernets_k08_tables_and_other_things) (n := 63) (k := 15) (x := "_law_script") (CX := fun w => L2.CX PySem.Challenge.rw_layernets_k08_tables_and_other_things.prog w) (sp := fun w => Mi.spM _ 1 GG.F_law) rfl (by decide) rfl ⟨rfl, by decide, by decide⟩ (fun w h Y => PySem.W.kIn_of Y) ?F (fun w H a ns hl hO hS => Mi.law_sp hS (GG.law_val ns hl)) (fun _ _ _ _ _ h => Mi.cx_none h)
  case F =>
    intro w mg fa h KX G hmg
    refine' GG.all_mk KX G hmg ?a0 ?l0 ?c0 ?k0 ?a1 ?l1 ?c1 ?k1 ?a2 ?l2 ?c2 ?k2 ?a3 ?l3 ?c3 ?k3 ?a4 ?l4 ?c4 ?k4 ?a5 ?l5 ?c5 ?k5 ?a6 ?l6 ?c6 ?k6 ?a7 ?l7 ?c7 ?k7 ?a8 ?l8 ?c8 ?k8 ?a9 ?l9 ?c9 ?k9 ?a10 ?l10 ?c10 ?k10 ?a11 ?l11 ?c11 ?k11 ?a12 ?l12 ?c12 ?k12 ?a13 ?l13 ?c13 ?k13 ?a14 ?l14 ?c14 ?k14 ?a15 ?l15 ?c15 ?k15 ?a16 ?l16 ?c16 ?k16 ?a17 ?l17 ?c17 ?k17 ?a18 ?l18 ?c18 ?k18 ?a19 ?l19 ?c19 ?k19 ?a20 ?l20 ?c20 ?k20 ?a21 ?l21 ?c21 ?k21 ?a22 ?l22 ?c22 ?k22 ?a23 ?l23 ?c23 ?k23 ?a24 ?l24 ?c24 ?k24 ?a25 ?l25 ?c25 ?k25 ?z_abs ?z_all ?z_any ?z_bool ?z_enumerate ?z_int ?z_isinstance ?z_len ?z_list ?z_min ?z_range ?z_sorted ?z_str ?z_sum ?z_tuple ?z_zip ?z_LONGEST_NAME ?z_ZERO ?zl_ZERO ?z_gcd ?z_lcm
    (case a0 => k_is); (case l0 => k_is); (case c0 => k_is); (case k0 => k_is); (case a1 => k_is); (case l1 => k_is); (case c1 => k_is); (case k1 => k_is); (case a2 => k_is); (case l2 => k_is); (case c2 => k_is); (case k2 => k_is); (case a3 => k_is); (case l3 => k_is); (case c3 => k_is); (case k3 => k_is); (case a4 => k_is); (case l4 => k_is); (case c4 => k_is); (case k4 => k_is); (case a5 => k_is); (case l5 => k_is); (case c5 => k_is); (case k5 => k_is); (case a6 => k_is); (case l6 => k_is); (case c6 => k_is); (case k6 => k_is); (case a7 => k_is); (case l7 => k_is); (case c7 => k_is); (case k7 => k_is); (case a8 => k_is); (case l8 => k_is); (case c8 => k_is); (case k8 => k_is); (case a9 => k_is); (case l9 => k_is); (case c9 => k_is); (case k9 => k_is); (case a10 => k_is); (case l10 => k_is); (case c10 => k_is); (case k10 => k_is); (case a11 => k_is); (case l11 => k_is); (case c11 => k_is); (case k11 => k_is); (case a12 => k_is); (case l12 => k_is); (case c12 => k_is); (case k12 => k_is); (case a13 => k_is); (case l13 => k_is); (case c13 => k_is); (case k13 => k_is); (case a14 => k_is); (case l14 => k_is); (case c14 => k_is); (case k14 => k_is); (case a15 => k_is); (case l15 => k_is); (case c15 => k_is); (case k15 => k_is); (case a16 => k_is); (case l16 => k_is); (case c16 => k_is); (case k16 => k_is); (case a17 => k_is); (case l17 => k_is); (case c17 => k_is); (case k17 => k_is); (case a18 => k_is); (case l18 => k_is); (case c18 => k_is); (case k18 => k_is); (case a19 => k_is); (case l19 => k_is); (case c19 => k_is); (case k19 => k_is); (case a20 => k_is); (case l20 => k_is); (case c20 => k_is); (case k20 => k_is); (case a21 => k_is); (case l21 => k_is); (case c21 => k_is); (case k21 => k_is); (case a22 => k_is); (case l22 => k_is); (case c22 => k_is); (case k22 => k_is); (case a23 => k_is); (case l23 => k_is); (case c23 => k_is); (case k23 => k_is); (case a24 => k_is); (case l24 => k_is); (case c24 => k_is); (case k24 => k_is); (case a25 => k_is); (case l25 => k_is); (case c25 => k_is); (case k25 => k_is); (case z_abs => k_is); (case z_all => k_is); (case z_any => k_is); (case z_bool => k_is); (case z_enumerate => k_is); (case z_int => k_is); (case z_isinstance => k_is); (case z_len => k_is); (case z_list => k_is); (case z_min => k_is); (case z_range => k_is); (case z_sorted => k_is); (case z_str => k_is); (case z_sum => k_is); (case z_tuple => k_is); (case z_zip => k_is); (case z_LONGEST_NAME => k_is); (case z_ZERO => k_is); (case zl_ZERO => k_is); (case z_gcd => k_is); (case z_lcm => k_is)

