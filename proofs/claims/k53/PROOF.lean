import PyProof.Rows.All
import Wide.All
import OpenK.AllK
import Wide.FinOn
import HandS.ForMost
import HandS.Exc
import HandS.TryOnly
import HandS.ExcOwn
import HandS.WordsExc
import HandS.ExcField
import HandS.ExcIs
import HandS.ExcInit
import HandS.HeadHook1
import HandS.SetBool
import PyProof.TupleKey
import HandS.Wide
import HandS.Gcd
import HandS.StrMore
import HandS.FStr
import HandS.TupAny
import HandS.IsInst
import HandS.Zip
import HandS.DictTup
import HandS.More
import HandS.Replace
import HandS.Style
import HandS.Flow
import KE.KExcIs
import HandS.ExcValue
import HandS.ReplaceLit
import KE.KMathGC
import HandS.SortRule
import KE.KSortTupAny
import KE.KRevSl
import HandS.DictComp
import HandS.SetKeys
import HandS.Property
import HandS.Defaults
import HandS.MakeKwOnly
import HandS.Small
import HandS.SetFor
import HandS.Strs
import KE.GoesMore
import HandS.OwnIter
import HandS.NamedTupGet
import KE.KOwnIter
import HandS.Remove
import HandS.Conv
import PyProof.ListStr
import PyProof.Rows.StrInSeq3
import PyProof.Rows.JoinGen
import PyProof.StrOps2
import HandS.SetTxt0
import HandS.Deep
import HandS.ClsMeth
import KE.KDictPairs
import PyProof.P3In
import HandS.Text
import PyProof.P3Eq
import PySem.Challenge.RW_layernets_k53_nothing_is_lost
set_option Elab.async false
set_option linter.all false
set_option maxRecDepth 100000
set_option maxHeartbeats 4100000
/-! Mi0: mirrors. Data without addresses, a state (slots, frozen part of the heap, a box of three ints), readings that say what a mirror says. -/
namespace Mi
open PySem PySem.Spec L2

/-- kinds of things that are known by a fact of their own: a tuple with no dict of its own; a dict whose keys are tuples of bools -/
inductive Xt where
  | tp
  | bd (ks : List (List Bool))
  deriving Inhabited
inductive D where
  | non
  | bl (b : Bool)
  | int (i : Int)
  | str (s : Str)
  | lst (xs : List D)
  | tup (xs : List D)
  | dct (kvs : List (Key × D))
  | dcb (kvs : List (Key × D))
  | obj (c : Str) (fs : List (Str × D))
  | err (c : Str) (fs : List (Str × D))
  | fn (x : Str)
  | box
  | scr (ns : List Int)
  | xt (t : Xt) (xs : List D)
  deriving Inhabited

abbrev Bx := Int × Int × Int
abbrev Fl := List (Str × D)

inductive R (α : Type) where
  | val (a : α) (x : Bx)
  | exc (c : Str) (fs : Fl) (x : Bx)
  | out

inductive Slot where
  | un
  | fz (d : D)
  | ol (ds : List D)
  | od (kds : List (Key × D))
  | oo (c : Str) (fs : Fl)
  deriving Inhabited
abbrev En := List Slot

/-- a tuple: a frozen one, one of the module -/
def KTup (K : PySem.W.Frag) (a : Addr) (xs : List V) : Prop := ∃ (o : Obj) (its : Array Value) (n : Nat), K.lookup a = some o ∧ o.cls = .type "tuple" ∧ o.data = .seq its n ∧ its.size ≤ sizeLine ∧ Vals xs its.toList
def TupAt (K : PySem.W.Frag) (F : Hp) (a : Addr) (xs : List V) : Prop := F a = some (.tup xs) ∨ KTup K a xs
theorem TupAt.mono {K : PySem.W.Frag} {F F' : Hp} {a : Addr} {xs : List V} (h : TupAt K F a xs) (s : Same F F') : TupAt K F' a xs := h.imp (s _ _) id
/-- an exception's object, made or caught, of the class at C, its dict at d -/
def exv (a C : Addr) (d : Option Addr) : HO := .ext fun h => ∃ (oe : Obj) (vs : Array Value), h.get? a = some oe ∧ Zc (.ref C) d oe ∧ oe.data = .fields vs
def dictFree (a : Addr) (vs : List V) : HO := .ext fun h => ∃ (o : Obj) (its : Array Value) (n : Nat), h.get? a = some o ∧ o.cls = .type "tuple" ∧ o.dict = none ∧ o.data = .seq its n ∧ its.size ≤ sizeLine ∧ Vals vs its.toList
def boolKeyed (P : Program) (w : World) (a : Addr) (xs : List (List Bool × Addr × Value)) : HO := .ext fun h => ∃ (o : Obj) (es : Array DictEntry) (ep : Nat), h.get? a = some o ∧ o.ExactDict ∧ o.data = .dict es ep ∧ es.toList = xs.map (entryOfKey (tupleKind (PpSet.boolK P w))) ∧ (xs.map (·.1)).Nodup
/-- what a kind says of the place a and its values -/
def XtOk (F : Hp) (a : Addr) (vs : List V) : Xt → Prop
  | .tp => F a = some (dictFree a vs)
  | .bd ks => (a == sysModules) = false ∧ ∃ (P : Program) (w : World) (xs : List (List Bool × Addr × Value)), F a = some (boolKeyed P w a xs) ∧ xs.map (·.1) = ks ∧ Paired (fun (v : V) (q : List Bool × Addr × Value) => F q.2.1 = some (.tup (q.1.map V.bl)) ∧ RelV v q.2.2) vs xs
mutual
inductive Rep (K : PySem.W.Frag) (b : Option Addr) (F : Hp) : V → D → Prop
  | non : Rep K b F .non .non
  | bl (c : Bool) : Rep K b F (.bl c) (.bl c)
  | int (i : Int) : Rep K b F (.int i) (.int i)
  | str (s : Str) : Rep K b F (.str s) (.str s)
  | lst {a : Addr} {vs : List V} {ds : List D} : F a = some (.lst vs) → RepL K b F vs ds → Rep K b F (.ref a) (.lst ds)
  | tup {a : Addr} {vs : List V} {ds : List D} : TupAt K F a vs → RepL K b F vs ds → Rep K b F (.ref a) (.tup ds)
  | dct {a : Addr} {o : Obj} {kvs : List (Key × V)} {kds : List (Key × D)} : F a = some (.frz o (.dK kvs)) → RepK K b F kvs kds → Rep K b F (.ref a) (.dct kds)
  | dcb {a : Addr} {kvs : List (Key × V)} {kds : List (Key × D)} : F a = some (.dK kvs) → RepK K b F kvs kds → Rep K b F (.ref a) (.dcb kds)
  | obj {a C dx : Addr} {c : Str} {fs : List (Str × V)} {fds : Fl} : F a = some (.ins C dx fs) → C = He.ga K c → RepF K b F fs fds → Rep K b F (.ref a) (.obj c fds)
  | err0 {a C : Addr} {c : Str} : F a = some (exv a C none) → C = He.ga K c → Rep K b F (.ref a) (.err c [])
  | err {a C dx : Addr} {c : Str} {fs : List (Str × V)} {fds : Fl} : F a = some (exv a C (some dx)) → C = He.ga K c → F dx = some (.xd fs) → RepF K b F fs fds → Rep K b F (.ref a) (.err c fds)
  | fn {x : Str} : Rep K b F (.ref (He.ga K x)) (.fn x)
  | box {a : Addr} : b = some a → Rep K b F (.ref a) .box
  | scr {a : Addr} {ns : List Int} : SqL K F a (ns.map V.int) → Rep K b F (.ref a) (.scr ns)
  | xt {a : Addr} {t : Xt} {vs : List V} {ds : List D} : XtOk F a vs t → RepL K b F vs ds → Rep K b F (.ref a) (.xt t ds)
inductive RepL (K : PySem.W.Frag) (b : Option Addr) (F : Hp) : List V → List D → Prop
  | nil : RepL K b F [] []
  | cons {v : V} {vs : List V} {d : D} {ds : List D} : Rep K b F v d → RepL K b F vs ds → RepL K b F (v :: vs) (d :: ds)
inductive RepK (K : PySem.W.Frag) (b : Option Addr) (F : Hp) : List (Key × V) → List (Key × D) → Prop
  | nil : RepK K b F [] []
  | cons {k : Key} {v : V} {vs : List (Key × V)} {d : D} {ds : List (Key × D)} : Rep K b F v d → RepK K b F vs ds → RepK K b F ((k, v) :: vs) ((k, d) :: ds)
inductive RepF (K : PySem.W.Frag) (b : Option Addr) (F : Hp) : List (Str × V) → Fl → Prop
  | nil : RepF K b F [] []
  | cons {k : Str} {v : V} {vs : List (Str × V)} {d : D} {ds : Fl} : Rep K b F v d → RepF K b F vs ds → RepF K b F ((k, v) :: vs) ((k, d) :: ds)
end

theorem XtOk.mono {F F' : Hp} {a : Addr} {vs : List V} {t : Xt} (h : XtOk F a vs t) (s : Same F F') : XtOk F' a vs t := by
  cases t with
  | tp => exact s _ _ h
  | bd ks =>
    obtain ⟨e, P, w, xs, h1, h2, h3⟩ := h
    exact ⟨e, P, w, xs, s _ _ h1, h2, Paired.mapP h3 fun v q z => ⟨s _ _ z.1, z.2⟩⟩
section
variable {K : PySem.W.Frag} {b : Option Addr} {F F' : Hp}
mutual
theorem Rep.mono (s : Same F F') : ∀ {v : V} {d : D}, Rep K b F v d → Rep K b F' v d
  | _, _, .non => .non
  | _, _, .bl c => .bl c
  | _, _, .int i => .int i
  | _, _, .str x => .str x
  | _, _, .lst h r => .lst (s _ _ h) (RepL.mono s r)
  | _, _, .tup h r => .tup (h.mono s) (RepL.mono s r)
  | _, _, .dct h r => .dct (s _ _ h) (RepK.mono s r)
  | _, _, .dcb h r => .dcb (s _ _ h) (RepK.mono s r)
  | _, _, .obj h e r => .obj (s _ _ h) e (RepF.mono s r)
  | _, _, .err0 h e => .err0 (s _ _ h) e
  | _, _, .err h e h2 r => .err (s _ _ h) e (s _ _ h2) (RepF.mono s r)
  | _, _, .fn => .fn
  | _, _, .box e => .box e
  | _, _, .scr e => .scr (s.seq e)
  | _, _, .xt h r => .xt (h.mono s) (RepL.mono s r)
theorem RepL.mono (s : Same F F') : ∀ {v : List V} {d : List D}, RepL K b F v d → RepL K b F' v d
  | _, _, .nil => .nil
  | _, _, .cons h r => .cons (Rep.mono s h) (RepL.mono s r)
theorem RepK.mono (s : Same F F') : ∀ {v : List (Key × V)} {d : List (Key × D)}, RepK K b F v d → RepK K b F' v d
  | _, _, .nil => .nil
  | _, _, .cons h r => .cons (Rep.mono s h) (RepK.mono s r)
theorem RepF.mono (s : Same F F') : ∀ {v : List (Str × V)} {d : Fl}, RepF K b F v d → RepF K b F' v d
  | _, _, .nil => .nil
  | _, _, .cons h r => .cons (Rep.mono s h) (RepF.mono s r)
end
theorem RepL.length : ∀ {vs : List V} {ds : List D}, RepL K b F vs ds → vs.length = ds.length
  | _, _, .nil => rfl
  | _, _, .cons _ r => by rw [List.length_cons, List.length_cons, RepL.length r]
theorem RepL.get : ∀ {vs : List V} {ds : List D} {i : Nat} {d : D}, RepL K b F vs ds → ds[i]? = some d → ∃ v, vs[i]? = some v ∧ Rep K b F v d
  | _, _, _, _, .nil, e =>
                                          by simp at e
  | _, _, 0, _, .cons h _, e => by simp at e; subst e; exact ⟨_, rfl, h⟩
  | _, _, i + 1, d, .cons _ r, e => by
    obtain ⟨v, h1, h2⟩ := RepL.get (i := i) (d := d) r (by simpa using e)
    exact ⟨v, by simpa using h1, h2⟩
theorem RepL.get' : ∀ {vs : List V} {ds : List D} {i : Nat} {v : V}, RepL K b F vs ds → vs[i]? = some v → ∃ d, ds[i]? = some d ∧ Rep K b F v d
  | _, _, _, _, .nil, e =>
                                          by simp at e
  | _, _, 0, _, .cons h _, e => by simp at e; subst e; exact ⟨_, rfl, h⟩
  | _, _, i + 1, v, .cons _ r, e => by
    obtain ⟨d, h1, h2⟩ := RepL.get' (i := i) (v := v) r (by simpa using e)
    exact ⟨d, by simpa using h1, h2⟩
theorem RepL.append : ∀ {vs ws : List V} {ds es : List D}, RepL K b F vs ds → RepL K b F ws es → RepL K b F (vs ++ ws) (ds ++ es)
  | _, _, _, _, .nil, s => s
  | _, _, _, _, .cons h r, s => .cons h (RepL.append r s)
theorem RepL.take : ∀ {vs : List V} {ds : List D} (n : Nat), RepL K b F vs ds → RepL K b F (vs.take n) (ds.take n)
  | _, _, 0, _ => .nil
  | _, _, _ + 1, .nil => .nil
  | _, _, n + 1, .cons h r => .cons h (RepL.take n r)
theorem RepL.drop : ∀ {vs : List V} {ds : List D} (n : Nat), RepL K b F vs ds → RepL K b F (vs.drop n) (ds.drop n)
  | _, _, 0, r => r
  | _, _, _ + 1, .nil => .nil
  | _, _, n + 1, .cons _ r => RepL.drop n r
theorem RepL.set : ∀ {vs : List V} {ds : List D} {v : V} {d : D} (i : Nat), Rep K b F v d → RepL K b F vs ds → RepL K b F (vs.set i v) (ds.set i d)
  | _, _, _, _, _, _, .nil => .nil
  | _, _, _, _, 0, q, .cons _ r => .cons q r
  | _, _, _, _, i + 1, q, .cons h r => .cons h (RepL.set i q r)
theorem RepL.erase : ∀ {vs : List V} {ds : List D} (i : Nat), RepL K b F vs ds → RepL K b F (vs.eraseIdx i) (ds.eraseIdx i)
  | _, _, _, .nil => .nil
  | _, _, 0, .cons _ r => r
  | _, _, i + 1, .cons h r => .cons h (RepL.erase i r)
end

/-! ### the state -/
structure Cf where
  K : PySem.W.Frag
  b : Option Addr
  H0 : Hp
  F0 : Hp
  me : Option Addr

def bxO (x : Bx) : HO := .lst [.int x.1, .int x.2.1, .int x.2.2]
structure Core (S : Cf) (F H : Hp) (x : Bx) : Prop where
  sub : Same F H
  f0 : Same S.F0 F
  fresh : ∀ p, S.H0 p ≠ none → S.F0 p = none → F p = none
  keep : ∀ p o, S.H0 p = some o → S.b ≠ some p → H p = some o
  box : ∀ a, S.b = some a → F a = none ∧ H a = some (bxO x)
def KeepB (b : Option Addr) (H H' : Hp) : Prop := ∀ p o, H p = some o → b ≠ some p → H' p = some o
theorem KeepB.refl {b : Option Addr} {H : Hp} : KeepB b H H := fun _ _ h _ => h
theorem KeepB.trans {b : Option Addr} {H H1 H2 : Hp} (a : KeepB b H H1) (c : KeepB b H1 H2) : KeepB b H H2 := fun p o h n => c p o (a p o h n) n
theorem KeepB.new {b : Option Addr} {H : Hp} {p : Addr} {o : HO} (h : H p = none) : KeepB b H (upd H p o) := fun q u e _ => by
  rw [upd_ne (ne_of_none e h)]
  exact e
theorem Same.new {H : Hp} {p : Addr} {o : HO} (h : H p = none) : Same H (upd H p o) := fun q u e => by
  rw [upd_ne (ne_of_none e h)]
  exact e

/-- an instance of the class c with these fields -/
def InsOk (K : PySem.W.Frag) (b : Option Addr) (F : Hp) (o : HO) (c : Str) (fs : Fl) : Prop := ∃ (C dx : Addr) (vs : List (Str × V)), o = .ins C dx vs ∧ C = He.ga K c ∧ RepF K b F vs fs
theorem InsOk.mono {K : PySem.W.Frag} {b : Option Addr} {F F' : Hp} {o : HO} {c : Str} {fs : Fl} (h : InsOk K b F o c fs) (s : Same F F') : InsOk K b F' o c fs := by
  obtain ⟨C, dx, vs, e1, e2, r⟩ := h
  exact ⟨C, dx, vs, e1, e2, r.mono s⟩
theorem insOk_rep {K : PySem.W.Frag} {b : Option Addr} {F : Hp} {a : Addr} {o : HO} {c : Str} {fs : Fl} (e : F a = some o) (h : InsOk K b F o c fs) : Rep K b F (.ref a) (.obj c fs) := by
  obtain ⟨C, dx, vs, e1, e2, r⟩ := h
  subst e1
  exact .obj e e2 r
/-- what a slot is -/
def SlotOk (S : Cf) (F H : Hp) (v : Option V) : Slot → Prop
  | .un => True
  | .fz d => ∃ u, v = some u ∧ Rep S.K S.b F u d
  | .ol ds => ∃ p vs, v = some (.ref p) ∧ S.b ≠ some p ∧ S.H0 p = none ∧ F p = none ∧ H p = some (.lst vs) ∧ RepL S.K S.b F vs ds
  | .od kds => ∃ p kvs, v = some (.ref p) ∧ S.b ≠ some p ∧ S.H0 p = none ∧ F p = none ∧ H p = some (.dK kvs) ∧ RepK S.K S.b F kvs kds
  | .oo c fs => ∃ p o, v = some (.ref p) ∧ S.b ≠ some p ∧ S.H0 p = none ∧ F p = none ∧ H p = some o ∧ (InsOk S.K S.b F o c fs ∧ S.me = some p)
def Slot.own : Slot → Bool
  | .ol _ => true
  | .od _ => true
  | .oo _ _ => true
  | _ => false
structure Rel (S : Cf) (F H : Hp) (σ : L2.St) (ρ : En) (x : Bx) : Prop where
  core : Core S F H x
  len : ρ.length = σ.length
  slot : ∀ (i : Nat) (s : Slot), ρ[i]? = some s → ∃ v, σ[i]? = some v ∧ SlotOk S F H v s
  dist : ∀ (i j : Nat) (s t : Slot) (p : Addr), i ≠ j → ρ[i]? = some s → ρ[j]? = some t → s.own = true → t.own = true → σ[i]? = some (some (.ref p)) → σ[j]? ≠ some (some (.ref p))

/-- an exception's dict -/
def XdOk (S : Cf) (F : Hp) (dd : Option Addr) (fs : Fl) : Prop := (fs = [] ∧ dd = none) ∨ ∃ a vs, dd = some a ∧ F a = some (.xd vs) ∧ RepF S.K S.b F vs fs

abbrev Rl (α β : Type) := Cf → Hp → β → α → Prop
def rlD : Rl D V := fun S F v d => Rep S.K S.b F v d
def rlL : Rl (List D) (List V) := fun S F v d => RepL S.K S.b F v d
def rlB {α : Type} : Rl α α := fun _ _ b' b => b' = b

def Post {α β : Type} (rl : Rl α β) (S : Cf) (W : WX) (σ : L2.St) (F H : Hp) (ρ : En) (r : R α) (Q : β → Hp → Prop) : Prop := match r with
  | .val a x' => ∀ v F' H', Rel S F' H' σ ρ x' → Same F F' → KeepB S.b H H' → rl S F' v a → Q v H'
  | .exc c fs x' => ∀ F' H' dd, Rel S F' H' σ ρ x' → Same F F' → KeepB S.b H H' → XdOk S F' dd fs → W (.ref (He.ga S.K c)) dd σ H'
  | .out => False
theorem Post.mono {α β : Type} {rl : Rl α β} {S : Cf} {W : WX} {σ : L2.St} {F H F1 H1 : Hp} {ρ : En} {r : R α} {Q : β → Hp → Prop} (s : Same F F1) (k : KeepB S.b H H1) (h : Post rl S W σ F H ρ r Q) : Post rl S W σ F1 H1 ρ r Q := by
  cases r with
  | val a x' => exact fun v F' H' a1 a2 a3 a4 => h v F' H' a1 (s.trans a2) (k.trans a3) a4
  | exc c fs x' => exact fun F' H' dd a1 a2 a3 a4 => h F' H' dd a1 (s.trans a2) (k.trans a3) a4
  | out => exact h

abbrev MM (α : Type) := En → Bx → R α
def R.bind {α β : Type} (r : R α) (k : α → Bx → R β) : R β := match r with
  | .val a x => k a x
  | .exc c fs x => .exc c fs x
  | .out => .out

/-- the reading that a mirror gives -/
def rd {α β : Type} (rl : Rl α β) (K : PySem.W.Frag) (W : WX) (m : MM α) : L2.St → Hp → (β → Hp → Prop) → Prop := fun σ H Q =>
  ∃ S F ρ x, S.K = K ∧ Rel S F H σ ρ x ∧ Post rl S W σ F H ρ (m ρ x) Q
abbrev rdE (K : PySem.W.Frag) (W : WX) (m : MM D) : TE := rd rlD K W m
abbrev rdT (K : PySem.W.Frag) (W : WX) (m : MM Bool) : TT := rd rlB K W m
abbrev rdA (K : PySem.W.Frag) (W : WX) (m : MM (List D)) : TA := rd rlL K W m
/-- .. with one, two values at hand -/
def rd1 {α β γ δ : Type} (rl : Rl α β) (rl' : Rl γ δ) (K : PySem.W.Frag) (W : WX) (k : α → MM γ) (v : β) : L2.St → Hp → (δ → Hp → Prop) → Prop := fun σ H Q =>
  ∃ S F ρ x a, S.K = K ∧ Rel S F H σ ρ x ∧ rl S F v a ∧ Post rl' S W σ F H ρ (k a ρ x) Q
def rd2 {α α' β β' γ δ : Type} (rl : Rl α β) (rl1 : Rl α' β') (rl' : Rl γ δ) (K : PySem.W.Frag) (W : WX) (k : α → α' → MM γ) (v : β) (v' : β') : L2.St → Hp → (δ → Hp → Prop) → Prop := fun σ H Q =>
  ∃ S F ρ x a a', S.K = K ∧ Rel S F H σ ρ x ∧ rl S F v a ∧ rl1 S F v' a' ∧ Post rl' S W σ F H ρ (k a a' ρ x) Q

section
variable {α α' β β' γ δ : Type} {rl : Rl α β} {rl1 : Rl α' β'} {rl' : Rl γ δ} {K : PySem.W.Frag} {W : WX} {σ : L2.St} {H : Hp} {Q : δ → Hp → Prop}
def Mono (rl : Rl α β) : Prop := ∀ S F F' v a, Same F F' → rl S F v a → rl S F' v a
theorem mono_D : Mono rlD := fun _ _ _ _ _ s h => Rep.mono s h
theorem mono_L : Mono rlL := fun _ _ _ _ _ s h => RepL.mono s h
theorem mono_B {α : Type} : Mono (rlB (α := α)) := fun _ _ _ _ _ _ h => h
def mBind (m : MM α) (k : α → MM γ) : MM γ := fun ρ x => (m ρ x).bind fun a x1 => k a ρ x1
theorem rd_bind {m : MM α} {k : α → MM γ} (h : rd rl' K W (mBind m k) σ H Q) : rd rl K W m σ H fun v H1 => rd1 rl rl' K W k v σ H1 Q := by
  obtain ⟨S, F, ρ, x, eK, r, p⟩ := h
  refine ⟨S, F, ρ, x, eK, r, ?_⟩
  unfold mBind at p
  cases e : m ρ x with
  | val a x1 =>
    rw [e] at p
    exact fun v F' H' r' s k hv => ⟨S, F', ρ, x1, a, eK, r', hv, p.mono s k⟩
  | exc c fs x1 =>
    rw [e] at p
    exact p
  | out =>
    rw [e] at p
    exact p.elim
theorem rd1_bind {v : β} {m : MM α'} {k : α → α' → MM γ} (hm : Mono rl) (h : rd1 rl rl' K W (fun a => mBind m (k a)) v σ H Q) : rd rl1 K W m σ H fun v' H1 => rd2 rl rl1 rl' K W k v v' σ H1 Q := by
  obtain ⟨S, F, ρ, x, a, eK, r, hv, p⟩ := h
  refine ⟨S, F, ρ, x, eK, r, ?_⟩
  have p : Post rl' S W σ F H ρ ((m ρ x).bind fun a1 x1 => k a a1 ρ x1) Q := p
  cases e : m ρ x with
  | val a1 x1 =>
    rw [e] at p
    exact fun v F' H' r' s k hv' => ⟨S, F', ρ, x1, a, a1, eK, r', hm _ _ _ _ _ s hv, hv', p.mono s k⟩
  | exc c fs x1 =>
    rw [e] at p
    exact p
  | out =>
    rw [e] at p
    exact p.elim
end

/-! ### weakening -/
section
variable {X : Cx}
theorem peI {e : Expr} {t t' : TE} (h : PE X e t) (k : ∀ σ H Q, t' σ H Q → t σ H Q) : PE X e t' := ⟨fun pins s σ H Q I q => h.run pins s σ H Q I (k σ H Q q)⟩
theorem ptI {e : Expr} {t t' : TT} (h : PT X e t) (k : ∀ σ H Q, t' σ H Q → t σ H Q) : PT X e t' := ⟨fun pins s σ H Q I q => h.run pins s σ H Q I (k σ H Q q)⟩
theorem pwI {e : Expr} {t t' : TT} (h : PW X e t) (k : ∀ σ H Q, t' σ H Q → t σ H Q) : PW X e t' := ⟨fun w pins s σ H Q I q => h.run w pins s σ H Q I (k σ H Q q)⟩
theorem paI {es : List Expr} {t t' : TA} (h : PA X es t) (k : ∀ σ H Q, t' σ H Q → t σ H Q) : PA X es t' := ⟨fun p pins s σ H Q I q => h.run p pins s σ H Q I (k σ H Q q)⟩
theorem psI {st : Stmt} {t t' : TS} (h : PS X st t) (k : ∀ D σ H, t' D σ H → t D σ H) : PS X st t' := ⟨fun pins s σ H D I q => h.run pins s σ H D I (k D σ H q)⟩
theorem pssI {st : List Stmt} {t t' : TS} (h : PSs X st t) (k : ∀ D σ H, t' D σ H → t D σ H) : PSs X st t' := ⟨fun pins s σ H D I q => h.run pins s σ H D I (k D σ H q)⟩
end

/-! ### the state moves -/
section
variable {S : Cf} {F H : Hp} {σ : L2.St} {ρ : En} {x : Bx}
theorem Core.ne_box (r : Core S F H x) {p : Addr} (h : H p = none) : S.b ≠ some p := fun e => by
  have := (r.box p e).2
  rw [h] at this
  cases this
theorem Core.nF (r : Core S F H x) {p : Addr} (h : H p = none) : F p = none := by
  cases e : F p with
  | none => rfl
  | some o =>
    rw [r.sub p o e] at h
    cases h
theorem Core.n0 (r : Core S F H x) {p : Addr} (h : H p = none) : S.H0 p = none := by
  cases e : S.H0 p with
  | none => rfl
  | some o =>
    rw [r.keep p o e (r.ne_box h)] at h
    cases h
/-- a new frozen object -/
theorem Core.alloc (r : Core S F H x) {p : Addr} {o : HO} (h : H p = none) : Core S (upd F p o) (upd H p o) x where
  sub := fun q u e => by
    by_cases hq : q = p
    · subst hq
      rw [upd_same] at e ⊢
      exact e
    · rw [upd_ne hq] at e ⊢
      exact r.sub q u e
  f0 := r.f0.trans (Same.new (r.nF h))
  fresh := fun q h1 h2 => by
    have hq : q ≠ p := fun e => by
      subst e
      exact h1 (r.n0 h)
    rw [upd_ne hq]
    exact r.fresh q h1 h2
  keep := fun q u e n => (KeepB.new h) q u (r.keep q u e n) n
  box := fun a e => by
    have hq : a ≠ p := fun z => by
      subst z
      exact r.ne_box h e
    rw [upd_ne hq, upd_ne hq]
    exact r.box a e
/-- a new object that is not frozen -/
theorem Core.allocO (r : Core S F H x) {p : Addr} {o : HO} (h : H p = none) : Core S F (upd H p o) x where
  sub := r.sub.trans (Same.new h)
  f0 := r.f0
  fresh := r.fresh
  keep := fun q u e n => (KeepB.new h) q u (r.keep q u e n) n
  box := fun a e => by
    have hq : a ≠ p := fun z => by
      subst z
      exact r.ne_box h e
    rw [upd_ne hq]
    exact r.box a e
theorem SlotOk.mono {F' H' : Hp} {v : Option V} {s : Slot} (a : Same F F') (k : KeepB S.b H H') (n : ∀ p, H p ≠ none → F p = none → S.b ≠ some p → F' p = none) (h : SlotOk S F H v s) : SlotOk S F' H' v s := by
  cases s with
  | un => trivial
  | fz d =>
    obtain ⟨u, e, r⟩ := h
    exact ⟨u, e, r.mono a⟩
  | ol ds =>
    obtain ⟨p, vs, e, nb, n0, nf, hh, r⟩ := h
    exact ⟨p, vs, e, nb, n0, n p (by rw [hh]; intro z; cases z) nf nb, k p _ hh nb, r.mono a⟩
  | od ds =>
    obtain ⟨p, vs, e, nb, n0, nf, hh, r⟩ := h
    exact ⟨p, vs, e, nb, n0, n p (by rw [hh]; intro z; cases z) nf nb, k p _ hh nb, r.mono a⟩
  | oo cc ff =>
    obtain ⟨p, vs, e, nb, n0, nf, hh, r⟩ := h
    exact ⟨p, vs, e, nb, n0, n p (by rw [hh]; intro z; cases z) nf nb, k p _ hh nb, ⟨r.1.mono a, r.2⟩⟩
theorem Rel.go {F' H' : Hp} {x' : Bx} (r : Rel S F H σ ρ x) (c : Core S F' H' x') (a : Same F F') (k : KeepB S.b H H') (n : ∀ p, H p ≠ none → F p = none → S.b ≠ some p → F' p = none) : Rel S F' H' σ ρ x' where
  core := c
  len := r.len
  slot := fun i s e => let ⟨v, e1, h⟩ := r.slot i s e; ⟨v, e1, h.mono a k n⟩
  dist := r.dist
theorem Rel.alloc (r : Rel S F H σ ρ x) {p : Addr} {o : HO} (h : H p = none) : Rel S (upd F p o) (upd H p o) σ ρ x :=
  r.go (r.core.alloc h) (Same.new (r.core.nF h)) (KeepB.new h) fun q h1 h2 _ => by
    have hq : q ≠ p := fun e => h1 (e ▸ h)
    rw [upd_ne hq]
    exact h2
theorem Rel.allocO (r : Rel S F H σ ρ x) {p : Addr} {o : HO} (h : H p = none) : Rel S F (upd H p o) σ ρ x :=
  r.go (r.core.allocO h) (Same.refl F) (KeepB.new h) fun q h1 h2 _ => h2
end
end Mi

/-! Mi1: mirrors of expressions. -/
namespace Mi
open PySem PySem.Spec L2
section
variable {X : Cx} {W : WX}

/-- what a value at hand gives -/
theorem post_val {α β : Type} {rl : Rl α β} {S : Cf} {F H : Hp} {σ : L2.St} {ρ : En} {x : Bx} {a : α} {v : β} {Q : β → Hp → Prop} (r : Rel S F H σ ρ x) (p : Post rl S W σ F H ρ (.val a x) Q) (h : rl S F v a) : Q v H :=
  p v F H r (Same.refl F) KeepB.refl h

/-! ### on names and constants -/
def mVar (i : Nat) : MM D := fun ρ x => match ρ[i]? with
  | some (.fz d) => .val d x
  | _ => .out
theorem j_var (i : Nat) {y : Str} {pos : Pos} (hN : X.N[i]? = some y := by rfl) (hv : Vis X.env.scope y := by first | exact Or.inl rfl | exact Or.inr (Or.inl rfl) | exact Or.inr (Or.inr rfl)) (hd : (y == ("__debug__" : Str)) = false := by decide)
    (hcd : (y == ("__classdict__" : Str)) = false := by decide) : PE X (.Name y pos) (rdE X.K W (mVar i)) := peI (pe_var hN hv hd hcd) fun σ H Q h => by
  obtain ⟨S, F, ρ, x, eK, r, p⟩ := h
  unfold mVar at p
  split at p
  · rename_i d e
    obtain ⟨v, e1, u, e2, hr⟩ := r.slot i _ e
    exact ⟨u, by rw [e1, e2], post_val (rl := rlD) r p hr⟩
  · exact p.elim
def mC (d : D) : MM D := fun _ x => .val d x
theorem rd_c {v : V} {d : D} (hr : ∀ (S : Cf) (F : Hp), Rep S.K S.b F v d) : ∀ σ H Q, rdE X.K W (mC d) σ H Q → tC v σ H Q := fun σ H Q ⟨S, F, ρ, x, eK, r, p⟩ => post_val (rl := rlD) r p (hr S F)
theorem j_int {i : Int} {j : Nat} {pos : Pos} : PE X (.Constant (.int i) j pos) (rdE X.K W (mC (.int i))) := peI pe_int (rd_c fun _ _ => .int i)
theorem j_bl {b : Bool} {j : Nat} {pos : Pos} : PE X (.Constant (.bool b) j pos) (rdE X.K W (mC (.bl b))) := peI pe_bl (rd_c fun _ _ => .bl b)
theorem j_non {j : Nat} {pos : Pos} : PE X (.Constant .none j pos) (rdE X.K W (mC .non)) := peI pe_non (rd_c fun _ _ => .non)
theorem j_str {s : Str} {j : Nat} {pos : Pos} : PE X (.Constant (.str s) j pos) (rdE X.K W (mC (.str s))) := peI pe_str (rd_c fun _ _ => .str s)
/-- a module's constant int -/
theorem j_gint {i : Int} {y : Str} {pos : Pos} (hg : Gl X y) (hm : ∃ t, X.mg y = some (.int i t)) (hd : (y == ("__debug__" : Str)) = false := by decide) : PE X (.Name y pos) (rdE X.K W (mC (.int i))) := by
  obtain ⟨t, hm⟩ := hm
  exact peI (pe_glob (v := .int i) hg hm ⟨t, rfl⟩ hd) (rd_c fun _ _ => .int i)
/-- a def, a class as a value -/
theorem j_fn {y : Str} {pos : Pos} (hg : Gl X y) (hm : X.mg y = some (.ref (He.ga X.K y))) (hd : (y == ("__debug__" : Str)) = false := by decide) : PE X (.Name y pos) (rdE X.K W (mC (.fn y))) :=
  peI (pe_glob (v := .ref (He.ga X.K y)) hg hm rfl hd) fun σ H Q ⟨S, F, ρ, x, eK, r, p⟩ => post_val (rl := rlD) r p (by rw [← eK]; exact .fn)

/-! ### two operands, one -/
def mOp (g : D → D → MM D) (ma mb : MM D) : MM D := mBind ma fun a => mBind mb (g a)
def Real2 (K : PySem.W.Frag) (W : WX) (r : R2) (g : D → D → MM D) : Prop := ∀ S F H σ ρ x v1 v2 a b Q, S.K = K → Rel S F H σ ρ x → Rep S.K S.b F v1 a → Rep S.K S.b F v2 b → Post rlD S W σ F H ρ (g a b ρ x) Q → r v1 v2 H Q
theorem rd_op {K : PySem.W.Frag} {r : R2} {g : D → D → MM D} {ma mb : MM D} (hr : Real2 K W r g) {σ : L2.St} {H : Hp} {Q : VK} (h : rdE K W (mOp g ma mb) σ H Q) : tOp r (rdE K W ma) (rdE K W mb) σ H Q := by
  refine (show rdE K W ma σ H fun x H1 => rdE K W mb σ H1 fun y H2 => r x y H2 Q from ?_)
  obtain ⟨S, F, ρ, x, eK, rr, p⟩ := rd_bind (rl := rlD) h
  refine ⟨S, F, ρ, x, eK, rr, ?_⟩
  cases e : ma ρ x with
  | val a x1 =>
    rw [e] at p
    intro v F' H' r1 s1 k1 h1
    obtain ⟨S2, F2, ρ2, x2, eK2, rr2, p2⟩ := rd1_bind (rl1 := rlD) mono_D (p v F' H' r1 s1 k1 h1)
    refine ⟨S2, F2, ρ2, x2, eK2, rr2, ?_⟩
    cases e2 : mb ρ2 x2 with
    | val b x3 =>
      rw [e2] at p2
      intro v2 F3 H3 r3 s3 k3 h3
      obtain ⟨S4, F4, ρ4, x4, a4, b4, eK4, rr4, ha4, hb4, p4⟩ := p2 v2 F3 H3 r3 s3 k3 h3
      exact hr S4 F4 H3 σ ρ4 x4 v v2 a4 b4 Q eK4 rr4 ha4 hb4 p4
    | exc c fs x3 =>
      rw [e2] at p2
      exact p2
    | out =>
      rw [e2] at p2
      exact p2
  | exc c fs x1 =>
    rw [e] at p
    exact p
  | out =>
    rw [e] at p
    exact p
theorem j_op {op : Operator} {r : R2} {g : D → D → MM D} {ma mb : MM D} {a b : Expr} {pos : Pos} (ho : OpR X (binaryOp op) r) (hr : Real2 X.K W r g) (ha : PE X a (rdE X.K W ma)) (hb : PE X b (rdE X.K W mb)) : PE X (.BinOp a op b pos) (rdE X.K W (mOp g ma mb)) :=
  peI (pe_op ho ha hb) fun σ H Q h => rd_op hr h
theorem j_cmp {op : CmpOp} {r : R2} {g : D → D → MM D} {ma mb : MM D} {a b : Expr} {pos : Pos} (ho : OpR X (compareOp op) r) (hr : Real2 X.K W r g) (ha : PE X a (rdE X.K W ma)) (hb : PE X b (rdE X.K W mb)) (hm : behindInMarks op b = false) : PE X (.Compare a [op] [b] pos) (rdE X.K W (mOp g ma mb)) :=
  peI (pe_cmpR ho ha hb hm) fun σ H Q h => rd_op hr h
theorem j_ix {r : R2} {g : D → D → MM D} {ma mb : MM D} {a b : Expr} {pos : Pos} (ho : IxR X r) (hr : Real2 X.K W r g) (ha : PE X a (rdE X.K W ma)) (hb : PE X b (rdE X.K W mb)) (hs : PlainIx b := by exact fun _ _ => rfl) : PE X (.Subscript a b pos) (rdE X.K W (mOp g ma mb)) :=
  peI (pe_ix ho ha hb hs) fun σ H Q h => rd_op hr h

def o1 (o : Option D) : MM D := fun _ x => match o with
  | some d => .val d x
  | none => .out
theorem o1_some {d : D} {ρ : En} {x : Bx} : o1 (some d) ρ x = .val d x := rfl
/-- a scalar result -/
inductive Sca : V → D → Prop
  | non : Sca .non .non
  | bl (b : Bool) : Sca (.bl b) (.bl b)
  | int (i : Int) : Sca (.int i) (.int i)
  | str (s : Str) : Sca (.str s) (.str s)
theorem Sca.rep {K : PySem.W.Frag} {b : Option Addr} {F : Hp} {v : V} {d : D} (h : Sca v d) : Rep K b F v d := by
  cases h
  · exact .non
  · exact .bl _
  · exact .int _
  · exact .str _

/-! ### ints -/
def gI (f : Int → Int → Option D) (a b : D) : Option D := match a, b with
  | .int i, .int j => f i j
  | _, _ => none
theorem real_I {K : PySem.W.Frag} {C : Int → Int → Prop} {g : Int → Int → V} {f : Int → Int → Option D} (hf : ∀ i j d, f i j = some d → C i j ∧ Sca (g i j) d) : Real2 K W (rI C g) (fun a b => o1 (gI f a b)) := by
  intro S F H σ ρ x v1 v2 a b Q eK r ha hb p
  cases ha <;> cases hb <;> try exact p.elim
  rename_i i j
  have p : Post rlD S W σ F H ρ (o1 (f i j) ρ x) Q := p
  cases e : f i j with
  | none =>
    rw [e] at p
    exact p.elim
  | some d =>
    rw [e] at p
    obtain ⟨c, s⟩ := hf i j d e
    exact ⟨i, j, rfl, rfl, c, post_val (rl := rlD) r p s.rep⟩
theorem real_I0 {K : PySem.W.Frag} {g : Int → Int → V} {f : Int → Int → D} (hf : ∀ i j, Sca (g i j) (f i j)) : Real2 K W (rI0 g) (fun a b => o1 (gI (fun i j => some (f i j)) a b)) := by
  intro S F H σ ρ x v1 v2 a b Q eK r ha hb p
  cases ha <;> cases hb <;> try exact p.elim
  rename_i i j
  exact ⟨i, j, rfl, rfl, post_val (rl := rlD) r p (hf i j).rep⟩
theorem Real2.or {K : PySem.W.Frag} {r r' : R2} {g g' : D → D → Option D} (h : Real2 K W r fun a b => o1 (g a b)) (h' : Real2 K W r' fun a b => o1 (g' a b)) : Real2 K W (fun x y H Q => r x y H Q ∨ r' x y H Q) fun a b => o1 ((g a b).or (g' a b)) := by
  intro S F H σ ρ x v1 v2 a b Q eK r ha hb p
  have p : Post rlD S W σ F H ρ (o1 ((g a b).or (g' a b)) ρ x) Q := p
  cases e : g a b with
  | none =>
    refine .inr (h' S F H σ ρ x v1 v2 a b Q eK r ha hb ?_)
    rw [e] at p
    exact p
  | some d =>
    refine .inl (h S F H σ ρ x v1 v2 a b Q eK r ha hb ?_)
    rw [e] at p
    show Post rlD S W σ F H ρ (o1 (g a b) ρ x) Q
    rw [e]
    exact p
def gS (f : Str → Str → Option D) (a b : D) : Option D := match a, b with
  | .str i, .str j => f i j
  | _, _ => none
def big : Nat := 1000000
theorem big_le {n : Nat} (h : n ≤ big) : n ≤ sizeLine := Nat.le_trans h (by decide)
theorem big_lt {n : Nat} (h : n < big) : n < sizeLine := Nat.lt_of_lt_of_le h (by decide)
def fCat (i j : Str) : Option D := if i.length + j.length ≤ big then some (.str (i ++ j)) else none
theorem real_addS {K : PySem.W.Frag} : Real2 K W (fun x y H Q => ∃ i j, x = .str i ∧ y = .str j ∧ i.length + j.length ≤ sizeLine ∧ Q (.str (i ++ j)) H) (fun a b => o1 (gS fCat a b)) := by
  intro S F H σ ρ x v1 v2 a b Q eK r ha hb p
  cases ha <;> cases hb <;> try exact p.elim
  rename_i i j
  have p : Post rlD S W σ F H ρ (o1 (fCat i j) ρ x) Q := p
  unfold fCat at p
  split at p
  · rename_i h
    exact ⟨i, j, rfl, rfl, big_le h, post_val (rl := rlD) r p (.str _)⟩
  · exact p.elim
def gL (f : List D → List D → Option D) (a b : D) : Option D := match a, b with
  | .lst i, .lst j => f i j
  | _, _ => none
def fCatL (i j : List D) : Option D := if i.length + j.length ≤ big then some (.lst (i ++ j)) else none
/-- a new object as the value -/
theorem post_new {α : Type} {S : Cf} {F H : Hp} {σ : L2.St} {ρ : En} {x : Bx} {a : D} {Q : VK} {o : HO} (r : Rel S F H σ ρ x) (p : Post rlD S W σ F H ρ (.val a x) Q) {q : Addr} (n : H q = none) (h : Rep S.K S.b (upd F q o) (.ref q) a) : Q (.ref q) (upd H q o) :=
  p (.ref q) _ _ (r.alloc n) (Same.new (r.core.nF n)) (KeepB.new n) h
theorem real_addL {K : PySem.W.Frag} : Real2 K W rCat (fun a b => o1 (gL fCatL a b)) := by
  intro S F H σ ρ x v1 v2 a b Q eK r ha hb p
  cases ha <;> cases hb <;> try exact p.elim
  rename_i a1 vs1 ds1 h1 r1 a2 vs2 ds2 h2 r2
  have p : Post rlD S W σ F H ρ (o1 (fCatL ds1 ds2) ρ x) Q := p
  unfold fCatL at p
  split at p
  · rename_i h
    refine ⟨a1, a2, vs1, vs2, rfl, rfl, r.core.sub _ _ h1, r.core.sub _ _ h2, ?_, fun q n => post_new (α := D) r p n (.lst upd_same ?_)⟩
    · rw [r1.length, r2.length]
      exact big_le h
    · exact ((r1.append r2).mono (Same.new (r.core.nF n)))
  · exact p.elim
def gT (f : List D → List D → Option D) (a b : D) : Option D := match a, b with
  | .tup i, .tup j => f i j
  | _, _ => none
def fCatT (i j : List D) : Option D := if i.length + j.length ≤ big then some (.tup (i ++ j)) else none
theorem sqT {K : PySem.W.Frag} {H : Hp} {a : Addr} {xs : List V} (h : TupAt K H a xs) : SqT K H a xs := h.elim (fun h => .inl (.inl h)) .inr
theorem sqTK {K K' : PySem.W.Frag} {F H : Hp} {a : Addr} {xs : List V} (e : K' = K) (s : Same F H) (h : TupAt K' F a xs) : SqT K H a xs := by
  subst e
  exact sqT (h.mono s)
theorem sqL {K : PySem.W.Frag} {H : Hp} {a : Addr} {xs : List V} (h : H a = some (.lst xs)) : SqL K H a xs := .inl (.inl h)
theorem RepL.nil_of {K : PySem.W.Frag} {b : Option Addr} {F : Hp} {ds : List D} (r : RepL K b F [] ds) : ds = [] := by
  cases r
  rfl
theorem real_addT {K : PySem.W.Frag} : Real2 K W (rCatA K) (fun a b => o1 (gT fCatT a b)) := by
  intro S F H σ ρ x v1 v2 a b Q eK r ha hb p
  cases ha <;> cases hb <;> try exact p.elim
  rename_i a1 vs1 ds1 h1 r1 a2 vs2 ds2 h2 r2
  have p : Post rlD S W σ F H ρ (o1 (fCatT ds1 ds2) ρ x) Q := p
  unfold fCatT at p
  split at p
  · rename_i h
    refine ⟨a1, a2, vs1, vs2, rfl, rfl, sqTK eK r.core.sub h1, sqTK eK r.core.sub h2, ?_, fun e => ?_, fun _ e => ?_, fun _ _ q n => post_new (α := D) r p n (.tup (.inl upd_same) ((r1.append r2).mono (Same.new (r.core.nF n))))⟩
    · rw [r1.length, r2.length]
      exact big_le h
    · subst e
      have e2 := r1.nil_of
      subst e2
      exact post_val (rl := rlD) r p (.tup h2 r2)
    · subst e
      have e2 := r2.nil_of
      subst e2
      refine post_val (rl := rlD) r p ?_
      rw [List.append_nil]
      exact .tup h1 r1
  · exact p.elim
def gAdd (a b : D) : Option D := (gI (fun i j => some (.int (i + j))) a b).or ((gS fCat a b).or ((gL fCatL a b).or (gT fCatT a b)))
theorem op_addM : OpR X (binaryOp .Add) (fun x y H Q => rI0 (fun i j => V.int (i + j)) x y H Q ∨ ((∃ i j, x = .str i ∧ y = .str j ∧ i.length + j.length ≤ sizeLine ∧ Q (.str (i ++ j)) H) ∨ (rCat x y H Q ∨ rCatA X.K x y H Q))) :=
  op_add.or (op_add_str.or (op_cat.or op_catA))
theorem j_add {ma mb : MM D} {a b : Expr} {pos : Pos} (ha : PE X a (rdE X.K W ma)) (hb : PE X b (rdE X.K W mb)) : PE X (.BinOp a .Add b pos) (rdE X.K W (mOp (fun a b => o1 (gAdd a b)) ma mb)) :=
  j_op op_addM (Real2.or (real_I0 (f := fun i j => .int (i + j)) fun _ _ => .int _) (Real2.or real_addS (Real2.or real_addL real_addT))) ha hb
def gSub : D → D → Option D := gI fun i j => some (.int (i - j))
theorem j_sub {ma mb : MM D} {a b : Expr} {pos : Pos} (ha : PE X a (rdE X.K W ma)) (hb : PE X b (rdE X.K W mb)) : PE X (.BinOp a .Sub b pos) (rdE X.K W (mOp (fun a b => o1 (gSub a b)) ma mb)) :=
  j_op op_sub (real_I0 (f := fun i j => .int (i - j)) fun _ _ => .int _) ha hb
def lg (i : Int) : Nat := i.natAbs.log2
instance (i j : Int) : Decidable (CMul i j) := by unfold CMul; infer_instance
instance (i j : Int) : Decidable (CMulW i j) := by unfold CMulW; infer_instance
def okMul (i j : Int) : Bool := decide (CMul i j) || decide (CMulW i j)
def gMulI : D → D → Option D := gI fun i j => if okMul i j then some (.int (i * j)) else none
theorem op_mulM : OpR X (binaryOp .Mult) (rI (fun i j => okMul i j = true) fun i j => .int (i * j)) := opI fun i j _ _ _ _ _ hc q => by
  rcases Bool.or_eq_true_iff.mp hc with h | h
  · exact PyProof.Rows.mul_int q (CMul.ok (of_decide_eq_true h))
  · exact PyProof.Rows.mul_int q (CMulW.ok (of_decide_eq_true h))
theorem j_mulI {ma mb : MM D} {a b : Expr} {pos : Pos} (ha : PE X a (rdE X.K W ma)) (hb : PE X b (rdE X.K W mb)) : PE X (.BinOp a .Mult b pos) (rdE X.K W (mOp (fun a b => o1 (gMulI a b)) ma mb)) :=
  j_op op_mulM (real_I fun i j d h => by
    split at h
    · rename_i c
      cases h
      exact ⟨c, .int _⟩
    · cases h) ha hb
def gDiv : D → D → Option D := gI fun i j => if 0 < j ∧ lg j < 9000 then some (.int (i / j)) else none
theorem j_div {ma mb : MM D} {a b : Expr} {pos : Pos} (ha : PE X a (rdE X.K W ma)) (hb : PE X b (rdE X.K W mb)) : PE X (.BinOp a .FloorDiv b pos) (rdE X.K W (mOp (fun a b => o1 (gDiv a b)) ma mb)) :=
  j_op op_fdivW (real_I fun i j d h => by
    split at h
    · rename_i c
      cases h
      exact ⟨c, .int _⟩
    · cases h) ha hb
def gMod : D → D → Option D := gI fun i j => if 0 < j then some (.int (i % j)) else none
theorem j_mod {ma mb : MM D} {a b : Expr} {pos : Pos} (ha : PE X a (rdE X.K W ma)) (hb : PE X b (rdE X.K W mb)) : PE X (.BinOp a .Mod b pos) (rdE X.K W (mOp (fun a b => o1 (gMod a b)) ma mb)) :=
  j_op op_mod (real_I fun i j d h => by
    split at h
    · rename_i c
      cases h
      exact ⟨c, .int _⟩
    · cases h) ha hb
def gPow : D → D → Option D := gI fun i j => if 0 ≤ j ∧ j ≤ 1000 ∧ i.natAbs < 2 ^ 64 then some (.int (i ^ j.toNat)) else none
theorem j_pow {ma mb : MM D} {a b : Expr} {pos : Pos} (ha : PE X a (rdE X.K W ma)) (hb : PE X b (rdE X.K W mb)) : PE X (.BinOp a .Pow b pos) (rdE X.K W (mOp (fun a b => o1 (gPow a b)) ma mb)) :=
  j_op op_pow (real_I fun i j d h => by
    split at h
    · rename_i c
      cases h
      exact ⟨⟨c.1, by omega, c.2.2⟩, .int _⟩
    · cases h) ha hb
/-! ### comparisons -/
def gLt (a b : D) : Option D := (gI (fun i j => some (.bl (decide (i < j)))) a b).or (gS (fun i j => some (.bl (decide (i.cps.toList < j.cps.toList)))) a b)
def gLe (a b : D) : Option D := (gI (fun i j => some (.bl (decide (i ≤ j)))) a b).or (gS (fun i j => some (.bl (!decide (j.cps.toList < i.cps.toList)))) a b)
def gGt (a b : D) : Option D := (gI (fun i j => some (.bl (decide (j < i)))) a b).or (gS (fun i j => some (.bl (decide (j.cps.toList < i.cps.toList)))) a b)
def gGe (a b : D) : Option D := (gI (fun i j => some (.bl (decide (j ≤ i)))) a b).or (gS (fun i j => some (.bl (!decide (i.cps.toList < j.cps.toList)))) a b)
theorem real_S {K : PySem.W.Frag} {f : Str → Str → Bool} : Real2 K W (fun x y H Q => ∃ i j, x = V.str i ∧ y = V.str j ∧ Q (.bl (f i j)) H) (fun a b => o1 (gS (fun i j => some (.bl (f i j))) a b)) := by
  intro S F H σ ρ x v1 v2 a b Q eK r ha hb p
  cases ha <;> cases hb <;> try exact p.elim
  rename_i i j
  exact ⟨i, j, rfl, rfl, post_val (rl := rlD) r p (.bl _)⟩
theorem j_lt {ma mb : MM D} {a b : Expr} {pos : Pos} (ha : PE X a (rdE X.K W ma)) (hb : PE X b (rdE X.K W mb)) : PE X (.Compare a [.Lt] [b] pos) (rdE X.K W (mOp (fun a b => o1 (gLt a b)) ma mb)) :=
  j_cmp (op_lt.or op_lt_str) (Real2.or (real_I0 (f := fun i j => .bl (decide (i < j))) fun _ _ => .bl _) real_S) ha hb (nomark _)
theorem j_le {ma mb : MM D} {a b : Expr} {pos : Pos} (ha : PE X a (rdE X.K W ma)) (hb : PE X b (rdE X.K W mb)) : PE X (.Compare a [.LtE] [b] pos) (rdE X.K W (mOp (fun a b => o1 (gLe a b)) ma mb)) :=
  j_cmp (op_le.or op_le_str) (Real2.or (real_I0 (f := fun i j => .bl (decide (i ≤ j))) fun _ _ => .bl _) real_S) ha hb (nomark _)
theorem j_gt {ma mb : MM D} {a b : Expr} {pos : Pos} (ha : PE X a (rdE X.K W ma)) (hb : PE X b (rdE X.K W mb)) : PE X (.Compare a [.Gt] [b] pos) (rdE X.K W (mOp (fun a b => o1 (gGt a b)) ma mb)) :=
  j_cmp (op_gt.or op_gt_str) (Real2.or (real_I0 (f := fun i j => .bl (decide (j < i))) fun _ _ => .bl _) real_S) ha hb (nomark _)
theorem j_ge {ma mb : MM D} {a b : Expr} {pos : Pos} (ha : PE X a (rdE X.K W ma)) (hb : PE X b (rdE X.K W mb)) : PE X (.Compare a [.GtE] [b] pos) (rdE X.K W (mOp (fun a b => o1 (gGe a b)) ma mb)) :=
  j_cmp (op_ge.or op_ge_str) (Real2.or (real_I0 (f := fun i j => .bl (decide (j ≤ i))) fun _ _ => .bl _) real_S) ha hb (nomark _)

/-! ### equality of data -/
mutual
def D.py : D → Option PyData
  | .non => some .none
  | .bl b => some (.bool b)
  | .int i => some (.int i)
  | .str s => some (.str s)
  | .lst xs => (D.pys xs).map .list
  | .tup xs => (D.pys xs).map .tuple
  | .dct _ => none
  | .dcb _ => none
  | .obj _ _ => none
  | .err _ _ => none
  | .fn _ => none
  | .box => none
  | .scr _ => none
  | .xt _ _ => none
def D.pys : List D → Option (List PyData)
  | [] => some []
  | d :: ds => match d.py, D.pys ds with
    | some p, some ps => some (p :: ps)
    | _, _ => none
end
mutual
theorem Rep.dp {K : PySem.W.Frag} {b : Option Addr} {F H : Hp} (s : Same F H) : ∀ {v : V} {d : D} {p : PyData}, Rep K b F v d → d.py = some p → Dp K H v p
  | _, _, _, .non, e => by
    rw [D.py] at e
    cases e
    exact .non
  | _, _, _, .bl c, e => by
    rw [D.py] at e
    cases e
    exact .bl c
  | _, _, _, .int i, e => by
    rw [D.py] at e
    cases e
    exact .int i
  | _, _, _, .str x, e => by
    rw [D.py] at e
    cases e
    exact .str x
  | _, _, _, .lst (ds := ds) h r, e => by
    rw [D.py] at e
    cases q : D.pys ds with
    | none =>
      rw [q] at e
      cases e
    | some ps =>
      rw [q] at e
      cases e
      exact .lst (sqL (s _ _ h)) (RepL.dp s r q)
  | _, _, _, .tup (ds := ds) h r, e => by
    rw [D.py] at e
    cases q : D.pys ds with
    | none =>
      rw [q] at e
      cases e
    | some ps =>
      rw [q] at e
      cases e
      exact .tup (sqT (h.mono s)) (RepL.dp s r q)
  | _, _, _, .dct _ _, e => by
    rw [D.py] at e
    cases e
  | _, _, _, .dcb _ _, e => by
    rw [D.py] at e
    cases e
  | _, _, _, .obj _ _ _, e => by
    rw [D.py] at e
    cases e
  | _, _, _, .err0 _ _, e => by
    rw [D.py] at e
    cases e
  | _, _, _, .err _ _ _ _, e => by
    rw [D.py] at e
    cases e
  | _, _, _, .fn, e => by
    rw [D.py] at e
    cases e
  | _, _, _, .box _, e => by
    rw [D.py] at e
    cases e
  | _, _, _, .scr _, e => by
    rw [D.py] at e
    cases e
  | _, _, _, .xt _ _, e => by
    rw [D.py] at e
    cases e
theorem RepL.dp {K : PySem.W.Frag} {b : Option Addr} {F H : Hp} (s : Same F H) : ∀ {v : List V} {d : List D} {p : List PyData}, RepL K b F v d → D.pys d = some p → DpAll K H v p
  | _, _, _, .nil, e => by
    rw [D.pys] at e
    cases e
    exact .nil
  | _, _, _, .cons (d := d) (ds := ds) h r, e => by
    rw [D.pys] at e
    cases q1 : d.py with
    | none =>
      rw [q1] at e
      cases e
    | some p1 =>
      cases q2 : D.pys ds with
      | none =>
        rw [q1, q2] at e
        cases e
      | some p2 =>
        rw [q1, q2] at e
        cases e
        exact .cons (Rep.dp s h q1) (RepL.dp s r q2)
end
def gEqB (a b : D) : Option Bool := match a.py, b.py with
  | some p, some q => if SeqAt.shaped p && SeqAt.shaped q then some (PyData.eqv p q) else none
  | _, _ => none
def gEq (a b : D) : Option D := (gEqB a b).map .bl
def gNe (a b : D) : Option D := (gEqB a b).map fun c => .bl (!c)
theorem gEqB_some {a b : D} {c : Bool} (h : gEqB a b = some c) : ∃ p q, a.py = some p ∧ b.py = some q ∧ SeqAt.shaped p = true ∧ SeqAt.shaped q = true ∧ PyData.eqv p q = c := by
  unfold gEqB at h
  cases e1 : a.py with
  | none =>
    rw [e1] at h
    cases h
  | some p =>
    cases e2 : b.py with
    | none =>
      rw [e1, e2] at h
      cases h
    | some q =>
      rw [e1, e2] at h
      by_cases c1 : (SeqAt.shaped p && SeqAt.shaped q) = true
      · have h : (if (SeqAt.shaped p && SeqAt.shaped q) = true then some (PyData.eqv p q) else none) = some c := h
        rw [if_pos c1] at h
        obtain ⟨s1, s2⟩ := Bool.and_eq_true_iff.mp c1
        exact ⟨p, q, rfl, rfl, s1, s2, Option.some.inj h⟩
      · have h : (if (SeqAt.shaped p && SeqAt.shaped q) = true then some (PyData.eqv p q) else none) = some c := h
        rw [if_neg c1] at h
        cases h
theorem real_eq {K : PySem.W.Frag} : Real2 K W (rEqD K) (fun a b => o1 (gEq a b)) := by
  intro S F H σ ρ x v1 v2 a b Q eK r ha hb p
  cases e : gEqB a b with
  | none =>
    have p : Post rlD S W σ F H ρ (o1 ((gEqB a b).map .bl) ρ x) Q := p
    rw [e] at p
    exact p.elim
  | some c =>
    have p : Post rlD S W σ F H ρ (o1 ((gEqB a b).map .bl) ρ x) Q := p
    rw [e] at p
    obtain ⟨p1, q1, e1, e2, s1, s2, e3⟩ := gEqB_some e
    refine ⟨p1, q1, eK ▸ ha.dp r.core.sub e1, eK ▸ hb.dp r.core.sub e2, s1, s2, ?_⟩
    rw [e3]
    exact post_val (rl := rlD) r p (.bl _)
theorem real_ne {K : PySem.W.Frag} : Real2 K W (rNeD K) (fun a b => o1 (gNe a b)) := by
  intro S F H σ ρ x v1 v2 a b Q eK r ha hb p
  cases e : gEqB a b with
  | none =>
    have p : Post rlD S W σ F H ρ (o1 ((gEqB a b).map fun c => .bl (!c)) ρ x) Q := p
    rw [e] at p
    exact p.elim
  | some c =>
    have p : Post rlD S W σ F H ρ (o1 ((gEqB a b).map fun c => .bl (!c)) ρ x) Q := p
    rw [e] at p
    obtain ⟨p1, q1, e1, e2, s1, s2, e3⟩ := gEqB_some e
    refine ⟨p1, q1, eK ▸ ha.dp r.core.sub e1, eK ▸ hb.dp r.core.sub e2, s1, s2, ?_⟩
    rw [e3]
    exact post_val (rl := rlD) r p (.bl _)
theorem j_eq {ma mb : MM D} {a b : Expr} {pos : Pos} {k : Nat} (hr : Room k X.A) (ha : PE X a (rdE X.K W ma)) (hb : PE X b (rdE X.K W mb)) : PE X (.Compare a [.Eq] [b] pos) (rdE X.K W (mOp (fun a b => o1 (gEq a b)) ma mb)) :=
  j_cmp (op_eqD hr.units) real_eq ha hb (nomark _)
theorem j_ne {ma mb : MM D} {a b : Expr} {pos : Pos} {k : Nat} (hr : Room k X.A) (ha : PE X a (rdE X.K W ma)) (hb : PE X b (rdE X.K W mb)) : PE X (.Compare a [.NotEq] [b] pos) (rdE X.K W (mOp (fun a b => o1 (gNe a b)) ma mb)) :=
  j_cmp (op_neD hr.units) real_ne ha hb (nomark _)
def gIsN (a b : D) : Option D := match b with
  | .non => match a with
    | .non => some (.bl true)
    | _ => some (.bl false)
  | _ => none
def gNotN (a b : D) : Option D := match b with
  | .non => match a with
    | .non => some (.bl false)
    | _ => some (.bl true)
  | _ => none
theorem j_isN {ma mb : MM D} {a b : Expr} {pos : Pos} (ha : PE X a (rdE X.K W ma)) (hb : PE X b (rdE X.K W mb)) : PE X (.Compare a [.Is] [b] pos) (rdE X.K W (mOp (fun a b => o1 (gIsN a b)) ma mb)) :=
  j_cmp op_isN (fun S F H σ ρ x v1 v2 a b Q eK r ha hb p => by
    cases hb <;> try exact p.elim
    refine ⟨rfl, ?_⟩
    cases ha <;> exact post_val (rl := rlD) r p (.bl _)) ha hb (nomark _)
theorem j_notN {ma mb : MM D} {a b : Expr} {pos : Pos} (ha : PE X a (rdE X.K W ma)) (hb : PE X b (rdE X.K W mb)) : PE X (.Compare a [.IsNot] [b] pos) (rdE X.K W (mOp (fun a b => o1 (gNotN a b)) ma mb)) :=
  j_cmp op_notN (fun S F H σ ρ x v1 v2 a b Q eK r ha hb p => by
    cases hb <;> try exact p.elim
    refine ⟨rfl, ?_⟩
    cases ha <;> exact post_val (rl := rlD) r p (.bl _)) ha hb (nomark _)
/-! ### in, not in over flat things -/
def flD : D → Option V
  | .non => some .non
  | .bl b => some (.bl b)
  | .int i => some (.int i)
  | .str s => some (.str s)
  | _ => none
def flDs : List D → Option (List V)
  | [] => some []
  | d :: ds => match flD d, flDs ds with
    | some v, some vs => some (v :: vs)
    | _, _ => none
theorem Rep.fl {K : PySem.W.Frag} {b : Option Addr} {F : Hp} {v u : V} {d : D} (h : Rep K b F v d) (e : flD d = some u) : u = v ∧ flatV v = true := by
  cases h <;> (first | (cases e; exact ⟨rfl, rfl⟩) | cases e)
theorem RepL.fl {K : PySem.W.Frag} {b : Option Addr} {F : Hp} : ∀ {vs us : List V} {ds : List D}, RepL K b F vs ds → flDs ds = some us → us = vs ∧ vs.all flatV = true
  | _, _, _, .nil, e => by
    cases e
    exact ⟨rfl, rfl⟩
  | _, us, _, .cons (v := v) (vs := vs) (d := d) (ds := ds) h r, e => by
    rw [flDs] at e
    cases q1 : flD d with
    | none =>
      rw [q1] at e
      cases e
    | some p1 =>
      cases q2 : flDs ds with
      | none =>
        rw [q1, q2] at e
        cases e
      | some p2 =>
        rw [q1, q2] at e
        cases e
        obtain ⟨e1, f1⟩ := h.fl q1
        obtain ⟨e2, f2⟩ := RepL.fl r q2
        rw [e1, e2]
        exact ⟨rfl, by rw [List.all_cons, f1, f2] <;> rfl⟩
def gInB (a b : D) : Option Bool := match flD a, (match b with
  | .lst ds => flDs ds
  | .tup ds => flDs ds
  | _ => none) with
  | some v, some vs => some (inV v vs)
  | _, _ => none
def gIn (neg : Bool) (a b : D) : Option D := (gInB a b).map fun c => .bl (if neg then !c else c)
theorem real_in {K : PySem.W.Frag} {neg : Bool} : Real2 K W (rIn K neg) (fun a b => o1 (gIn neg a b)) := by
  intro S F H σ ρ x v1 v2 a b Q eK r ha hb p
  replace p : Post rlD S W σ F H ρ (o1 ((gInB a b).map fun c => .bl (if neg then !c else c)) ρ x) Q := p
  unfold gInB at p
  cases e1 : flD a with
  | none =>
    rw [e1] at p
    exact p.elim
  | some v =>
    obtain ⟨ev, fv⟩ := ha.fl e1
    subst ev
    rw [e1] at p
    cases hb <;> try exact p.elim
    · rename_i a2 vs ds h2 r2
      cases e2 : flDs ds with
      | none =>
        simp only [e2] at p
        exact p.elim
      | some us =>
        simp only [e2] at p
        obtain ⟨eu, fu⟩ := r2.fl e2
        subst eu
        exact ⟨a2, us, rfl, .inl (sqL (r.core.sub _ _ h2)), fv, fu, post_val (rl := rlD) r p (.bl _)⟩
    · rename_i a2 vs ds h2 r2
      cases e2 : flDs ds with
      | none =>
        simp only [e2] at p
        exact p.elim
      | some us =>
        simp only [e2] at p
        obtain ⟨eu, fu⟩ := r2.fl e2
        subst eu
        exact ⟨a2, us, rfl, .inr (sqTK eK r.core.sub h2), fv, fu, post_val (rl := rlD) r p (.bl _)⟩
end
end Mi

/-! Mi2: arguments, displays, tests, built-in functions and methods, subscripts, slices. -/
namespace Mi
open PySem PySem.Spec L2
section
variable {X : Cx} {W : WX}

/-! ### arguments -/
def mNil : MM (List D) := fun _ x => .val [] x
def mCons (m : MM D) (ms : MM (List D)) : MM (List D) := mBind m fun a => mBind ms fun as => fun _ x => .val (a :: as) x
theorem j_anil : PA X [] (rdA X.K W mNil) := paI pa_nil fun σ H Q ⟨S, F, ρ, x, eK, r, p⟩ => post_val (rl := rlL) r p .nil
theorem j_acons {e : Expr} {es : List Expr} {m : MM D} {ms : MM (List D)} (he : PE X e (rdE X.K W m)) (hr : PA X es (rdA X.K W ms)) (hs : starEach (e :: es) X.env = (false, eval e X.env) :: starEach es X.env := by rfl) : PA X (e :: es) (rdA X.K W (mCons m ms)) :=
  paI (pa_cons he hr hs) fun σ H Q h => by
    refine (show rdE X.K W m σ H fun x H1 => rdA X.K W ms σ H1 fun xs H2 => Q (x :: xs) H2 from ?_)
    obtain ⟨S, F, ρ, x, eK, rr, p⟩ := rd_bind (rl := rlD) h
    refine ⟨S, F, ρ, x, eK, rr, ?_⟩
    cases e : m ρ x with
    | val a x1 =>
      rw [e] at p
      intro v F' H' r1 s1 k1 h1
      obtain ⟨S2, F2, ρ2, x2, eK2, rr2, p2⟩ := rd1_bind (rl1 := rlL) mono_D (p v F' H' r1 s1 k1 h1)
      refine ⟨S2, F2, ρ2, x2, eK2, rr2, ?_⟩
      cases e2 : ms ρ2 x2 with
      | val b x3 =>
        rw [e2] at p2
        intro v2 F3 H3 r3 s3 k3 h3
        obtain ⟨S4, F4, ρ4, x4, a4, b4, eK4, rr4, ha4, hb4, p4⟩ := p2 v2 F3 H3 r3 s3 k3 h3
        exact post_val (rl := rlL) rr4 p4 (.cons ha4 hb4)
      | exc c fs x3 =>
        rw [e2] at p2
        exact p2
      | out =>
        rw [e2] at p2
        exact p2
    | exc c fs x1 =>
      rw [e] at p
      exact p
    | out =>
      rw [e] at p
      exact p
def mTup (ms : MM (List D)) : MM D := mBind ms fun ds => fun _ x => if ds.length ≤ big then .val (.tup ds) x else .out
def mLst (ms : MM (List D)) : MM D := mBind ms fun ds => fun _ x => if ds.length ≤ big then .val (.lst ds) x else .out
theorem rd_new {K : PySem.W.Frag} {ms : MM (List D)} {mk : List D → D} {mo : List V → HO} (hk : ∀ (S : Cf) (F : Hp) (a : Addr) (vs : List V) (ds : List D), F a = some (mo vs) → RepL S.K S.b F vs ds → Rep S.K S.b F (.ref a) (mk ds))
    {σ : L2.St} {H : Hp} {Q : VK} (h : rdE K W (mBind ms fun ds => fun _ x => if ds.length ≤ big then .val (mk ds) x else .out) σ H Q) :
    rdA K W ms σ H fun xs H1 => xs.length ≤ sizeLine ∧ ∀ p, H1 p = none → Q (.ref p) (upd H1 p (mo xs)) := by
  obtain ⟨S, F, ρ, x, eK, rr, p⟩ := rd_bind (rl := rlL) h
  refine ⟨S, F, ρ, x, eK, rr, ?_⟩
  cases e : ms ρ x with
  | val ds x1 =>
    rw [e] at p
    intro vs F' H' r1 s1 k1 h1
    obtain ⟨S2, F2, ρ2, x2, ds2, eK2, rr2, h2, p2⟩ := p vs F' H' r1 s1 k1 h1
    dsimp only at p2
    split at p2
    · rename_i hz
      have hl : RepL S2.K S2.b F2 vs ds2 := h2
      refine ⟨by rw [hl.length]; exact big_le hz, fun q n => post_new (α := D) rr2 p2 n (hk _ _ _ _ _ upd_same (hl.mono (Same.new (rr2.core.nF n))))⟩
    · exact p2.elim
  | exc c fs x1 =>
    rw [e] at p
    exact p
  | out =>
    rw [e] at p
    exact p
theorem j_tup {es : List Expr} {x1 : Nat} {pos : Pos} {ms : MM (List D)} (h : PA X es (rdA X.K W ms)) : PE X (.Tuple es x1 pos) (rdE X.K W (mTup ms)) :=
  peI (pe_tup h) fun σ H Q q => rd_new (mk := .tup) (mo := .tup) (fun _ _ _ _ _ a b => .tup (.inl a) b) q
theorem j_lst {es : List Expr} {pos : Pos} {ms : MM (List D)} (h : PA X es (rdA X.K W ms)) : PE X (.List es pos) (rdE X.K W (mLst ms)) :=
  peI (pe_lst h) fun σ H Q q => rd_new (mk := .lst) (mo := .lst) (fun _ _ _ _ _ a b => .lst a b) q

/-! ### one operand -/
def mUn (g : D → MM D) (m : MM D) : MM D := mBind m g
def Real1 {β : Type} (K : PySem.W.Frag) (W : WX) (rl : Rl β β) (r : V → Hp → (β → Hp → Prop) → Prop) (g : D → MM β) : Prop := ∀ S F H σ ρ x v a Q, S.K = K → Rel S F H σ ρ x → Rep S.K S.b F v a → Post rl S W σ F H ρ (g a ρ x) Q → r v H Q
theorem rd_un {α γ : Type} {K : PySem.W.Frag} {rl : Rl α γ} {r : V → Hp → (γ → Hp → Prop) → Prop} {g : D → MM α} {m : MM D} (hr : ∀ S F H σ ρ x v a Q, S.K = K → Rel S F H σ ρ x → Rep S.K S.b F v a → Post rl S W σ F H ρ (g a ρ x) Q → r v H Q) {σ : L2.St} {H : Hp} {Q : γ → Hp → Prop} (h : rd rl K W (mBind m g) σ H Q) :
    rdE K W m σ H fun x H1 => r x H1 Q := by
  obtain ⟨S, F, ρ, x, eK, rr, p⟩ := rd_bind (rl := rlD) h
  refine ⟨S, F, ρ, x, eK, rr, ?_⟩
  cases e : m ρ x with
  | val a x1 =>
    rw [e] at p
    intro v F' H' r1 s1 k1 h1
    obtain ⟨S2, F2, ρ2, x2, a2, eK2, rr2, h2, p2⟩ := p v F' H' r1 s1 k1 h1
    exact hr S2 F2 H' σ ρ2 x2 v a2 Q eK2 rr2 h2 p2
  | exc c fs x1 =>
    rw [e] at p
    exact p
  | out =>
    rw [e] at p
    exact p
/-- .. over a list of values -/
theorem rd_unL {α γ : Type} {K : PySem.W.Frag} {rl : Rl α γ} {r : List V → Hp → (γ → Hp → Prop) → Prop} {g : List D → MM α} {m : MM (List D)} (hr : ∀ S F H σ ρ x v a Q, S.K = K → Rel S F H σ ρ x → RepL S.K S.b F v a → Post rl S W σ F H ρ (g a ρ x) Q → r v H Q) {σ : L2.St} {H : Hp} {Q : γ → Hp → Prop} (h : rd rl K W (mBind m g) σ H Q) :
    rdA K W m σ H fun x H1 => r x H1 Q := by
  obtain ⟨S, F, ρ, x, eK, rr, p⟩ := rd_bind (rl := rlL) h
  refine ⟨S, F, ρ, x, eK, rr, ?_⟩
  cases e : m ρ x with
  | val a x1 =>
    rw [e] at p
    intro v F' H' r1 s1 k1 h1
    obtain ⟨S2, F2, ρ2, x2, a2, eK2, rr2, h2, p2⟩ := p v F' H' r1 s1 k1 h1
    exact hr S2 F2 H' σ ρ2 x2 v a2 Q eK2 rr2 h2 p2
  | exc c fs x1 =>
    rw [e] at p
    exact p
  | out =>
    rw [e] at p
    exact p
/-- -a -/
def gNeg : D → Option D
  | .int i => some (.int (-i))
  | _ => none
theorem j_neg {m : MM D} {a : Expr} {pos : Pos} (ha : PE X a (rdE X.K W m)) : PE X (.UnaryOp .USub a pos) (rdE X.K W (mBind m fun d => o1 (gNeg d))) :=
  peI (pe_un un_neg ha) fun σ H Q h => rd_un (rl := rlD) (r := rU fun i => V.int (-i)) (fun S F H σ ρ x v a Q eK r hr p => by
    cases hr <;> try exact p.elim
    exact ⟨_, rfl, post_val (rl := rlD) r p (.int _)⟩) h

/-! ### tests -/
def gTru : D → Option Bool
  | .non => some false
  | .bl b => some b
  | .int i => some (i != 0)
  | .str s => if s.length ≤ big then some ((s.length : Int) != 0) else none
  | .lst ds => some (!ds.isEmpty)
  | .tup ds => some (!ds.isEmpty)
  | .dcb ds => some (!ds.isEmpty)
  | _ => none
def oB {α : Type} (o : Option α) : MM α := fun _ x => match o with
  | some b => .val b x
  | none => .out
def mTru (m : MM D) : MM Bool := mBind m fun d => oB (gTru d)
theorem RepL.emp {K : PySem.W.Frag} {b : Option Addr} {F : Hp} {vs : List V} {ds : List D} (r : RepL K b F vs ds) : ds.isEmpty = vs.isEmpty := by
  cases r <;> rfl
theorem RepK.emp {K : PySem.W.Frag} {b : Option Addr} {F : Hp} {vs : List (Key × V)} {ds : List (Key × D)} (r : RepK K b F vs ds) : ds.isEmpty = vs.isEmpty := by
  cases r <;> rfl
theorem rd_tru {K : PySem.W.Frag} {m : MM D} {σ : L2.St} {H : Hp} {Q : Bool → Hp → Prop} (h : rdT K W (mTru m) σ H Q) : rdE K W m σ H fun x H' => ∃ k, TruV K x H' k ∧ Q k H' :=
  rd_un (rl := rlB) (r := fun x H' Q => ∃ k, TruV K x H' k ∧ Q k H') (fun S F H σ ρ x v a Q eK r hr p => by
    cases hr with
    | non => exact ⟨false, rfl, post_val (rl := rlB) r p rfl⟩
    | bl c => exact ⟨c, rfl, post_val (rl := rlB) r p rfl⟩
    | int i => exact ⟨_, rfl, post_val (rl := rlB) r p rfl⟩
    | str s =>
      replace p : Post rlB S W σ F H ρ (oB (if s.length ≤ big then some ((s.length : Int) != 0) else none) ρ x) Q := p
      split at p
      · rename_i hz
        exact ⟨_, ⟨big_le hz, rfl⟩, post_val (rl := rlB) r p rfl⟩
      · exact p.elim
    | @lst a vs ds h r1 => exact ⟨!ds.isEmpty, .inl ⟨vs, sqL (r.core.sub _ _ h), by rw [r1.emp]⟩, post_val (rl := rlB) r p rfl⟩
    | @tup a vs ds h r1 => exact ⟨!ds.isEmpty, .inr (.inl ⟨vs, sqTK eK r.core.sub h, by rw [r1.emp]⟩), post_val (rl := rlB) r p rfl⟩
    | @dcb a vs ds h r1 => exact ⟨!ds.isEmpty, .inr (.inr ⟨vs, r.core.sub _ _ h, by rw [r1.emp]⟩), post_val (rl := rlB) r p rfl⟩
    | dct _ _ => exact p.elim
    | obj _ _ _ => exact p.elim
    | err0 _ _ => exact p.elim
    | err _ _ _ _ => exact p.elim
    | fn => exact p.elim
    | box _ => exact p.elim
    | scr _ => exact p.elim
    | xt _ _ => exact p.elim) h
theorem j_test {m : MM D} {e : Expr} (h : PE X e (rdE X.K W m)) (he : ∀ whole, isTrue e X.env whole = (do let v ← whole; standAt e.pos; holding [v] (truthy v)) := by intro _; rfl) : PT X e (rdT X.K W (mTru m)) :=
  ptI (pt_truth h he) fun σ H Q q => rd_tru q
def mTAnd (m n : MM Bool) : MM Bool := mBind m fun c => if c then n else fun _ x => .val false x
def mTOr (m n : MM Bool) : MM Bool := mBind m fun c => if c then fun _ x => .val true x else n
def mTNot (m : MM Bool) : MM Bool := mBind m fun c => fun _ x => .val (!c) x
theorem rd_bindB {γ δ : Type} {rl' : Rl γ δ} {K : PySem.W.Frag} {m : MM Bool} {k : Bool → MM γ} {σ : L2.St} {H : Hp} {Q : δ → Hp → Prop} (h : rd rl' K W (mBind m k) σ H Q) : rdT K W m σ H fun b H1 => rd rl' K W (k b) σ H1 Q := by
  obtain ⟨S, F, ρ, x, eK, rr, p⟩ := rd_bind (rl := rlB) h
  refine ⟨S, F, ρ, x, eK, rr, ?_⟩
  cases e : m ρ x with
  | val a x1 =>
    rw [e] at p
    intro v F' H' r1 s1 k1 h1
    obtain ⟨S2, F2, ρ2, x2, a2, eK2, rr2, h2, p2⟩ := p v F' H' r1 s1 k1 h1
    have e3 : v = a2 := h2
    subst e3
    exact ⟨S2, F2, ρ2, x2, eK2, rr2, p2⟩
  | exc c fs x1 =>
    rw [e] at p
    exact p
  | out =>
    rw [e] at p
    exact p
theorem rd_monoQ {α β : Type} {rl : Rl α β} {K : PySem.W.Frag} {m : MM α} {σ : L2.St} {H : Hp} {Q Q' : β → Hp → Prop} (h : rd rl K W m σ H Q) (k : ∀ v H', Q v H' → Q' v H') : rd rl K W m σ H Q' := by
  obtain ⟨S, F, ρ, x, eK, rr, p⟩ := h
  refine ⟨S, F, ρ, x, eK, rr, ?_⟩
  cases e : m ρ x with
  | val a x1 =>
    rw [e] at p
    exact fun v F' H' a1 a2 a3 a4 => k _ _ (p v F' H' a1 a2 a3 a4)
  | exc c fs x1 =>
    rw [e] at p
    exact p
  | out =>
    rw [e] at p
    exact p
theorem rd_valB {α : Type} {K : PySem.W.Frag} {a : α} {σ : L2.St} {H : Hp} {Q : α → Hp → Prop} (h : rd rlB K W (fun _ x => .val a x) σ H Q) : Q a H := by
  obtain ⟨S, F, ρ, x, eK, rr, p⟩ := h
  exact post_val (rl := rlB) rr p rfl
theorem j_wand1 {a : Expr} {pos : Pos} {m : MM Bool} (h : PT X a (rdT X.K W m)) : PW X (.BoolOp .And [a] pos) (rdT X.K W m) := pw_and1 h
theorem j_wor1 {a : Expr} {pos : Pos} {m : MM Bool} (h : PT X a (rdT X.K W m)) : PW X (.BoolOp .Or [a] pos) (rdT X.K W m) := pw_or1 h
theorem j_wand {a b : Expr} {rest : List Expr} {pos : Pos} {m n : MM Bool} (ha : PT X a (rdT X.K W m)) (hb : PW X (.BoolOp .And (b :: rest) pos) (rdT X.K W n)) : PW X (.BoolOp .And (a :: b :: rest) pos) (rdT X.K W (mTAnd m n)) :=
  pwI (pw_and ha hb) fun σ H Q q => rd_monoQ (rd_bindB q) fun c H1 q1 => by
    cases c with
    | true => exact q1
    | false => exact rd_valB q1
theorem j_wor {a b : Expr} {rest : List Expr} {pos : Pos} {m n : MM Bool} (ha : PT X a (rdT X.K W m)) (hb : PW X (.BoolOp .Or (b :: rest) pos) (rdT X.K W n)) : PW X (.BoolOp .Or (a :: b :: rest) pos) (rdT X.K W (mTOr m n)) :=
  pwI (pw_or ha hb) fun σ H Q q => rd_monoQ (rd_bindB q) fun c H1 q1 => by
    cases c with
    | true => exact rd_valB q1
    | false => exact q1
theorem j_tnot {a : Expr} {pos : Pos} {m : MM Bool} (ha : PT X a (rdT X.K W m)) : PT X (.UnaryOp .Not a pos) (rdT X.K W (mTNot m)) :=
  ptI (pt_not ha) fun σ H Q q => rd_monoQ (rd_bindB q) fun c H1 q1 => rd_valB q1
/-- a if t else b -/
def mIf {α : Type} (t : MM Bool) (m n : MM α) : MM α := mBind t fun c => if c then m else n
theorem j_ifExp {c a b : Expr} {pos : Pos} {t : MM Bool} {m n : MM D} (hc : PT X c (rdT X.K W t)) (ha : PE X a (rdE X.K W m)) (hb : PE X b (rdE X.K W n)) : PE X (.IfExp c a b pos) (rdE X.K W (mIf t m n)) :=
  peI (pe_ifExp hc ha hb) fun σ H Q q => rd_monoQ (rd_bindB q) fun c H1 q1 => by
    cases c <;> exact q1
/-- and, or, not as values; all but the last are True or False -/
def asB (m : MM D) : MM Bool := mBind m fun d => match d with
  | .bl b => fun _ x => .val b x
  | _ => fun _ _ => .out
def mAndV (m n : MM D) : MM D := mBind (asB m) fun c => if c then n else fun _ x => .val (.bl false) x
def mOrV (m n : MM D) : MM D := mBind (asB m) fun c => if c then fun _ x => .val (.bl true) x else n
def mNotV (m : MM D) : MM D := mBind (asB m) fun c => fun _ x => .val (.bl (!c)) x
theorem rd_asB {K : PySem.W.Frag} {m : MM D} {σ : L2.St} {H : Hp} {Q : Bool → Hp → Prop} (h : rdT K W (asB m) σ H Q) : rdE K W m σ H fun x H' => ∃ c, x = .bl c ∧ Q c H' :=
  rd_un (rl := rlB) (r := fun x H' Q => ∃ c, x = .bl c ∧ Q c H') (fun S F H σ ρ x v a Q eK r hr p => by
    cases hr <;> try exact p.elim
    exact ⟨_, rfl, post_val (rl := rlB) r p rfl⟩) h
theorem rd_valD {K : PySem.W.Frag} {v : V} {d : D} {σ : L2.St} {H : Hp} {Q : V → Hp → Prop} (s : Sca v d) (h : rdE K W (fun _ x => .val d x) σ H Q) : Q v H := by
  obtain ⟨S, F, ρ, x, eK, rr, p⟩ := h
  exact post_val (rl := rlD) rr p s.rep
theorem j_one {op : BoolOp} {a : Expr} {pos : Pos} {m : MM D} (h : PE X a (rdE X.K W m)) : PE X (.BoolOp op [a] pos) (rdE X.K W m) := pe_one h
theorem j_and {a b : Expr} {rest : List Expr} {pos : Pos} {m n : MM D} (ha : PE X a (rdE X.K W m)) (hb : PE X (.BoolOp .And (b :: rest) pos) (rdE X.K W n)) : PE X (.BoolOp .And (a :: b :: rest) pos) (rdE X.K W (mAndV m n)) :=
  peI (pe_and ha hb) fun σ H Q q => rd_monoQ (rd_asB (rd_bindB q)) fun v H1 q1 => by
    obtain ⟨c, e, q1⟩ := q1
    refine ⟨c, e, ?_⟩
    cases c with
    | true => exact q1
    | false => exact rd_valD (.bl _) q1
theorem j_or {a b : Expr} {rest : List Expr} {pos : Pos} {m n : MM D} (ha : PE X a (rdE X.K W m)) (hb : PE X (.BoolOp .Or (b :: rest) pos) (rdE X.K W n)) : PE X (.BoolOp .Or (a :: b :: rest) pos) (rdE X.K W (mOrV m n)) :=
  peI (pe_or ha hb) fun σ H Q q => rd_monoQ (rd_asB (rd_bindB q)) fun v H1 q1 => by
    obtain ⟨c, e, q1⟩ := q1
    refine ⟨c, e, ?_⟩
    cases c with
    | true => exact rd_valD (.bl _) q1
    | false => exact q1
theorem j_notV {a : Expr} {pos : Pos} {m : MM D} (ha : PE X a (rdE X.K W m)) : PE X (.UnaryOp .Not a pos) (rdE X.K W (mNotV m)) :=
  peI (pe_not ha) fun σ H Q q => rd_monoQ (rd_asB (rd_bindB q)) fun v H1 q1 => by
    obtain ⟨c, e, q1⟩ := q1
    exact ⟨c, e, rd_valD (.bl _) q1⟩
end
end Mi

/-! Mi3: built-in functions and methods, subscripts, slices, f-strings. -/
namespace Mi
open PySem PySem.Spec L2
section
variable {X : Cx} {W : WX}

/-! ### built-in functions -/
def RealA (K : PySem.W.Frag) (W : WX) (r : List V → Hp → VK → Prop) (g : List D → MM D) : Prop := ∀ S F H σ ρ x vs ds Q, S.K = K → Rel S F H σ ρ x → RepL S.K S.b F vs ds → Post rlD S W σ F H ρ (g ds ρ x) Q → r vs H Q
def mCall (g : List D → Option D) (ms : MM (List D)) : MM D := mBind ms fun ds => o1 (g ds)
theorem RealA.or {K : PySem.W.Frag} {r r' : List V → Hp → VK → Prop} {g g' : List D → Option D} (h : RealA K W r fun ds => o1 (g ds)) (h' : RealA K W r' fun ds => o1 (g' ds)) : RealA K W (fun x H Q => r x H Q ∨ r' x H Q) fun ds => o1 ((g ds).or (g' ds)) := by
  intro S F H σ ρ x vs ds Q eK r hv p
  replace p : Post rlD S W σ F H ρ (o1 ((g ds).or (g' ds)) ρ x) Q := p
  cases e : g ds with
  | none =>
    refine .inr (h' S F H σ ρ x vs ds Q eK r hv ?_)
    rw [e] at p
    exact p
  | some d =>
    refine .inl (h S F H σ ρ x vs ds Q eK r hv ?_)
    rw [e] at p
    show Post rlD S W σ F H ρ (o1 (g ds) ρ x) Q
    rw [e]
    exact p
theorem j_callB {id : String} {r : List V → Hp → VK → Prop} {g : List D → Option D} {y : Str} {p pos : Pos} {e : Expr} {es : List Expr} {ms : MM (List D)} (hc : CallR X (.builtin id) r) (hr : RealA X.K W r fun ds => o1 (g ds)) (hg : Gl X y) (hm : X.mg y = none) (hv : bootBuiltins y = some (.builtin id)) (ha : PA X (e :: es) (rdA X.K W ms)) (hn : y ≠ "__name__" := by decide) (hdb : (y == ("__debug__" : Str)) = false := by decide)
    (he : starEach (e :: es) X.env = (false, eval e X.env) :: starEach es X.env := by rfl) (hpl : (backTo pos (starEach es X.env)).any (·.1) = false := by rfl) : PE X (.Call (.Name y p) (e :: es) [] pos) (rdE X.K W (mCall g ms)) :=
  peI (pe_callB hc hg hm hv ha hn hdb he hpl) fun σ H Q q => rd_unL (rl := rlD) (r := r) hr q
theorem j_callTy {T : String} {r : List V → Hp → VK → Prop} {g : List D → Option D} {y : Str} {p pos : Pos} {e : Expr} {es : List Expr} {ms : MM (List D)} (hc : CallR X (.type T) r) (hr : RealA X.K W r fun ds => o1 (g ds)) (hg : Gl X y) (hm : X.mg y = none) (hv : bootBuiltins y = some (.type T)) (ha : PA X (e :: es) (rdA X.K W ms)) (hn : y ≠ "__name__" := by decide) (hdb : (y == ("__debug__" : Str)) = false := by decide)
    (he : starEach (e :: es) X.env = (false, eval e X.env) :: starEach es X.env := by rfl) (hpl : (backTo pos (starEach es X.env)).any (·.1) = false := by rfl) : PE X (.Call (.Name y p) (e :: es) [] pos) (rdE X.K W (mCall g ms)) :=
  peI (pe_callTy hc hg hm hv ha hn hdb he hpl) fun σ H Q q => rd_unL (rl := rlD) (r := r) hr q
theorem rep1 {K : PySem.W.Frag} {b : Option Addr} {F : Hp} {vs : List V} {d : D} (h : RepL K b F vs [d]) : ∃ v, vs = [v] ∧ Rep K b F v d := by
  cases h with
  | cons a t =>
    cases t
    exact ⟨_, rfl, a⟩
theorem rep2 {K : PySem.W.Frag} {b : Option Addr} {F : Hp} {vs : List V} {d e : D} (h : RepL K b F vs [d, e]) : ∃ v u, vs = [v, u] ∧ Rep K b F v d ∧ Rep K b F u e := by
  cases h with
  | cons a t =>
    obtain ⟨u, e, h⟩ := rep1 t
    subst e
    exact ⟨_, _, rfl, a, h⟩
def gLen : List D → Option D
  | [.str s] => if s.length ≤ big then some (.int s.length) else none
  | [.lst ds] => some (.int ds.length)
  | [.tup ds] => some (.int ds.length)
  | [.dcb ds] => some (.int ds.length)
  | _ => none
theorem RepK.length {K : PySem.W.Frag} {b : Option Addr} {F : Hp} : ∀ {vs : List (Key × V)} {ds : List (Key × D)}, RepK K b F vs ds → vs.length = ds.length
  | _, _, .nil => rfl
  | _, _, .cons _ r => by rw [List.length_cons, List.length_cons, RepK.length r]
theorem real_len {K : PySem.W.Frag} : RealA K W (fun xs H Q => (∃ x n, xs = [x] ∧ LenV K x H n ∧ Q (.int (n : Nat)) H) ∨ ∃ a kvs, xs = [V.ref a] ∧ H a = some (.dK kvs) ∧ Q (.int kvs.length) H) fun ds => o1 (gLen ds) := by
  intro S F H σ ρ x vs ds Q eK r hv p
  unfold gLen at p
  dsimp only at p
  split at p
  · obtain ⟨v, e, h⟩ := rep1 hv
    subst e
    cases h
    split at p
    · rename_i hz
      exact .inl ⟨_, _, rfl, ⟨big_le hz, rfl⟩, post_val (rl := rlD) r p (.int _)⟩
    · exact p.elim
  · obtain ⟨v, e, h⟩ := rep1 hv
    subst e
    cases h with
    | lst h r1 => exact .inl ⟨_, _, rfl, .inl ⟨_, sqL (r.core.sub _ _ h), r1.length.symm⟩, post_val (rl := rlD) r p (.int _)⟩
  · obtain ⟨v, e, h⟩ := rep1 hv
    subst e
    cases h with
    | tup h r1 => exact .inl ⟨_, _, rfl, .inr ⟨_, sqTK eK r.core.sub h, r1.length.symm⟩, post_val (rl := rlD) r p (.int _)⟩
  · obtain ⟨v, e, h⟩ := rep1 hv
    subst e
    cases h with
    | dcb h r1 => exact .inr ⟨_, _, rfl, r.core.sub _ _ h, by rw [r1.length]; exact post_val (rl := rlD) r p (.int _)⟩
  · exact p.elim
theorem cr_len : CallR X (.builtin "len") (fun xs H Q => (∃ x n, xs = [x] ∧ LenV X.K x H n ∧ Q (.int (n : Nat)) H) ∨ ∃ a kvs, xs = [V.ref a] ∧ H a = some (.dK kvs) ∧ Q (.int kvs.length) H) := call_len.or call_lenD
def gInt : List D → Option D
  | [.int i] => some (.int i)
  | [.bl b] => some (.int (if b then 1 else 0))
  | [.str s] => match PySem.intText? s with
    | some n => if s.length ≤ 640 then some (.int n) else none
    | none => none
  | _ => none
theorem real_int {K : PySem.W.Frag} : RealA K W (fun xs H Q => ((∃ i, xs = [V.int i] ∧ Q (.int i) H) ∨ ∃ k, xs = [V.bl k] ∧ Q (.int (if k then 1 else 0)) H) ∨ ∃ a n, xs = [V.str a] ∧ PySem.intText? a = some n ∧ a.length ≤ 640 ∧ Q (.int n) H) fun ds => o1 (gInt ds) := by
  intro S F H σ ρ x vs ds Q eK r hv p
  unfold gInt at p
  dsimp only at p
  split at p
  · obtain ⟨v, e, h⟩ := rep1 hv
    subst e
    cases h
    exact .inl (.inl ⟨_, rfl, post_val (rl := rlD) r p (.int _)⟩)
  · obtain ⟨v, e, h⟩ := rep1 hv
    subst e
    cases h
    exact .inl (.inr ⟨_, rfl, post_val (rl := rlD) r p (.int _)⟩)
  · obtain ⟨v, e, h⟩ := rep1 hv
    subst e
    cases h
    split at p
    · rename_i n hn
      split at p
      · rename_i hz
        exact .inr ⟨_, _, rfl, hn, hz, post_val (rl := rlD) r p (.int _)⟩
      · exact p.elim
    · exact p.elim
  · exact p.elim
theorem cr_int : CallR X (.type "int") (fun xs H Q => ((∃ i, xs = [V.int i] ∧ Q (.int i) H) ∨ ∃ k, xs = [V.bl k] ∧ Q (.int (if k then 1 else 0)) H) ∨ ∃ a n, xs = [V.str a] ∧ PySem.intText? a = some n ∧ a.length ≤ 640 ∧ Q (.int n) H) := call_int1.or call_int_str
def gStr : List D → Option D
  | [.int i] => if lg i < 1920 then some (.str (Str.ofString (toString i))) else none
  | _ => none
theorem real_str {K : PySem.W.Frag} : RealA K W (fun xs H Q => ∃ i, xs = [V.int i] ∧ i.natAbs.log2 < 1920 ∧ Q (.str (toString i)) H) fun ds => o1 (gStr ds) := by
  intro S F H σ ρ x vs ds Q eK r hv p
  unfold gStr at p
  dsimp only at p
  split at p
  · obtain ⟨v, e, h⟩ := rep1 hv
    subst e
    cases h
    split at p
    · rename_i hz
      exact ⟨_, rfl, hz, post_val (rl := rlD) r p (.str _)⟩
    · exact p.elim
  · exact p.elim
def gAbs : List D → Option D
  | [.int i] => some (.int (if i < 0 then -i else i))
  | _ => none
theorem real_abs {K : PySem.W.Frag} : RealA K W (fun xs H Q => ∃ i, xs = [V.int i] ∧ Q (.int (if i < 0 then -i else i)) H) fun ds => o1 (gAbs ds) := by
  intro S F H σ ρ x vs ds Q eK r hv p
  unfold gAbs at p
  dsimp only at p
  split at p
  · obtain ⟨v, e, h⟩ := rep1 hv
    subst e
    cases h
    exact ⟨_, rfl, post_val (rl := rlD) r p (.int _)⟩
  · exact p.elim
def gMin2 : List D → Option D
  | [.int i, .int j] => some (.int (if j < i then j else i))
  | _ => none
def gMax2 : List D → Option D
  | [.int i, .int j] => some (.int (if j > i then j else i))
  | _ => none
theorem real_min2 {K : PySem.W.Frag} : RealA K W (fun xs H Q => ∃ i j, xs = [V.int i, .int j] ∧ Q (.int (if j < i then j else i)) H) fun ds => o1 (gMin2 ds) := by
  intro S F H σ ρ x vs ds Q eK r hv p
  unfold gMin2 at p
  dsimp only at p
  split at p
  · obtain ⟨v, u, e, h, h2⟩ := rep2 hv
    subst e
    cases h
    cases h2
    exact ⟨_, _, rfl, post_val (rl := rlD) r p (.int _)⟩
  · exact p.elim
theorem real_max2 {K : PySem.W.Frag} : RealA K W (fun xs H Q => ∃ i j, xs = [V.int i, .int j] ∧ Q (.int (if j > i then j else i)) H) fun ds => o1 (gMax2 ds) := by
  intro S F H σ ρ x vs ds Q eK r hv p
  unfold gMax2 at p
  dsimp only at p
  split at p
  · obtain ⟨v, u, e, h, h2⟩ := rep2 hv
    subst e
    cases h
    cases h2
    exact ⟨_, _, rfl, post_val (rl := rlD) r p (.int _)⟩
  · exact p.elim
def gGcd : List D → Option D
  | [.int i, .int j] => some (.int (Nat.gcd i.natAbs j.natAbs : Nat))
  | _ => none
theorem j_gcd {g : Str} {p pos : Pos} {e : Expr} {es : List Expr} {ms : MM (List D)} (hg : Gl X g) (hm : X.mg g = some (.builtin "math.gcd")) (ha : PA X (e :: es) (rdA X.K W ms)) (hdb : (g == ("__debug__" : Str)) = false := by decide)
    (he : starEach (e :: es) X.env = (false, eval e X.env) :: starEach es X.env := by rfl) (hpl : (backTo pos (starEach es X.env)).any (·.1) = false := by rfl) : PE X (.Call (.Name g p) (e :: es) [] pos) (rdE X.K W (mCall gGcd ms)) :=
  peI (pe_callBfun cr_gcd hg hm ha hdb he hpl) fun σ H Q q => rd_unL (rl := rlD) (r := rGcd) (fun S F H σ ρ x vs ds Q eK r hv p => by
    unfold gGcd at p
    split at p
    · obtain ⟨v, u, e, h, h2⟩ := rep2 hv
      subst e
      cases h
      cases h2
      exact ⟨_, _, rfl, post_val (rl := rlD) r p (.int _)⟩
    · exact p.elim) q
def asBs : List D → Option (List Bool)
  | [] => some []
  | .bl b :: ds => (asBs ds).map (b :: ·)
  | _ => none
theorem RepL.bls {K : PySem.W.Frag} {b : Option Addr} {F : Hp} : ∀ {vs : List V} {ds : List D} {bs : List Bool}, RepL K b F vs ds → asBs ds = some bs → vs = bs.map V.bl
  | _, _, _, .nil, e => by
    cases e
    rfl
  | _, _, bs, .cons (ds := ds) h r, e => by
    cases h <;> try (cases e)
    rename_i c
    replace e : (asBs ds).map (c :: ·) = some bs := e
    cases q : asBs ds with
    | none =>
      rw [q] at e
      cases e
    | some bs2 =>
      rw [q] at e
      cases e
      rw [RepL.bls r q]
      rfl
def gAll : List D → Option D
  | [.lst ds] => (asBs ds).map fun bs => .bl (bs.all id)
  | _ => none
def gAny : List D → Option D
  | [.lst ds] => (asBs ds).map fun bs => .bl (bs.any id)
  | _ => none
theorem real_all {K : PySem.W.Frag} : RealA K W (rAll K) fun ds => o1 (gAll ds) := by
  intro S F H σ ρ x vs ds Q eK r hv p
  unfold gAll at p
  dsimp only at p
  split at p
  · rename_i ds
    obtain ⟨v, e, h⟩ := rep1 hv
    subst e
    cases h with
    | lst h r1 =>
      cases q : asBs ds with
      | none =>
        rw [q] at p
        exact p.elim
      | some bs =>
        rw [q] at p
        have e2 := r1.bls q
        subst e2
        exact ⟨_, bs, rfl, sqL (r.core.sub _ _ h), post_val (rl := rlD) r p (.bl _)⟩
  · exact p.elim
theorem real_any {K : PySem.W.Frag} : RealA K W (rAny K) fun ds => o1 (gAny ds) := by
  intro S F H σ ρ x vs ds Q eK r hv p
  unfold gAny at p
  dsimp only at p
  split at p
  · rename_i ds
    obtain ⟨v, e, h⟩ := rep1 hv
    subst e
    cases h with
    | lst h r1 =>
      cases q : asBs ds with
      | none =>
        rw [q] at p
        exact p.elim
      | some bs =>
        rw [q] at p
        have e2 := r1.bls q
        subst e2
        exact ⟨_, bs, rfl, sqL (r.core.sub _ _ h), post_val (rl := rlD) r p (.bl _)⟩
  · exact p.elim
def gList : List D → Option D
  | [.lst ds] => some (.lst ds)
  | [.tup ds] => some (.lst ds)
  | _ => none
theorem real_list {K : PySem.W.Frag} : RealA K W (fun xs H Q => ∃ p ys, xs = [V.ref p] ∧ (SqL K H p ys ∨ SqT K H p ys) ∧ ∀ l, H l = none → Q (.ref l) (upd H l (.lst ys))) fun ds => o1 (gList ds) := by
  intro S F H σ ρ x vs ds Q eK r hv p
  unfold gList at p
  dsimp only at p
  split at p
  · obtain ⟨v, e, h⟩ := rep1 hv
    subst e
    cases h with
    | lst h r1 => exact ⟨_, _, rfl, .inl (sqL (r.core.sub _ _ h)), fun l n => post_new (α := D) r p n (.lst upd_same (r1.mono (Same.new (r.core.nF n))))⟩
  · obtain ⟨v, e, h⟩ := rep1 hv
    subst e
    cases h with
    | tup h r1 => exact ⟨_, _, rfl, .inr (sqTK eK r.core.sub h), fun l n => post_new (α := D) r p n (.lst upd_same (r1.mono (Same.new (r.core.nF n))))⟩
  · exact p.elim
def gTuple : List D → Option D
  | [.lst ds] => some (.tup ds)
  | [.tup ds] => some (.tup ds)
  | _ => none
theorem real_tuple {K : PySem.W.Frag} : RealA K W (fun xs H Q => ∃ p ys, xs = [V.ref p] ∧ ((SqL K H p ys ∧ ∀ l, H l = none → Q (.ref l) (upd H l (.tup ys))) ∨ (SqT K H p ys ∧ Q (.ref p) H))) fun ds => o1 (gTuple ds) := by
  intro S F H σ ρ x vs ds Q eK r hv p
  unfold gTuple at p
  dsimp only at p
  split at p
  · obtain ⟨v, e, h⟩ := rep1 hv
    subst e
    cases h with
    | lst h r1 => exact ⟨_, _, rfl, .inl ⟨sqL (r.core.sub _ _ h), fun l n => post_new (α := D) r p n (.tup (.inl upd_same) (r1.mono (Same.new (r.core.nF n))))⟩⟩
  · obtain ⟨v, e, h⟩ := rep1 hv
    subst e
    cases h with
    | tup h r1 => exact ⟨_, _, rfl, .inr ⟨sqTK eK r.core.sub h, post_val (rl := rlD) r p (.tup h r1)⟩⟩
  · exact p.elim

/-! ### sorted of texts -/
def leS (a b : Str) : Bool := !ltCps b.cps.toList a.cps.toList
def insS (a : Str) : List Str → List Str
  | [] => [a]
  | b :: r => if leS a b then a :: b :: r else b :: insS a r
def srtS : List Str → List Str
  | [] => []
  | a :: r => insS a (srtS r)
def asSs : List D → Option (List Str)
  | [] => some []
  | .str s :: ds => (asSs ds).map (s :: ·)
  | _ => none
theorem RepL.strs {K : PySem.W.Frag} {b : Option Addr} {F : Hp} : ∀ {vs : List V} {ds : List D} {bs : List Str}, RepL K b F vs ds → asSs ds = some bs → vs = bs.map V.str
  | _, _, _, .nil, e => by
    cases e
    rfl
  | _, _, bs, .cons (ds := ds) h r, e => by
    cases h <;> try (cases e)
    rename_i c
    replace e : (asSs ds).map (c :: ·) = some bs := e
    cases q : asSs ds with
    | none =>
      rw [q] at e
      cases e
    | some bs2 =>
      rw [q] at e
      cases e
      rw [RepL.strs r q]
      rfl
theorem repL_strs {K : PySem.W.Frag} {b : Option Addr} {F : Hp} : ∀ (l : List Str), RepL K b F (l.map V.str) (l.map D.str)
  | [] => .nil
  | s :: l => .cons (.str s) (repL_strs l)
end
end Mi

/-! Mi4: sorted texts, methods of texts, subscripts, slices, f-strings. -/
namespace Mi
open PySem PySem.Spec L2
theorem leS_iff {a b : Str} : leS a b = true ↔ a.cps.toList ≤ b.cps.toList := by
  unfold leS
  rw [PyProof.Rows.ltCps_eq]
  rw [Bool.not_eq_true', decide_eq_false_iff_not]
  exact List.not_lt
theorem insS_perm (a : Str) : ∀ l, (insS a l).Perm (a :: l)
  | [] => .refl _
  | b :: r => by
    unfold insS
    split
    · exact .refl _
    · exact ((insS_perm a r).cons b).trans (.swap a b r)
theorem srtS_perm : ∀ l, (srtS l).Perm l
  | [] => .refl _
  | a :: r => (insS_perm a (srtS r)).trans ((srtS_perm r).cons a)
theorem insS_pw (a : Str) : ∀ l, l.Pairwise (fun a b => leS a b = true) → (insS a l).Pairwise (fun a b => leS a b = true)
  | [], _ => by
    unfold insS
    exact List.pairwise_singleton _ _
  | b :: r, h => by
    obtain ⟨h1, h2⟩ :=
      List.pairwise_cons.mp h
    unfold insS
    split
    · rename_i c
      refine List.pairwise_cons.mpr ⟨fun y hy => ?_, h⟩
      rcases List.mem_cons.mp hy with
        e | hy
      · rw [e]
        exact c
      · exact leS_iff.mpr (List.le_trans (leS_iff.mp c) (leS_iff.mp (h1 y hy)))
    · rename_i c
      refine List.pairwise_cons.mpr ⟨fun y hy => ?_, insS_pw a r h2⟩
      have hy2 := (insS_perm a r).mem_iff.mp hy
      rcases List.mem_cons.mp hy2 with e | hy2
      · rw [e]
        rcases List.le_total a.cps.toList b.cps.toList with q | q
        · exact (c (leS_iff.mpr q)).elim
        · exact leS_iff.mpr q
      · exact h1 y hy2
theorem srtS_pw : ∀ l, (srtS l).Pairwise (fun a b => leS a b = true)
  | [] => .nil
  | a :: r => insS_pw a _ (srtS_pw r)
theorem rising_pw : ∀ (p : Str) (l : List Str), PyProof.Rows.risingS p l = true → (p :: l).Pairwise (fun a b => leS a b = true)
  | p, [], _ => List.pairwise_singleton _ _
  | p, x :: r, h => by
    unfold PyProof.Rows.risingS at h
    obtain ⟨h1, h2⟩ := Bool.and_eq_true_iff.mp h
    have ih := rising_pw x r h2
    refine List.pairwise_cons.mpr ⟨fun y hy => ?_, ih⟩
    have q1 : leS p x = true := h1
    rcases List.mem_cons.mp hy with
      e | hy
    · rw [e]
      exact q1
    · exact leS_iff.mpr (List.le_trans (leS_iff.mp q1) (leS_iff.mp ((List.pairwise_cons.mp ih).1 y hy)))
theorem sorted_pw : ∀ (l : List Str), PyProof.Rows.sortedS l = true → l.Pairwise (fun a b => leS a b = true)
  | [], _ => .nil
  | x :: r, h => rising_pw x r h
theorem srt_eq {ys xs : List Str} (p : ys.Perm xs) (s : PyProof.Rows.sortedS ys = true) : ys = srtS xs :=
  List.Perm.eq_of_pairwise (fun a b _ _ h1 h2 => Str.ext' (Array.toList_inj.mp (List.le_antisymm (leS_iff.mp h1) (leS_iff.mp h2)))) (sorted_pw ys s) (srtS_pw xs) (p.trans (srtS_perm xs).symm)
section
variable {X : Cx} {W : WX}
def gSorted : List D → Option D
  | [.lst ds] => match asSs ds with
    | some l => if l.length < 64 then some (.lst ((srtS l).map .str)) else none
    | none => none
  | _ => none
theorem real_sorted {K : PySem.W.Frag} : RealA K W (rSortedS K) fun ds => o1 (gSorted ds) := by
  intro S F H σ ρ x vs ds Q eK r hv p
  unfold gSorted at p
  dsimp only at p
  split at p
  · rename_i ds
    obtain ⟨v, e, h⟩ := rep1 hv
    subst e
    cases h with
    | lst h r1 =>
      split at p
      · rename_i l hl
        split at p
        · rename_i hz
          have e2 := r1.strs hl
          subst e2
          refine ⟨_, l, rfl, sqL (r.core.sub _ _ h), hz, fun ys q pm st n => ?_⟩
          have e3 := srt_eq pm st
          subst e3
          exact post_new (α := D) r p n (.lst upd_same (repL_strs _))
        · exact p.elim
      · exact p.elim
  · exact p.elim

/-! ### methods of texts -/
def isS : D → Option Str
  | .str s => some s
  | _ => none
def mM0 (g : Str → Option D) (m : MM D) : MM D := mBind m fun d => o1 ((isS d).bind g)
/-- s.m() -/
theorem j_m0 {name : Str} {id : String} {C : Str → Prop} {f : Str → V} {g : Str → Option D} {apos cpos : Pos} {o : Expr} {m : MM D} (pa : PlainAttrs "str") (slot : PySem.Slot "str" name id) (hty : typeOf (.builtin id) = pure (.type "method_descriptor"))
    (hm : MtR X id (fun x xs H Q => ∃ a, x = .str a ∧ xs = [] ∧ C a ∧ Q (f a) H)) (hf : ∀ a d, g a = some d → C a ∧ Sca (f a) d) (ho : PE X o (rdE X.K W m))
    (hbase : attributeBase o name X.env (eval o X.env) = eval o X.env := by rfl) (hline : (apos.endLine == cpos.line) = true := by rfl) : PE X (.Call (.Attribute o name apos) [] [] cpos) (rdE X.K W (mM0 g m)) :=
  peI (pe_bm0 pa slot hty hm ho hbase hline) fun σ H Q q => rd_un (rl := rlD) (r := fun x H1 Q => tyV X.K "str" x H1 ∧ ∃ a, x = .str a ∧ ([] : List V) = [] ∧ C a ∧ Q (f a) H1) (fun S F H σ ρ x v a Q eK r hr p => by
    cases hr <;> try exact p.elim
    rename_i s
    replace p : Post rlD S W σ F H ρ (o1 (g s) ρ x) Q := p
    cases e : g s with
    | none =>
      rw [e] at p
      exact p.elim
    | some d =>
      rw [e] at p
      obtain ⟨c, sc⟩ := hf s d e
      exact ⟨rfl, s, rfl, rfl, c, post_val (rl := rlD) r p sc.rep⟩) q
def mM1 (g : Str → List D → Option D) (m : MM D) (ms : MM (List D)) : MM D := mBind m fun d => match isS d with
  | some s => mBind ms fun as => o1 (g s as)
  | none => fun _ _ => .out
/-- s.m(e, ..) -/
theorem rd_unS {α γ : Type} {K : PySem.W.Frag} {rl : Rl α γ} {g : D → MM α} {m : MM D} {σ : L2.St} {r : V → Hp → (γ → Hp → Prop) → Prop} (hr : ∀ S F H ρ x v a Q, S.K = K → Rel S F H σ ρ x → Rep S.K S.b F v a → Post rl S W σ F H ρ (g a ρ x) Q → r v H Q) {H : Hp} {Q : γ → Hp → Prop} (h : rd rl K W (mBind m g) σ H Q) :
    rdE K W m σ H fun x H1 => r x H1 Q := by
  obtain ⟨S, F, ρ, x, eK, rr, p⟩ := rd_bind (rl := rlD) h
  refine ⟨S, F, ρ, x, eK, rr, ?_⟩
  cases e : m ρ x with
  | val a x1 =>
    rw [e] at p
    intro v F' H' r1 s1 k1 h1
    obtain ⟨S2, F2, ρ2, x2, a2, eK2, rr2, h2, p2⟩ := p v F' H' r1 s1 k1 h1
    exact hr S2 F2 H' ρ2 x2 v a2 Q eK2 rr2 h2 p2
  | exc c fs x1 =>
    rw [e] at p
    exact p
  | out =>
    rw [e] at p
    exact p
theorem j_m1 {name : Str} {id : String} {r : V → List V → Hp → VK → Prop} {g : Str → List D → Option D} {apos cpos : Pos} {o e : Expr} {es : List Expr} {m : MM D} {ms : MM (List D)} (pa : PlainAttrs "str") (slot : PySem.Slot "str" name id) (hty : typeOf (.builtin id) = pure (.type "method_descriptor"))
    (hm : MtR X id r) (hr : ∀ s, RealA X.K W (fun us H Q => r (.str s) us H Q) fun as => o1 (g s as)) (ho : PE X o (rdE X.K W m)) (ha : PA X (e :: es) (rdA X.K W ms))
    (hbase : attributeBase o name X.env (eval o X.env) = eval o X.env :=
      by rfl)
    (hfew : ((backTo cpos (starEach (e :: es) X.env)).all (fun x =>
      !x.1) && (backToKw cpos (keywordEach [] X.env)).all (fun x => x.1.isSome)
      && decide ((e :: es).length + ([] : List Keyword).length + (if ([] : List Keyword).isEmpty then 0 else 1) < 30)) = true :=
        by rfl)
    (hline : (apos.endLine == cpos.line) = true := by rfl) (hs : starEach (e :: es) X.env = (false, eval e X.env) :: starEach es X.env := by rfl)
      (hplain : (backTo cpos (starEach es X.env)).any (·.1) = false := by rfl) :
    PE X (.Call (.Attribute o name apos) (e :: es) [] cpos) (rdE X.K W (mM1 g m ms)) :=
  peI (pe_bm pa slot hty hm ho ha hbase hfew hline hs hplain) fun σ H Q q => rd_unS (rl := rlD) (r := fun x H1 Q => tyV X.K "str" x H1 ∧ rdA X.K W ms σ H1 fun xs H2 => r x xs H2 Q) (fun S F H ρ x v a Q eK rr hv p => by
    cases hv <;> try exact p.elim
    rename_i s
    exact ⟨rfl, rd_unL (rl := rlD) (r := fun us H Q => r (.str s) us H Q) (hr s) ⟨S, F, ρ, x, eK, rr, p⟩⟩) q
def gPart (s : Str) : List D → Option D
  | [.str z] => if (z.length == 0) = false ∧ s.length ≤ big then some (.tup [.str (Txt.partition s z).1, .str (Txt.partition s z).2.1, .str (Txt.partition s z).2.2]) else none
  | _ => none
def gSplit (s : Str) : List D → Option D
  | [.str z] => if (z.length == 0) = false ∧ s.length + 2 ≤ big then some (.lst ((Txt.split s z).map .str)) else none
  | _ => none
def gJoin (s : Str) : List D → Option D
  | [.lst ds] => match asSs ds with
    | some l => if (l.map (·.length)).sum + l.length * s.length ≤ big then some (.str (Txt.join s l)) else none
    | none => none
  | [.tup ds] => match asSs ds with
    | some l => if (l.map (·.length)).sum + l.length * s.length ≤ big then some (.str (Txt.join s l)) else none
    | none => none
  | _ => none
def gStarts (s : Str) : List D → Option D
  | [.str z] => some (.bl (Txt.startswith s z))
  | _ => none
theorem repL_str3 {K : PySem.W.Frag} {b : Option Addr} {F : Hp} {x y z : Str} : RepL K b F [.str x, .str y, .str z] [.str x, .str y, .str z] := .cons (.str _) (.cons (.str _) (.cons (.str _) .nil))
theorem j_partition {apos cpos : Pos} {o e : Expr} {m : MM D} {ms : MM (List D)} (ho : PE X o (rdE X.K W m)) (ha : PA X [e] (rdA X.K W ms))
    (hbase : attributeBase o "partition" X.env (eval o X.env) = eval o X.env := by rfl) (hfew : ((backTo cpos (starEach [e] X.env)).all (fun x => !x.1) && (backToKw cpos (keywordEach [] X.env)).all (fun x => x.1.isSome)
      && decide ([e].length + ([] : List Keyword).length + (if ([] : List Keyword).isEmpty then 0 else 1) < 30)) = true := by rfl) (hline : (apos.endLine == cpos.line) = true := by rfl) (hs : starEach [e] X.env = (false, eval e X.env) :: starEach [] X.env := by rfl) (hplain : (backTo cpos (starEach [] X.env)).any (·.1) = false := by rfl) :
    PE X (.Call (.Attribute o "partition" apos) [e] [] cpos) (rdE X.K W (mM1 gPart m ms)) :=
  j_m1 PySem.F.plainAttrs_str PySem.F.slot_str_partition PySem.F.type_str_partition mt_partition (fun s S F H σ ρ x vs ds Q eK r hv p => by
    unfold gPart at p
    dsimp only at p
    split at p
    · obtain ⟨v, e, h⟩ := rep1 hv
      subst e
      cases h
      split at p
      · rename_i hz
        exact ⟨_, _, rfl, rfl, hz.1, big_le hz.2, fun q n => post_new (α := D) r p n (.tup (.inl upd_same) repL_str3)⟩
      · exact p.elim
    · exact p.elim) ho ha hbase hfew hline hs hplain
theorem j_split {apos cpos : Pos} {o e : Expr} {m : MM D} {ms : MM (List D)} (ho : PE X o (rdE X.K W m)) (ha : PA X [e] (rdA X.K W ms))
    (hbase : attributeBase o "split" X.env (eval o X.env) = eval o X.env := by rfl) (hfew : ((backTo cpos (starEach [e] X.env)).all (fun x => !x.1) && (backToKw cpos (keywordEach [] X.env)).all (fun x => x.1.isSome)
      && decide ([e].length + ([] : List Keyword).length + (if ([] : List Keyword).isEmpty then 0 else 1) < 30)) = true := by rfl) (hline : (apos.endLine == cpos.line) = true := by rfl) (hs : starEach [e] X.env = (false, eval e X.env) :: starEach [] X.env := by rfl) (hplain : (backTo cpos (starEach [] X.env)).any (·.1) = false := by rfl) :
    PE X (.Call (.Attribute o "split" apos) [e] [] cpos) (rdE X.K W (mM1 gSplit m ms)) :=
  j_m1 PySem.F.plainAttrs_str PySem.F.slot_str_split PySem.F.type_str_split mt_split (fun s S F H σ ρ x vs ds Q eK r hv p => by
    unfold gSplit at p
    dsimp only at p
    split at p
    · obtain ⟨v, e, h⟩ := rep1 hv
      subst e
      cases h
      split at p
      · rename_i hz
        exact ⟨_, _, rfl, rfl, hz.1, big_le hz.2, fun q n => post_new (α := D) r p n (.lst upd_same (repL_strs _))⟩
      · exact p.elim
    · exact p.elim) ho ha hbase hfew hline hs hplain
theorem j_join {apos cpos : Pos} {o e : Expr} {m : MM D} {ms : MM (List D)} (ho : PE X o (rdE X.K W m)) (ha : PA X [e] (rdA X.K W ms))
    (hbase : attributeBase o "join" X.env (eval o X.env) = eval o X.env := by rfl) (hfew : ((backTo cpos (starEach [e] X.env)).all (fun x => !x.1) && (backToKw cpos (keywordEach [] X.env)).all (fun x => x.1.isSome)
      && decide ([e].length + ([] : List Keyword).length + (if ([] : List Keyword).isEmpty then 0 else 1) < 30)) = true := by rfl) (hline : (apos.endLine == cpos.line) = true := by rfl) (hs : starEach [e] X.env = (false, eval e X.env) :: starEach [] X.env := by rfl) (hplain : (backTo cpos (starEach [] X.env)).any (·.1) = false := by rfl) :
    PE X (.Call (.Attribute o "join" apos) [e] [] cpos) (rdE X.K W (mM1 gJoin m ms)) :=
  j_m1 PySem.F.plainAttrs_str PySem.F.slot_str_join PySem.F.type_str_join mt_join (fun s S F H σ ρ x vs ds Q eK r hv p => by
    unfold gJoin at p
    dsimp only at p
    split at p
    · obtain ⟨v, e, h⟩ := rep1 hv
      subst e
      cases h with
      | lst h r1 =>
        split at p
        · rename_i l hl
          split at p
          · rename_i hz
            have e2 := r1.strs hl
            subst e2
            exact ⟨_, _, l, rfl, rfl, .inl (sqL (r.core.sub _ _ h)), Nat.le_trans hz (by decide), post_val (rl := rlD) r p (.str _)⟩
          · exact p.elim
        · exact p.elim
    · obtain ⟨v, e, h⟩ := rep1 hv
      subst e
      cases h with
      | tup h r1 =>
        split at p
        · rename_i l hl
          split at p
          · rename_i hz
            have e2 := r1.strs hl
            subst e2
            exact ⟨_, _, l, rfl, rfl, .inr (sqTK eK r.core.sub h), Nat.le_trans hz (by decide), post_val (rl := rlD) r p (.str _)⟩
          · exact p.elim
        · exact p.elim
    · exact p.elim) ho ha hbase hfew hline hs hplain
theorem j_startswith {apos cpos : Pos} {o e : Expr} {m : MM D} {ms : MM (List D)} (ho : PE X o (rdE X.K W m)) (ha : PA X [e] (rdA X.K W ms))
    (hbase : attributeBase o "startswith" X.env (eval o X.env) = eval o X.env := by rfl) (hfew : ((backTo cpos (starEach [e] X.env)).all (fun x => !x.1) && (backToKw cpos (keywordEach [] X.env)).all (fun x => x.1.isSome)
      && decide ([e].length + ([] : List Keyword).length + (if ([] : List Keyword).isEmpty then 0 else 1) < 30)) = true := by rfl) (hline : (apos.endLine == cpos.line) = true := by rfl) (hs : starEach [e] X.env = (false, eval e X.env) :: starEach [] X.env := by rfl) (hplain : (backTo cpos (starEach [] X.env)).any (·.1) = false := by rfl) :
    PE X (.Call (.Attribute o "startswith" apos) [e] [] cpos) (rdE X.K W (mM1 gStarts m ms)) :=
  j_m1 PySem.F.plainAttrs_str PySem.F.slot_str_startswith PySem.F.type_str_startswith mt_startswith (fun s S F H σ ρ x vs ds Q eK r hv p => by
    unfold gStarts at p
    dsimp only at p
    split at p
    · obtain ⟨v, e, h⟩ := rep1 hv
      subst e
      cases h
      exact ⟨_, _, rfl, rfl, post_val (rl := rlD) r p (.bl _)⟩
    · exact p.elim) ho ha hbase hfew hline hs hplain
def gB (f : Str → Bool) (s : Str) : Option D := some (.bl (f s))
theorem gB_ok {f : Str → Bool} : ∀ a d, gB f a = some d → True ∧ Sca (V.bl (f a)) d := fun a d e => by
  cases e
  exact ⟨trivial, .bl _⟩

/-! ### subscripts -/
def gIx (a b : D) : Option D := match b with
  | .int i => match a with
    | .lst ds => atI ds i
    | .tup ds => atI ds i
    | .str s => if s.length ≤ big then (atI s.cps.toList i).map fun c => .str ⟨#[c]⟩ else none
    | _ => none
  | _ => none
theorem atI_rep {K : PySem.W.Frag} {b : Option Addr} {F : Hp} {vs : List V} {ds : List D} {i : Int} {d : D} (h : RepL K b F vs ds) (e : atI ds i = some d) : ∃ v, atI vs i = some v ∧ Rep K b F v d := by
  unfold atI at e ⊢
  rw [h.length]
  cases q : ixN ds.length i with
  | none =>
    rw [q] at e
    cases e
  | some j =>
    rw [q] at e
    exact h.get e
theorem real_ix {K : PySem.W.Frag} : Real2 K W (rIx K) fun a b => o1 (gIx a b) := by
  intro S F H σ ρ x v1 v2 a b Q eK r ha hb p
  cases hb <;> try exact p.elim
  rename_i i
  cases ha <;> try exact p.elim
  · rename_i s
    replace p : Post rlD S W σ F H ρ (o1 (if s.length ≤ big then (atI s.cps.toList i).map fun c => .str ⟨#[c]⟩ else none) ρ x) Q := p
    split at p
    · rename_i hz
      cases e : atI s.cps.toList i with
      | none =>
        rw [e] at p
        exact p.elim
      | some c =>
        rw [e] at p
        exact .inr (.inr ⟨s, i, c, rfl, rfl, big_le hz, e, post_val (rl := rlD) r p (.str _)⟩)
    · exact p.elim
  · rename_i a1 vs ds h r1
    replace p : Post rlD S W σ F H ρ (o1 (atI ds i) ρ x) Q := p
    cases e : atI ds i with
    | none =>
      rw [e] at p
      exact p.elim
    | some d =>
      rw [e] at p
      obtain ⟨v, e2, hv⟩ := atI_rep r1 e
      exact .inl ⟨a1, vs, i, v, rfl, rfl, sqL (r.core.sub _ _ h), e2, post_val (rl := rlD) r p hv⟩
  · rename_i a1 vs ds h r1
    replace p : Post rlD S W σ F H ρ (o1 (atI ds i) ρ x) Q := p
    cases e : atI ds i with
    | none =>
      rw [e] at p
      exact p.elim
    | some d =>
      rw [e] at p
      obtain ⟨v, e2, hv⟩ := atI_rep r1 e
      exact .inr (.inl ⟨a1, vs, i, v, rfl, rfl, sqTK eK r.core.sub h, e2, post_val (rl := rlD) r p hv⟩)
theorem j_item {ma mb : MM D} {a b : Expr} {pos : Pos} (ha : PE X a (rdE X.K W ma)) (hb : PE X b (rdE X.K W mb)) (hs : PlainIx b := by exact fun _ _ => rfl) : PE X (.Subscript a b pos) (rdE X.K W (mOp (fun a b => o1 (gIx a b)) ma mb)) :=
  j_ix ix_seq real_ix ha hb hs

/-! ### slices -/
def rlO : Rl (Option Int) (Option Int) := rlB
def mNoPart : MM (Option Int) := fun _ x => .val none x
def mPart (m : MM D) : MM (Option Int) := mBind m fun d => match d with
  | .int i => fun _ x => .val (some i) x
  | _ => fun _ _ => .out
theorem j_noPart : PO X none (rd rlB X.K W mNoPart) := ⟨fun pins s σ H Q I h => by
  obtain ⟨S, F, ρ, x, eK, rr, p⟩ := h
  exact (po_none (X := X)).run pins s σ H Q I (post_val (rl := rlB) rr p rfl)⟩
theorem j_part {e : Expr} {m : MM D} (h : PE X e (rdE X.K W m)) : PO X (some e) (rd rlB X.K W (mPart m)) := ⟨fun pins s σ H Q I q => (po_some h).run pins s σ H Q I
  (rd_un (rl := rlB) (r := fun x H1 Q => ∃ i, x = .int i ∧ Q (some i) H1) (fun S F H σ ρ x v a Q eK r hr p => by
    cases hr <;> try exact p.elim
    exact ⟨_, rfl, post_val (rl := rlB) r p rfl⟩) q)⟩
def cutD (ds : List D) (lo hi : Option Int) : List D := (ds.drop (HT.sIx ds.length 0 lo)).take (HT.sIx ds.length ds.length hi - HT.sIx ds.length 0 lo)
def gCut (lo hi : Option Int) : D → Option D
  | .lst ds => some (.lst (cutD ds lo hi))
  | .tup ds => some (.tup (cutD ds lo hi))
  | .str s => if s.length ≤ big then some (.str (cutS s lo hi)) else none
  | .scr ns => some (.lst (cutD (ns.map .int) lo hi))
  | _ => none
theorem repL_ints {K : PySem.W.Frag} {b : Option Addr} {F : Hp} : ∀ (l : List Int), RepL K b F (l.map V.int) (l.map D.int)
  | [] => .nil
  | s :: l => .cons (.int s) (repL_ints l)
theorem sqL_same {K : PySem.W.Frag} {H H' : Hp} {a : Addr} {xs : List V} (s : Same H H') (h : SqL K H a xs) : SqL K H' a xs := s.seq h
theorem cut_rep {K : PySem.W.Frag} {b : Option Addr} {F : Hp} {vs : List V} {ds : List D} (h : RepL K b F vs ds) (lo hi : Option Int) : RepL K b F (cutV vs lo hi) (cutD ds lo hi) := by
  unfold cutV cutD
  rw [h.length]
  exact (h.drop _).take _
def mSlice (m : MM D) (lo hi : MM (Option Int)) : MM D := mBind m fun d => mBind lo fun l => mBind hi fun u => o1 (gCut l u d)
theorem real_cut {S : Cf} {F H : Hp} {σ : L2.St} {ρ : En} {x : Bx} {v : V} {d : D} {Q : VK} {lo hi : Option Int} {K : PySem.W.Frag} (eK : S.K = K) (r : Rel S F H σ ρ x) (hv : Rep S.K S.b F v d) (p : Post rlD S W σ F H ρ (o1 (gCut lo hi d) ρ x) Q) :
    (rSlL K v lo hi H Q ∨ rSlA K v lo hi H Q) ∨ rSlS v lo hi H Q := by
  cases hv <;> try exact p.elim
  · rename_i s
    replace p : Post rlD S W σ F H ρ (o1 (if s.length ≤ big then some (.str (cutS s lo hi)) else none) ρ x) Q := p
    split at p
    · rename_i hz
      exact .inr ⟨s, rfl, big_le hz, post_val (rl := rlD) r p (.str _)⟩
    · exact p.elim
  · rename_i a1 vs ds h r1
    exact .inl (.inl ⟨a1, vs, rfl, sqL (r.core.sub _ _ h), fun q n => post_new (α := D) r p n (.lst upd_same ((cut_rep r1 lo hi).mono (Same.new (r.core.nF n))))⟩)
  · rename_i a1 vs ds h r1
    refine .inl (.inr ⟨a1, vs, rfl, sqTK eK r.core.sub h, fun w => post_val (rl := rlD) r p ?_, fun _ q n => post_new (α := D) r p n (.tup (.inl upd_same) ((cut_rep r1 lo hi).mono (Same.new (r.core.nF n))))⟩)
    have e : cutD ds lo hi = ds := by
      unfold cutD
      rw [← r1.length, w.1, w.2, List.drop_zero, Nat.sub_zero, r1.length, List.take_length]
    show Rep S.K S.b F (.ref a1) (.tup (cutD ds lo hi))
    rw [e]
    exact .tup h r1
  · rename_i a1 ns h
    exact .inl (.inl ⟨a1, ns.map V.int, rfl, by rw [← eK]; exact sqL_same r.core.sub h, fun q n => post_new (α := D) r p n (.lst upd_same (cut_rep (repL_ints ns) lo hi))⟩)
theorem j_slice {e : Expr} {lo hi : Option Expr} {p2 pos : Pos} {m : MM D} {ml mh : MM (Option Int)} (he : PE X e (rdE X.K W m)) (hl : PO X lo (rd rlB X.K W ml)) (hu : PO X hi (rd rlB X.K W mh)) : PE X (.Subscript e (.Slice lo hi none p2) pos) (rdE X.K W (mSlice m ml mh)) :=
  peI (pe_slice (((sl_list (X := X)).or sl_tupA).or sl_str) he hl hu) fun σ H Q q => rd_unS (rl := rlD) (r := fun x H1 Q => rd rlB X.K W ml σ H1 fun l H2 => rd rlB X.K W mh σ H2 fun u H3 => (rSlL X.K x l u H3 Q ∨ rSlA X.K x l u H3 Q) ∨ rSlS x l u H3 Q) (fun S F H ρ x v a Q eK rr hv p => by
    refine (show rd rlB X.K W ml σ H fun l H2 => rd rlB X.K W mh σ H2 fun u H3 => (rSlL X.K v l u H3 Q ∨ rSlA X.K v l u H3 Q) ∨ rSlS v l u H3 Q from ?_)
    have q1 : rd1 rlD rlD X.K W (fun a => mBind ml fun l => mBind mh fun u => o1 (gCut l u a)) v σ H Q := ⟨S, F, ρ, x, a, eK, rr, hv, p⟩
    obtain ⟨S2, F2, ρ2, x2, eK2, rr2, p2⟩ := rd1_bind (rl1 := rlB) mono_D q1
    refine ⟨S2, F2, ρ2, x2, eK2, rr2, ?_⟩
    cases e : ml ρ2 x2 with
    | exc c fs x1 =>
      rw [e] at p2
      exact p2
    | out =>
      rw [e] at p2
      exact p2
    | val l x3 =>
      rw [e] at p2
      intro l' F3 H3 r3 s3 k3 h3
      obtain ⟨S4, F4, ρ4, x4, a4, l4, eK4, rr4, ha4, hl4, p4⟩ := p2 l' F3 H3 r3 s3 k3 h3
      have el : l' = l4 := hl4
      subst el
      have q2 : rd1 rlD rlD X.K W (fun a => mBind mh fun u => o1 (gCut l' u a)) v σ H3 Q := ⟨S4, F4, ρ4, x4, a4, eK4, rr4, ha4, p4⟩
      obtain ⟨S5, F5, ρ5, x5, eK5, rr5, p5⟩ := rd1_bind (rl1 := rlB) mono_D q2
      refine ⟨S5, F5, ρ5, x5, eK5, rr5, ?_⟩
      cases e5 : mh ρ5 x5 with
      | exc c fs x1 =>
        rw [e5] at p5
        exact p5
      | out =>
        rw [e5] at p5
        exact p5
      | val u x6 =>
        rw [e5] at p5
        intro u' F6 H6 r6 s6 k6 h6
        obtain ⟨S7, F7, ρ7, x7, a7, u7, eK7, rr7, ha7, hu7, p7⟩ := p5 u' F6 H6 r6 s6 k6 h6
        have eu : u' = u7 := hu7
        subst eu
        exact real_cut eK7 rr7 ha7 p7) q

/-! ### f-strings -/
def mFmt (m : MM D) : MM D := mBind m fun d => match d with
  | .str s => if s.length ≤ big then fun _ x => .val (.str s) x else fun _ _ => .out
  | .int i => if lg i < 1920 then fun _ x => .val (.str (Str.ofString (toString i))) x else fun _ _ => .out
  | _ => fun _ _ => .out
theorem j_fmt {e : Expr} {m : MM D} {pos : Pos} (he : PE X e (rdE X.K W m)) : PE X (.FormattedValue e (-1) none pos) (rdE X.K W (mFmt m)) :=
  peI (pe_fmt he) fun σ H Q q => rd_un (rl := rlD) (r := fun x H1 Q => (∃ y : Str, x = .str y ∧ y.length ≤ sizeLine ∧ Q (.str y) H1) ∨ ∃ i : Int, x = .int i ∧ i.natAbs.log2 < 1920 ∧ Q (.str (toString i)) H1) (fun S F H σ ρ x v a Q eK r hr p => by
    cases hr <;> try exact p.elim
    · rename_i i
      dsimp only at p
      split at p
      · rename_i hz
        exact .inr ⟨i, rfl, hz, post_val (rl := rlD) r p (.str _)⟩
      · exact p.elim
    · rename_i s
      dsimp only at p
      split at p
      · rename_i hz
        exact .inl ⟨s, rfl, big_le hz, post_val (rl := rlD) r p (.str _)⟩
      · exact p.elim) q
end
end Mi

/-! Mi5: joined f-strings, isinstance, calls of defs. -/
namespace Mi
open PySem PySem.Spec L2
section
variable {X : Cx} {W : WX}
/-! ### f-strings -/
inductive PJm (X : Cx) (W : WX) : List Expr → List (MM D) → Prop where
  | nil : PJm X W [] []
  | cons {e : Expr} {m : MM D} {es : List Expr} {ms : List (MM D)} (h : PE X e (rdE X.K W m)) (r : PJm X W es ms) : PJm X W (e :: es) (m :: ms)
theorem PJm.pj : ∀ {es : List Expr} {ms : List (MM D)}, PJm X W es ms → PJ X es (ms.map (rdE X.K W))
  | _, _, .nil => .nil
  | _, _, .cons h r => .cons h r.pj
def mJ : List (MM D) → Str → MM D
  | [], acc => fun _ x => .val (.str acc) x
  | m :: ms, acc => mBind m fun d => match isS d with
    | some y => if (acc ++ y).length ≤ big then mJ ms (acc ++ y) else fun _ _ => .out
    | none => fun _ _ => .out
theorem rd_J {K : PySem.W.Frag} {σ : L2.St} {Q : VK} : ∀ (ms : List (MM D)) (acc : Str) (H : Hp), rdE K W (mJ ms acc) σ H Q → tJs (ms.map (rdE K W)) acc σ H fun out H1 => Q (.str out) H1
  | [], acc, H, h => by
    obtain ⟨S, F, ρ, x, eK, rr, p⟩ := h
    exact post_val (rl := rlD) rr p (.str _)
  | m :: ms, acc, H, h => rd_unS (rl := rlD) (r := fun x H1 Q => ∃ y : Str, x = .str y ∧ (acc ++ y).length ≤ sizeLine ∧ tJs (ms.map (rdE K W)) (acc ++ y) σ H1 fun out H1 => Q (.str out) H1) (fun S F H ρ x v a Q eK rr hv p => by
      cases hv <;> try exact p.elim
      rename_i y
      replace p : Post rlD S W σ F H ρ ((if (acc ++ y).length ≤ big then mJ ms (acc ++ y) else fun _ _ => .out) ρ x) Q := p
      split at p
      · rename_i hz
        exact ⟨y, rfl, big_le hz, rd_J ms (acc ++ y) H ⟨S, F, ρ, x, eK, rr, p⟩⟩
      · exact p.elim) h
theorem j_joined {v1 v2 : Expr} {rest : List Expr} {ms : List (MM D)} {pos : Pos} (h : PJm X W (v1 :: v2 :: rest) ms) : PE X (.JoinedStr (v1 :: v2 :: rest) pos) (rdE X.K W (mJ ms Str.empty)) :=
  peI (pe_joined h.pj) fun σ H Q q => rd_J ms Str.empty H q
theorem j_joined1 {e : Expr} {m : MM D} {pos : Pos} (he : PE X e (rdE X.K W m)) : PE X (.JoinedStr [e] pos) (rdE X.K W m) := pe_joined1 he

/-! ### isinstance -/
def tyN : D → Option String
  | .non => some "NoneType"
  | .bl _ => some "bool"
  | .int _ => some "int"
  | .str _ => some "str"
  | .lst _ => some "list"
  | .tup _ => some "tuple"
  | .dcb _ => some "dict"
  | _ => none
def tyIs (t T : String) : Option Bool :=
  if T = "int" ∨ T = "bool" ∨ T = "str" ∨ T = "list" ∨ T = "tuple" ∨ T = "dict" then
    if t = "NoneType" ∨ t = "bool" ∨ t = "int" ∨ t = "str" ∨ t = "list" ∨ t = "tuple" ∨ t = "dict" then some (decide (t = T ∨ (t = "bool" ∧ T = "int"))) else none
  else none
theorem tyIs_kit {K : PySem.W.Frag} {t T : String} {b : Bool} (h : tyIs t T = some b) : PySem.W.kitOne K (.type t) (.type T) = some b := by
  refine kit_ty ?_
  unfold tyIs at h
  split at h
  · rename_i hT
    split at h
    · rename_i ht
      cases h
      rcases hT with rfl | rfl | rfl | rfl | rfl | rfl <;> rcases ht with rfl | rfl | rfl | rfl | rfl | rfl | rfl <;> decide +kernel
    · cases h
  · cases h
theorem Rep.ty {K : PySem.W.Frag} {b : Option Addr} {F H : Hp} (s : Same F H) {v : V} {d : D} {t : String} (h : Rep K b F v d) (e : tyN d = some t) : TyX K H v (.type t) := by
  cases h <;> first
    | (cases e; done)
    | (cases e; exact .base .non)
    | (cases e; exact .base (.bl _))
    | (cases e; exact .base (.int _))
    | (cases e; exact .base (.str _))
    | (cases e; exact .base (.lst (s _ _ (by assumption))))
    | (cases e; rename_i ht _; rcases ht with ht | ⟨o, its, n, h1, h2, _⟩; (· exact .base (.tup (s _ _ ht))); (· exact .kTuple h1 h2))
    | (cases e; exact .base (.dK (s _ _ (by assumption))))
def isi1 (T : String) (d : D) : Option Bool := (tyN d).bind fun t => tyIs t T
def isi : List String → D → Option Bool
  | [], _ => some false
  | T :: Ts, d => match isi1 T d with
    | some true => some true
    | some false => isi Ts d
    | none => none
def mIsi (T : String) (m : MM D) : MM D := mBind m fun d => o1 ((isi1 T d).map .bl)
theorem j_isi {y T : Str} {T0 : String} {p p2 pos : Pos} {e : Expr} {m : MM D} (hg : Gl X y) (hm : X.mg y = none) (hv : bootBuiltins y = some (.builtin "isinstance")) (hgT : Gl X T) (hmT : X.mg T = none) (hvT : bootBuiltins T = some (.type T0)) (he : PE X e (rdE X.K W m)) (hn : y ≠ "__name__" := by decide) (hdb : (y == ("__debug__" : Str)) = false := by decide) (hnT : T ≠ "__name__" := by decide) (hdT : (T == ("__debug__" : Str)) = false := by decide)
    (h1 : starEach (e :: [Expr.Name T p2]) X.env = (false, eval e X.env) :: starEach [Expr.Name T p2] X.env := by rfl) (h2 : starEach [Expr.Name T p2] X.env = (false, eval (Expr.Name T p2) X.env) :: starEach [] X.env := by rfl) (hpl : (backTo pos (starEach [Expr.Name T p2] X.env)).any (·.1) = false := by rfl) :
    PE X (.Call (.Name y p) [e, .Name T p2] [] pos) (rdE X.K W (mIsi T0 m)) :=
  peI (pe_callB call_isi hg hm hv (pa_cons he (pa_cons (pe_bltn (v := .ty T0) hgT hmT hvT rfl hnT hdT) pa_nil h2) h1) hn hdb h1 hpl) fun σ H Q q => rd_un (rl := rlD) (r := fun x H1 Q => rIsi X.K [x, .ty T0] H1 Q) (fun S F H σ ρ x v a Q eK r hr p => by
    replace p : Post rlD S W σ F H ρ (o1 ((isi1 T0 a).map .bl) ρ x) Q := p
    cases e1 : tyN a with
    | none =>
      unfold isi1 at p
      rw [e1] at p
      exact p.elim
    | some t =>
      unfold isi1 at p
      rw [e1] at p
      replace p : Post rlD S W σ F H ρ (o1 ((tyIs t T0).map .bl) ρ x) Q := p
      cases e2 : tyIs t T0 with
      | none =>
        rw [e2] at p
        exact p.elim
      | some b =>
        rw [e2] at p
        exact ⟨v, .ty T0, .type t, .type T0, b, rfl, .ty _, eK ▸ hr.ty r.core.sub e1, tyIs_kit e2, post_val (rl := rlD) r p (.bl _)⟩) q
def mIsi2 (T U : String) (m : MM D) : MM D := mBind m fun d => o1 ((isi [T, U] d).map .bl)
theorem isi2_kit {K : PySem.W.Frag} {T U : String} {t : String} {d : D} {b : Bool} (e : tyN d = some t) (h : isi [T, U] d = some b) : PySem.W.kitAny K (.type t) [.type T, .type U] = some b := by
  unfold isi at h
  have e1 : ∀ Z, isi1 Z d = tyIs t Z := fun Z => by
    unfold isi1
    rw [e]
    rfl
  rw [e1] at h
  cases q : tyIs t T with
  | none =>
    rw [q] at h
    cases h
  | some c =>
    rw [q] at h
    refine kitAny_cons (tyIs_kit q) (fun hc => ?_) (fun hc => ?_)
    · subst hc
      replace h : isi [U] d = some b := h
      unfold isi at h
      rw [e1] at h
      cases q2 : tyIs t U with
      | none =>
        rw [q2] at h
        cases h
      | some c2 =>
        rw [q2] at h
        refine kitAny_cons (tyIs_kit q2) (fun hc => ?_) (fun hc => ?_)
        · subst hc
          exact h
        · subst hc
          exact (Option.some.inj h).symm
    · subst hc
      exact (Option.some.inj h).symm
theorem j_isi2 {y T U : Str} {T0 U0 : String} {x1 : Nat} {p p2 p3 p4 pos : Pos} {e : Expr} {m : MM D} (hg : Gl X y) (hm : X.mg y = none) (hv : bootBuiltins y = some (.builtin "isinstance")) (hgT : Gl X T) (hmT : X.mg T = none) (hvT : bootBuiltins T = some (.type T0)) (hgU : Gl X U) (hmU : X.mg U = none) (hvU : bootBuiltins U = some (.type U0))
    (he : PE X e (rdE X.K W m)) (hn : y ≠ "__name__" := by decide) (hdb : (y == ("__debug__" : Str)) = false := by decide) (hnT : T ≠ "__name__" := by decide) (hdT : (T == ("__debug__" : Str)) = false := by decide) (hnU : U ≠ "__name__" := by decide) (hdU : (U == ("__debug__" : Str)) = false := by decide)
    (h1 : starEach (e :: [Expr.Tuple [.Name T p2, .Name U p3] x1 p4]) X.env = (false, eval e X.env) :: starEach [Expr.Tuple [.Name T p2, .Name U p3] x1 p4] X.env := by rfl) (h2 : starEach [Expr.Tuple [.Name T p2, .Name U p3] x1 p4] X.env = (false, eval (Expr.Tuple [.Name T p2, .Name U p3] x1 p4) X.env) :: starEach [] X.env := by rfl)
    (h3 : starEach (Expr.Name T p2 :: [Expr.Name U p3]) X.env = (false, eval (Expr.Name T p2) X.env) :: starEach [Expr.Name U p3] X.env := by rfl) (h4 : starEach [Expr.Name U p3] X.env = (false, eval (Expr.Name U p3) X.env) :: starEach [] X.env := by rfl)
    (hpl : (backTo pos (starEach [Expr.Tuple [.Name T p2, .Name U p3] x1 p4] X.env)).any (·.1) = false := by rfl) :
    PE X (.Call (.Name y p) [e, .Tuple [.Name T p2, .Name U p3] x1 p4] [] pos) (rdE X.K W (mIsi2 T0 U0 m)) :=
  peI (pe_callB call_isiT hg hm hv (pa_cons he (pa_cons (pe_tup (pa_cons (pe_bltn (v := .ty T0) hgT hmT hvT rfl hnT hdT) (pa_cons (pe_bltn (v := .ty U0) hgU hmU hvU rfl hnU hdU) pa_nil h4) h3)) pa_nil h2) h1) hn hdb h1 hpl) fun σ H Q q =>
    rd_un (rl := rlD) (r := fun x H1 Q => ([V.ty T0, .ty U0] : List V).length ≤ sizeLine ∧ ∀ q, H1 q = none → rIsiT X.K [x, .ref q] (upd H1 q (.tup [.ty T0, .ty U0])) Q) (fun S F H σ ρ x v a Q eK r hr p => by
      refine ⟨by show 2 ≤ sizeLine; decide, fun q n => ?_⟩
      replace p : Post rlD S W σ F H ρ (o1 ((isi [T0, U0] a).map .bl) ρ x) Q := p
      cases e2 : isi [T0, U0] a with
      | none =>
        rw [e2] at p
        exact p.elim
      | some b =>
        rw [e2] at p
        cases e1 : tyN a with
        | none =>
          unfold isi isi1 at e2
          rw [e1] at e2
          cases e2
        | some t =>
          have k : Same F (upd H q (.tup [.ty T0, .ty U0])) := r.core.sub.trans (Same.new n)
          exact ⟨v, q, [.ty T0, .ty U0], .type t, [.type T0, .type U0], b, rfl, upd_same, .cons (.ty _) (.cons (.ty _) .nil), eK ▸ hr.ty k e1, isi2_kit e1 e2, p (.bl b) _ _ (r.allocO n) (Same.refl F) (KeepB.new n) (.bl b)⟩) q

/-! ### a def's promise -/
def PostF (S : Cf) (r : R D) (Q : VK) (E : XK) : Prop := match r with
  | .val d x' => ∀ v F' H', Core S F' H' x' → Rep S.K S.b F' v d → Q v H'
  | .exc c fs x' => ∀ F' H' dd, Core S F' H' x' → XdOk S F' dd fs → E (.ref (He.ga S.K c)) dd H'
  | .out => False
abbrev Mr := List D → Bx → R D
def spM (K : PySem.W.Frag) (n : Nat) (f : Mr) : Sp := fun vs H Q E => ∃ S x ds, S.K = K ∧ S.H0 = H ∧ Core S S.F0 H x ∧ RepL S.K S.b S.F0 vs ds ∧ ds.length = n ∧ PostF S (f ds x) Q E
theorem Core.enter {S : Cf} {F H : Hp} {x : Bx} (r : Core S F H x) : Core ⟨S.K, S.b, H, F, S.me⟩ F H x := ⟨r.sub, Same.refl F, fun _ _ h => h, fun _ _ h _ => h, r.box⟩
theorem Core.exit {S : Cf} {F H F' H' : Hp} {x x' : Bx} (r : Core S F H x) (c : Core ⟨S.K, S.b, H, F, S.me⟩ F' H' x') : Core S F' H' x' where
  sub := c.sub
  f0 := r.f0.trans c.f0
  fresh := fun p h1 h2 => by
    by_cases hb : S.b = some p
    · exact (c.box p hb).1
    · cases e : S.H0 p with
      | none => exact (h1 e).elim
      | some o => exact c.fresh p (by rw [show (⟨S.K, S.b, H, F, S.me⟩ : Cf).H0 p = H p from rfl, r.keep p o e hb]; intro z; cases z) (r.fresh p h1 h2)
  keep := fun p o h1 h2 => c.keep p o (r.keep p o h1 h2) h2
  box := c.box
theorem Rel.back {S : Cf} {F H F' H' : Hp} {σ : L2.St} {ρ : En} {x x' : Bx} (r : Rel S F H σ ρ x) (c : Core ⟨S.K, S.b, H, F, S.me⟩ F' H' x') : Rel S F' H' σ ρ x' ∧ Same F F' ∧ KeepB S.b H H' :=
  ⟨r.go (r.core.exit c) c.f0 (fun p o h n => c.keep p o h n) (fun p h1 h2 _ => c.fresh p h1 h2), c.f0, fun p o h n => c.keep p o h n⟩
def mDef (n : Nat) (f : Mr) (ms : MM (List D)) : MM D := mBind ms fun ds => fun _ x => if ds.length = n then f ds x else .out
theorem rd_def {K : PySem.W.Frag} {n : Nat} {f : Mr} {ms : MM (List D)} {σ : L2.St} {H : Hp} {Q : VK} (q : rdE K W (mDef n f ms) σ H Q) : rdA K W ms σ H fun vs H1 => spM K n f vs H1 Q (WE W σ) := by
  obtain ⟨S, F, ρ, x, eK, rr, p⟩ := rd_bind (rl := rlL) q
  refine ⟨S, F, ρ, x, eK, rr, ?_⟩
  cases e : ms ρ x with
  | exc c fs x1 =>
    rw [e] at p
    exact p
  | out =>
    rw [e] at p
    exact p
  | val ds x1 =>
    rw [e] at p
    intro vs F' H' r1 s1 k1 h1
    obtain ⟨S2, F2, ρ2, x2, ds2, eK2, rr2, h2, p2⟩ := p vs F' H' r1 s1 k1 h1
    dsimp only at p2
    split at p2
    · rename_i hz
      refine ⟨⟨S2.K, S2.b, H', F2, S2.me⟩, x2, ds2, eK2, rfl, rr2.core.enter, h2, hz, ?_⟩
      cases e2 : f ds2 x2 with
      | out =>
        rw [e2] at p2
        exact p2
      | val d x3 =>
        rw [e2] at p2
        intro v F3 H3 c3 h3
        obtain ⟨a1, a2, a3⟩ := rr2.back c3
        exact p2 v F3 H3 a1 a2 a3 h3
      | exc c fs x3 =>
        rw [e2] at p2
        intro F3 H3 dd c3 h3
        obtain ⟨a1, a2, a3⟩ := rr2.back c3
        exact p2 F3 H3 dd a1 a2 a3 h3
    · exact p2.elim
variable {f : Addr} {fd : FuncData} {ps : List Str} {k n : Nat} {g : Mr} {ms : MM (List D)} {y : Str} {e : Expr} {es : List Expr} {p pos : Pos}
/-- g(e, ..), g a def that keeps its mirror -/
theorem j_call (F : FnOk X.prog X.w X.K X.mg X.base (L2.CX X.prog X.w) k f fd ps (spM X.K n g)) (hr : Room k X.A) (tk : Takes X W) (hg : Gl X y) (hm : X.mg y = some (.ref f)) (hk : PySem.W.keepIn X.K (.ref f) = true) (hb : Binds X.K fd ps [])
    (ha : PA X (e :: es) (rdA X.K W ms)) (hdb : (y == ("__debug__" : Str)) = false := by decide) (he : starEach (e :: es) X.env = (false, eval e X.env) :: starEach es X.env := by rfl) (hpl : (backTo pos (starEach es X.env)).any (·.1) = false := by rfl) :
    PE X (.Call (.Name y p) (e :: es) [] pos) (rdE X.K W (mDef n g ms)) :=
  peI (pe_callS F hr hg hm hk hb (fun σ => passAt tk σ) ha hdb he hpl) fun σ H Q q => rd_def q
end
end Mi

/-! Mi6: what is walked; targets; list comprehensions. -/
namespace Mi
open PySem PySem.Spec L2
/-- what was there and not frozen is not frozen afterwards -/
def Nw (b : Option Addr) (F H F' : Hp) : Prop := ∀ p, H p ≠ none → F p = none → b ≠ some p → F' p = none
theorem Nw.same {b : Option Addr} {F H : Hp} : Nw b F H F := fun _ _ h _ => h
theorem Nw.new {b : Option Addr} {F H : Hp} {p : Addr} {o : HO} (h : H p = none) : Nw b F H (upd F p o) := fun q h1 h2 _ => by
  have hq : q ≠ p := fun e => h1 (e ▸ h)
  rw [upd_ne hq]
  exact h2
def Walks (K : PySem.W.Frag) (b : Option Addr) (F : Hp) (J : It) (ds : List D) : Prop := ∀ (S : Cf) (i : Nat) (F1 H : Hp) (x : Bx), S.K = K → S.b = b → Same F F1 → Core S F1 H x →
  (i < ds.length → J.go i H ∧ ∀ v H', J.yld i H v H' → ∃ F2 d, Core S F2 H' x ∧ Same F1 F2 ∧ KeepB b H H' ∧ Nw b F1 H F2 ∧ ds[i]? = some d ∧ Rep K b F2 v d) ∧ (ds.length ≤ i → J.stop i H)
def rlI : Rl (List D) It := fun S F J ds => Walks S.K S.b F J ds
theorem walks_lst {K : PySem.W.Frag} {b : Option Addr} {F : Hp} {a : Addr} {vs : List V} {ds : List D} (h : F a = some (.lst vs)) (r : RepL K b F vs ds) : Walks K b F (Itl K a) ds := fun S i F1 H x eK eb s c => by
  have ha : SqL K H a vs := sqL (c.sub _ _ (s _ _ h))
  refine ⟨fun hi => ?_, fun hi => ⟨vs, ha, by rw [r.length]; exact hi⟩⟩
  obtain ⟨v0, e0, h0⟩ := r.get (List.getElem?_eq_getElem hi)
  refine ⟨⟨vs, v0, ha, e0⟩, fun v H' y => ?_⟩
  obtain ⟨rfl, y2⟩ := y
  have e1 := y2 vs ha
  rw [e0] at e1
  cases e1
  exact ⟨F1, _, c, Same.refl _, KeepB.refl, Nw.same, List.getElem?_eq_getElem hi, h0.mono s⟩
theorem walks_tup {K : PySem.W.Frag} {b : Option Addr} {F : Hp} {a : Addr} {vs : List V} {ds : List D} (h : TupAt K F a vs) (r : RepL K b F vs ds) : Walks K b F (Itt K a) ds := fun S i F1 H x eK eb s c => by
  have ha : SqT K H a vs := sqTK rfl c.sub (h.mono s)
  refine ⟨fun hi => ?_, fun hi => ⟨vs, ha, by rw [r.length]; exact hi⟩⟩
  obtain ⟨v0, e0, h0⟩ := r.get (List.getElem?_eq_getElem hi)
  refine ⟨⟨vs, v0, ha, e0⟩, fun v H' y => ?_⟩
  obtain ⟨rfl, y2⟩ := y
  have e1 := y2 vs ha
  rw [e0] at e1
  cases e1
  exact ⟨F1, _, c, Same.refl _, KeepB.refl, Nw.same, List.getElem?_eq_getElem hi, h0.mono s⟩
def signs (s : Str) : List D := s.cps.toList.map fun c => .str ⟨#[c]⟩
theorem walks_str {K : PySem.W.Frag} {b : Option Addr} {F : Hp} {s : Str} : Walks K b F (Its s) (signs s) := fun S i F1 H x eK eb _ c => by
  have hl : (signs s).length = s.cps.size := by
    unfold signs
    rw [List.length_map,
      Array.length_toList]
  refine ⟨fun hi => ⟨by rw [hl] at hi; exact hi, fun v H' y => ?_⟩, fun hi => by rw [hl] at hi; exact hi⟩
  obtain ⟨rfl, cc, e1, rfl⟩ := y
  refine ⟨F1, .str ⟨#[cc]⟩, c, Same.refl _, KeepB.refl, Nw.same, ?_, .str _⟩
  unfold signs
  rw [List.getElem?_map, Array.getElem?_toList, e1]
  rfl
def rng (lo : Int) (n : Nat) : List D := (List.range n).map fun i => .int (lo + (i : Nat))
theorem walks_rng {K : PySem.W.Frag} {b : Option Addr} {F : Hp} {lo : Int} {n : Nat} : Walks K b F (Itr lo n) (rng lo n) := fun S i F1 H x eK eb _ c => by
  have hl : (rng lo n).length = n := by
    unfold rng
    rw [List.length_map,
      List.length_range]
  refine ⟨fun hi => ⟨by rw [hl] at hi; exact hi, fun v H' y => ?_⟩, fun hi => by rw [hl] at hi; exact hi⟩
  obtain ⟨rfl, rfl⟩ := y
  refine ⟨F1, .int (lo + (i : Nat)), c, Same.refl _, KeepB.refl, Nw.same, ?_, .int _⟩
  rw [hl] at hi
  unfold rng
  rw [List.getElem?_map, List.getElem?_range hi]
  rfl
theorem rep_pair {K : PySem.W.Frag} {b : Option Addr} {F : Hp} {p : Addr} {v u : V} {d e : D} (n : F p = none) (h1 : Rep K b F v d) (h2 : Rep K b F u e) : Rep K b (upd F p (.tup [v, u])) (.ref p) (.tup [d, e]) :=
  .tup (.inl upd_same) (.cons (h1.mono (Same.new n)) (.cons (h2.mono (Same.new n)) .nil))
def enumD (ds : List D) : List D := ds.mapIdx fun i d => .tup [.int (i : Nat), d]
theorem walks_enum {K : PySem.W.Frag} {b : Option Addr} {F : Hp} {a : Addr} {vs : List V} {ds : List D} (h : F a = some (.lst vs)) (r : RepL K b F vs ds) : Walks K b F (Ite K a) (enumD ds) := fun S i F1 H x eK eb s c => by
  have ha : SqL K H a vs := sqL (c.sub _ _ (s _ _ h))
  have hl : (enumD ds).length = ds.length := by
    unfold enumD
    rw [List.length_mapIdx]
  refine ⟨fun hi => ?_, fun hi => ⟨vs, ha, by rw [r.length, ← hl]; exact hi⟩⟩
  rw [hl] at hi
  obtain ⟨v0, e0, h0⟩ := r.get (List.getElem?_eq_getElem hi)
  refine ⟨⟨vs, v0, ha, e0⟩, fun v H' y => ?_⟩
  obtain ⟨T, u, rfl, n, rfl, y2⟩ := y
  have e1 := y2 vs ha
  rw [e0] at e1
  cases e1
  refine ⟨upd F1 T (.tup [.int (i : Nat), v0]), .tup [.int (i : Nat), ds[i]], c.alloc n, Same.new (c.nF n), KeepB.new n, Nw.new n, ?_, rep_pair (c.nF n) (.int _) (h0.mono s)⟩
  unfold enumD
  rw [List.getElem?_mapIdx, List.getElem?_eq_getElem hi]
  rfl
def zipD (ds es : List D) : List D := List.zipWith (fun d e => .tup [d, e]) ds es
theorem zipD_length (ds es : List D) : (zipD ds es).length = min ds.length es.length := by
  unfold zipD
  rw [List.length_zipWith]
theorem zip_get {ds es : List D} {i : Nat} (h1 : i < ds.length) (h2 : i < es.length) : (zipD ds es)[i]? = some (.tup [ds[i], es[i]]) := by
  unfold zipD
  rw [List.getElem?_zipWith, List.getElem?_eq_getElem h1, List.getElem?_eq_getElem h2]
theorem walks_zip {K : PySem.W.Frag} {b : Option Addr} {F : Hp} {a a' : Addr} {vs us : List V} {ds es : List D} (h : F a = some (.lst vs)) (r : RepL K b F vs ds) (h' : F a' = some (.lst us)) (r' : RepL K b F us es) : Walks K b F (Itz K a a') (zipD ds es) := fun S i F1 H x eK eb s c => by
  have ha : SqL K H a vs := sqL (c.sub _ _ (s _ _ h))
  have ha' : SqL K H a' us := sqL (c.sub _ _ (s _ _ h'))
  refine ⟨fun hi => ?_, fun hi => ⟨vs, us, ha, ha', by rw [r.length, r'.length]; rw [zipD_length] at hi; omega⟩⟩
  rw [zipD_length] at hi
  have h1 : i < ds.length := by omega
  have h2 : i < es.length := by omega
  obtain ⟨v0, e0, h0⟩ := r.get (List.getElem?_eq_getElem h1)
  obtain ⟨u0, e0', h0'⟩ := r'.get (List.getElem?_eq_getElem h2)
  refine ⟨⟨vs, us, v0, u0, ha, ha', e0, e0'⟩, fun v H' y => ?_⟩
  obtain ⟨T, u, w, rfl, n, rfl, y2, y3⟩ := y
  have e1 := y2 vs ha
  rw [e0] at e1
  cases e1
  have e2 := y3 us ha'
  rw [e0'] at e2
  cases e2
  exact ⟨upd F1 T (.tup [v0, u0]), _, c.alloc n, Same.new (c.nF n), KeepB.new n, Nw.new n, zip_get h1 h2, rep_pair (c.nF n) (h0.mono s) (h0'.mono s)⟩
theorem walks_zipT {K : PySem.W.Frag} {b : Option Addr} {F : Hp} {a a' : Addr} {vs us : List V} {ds es : List D} (h : TupAt K F a vs) (r : RepL K b F vs ds) (h' : TupAt K F a' us) (r' : RepL K b F us es) : Walks K b F (RZ.ItzT K a a') (zipD ds es) := fun S i F1 H x eK eb s c => by
  have ha : SqT K H a vs := sqTK rfl c.sub (h.mono s)
  have ha' : SqT K H a' us := sqTK rfl c.sub (h'.mono s)
  refine ⟨fun hi => ?_, fun hi => ⟨vs, us, ha, ha', by rw [r.length, r'.length]; rw [zipD_length] at hi; omega⟩⟩
  rw [zipD_length] at hi
  have h1 : i < ds.length := by omega
  have h2 : i < es.length := by omega
  obtain ⟨v0, e0, h0⟩ := r.get (List.getElem?_eq_getElem h1)
  obtain ⟨u0, e0', h0'⟩ := r'.get (List.getElem?_eq_getElem h2)
  refine ⟨⟨vs, us, v0, u0, ha, ha', e0, e0'⟩, fun v H' y => ?_⟩
  obtain ⟨T, u, w, rfl, n, rfl, y2, y3⟩ := y
  have e1 := y2 vs ha
  rw [e0] at e1
  cases e1
  have e2 := y3 us ha'
  rw [e0'] at e2
  cases e2
  exact ⟨upd F1 T (.tup [v0, u0]), _, c.alloc n, Same.new (c.nF n), KeepB.new n, Nw.new n, zip_get h1 h2, rep_pair (c.nF n) (h0.mono s) (h0'.mono s)⟩
section
variable {X : Cx} {W : WX} {tg : Expr}
theorem piI {e : Expr} {t t' : TI} (h : PI X tg e t) (k : ∀ σ H R, t' σ H R → t σ H R) : PI X tg e t' := ⟨fun pins s σ H R I q => h.run pins s σ H R I (k σ H R q)⟩
theorem piOr {e : Expr} {t t' : TI} (h : PI X tg e t) (h' : PI X tg e t') : PI X tg e (fun σ H R => t σ H R ∨ t' σ H R) := ⟨fun pins s σ H R I q => by
  rcases q with q | q
  · exact h.run pins s σ H R I q
  · exact h'.run pins s σ H R I q⟩
def itemsD : D → Option (List D)
  | .lst ds => some ds
  | .tup ds => some ds
  | .str s => some (signs s)
  | _ => none
def mIter (m : MM D) : MM (List D) := mBind m fun d => oB (itemsD d)
theorem j_iter {e : Expr} {m : MM D} (he : PE X e (rdE X.K W m)) : PI X tg e (rd rlI X.K W (mIter m)) :=
  piI (piOr (pi_list he) (piOr (pi_tup he) (pi_str he))) fun σ H R h => by
    obtain ⟨S, F, ρ, x, eK, rr, p⟩ := h
    have p : Post rlI S W σ F H ρ ((m ρ x).bind fun d x1 => oB (itemsD d) ρ x1) R := p
    cases e : m ρ x with
    | out =>
      rw [e] at p
      exact p.elim
    | exc c fs x1 =>
      refine .inl ⟨S, F, ρ, x, eK, rr, ?_⟩
      rw [e] at p ⊢
      exact p
    | val d x1 =>
      rw [e] at p
      cases d <;> try exact p.elim
      · rename_i s
        refine .inr (.inr ⟨S, F, ρ, x, eK, rr, ?_⟩)
        rw [e]
        intro v F' H' r1 s1 k1 h1
        cases h1
        exact ⟨s, rfl, p (Its s) F' H' r1 s1 k1 walks_str⟩
      · rename_i ds
        refine .inl ⟨S, F, ρ, x, eK, rr, ?_⟩
        rw [e]
        intro v F' H' r1 s1 k1 h1
        cases h1 with
        | @lst a vs _ h r => exact ⟨a, rfl, ⟨vs, sqL (r1.core.sub _ _ h)⟩, p (Itl X.K a) F' H' r1 s1 k1 (by rw [← eK]; exact walks_lst h r)⟩
      · rename_i ds
        refine .inr (.inl ⟨S, F, ρ, x, eK, rr, ?_⟩)
        rw [e]
        intro v F' H' r1 s1 k1 h1
        cases h1 with
        | @tup a vs _ h r => exact ⟨a, rfl, ⟨vs, sqTK eK r1.core.sub h⟩, p (Itt X.K a) F' H' r1 s1 k1 (by rw [← eK]; exact walks_tup h r)⟩
def gRng : List D → Option (List D)
  | [.int j] => if -(2 ^ 62) ≤ j ∧ j < 2 ^ 62 then some (rng 0 j.toNat) else none
  | _ => none
def gRng2 : List D → Option (List D)
  | [.int i, .int j] => if -(2 ^ 62) ≤ i ∧ i < 2 ^ 62 ∧ -(2 ^ 62) ≤ j ∧ j < 2 ^ 62 then some (rng i (j - i).toNat) else none
  | _ => none
theorem j_range1 {a : Expr} {ms : MM (List D)} {p pos : Pos} (hg : Gl X "range") (hm : X.mg "range" = none) (ha : PA X [a] (rdA X.K W ms)) (hs : starEach [a] X.env = [(false, eval a X.env)] := by rfl) : PI X tg (.Call (.Name "range" p) [a] [] pos) (rd rlI X.K W (mBind ms fun ds => oB (gRng ds))) :=
  piI (pi_range1 hg hm ha hs) fun σ H R h => rd_unL (rl := rlI) (r := fun vs H1 R => ∃ j : Int, vs = [.int j] ∧ -(2 ^ 62) ≤ j ∧ j < 2 ^ 62 ∧ R (Itr 0 j.toNat) H1) (fun S F H σ ρ x vs ds R eK r hv p => by
    unfold gRng at p
    split at p
    · obtain ⟨v, e, h⟩ := rep1 hv
      subst e
      cases h
      split at p
      · rename_i hz
        exact ⟨_, rfl, hz.1, hz.2, p _ F H r (Same.refl _) KeepB.refl walks_rng⟩
      · exact p.elim
    · exact p.elim) h
theorem j_range2 {a a2 : Expr} {ms : MM (List D)} {p pos : Pos} (hg : Gl X "range") (hm : X.mg "range" = none) (ha : PA X [a, a2] (rdA X.K W ms)) (hs : starEach [a, a2] X.env = [(false, eval a X.env), (false, eval a2 X.env)] := by rfl) (hs2 : starEach [a2] X.env = [(false, eval a2 X.env)] := by rfl) : PI X tg (.Call (.Name "range" p) [a, a2] [] pos) (rd rlI X.K W (mBind ms fun ds => oB (gRng2 ds))) :=
  piI (pi_range2 hg hm ha hs hs2) fun σ H R h => rd_unL (rl := rlI) (r := fun vs H1 R => ∃ i j : Int, vs = [.int i, .int j] ∧ (-(2 ^ 62) ≤ i ∧ i < 2 ^ 62 ∧ -(2 ^ 62) ≤ j ∧ j < 2 ^ 62) ∧ R (Itr i (j - i).toNat) H1) (fun S F H σ ρ x vs ds R eK r hv p => by
    unfold gRng2 at p
    split at p
    · obtain ⟨v, u, e, h, h2⟩ := rep2 hv
      subst e
      cases h
      cases h2
      split at p
      · rename_i hz
        exact ⟨_, _, rfl, hz, p _ F H r (Same.refl _) KeepB.refl walks_rng⟩
      · exact p.elim
    · exact p.elim) h
def gEnum : List D → Option (List D)
  | [.lst ds] => some (enumD ds)
  | _ => none
theorem j_enum {e : Expr} {ms : MM (List D)} {p pos tpos : Pos} {elts : List Expr} {kk : Nat} (hg : Gl X "enumerate") (hm : X.mg "enumerate" = none) (ha : PA X [e] (rdA X.K W ms)) (hs : starEach [e] X.env = [(false, eval e X.env)] := by rfl) :
    PI X (.Tuple elts kk tpos) (.Call (.Name "enumerate" p) [e] [] pos) (rd rlI X.K W (mBind ms fun ds => oB (gEnum ds))) :=
  piI (pi_enum hg hm ha hs) fun σ H R h => rd_unL (rl := rlI) (r := fun vs H1 R => ∃ a xs, vs = [.ref a] ∧ SqL X.K H1 a xs ∧ R (Ite X.K a) H1) (fun S F H σ ρ x vs ds R eK r hv p => by
    unfold gEnum at p
    split at p
    · obtain ⟨v, e, h⟩ := rep1 hv
      subst e
      cases h with
      | lst h r1 => exact ⟨_, _, rfl, sqL (r.core.sub _ _ h), p _ F H r (Same.refl _) KeepB.refl (by rw [← eK]; exact walks_enum h r1)⟩
    · exact p.elim) h
def gZip : List D → Option (List D)
  | [.lst ds, .lst es] => some (zipD ds es)
  | [.tup ds, .tup es] => some (zipD ds es)
  | _ => none
theorem j_zip {e e2 : Expr} {ms : MM (List D)} {p pos tpos : Pos} {elts : List Expr} {kk : Nat} (hg : Gl X "zip") (hm : X.mg "zip" = none) (ha : PA X [e, e2] (rdA X.K W ms)) (hs : starEach [e, e2] X.env = (false, eval e X.env) :: starEach [e2] X.env := by rfl) (hpl : (backTo pos (starEach [e2] X.env)).any (·.1) = false := by rfl) :
    PI X (.Tuple elts kk tpos) (.Call (.Name "zip" p) [e, e2] [] pos) (rd rlI X.K W (mBind ms fun ds => oB (gZip ds))) :=
  piI (RZ.pi_zipA hg hm ha hs hpl) fun σ H R h => rd_unL (rl := rlI) (r := fun vs H1 R => ∃ a b xs ys, vs = [.ref a, .ref b] ∧ ((SqL X.K H1 a xs ∧ SqL X.K H1 b ys ∧ R (Itz X.K a b) H1) ∨ (SqT X.K H1 a xs ∧ SqT X.K H1 b ys ∧ R (RZ.ItzT X.K a b) H1))) (fun S F H σ ρ x vs ds R eK r hv p => by
    unfold gZip at p
    split at p
    · obtain ⟨v, u, e, h, h2⟩ := rep2 hv
      subst e
      cases h with
      | lst h r1 =>
        cases h2 with
        | lst h' r2 => exact ⟨_, _, _, _, rfl, .inl ⟨sqL (r.core.sub _ _ h), sqL (r.core.sub _ _ h'), p _ F H r (Same.refl _) KeepB.refl (by rw [← eK]; exact walks_zip h r1 h' r2)⟩⟩
    · obtain ⟨v, u, e, h, h2⟩ := rep2 hv
      subst e
      cases h with
      | tup h r1 =>
        cases h2 with
        | tup h' r2 => exact ⟨_, _, _, _, rfl, .inr ⟨sqTK eK r.core.sub h, sqTK eK r.core.sub h', p _ F H r (Same.refl _) KeepB.refl (by rw [← eK]; exact walks_zipT h r1 h' r2)⟩⟩
    · exact p.elim) h
end
end Mi

/-! Mi7: targets, list comprehensions. -/
namespace Mi
open PySem PySem.Spec L2
/-! ### slots stored -/
theorem Rel.put {S : Cf} {F H : Hp} {σ : L2.St} {ρ : En} {x : Bx} {v : V} {d : D} (r : Rel S F H σ ρ x) (i : Nat) (h : Rep S.K S.b F v d) : Rel S F H (σ.set i (some v)) (ρ.set i (.fz d)) x where
  core := r.core
  len := by rw [List.length_set, List.length_set, r.len]
  slot := fun j s e => by
    by_cases hj : i = j
    · subst hj
      have hi : i < ρ.length := by
        have := (List.getElem?_eq_some_iff.mp e).1
        rwa [List.length_set] at this
      rw [List.getElem?_set_self hi] at e
      cases e
      exact ⟨some v, List.getElem?_set_self (by rw [← r.len]; exact hi), v, rfl, h⟩
    · rw [List.getElem?_set_ne hj] at e ⊢
      exact r.slot j s e
  dist := fun a b s t p hab ea eb os ot ha => by
    by_cases h1 : i = a
    · subst h1
      have hi : i < ρ.length := by
        have := (List.getElem?_eq_some_iff.mp ea).1
        rwa [List.length_set] at this
      rw [List.getElem?_set_self hi] at ea
      cases ea
      cases os
    · by_cases h2 : i = b
      · subst h2
        have hi : i < ρ.length := by
          have := (List.getElem?_eq_some_iff.mp eb).1
          rwa [List.length_set] at this
        rw [List.getElem?_set_self hi] at eb
        cases eb
        cases ot
      · rw [List.getElem?_set_ne h1] at ea ha
        rw [List.getElem?_set_ne h2] at eb ⊢
        exact r.dist a b s t p hab ea eb os ot ha
/-- a slot forgotten -/
theorem Rel.drop {S : Cf} {F H : Hp} {σ : L2.St} {ρ : En} {x : Bx} {v : Option V} (r : Rel S F H σ ρ x) (i : Nat) : Rel S F H (σ.set i v) (ρ.set i .un) x where
  core := r.core
  len := by rw [List.length_set, List.length_set, r.len]
  slot := fun j s e => by
    by_cases hj : i = j
    · subst hj
      have hi : i < ρ.length := by
        have := (List.getElem?_eq_some_iff.mp e).1
        rwa [List.length_set] at this
      rw [List.getElem?_set_self hi] at e
      cases e
      exact ⟨v, List.getElem?_set_self (by rw [← r.len]; exact hi), trivial⟩
    · rw [List.getElem?_set_ne hj] at e ⊢
      exact r.slot j s e
  dist := fun a b s t p hab ea eb os ot ha => by
    by_cases h1 : i = a
    · subst h1
      have hi : i < ρ.length := by
        have := (List.getElem?_eq_some_iff.mp ea).1
        rwa [List.length_set] at this
      rw [List.getElem?_set_self hi] at ea
      cases ea
      cases os
    · by_cases h2 : i = b
      · subst h2
        have hi : i < ρ.length := by
          have := (List.getElem?_eq_some_iff.mp eb).1
          rwa [List.length_set] at this
        rw [List.getElem?_set_self hi] at eb
        cases eb
        cases ot
      · rw [List.getElem?_set_ne h1] at ea ha
        rw [List.getElem?_set_ne h2] at eb ⊢
        exact r.dist a b s t p hab ea eb os ot ha

/-! ### targets -/
inductive Tg where
  | nm (i : Nat)
  | tp (is : List Nat)
def Tg.ixs : Tg → List Nat
  | .nm i => [i]
  | .tp is => is
def putE : List Nat → List D → En → En
  | i :: is, d :: ds, ρ => putE is ds (ρ.set i (.fz d))
  | _, _, ρ => ρ
def putV : List Nat → List V → L2.St → L2.St
  | i :: is, v :: vs, σ => putV is vs (σ.set i (some v))
  | _, _, σ => σ
def Tg.asg (t : Tg) (d : D) (ρ : En) : Option En := match t with
  | .nm i => some (ρ.set i (.fz d))
  | .tp is => match d with
    | .tup ds => if ds.length = is.length then some (putE is ds ρ) else none
    | .lst ds => if ds.length = is.length then some (putE is ds ρ) else none
    | _ => none
def gSeq : List Nat → TGs
  | [] => gNil
  | i :: is => gCons (gName i) (gSeq is)
def Tg.g (K : PySem.W.Frag) : Tg → TG
  | .nm i => gName i
  | .tp is => fun v σ H Q => gTup K is.length (gSeq is) v σ H Q ∨ gLst K is.length (gSeq is) v σ H Q
theorem gSeq_ok : ∀ (is : List Nat) (vs : List V) (σ : L2.St) (H : Hp) (Q : L2.St → Hp → Prop), vs.length = is.length → Q (putV is vs σ) H → gSeq is vs σ H Q
  | [], [], σ, H, Q, _, q => ⟨rfl, q⟩
  | i :: is, v :: vs, σ, H, Q, h, q => ⟨v, vs, rfl, gSeq_ok is vs _ H Q (by simpa using h) q⟩
  | [], _ :: _, _, _, _, h, _ => by simp at h
  | _ :: _, [], _, _, _, h, _ => by simp at h
theorem Rel.puts {S : Cf} {F H : Hp} {x : Bx} : ∀ (is : List Nat) {vs : List V} {ds : List D} {σ : L2.St} {ρ : En}, Rel S F H σ ρ x → RepL S.K S.b F vs ds → Rel S F H (putV is vs σ) (putE is ds ρ) x
  | [], _, _, _, _, r, _ => r
  | _ :: _, _, _, _, _, r, .nil => r
  | i :: is, _, _, _, _, r, .cons h t => Rel.puts is (r.put i h) t
/-- a target takes a value -/
theorem Tg.ok {S : Cf} {F H : Hp} {σ : L2.St} {ρ ρ' : En} {x : Bx} {v : V} {d : D} {Q : L2.St → Hp → Prop} (t : Tg) (r : Rel S F H σ ρ x) (h : Rep S.K S.b F v d) (e : t.asg d ρ = some ρ')
    (q : ∀ vs, Rel S F H (putV t.ixs vs σ) ρ' x → Q (putV t.ixs vs σ) H) : t.g S.K v σ H Q := by
  cases t with
  | nm i =>
    cases e
    exact q [v] (r.put i h)
  | tp is =>
    cases h <;> try (cases e; done)
    · rename_i a vs ds h r1
      replace e : (if ds.length = is.length then some (putE is ds ρ) else none) = some ρ' := e
      split at e
      · rename_i hl
        cases e
        exact .inr ⟨a, vs, rfl, sqL (r.core.sub _ _ h), by rw [r1.length, hl], gSeq_ok is vs σ H Q (by rw [r1.length, hl]) (q vs (r.puts is r1))⟩
      · cases e
    · rename_i a vs ds h r1
      replace e : (if ds.length = is.length then some (putE is ds ρ) else none) = some ρ' := e
      split at e
      · rename_i hl
        cases e
        exact .inl ⟨a, vs, rfl, sqTK rfl r.core.sub h, by rw [r1.length, hl], gSeq_ok is vs σ H Q (by rw [r1.length, hl]) (q vs (r.puts is r1))⟩
      · cases e
section
variable {X : Cx}
theorem pgOr {e : Expr} {t t' : TG} (h : PG X e t) (h' : PG X e t') : PG X e (fun v σ H Q => t v σ H Q ∨ t' v σ H Q) := ⟨fun pins s σ H v u Q I r q => by
  rcases q with q | q
  · exact h.run pins s σ H v u Q I r q
  · exact h'.run pins s σ H v u Q I r q⟩
theorem jg_nm (i : Nat) {y : Str} {pos : Pos} (hN : X.N.Nodup) (hi : X.N[i]? = some y := by rfl) (hx : Loc X.env.scope y := by first | exact Or.inl rfl | exact Or.inr rfl) (hf : X.fn y = true ∨ X.env.scope.names.lookup y = some .local := by first | exact .inl rfl | exact .inr rfl | assumption) : PG X (.Name y pos) ((Tg.nm i).g X.K) := pg_name hN hi hx hf
theorem jgs_nil : PGs X [] (gSeq []) := pgs_nil
theorem jgs_cons {e : Expr} {i : Nat} {es : List Expr} {is : List Nat} (h : PG X e (gName i)) (r : PGs X es (gSeq is)) (hs : List.map (fun x => x.snd) (assignEach (e :: es) X.env) = assign e X.env :: List.map (fun x => x.snd) (assignEach es X.env) := by rfl) : PGs X (e :: es) (gSeq (i :: is)) := pgs_cons h r hs
theorem jg_tp {es : List Expr} {is : List Nat} {k : Nat} {pos : Pos} (hc : X.calm = true) (h : PGs X es (gSeq is)) (hn : (assignEach es X.env).length = is.length := by rfl) (hst : (assignEach es X.env).findIdx? (·.1) = none := by rfl) : PG X (.Tuple es k pos) ((Tg.tp is).g X.K) :=
  pgOr (pg_tup hc h hn hst) (pg_lst hc h hn hst)
end
/-! ### wiped slots -/
def wipeE (ρ : En) : List Nat → En
  | [] => ρ
  | v :: vs => (wipeE ρ vs).set v .un
theorem Rel.wipe {S : Cf} {F H : Hp} {σ : L2.St} {ρ : En} {x : Bx} (r : Rel S F H σ ρ x) : ∀ vs, Rel S F H (wipe σ vs) (wipeE ρ vs) x
  | [] => r
  | v :: vs => (r.wipe vs).drop v
theorem set_none {σ : L2.St} {i : Nat} {v : Option V} (h : σ[i]? = some none ∨ σ.length ≤ i) : (σ.set i v).set i none = σ := by
  rw [List.set_set]
  rcases h with h | h
  · obtain ⟨h1, h2⟩ := List.getElem?_eq_some_iff.mp h
    conv => rhs; rw [← List.set_getElem_self h1]
    rw [h2]
  · exact List.set_eq_of_length_le h
theorem wipe_get {σ : L2.St} {i : Nat} : ∀ {vs : List Nat}, i ∈ vs → (L2.wipe σ vs)[i]? = some none ∨ (L2.wipe σ vs).length ≤ i
  | v :: vs, h => by
    unfold L2.wipe
    by_cases e : v = i
    · subst e
      by_cases hl : v < (L2.wipe σ vs).length
      · exact .inl (List.getElem?_set_self hl)
      · exact .inr (by rw [List.length_set]; omega)
    · have h2 : i ∈ vs := (List.mem_cons.mp h).resolve_left fun z => e z.symm
      rcases wipe_get (σ := σ) h2 with q | q
      · exact .inl (by rw [List.getElem?_set_ne e]; exact q)
      · exact .inr (by rw [List.length_set]; exact q)
theorem wipe_set {i : Nat} {v : Option V} : ∀ {vs : List Nat} {σ : L2.St}, i ∈ vs → L2.wipe (σ.set i v) vs = L2.wipe σ vs
  | w :: vs, σ, h => by
    unfold L2.wipe
    by_cases hi : i ∈ vs
    · rw [wipe_set hi]
    · have e : i = w := (List.mem_cons.mp h).resolve_right hi
      subst e
      have key : ∀ {us : List Nat}, i ∉ us → L2.wipe (σ.set i v) us = (L2.wipe σ us).set i v := by
        intro us
        induction us with
        | nil => intro _; rfl
        | cons u us ih =>
          intro hu
          have h1 : i ≠ u := fun z => hu (by rw [z]; exact List.mem_cons_self)
          have h2 : i ∉ us := fun z => hu (List.mem_cons_of_mem _ z)
          unfold L2.wipe
          rw [ih h2, List.set_comm _ _ h1]
      rw [key hi, List.set_set]
theorem wipe_wipe {σ : L2.St} : ∀ (vs us : List Nat), (∀ v ∈ us, v ∈ vs) → L2.wipe (L2.wipe σ us) vs = L2.wipe σ vs
  | vs, [], _ => rfl
  | vs, u :: us, h => by
    show L2.wipe ((L2.wipe σ us).set u none) vs = L2.wipe σ vs
    rw [wipe_set (h u List.mem_cons_self)]
    exact wipe_wipe vs us fun v hv => h v (List.mem_cons_of_mem _ hv)
theorem wipe_putV {vs : List Nat} : ∀ (is : List Nat) (us : List V) (σ : L2.St), (∀ i ∈ is, i ∈ vs) → L2.wipe (putV is us σ) vs = L2.wipe σ vs
  | [], _, _, _ => rfl
  | _ :: _, [], _, _ => rfl
  | i :: is, u :: us, σ, h => by
    show L2.wipe (putV is us (σ.set i (some u))) vs = L2.wipe σ vs
    rw [wipe_putV is us _ fun j hj => h j (List.mem_cons_of_mem _ hj), wipe_set (h i List.mem_cons_self)]

/-! ### list comprehensions -/
/-- owned slots are not seen from within -/
def shut : En → En := List.map fun s => match s with
  | .fz d => .fz d
  | _ => .un
theorem Rel.shut {S : Cf} {F H : Hp} {σ : L2.St} {ρ : En} {x : Bx} (r : Rel S F H σ ρ x) : Rel ⟨S.K, S.b, H, F, S.me⟩ F H σ (shut ρ) x where
  core := r.core.enter
  len := by
    unfold Mi.shut
    rw [List.length_map, r.len]
  slot := fun i s e => by
    unfold Mi.shut at e
    rw [List.getElem?_map] at e
    cases q : ρ[i]? with
    | none =>
      rw [q] at e
      cases e
    | some t =>
      rw [q] at e
      obtain ⟨v, e1, h⟩ := r.slot i t q
      refine ⟨v, e1, ?_⟩
      cases t with
      | fz d =>
        cases e
        exact h
      | un =>
        cases e
        trivial
      | ol ds =>
        cases e
        trivial
      | od ds =>
        cases e
        trivial
      | oo cc ff =>
        cases e
        trivial
  dist := fun i j s t p _ ei _ os _ _ => by
    unfold Mi.shut at ei
    rw [List.getElem?_map] at ei
    cases q : ρ[i]? with
    | none =>
      rw [q] at ei
      cases ei
    | some t =>
      rw [q] at ei
      cases t <;> cases ei <;> cases os
def lcRun (tg : Tg) (cond : MM Bool) (elt : MM D) (ρ : En) : List D → List D → Bx → R (List D)
  | [], acc, x => .val acc x
  | d :: ds, acc, x => match tg.asg d ρ with
    | none => .out
    | some ρ1 => match cond ρ1 x with
      | .val true x1 => (match elt ρ1 x1 with
        | .val e x2 => if acc.length < big then lcRun tg cond elt ρ ds (acc ++ [e]) x2 else .out
        | _ => .out)
      | .val false x1 => lcRun tg cond elt ρ ds acc x1
      | _ => .out
def mLcL (mi : MM (List D)) (tg : Tg) (cond : MM Bool) (elt : MM D) (own : List Nat) : MM (List D) := fun ρ x => match mi ρ x with
  | .val ds x1 => lcRun tg cond elt (wipeE (shut ρ) own) ds [] x1
  | .exc c fs x1 => .exc c fs x1
  | .out => .out
def mLc (mi : MM (List D)) (tg : Tg) (cond : MM Bool) (elt : MM D) (own : List Nat) : MM D := mBind (mLcL mi tg cond elt own) fun ds => fun _ x => .val (.lst ds) x
abbrev Wf : WX := fun _ _ _ _ => False
section
variable {X : Cx} {W : WX}
def mYes : MM Bool := fun _ x => .val true x
theorem j_yes : PTs X [] (rdT X.K W mYes) := ⟨fun pins s σ H Q I h => pts_nil.run pins s σ H Q I (rd_valB h)⟩
theorem j_when {c : Expr} {m : MM Bool} (h : PT X c (rdT X.K W m)) : PTs X [c] (rdT X.K W m) := pts_one h
end
theorem Core.freeze {S : Cf} {F H : Hp} {x : Bx} (r : Core S F H x) {p : Addr} {o : HO} (h : H p = some o) (hf : F p = none) (nb : S.b ≠ some p) (n0 : S.H0 p = none) : Core S (upd F p o) H x where
  sub := fun q u e => by
    by_cases hq : q = p
    · subst hq
      rw [upd_same] at e
      rw [h, ← e]
    · rw [upd_ne hq] at e
      exact r.sub q u e
  f0 := r.f0.trans (Same.new hf)
  fresh := fun q h1 h2 => by
    have hq : q ≠ p := fun e => h1 (e ▸ n0)
    rw [upd_ne hq]
    exact r.fresh q h1 h2
  keep := r.keep
  box := fun a e => by
    have hq : a ≠ p := fun z => nb (z ▸ e)
    rw [upd_ne hq]
    exact r.box a e
theorem Core.write {S : Cf} {F H : Hp} {x : Bx} (r : Core S F H x) {p : Addr} {o : HO} (hf : F p = none) (nb : S.b ≠ some p) (n0 : S.H0 p = none) : Core S F (upd H p o) x where
  sub := fun q u e => by
    have hq : q ≠ p := fun z => by
      rw [z, hf] at e
      cases e
    rw [upd_ne hq]
    exact r.sub q u e
  f0 := r.f0
  fresh := r.fresh
  keep := fun q u e n => by
    have hq : q ≠ p := fun z => by
      rw [z, n0] at e
      cases e
    rw [upd_ne hq]
    exact r.keep q u e n
  box := fun a e => by
    have hq : a ≠ p := fun z => nb (z ▸ e)
    rw [upd_ne hq]
    exact r.box a e
def Pure (ρ : En) : Prop := ∀ (i : Nat) (s : Slot), ρ[i]? = some s → s = .un ∨ ∃ d, s = .fz d
theorem pure_shut (ρ : En) : Pure (shut ρ) := fun i s e => by
  unfold shut at e
  rw [List.getElem?_map] at e
  cases q : ρ[i]? with
  | none =>
    rw [q] at e
    cases e
  | some t =>
    rw [q] at e
    cases t <;> cases e
    · exact .inl rfl
    · exact .inr ⟨_, rfl⟩
    · exact .inl rfl
    · exact .inl rfl
    · exact .inl rfl
theorem Pure.wipe {ρ : En} (h : Pure ρ) : ∀ vs, Pure (wipeE ρ vs)
  | [] => h
  | v :: vs => fun i s e => by
    have ih := Pure.wipe h vs
    unfold wipeE at e
    by_cases hj : v = i
    · subst hj
      have hi : v < (wipeE ρ vs).length := by
        have := (List.getElem?_eq_some_iff.mp e).1
        rwa [List.length_set] at this
      rw [List.getElem?_set_self hi] at e
      cases e
      exact .inl rfl
    · rw [List.getElem?_set_ne hj] at e
      exact ih i s e
theorem Rel.pure {S S2 : Cf} {F H F2 H2 : Hp} {σ : L2.St} {ρ : En} {x x2 : Bx} (r : Rel S F H σ ρ x) (hp : Pure ρ) (c : Core S2 F2 H2 x2) (s : Same F F2) (eK : S2.K = S.K) (eb : S2.b = S.b) : Rel S2 F2 H2 σ ρ x2 where
  core := c
  len := r.len
  slot := fun i t e => by
    obtain ⟨v, e1, h⟩ := r.slot i t e
    refine ⟨v, e1, ?_⟩
    rcases hp i t e with rfl | ⟨d, rfl⟩
    · trivial
    · obtain ⟨u, e2, q⟩ := h
      exact ⟨u, e2, by rw [eK, eb]; exact q.mono s⟩
  dist := fun i j t u p _ ei _ os _ _ => by
    rcases hp i t ei with rfl | ⟨d, rfl⟩ <;> cases os
section
variable {X : Cx} {W : WX}
theorem lc_go {K : PySem.W.Frag} {tg : Tg} {mc : MM Bool} {me : MM D} {vs : List Nat} (htg : ∀ i ∈ tg.ixs, i ∈ vs) {S : Cf} {σ : L2.St} {F1 H1 : Hp} {ρ : En} {x1 : Bx} {J : It} {ds : List D} {Q : VK} {P : R (List D) → Prop} (eK : S.K = K) (r1 : Rel S F1 H1 σ ρ x1) (w1 : Walks S.K S.b F1 J ds)
    (hP : ∀ r, P r → ∃ a x, r = .val a x) (p : P (lcRun tg mc me (wipeE (shut ρ) vs) ds [] x1)) (Dl : Addr) (hD : H1 Dl = none)
    (fin : ∀ acc x' F' H' us, P (.val acc x') → Core ⟨S.K, S.b, H1, F1, S.me⟩ F' H' x' → F' Dl = none → H' Dl = some (.lst us) → RepL S.K S.b F' us acc → Q (.ref Dl) H') :
    ∃ W : Nat → Nat → Hp → Prop, (∃ m, W 0 m (upd H1 Dl (.lst []))) ∧ ∀ i m H, W i m H → (J.stop i H ∧ Q (.ref Dl) H) ∨ (J.go i H ∧ ∃ Nx : Hp → Prop, (∀ H', Nx H' → ∃ m', m' < m ∧ W (i + 1) m' H') ∧ ∀ x H', J.yld i H x H' → tg.g K x (L2.wipe σ vs) H' fun σ2 H2 => L2.wipe σ2 vs = L2.wipe σ vs ∧ rdT K Wf mc σ2 H2 fun b H3 =>
      if b = true then rdE K Wf me σ2 H3 fun y H4 => ∃ acc, H4 Dl = some (.lst acc) ∧ acc.length < sizeLine ∧ Nx (upd H4 Dl (.lst (acc ++ [y]))) else Nx H3) := by
  have no1 : ¬ P .out := fun h => by
    obtain ⟨a, x, e⟩ := hP _ h
    cases e
  have rw0 : Rel ⟨S.K, S.b, H1, F1, S.me⟩ F1 H1 (L2.wipe σ vs) (wipeE (shut ρ) vs) x1 := r1.shut.wipe vs
  have pw : Pure (wipeE (shut ρ) vs) := (pure_shut ρ).wipe vs
  generalize hρ : wipeE (shut ρ) vs = ρw at p rw0 pw
  have nb : S.b ≠ some Dl := r1.core.ne_box hD
  refine ⟨fun i m H' => ∃ F' x' us acc, m = ds.length - i ∧ i ≤ ds.length ∧ Core ⟨S.K, S.b, H1, F1, S.me⟩ F' H' x' ∧ F' Dl = none ∧ H' Dl = some (.lst us) ∧ RepL S.K S.b F' us acc ∧ P (lcRun tg mc me ρw (ds.drop i) acc x'), ⟨ds.length, F1, x1, [], [], rfl, Nat.zero_le _, r1.core.enter.allocO hD, r1.core.nF hD, upd_same, .nil, p⟩, fun i m H' hW => ?_⟩
  obtain ⟨F', x', us, acc, rfl, hi, c', fD, hDl, ru, pp⟩ := hW
  obtain ⟨wa, wb⟩ := w1 ⟨S.K, S.b, H1, F1, S.me⟩ i F' H' x' rfl rfl c'.f0 c'
  by_cases hlt : i < ds.length
  · obtain ⟨hgo, hy⟩ := wa hlt
    refine .inr ⟨hgo, fun H'' => ∃ F' x' us acc, Core ⟨S.K, S.b, H1, F1, S.me⟩ F' H'' x' ∧ F' Dl = none ∧ H'' Dl = some (.lst us) ∧ RepL S.K S.b F' us acc ∧ P (lcRun tg mc me ρw (ds.drop (i + 1)) acc x'), fun H'' hN => ?_, fun v H'' y => ?_⟩
    · obtain ⟨F2, x2, us2, acc2, a1, a2, a3, a4, a5⟩ := hN
      exact ⟨ds.length - (i + 1), by omega, F2, x2, us2, acc2, rfl, hlt, a1, a2, a3, a4, a5⟩
    · obtain ⟨F2, d, c2, s2, k2, nw, ed, hv⟩ := hy v H'' y
      have f2 : F2 Dl = none := nw Dl (by rw [hDl]; intro z; cases z) fD nb
      have h2 : H'' Dl = some (.lst us) := k2 Dl _ hDl nb
      have edr : ds.drop i = d :: ds.drop (i + 1) := by
        obtain ⟨hl, e1⟩ := List.getElem?_eq_some_iff.mp ed
        rw [List.drop_eq_getElem_cons hl, e1]
      rw [edr] at pp
      unfold lcRun at pp
      cases ea : tg.asg d ρw with
      | none =>
        rw [ea] at pp
        exact (no1 pp).elim
      | some ρ1 =>
        rw [ea] at pp
        dsimp only at pp
        have re : Rel ⟨S.K, S.b, H'', F2, S.me⟩ F2 H'' (L2.wipe σ vs) ρw x' := rw0.pure pw c2.enter (c'.f0.trans s2) rfl rfl
        rw [← eK]
        refine Tg.ok (S := ⟨S.K, S.b, H'', F2, S.me⟩) tg re hv ea fun zs rz => ?_
        refine ⟨by rw [wipe_putV _ _ _ htg, wipe_wipe vs vs fun _ h => h], ?_⟩
        refine ⟨⟨S.K, S.b, H'', F2, S.me⟩, F2, ρ1, x', rfl, rz, ?_⟩
        cases e3 : mc ρ1 x' with
        | exc c fs x3 =>
          rw [e3] at pp
          exact (no1 pp).elim
        | out =>
          rw [e3] at pp
          exact (no1 pp).elim
        | val c x3 =>
          rw [e3] at pp
          intro b F3 H3 r3 s3 k3 hb
          have hb : b = c := hb
          subst hb
          cases b with
          | false =>
            refine (show ∃ F' x' us acc, Core ⟨S.K, S.b, H1, F1, S.me⟩ F' H3 x' ∧ F' Dl = none ∧ H3 Dl = some (.lst us) ∧ RepL S.K S.b F' us acc ∧ P (lcRun tg mc me ρw (ds.drop (i + 1)) acc x') from ?_)
            exact ⟨F3, x3, us, acc, c2.exit r3.core, r3.core.fresh Dl (by rw [show (⟨S.K, S.b, H'', F2, S.me⟩ : Cf).H0 Dl = H'' Dl from rfl, h2]; intro z; cases z) f2, k3 Dl _ h2 nb, ru.mono (s2.trans s3), pp⟩
          | true =>
            refine (show rdE S.K Wf me _ H3 _ from ?_)
            refine ⟨⟨S.K, S.b, H'', F2, S.me⟩, F3, ρ1, x3, rfl, r3, ?_⟩
            dsimp only at pp
            cases e4 : me ρ1 x3 with
            | exc c fs x3 =>
              rw [e4] at pp
              exact (no1 pp).elim
            | out =>
              rw [e4] at pp
              exact (no1 pp).elim
            | val d4 x4 =>
              rw [e4] at pp
              dsimp only at pp
              split at pp
              · rename_i hz
                intro v4 F4 H4 r4 s4 k4 h4
                have f4 : F4 Dl = none := r4.core.fresh Dl (by rw [show (⟨S.K, S.b, H'', F2, S.me⟩ : Cf).H0 Dl = H'' Dl from rfl, h2]; intro z; cases z) f2
                refine ⟨us, k4 Dl _ (k3 Dl _ h2 nb) nb, by rw [ru.length]; exact big_lt hz, F4, x4, us ++ [v4], acc ++ [d4], (c2.exit r4.core).write f4 nb hD, f4, upd_same, (ru.mono ((s2.trans s3).trans s4)).append (.cons h4 .nil), pp⟩
              · exact (no1 pp).elim
  · have ei : i = ds.length := by omega
    refine .inl ⟨wb (by omega), ?_⟩
    rw [ei, List.drop_length] at pp
    exact fin acc x' F' H' us pp c' fD hDl ru
theorem lcRun_exc (tg : Tg) (mc : MM Bool) (me : MM D) (ρ : En) : ∀ (ds acc : List D) (x : Bx) (c : Str) (fs : Fl) (x2 : Bx), lcRun tg mc me ρ ds acc x ≠ .exc c fs x2
  | [], _, _, _, _, _ => fun h => by
    unfold lcRun at h
    cases h
  | d :: ds, acc, x, c, fs, x2 => fun h => by
    unfold lcRun at h
    split at h
    · cases h
    · split at h
      · split at h
        · split at h
          · exact lcRun_exc tg mc me ρ ds _ _ c fs x2 h
          · cases h
        · cases h
      · exact lcRun_exc tg mc me ρ ds _ _ c fs x2 h
      · cases h
theorem rd_lc {K : PySem.W.Frag} {mi : MM (List D)} {tg : Tg} {mc : MM Bool} {me : MM D} {vs : List Nat} (htg : ∀ i ∈ tg.ixs, i ∈ vs) {σ : L2.St} {H : Hp} {Q : VK} (h : rdE K W (mLc mi tg mc me vs) σ H Q) : tLc (rd rlI K W mi) (tg.g K) (rdT K Wf mc) (rdE K Wf me) vs σ H Q := by
  obtain ⟨S, F, ρ, x, eK, rr, p⟩ := h
  refine (show rd rlI K W mi σ H _ from ?_)
  refine ⟨S, F, ρ, x, eK, rr, ?_⟩
  replace p : Post rlD S W σ F H ρ ((mLcL mi tg mc me vs ρ x).bind fun ds x => .val (.lst ds) x) Q := p
  unfold mLcL at p
  cases e : mi ρ x with
  | exc c fs x1 =>
    rw [e] at p
    exact p
  | out =>
    rw [e] at p
    exact p
  | val ds x1 =>
    rw [e] at p
    dsimp only at p
    intro J F1 H1 r1 s1 k1 w1 Dl hD
    cases e2 : lcRun tg mc me (wipeE (shut ρ) vs) ds [] x1 with
    | out =>
      rw [e2] at p
      exact p.elim
    | exc c fs x2 => exact (lcRun_exc _ _ _ _ _ _ _ _ _ _ e2).elim
    | val acc x2 =>
      rw [e2] at p
      refine lc_go (P := fun r => r = .val acc x2) htg eK r1 w1 (fun r h => ⟨_, _, h⟩) e2 Dl hD fun acc' x' F' H' us hp c' fD hDl ru => ?_
      cases hp
      have c3 : Core ⟨S.K, S.b, H1, F1, S.me⟩ (upd F' Dl (.lst us)) H' x2 := c'.freeze hDl fD (r1.core.ne_box hD) hD
      obtain ⟨a1, a2, a3⟩ := r1.back c3
      exact p (.ref Dl) _ H' a1 (s1.trans a2) (k1.trans a3) (.lst upd_same (ru.mono (Same.new fD)))
theorem j_lc {elt tgx iter : Expr} {ifs : List Expr} {scope : Scope} {own : List (Str × Nat)} {nl : List Nat} {pos : Pos} {mi : MM (List D)} {tg : Tg} {mc : MM Bool} {me : MM D} (hc : X.calm = true) (hN : X.N.Nodup) (hi : PI X tgx iter (rd rlI X.K W mi)) (ok : BlkOk X.N X.env.scope scope own)
    (hg : ∀ (s : Shared) (H : Hp) (C : Addr) (cl : List (Str × Addr)) (fp : List Addr), PG (X.blk s H scope (compEnvC scope cl C X.env) fp) tgx (tg.g X.K)) (ht : ∀ (s : Shared) (H : Hp) (C : Addr) (cl : List (Str × Addr)) (fp : List Addr), PTs (X.blk s H scope (compEnvC scope cl C X.env) fp) ifs (rdT X.K Wf mc))
    (he : ∀ (s : Shared) (H : Hp) (C : Addr) (cl : List (Str × Addr)) (fp : List Addr), PE (X.blk s H scope (compEnvC scope cl C X.env) fp) elt (rdE X.K Wf me)) (hnl : own.map (·.2) = nl := by rfl) (htg : ∀ i ∈ tg.ixs, i ∈ nl := by decide) (hs : ∀ x, foldedSetIterable iter X.env x = pure x := by intro _; rfl) :
    PE X (.ListComp elt [⟨tgx, iter, ifs, 0⟩] scope pos) (rdE X.K W (mLc mi tg mc me nl)) := by
  subst hnl
  exact peI (pe_lc hc hN hi ok hg ht he hs) fun σ H Q h => rd_lc htg h
end
end Mi

/-! Mi8: statements. -/
namespace Mi
open PySem PySem.Spec L2
inductive RS where
  | nx (ρ : En) (x : Bx)
  | brk (ρ : En) (x : Bx)
  | cnt (ρ : En) (x : Bx)
  | ret (d : D) (x : Bx)
  | retN (ds : List D) (x : Bx)
  | exc (c : Str) (fs : Fl) (ρ : En) (x : Bx)
  | out
abbrev MS := En → Bx → RS
def PostS (S : Cf) (W : WX) (r : RS) (D : Ends) : Prop := match r with
  | .nx ρ x => ∀ σ F H, Rel S F H σ ρ x → D.nx σ H
  | .brk ρ x => ∀ σ F H, Rel S F H σ ρ x → D.bk σ H
  | .cnt ρ x => ∀ σ F H, Rel S F H σ ρ x → D.ct σ H
  | .ret d x => ∀ v F H, Core S F H x → Rep S.K S.b F v d → D.rt v H
  | .retN ds x => ∀ p vs F H, Core S F H x → S.b ≠ some p → S.H0 p = none → F p = none → H p = some (.lst vs) → RepL S.K S.b F vs ds → D.rt (.ref p) H
  | .exc c fs ρ x => ∀ σ F H dd, Rel S F H σ ρ x → XdOk S F dd fs → W (.ref (He.ga S.K c)) dd σ H
  | .out => False
def rdS (K : PySem.W.Frag) (W : WX) (m : MS) : TS := fun D σ H => ∃ S F ρ x, S.K = K ∧ Rel S F H σ ρ x ∧ PostS S W (m ρ x) D
section
variable {X : Cx} {W : WX}
def mNext : MS := fun ρ x => .nx ρ x
def mSeq (m n : MS) : MS := fun ρ x => match m ρ x with
  | .nx ρ' x' => n ρ' x'
  | r => r
theorem js_nil : PSs X [] (rdS X.K W mNext) := pssI pss_nil fun D σ H ⟨S, F, ρ, x, eK, r, p⟩ => p σ F H r
theorem js_cons {st : Stmt} {rest : List Stmt} {m n : MS} (h1 : PS X st (rdS X.K W m)) (h2 : PSs X rest (rdS X.K W n)) : PSs X (st :: rest) (rdS X.K W (mSeq m n)) :=
  pssI (pss_cons h1 h2) fun D σ H ⟨S, F, ρ, x, eK, r, p⟩ => by
    refine ⟨S, F, ρ, x, eK, r, ?_⟩
    unfold mSeq at p
    cases e : m ρ x with
    | nx ρ' x' =>
      rw [e] at p
      exact fun σ' F' H' r' => ⟨S, F', ρ', x', eK, r', p⟩
    | brk ρ' x' =>
      rw [e] at p
      exact p
    | cnt ρ' x' =>
      rw [e] at p
      exact p
    | ret d x' =>
      rw [e] at p
      exact p
    | retN d x' =>
      rw [e] at p
      exact p
    | exc c fs ρ' x' =>
      rw [e] at p
      exact p
    | out =>
      rw [e] at p
      exact p
theorem js_one {st : Stmt} {m : MS} (h1 : PS X st (rdS X.K W m)) : PSs X [st] (rdS X.K W m) := pss_one h1
theorem js_pass {pos : Pos} : PS X (.Pass pos) (rdS X.K W mNext) := psI ps_pass fun D σ H ⟨S, F, ρ, x, eK, r, p⟩ => p σ F H r
theorem js_doc {x : Str} {j : Nat} {pos pos' : Pos} : PS X (.Expr (.Constant (.str x) j pos) pos') (rdS X.K W mNext) := psI ps_doc fun D σ H ⟨S, F, ρ, x, eK, r, p⟩ => p σ F H r
theorem js_break {pos : Pos} : PS X (.Break pos) (rdS X.K W fun ρ x => .brk ρ x) := psI ps_break fun D σ H ⟨S, F, ρ, x, eK, r, p⟩ => p σ F H r
theorem js_continue {pos : Pos} : PS X (.Continue pos) (rdS X.K W fun ρ x => .cnt ρ x) := psI ps_continue fun D σ H ⟨S, F, ρ, x, eK, r, p⟩ => p σ F H r

/-- an expression ahead of the rest of a statement -/
def mE {α : Type} (m : MM α) (k : α → MS) : MS := fun ρ x => match m ρ x with
  | .val d x1 => k d ρ x1
  | .exc c fs x1 => .exc c fs ρ x1
  | .out => .out
theorem rd_E {α β : Type} {rl : Rl α β} {K : PySem.W.Frag} {m : MM α} {k : α → MS} {D : Ends} {σ : L2.St} {H : Hp} {Q : β → Hp → Prop} (h : rdS K W (mE m k) D σ H)
    (q : ∀ S F H' ρ x v d, S.K = K → Rel S F H' σ ρ x → rl S F v d → PostS S W (k d ρ x) D → Q v H') : rd rl K W m σ H Q := by
  obtain ⟨S, F, ρ, x, eK, r, p⟩ := h
  refine ⟨S, F, ρ, x, eK, r, ?_⟩
  unfold mE at p
  cases e : m ρ x with
  | val d x1 =>
    rw [e] at p
    exact fun v F' H' r' _ _ hv => q S F' H' ρ x1 v d eK r' hv p
  | exc c fs x1 =>
    rw [e] at p
    exact fun F' H' dd r' _ _ hd => p σ F' H' dd r' hd
  | out =>
    rw [e] at p
    exact p
def mAsg (tg : Tg) (m : MM D) : MS := mE m fun d ρ x => match tg.asg d ρ with
  | some ρ' => .nx ρ' x
  | none => .out
theorem js_asg {tgx e : Expr} {pos : Pos} {tg : Tg} {m : MM D} (he : PE X e (rdE X.K W m)) (hg : PG X tgx (tg.g X.K)) (hs : swapsWithSole [tgx] e pos.line X.env = pure false := by rfl) (hw : swappedStores [tgx] e X.env = pure none := by rfl) (h1 : (assignEach [tgx] X.env).map (·.2) = [assign tgx X.env] := by rfl) : PS X (.Assign [tgx] e pos) (rdS X.K W (mAsg tg m)) :=
  psI (ps_asg he hg hs hw h1) fun D σ H h => rd_E (rl := rlD) h fun S F H' ρ x v d eK r hv p => by
    cases e : tg.asg d ρ with
    | none =>
      rw [e] at p
      exact p.elim
    | some ρ' =>
      rw [e] at p
      rw [← eK]
      exact Tg.ok tg r hv e fun vs r' => p _ _ _ r'
/-- y = [..] -/
theorem js_setLc {i : Nat} {y : Str} {py : Pos} {elt tgx iter : Expr} {ifs : List Expr} {scope : Scope} {own : List (Str × Nat)} {nl : List Nat} {pos spos : Pos} {mi : MM (List D)} {tg : Tg} {mc : MM Bool} {me : MM D} (hc : X.calm = true) (hN : X.N.Nodup) (hy : X.N[i]? = some y) (hyl : X.env.scope.names.lookup y = some .local)
    (hsw : swapsWith (.ListComp elt [⟨tgx, iter, ifs, 0⟩] scope pos) (some (.Name y py)) spos.line X.env = pure true) (hi : PI X tgx iter (rd rlI X.K W mi)) (ok : BlkOk X.N X.env.scope scope own)
    (hg : ∀ (s : Shared) (H : Hp) (C : Addr) (cl : List (Str × Addr)) (fp : List Addr), PG (X.blk s H scope (compEnvC scope cl C X.env) fp) tgx (tg.g X.K)) (ht : ∀ (s : Shared) (H : Hp) (C : Addr) (cl : List (Str × Addr)) (fp : List Addr), PTs (X.blk s H scope (compEnvC scope cl C X.env) fp) ifs (rdT X.K Wf mc))
    (he : ∀ (s : Shared) (H : Hp) (C : Addr) (cl : List (Str × Addr)) (fp : List Addr), PE (X.blk s H scope (compEnvC scope cl C X.env) fp) elt (rdE X.K Wf me)) (hnl : own.map (·.2) = nl := by rfl) (htg : ∀ i ∈ tg.ixs, i ∈ nl := by decide) (hs : ∀ x, foldedSetIterable iter X.env x = pure x := by intro _; rfl) :
    PS X (.Assign [.Name y py] (.ListComp elt [⟨tgx, iter, ifs, 0⟩] scope pos) spos) (rdS X.K W (mAsg (.nm i) (mLc mi tg mc me nl))) := by
  subst hnl
  exact psI (ps_setLc hc hN hy hyl hsw hi ok hg ht he hs) fun D σ H h => rd_lc htg (rd_E (rl := rlD) h fun S F H' ρ x v d eK r hv p => p _ _ _ (r.put i hv))
theorem js_expr {e : Expr} {pos : Pos} {m : MM D} (he : PE X e (rdE X.K W m)) (hs : swapsWith e none pos.line X.env = pure false := by rfl) : PS X (.Expr e pos) (rdS X.K W (mE m fun _ ρ x => .nx ρ x)) :=
  psI (ps_expr he hs) fun D σ H h => rd_E (rl := rlD) h fun S F H' ρ x v d eK r hv p => p _ _ _ r
def mRet (m : MM D) : MS := mE m fun d _ x => .ret d x
theorem js_ret {e : Expr} {pos : Pos} {m : MM D} (he : PE X e (rdE X.K W m)) : PS X (.Return (some e) pos) (rdS X.K W (mRet m)) :=
  psI (ps_ret he) fun D σ H h => rd_E (rl := rlD) h fun S F H' ρ x v d eK r hv p => p v F H' r.core hv
theorem js_retN {pos : Pos} : PS X (.Return none pos) (rdS X.K W fun _ x => .ret .non x) := psI ps_retN fun D σ H ⟨S, F, ρ, x, eK, r, p⟩ => p .non F H r.core .non
def mIfS (t : MM Bool) (m n : MS) : MS := mE t fun c => if c then m else n
theorem js_if {c : Expr} {a b : List Stmt} {pos : Pos} {t : MM Bool} {m n : MS} (hc : PT X c (rdT X.K W t)) (ha : PSs X a (rdS X.K W m)) (hb : PSs X b (rdS X.K W n)) : PS X (.If c a b pos) (rdS X.K W (mIfS t m n)) :=
  psI (ps_if hc ha hb) fun D σ H h => rd_E (rl := rlB) h fun S F H' ρ x v d eK r hv p => by
    have hv : v = d := hv
    subst hv
    cases v with
    | true => exact ⟨S, F, ρ, x, eK, r, p⟩
    | false => exact ⟨S, F, ρ, x, eK, r, p⟩
/-- a, b = e, f -/
def mPar (i j : Nat) (ms : MM (List D)) : MS := mE ms fun ds ρ x => match ds with
  | [d, e] => .nx ((ρ.set i (.fz d)).set j (.fz e)) x
  | _ => .out
theorem js_par {i j : Nat} {x y : Str} {a b : Expr} {ms : MM (List D)} {px py pt pos pt2 : Pos} {kt k2 : Nat} (hc : X.calm = true) (hN : X.N.Nodup) (hij : i ≠ j) (ha : PA X [a, b] (rdA X.K W ms)) (hi : X.N[i]? = some x := by rfl) (hj : X.N[j]? = some y := by rfl)
    (hx : X.env.scope.names.lookup x = some .local := by rfl) (hy : X.env.scope.names.lookup y = some .local := by rfl)
    (hw : swappedStores [.Tuple [.Name x px, .Name y py] kt pt] (.Tuple [a, b] k2 pt2) X.env = pure (some [x, y]) := by rfl) (hs : swapsWithSole [.Tuple [.Name x px, .Name y py] kt pt] (.Tuple [a, b] k2 pt2) pos.line X.env = pure false := by rfl) :
    PS X (.Assign [.Tuple [.Name x px, .Name y py] kt pt] (.Tuple [a, b] k2 pt2) pos) (rdS X.K W (mPar i j ms)) :=
  psI (ps_par hc hN hi hj hij hx hy ha hw hs) fun D σ H h => rd_E (rl := rlL) h fun S F H' ρ x vs ds eK r hv p => by
    have hv : RepL S.K S.b F vs ds := hv
    split at p
    · obtain ⟨v, u, e, h1, h2⟩ := rep2 hv
      exact ⟨v, u, e, p _ _ _ ((r.put i h1).put j h2)⟩
    · exact p.elim

/-! ### loops -/
theorem Rel.root {S : Cf} {F1 H1 : Hp} {x1 : Bx} (c : Core S F1 H1 x1) {F H : Hp} {σ : L2.St} {ρ : En} {x : Bx} (r : Rel ⟨S.K, S.b, S.H0, F1, S.me⟩ F H σ ρ x) : Rel S F H σ ρ x where
  core := ⟨r.core.sub, c.f0.trans r.core.f0, fun p h1 h2 => r.core.fresh p h1 (c.fresh p h1 h2), r.core.keep, r.core.box⟩
  len := r.len
  slot := fun i s e => let ⟨v, e1, h⟩ := r.slot i s e; ⟨v, e1, by cases s <;> exact h⟩
  dist := r.dist
theorem Rel.rooted {S : Cf} {F H : Hp} {σ : L2.St} {ρ : En} {x : Bx} (r : Rel S F H σ ρ x) : Rel ⟨S.K, S.b, S.H0, F, S.me⟩ F H σ ρ x where
  core := ⟨r.core.sub, Same.refl F, fun _ _ h => h, r.core.keep, r.core.box⟩
  len := r.len
  slot := fun i s e => let ⟨v, e1, h⟩ := r.slot i s e; ⟨v, e1, by cases s <;> exact h⟩
  dist := r.dist
theorem PostS.root {S : Cf} {F1 H1 : Hp} {x1 : Bx} (c : Core S F1 H1 x1) {r : RS} {D : Ends} (p : PostS S W r D) : PostS ⟨S.K, S.b, S.H0, F1, S.me⟩ W r D := by
  cases r with
  | nx ρ x => exact fun σ F H r => p σ F H (r.root c)
  | brk ρ x => exact fun σ F H r => p σ F H (r.root c)
  | cnt ρ x => exact fun σ F H r => p σ F H (r.root c)
  | ret d x => exact fun v F H r h => p v F H ⟨r.sub, c.f0.trans r.f0, fun q h1 h2 => r.fresh q h1 (c.fresh q h1 h2), r.keep, r.box⟩ h
  | retN ds x => exact fun q vs F H r a1 a2 => p q vs F H ⟨r.sub, c.f0.trans r.f0, fun q h1 h2 => r.fresh q h1 (c.fresh q h1 h2), r.keep, r.box⟩ a1 a2
  | exc e fs ρ x => exact fun σ F H dd r h => p σ F H dd (r.root c) h
  | out => exact p
def loopS (tg : Tg) (mb : MS) : List D → MS
  | [], ρ, x => .nx ρ x
  | d :: ds, ρ, x => match tg.asg d ρ with
    | none => .out
    | some ρ1 => match mb ρ1 x with
      | .nx ρ2 x2 => loopS tg mb ds ρ2 x2
      | .cnt ρ2 x2 => loopS tg mb ds ρ2 x2
      | .brk ρ2 x2 => .nx ρ2 x2
      | r => r
def mFor (mi : MM (List D)) (tg : Tg) (mb : MS) : MS := mE mi fun ds => loopS tg mb ds
theorem js_for {tgx iter : Expr} {body : List Stmt} {pos : Pos} {mi : MM (List D)} {tg : Tg} {mb : MS} (hp : PassesOwn (model X.prog X.w) X.A X.env X.xe) (hc : X.calm = true) (hi : PI X tgx iter (rd rlI X.K W mi)) (hg : PG X tgx (tg.g X.K)) (hb : PSs X body (rdS X.K W mb)) (hs : ∀ x, foldedSetIterable iter X.env x = pure x := by intro _; rfl) :
    PS X (.For tgx iter body [] pos) (rdS X.K W (mFor mi tg mb)) :=
  psI (ps_for hp hc hi hg hb hs) fun D σ H h => by
    refine (show rd rlI X.K W mi σ H _ from rd_E (rl := rlI) h fun S F1 H1 ρ x J ds eK r1 w1 p => ?_)
    have w1 : Walks S.K S.b F1 J ds := w1
    refine ⟨fun i m σ H => ∃ F ρ x, m = ds.length - i ∧ i ≤ ds.length ∧ Rel ⟨S.K, S.b, S.H0, F1, S.me⟩ F H σ ρ x ∧ PostS ⟨S.K, S.b, S.H0, F1, S.me⟩ W (loopS tg mb (ds.drop i) ρ x) D, ⟨ds.length, F1, ρ, x, rfl, Nat.zero_le _, r1.rooted, p.root r1.core⟩, fun i m σ' H' hW => ?_⟩
    obtain ⟨F', ρ', x', rfl, hi, r', pp⟩ := hW
    obtain ⟨wa, wb⟩ := w1 ⟨S.K, S.b, S.H0, F1, S.me⟩ i F' H' x' rfl rfl r'.core.f0 r'.core
    by_cases hlt : i < ds.length
    · obtain ⟨hgo, hy⟩ := wa hlt
      refine .inr ⟨hgo, fun σ'' H'' => ∃ F ρ x, Rel ⟨S.K, S.b, S.H0, F1, S.me⟩ F H'' σ'' ρ x ∧ PostS ⟨S.K, S.b, S.H0, F1, S.me⟩ W (loopS tg mb (ds.drop (i + 1)) ρ x) D, fun σ'' H'' hN => ?_, fun v H'' y => ?_⟩
      · obtain ⟨F2, ρ2, x2, a1, a2⟩ := hN
        exact ⟨ds.length - (i + 1), by omega, F2, ρ2, x2, rfl, hlt, a1, a2⟩
      · obtain ⟨F2, d, c2, s2, k2, nw, ed, hv⟩ := hy v H'' y
        have edr : ds.drop i = d :: ds.drop (i + 1) := by
          obtain ⟨hl, e1⟩ := List.getElem?_eq_some_iff.mp ed
          rw [List.drop_eq_getElem_cons hl, e1]
        rw [edr] at pp
        unfold loopS at pp
        have r2 : Rel ⟨S.K, S.b, S.H0, F1, S.me⟩ F2 H'' σ' ρ' x' := r'.go c2 s2 k2 nw
        cases ea : tg.asg d ρ' with
        | none =>
          rw [ea] at pp
          exact pp.elim
        | some ρ1 =>
          rw [ea] at pp
          dsimp only at pp
          rw [← eK]
          refine Tg.ok (S := ⟨S.K, S.b, S.H0, F1, S.me⟩) tg r2 hv ea fun zs rz => ?_
          refine ⟨⟨S.K, S.b, S.H0, F1, S.me⟩, F2, ρ1, x', rfl, rz, ?_⟩
          cases e3 : mb ρ1 x' with
          | nx ρ3 x3 =>
            rw [e3] at pp
            exact fun σ3 F3 H3 r3 => ⟨F3, ρ3, x3, r3, pp⟩
          | cnt ρ3 x3 =>
            rw [e3] at pp
            exact fun σ3 F3 H3 r3 => ⟨F3, ρ3, x3, r3, pp⟩
          | brk ρ3 x3 =>
            rw [e3] at pp
            exact fun σ3 F3 H3 r3 => pp σ3 F3 H3 r3
          | ret d3 x3 =>
            rw [e3] at pp
            exact pp
          | retN d3 x3 =>
            rw [e3] at pp
            exact pp
          | exc c3 f3 ρ3 x3 =>
            rw [e3] at pp
            exact pp
          | out =>
            rw [e3] at pp
            exact pp
    · have ei : i = ds.length := by omega
      refine .inl ⟨wb (by omega), ?_⟩
      rw [ei, List.drop_length] at pp
      exact pp σ' F' H' r'
end

/-! ### owned lists -/
def frz : En → En := List.map fun s => match s with
  | .ol ds => .fz (.lst ds)
  | .od ds => .fz (.dcb ds)
  | .oo c fs => .fz (.obj c fs)
  | s => s
end Mi

/-! Mi9: owned lists and dicts, borrowed and frozen ones, the box. -/
namespace Mi
open PySem PySem.Spec L2
/-! ### a new list that is nobody's yet -/
structure NewL (S : Cf) (F H : Hp) (σ : L2.St) (ρ : En) (p : Addr) (ds : List D) : Prop where
  nb : S.b ≠ some p
  n0 : S.H0 p = none
  nF : F p = none
  hH : ∃ vs, H p = some (.lst vs) ∧ RepL S.K S.b F vs ds
  nown : ∀ (i : Nat) (s : Slot), ρ[i]? = some s → s.own = true → σ[i]? ≠ some (some (.ref p))
theorem Rel.own_there {S : Cf} {F H : Hp} {σ : L2.St} {ρ : En} {x : Bx} (r : Rel S F H σ ρ x) {i : Nat} {s : Slot} {p : Addr} (e : ρ[i]? = some s) (o : s.own = true) (h : σ[i]? = some (some (.ref p))) : H p ≠ none := by
  obtain ⟨v, e1, hs⟩ := r.slot i s e
  rw [h] at e1
  cases e1
  cases s with
  | un => cases o
  | fz d => cases o
  | ol ds =>
    obtain ⟨q, vs, e2, _, _, _, hh, _⟩ := hs
    cases e2
    rw [hh]
    intro z
    cases z
  | od ds =>
    obtain ⟨q, vs, e2, _, _, _, hh, _⟩ := hs
    cases e2
    rw [hh]
    intro z
    cases z
  | oo cc ff =>
    obtain ⟨q, vs, e2, _, _, _, hh, _⟩ := hs
    cases e2
    rw [hh]
    intro z
    cases z
theorem newL_of {S : Cf} {F H : Hp} {σ : L2.St} {ρ : En} {x : Bx} {p : Addr} {vs : List V} {ds : List D} (r : Rel S F H σ ρ x) (h : H p = none) (q : RepL S.K S.b F vs ds) : NewL S F (upd H p (.lst vs)) σ ρ p ds where
  nb := r.core.ne_box h
  n0 := r.core.n0 h
  nF := r.core.nF h
  hH := ⟨vs, upd_same, q⟩
  nown := fun i s e o z => r.own_there e o z h
def PostN (S : Cf) (W : WX) (σ : L2.St) (F H : Hp) (ρ : En) (r : R (List D)) (Q : VK) : Prop := match r with
  | .val ds x' => ∀ p F' H', Rel S F' H' σ ρ x' → NewL S F' H' σ ρ p ds → Same F F' → KeepB S.b H H' → H p = none → Q (.ref p) H'
  | .exc c fs x' => ∀ F' H' dd, Rel S F' H' σ ρ x' → Same F F' → KeepB S.b H H' → XdOk S F' dd fs → W (.ref (He.ga S.K c)) dd σ H'
  | .out => False
def rdN (K : PySem.W.Frag) (W : WX) (m : MM (List D)) : TE := fun σ H Q => ∃ S F ρ x, S.K = K ∧ Rel S F H σ ρ x ∧ PostN S W σ F H ρ (m ρ x) Q
theorem PostN.mono {S : Cf} {W : WX} {σ : L2.St} {F H F1 H1 : Hp} {ρ : En} {r : R (List D)} {Q : VK} (s : Same F F1) (k : KeepB S.b H H1) (h : PostN S W σ F H ρ r Q) : PostN S W σ F1 H1 ρ r Q := by
  cases r with
  | val a x' => exact fun p F' H' a1 a2 a3 a4 a5 => h p F' H' a1 a2 (s.trans a3) (k.trans a4) (by
      cases e : H p with
      | none => rfl
      | some o =>
        rw [k p o e a2.nb] at a5
        cases a5)
  | exc c fs x' => exact fun F' H' dd a1 a2 a3 a4 => h F' H' dd a1 (s.trans a2) (k.trans a3) a4
  | out => exact h
section
variable {X : Cx} {W : WX}
/-- from a reading of values ahead -/
theorem rd_toN {α : Type} {rl : Rl α (List V)} {K : PySem.W.Frag} {m : MM α} {g : α → MM (List D)} {σ : L2.St} {H : Hp} {Q : VK} {Q' : List V → Hp → Prop} (h : rdN K W (mBind m g) σ H Q)
    (k : ∀ S F H' ρ x vs a, S.K = K → Rel S F H' σ ρ x → rl S F vs a → PostN S W σ F H' ρ (g a ρ x) Q → Q' vs H') : rd rl K W m σ H Q' := by
  obtain ⟨S, F, ρ, x, eK, r, p⟩ := h
  refine ⟨S, F, ρ, x, eK, r, ?_⟩
  replace p : PostN S W σ F H ρ ((m ρ x).bind fun a x1 => g a ρ x1) Q := p
  cases e : m ρ x with
  | out =>
    rw [e] at p
    exact p.elim
  | exc c fs x1 =>
    rw [e] at p
    exact p
  | val a x1 =>
    rw [e] at p
    exact fun v F' H' a1 a2 a3 a4 => k S F' H' ρ x1 v a eK a1 a4 (p.mono a2 a3)
def mLstN (ms : MM (List D)) : MM (List D) := mBind ms fun ds => fun _ x => if ds.length ≤ big then .val ds x else .out
theorem jn_lst {es : List Expr} {pos : Pos} {ms : MM (List D)} (h : PA X es (rdA X.K W ms)) : PE X (.List es pos) (rdN X.K W (mLstN ms)) :=
  peI (pe_lst h) fun σ H Q q => rd_toN (rl := rlL) q fun S F H' ρ x vs a eK r hv p => by
    split at p
    · rename_i hz
      have hl : RepL S.K S.b F vs a := hv
      exact ⟨by rw [hl.length]; exact big_le hz, fun q n => p q F _ (r.allocO n) (newL_of r n hl) (Same.refl F) (KeepB.new n) n⟩
    · exact p.elim
def gListN : List D → Option (List D)
  | [.lst ds] => some ds
  | [.tup ds] => some ds
  | _ => none
theorem jn_list {y : Str} {p pos : Pos} {e : Expr} {es : List Expr} {ms : MM (List D)} (hg : Gl X y) (hm : X.mg y = none) (hv : bootBuiltins y = some (.type "list")) (ha : PA X (e :: es) (rdA X.K W ms)) (hn : y ≠ "__name__" := by decide) (hdb : (y == ("__debug__" : Str)) = false := by decide)
    (he : starEach (e :: es) X.env = (false, eval e X.env) :: starEach es X.env := by rfl) (hpl : (backTo pos (starEach es X.env)).any (·.1) = false := by rfl) : PE X (.Call (.Name y p) (e :: es) [] pos) (rdN X.K W (mBind ms fun ds => oB (gListN ds))) :=
  peI (pe_callTy call_list_of hg hm hv ha hn hdb he hpl) fun σ H Q q => rd_toN (rl := rlL) q fun S F H' ρ x vs a eK r hv p => by
    unfold gListN at p
    split at p
    · obtain ⟨v, e, h⟩ := rep1 hv
      subst e
      cases h with
      | lst h r1 => exact ⟨_, _, rfl, .inl (sqL (r.core.sub _ _ h)), fun l n => p l F _ (r.allocO n) (newL_of r n r1) (Same.refl F) (KeepB.new n) n⟩
    · obtain ⟨v, e, h⟩ := rep1 hv
      subst e
      cases h with
      | tup h r1 => exact ⟨_, _, rfl, .inr (sqTK eK r.core.sub h), fun l n => p l F _ (r.allocO n) (newL_of r n r1) (Same.refl F) (KeepB.new n) n⟩
    · exact p.elim
def mSplitN (m : MM D) (ms : MM (List D)) : MM (List D) := mBind m fun d => match isS d with
  | some s => mBind ms fun as => oB (match as with
    | [.str z] => if (z.length == 0) = false ∧ s.length + 2 ≤ big then some ((Txt.split s z).map .str) else none
    | _ => none)
  | none => fun _ _ => .out
theorem rd_toN1 {K : PySem.W.Frag} {m : MM D} {g : D → MM (List D)} {σ : L2.St} {H : Hp} {Q : VK} {Q' : V → Hp → Prop} (h : rdN K W (mBind m g) σ H Q)
    (k : ∀ S F H' ρ x v a, S.K = K → Rel S F H' σ ρ x → Rep S.K S.b F v a → PostN S W σ F H' ρ (g a ρ x) Q → Q' v H') : rdE K W m σ H Q' := by
  obtain ⟨S, F, ρ, x, eK, r, p⟩ := h
  refine ⟨S, F, ρ, x, eK, r, ?_⟩
  replace p : PostN S W σ F H ρ ((m ρ x).bind fun a x1 => g a ρ x1) Q := p
  cases e : m ρ x with
  | out =>
    rw [e] at p
    exact p.elim
  | exc c fs x1 =>
    rw [e] at p
    exact p
  | val a x1 =>
    rw [e] at p
    exact fun v F' H' a1 a2 a3 a4 => k S F' H' ρ x1 v a eK a1 a4 (p.mono a2 a3)
theorem jn_split {apos cpos : Pos} {o e : Expr} {m : MM D} {ms : MM (List D)} (ho : PE X o (rdE X.K W m)) (ha : PA X [e] (rdA X.K W ms))
    (hbase : attributeBase o "split" X.env (eval o X.env) = eval o X.env := by rfl) (hfew : ((backTo cpos (starEach [e] X.env)).all (fun x => !x.1) && (backToKw cpos (keywordEach [] X.env)).all (fun x => x.1.isSome)
      && decide ([e].length + ([] : List Keyword).length + (if ([] : List Keyword).isEmpty then 0 else 1) < 30)) = true := by rfl) (hline : (apos.endLine == cpos.line) = true := by rfl) (hs : starEach [e] X.env = (false, eval e X.env) :: starEach [] X.env := by rfl) (hplain : (backTo cpos (starEach [] X.env)).any (·.1) = false := by rfl) :
    PE X (.Call (.Attribute o "split" apos) [e] [] cpos) (rdN X.K W (mSplitN m ms)) :=
  peI (pe_bm PySem.F.plainAttrs_str PySem.F.slot_str_split PySem.F.type_str_split mt_split ho ha hbase hfew hline hs hplain) fun σ H Q q => rd_toN1 q fun S F H' ρ x v a eK r hv p => by
    cases hv <;> try exact p.elim
    rename_i s
    refine ⟨rfl, ?_⟩
    have q2 : rdN X.K W (mBind ms fun as => oB (match as with
      | [.str z] => if (z.length == 0) = false ∧ s.length + 2 ≤ big then some ((Txt.split s z).map .str) else none
      | _ => none)) σ H' Q := ⟨S, F, ρ, x, eK, r, p⟩
    refine rd_toN (rl := rlL) q2 fun S F H' ρ x vs a eK r hv p => ?_
    split at p
    · obtain ⟨v, e, h⟩ := rep1 hv
      subst e
      cases h
      split at p
      · rename_i hz
        exact ⟨_, _, rfl, rfl, hz.1, big_le hz.2, fun l n => p l F _ (r.allocO n) (newL_of r n (repL_strs _)) (Same.refl F) (KeepB.new n) n⟩
      · exact p.elim
    · exact p.elim
theorem rd_lcN {K : PySem.W.Frag} {mi : MM (List D)} {tg : Tg} {mc : MM Bool} {me : MM D} {vs : List Nat} (htg : ∀ i ∈ tg.ixs, i ∈ vs) {σ : L2.St} {H : Hp} {Q : VK} (h : rdN K W (mLcL mi tg mc me vs) σ H Q) : tLc (rd rlI K W mi) (tg.g K) (rdT K Wf mc) (rdE K Wf me) vs σ H Q := by
  obtain ⟨S, F, ρ, x, eK, rr, p⟩ := h
  refine (show rd rlI K W mi σ H _ from ?_)
  refine ⟨S, F, ρ, x, eK, rr, ?_⟩
  unfold mLcL at p
  cases e : mi ρ x with
  | exc c fs x1 =>
    rw [e] at p
    exact p
  | out =>
    rw [e] at p
    exact p
  | val ds x1 =>
    rw [e] at p
    dsimp only at p
    intro J F1 H1 r1 s1 k1 w1 Dl hD
    cases e2 : lcRun tg mc me (wipeE (shut ρ) vs) ds [] x1 with
    | out =>
      rw [e2] at p
      exact p.elim
    | exc c fs x2 => exact (lcRun_exc _ _ _ _ _ _ _ _ _ _ e2).elim
    | val acc x2 =>
      rw [e2] at p
      refine lc_go (P := fun r => r = .val acc x2) htg eK r1 w1 (fun r h => ⟨_, _, h⟩) e2 Dl hD fun acc' x' F' H' us hp c' fD hDl ru => ?_
      cases hp
      obtain ⟨a1, a2, a3⟩ := r1.back c'
      exact p Dl F' H' a1 ⟨r1.core.ne_box hD, r1.core.n0 hD, fD, ⟨us, hDl, ru⟩, fun i s e o z => r1.own_there e o z hD⟩ (s1.trans a2) (k1.trans a3) (by
        cases e : H Dl with
        | none => rfl
        | some o =>
          rw [k1 Dl o e (r1.core.ne_box hD)] at hD
          cases hD)

/-! ### owned slots -/
theorem Rel.getO {S : Cf} {F H : Hp} {σ : L2.St} {ρ : En} {x : Bx} (r : Rel S F H σ ρ x) {i : Nat} {ds : List D} (e : ρ[i]? = some (.ol ds)) : ∃ p vs, σ[i]? = some (some (.ref p)) ∧ S.b ≠ some p ∧ S.H0 p = none ∧ F p = none ∧ H p = some (.lst vs) ∧ RepL S.K S.b F vs ds := by
  obtain ⟨v, e1, p, vs, e2, h⟩ := r.slot i _ e
  subst e2
  exact ⟨p, vs, e1, h⟩
theorem Rel.own {S : Cf} {F H : Hp} {σ : L2.St} {ρ : En} {x : Bx} {p : Addr} {ds : List D} (r : Rel S F H σ ρ x) (n : NewL S F H σ ρ p ds) (i : Nat) : Rel S F H (σ.set i (some (.ref p))) (ρ.set i (.ol ds)) x where
  core := r.core
  len := by rw [List.length_set, List.length_set, r.len]
  slot := fun j s e => by
    by_cases hj : i = j
    · subst hj
      have hi : i < ρ.length := by
        have := (List.getElem?_eq_some_iff.mp e).1
        rwa [List.length_set] at this
      rw [List.getElem?_set_self hi] at e
      cases e
      obtain ⟨vs, h1, h2⟩ := n.hH
      exact ⟨_, List.getElem?_set_self (by rw [← r.len]; exact hi), p, vs, rfl, n.nb, n.n0, n.nF, h1, h2⟩
    · rw [List.getElem?_set_ne hj] at e ⊢
      exact r.slot j s e
  dist := fun a b s t q hab ea eb os ot ha => by
    by_cases h1 : i = a
    · subst h1
      have hi : i < ρ.length := by
        have := (List.getElem?_eq_some_iff.mp ea).1
        rwa [List.length_set] at this
      rw [List.getElem?_set_self (by rw [← r.len]; exact hi)] at ha
      cases ha
      rw [List.getElem?_set_ne hab] at eb ⊢
      exact n.nown b t eb ot
    · by_cases h2 : i = b
      · subst h2
        have hi : i < ρ.length := by
          have := (List.getElem?_eq_some_iff.mp eb).1
          rwa [List.length_set] at this
        rw [List.getElem?_set_ne h1] at ea ha
        rw [List.getElem?_set_self (by rw [← r.len]; exact hi)]
        intro z
        cases z
        exact n.nown a s ea os ha
      · rw [List.getElem?_set_ne h1] at ea ha
        rw [List.getElem?_set_ne h2] at eb ⊢
        exact r.dist a b s t q hab ea eb os ot ha
/-- an owned list is changed -/
theorem Rel.updO {S : Cf} {F H : Hp} {σ : L2.St} {ρ : En} {x : Bx} (r : Rel S F H σ ρ x) {i : Nat} {ds ds' : List D} {p : Addr} {vs' : List V} (e : ρ[i]? = some (.ol ds)) (ep : σ[i]? = some (some (.ref p))) (h : RepL S.K S.b F vs' ds') : Rel S F (upd H p (.lst vs')) σ (ρ.set i (.ol ds')) x := by
  obtain ⟨p', vs, e1, nb, n0, nF, hH, hr⟩ := r.getO e
  rw [ep] at e1
  cases e1
  have hi : i < ρ.length := (List.getElem?_eq_some_iff.mp e).1
  refine ⟨r.core.write nF nb n0, by rw [List.length_set, r.len], fun j s ej => ?_, fun a b s t q hab ea eb os ot ha => ?_⟩
  · by_cases hj : i = j
    · subst hj
      rw [List.getElem?_set_self hi] at ej
      cases ej
      exact ⟨_, ep, p, vs', rfl, nb, n0, nF, upd_same, h⟩
    · rw [List.getElem?_set_ne hj] at ej
      obtain ⟨v, e2, hs⟩ := r.slot j s ej
      refine ⟨v, e2, ?_⟩
      cases s with
      | un => trivial
      | fz d => exact hs
      | ol ds =>
        obtain ⟨q, us, e3, b1, b2, b3, b4, b5⟩ := hs
        subst e3
        have hq : q ≠ p := fun z => r.dist i j _ _ p hj e ej rfl rfl ep (by rw [e2, z])
        exact ⟨q, us, rfl, b1, b2, b3, by rw [upd_ne hq]; exact b4, b5⟩
      | od ds =>
        obtain ⟨q, us, e3, b1, b2, b3, b4, b5⟩ := hs
        subst e3
        have hq : q ≠ p := fun z => r.dist i j _ _ p hj e ej rfl rfl ep (by rw [e2, z])
        exact ⟨q, us, rfl, b1, b2, b3, by rw [upd_ne hq]; exact b4, b5⟩
      | oo cc ff =>
        obtain ⟨q, us, e3, b1, b2, b3, b4, b5⟩ := hs
        subst e3
        have hq : q ≠ p := fun z => r.dist i j _ _ p hj e ej rfl rfl ep (by rw [e2, z])
        exact ⟨q, us, rfl, b1, b2, b3, by rw [upd_ne hq]; exact b4, b5⟩
  · have key : ∀ (c : Nat) (u : Slot), (ρ.set i (.ol ds'))[c]? = some u → u.own = true → ∃ u', ρ[c]? = some u' ∧ u'.own = true := fun c u ec oc => by
      by_cases hc : i = c
      · subst hc
        exact ⟨_, e, rfl⟩
      · rw [List.getElem?_set_ne hc] at ec
        exact ⟨u, ec, oc⟩
    obtain ⟨s', es, os'⟩ := key a s ea os
    obtain ⟨t', et, ot'⟩ := key b t eb ot
    exact r.dist a b s' t' q hab es et os' ot' ha
def mOwn (i : Nat) (m : MM (List D)) : MS := fun ρ x => match m ρ x with
  | .val ds x1 => .nx (ρ.set i (.ol ds)) x1
  | .exc c fs x1 => .exc c fs ρ x1
  | .out => .out
theorem rd_EN {K : PySem.W.Frag} {m : MM (List D)} {k : List D → MS} {D : Ends} {σ : L2.St} {H : Hp} {Q : VK} (h : rdS K W (mE m k) D σ H)
    (q : ∀ S F H' ρ x p ds, S.K = K → Rel S F H' σ ρ x → NewL S F H' σ ρ p ds → PostS S W (k ds ρ x) D → Q (.ref p) H') : rdN K W m σ H Q := by
  obtain ⟨S, F, ρ, x, eK, r, p⟩ := h
  refine ⟨S, F, ρ, x, eK, r, ?_⟩
  unfold mE at p
  cases e : m ρ x with
  | val d x1 =>
    rw [e] at p
    exact fun v F' H' r' hv _ _ _ => q S F' H' ρ x1 v d eK r' hv p
  | exc c fs x1 =>
    rw [e] at p
    exact fun F' H' dd r' _ _ hd => p σ F' H' dd r' hd
  | out =>
    rw [e] at p
    exact p
theorem js_own {i : Nat} {y : Str} {e : Expr} {pos pos' : Pos} {m : MM (List D)} (hN : X.N.Nodup) (he : PE X e (rdN X.K W m)) (hi : X.N[i]? = some y := by rfl) (hx : Loc X.env.scope y := by first | exact Or.inl rfl | exact Or.inr rfl) (hs : swapsWith e (some (.Name y pos')) pos.line X.env = pure false := by rfl) (hf : X.fn y = true ∨ X.env.scope.names.lookup y = some .local := by first | exact .inl rfl | exact .inr rfl | assumption) :
    PS X (.Assign [.Name y pos'] e pos) (rdS X.K W (mE m fun ds ρ x => .nx (ρ.set i (.ol ds)) x)) :=
  psI (ps_set hN hi hx he hs hf) fun D σ H h => rd_EN h fun S F H' ρ x p ds eK r n q => q _ _ _ (r.own n i)
/-- a, b = e, f, both new lists -/
theorem js_setLcN {i : Nat} {y : Str} {py : Pos} {elt tgx iter : Expr} {ifs : List Expr} {scope : Scope} {own : List (Str × Nat)} {nl : List Nat} {pos spos : Pos} {mi : MM (List D)} {tg : Tg} {mc : MM Bool} {me : MM D} (hc : X.calm = true) (hN : X.N.Nodup) (hy : X.N[i]? = some y) (hyl : X.env.scope.names.lookup y = some .local)
    (hsw : swapsWith (.ListComp elt [⟨tgx, iter, ifs, 0⟩] scope pos) (some (.Name y py)) spos.line X.env = pure true) (hi : PI X tgx iter (rd rlI X.K W mi)) (ok : BlkOk X.N X.env.scope scope own)
    (hg : ∀ (s : Shared) (H : Hp) (C : Addr) (cl : List (Str × Addr)) (fp : List Addr), PG (X.blk s H scope (compEnvC scope cl C X.env) fp) tgx (tg.g X.K)) (ht : ∀ (s : Shared) (H : Hp) (C : Addr) (cl : List (Str × Addr)) (fp : List Addr), PTs (X.blk s H scope (compEnvC scope cl C X.env) fp) ifs (rdT X.K Wf mc))
    (he : ∀ (s : Shared) (H : Hp) (C : Addr) (cl : List (Str × Addr)) (fp : List Addr), PE (X.blk s H scope (compEnvC scope cl C X.env) fp) elt (rdE X.K Wf me)) (hnl : own.map (·.2) = nl := by rfl) (htg : ∀ i ∈ tg.ixs, i ∈ nl := by decide) (hs : ∀ x, foldedSetIterable iter X.env x = pure x := by intro _; rfl) :
    PS X (.Assign [.Name y py] (.ListComp elt [⟨tgx, iter, ifs, 0⟩] scope pos) spos) (rdS X.K W (mE (mLcL mi tg mc me nl) fun ds ρ x => .nx (ρ.set i (.ol ds)) x)) := by
  subst hnl
  exact psI (ps_setLc hc hN hy hyl hsw hi ok hg ht he hs) fun D σ H h => rd_lcN htg (rd_EN h fun S F H' ρ x p ds eK r n q => q _ _ _ (r.own n i))
def mApp (i : Nat) (m : MM D) : MS := fun ρ x => match ρ[i]? with
  | some (.ol ds) => mE m (fun d ρ x => if ds.length < big then .nx (ρ.set i (.ol (ds ++ [d]))) x else .out) ρ x
  | _ => .out
/-- xs.append(e) -/
theorem js_app (i : Nat) {y : Str} {e : Expr} {p1 apos cpos pos : Pos} {m : MM D} (he : PE X e (rdE X.K W m)) (hN : X.N[i]? = some y := by rfl) (hv : Vis X.env.scope y := by first | exact Or.inl rfl | exact Or.inr (Or.inl rfl) | exact Or.inr (Or.inr rfl)) (hd : (y == ("__debug__" : Str)) = false := by decide) (hcd : (y == ("__classdict__" : Str)) = false := by decide)
    (h1 : starEach [e] X.env = (false, eval e X.env) :: starEach [] X.env := by rfl) (hbase : attributeBase (.Name y p1) "append" X.env (eval (.Name y p1) X.env) = eval (.Name y p1) X.env := by rfl) (hfew : ((backTo cpos (starEach [e] X.env)).all (fun x => !x.1) && (backToKw cpos (keywordEach [] X.env)).all (fun x => x.1.isSome)
      && decide ([e].length + ([] : List Keyword).length + (if ([] : List Keyword).isEmpty then 0 else 1) < 30)) = true := by rfl) (hline : (apos.endLine == cpos.line) = true := by rfl) (hplain : (backTo cpos (starEach [] X.env)).any (·.1) = false := by rfl)
    (hs : swapsWith (.Call (.Attribute (.Name y p1) "append" apos) [e] [] cpos) none pos.line X.env = pure false := by rfl) :
    PS X (.Expr (.Call (.Attribute (.Name y p1) "append" apos) [e] [] cpos) pos) (rdS X.K W (mApp i m)) :=
  psI (ps_expr (pe_bm PySem.F.plainAttrs_list PySem.F.slot_list_append PySem.F.type_list_append mt_append (pe_var (i := i) hN hv hd hcd) (pa_cons he pa_nil h1) hbase hfew hline h1 hplain) hs) fun D σ H h => by
    obtain ⟨S, F, ρ, x, eK, r, p⟩ := h
    unfold mApp at p
    split at p
    · rename_i ds e
      obtain ⟨q, vs, eσ, nb, n0, nF, hH, hr⟩ := r.getO e
      refine ⟨.ref q, eσ, .inl ⟨rfl, vs, sqL hH⟩, ?_⟩
      refine (show rdE X.K W m σ H _ from ?_)
      refine ⟨S, F, ρ, x, eK, r, ?_⟩
      unfold mE at p
      cases e1 : m ρ x with
      | out =>
        rw [e1] at p
        exact p
      | exc c fs x1 =>
        rw [e1] at p
        exact fun F' H' dd a1 _ _ a4 => p σ F' H' dd a1 a4
      | val d x1 =>
        rw [e1] at p
        dsimp only at p
        split at p
        · rename_i hz
          intro v F' H' r' s' k' hv
          have hv : Rep S.K S.b F' v d := hv
          have h2 : H' q = some (.lst vs) := k' q _ hH nb
          exact ⟨q, vs, v, rfl, rfl, h2, by rw [hr.length]; exact big_lt hz, p _ _ _ (r'.updO e eσ ((hr.mono s').append (.cons hv .nil)))⟩
        · exact p.elim
    · exact p.elim
/-- xs[j] = e, xs owned -/
def mSetI (i : Nat) (mj m : MM D) : MS := fun ρ x => match ρ[i]? with
  | some (.ol ds) => mE m (fun d => mE mj fun j ρ x => match j with
    | .int k => (match ixN ds.length k with
      | some n => .nx (ρ.set i (.ol (ds.set n d))) x
      | none => .out)
    | _ => .out) ρ x
  | _ => .out
theorem js_setI (i : Nat) {y : Str} {e j : Expr} {p1 p2 pos : Pos} {m mj : MM D} (he : PE X e (rdE X.K W m)) (hj : PE X j (rdE X.K W mj)) (hN : X.N[i]? = some y := by rfl) (hv : Vis X.env.scope y := by first | exact Or.inl rfl | exact Or.inr (Or.inl rfl) | exact Or.inr (Or.inr rfl)) (hd : (y == ("__debug__" : Str)) = false := by decide) (hcd : (y == ("__classdict__" : Str)) = false := by decide)
    (hs : swapsWithSole [.Subscript (.Name y p1) j p2] e pos.line X.env = pure false := by rfl) (hw : swappedStores [.Subscript (.Name y p1) j p2] e X.env = pure none := by rfl) (h1 : (assignEach [.Subscript (.Name y p1) j p2] X.env).map (·.2) = [assign (.Subscript (.Name y p1) j p2) X.env] := by rfl) (h2 : ∀ v, assign (.Subscript (.Name y p1) j p2) X.env v = (do let ov ← holding [v] (eval (.Name y p1) X.env); let iv ← holding [v, ov] (eval j X.env); standAt p2; holding [v, ov, iv] (setItem ov iv v); release [v, ov, iv] []) := by intro _; rfl) :
    PS X (.Assign [.Subscript (.Name y p1) j p2] e pos) (rdS X.K W (mSetI i mj m)) :=
  psI (ps_asg he (pg_sub (pe_var (i := i) hN hv hd hcd) hj set_list h2) hs hw h1) fun D σ H h => by
    obtain ⟨S, F, ρ, x, eK, r, p⟩ := h
    unfold mSetI at p
    split at p
    · rename_i ds e0
      obtain ⟨q, vs, eσ, nb, n0, nF, hH, hr⟩ := r.getO e0
      refine (show rdE X.K W m σ H _ from ?_)
      refine ⟨S, F, ρ, x, eK, r, ?_⟩
      unfold mE at p
      cases e1 : m ρ x with
      | out =>
        rw [e1] at p
        exact p
      | exc c fs x1 =>
        rw [e1] at p
        exact fun F' H' dd a1 _ _ a4 => p σ F' H' dd a1 a4
      | val d x1 =>
        rw [e1] at p
        dsimp only at p
        intro v F' H' r' s' k' hv
        have hv : Rep S.K S.b F' v d := hv
        refine ⟨.ref q, eσ, ?_⟩
        refine (show rdE X.K W mj σ H' _ from ?_)
        refine ⟨S, F', ρ, x1, eK, r', ?_⟩
        cases e2 : mj ρ x1 with
        | out =>
          rw [e2] at p
          exact p
        | exc c fs x1 =>
          rw [e2] at p
          exact fun F' H' dd a1 _ _ a4 => p σ F' H' dd a1 a4
        | val dj x2 =>
          rw [e2] at p
          dsimp only at p
          intro u F2 H2 r2 s2 k2 hu
          have hu : Rep S.K S.b F2 u dj := hu
          cases hu <;> try exact p.elim
          rename_i k
          dsimp only at p
          split at p
          · rename_i n hn
            have h3 : H2 q = some (.lst vs) := k2 q _ (k' q _ hH nb) nb
            exact ⟨q, vs, k, n, rfl, rfl, h3, by rw [hr.length]; exact hn, p _ _ _ (r2.updO e0 eσ (((hr.mono s').mono s2).set n (hv.mono s2)))⟩
          · exact p.elim
    · exact p.elim

/-! ### owned slots read: borrowed (the value a scalar), frozen for good -/
end
def Slot.fzd : Slot → Slot
  | .ol ds => .fz (.lst ds)
  | .od ds => .fz (.dcb ds)
  | .oo c fs => .fz (.obj c fs)
  | s => s
def frzS (sel : Nat → Bool) (ρ : En) : En := ρ.mapIdx fun i s => if sel i then s.fzd else s
theorem frzS_get {sel : Nat → Bool} {ρ : En} {i : Nat} {s : Slot} (h : (frzS sel ρ)[i]? = some s) : ∃ t, ρ[i]? = some t ∧ s = if sel i then t.fzd else t := by
  unfold frzS at h
  rw [List.getElem?_mapIdx] at h
  cases e : ρ[i]? with
  | none =>
    rw [e] at h
    cases h
  | some t =>
    rw [e] at h
    exact ⟨t, rfl, (Option.some.inj h).symm⟩
def OwnAt (sel : Nat → Bool) (σ : L2.St) (ρ : En) (p : Addr) : Prop := ∃ (i : Nat) (s : Slot), ρ[i]? = some s ∧ s.own = true ∧ sel i = true ∧ σ[i]? = some (some (.ref p))
open Classical in
noncomputable def frzH (sel : Nat → Bool) (F H : Hp) (σ : L2.St) (ρ : En) : Hp := fun p => if OwnAt sel σ ρ p then H p else F p
open Classical in
noncomputable def unfH (sel : Nat → Bool) (F : Hp) (σ : L2.St) (ρ : En) : Hp := fun p => if OwnAt sel σ ρ p then none else F p
section
variable {S : Cf} {F H : Hp} {σ : L2.St} {ρ : En} {x : Bx} {sel : Nat → Bool}
theorem Rel.ownAt (r : Rel S F H σ ρ x) {p : Addr} (h : OwnAt sel σ ρ p) : S.b ≠ some p ∧ S.H0 p = none ∧ F p = none ∧ ∃ o, H p = some o := by
  obtain ⟨i, s, e, o, _, eσ⟩ := h
  obtain ⟨v, e1, hs⟩ := r.slot i s e
  rw [eσ] at e1
  cases e1
  cases s with
  | un => cases o
  | fz d => cases o
  | ol ds =>
    obtain ⟨q, us, e3, b1, b2, b3, b4, b5⟩ := hs
    cases e3
    exact ⟨b1, b2, b3, _, b4⟩
  | od ds =>
    obtain ⟨q, us, e3, b1, b2, b3, b4, b5⟩ := hs
    cases e3
    exact ⟨b1, b2, b3, _, b4⟩
  | oo cc ff =>
    obtain ⟨q, us, e3, b1, b2, b3, b4, b5⟩ := hs
    cases e3
    exact ⟨b1, b2, b3, _, b4⟩
theorem frzH_yes {p : Addr} (h : OwnAt sel σ ρ p) : frzH sel F H σ ρ p = H p := if_pos h
theorem frzH_no {p : Addr} (h : ¬ OwnAt sel σ ρ p) : frzH sel F H σ ρ p = F p := if_neg h
theorem unfH_yes {p : Addr} (h : OwnAt sel σ ρ p) : unfH sel F σ ρ p = none := if_pos h
theorem unfH_no {p : Addr} (h : ¬ OwnAt sel σ ρ p) : unfH sel F σ ρ p = F p := if_neg h
theorem Rel.frz_same (r : Rel S F H σ ρ x) : Same F (frzH sel F H σ ρ) := fun p o e => by
  by_cases h : OwnAt sel σ ρ p
  · rw [(r.ownAt h).2.2.1] at e
    cases e
  · rw [frzH_no h]
    exact e
theorem Rel.frz (r : Rel S F H σ ρ x) : Rel S (frzH sel F H σ ρ) H σ (frzS sel ρ) x where
  core := ⟨fun p o e => by
      by_cases h : OwnAt sel σ ρ p
      · rw [frzH_yes h] at e
        exact e
      · rw [frzH_no h] at e
        exact r.core.sub p o e, r.core.f0.trans r.frz_same, fun p h1 h2 => by
      have h : ¬ OwnAt sel σ ρ p := fun z => h1 (r.ownAt z).2.1
      rw [frzH_no h]
      exact r.core.fresh p h1 h2, r.core.keep, fun a e => by
      have h : ¬ OwnAt sel σ ρ a := fun z => (r.ownAt z).1 e
      rw [frzH_no h]
      exact r.core.box a e⟩
  len := by
    unfold frzS
    rw [List.length_mapIdx, r.len]
  slot := fun i s e => by
    obtain ⟨t, et, es⟩ := frzS_get e
    obtain ⟨v, e1, ht⟩ := r.slot i t et
    refine ⟨v, e1, ?_⟩
    subst es
    cases hs : sel i with
    | true =>
      rw [if_pos rfl]
      cases t with
      | un => trivial
      | fz d =>
        obtain ⟨u, e2, q⟩ := ht
        exact ⟨u, e2, q.mono r.frz_same⟩
      | ol ds =>
        obtain ⟨q, us, e3, b1, b2, b3, b4, b5⟩ := ht
        subst e3
        exact ⟨_, rfl, .lst (by rw [frzH_yes ⟨i, _, et, rfl, hs, e1⟩]; exact b4) (b5.mono r.frz_same)⟩
      | od ds =>
        obtain ⟨q, us, e3, b1, b2, b3, b4, b5⟩ := ht
        subst e3
        exact ⟨_, rfl, .dcb (by rw [frzH_yes ⟨i, _, et, rfl, hs, e1⟩]; exact b4) (b5.mono r.frz_same)⟩
      | oo cc ff =>
        obtain ⟨q, us, e3, b1, b2, b3, b4, b5⟩ := ht
        subst e3
        exact ⟨_, rfl, insOk_rep (by rw [frzH_yes ⟨i, _, et, rfl, hs, e1⟩]; exact b4) (b5.1.mono r.frz_same)⟩
    | false =>
      rw [if_neg
        Bool.false_ne_true]
      cases t with
      | un => trivial
      | fz d =>
        obtain ⟨u, e2, q⟩ := ht
        exact ⟨u, e2, q.mono r.frz_same⟩
      | ol ds =>
        obtain ⟨q, us, e3, b1, b2, b3, b4, b5⟩ := ht
        subst e3
        refine ⟨q, us, rfl, b1, b2, ?_, b4, b5.mono r.frz_same⟩
        have h : ¬ OwnAt sel σ ρ q := fun ⟨j, s, ej, oj, sj, ej2⟩ => by
          have hij : i ≠ j := fun z => by
            subst z
            rw [hs] at sj
            cases sj
          exact r.dist i j _ _ q hij et ej rfl oj e1 ej2
        rw [frzH_no h]
        exact b3
      | od ds =>
        obtain ⟨q, us, e3, b1, b2, b3, b4, b5⟩ := ht
        subst e3
        refine ⟨q, us, rfl, b1, b2, ?_, b4, b5.mono r.frz_same⟩
        have h : ¬ OwnAt sel σ ρ q := fun ⟨j, s, ej, oj, sj, ej2⟩ => by
          have hij : i ≠ j := fun z => by
            subst z
            rw [hs] at sj
            cases sj
          exact r.dist i j _ _ q hij et ej rfl oj e1 ej2
        rw [frzH_no h]
        exact b3
      | oo cc ff =>
        obtain ⟨q, us, e3, b1, b2, b3, b4, b5⟩ := ht
        subst e3
        refine ⟨q, us, rfl, b1, b2, ?_, b4, ⟨b5.1.mono r.frz_same, b5.2⟩⟩
        have h : ¬ OwnAt sel σ ρ q := fun ⟨j, s, ej, oj, sj, ej2⟩ => by
          have hij : i ≠ j := fun z => by
            subst z
            rw [hs] at sj
            cases sj
          exact r.dist i j _ _ q hij et ej rfl oj e1 ej2
        rw [frzH_no h]
        exact b3
  dist := fun i j s t p hij ei ej os ot hi => by
    have key : ∀ (c : Nat) (u : Slot), (frzS sel ρ)[c]? = some u → u.own = true → ∃ u', ρ[c]? = some u' ∧ u'.own = true := fun c u ec oc => by
      obtain ⟨t, et, es⟩ := frzS_get ec
      subst es
      refine ⟨t, et, ?_⟩
      cases t with
      | un => split at oc <;> cases oc
      | fz d => split at oc <;> cases oc
      | ol ds => rfl
      | od ds => rfl
      | oo cc ff => rfl
    obtain ⟨s', es, os'⟩ := key i s ei os
    obtain ⟨t', et, ot'⟩ := key j t ej ot
    exact r.dist i j s' t' p hij es et os' ot' hi
/-- back from a borrowing -/
theorem Rel.unfrz {F' H' : Hp} {x' : Bx} (r : Rel S F H σ ρ x) (r' : Rel S F' H' σ (frzS sel ρ) x') (s : Same (frzH sel F H σ ρ) F') (k : KeepB S.b H H') : Rel S (unfH sel F' σ ρ) H' σ ρ x' ∧ Same F (unfH sel F' σ ρ) := by
  have sF : Same F (unfH sel F' σ ρ) := fun p o e => by
    have h : ¬ OwnAt sel σ ρ p := fun z => by
      rw [(r.ownAt z).2.2.1] at e
      cases e
    rw [unfH_no h]
    exact s p o (r.frz_same p o e)
  have nw : ∀ p, H p ≠ none → F p = none → S.b ≠ some p → unfH sel F' σ ρ p = none ∨ (¬ OwnAt sel σ ρ p) := fun p _ _ _ => by
    by_cases h : OwnAt sel σ ρ p
    · exact .inl (unfH_yes h)
    · exact .inr h
  refine ⟨⟨⟨fun p o e => ?_, r.core.f0.trans sF, fun p h1 h2 => ?_, r'.core.keep, fun a e => ?_⟩, r.len, fun i t et => ?_, r.dist⟩, sF⟩
  · by_cases h : OwnAt sel σ ρ p
    · rw [unfH_yes h] at e
      cases e
    · rw [unfH_no h] at e
      exact r'.core.sub p o e
  · by_cases h : OwnAt sel σ ρ p
    · exact unfH_yes h
    · rw [unfH_no h]
      exact r'.core.fresh p h1 h2
  · have h : ¬ OwnAt sel σ ρ a := fun z => (r.ownAt z).1 e
    rw [unfH_no h]
    exact r'.core.box a e
  · obtain ⟨v, e1, ht⟩ := r.slot i t et
    refine ⟨v, e1, ?_⟩
    have other : ∀ q, σ[i]? = some (some (.ref q)) → t.own = true → unfH sel F' σ ρ q = none := fun q eq ot => by
      by_cases h : OwnAt sel σ ρ q
      · exact unfH_yes h
      · rw [unfH_no h]
        have hs : sel i = false := by
          cases hs : sel i with
          | false => rfl
          | true => exact (h ⟨i, t, et, ot, hs, eq⟩).elim
        have e2 : (frzS sel ρ)[i]? = some t := by
          unfold frzS
          rw [List.getElem?_mapIdx, et]
          show some (if sel i = true then t.fzd else t) = some t
          rw [hs]
          rfl
        obtain ⟨v2, e3, hq⟩ := r'.slot i t e2
        rw [eq] at e3
        cases e3
        cases t with
        | un => cases ot
        | fz d => cases ot
        | ol ds =>
          obtain ⟨q2, us, e4, _, _, b3, _, _⟩ := hq
          cases e4
          exact b3
        | od ds =>
          obtain ⟨q2, us, e4, _, _, b3, _, _⟩ := hq
          cases e4
          exact b3
        | oo cc ff =>
          obtain ⟨q2, us, e4, _, _, b3, _, _⟩ := hq
          cases e4
          exact b3
    cases t with
    | un => trivial
    | fz d =>
      obtain ⟨u, e2, q⟩ := ht
      exact ⟨u, e2, q.mono sF⟩
    | ol ds =>
      obtain ⟨q, us, e3, b1, b2, b3, b4, b5⟩ := ht
      subst e3
      exact ⟨q, us, rfl, b1, b2, other q e1 rfl, k q _ b4 b1, b5.mono sF⟩
    | od ds =>
      obtain ⟨q, us, e3, b1, b2, b3, b4, b5⟩ := ht
      subst e3
      exact ⟨q, us, rfl, b1, b2, other q e1 rfl, k q _ b4 b1, b5.mono sF⟩
    | oo cc ff =>
      obtain ⟨q, us, e3, b1, b2, b3, b4, b5⟩ := ht
      subst e3
      exact ⟨q, us, rfl, b1, b2, other q e1 rfl, k q _ b4 b1, ⟨b5.1.mono sF, b5.2⟩⟩
end
def allS : Nat → Bool := fun _ => true
def isSca : D → Bool
  | .non => true
  | .bl _ => true
  | .int _ => true
  | .str _ => true
  | _ => false
theorem Rep.sca {K K' : PySem.W.Frag} {b b' : Option Addr} {F F' : Hp} {v : V} {d : D} (h : Rep K b F v d) (s : isSca d = true) : Rep K' b' F' v d := by
  cases h <;> first | (cases s; done) | exact .non | exact .bl _ | exact .int _ | exact .str _
def mBor (m : MM D) : MM D := fun ρ x => match m (frzS allS ρ) x with
  | .val d x1 => if isSca d then .val d x1 else .out
  | _ => .out
def mBorT (m : MM Bool) : MM Bool := fun ρ x => match m (frzS allS ρ) x with
  | .val d x1 => .val d x1
  | _ => .out
section
variable {X : Cx} {W : WX}
theorem rd_bor {K : PySem.W.Frag} {m : MM D} {σ : L2.St} {H : Hp} {Q : VK} (h : rdE K W (mBor m) σ H Q) : rdE K W m σ H Q := by
  obtain ⟨S, F, ρ, x, eK, r, p⟩ := h
  unfold mBor at p
  refine ⟨S, _, _, x, eK, r.frz (sel := allS), ?_⟩
  cases e : m (frzS allS ρ) x with
  | out =>
    rw [e] at p
    exact p
  | exc c fs x1 =>
    rw [e] at p
    exact p.elim
  | val d x1 =>
    rw [e] at p
    dsimp only at p
    split at p
    · rename_i hz
      intro v F' H' r' s' k' hv
      obtain ⟨a1, a2⟩ := r.unfrz r' s' k'
      exact p v _ H' a1 a2 k' (Rep.sca hv hz)
    · exact p.elim
theorem j_bor {e : Expr} {m : MM D} (h : PE X e (rdE X.K W m)) : PE X e (rdE X.K W (mBor m)) := peI h fun σ H Q q => rd_bor q
theorem j_borT {e : Expr} {m : MM Bool} (h : PT X e (rdT X.K W m)) : PT X e (rdT X.K W (mBorT m)) := ptI h fun σ H Q q => by
  obtain ⟨S, F, ρ, x, eK, r, p⟩ := q
  unfold mBorT at p
  refine ⟨S, _, _, x, eK, r.frz (sel := allS), ?_⟩
  cases e : m (frzS allS ρ) x with
  | out =>
    rw [e] at p
    exact p
  | exc c fs x1 =>
    rw [e] at p
    exact p.elim
  | val d x1 =>
    rw [e] at p
    intro v F' H' r' s' k' hv
    obtain ⟨a1, a2⟩ := r.unfrz r' s' k'
    exact p v _ H' a1 a2 k' hv
theorem jss_frz {sts : List Stmt} {m : MS} (sel : Nat → Bool) (h : PSs X sts (rdS X.K W m)) : PSs X sts (rdS X.K W fun ρ x => m (frzS sel ρ) x) := pssI h fun D σ H q => by
  obtain ⟨S, F, ρ, x, eK, r, p⟩ := q
  exact ⟨S, _, _, x, eK, r.frz, p⟩
theorem js_frz {st : Stmt} {m : MS} (sel : Nat → Bool) (h : PS X st (rdS X.K W m)) : PS X st (rdS X.K W fun ρ x => m (frzS sel ρ) x) := psI h fun D σ H q => by
  obtain ⟨S, F, ρ, x, eK, r, p⟩ := q
  exact ⟨S, _, _, x, eK, r.frz, p⟩
end
end Mi

/-! Mi10: the box, parallel stores, raise, a def as a mirror. -/
namespace Mi
open PySem PySem.Spec L2
section
variable {X : Cx} {W : WX}
/-! ### the box -/
def bxAt (x : Bx) (i : Int) : Option D := if i = 0 then some (.int x.1) else if i = 1 then some (.int x.2.1) else if i = 2 then some (.int x.2.2) else none
def gItem (a b : D) : MM D := match a with
  | .box => (match b with
    | .int i => fun ρ x => o1 (bxAt x i) ρ x
    | _ => fun _ _ => .out)
  | a => o1 (gIx a b)
theorem real_item {K : PySem.W.Frag} : Real2 K W (rIx K) gItem := by
  intro S F H σ ρ x v1 v2 a b Q eK r ha hb p
  cases ha with
  | box e =>
    rename_i q
    cases hb <;> try exact p.elim
    rename_i i
    have hH := (r.core.box q e).2
    replace p : Post rlD S W σ F H ρ (o1 (bxAt x i) ρ x) Q := p
    unfold bxAt at p
    refine .inl ?_
    split at p
    · rename_i e0
      subst e0
      exact ⟨q, _, 0, .int x.1, rfl, rfl, sqL hH, rfl, post_val (rl := rlD) r p (.int _)⟩
    · split at p
      · rename_i e0
        subst e0
        exact ⟨q, _, 1, .int x.2.1, rfl, rfl, sqL hH, rfl, post_val (rl := rlD) r p (.int _)⟩
      · split at p
        · rename_i e0
          subst e0
          exact ⟨q, _, 2, .int x.2.2, rfl, rfl, sqL hH, rfl, post_val (rl := rlD) r p (.int _)⟩
        · exact p.elim
  | non => exact real_ix S F H σ ρ x _ _ _ _ Q eK r .non hb p
  | bl c => exact real_ix S F H σ ρ x _ _ _ _ Q eK r (.bl c) hb p
  | int i => exact real_ix S F H σ ρ x _ _ _ _ Q eK r (.int i) hb p
  | str s => exact real_ix S F H σ ρ x _ _ _ _ Q eK r (.str s) hb p
  | lst h r1 => exact real_ix S F H σ ρ x _ _ _ _ Q eK r (.lst h r1) hb p
  | tup h r1 => exact real_ix S F H σ ρ x _ _ _ _ Q eK r (.tup h r1) hb p
  | dct h r1 => exact real_ix S F H σ ρ x _ _ _ _ Q eK r (.dct h r1) hb p
  | dcb h r1 => exact real_ix S F H σ ρ x _ _ _ _ Q eK r (.dcb h r1) hb p
  | obj h e r1 => exact real_ix S F H σ ρ x _ _ _ _ Q eK r (.obj h e r1) hb p
  | err0 h e => exact real_ix S F H σ ρ x _ _ _ _ Q eK r (.err0 h e) hb p
  | err h e h2 r1 => exact real_ix S F H σ ρ x _ _ _ _ Q eK r (.err h e h2 r1) hb p
  | fn => exact real_ix S F H σ ρ x _ _ _ _ Q eK r .fn hb p
  | scr h => exact real_ix S F H σ ρ x _ _ _ _ Q eK r (.scr h) hb p
  | xt h r1 => exact real_ix S F H σ ρ x _ _ _ _ Q eK r (.xt h r1) hb p
theorem j_sub' {ma mb : MM D} {a b : Expr} {pos : Pos} (ha : PE X a (rdE X.K W ma)) (hb : PE X b (rdE X.K W mb)) (hs : PlainIx b := by exact fun _ _ => rfl) : PE X (.Subscript a b pos) (rdE X.K W (mOp gItem ma mb)) :=
  j_ix ix_seq real_item ha hb hs
theorem Core.boxset {S : Cf} {F H : Hp} {x x' : Bx} {a : Addr} (c : Core S F H x) (e : S.b = some a) : Core S F (upd H a (bxO x')) x' where
  sub := fun q u h => by
    have hq : q ≠ a := fun z => by
      rw [z, (c.box a e).1] at h
      cases h
    rw [upd_ne hq]
    exact c.sub q u h
  f0 := c.f0
  fresh := c.fresh
  keep := fun q u h n => by
    have hq : q ≠ a := fun z => n (z ▸ e)
    rw [upd_ne hq]
    exact c.keep q u h n
  box := fun b h => by
    rw [e] at h
    cases h
    exact ⟨(c.box a e).1, upd_same⟩
theorem Rel.boxset {S : Cf} {F H : Hp} {σ : L2.St} {ρ : En} {x x' : Bx} {a : Addr} (r : Rel S F H σ ρ x) (e : S.b = some a) : Rel S F (upd H a (bxO x')) σ ρ x' :=
  r.go (r.core.boxset e) (Same.refl F) (fun q u h n => by
    have hq : q ≠ a := fun z => n (z ▸ e)
    rw [upd_ne hq]
    exact h) (fun _ _ h _ => h)
def bxSet (x : Bx) (i : Int) (v : Int) : Option Bx := if i = 0 then some (v, x.2.1, x.2.2) else if i = 1 then some (x.1, v, x.2.2) else if i = 2 then some (x.1, x.2.1, v) else none
/-- box[j] = e -/
def mSetB (i : Nat) (mj m : MM D) : MS := fun ρ x => match ρ[i]? with
  | some (.fz .box) => mE m (fun d => mE mj fun j ρ x => match d with
    | .int v => (match j with
      | .int k => (match bxSet x k v with
        | some x' => .nx ρ x'
        | none => .out)
      | _ => .out)
    | _ => .out) ρ x
  | _ => .out
theorem js_setB (i : Nat) {y : Str} {e j : Expr} {p1 p2 pos : Pos} {m mj : MM D} (he : PE X e (rdE X.K W m)) (hj : PE X j (rdE X.K W mj)) (hN : X.N[i]? = some y := by rfl) (hv : Vis X.env.scope y := by first | exact Or.inl rfl | exact Or.inr (Or.inl rfl) | exact Or.inr (Or.inr rfl)) (hd : (y == ("__debug__" : Str)) = false := by decide) (hcd : (y == ("__classdict__" : Str)) = false := by decide)
    (hs : swapsWithSole [.Subscript (.Name y p1) j p2] e pos.line X.env = pure false := by rfl) (hw : swappedStores [.Subscript (.Name y p1) j p2] e X.env = pure none := by rfl) (h1 : (assignEach [.Subscript (.Name y p1) j p2] X.env).map (·.2) = [assign (.Subscript (.Name y p1) j p2) X.env] := by rfl)
    (h2 : ∀ v, assign (.Subscript (.Name y p1) j p2) X.env v = (do let ov ← holding [v] (eval (.Name y p1) X.env); let iv ← holding [v, ov] (eval j X.env); standAt p2; holding [v, ov, iv] (setItem ov iv v); release [v, ov, iv] []) := by intro _; rfl) :
    PS X (.Assign [.Subscript (.Name y p1) j p2] e pos) (rdS X.K W (mSetB i mj m)) :=
  psI (ps_asg he (pg_sub (pe_var (i := i) hN hv hd hcd) hj set_list h2) hs hw h1) fun D σ H h => by
    obtain ⟨S, F, ρ, x, eK, r, p⟩ := h
    unfold mSetB at p
    split at p
    · rename_i e0
      obtain ⟨w, e1, u0, e2, hb⟩ := r.slot i _ e0
      subst e2
      cases hb with
      | @box q eb =>
      refine (show rdE X.K W m σ H _ from ?_)
      refine ⟨S, F, ρ, x, eK, r, ?_⟩
      unfold mE at p
      cases e1 : m ρ x with
      | out =>
        rw [e1] at p
        exact p
      | exc c fs x1 =>
        rw [e1] at p
        exact fun F' H' dd a1 _ _ a4 => p σ F' H' dd a1 a4
      | val d x1 =>
        rw [e1] at p
        dsimp only at p
        intro v F' H' r' s' k' hv
        have hv : Rep S.K S.b F' v d := hv
        refine ⟨.ref q, by assumption, ?_⟩
        refine (show rdE X.K W mj σ H' _ from ?_)
        refine ⟨S, F', ρ, x1, eK, r', ?_⟩
        cases e2 : mj ρ x1 with
        | out =>
          rw [e2] at p
          exact p
        | exc c fs x1 =>
          rw [e2] at p
          exact fun F' H' dd a1 _ _ a4 => p σ F' H' dd a1 a4
        | val dj x2 =>
          rw [e2] at p
          dsimp only at p
          intro u F2 H2 r2 s2 k2 hu
          have hu : Rep S.K S.b F2 u dj := hu
          cases hv <;> try exact p.elim
          rename_i vi
          cases hu <;> try exact p.elim
          rename_i k
          dsimp only at p
          have h3 := (r2.core.box q eb).2
          unfold bxSet at p
          by_cases k0 : k = 0
          · subst k0
            exact ⟨q, _, 0, 0, rfl, rfl, h3, rfl, p _ _ _ (r2.boxset (x' := (vi, x2.2.1, x2.2.2)) eb)⟩
          · rw [if_neg k0] at p
            by_cases k1 : k = 1
            · subst k1
              exact ⟨q, _, 1, 1, rfl, rfl, h3, rfl, p _ _ _ (r2.boxset (x' := (x2.1, vi, x2.2.2)) eb)⟩
            · rw [if_neg k1] at p
              by_cases k2 : k = 2
              · subst k2
                exact ⟨q, _, 2, 2, rfl, rfl, h3, rfl, p _ _ _ (r2.boxset (x' := (x2.1, x2.2.1, vi)) eb)⟩
              · rw [if_neg k2] at p
                exact p.elim
    · exact p.elim

/-! ### a, b = e, f, both new lists -/
def mParN (i j : Nat) (m n : MM (List D)) : MS := mE m fun ds ρ x => match n (shut ρ) x with
  | .val es x2 => if i = j then .out else .nx ((ρ.set i (.ol ds)).set j (.ol es)) x2
  | _ => .out
theorem js_parN {i j : Nat} {x y : Str} {a b : Expr} {m n : MM (List D)} {px py pt pos pt2 : Pos} {kt k2 : Nat} (hc : X.calm = true) (hN : X.N.Nodup) (hij : i ≠ j) (ha : PE X a (rdN X.K W m)) (hb : PE X b (rdN X.K W n)) (hi : X.N[i]? = some x := by rfl) (hj : X.N[j]? = some y := by rfl)
    (hx : X.env.scope.names.lookup x = some .local := by rfl) (hy : X.env.scope.names.lookup y = some .local := by rfl) (h1 : starEach [a, b] X.env = (false, eval a X.env) :: starEach [b] X.env := by rfl) (h2 : starEach [b] X.env = (false, eval b X.env) :: starEach [] X.env := by rfl)
    (hw : swappedStores [.Tuple [.Name x px, .Name y py] kt pt] (.Tuple [a, b] k2 pt2) X.env = pure (some [x, y]) := by rfl) (hs : swapsWithSole [.Tuple [.Name x px, .Name y py] kt pt] (.Tuple [a, b] k2 pt2) pos.line X.env = pure false := by rfl) :
    PS X (.Assign [.Tuple [.Name x px, .Name y py] kt pt] (.Tuple [a, b] k2 pt2) pos) (rdS X.K W (mParN i j m n)) :=
  psI (ps_par hc hN hi hj hij hx hy (pa_cons ha (pa_cons hb pa_nil h2) h1) hw hs) fun D σ H h => rd_EN h fun S F1 H1 ρ x1 p ds eK r1 nl q => by
    refine (show rdN X.K W n σ H1 _ from ?_)
    have rsh := r1.shut
    cases e : n (shut ρ) x1 with
    | out =>
      rw [e] at q
      exact q.elim
    | exc c fs x2 =>
      rw [e] at q
      exact q.elim
    | val es x2 =>
      rw [e] at q
      dsimp only at q
      refine ⟨⟨S.K, S.b, H1, F1, S.me⟩, F1, shut ρ, x1, eK, rsh, ?_⟩
      rw [e]
      intro p2 F2 H2 r2 nl2 _ _ _
      rw [if_neg hij] at q
      obtain ⟨a1, a2, a3⟩ := r1.back r2.core
      obtain ⟨vs, hH, hr⟩ := nl.hH
      obtain ⟨us, hH2, hr2⟩ := nl2.hH
      have n1 : NewL S F2 H2 σ ρ p ds := ⟨nl.nb, nl.n0, r2.core.fresh p (by rw [show (⟨S.K, S.b, H1, F1, S.me⟩ : Cf).H0 p = H1 p from rfl, hH]; intro z; cases z) nl.nF, ⟨vs, r2.core.keep p _ hH nl.nb, hr.mono r2.core.f0⟩, nl.nown⟩
      have h1n : H1 p2 = none := nl2.n0
      have n2 : NewL S F2 H2 (σ.set i (some (.ref p))) (ρ.set i (.ol ds)) p2 es := by
        refine ⟨nl2.nb, r1.core.n0 h1n, nl2.nF, ⟨us, hH2, hr2⟩, fun k s ek ok => ?_⟩
        by_cases hk : i = k
        · subst hk
          have hi' : i < ρ.length := by
            have := (List.getElem?_eq_some_iff.mp ek).1
            rwa [List.length_set] at this
          rw [List.getElem?_set_self (by rw [← r1.len]; exact hi')]
          intro z
          cases z
          rw [hH] at h1n
          cases h1n
        · rw [List.getElem?_set_ne hk] at ek ⊢
          intro z
          exact r1.own_there ek ok z h1n
      exact ⟨_, _, rfl, q _ _ _ ((a1.own n1 i).own n2 j)⟩
/-- xs.append(ys.pop(e)) -/
def mAppPop (i j : Nat) (m : MM D) : MS := fun ρ x => match ρ[i]? with
  | some (.ol ds) => (match ρ[j]? with
    | some (.ol es) => mE m (fun d ρ x => match d with
      | .int k => (match ixN es.length k with
        | some n => (match es[n]? with
          | some z => if i ≠ j ∧ ds.length < big ∧ -(2 ^ 63) ≤ k ∧ k < 2 ^ 63 then .nx ((ρ.set j (.ol (es.eraseIdx n))).set i (.ol (ds ++ [z]))) x else .out
          | none => .out)
        | none => .out)
      | _ => .out) ρ x
    | _ => .out)
  | _ => .out
theorem js_appPop (i j : Nat) {y z : Str} {e : Expr} {p1 p2 apos apos2 cpos cpos2 pos : Pos} {m : MM D} (he : PE X e (rdE X.K W m)) (hN : X.N[i]? = some y := by rfl) (hNz : X.N[j]? = some z := by rfl) (hv : Vis X.env.scope y := by first | exact Or.inl rfl | exact Or.inr (Or.inl rfl) | exact Or.inr (Or.inr rfl)) (hvz : Vis X.env.scope z := by first | exact Or.inl rfl | exact Or.inr (Or.inl rfl) | exact Or.inr (Or.inr rfl)) (hd : (y == ("__debug__" : Str)) = false := by decide) (hcd : (y == ("__classdict__" : Str)) = false := by decide)
    (hdz : (z == ("__debug__" : Str)) = false := by decide) (hcdz : (z == ("__classdict__" : Str)) = false := by decide)
    (h1 : starEach [e] X.env = (false, eval e X.env) :: starEach [] X.env := by rfl) (hbase : attributeBase (.Name z p2) "pop" X.env (eval (.Name z p2) X.env) = eval (.Name z p2) X.env := by rfl) (hfew : ((backTo cpos2 (starEach [e] X.env)).all (fun x => !x.1) && (backToKw cpos2 (keywordEach [] X.env)).all (fun x => x.1.isSome)
      && decide ([e].length + ([] : List Keyword).length + (if ([] : List Keyword).isEmpty then 0 else 1) < 30)) = true := by rfl) (hline : (apos2.endLine == cpos2.line) = true := by rfl) (hplain : (backTo cpos2 (starEach [] X.env)).any (·.1) = false := by rfl)
    (h1' : starEach [Expr.Call (.Attribute (.Name z p2) "pop" apos2) [e] [] cpos2] X.env = (false, eval (.Call (.Attribute (.Name z p2) "pop" apos2) [e] [] cpos2) X.env) :: starEach [] X.env := by rfl) (hbase' : attributeBase (.Name y p1) "append" X.env (eval (.Name y p1) X.env) = eval (.Name y p1) X.env := by rfl) (hfew' : ((backTo cpos (starEach [Expr.Call (.Attribute (.Name z p2) "pop" apos2) [e] [] cpos2] X.env)).all (fun x => !x.1) && (backToKw cpos (keywordEach [] X.env)).all (fun x => x.1.isSome)
      && decide ([Expr.Call (.Attribute (.Name z p2) "pop" apos2) [e] [] cpos2].length + ([] : List Keyword).length + (if ([] : List Keyword).isEmpty then 0 else 1) < 30)) = true := by rfl) (hline' : (apos.endLine == cpos.line) = true := by rfl) (hplain' : (backTo cpos (starEach [] X.env)).any (·.1) = false := by rfl)
    (hs : swapsWith (.Call (.Attribute (.Name y p1) "append" apos) [.Call (.Attribute (.Name z p2) "pop" apos2) [e] [] cpos2] [] cpos) none pos.line X.env = pure false := by rfl) :
    PS X (.Expr (.Call (.Attribute (.Name y p1) "append" apos) [.Call (.Attribute (.Name z p2) "pop" apos2) [e] [] cpos2] [] cpos) pos) (rdS X.K W (mAppPop i j m)) :=
  psI (ps_expr (pe_bm PySem.F.plainAttrs_list PySem.F.slot_list_append PySem.F.type_list_append mt_append (pe_var (i := i) hN hv hd hcd) (pa_cons (pe_bm PySem.F.plainAttrs_list PySem.F.slot_list_pop PySem.F.type_list_pop mt_popAt (pe_var (i := j) hNz hvz hdz hcdz) (pa_cons he pa_nil h1) hbase hfew hline h1 hplain) pa_nil h1') hbase' hfew' hline' h1' hplain') hs) fun D σ H h => by
    obtain ⟨S, F, ρ, x, eK, r, p⟩ := h
    unfold mAppPop at p
    split at p
    · rename_i ds e
      split at p
      · rename_i es e'
        obtain ⟨q, vs, eσ, nb, n0, nF, hH, hr⟩ := r.getO e
        obtain ⟨q', vs', eσ', nb', n0', nF', hH', hr'⟩ := r.getO e'
        refine ⟨.ref q, eσ, .inl ⟨rfl, vs, sqL hH⟩, .ref q', eσ', .inl ⟨rfl, vs', sqL hH'⟩, ?_⟩
        refine (show rdE X.K W m σ H _ from ?_)
        refine ⟨S, F, ρ, x, eK, r, ?_⟩
        unfold mE at p
        cases e1 : m ρ x with
        | out =>
          rw [e1] at p
          exact p
        | exc c fs x1 =>
          rw [e1] at p
          exact fun F' H' dd a1 _ _ a4 => p σ F' H' dd a1 a4
        | val d x1 =>
          rw [e1] at p
          dsimp only at p
          intro v F2 H2 r2 s2 k2 hv
          have hv : Rep S.K S.b F2 v d := hv
          cases hv <;> try exact p.elim
          rename_i k
          dsimp only at p
          split at p
          · rename_i n hn
            split at p
            · rename_i z hz
              split at p
              · rename_i hc
                obtain ⟨hij, hz1, hk1, hk2⟩ := hc
                have g1 : H2 q = some (.lst vs) := k2 q _ hH nb
                have g2 : H2 q' = some (.lst vs') := k2 q' _ hH' nb'
                have hn' : ixN vs'.length k = some n := by rw [hr'.length]; exact hn
                obtain ⟨w, ew, hw⟩ := hr'.get hz
                have hqq : q ≠ q' := fun z => r.dist i j _ _ q hij e e' rfl rfl eσ (by rw [eσ', z])
                have rA := r2.updO e' eσ' ((hr'.mono s2).erase n)
                have eA : (ρ.set j (.ol (es.eraseIdx n)))[i]? = some (.ol ds) := by
                  rw [List.getElem?_set_ne (Ne.symm hij)]
                  exact e
                have rB := rA.updO eA eσ ((hr.mono s2).append (.cons (hw.mono s2) .nil))
                exact ⟨q', vs', k, n, w, rfl, rfl, g2, hk1, hk2, (ixN_seq hn').1, ew, q, vs, w, rfl, rfl, by rw [upd_ne hqq]; exact g1, by rw [hr.length]; exact big_lt hz1, p _ _ _ rB⟩
              · exact p.elim
            · exact p.elim
          · exact p.elim
      · exact p.elim
    · exact p.elim
end
/-! ### raise -/
def spI (C : Addr) (f : Str) : Sp := fun vs H Q _ => ∃ a v, vs = [.ref a, v] ∧ H a = some (exo a C none) ∧ ∀ dx, H dx = none → dx ≠ a → Q .non (upd (upd H dx (exd dx [(f, v)])) a (exo a C (some dx)))
/-- an own error class with an __init__ that keeps its one argument in f -/
structure ErrC (K : PySem.W.Frag) (c f : Str) (fd : FuncData) : Prop where
  T : OexC K (He.ga K c)
  iC : PySem.W.findIn K (.ref (He.ga K c)) "__init__" = some (some (.ref (He.ma K (He.ga K c) "__init__")))
  tI : PySem.W.typeIn K (.ref (He.ma K (He.ga K c) "__init__")) = some (.type "function")
  nf : PySem.W.findIn K (.ref (He.ga K c)) f = some none
section
variable {X : Cx} {W : WX}
def mRaise (c f : Str) (ms : MM (List D)) : MS := mE ms fun ds ρ x => match ds with
  | [d] => .exc c [(f, d)] ρ x
  | _ => .out
theorem js_raise {c f : Str} {fd : FuncData} {k : Nat} {ps : List Str} {e : Expr} {p pos pos2 : Pos} {ms : MM (List D)} (hc : X.calm = true) (tk : Takes X W) (E : ErrC X.K c f fd) (F1 : FnOk X.prog X.w X.K X.mg X.base CX0 k (He.ma X.K (He.ga X.K c) "__init__") fd ps (spI (He.ga X.K c) f)) (hr : Room (k + 1) X.A) (hb : Binds X.K fd ps []) (hg : Gl X c) (hm : X.mg c = some (.ref (He.ga X.K c))) (ha : PA X [e] (rdA X.K W ms))
    (hdb : (c == ("__debug__" : Str)) = false := by decide) (he : starEach [e] X.env = (false, eval e X.env) :: starEach [] X.env := by rfl) (hpl : (backTo pos (starEach [] X.env)).any (·.1) = false := by rfl) :
    PS X (.Raise (some (.Call (.Name c p) [e] [] pos)) none pos2) (rdS X.K W (mRaise c f ms)) :=
  psI (ps_raise hc tk (pmk_oex E.T E.iC E.tI F1 hr hb .nil (fun _ _ _ _ _ _ _ h => h.elim) hg hm ha hdb he hpl)) fun D σ H h => rd_E (rl := rlL) h fun S F H1 ρ x vs ds eK r hv q => by
    have hv : RepL S.K S.b F vs ds := hv
    split at q
    · rename_i d
      obtain ⟨v, ev, h1⟩ := rep1 hv
      subst ev
      refine ⟨by show 1 ≤ 1000; decide, fun a na => ⟨a, v, rfl, upd_same, fun dx nx ne => ⟨rfl, dx, [(f, v)], upd_same, by rw [upd_ne ne, upd_same], ?_, ?_⟩⟩⟩
      · rw [upd_ne ne] at nx
        exact nx
      · have ndx : H1 dx = none := by
          rw [upd_ne ne] at nx
          exact nx
        have eH : upd (L2.del (upd (upd (upd H1 a (exo a (He.ga X.K c) none)) dx (exd dx [(f, v)])) a (exo a (He.ga X.K c) (some dx))) a) dx (.xd [(f, v)]) = upd H1 dx (.xd [(f, v)]) := by
          funext b
          by_cases hbd : b = dx
          · subst hbd
            rw [upd_same, upd_same]
          · rw [upd_ne hbd, upd_ne hbd]
            by_cases hba : b = a
            · subst hba
              rw [del_same, na]
            · rw [del_ne hba, upd_ne hba, upd_ne hbd, upd_ne hba]
        rw [eH, ← eK]
        exact q σ _ _ (some dx) (r.alloc ndx) (.inr ⟨dx, [(f, v)], rfl, upd_same, .cons (h1.mono (Same.new (r.core.nF ndx))) .nil⟩)
    · exact q.elim
end
/-! ### a def -/
def startE (n : Nat) (ds : List D) : En := ds.map .fz ++ List.replicate (n - ds.length) .un
def mirror (n : Nat) (m : MS) : Mr := fun ds x => match m (startE n ds) x with
  | .nx _ x' => .val .non x'
  | .ret d x' => .val d x'
  | .exc c fs _ x' => .exc c fs x'
  | _ => .out
theorem rel_start {S : Cf} {H : Hp} {x : Bx} {vs : List V} {ds : List D} (N : List Str) (c : Core S S.F0 H x) (r : RepL S.K S.b S.F0 vs ds) : Rel S S.F0 H (L2.start N vs) (startE N.length ds) x where
  core := c
  len := by
    unfold L2.start startE
    rw [List.length_append, List.length_append, List.length_map, List.length_map, List.length_replicate, List.length_replicate, r.length]
  slot := fun i s e => by
    unfold startE at e
    unfold L2.start
    by_cases hi : i < ds.length
    · rw [List.getElem?_append_left (by rw [List.length_map]; exact hi), List.getElem?_map, List.getElem?_eq_getElem hi] at e
      cases e
      obtain ⟨v, ev, hv⟩ := r.get (List.getElem?_eq_getElem hi)
      refine ⟨some v, ?_, v, rfl, hv⟩
      rw [List.getElem?_append_left (by rw [List.length_map, r.length]; exact hi), List.getElem?_map, ev]
      rfl
    · rw [List.getElem?_append_right (by rw [List.length_map]; omega)] at e
      have hs : s = .un := (List.mem_replicate.mp (List.mem_of_getElem? e)).2
      subst hs
      have hl := (List.getElem?_eq_some_iff.mp e).1
      rw [List.length_map, List.length_replicate] at hl
      refine ⟨none, ?_, trivial⟩
      rw [List.getElem?_append_right (by rw [List.length_map, r.length]; omega), List.length_map, r.length]
      exact List.getElem?_replicate_of_lt hl
  dist := fun i j s t p _ e _ o _ _ => by
    unfold startE at e
    by_cases hi : i < ds.length
    · rw [List.getElem?_append_left (by rw [List.length_map]; exact hi), List.getElem?_map, List.getElem?_eq_getElem hi] at e
      cases e
      cases o
    · rw [List.getElem?_append_right (by rw [List.length_map]; omega)] at e
      have hs : s = .un := (List.mem_replicate.mp (List.mem_of_getElem? e)).2
      subst hs
      cases o
abbrev WD (E : XK) : WX := fun cls d _ H => E cls d H
section
variable {P : Program} {w : World} {K : PySem.W.Frag}
  {mg : Str → Option Value} {base : Heap}
theorem def_ok {x qual : Str} {st : Stmt} {f : Addr} {fd : FuncData} {N ps : List Str} {k : Nat} {m : MS} (F : Fun K x qual st f fd) (Sc : FnScope N ps (defScope st))
    (body : ∀ (cdv : Value) (A : Around) (outer : List PySem.Env) (s : Shared) (H : Hp) (E : XK), Room k (A.deeper (PyProof.Rows.envOfC qual (defScope st) s.heap.objs.size f cdv)) → PSs (cxOf (L2.CX P w) P w K mg base N qual (defScope st) f cdv A outer s H E) (defBody st) (rdS K (WD E) m)) :
    FnOk P w K mg base (L2.CX P w) (k + 1) f fd ps (spM K ps.length (mirror N.length m)) := by
  refine F.okX Sc (fun vs H Q E h => ?_) (fun cdv A outer s H vs Q E hr h => ⟨_, body cdv A outer s H E hr, ?_⟩)
  · obtain ⟨S, x, ds, _, _, _, r, hl, _⟩ := h
    rw [r.length, hl]
  · obtain ⟨S, x, ds, eK, eH, c, r, hl, p⟩ := h
    subst eH
    refine ⟨S, S.F0, startE N.length ds, x, eK, rel_start N c r, ?_⟩
    unfold mirror at p
    cases e : m (startE N.length ds) x with
    | nx ρ x' =>
      rw [e] at p
      exact fun σ F H r => p .non F H r.core .non
    | ret d x' =>
      rw [e] at p
      exact fun v F H c hv => p v F H c hv
    | exc c fs ρ x' =>
      rw [e] at p
      exact fun σ F H dd r hd => p F H dd r.core hd
    | retN ds x' =>
      rw [e] at p
      exact fun q vs F H c a1 a2 a3 a4 a5 => p.elim
    | brk ρ x' =>
      rw [e] at p
      exact p.elim
    | cnt ρ x' =>
      rw [e] at p
      exact p.elim
    | out =>
      rw [e] at p
      exact p
end
end Mi

/-! Mi11: defs by their names, calls by keywords, fresh lists returned, the box handed on, the law's end. -/
namespace Mi
open PySem PySem.Spec L2
/-! ### defs by their names -/
structure RawD (K : PySem.W.Frag) (mg : Str → Option Value) (x : Str) (st : Stmt) (ps : List Str) : Prop where
  ex : ∃ fd, Fun K x x st (He.ga K x) fd ∧ Binds K fd ps [] ∧ ∀ (s : Shared) (ws : List Value), ws.length = ps.length → BindsTo s fd ⟨[], ps.zip ws⟩ (ps.zip ws)
  gm : mg x = some (.ref (He.ga K x))
def FdAt (K : PySem.W.Frag) (x : Str) (fd : FuncData) : Prop := ∃ (oc : Value) (od : Option Addr) (osl : Array (Option Value)), K.lookup (He.ga K x) = some ⟨oc, od, .func fd, osl⟩
theorem FdAt.uniq {K : PySem.W.Frag} {x : Str} {fd fd' : FuncData} (h : FdAt K x fd) (h' : FdAt K x fd') : fd = fd' := by
  obtain ⟨_, _, _, e⟩ := h
  obtain ⟨_, _, _, e'⟩ := h'
  rw [e] at e'
  cases e'
  rfl
theorem fdAt_of {K : PySem.W.Frag} {x qual : Str} {st : Stmt} {fd : FuncData} (F : Fun K x qual st (He.ga K x) fd) : FdAt K x fd := by
  obtain ⟨oc, od, _, _, _, _, _, _, osl, rfl, lk, _⟩ := F.ex
  exact ⟨oc, od, osl, lk⟩
structure OkS (P : Program) (w : World) (K : PySem.W.Frag) (mg : Str → Option Value) (base : Heap) (k : Nat) (x : Str) (ps : List Str) (sp : Sp) : Prop where
  ex : ∃ fd, FnOk P w K mg base (L2.CX P w) k (He.ga K x) fd ps sp ∧ Binds K fd ps [] ∧ (∀ (s : Shared) (ws : List Value), ws.length = ps.length → BindsTo s fd ⟨[], ps.zip ws⟩ (ps.zip ws)) ∧ FdAt K x fd
  gm : mg x = some (.ref (He.ga K x))
  kp : PySem.W.keepIn K (.ref (He.ga K x)) = true
abbrev OkD (P : Program) (w : World) (K : PySem.W.Frag) (mg : Str → Option Value) (base : Heap) (k : Nat) (x : Str) (ps : List Str) (f : Mr) : Prop := OkS P w K mg base k x ps (spM K ps.length f)
section
variable {P : Program} {w : World} {K : PySem.W.Frag}
  {mg : Str → Option Value} {base : Heap}
theorem okD {x : Str} {st : Stmt} {N ps : List Str} {k k' n : Nat} {m : MS} (R : RawD K mg x st ps) (Sc : FnScope N ps (defScope st)) (hn : N.length = n) (hk : k' = k + 1)
    (body : ∀ (f : Addr) (cdv : Value) (A : Around) (outer : List PySem.Env) (s : Shared) (H : Hp) (E : XK), Room k (A.deeper (PyProof.Rows.envOfC x (defScope st) s.heap.objs.size f cdv)) → PSs (cxOf (L2.CX P w) P w K mg base N x (defScope st) f cdv A outer s H E) (defBody st) (rdS K (WD E) m)) :
    OkD P w K mg base k' x ps (mirror n m) := by
  subst hn hk
  obtain ⟨fd, F, b, kb⟩ := R.ex
  exact ⟨⟨fd, def_ok F Sc (body (He.ga K x)), b, kb, fdAt_of F⟩, R.gm, F.kp⟩
theorem okD_out {x : Str} {st : Stmt} {ps : List Str} {k : Nat} (R : RawD K mg x st ps) : OkD P w K mg base k x ps (fun _ _ => .out) := by
  obtain ⟨fd, F, b, kb⟩ := R.ex
  refine ⟨⟨fd, ⟨fun vs H Q E h => ?_, fun A outer s H args us vs Q E _ _ _ _ h => ?_⟩, b, kb, fdAt_of F⟩, R.gm, F.kp⟩
  · obtain ⟨_, _, _, _, _, _, _, _, p⟩ := h
    exact p.elim
  · obtain ⟨_, _, _, _, _, _, _, _, p⟩ := h
    exact p.elim
theorem OkS.mono {x : Str} {ps : List Str} {sp : Sp} {j k : Nat} (h : j ≤ k) (O : OkS P w K mg base j x ps sp) : OkS P w K mg base k x ps sp := by
  obtain ⟨fd, F, b, kb⟩ := O.ex
  exact ⟨⟨fd, F.mono h, b, kb⟩, O.gm, O.kp⟩
theorem OkD.to {x : Str} {ps : List Str} {f g : Mr} {k : Nat} (O : OkD P w K mg base k x ps f) (e : f = g) : OkD P w K mg base k x ps g := e ▸ O
end
section
variable {X : Cx} {W : WX} {ps : List Str} {k : Nat} {g : Mr} {ms : MM (List D)} {y : Str} {e : Expr} {es : List Expr} {p pos : Pos}
theorem j_callD {n : Nat} (O : OkD X.prog X.w X.K X.mg X.base k y ps g) (hr : Room k X.A) (tk : Takes X W) (ha : PA X (e :: es) (rdA X.K W ms)) (hn : ps.length = n := by rfl) (hg : Gl X y := by rfl) (hdb : (y == ("__debug__" : Str)) = false := by decide) (he : starEach (e :: es) X.env = (false, eval e X.env) :: starEach es X.env := by rfl) (hpl : (backTo pos (starEach es X.env)).any (·.1) = false := by rfl) :
    PE X (.Call (.Name y p) (e :: es) [] pos) (rdE X.K W (mDef n g ms)) := by
  subst hn
  obtain ⟨fd, F, b, _⟩ := O.ex
  exact j_call F hr tk hg O.gm O.kp b ha hdb he hpl
/-- a call that lets nothing out -/
def mDef0 (n : Nat) (f : Mr) (ms : MM (List D)) : MM D := mBind ms fun ds => fun _ x => if ds.length = n then (match f ds x with
  | .val d x' => .val d x'
  | _ => .out) else .out
theorem spM0 {K : PySem.W.Frag} {S : Cf} {F H : Hp} {σ : L2.St} {ρ : En} {x : Bx} {n : Nat} {f : Mr} {vs : List V} {ds : List D} {Q : VK} (eK : S.K = K) (r : Rel S F H σ ρ x) (h : RepL S.K S.b F vs ds)
    (p : Post rlD S W σ F H ρ (if ds.length = n then (match f ds x with
      | .val d x' => .val d x'
      | _ => .out) else .out) Q) : spM K n f vs H Q E0 := by
  split at p
  · rename_i hz
    refine ⟨⟨S.K, S.b, H, F, S.me⟩, x, ds, eK, rfl, r.core.enter, h, hz, ?_⟩
    cases e2 : f ds x with
    | out =>
      rw [e2] at p
      exact p
    | val d x3 =>
      rw [e2] at p
      intro v F3 H3 c3 h3
      obtain ⟨a1, a2, a3⟩ := r.back c3
      exact p v F3 H3 a1 a2 a3 h3
    | exc c fs x3 =>
      rw [e2] at p
      exact p.elim
  · exact p.elim
theorem rd_kw {K : PySem.W.Frag} {ms : MM (List D)} {k : List D → MM D} {σ : L2.St} {H : Hp} {Q : VK} {Q' : List V → Hp → Prop} (h : rdE K W (mBind ms k) σ H Q) (q : ∀ S F H' ρ x vs ds, S.K = K → Rel S F H' σ ρ x → RepL S.K S.b F vs ds → Post rlD S W σ F H' ρ (k ds ρ x) Q → Q' vs H') : rdA K W ms σ H Q' := by
  obtain ⟨S, F, ρ, x, eK, rr, p⟩ := rd_bind (rl := rlL) h
  refine ⟨S, F, ρ, x, eK, rr, ?_⟩
  cases e : ms ρ x with
  | val a x1 =>
    rw [e] at p
    intro v F' H' r1 s1 k1 h1
    obtain ⟨S2, F2, ρ2, x2, a2, eK2, rr2, h2, p2⟩ := p v F' H' r1 s1 k1 h1
    exact q S2 F2 H' ρ2 x2 v a2 eK2 rr2 h2 p2
  | exc c fs x1 =>
    rw [e] at p
    exact p
  | out =>
    rw [e] at p
    exact p
theorem jk_nil : PK X [] (rdA X.K W mNil) := ⟨fun pos pins s σ H Q I h => by
  obtain ⟨S, F, ρ, x, eK, r, p⟩ := h
  exact pk_nil.run pos pins s σ H Q I (post_val (rl := rlL) r p .nil)⟩
theorem jk_cons {nm : Option Str} {kpos : Pos} {kws : List Keyword} {m : MM D} {ms : MM (List D)} (he : PE X e (rdE X.K W m)) (hr : PK X kws (rdA X.K W ms)) : PK X (⟨nm, e, kpos⟩ :: kws) (rdA X.K W (mCons m ms)) := ⟨fun pos pins s σ H Q I h => (pk_cons he hr).run pos pins s σ H Q I (by
  refine (show rdE X.K W m σ H fun x H1 => rdA X.K W ms σ H1 fun xs H2 => Q (x :: xs) H2 from ?_)
  obtain ⟨S, F, ρ, x, eK, rr, p⟩ := rd_bind (rl := rlD) h
  refine ⟨S, F, ρ, x, eK, rr, ?_⟩
  cases e : m ρ x with
  | val a x1 =>
    rw [e] at p
    intro v F' H' r1 s1 k1 h1
    obtain ⟨S2, F2, ρ2, x2, eK2, rr2, p2⟩ := rd1_bind (rl1 := rlL) mono_D (p v F' H' r1 s1 k1 h1)
    refine ⟨S2, F2, ρ2, x2, eK2, rr2, ?_⟩
    cases e2 : ms ρ2 x2 with
    | val b x3 =>
      rw [e2] at p2
      intro v2 F3 H3 r3 s3 k3 h3
      obtain ⟨S4, F4, ρ4, x4, a4, b4, eK4, rr4, ha4, hb4, p4⟩ := p2 v2 F3 H3 r3 s3 k3 h3
      exact post_val (rl := rlL) rr4 p4 (.cons ha4 hb4)
    | exc c fs x3 =>
      rw [e2] at p2
      exact p2
    | out =>
      rw [e2] at p2
      exact p2
  | exc c fs x1 =>
    rw [e] at p
    exact p
  | out =>
    rw [e] at p
    exact p)⟩
/-- g(a = e, ..), all parameters by their names, in their order -/
theorem j_callK0 {kws : List Keyword} {n : Nat} (O : OkD X.prog X.w X.K X.mg X.base k y ps g) (hr : Room k X.A) (hkw : PK X kws (rdA X.K W ms)) (hn : ps.length = n := by rfl) (hks : (backToKw pos (keywordEach kws X.env)).filterMap (·.1) = ps := by rfl) (hall : (backToKw pos (keywordEach kws X.env)).all (·.1.isSome) = true := by rfl) (hg : Gl X y := by rfl) (hdb : (y == ("__debug__" : Str)) = false := by decide)
    (hpl : ((backTo pos (starEach [] X.env)).any (·.1) || (backToKw pos (keywordEach kws X.env)).any (·.1.isNone)) = false :=
      by rfl) :
    PE X (.Call (.Name y p) [] kws pos) (rdE X.K W (mDef0 n g ms)) := by
  subst hn
  obtain ⟨fd, F, _, kb, _⟩ := O.ex
  refine ⟨fun pins s σ H Q I h =>
    ?_⟩
  refine wpAny_Call_Name_kw (ld_glob I hg O.gm ?_ hdb)
  have h2 : rdA X.K W ms σ H fun zs H2 => spM X.K ps.length g zs H2 Q E0 := rd_kw h fun S F H' ρ x vs ds eK r hv p => spM0 eK r hv p
  refine PySem.W.callWith_KW0 (h₀ := X.base) I.ok.mod.kin O.kp hall (thn (hkw.run pos pins s σ H _ I h2) fun ws s2 ⟨zs, H2, I2, rz, q2⟩ => ⟨I2.kIn, ?_⟩) hpl
  rw [hks]
  have hl : ws.length = ps.length := by
    rw [← rz.length]
    exact F.len _ _ _ _ q2
  refine wpAny_call (codeAny_mono (F.run X.A X.stack s2 H2 ⟨[], ps.zip ws⟩ ws zs Q E0 hr I2.env0 (kb s2 ws hl) rz q2) fun r s' hq => ?_)
  cases r with
  | error e => exact passL (X := X) pins σ H2 s2 e s' I2 hq
  | ok fl =>
    cases fl with
    | ret u => exact I2.after hq
    | next => exact False.elim hq
    | brk => exact False.elim hq
    | cont => exact False.elim hq
/-- g() -/
theorem j_call0 (O : OkD X.prog X.w X.K X.mg X.base k y [] g) (hr : Room k X.A) (hg : Gl X y := by rfl) (hdb : (y == ("__debug__" : Str)) = false := by decide) : PE X (.Call (.Name y p) [] [] pos) (rdE X.K W (mDef0 0 g mNil)) := by
  obtain ⟨fd, F, b, _⟩ := O.ex
  refine peI (pe_call0 F hr hg O.gm O.kp b .nil passL hdb) fun σ H Q h => ?_
  obtain ⟨S, F, ρ, x, eK, r, p⟩ := h
  exact spM0 (vs := []) (ds := []) eK r .nil p

/-! ### fresh lists returned -/
theorem js_retL {e : Expr} {pos : Pos} {m : MM (List D)} (he : PE X e (rdN X.K W m)) : PS X (.Return (some e) pos) (rdS X.K W (mE m fun ds _ x => .retN ds x)) :=
  psI (ps_ret he) fun D σ H h => rd_EN h fun S F H' ρ x p ds eK r n q => by
    obtain ⟨vs, hH, hr⟩ := n.hH
    exact q p vs F H' r.core n.nb n.n0 n.nF hH hr
abbrev MrN := List D → Bx → R (List D)
def spN (K : PySem.W.Frag) (n : Nat) (f : MrN) : Sp := fun vs H Q _ => ∃ S x ds, S.K = K ∧ S.H0 = H ∧ Core S S.F0 H x ∧ RepL S.K S.b S.F0 vs ds ∧ ds.length = n ∧ ∃ es x', f ds x = .val es x' ∧ ∀ p us F' H', Core S F' H' x' → S.b ≠ some p → S.H0 p = none → F' p = none → H' p = some (.lst us) → RepL S.K S.b F' us es → Q (.ref p) H'
def mirrorN (n : Nat) (m : MS) : MrN := fun ds x => match m (startE n ds) x with
  | .retN es x' => .val es x'
  | _ => .out
abbrev OkN (P : Program) (w : World) (K : PySem.W.Frag) (mg : Str → Option Value) (base : Heap) (k : Nat) (x : Str) (ps : List Str) (f : MrN) : Prop := OkS P w K mg base k x ps (spN K ps.length f)
end
section
variable {P : Program} {w : World} {K : PySem.W.Frag}
  {mg : Str → Option Value} {base : Heap}
theorem okN {x : Str} {st : Stmt} {N ps : List Str} {k k' n : Nat} {m : MS} (R : RawD K mg x st ps) (Sc : FnScope N ps (defScope st)) (hn : N.length = n) (hk : k' = k + 1)
    (body : ∀ (f : Addr) (cdv : Value) (A : Around) (outer : List PySem.Env) (s : Shared) (H : Hp) (E : XK), Room k (A.deeper (PyProof.Rows.envOfC x (defScope st) s.heap.objs.size f cdv)) → PSs (cxOf (L2.CX P w) P w K mg base N x (defScope st) f cdv A outer s H E) (defBody st) (rdS K (WD E) m)) :
    OkN P w K mg base k' x ps (mirrorN n m) := by
  subst hn hk
  obtain ⟨fd, F, b, kb⟩ := R.ex
  refine ⟨⟨fd, F.okX Sc (fun vs H Q E h => ?_) (fun cdv A outer s H vs Q E hr h => ⟨_, body (He.ga K x) cdv A outer s H E hr, ?_⟩), b, kb, fdAt_of F⟩, R.gm, F.kp⟩
  · obtain ⟨S, x, ds, _, _, _, r, hl, _⟩ := h
    rw [r.length, hl]
  · obtain ⟨S, x, ds, eK, eH, c, r, hl, es, x', ef, p⟩ := h
    subst eH
    refine ⟨S, S.F0, startE N.length ds, x, eK, rel_start N c r, ?_⟩
    unfold mirrorN at ef
    cases e : m (startE N.length ds) x with
    | retN es2 x2 =>
      rw [e] at ef
      cases ef
      exact fun q vs F H c a1 a2 a3 a4 a5 => p q vs F H c a1 a2 a3 a4 a5
    | nx ρ x' =>
      rw [e] at ef
      cases ef
    | ret d x' =>
      rw [e] at ef
      cases ef
    | exc c fs ρ x' =>
      rw [e] at ef
      cases ef
    | brk ρ x' =>
      rw [e] at ef
      cases ef
    | cnt ρ x' =>
      rw [e] at ef
      cases ef
    | out =>
      rw [e] at ef
      cases ef
end
section
variable {X : Cx} {W : WX} {ps : List Str} {k : Nat} {ms : MM (List D)} {y : Str} {e : Expr} {es : List Expr} {p pos : Pos}
def mDefN (n : Nat) (f : MrN) (ms : MM (List D)) : MM (List D) := mBind ms fun ds => fun _ x => if ds.length = n then (match f ds x with
  | .val d x' => .val d x'
  | _ => .out) else .out
theorem j_callN {g : MrN} {n : Nat} (O : OkN X.prog X.w X.K X.mg X.base k y ps g) (hr : Room k X.A) (ha : PA X (e :: es) (rdA X.K W ms)) (hn : ps.length = n := by rfl) (hg : Gl X y := by rfl) (hdb : (y == ("__debug__" : Str)) = false := by decide) (he : starEach (e :: es) X.env = (false, eval e X.env) :: starEach es X.env := by rfl) (hpl : (backTo pos (starEach es X.env)).any (·.1) = false := by rfl) :
    PE X (.Call (.Name y p) (e :: es) [] pos) (rdN X.K W (mDefN n g ms)) := by
  subst hn
  obtain ⟨fd, F, b, _⟩ := O.ex
  refine peI (pe_call F hr hg O.gm O.kp b .nil passL ha hdb he hpl) fun σ H Q q => rd_toN (rl := rlL) q fun S F H' ρ x vs ds eK r hv p => ?_
  have hv : RepL S.K S.b F vs ds := hv
  split at p
  · rename_i hz
    cases e2 : g ds x with
    | out =>
      rw [e2] at p
      exact p.elim
    | exc c fs x' =>
      rw [e2] at p
      exact p.elim
    | val es2 x' =>
      rw [e2] at p
      rw [List.append_nil]
      refine ⟨⟨S.K, S.b, H', F, S.me⟩, x, ds, eK, rfl, r.core.enter, hv, hz, es2, x', e2, fun q us F2 H2 c a1 a2 a3 a4 a5 => ?_⟩
      obtain ⟨b1, b2, b3⟩ := r.back c
      have a2 : H' q = none := a2
      exact p q F2 H2 b1 ⟨a1, r.core.n0 a2, a3, ⟨us, a4, a5⟩, fun i s e o z => r.own_there e o z a2⟩ b2 b3 a2
  · exact p.elim
/-- g(e, es ..), e a new list of three ints: g's box -/
def ints3 : List D → Option Bx
  | [.int a, .int b, .int c] => some (a, b, c)
  | _ => none
def mDefB (g : Mr) (m : MM (List D)) : MM D := mBind m fun ds => fun _ x => match ints3 ds with
  | some bx => (match g [.box] bx with
    | .val d _ => if isSca d then .val d x else .out
    | _ => .out)
  | none => .out
theorem ints3_rep {K : PySem.W.Frag} {b : Option Addr} {F : Hp} {vs : List V} {ds : List D} {bx : Bx} (h : ints3 ds = some bx) (r : RepL K b F vs ds) : HO.lst vs = bxO bx := by
  unfold ints3 at h
  split at h
  · cases h
    cases r with
    | cons h1 r =>
      cases h1
      cases r with
      | cons h2 r =>
        cases h2
        cases r with
        | cons h3 r =>
          cases h3
          cases r
          rfl
  · cases h
theorem j_callB' {q : Str} {g : Mr} {m : MM (List D)} (O : OkD X.prog X.w X.K X.mg X.base k y [q] g) (hr : Room k X.A) (ha : PE X e (rdN X.K W m)) (hg : Gl X y := by rfl) (hdb : (y == ("__debug__" : Str)) = false := by decide) (he : starEach [e] X.env = (false, eval e X.env) :: starEach [] X.env := by rfl) (hpl : (backTo pos (starEach [] X.env)).any (·.1) = false := by rfl) :
    PE X (.Call (.Name y p) [e] [] pos) (rdE X.K W (mDefB g m)) := by
  obtain ⟨fd, F, b, _⟩ := O.ex
  refine peI (pe_call F hr hg O.gm O.kp b .nil passL (pa_cons ha pa_nil he) hdb he hpl) fun σ H Q h => ?_
  obtain ⟨S, F, ρ, x, eK, r, pp⟩ := h
  refine (show rdN X.K W m σ H fun v H1 => spM X.K 1 g ([v] ++ []) H1 Q E0 from ?_)
  refine ⟨S, F, ρ, x, eK, r, ?_⟩
  replace pp : Post rlD S W σ F H ρ ((m ρ x).bind fun ds x => match ints3 ds with
    | some bx => (match g [.box] bx with
      | .val d _ => if isSca d then .val d x else .out
      | _ => .out)
    | none => .out) Q := pp
  cases e1 : m ρ x with
  | out =>
    rw [e1] at pp
    exact pp
  | exc c fs x' =>
    rw [e1] at pp
    exact pp
  | val ds x1 =>
    rw [e1] at pp
    intro a F1 H1 r1 nl s1 k1 n0
    replace pp : Post rlD S W σ F H ρ (match ints3 ds with
      | some bx => (match g [.box] bx with
        | .val d _ => if isSca d then .val d x1 else .out
        | _ => .out)
      | none => .out) Q := pp
    obtain ⟨vs, hH, hv⟩ := nl.hH
    cases e2 : ints3 ds with
    | none =>
      rw [e2] at pp
      exact pp.elim
    | some bx =>
      rw [e2] at pp
      dsimp only at pp
      have eo := ints3_rep e2 hv
      refine ⟨⟨S.K, some a, H1, F1, S.me⟩, bx, [.box], eK, rfl, ⟨r1.core.sub, Same.refl _, fun _ _ h => h, fun _ _ h _ => h, fun a' e' => ?_⟩, .cons (.box rfl) .nil, rfl, ?_⟩
      · cases e'
        exact ⟨nl.nF, by rw [hH, eo]⟩
      · cases e3 : g [.box] bx with
        | out =>
          rw [e3] at pp
          exact pp
        | exc c fs x' =>
          rw [e3] at pp
          exact pp.elim
        | val d x' =>
          rw [e3] at pp
          dsimp only at pp
          split at pp
          · rename_i hz
            intro v F' H' c hd
            have ne : ∀ {q : Addr} {o : HO}, S.H0 q = some o → q ≠ a := fun {q o} h z => by
              rw [z, nl.n0] at h
              cases h
            have kq : ∀ q o, H1 q = some o → q ≠ a → H' q = some o := fun q o h hq => c.keep q o h (fun z => hq (Option.some.inj z).symm)
            have fq : ∀ q, H1 q ≠ none → F1 q = none → F' q = none := fun q h1 h2 => c.fresh q h1 h2
            have cS : Core S F' H' x1 := by
              refine ⟨c.sub, r1.core.f0.trans c.f0, fun q h1 h2 => ?_, fun q o h n => kq q o (r1.core.keep q o h n) (ne h), fun b e => ?_⟩
              · cases e : S.H0 q with
                | none => exact (h1 e).elim
                | some o =>
                  by_cases hb : S.b = some q
                  · have h5 := r1.core.box q hb
                    exact fq q (by rw [h5.2]; intro z; cases z) h5.1
                  · exact fq q (by rw [r1.core.keep q o e hb]; intro z; cases z) (r1.core.fresh q h1 h2)
              · have h5 := r1.core.box b e
                have hba : b ≠ a := fun z => nl.nb (z ▸ e)
                exact ⟨fq b (by rw [h5.2]; intro z; cases z) h5.1, kq b _ h5.2 hba⟩
            have rS : Rel S F' H' σ ρ x1 := by
              refine ⟨cS, r1.len, fun i s e => ?_, r1.dist⟩
              obtain ⟨v, e4, hs⟩ := r1.slot i s e
              refine ⟨v, e4, ?_⟩
              cases s with
              | un => trivial
              | fz d =>
                obtain ⟨u, e5, h5⟩ := hs
                exact ⟨u, e5, h5.mono c.f0⟩
              | ol ds =>
                obtain ⟨q, us, e5, b1, b2, b3, b4, b5⟩ := hs
                subst e5
                have hqa : q ≠ a := fun z => nl.nown i _ e rfl (by rw [e4, z])
                exact ⟨q, us, rfl, b1, b2, fq q (by rw [b4]; intro z; cases z) b3, kq q _ b4 hqa, b5.mono c.f0⟩
              | od ds =>
                obtain ⟨q, us, e5, b1, b2, b3, b4, b5⟩ := hs
                subst e5
                have hqa : q ≠ a := fun z => nl.nown i _ e rfl (by rw [e4, z])
                exact ⟨q, us, rfl, b1, b2, fq q (by rw [b4]; intro z; cases z) b3, kq q _ b4 hqa, b5.mono c.f0⟩
              | oo cc ff =>
                obtain ⟨q, us, e5, b1, b2, b3, b4, b5⟩ := hs
                subst e5
                have hqa : q ≠ a := fun z => nl.nown i _ e rfl (by rw [e4, z])
                exact ⟨q, us, rfl, b1, b2, fq q (by rw [b4]; intro z; cases z) b3, kq q _ b4 hqa, ⟨b5.1.mono c.f0, b5.2⟩⟩
            refine pp v F' H' rS (s1.trans c.f0) (fun q o h n => ?_) (Rep.sca hd hz)
            have hqa : q ≠ a := fun z => by
              rw [z, n0] at h
              cases h
            exact kq q o (k1 q o h n) hqa
          · exact pp.elim
end
/-- e or f, both new lists -/
def mOrN (m n : MM (List D)) : MM (List D) := mBind m fun ds => if ds.isEmpty then n else fun _ x => .val ds x
section
variable {X : Cx} {W : WX}
theorem jn_or {a b : Expr} {pos : Pos} {m n : MM (List D)} (ha : PE X a (rdN X.K W m)) (hb : PE X b (rdN X.K W n)) : PE X (.BoolOp .Or [a, b] pos) (rdN X.K W (mOrN m n)) :=
  peI (pe_orT ha (pe_one hb)) fun σ H Q h => by
    refine (show rdN X.K W m σ H fun x H1 => ∃ k, TruV X.K x H1 k ∧ if k = true then Q x H1 else rdN X.K W n σ H1 Q from ?_)
    obtain ⟨S, F, ρ, x, eK, r, p⟩ := h
    refine ⟨S, F, ρ, x, eK, r, ?_⟩
    replace p : PostN S W σ F H ρ ((m ρ x).bind fun ds x => (if ds.isEmpty then n else fun _ x => .val ds x) ρ x) Q := p
    cases e : m ρ x with
    | out =>
      rw [e] at p
      exact p
    | exc c fs x' =>
      rw [e] at p
      exact p
    | val ds x1 =>
      rw [e] at p
      replace p : PostN S W σ F H ρ ((if ds.isEmpty then n else fun _ x => .val ds x) ρ x1) Q := p
      intro q F1 H1 r1 nl s1 k1 n0
      obtain ⟨vs, hH, hr⟩ := nl.hH
      refine ⟨!ds.isEmpty, .inl ⟨vs, sqL hH, by rw [hr.emp]⟩, ?_⟩
      cases hb : ds.isEmpty with
      | true =>
        rw [hb] at p
        rw [if_neg (by decide)]
        exact ⟨S, F1, ρ, x1, eK, r1, p.mono s1 k1⟩
      | false =>
        rw [hb] at p
        rw [if_pos (by decide)]
        exact p q F1 H1 r1 nl s1 k1 n0
/-- an own error class, whole -/
structure ErrO (P : Program) (w : World) (K : PySem.W.Frag) (mg : Str → Option Value) (base : Heap) (c f : Str) : Prop where
  ex : ∃ fd, ErrC K c f fd ∧ FnOk P w K mg base CX0 1 (He.ma K (He.ga K c) "__init__") fd ["self", f] (spI (He.ga K c) f) ∧ Binds K fd ["self", f] []
  gm : mg c = some (.ref (He.ga K c))
theorem js_raiseE {c f : Str} {e : Expr} {p pos pos2 : Pos} {ms : MM (List D)} (hc : X.calm = true) (tk : Takes X W) (E : ErrO X.prog X.w X.K X.mg X.base c f) (hr : Room 2 X.A) (ha : PA X [e] (rdA X.K W ms)) (hg : Gl X c := by rfl)
    (hdb : (c == ("__debug__" : Str)) = false := by decide) (he : starEach [e] X.env = (false, eval e X.env) :: starEach [] X.env := by rfl) (hpl : (backTo pos (starEach [] X.env)).any (·.1) = false := by rfl) :
    PS X (.Raise (some (.Call (.Name c p) [e] [] pos)) none pos2) (rdS X.K W (mRaise c f ms)) := by
  obtain ⟨fd, EC, F, b⟩ := E.ex
  exact js_raise hc tk EC F hr b hg E.gm ha hdb he hpl
end
theorem init_ok {P : Program} {w : World} {K : PySem.W.Frag} {mg : Str → Option Value} {base : Heap} {c f qual : Str} {st : Stmt} {fd : FuncData} (F : Fun K "__init__" qual st (He.ma K (He.ga K c) "__init__") fd) (Sc : FnScope ["self", f] ["self", f] (defScope st)) (T : OexC K (He.ga K c)) (nf : PySem.W.findIn K (.ref (He.ga K c)) f = some none)
    (body : ∀ (cdv : Value) (A : Around) (outer : List PySem.Env) (s : Shared) (H : Hp) (E : XK), ∃ t, PSs (cxOf CX0 P w K mg base ["self", f] qual (defScope st) (He.ma K (He.ga K c) "__init__") cdv A outer s H E).nox (defBody st) t ∧ ∀ D σ H, tOst K f (tVar 0) (tVar 1) D σ H → t D σ H) : FnOk P w K mg base CX0 1 (He.ma K (He.ga K c) "__init__") fd ["self", f] (spI (He.ga K c) f) := by
  refine F.ok Sc (fun vs H Q E h => ?_) (fun cdv A outer s H vs Q E hr h => ?_)
  · obtain ⟨a, v, rfl, _⟩ := h
    rfl
  · obtain ⟨a, v, rfl, hH, q⟩ := h
    obtain ⟨t, ht, hi⟩ := body cdv A outer s H E
    refine ⟨t, ht, hi _ _ _ ?_⟩
    exact ⟨v, rfl, .ref a, rfl, a, _, rfl, T, nf, .inl ⟨hH, fun dx n ne => q dx n ne⟩⟩
theorem ga_eq {K : PySem.W.Frag} {x : Str} {f : Addr} (a : PySem.W.nsIn K mainGlobals x = some (some (.ref f))) : He.ga K x = f := by
  unfold He.ga
  rw [a]
theorem ma_eq {K : PySem.W.Frag} {C f : Addr} {m : Str} (a : PySem.W.findIn K (.ref C) m = some (some (.ref f))) : He.ma K C m = f := by
  unfold He.ma
  rw [a]
theorem rawD_mk {K : PySem.W.Frag} {mg : Str → Option Value} {h : Heap} {x : Str} {st : Stmt} {ps : List Str} {f : Addr} {od an : Option Addr} {osl : Array (Option Value)} {oc kV doc pm cdv ct : Value} (X : K.In h) (G : h.Ns mainGlobals mg) (a : PySem.W.nsIn K mainGlobals x = some (some (.ref f)))
    (l : K.lookup f = some ⟨oc, od, .func (PySem.W.fnOf x x (defArgs st) (defBody st) (defScope st) .none kV doc pm an cdv ct), osl⟩) (c : PySem.W.codeIn K cdv x = true) (k : PySem.W.keepIn K (.ref f) = true)
    (hb : ∀ (kV doc pm : Value) (an : Option Addr) (cdv ct : Value) (us : List Value), us.length = ps.length → bindArgs (PySem.W.fnOf x x (defArgs st) (defBody st) (defScope st) .none kV doc pm an cdv ct) ⟨us, []⟩ = pure (ps.zip us))
    (hk : ∀ (kV doc pm : Value) (an : Option Addr) (cdv ct : Value) (us : List Value), us.length = ps.length → bindArgs (PySem.W.fnOf x x (defArgs st) (defBody st) (defScope st) .none kV doc pm an cdv ct) ⟨[], ps.zip us⟩ = pure (ps.zip us)) : RawD K mg x st ps := by
  have e := ga_eq a
  have F : Fun K x x st f _ := fun_mk (st := st) l c k
  refine ⟨⟨_, e ▸ F, F.binds hb, fun s ws hl => BindsTo.of_eq (hk _ _ _ _ _ _ ws hl)⟩, ?_⟩
  rw [e]
  exact PySem.W.mg_of X G a
/-- the law's end -/
theorem law_sp {K : PySem.W.Frag} {f : Mr} {H : Hp} {a : Addr} {ns : List Int} (hS : SqL K H a (ns.map V.int)) (h : ∃ x', f [.scr ns] (0, 0, 0) = .val (.bl true) x') : spM K 1 f [.ref a] H (fun v _ => v = .bl true) fun _ _ _ => False := by
  obtain ⟨x', h⟩ := h
  refine ⟨⟨K, none, H, H, none⟩, (0, 0, 0), [.scr ns], rfl, rfl, ⟨Same.refl _, Same.refl _, fun _ _ h => h, fun _ _ h _ => h, fun _ e => nomatch e⟩, .cons (.scr hS) .nil, rfl, ?_⟩
  rw [h]
  intro v F' H' _ hv
  cases hv
  rfl
theorem cx_none {P : Program} {w : World} {H : Hp} {s : Shared} {e : Value} {s' : Shared} (h : L2.CX P w [] H s (fun _ _ _ => False) e s') : False := by
  obtain ⟨_, _, _, _, _, _, _, _, _, _, _, _, z⟩ :=
    h
  exact z
end Mi

/-! Mi12: comparisons as tests. -/
namespace Mi
open PySem PySem.Spec L2
section
variable {X : Cx} {W : WX}
/-- a bool as a test -/
def gTst : D → Option Bool
  | .bl b => some b
  | _ => none
def mTst (m : MM D) : MM Bool := mBind m fun d => oB (gTst d)
theorem rd_tst {K : PySem.W.Frag} {m : MM D} {σ : L2.St} {H : Hp} {Q : Bool → Hp → Prop} (h : rdT K W (mTst m) σ H Q) : rdE K W m σ H fun x H' => ∃ k, x = V.bl k ∧ Q k H' :=
  rd_un (rl := rlB) (r := fun x H' Q => ∃ k, x = V.bl k ∧ Q k H') (fun S F H σ ρ x v a Q eK r hr p => by
    cases hr <;> try exact p.elim
    exact ⟨_, rfl, post_val (rl := rlB) r p rfl⟩) h
theorem j_cmpT {op : CmpOp} {r : R2} {g : D → D → MM D} {ma mb : MM D} {a b : Expr} {pos : Pos} (ho : OpR X (compareOp op) r) (hr : Real2 X.K W r g) (ha : PE X a (rdE X.K W ma)) (hb : PE X b (rdE X.K W mb)) (hm : behindInMarks op b = false) : PT X (.Compare a [op] [b] pos) (rdT X.K W (mTst (mOp g ma mb))) :=
  ptI (pt_cmpR ho ha hb hm) fun σ H Q h => rd_op hr (rd_tst h)
theorem jt_lt {ma mb : MM D} {a b : Expr} {pos : Pos} (ha : PE X a (rdE X.K W ma)) (hb : PE X b (rdE X.K W mb)) : PT X (.Compare a [.Lt] [b] pos) (rdT X.K W (mTst (mOp (fun a b => o1 (gLt a b)) ma mb))) :=
  j_cmpT (op_lt.or op_lt_str) (Real2.or (real_I0 (f := fun i j => .bl (decide (i < j))) fun _ _ => .bl _) real_S) ha hb (nomark _)
theorem jt_le {ma mb : MM D} {a b : Expr} {pos : Pos} (ha : PE X a (rdE X.K W ma)) (hb : PE X b (rdE X.K W mb)) : PT X (.Compare a [.LtE] [b] pos) (rdT X.K W (mTst (mOp (fun a b => o1 (gLe a b)) ma mb))) :=
  j_cmpT (op_le.or op_le_str) (Real2.or (real_I0 (f := fun i j => .bl (decide (i ≤ j))) fun _ _ => .bl _) real_S) ha hb (nomark _)
theorem jt_gt {ma mb : MM D} {a b : Expr} {pos : Pos} (ha : PE X a (rdE X.K W ma)) (hb : PE X b (rdE X.K W mb)) : PT X (.Compare a [.Gt] [b] pos) (rdT X.K W (mTst (mOp (fun a b => o1 (gGt a b)) ma mb))) :=
  j_cmpT (op_gt.or op_gt_str) (Real2.or (real_I0 (f := fun i j => .bl (decide (j < i))) fun _ _ => .bl _) real_S) ha hb (nomark _)
theorem jt_ge {ma mb : MM D} {a b : Expr} {pos : Pos} (ha : PE X a (rdE X.K W ma)) (hb : PE X b (rdE X.K W mb)) : PT X (.Compare a [.GtE] [b] pos) (rdT X.K W (mTst (mOp (fun a b => o1 (gGe a b)) ma mb))) :=
  j_cmpT (op_ge.or op_ge_str) (Real2.or (real_I0 (f := fun i j => .bl (decide (j ≤ i))) fun _ _ => .bl _) real_S) ha hb (nomark _)

theorem jt_eq {ma mb : MM D} {a b : Expr} {pos : Pos} {k : Nat} (hr : Room k X.A) (ha : PE X a (rdE X.K W ma)) (hb : PE X b (rdE X.K W mb)) : PT X (.Compare a [.Eq] [b] pos) (rdT X.K W (mTst (mOp (fun a b => o1 (gEq a b)) ma mb))) :=
  j_cmpT (op_eqD hr.units) real_eq ha hb (nomark _)
theorem jt_ne {ma mb : MM D} {a b : Expr} {pos : Pos} {k : Nat} (hr : Room k X.A) (ha : PE X a (rdE X.K W ma)) (hb : PE X b (rdE X.K W mb)) : PT X (.Compare a [.NotEq] [b] pos) (rdT X.K W (mTst (mOp (fun a b => o1 (gNe a b)) ma mb))) :=
  j_cmpT (op_neD hr.units) real_ne ha hb (nomark _)
theorem jt_isN {ma mb : MM D} {a b : Expr} {pos : Pos} (ha : PE X a (rdE X.K W ma)) (hb : PE X b (rdE X.K W mb)) : PT X (.Compare a [.Is] [b] pos) (rdT X.K W (mTst (mOp (fun a b => o1 (gIsN a b)) ma mb))) :=
  j_cmpT op_isN (fun S F H σ ρ x v1 v2 a b Q eK r ha hb p => by
    cases hb <;> try exact p.elim
    refine ⟨rfl, ?_⟩
    cases ha <;> exact post_val (rl := rlD) r p (.bl _)) ha hb (nomark _)
theorem jt_notN {ma mb : MM D} {a b : Expr} {pos : Pos} (ha : PE X a (rdE X.K W ma)) (hb : PE X b (rdE X.K W mb)) : PT X (.Compare a [.IsNot] [b] pos) (rdT X.K W (mTst (mOp (fun a b => o1 (gNotN a b)) ma mb))) :=
  j_cmpT op_notN (fun S F H σ ρ x v1 v2 a b Q eK r ha hb p => by
    cases hb <;> try exact p.elim
    refine ⟨rfl, ?_⟩
    cases ha <;> exact post_val (rl := rlD) r p (.bl _)) ha hb (nomark _)
theorem j_subP {ma mb : MM D} {a b : Expr} {pos : Pos} (ha : PE X a (rdE X.K W ma)) (hb : PE X b (rdE X.K W mb)) (hs : PlainIx b := by exact fun _ _ => rfl) : PE X (.Subscript a b pos) (rdE X.K W (mOp (fun a b => o1 (gIx a b)) ma mb)) :=
  j_ix ix_seq real_ix ha hb hs
end
end Mi

/-! Mi13: mirrors that never look at the box. -/
namespace Mi
open PySem PySem.Spec L2
def R.st {α : Type} (x : Bx) : R α → R α
  | .val a _ => .val a x
  | .exc c fs _ => .exc c fs x
  | .out => .out
def RS.st (x : Bx) : RS → RS
  | .nx ρ _ => .nx ρ x
  | .brk ρ _ => .brk ρ x
  | .cnt ρ _ => .cnt ρ x
  | .ret d _ => .ret d x
  | .retN d _ => .retN d x
  | .exc c fs ρ _ => .exc c fs ρ x
  | .out => .out
def b0 : Bx := (0, 0, 0)
def Pu {α : Type} (m : MM α) : Prop := ∀ ρ x, m ρ x = (m ρ b0).st x
def PuS (m : MS) : Prop := ∀ ρ x, m ρ x = (m ρ b0).st x
def PuF (f : Mr) : Prop := ∀ ds x, f ds x = (f ds b0).st x
section
variable {α β : Type}
theorem R.st_st {r : R α} {x y : Bx} : (r.st x).st y = r.st y := by cases r <;> rfl
theorem RS.st_st {r : RS} {x y : Bx} : (r.st x).st y = r.st y := by cases r <;> rfl
theorem Pu.bind {m : MM α} {k : α → MM β} (h : Pu m) (hk : ∀ a, Pu (k a)) : Pu (mBind m k) := by
  intro ρ x
  unfold mBind
  rw [h ρ x]
  cases e : m ρ b0 with
  | val a x1 =>
    show k a ρ x = ((k a ρ x1)).st x
    rw [hk a ρ x, hk a ρ x1, R.st_st]
  | exc c fs x1 => rfl
  | out => rfl
theorem pu_val {a : α} : Pu (fun _ x => .val a x) := fun _ _ => rfl
theorem pu_out : Pu (fun _ _ => (.out : R α)) := fun _ _ => rfl
theorem pu_oB {o : Option α} : Pu (oB o) := by
  intro ρ x
  cases o <;> rfl
theorem pu_o1 {o : Option D} : Pu (o1 o) := by
  intro ρ x
  cases o <;> rfl
theorem pu_var {i : Nat} : Pu (mVar i) := by
  intro ρ x
  unfold mVar
  split <;> rfl
theorem pu_c {d : D} : Pu (mC d) := fun _ _ => rfl
theorem pu_nil : Pu mNil := fun _ _ => rfl
theorem pu_yes : Pu mYes := fun _ _ => rfl
theorem pu_noPart : Pu mNoPart := fun _ _ => rfl
theorem pu_if {c : Bool} {m n : MM α} (h : Pu m) (h' : Pu n) : Pu (if c = true then m else n) := by
  cases c
  · exact h'
  · exact h
theorem pu_if' {c : Prop} [Decidable c] {m n : MM α} (h : Pu m) (h' : Pu n) : Pu (if c then m else n) := by
  split
  · exact h
  · exact h'
theorem pu_cons {m : MM D} {ms : MM (List D)} (h : Pu m) (h' : Pu ms) : Pu (mCons m ms) := h.bind fun _ => h'.bind fun _ => pu_val
theorem pu_tup {ms : MM (List D)} (h : Pu ms) : Pu (mTup ms) := h.bind fun ds => by
  intro ρ x
  show (if _ then _ else _) = R.st x (if _ then _ else _)
  split <;> rfl
theorem pu_lst {ms : MM (List D)} (h : Pu ms) : Pu (mLst ms) := h.bind fun ds => by
  intro ρ x
  show (if _ then _ else _) = R.st x (if _ then _ else _)
  split <;> rfl
theorem pu_lstN {ms : MM (List D)} (h : Pu ms) : Pu (mLstN ms) := h.bind fun ds => by
  intro ρ x
  show (if _ then _ else _) = R.st x (if _ then _ else _)
  split <;> rfl
theorem pu_op {g : D → D → MM D} {m n : MM D} (hg : ∀ a b, Pu (g a b)) (h : Pu m) (h' : Pu n) : Pu (mOp g m n) := h.bind fun _ => h'.bind fun _ => hg _ _
theorem pu_call {g : List D → Option D} {ms : MM (List D)} (h : Pu ms) : Pu (mCall g ms) := h.bind fun _ => pu_o1
theorem pu_tru {m : MM D} (h : Pu m) : Pu (mTru m) := h.bind fun _ => pu_oB
theorem pu_tst {m : MM D} (h : Pu m) : Pu (mTst m) := h.bind fun _ => pu_oB
theorem pu_tor {m n : MM Bool} (h : Pu m) (h' : Pu n) : Pu (mTOr m n) := h.bind fun _ => pu_if pu_val h'
theorem pu_tand {m n : MM Bool} (h : Pu m) (h' : Pu n) : Pu (mTAnd m n) := h.bind fun _ => pu_if h' pu_val
theorem pu_tnot {m : MM Bool} (h : Pu m) : Pu (mTNot m) := h.bind fun _ => pu_val
theorem pu_asB {m : MM D} (h : Pu m) : Pu (asB m) := h.bind fun d => by
  intro ρ x
  cases d <;> rfl
theorem pu_andV {m n : MM D} (h : Pu m) (h' : Pu n) : Pu (mAndV m n) := (pu_asB h).bind fun _ => pu_if h' pu_val
theorem pu_orV {m n : MM D} (h : Pu m) (h' : Pu n) : Pu (mOrV m n) := (pu_asB h).bind fun _ => pu_if pu_val h'
theorem pu_notV {m : MM D} (h : Pu m) : Pu (mNotV m) := (pu_asB h).bind fun _ => pu_val
theorem pu_isi {T : String} {m : MM D} (h : Pu m) : Pu (mIsi T m) := h.bind fun _ => pu_o1
theorem pu_isi2 {T U : String} {m : MM D} (h : Pu m) : Pu (mIsi2 T U m) := h.bind fun _ => pu_o1
theorem pu_m0 {g : Str → Option D} {m : MM D} (h : Pu m) : Pu (mM0 g m) := h.bind fun _ => pu_o1
theorem pu_m1 {g : Str → List D → Option D} {m : MM D} {ms : MM (List D)} (h : Pu m) (h' : Pu ms) : Pu (mM1 g m ms) := h.bind fun d => by
  cases isS d with
  | none => exact pu_out
  | some s => exact h'.bind fun _ => pu_o1
theorem pu_splitN {m : MM D} {ms : MM (List D)} (h : Pu m) (h' : Pu ms) : Pu (mSplitN m ms) := h.bind fun d => by
  cases isS d with
  | none => exact pu_out
  | some s => exact h'.bind fun _ => pu_oB
theorem pu_part {m : MM D} (h : Pu m) : Pu (mPart m) := h.bind fun d => by
  cases d <;> first | exact pu_val | exact pu_out
theorem pu_slice {m : MM D} {lo hi : MM (Option Int)} (h : Pu m) (h1 : Pu lo) (h2 : Pu hi) : Pu (mSlice m lo hi) := h.bind fun _ => h1.bind fun _ => h2.bind fun _ => pu_o1
theorem pu_mIf {t : MM Bool} {m n : MM α} (h : Pu t) (h1 : Pu m) (h2 : Pu n) : Pu (mIf t m n) := h.bind fun _ => pu_if h1 h2
theorem pu_fmt {m : MM D} (h : Pu m) : Pu (mFmt m) := h.bind fun d => by
  intro ρ x
  cases d <;> first | rfl | skip
  · show (if _ then _ else _ : MM D) ρ x = R.st x ((if _ then _ else _ : MM D) ρ b0)
    split <;> rfl
  · show (if _ then _ else _ : MM D) ρ x = R.st x ((if _ then _ else _ : MM D) ρ b0)
    split <;> rfl
theorem pu_bor {m : MM D} (h : Pu m) : Pu (mBor m) := by
  intro ρ x
  unfold mBor
  rw [h]
  cases m (frzS allS ρ) b0 with
  | val a x1 =>
    show (if _ then _ else _) = R.st x (if _ then _ else _)
    split <;> rfl
  | exc c fs x1 => rfl
  | out => rfl
theorem pu_def {n : Nat} {f : Mr} {ms : MM (List D)} (h : PuF f) (h' : Pu ms) : Pu (mDef n f ms) := h'.bind fun ds => by
  intro ρ x
  show (if _ then _ else _) = R.st x (if _ then _ else _)
  split
  · exact h ds x
  · rfl
theorem pu_def0 {n : Nat} {f : Mr} {ms : MM (List D)} (h : PuF f) (h' : Pu ms) : Pu (mDef0 n f ms) := h'.bind fun ds => by
  intro ρ x
  show (if _ then _ else _) = R.st x (if _ then _ else _)
  split
  · rw [h ds x]
    cases f ds b0 <;> rfl
  · rfl
theorem pu_J : ∀ (ms : List (MM D)) (acc : Str), (∀ m ∈ ms, Pu m) → Pu (mJ ms acc)
  | [], acc, _ => pu_val
  | m :: ms, acc, h => by
    unfold mJ
    refine (h m (List.mem_cons_self ..)).bind fun d => ?_
    cases isS d with
    | none => exact pu_out
    | some y => exact pu_if' (pu_J ms _ fun m' hm => h m' (List.mem_cons_of_mem _ hm)) pu_out
theorem allM_nil : ∀ m ∈ ([] : List (MM D)), Pu m := fun _ h => nomatch h
theorem allM_cons {m : MM D} {ms : List (MM D)} (h : Pu m) (h' : ∀ m ∈ ms, Pu m) : ∀ m' ∈ m :: ms, Pu m' := fun m' hm => by
  cases hm with
  | head => exact h
  | tail _ hm => exact h' m' hm
theorem pu_iter {m : MM D} (h : Pu m) : Pu (mIter m) := h.bind fun _ => pu_oB
theorem pu_lcRun {tg : Tg} {c : MM Bool} {e : MM D} (hc : Pu c) (he : Pu e) {ρ : En} : ∀ (ds acc : List D) (x : Bx), lcRun tg c e ρ ds acc x = (lcRun tg c e ρ ds acc b0).st x
  | [], acc, x => rfl
  | d :: ds, acc, x => by
    unfold lcRun
    cases tg.asg d ρ with
    | none => rfl
    | some ρ1 =>
      dsimp only
      rw [hc ρ1 x]
      cases c ρ1 b0 with
      | val b x1 =>
        cases b with
        | true =>
          show (match e ρ1 x with
            | .val e2 x2 => if acc.length < big then lcRun tg c e ρ ds (acc ++ [e2]) x2 else .out
            | _ => .out) = R.st x (match e ρ1 x1 with
            | .val e2 x2 => if acc.length < big then lcRun tg c e ρ ds (acc ++ [e2]) x2 else .out
            | _ => .out)
          rw [he ρ1 x, he ρ1 x1]
          cases e ρ1 b0 with
          | val d2 x2 =>
            show (if acc.length < big then lcRun tg c e ρ ds (acc ++ [d2]) x else .out) = R.st x (if acc.length < big then lcRun tg c e ρ ds (acc ++ [d2]) x1 else .out)
            split
            · rw [pu_lcRun hc he ds _ x, pu_lcRun hc he ds _ x1, R.st_st]
            · rfl
          | exc _ _ _ => rfl
          | out => rfl
        | false =>
          show lcRun tg c e ρ ds acc x = R.st x (lcRun tg c e ρ ds acc x1)
          rw [pu_lcRun hc he ds _ x, pu_lcRun hc he ds _ x1, R.st_st]
      | exc _ _ _ => rfl
      | out => rfl
theorem pu_lcL {mi : MM (List D)} {tg : Tg} {c : MM Bool} {e : MM D} {own : List Nat} (hi : Pu mi) (hc : Pu c) (he : Pu e) : Pu (mLcL mi tg c e own) := by
  intro ρ x
  unfold mLcL
  rw [hi ρ x]
  cases mi ρ b0 with
  | val ds x1 =>
    show lcRun tg c e (wipeE (shut ρ) own) ds [] x = R.st x (lcRun tg c e (wipeE (shut ρ) own) ds [] x1)
    rw [pu_lcRun hc he ds _ x, pu_lcRun hc he ds _ x1, R.st_st]
  | exc _ _ _ => rfl
  | out => rfl
theorem pu_lc {mi : MM (List D)} {tg : Tg} {c : MM Bool} {e : MM D} {own : List Nat} (hi : Pu mi) (hc : Pu c) (he : Pu e) : Pu (mLc mi tg c e own) := (pu_lcL hi hc he).bind fun _ => pu_val
theorem pu_frz {m : MS} {sel : Nat → Bool} (h : PuS m) : PuS (fun ρ x => m (frzS sel ρ) x) := fun ρ x => h (frzS sel ρ) x
theorem pu_next : PuS mNext := fun _ _ => rfl
theorem pu_e {m : MM α} {k : α → MS} (h : Pu m) (hk : ∀ a, PuS (k a)) : PuS (mE m k) := by
  intro ρ x
  unfold mE
  rw [h ρ x]
  cases m ρ b0 with
  | val a x1 =>
    show k a ρ x = (k a ρ x1).st x
    rw [hk a ρ x, hk a ρ x1, RS.st_st]
  | exc c fs x1 => rfl
  | out => rfl
theorem pu_seq {m n : MS} (h : PuS m) (h' : PuS n) : PuS (mSeq m n) := by
  intro ρ x
  unfold mSeq
  rw [h ρ x]
  cases m ρ b0 with
  | nx ρ1 x1 =>
    show n ρ1 x = (n ρ1 x1).st x
    rw [h' ρ1 x, h' ρ1 x1, RS.st_st]
  | _ => rfl
theorem pu_ifS {t : MM Bool} {m n : MS} (h : Pu t) (h1 : PuS m) (h2 : PuS n) : PuS (mIfS t m n) := pu_e h fun c => by
  cases c
  · exact h2
  · exact h1
theorem pu_ret {m : MM D} (h : Pu m) : PuS (mRet m) := pu_e h fun _ _ _ => rfl
theorem pu_asg {tg : Tg} {m : MM D} (h : Pu m) : PuS (mAsg tg m) := pu_e h fun d ρ x => by
  cases tg.asg d ρ <;> rfl
theorem pu_raise {c f : Str} {ms : MM (List D)} (h : Pu ms) : PuS (mRaise c f ms) := pu_e h fun ds ρ x => by
  match ds with
  | [] => rfl
  | [d] => rfl
  | _ :: _ :: _ => rfl
theorem pu_eo {m : MM (List D)} {i : Nat} (h : Pu m) : PuS (mE m fun ds ρ x => .nx (ρ.set i (.ol ds)) x) := pu_e h fun _ _ _ => rfl
theorem pu_par {i j : Nat} {ms : MM (List D)} (h : Pu ms) : PuS (mPar i j ms) := pu_e h fun ds ρ x => by
  match ds with
  | [] => rfl
  | [_] => rfl
  | [_, _] => rfl
  | _ :: _ :: _ :: _ => rfl
theorem pu_app {i : Nat} {m : MM D} (h : Pu m) : PuS (mApp i m) := by
  intro ρ x
  unfold mApp
  split
  · exact pu_e h (fun d ρ x => by
      first
        | (dsimp only; split <;> rfl)
        | (split <;> rfl)) ρ x
  · rfl
theorem pu_setI {i : Nat} {mj m : MM D} (hj : Pu mj) (h : Pu m) : PuS (mSetI i mj m) := by
  intro ρ x
  unfold mSetI
  split
  · exact pu_e h (fun d => pu_e hj fun j ρ x => by
      cases j <;> first | rfl | (dsimp only; split <;> rfl) | (split <;> rfl)) ρ x
  · rfl
theorem pu_loop {tg : Tg} {mb : MS} (h : PuS mb) : ∀ ds : List D, PuS (loopS tg mb ds)
  | [], ρ, x => rfl
  | d :: ds, ρ, x => by
    unfold loopS
    cases tg.asg d ρ with
    | none => rfl
    | some ρ1 =>
      dsimp only
      rw [h ρ1 x]
      cases mb ρ1 b0 with
      | nx ρ2 x2 =>
        show loopS tg mb ds ρ2 x = RS.st x (loopS tg mb ds ρ2 x2)
        rw [pu_loop h ds ρ2 x, pu_loop h ds ρ2 x2, RS.st_st]
      | cnt ρ2 x2 =>
        show loopS tg mb ds ρ2 x = RS.st x (loopS tg mb ds ρ2 x2)
        rw [pu_loop h ds ρ2 x, pu_loop h ds ρ2 x2, RS.st_st]
      | _ => rfl
theorem pu_for {mi : MM (List D)} {tg : Tg} {mb : MS} (h : Pu mi) (hb : PuS mb) : PuS (mFor mi tg mb) := pu_e h fun _ => pu_loop hb _
theorem pu_mirror {n : Nat} {m : MS} (h : PuS m) : PuF (mirror n m) := by
  intro ds x
  unfold mirror
  rw [h _ x]
  cases m (startE n ds) b0 <;> rfl
theorem pu_never : PuF (fun _ _ => .out) := fun _ _ => rfl
/-- what it gives at the empty box it gives at every box -/
theorem PuF.at {f : Mr} (h : PuF f) {ds : List D} {d : D} {x1 : Bx} (e : f ds b0 = .val d x1) (x : Bx) : f ds x = .val d x := by
  rw [h ds x, e]
  rfl
end
end Mi

/-! Mi14: errors as values: caught, read, asked for their class. -/
namespace Mi
open PySem PySem.Spec
open L2 PyProof.Rows
theorem exv_ok {P : Program} {w : World} {H : Hp} {h : Heap} {a C : Addr} {d : Option Addr} {oe : Obj} {vs : Array Value} (e : h.get? a = some oe) (z : Zc (.ref C) d oe) (hd : oe.data = .fields vs) : ObjOk P w H h a (exv a C d) :=
  ⟨⟨oe, vs, e, z, hd⟩, ⟨oe, e⟩, fun _ _ ⟨o, v, q, r⟩ k => ⟨o, v, k o q, r⟩⟩
/-! ### an error that is held, as an object of the heap -/
/-- the dict of a held error -/
def DictAt (H : Hp) (d : Option Addr) (fs : List (Str × V)) : Prop := match d with
  | none => fs = []
  | some dx => H dx = some (.xd fs)
theorem exv_inst {X : Cx} {pins : List (Addr × Obj)} {σ : L2.St} {H : Hp} {s : Shared} {a C : Addr} {d : Option Addr} {fs : List (Str × V)} (I : L2.Inv X pins σ H s) (ea : H a = some (exv a C d)) (ed : DictAt H d fs) :
    ∃ (oe : Obj) (od : Option Obj), PySem.W.InstAt s.heap a oe C od ∧ ∀ (n : Str) (v : V), fs.lookup n = some v → PySem.W.hasDictIn X.K C = true → PySem.W.findIn X.K (.ref C) n = some none → ∃ u, RelV v u ∧ PySem.W.findObj X.K C od n = some (.value u) := by
  have q : (∃ (oe : Obj) (vs : Array Value), s.heap.get? a = some oe ∧ Zc (.ref C) d oe ∧ oe.data = .fields vs) := (show ObjOk X.prog X.w H s.heap a (.ext _) from I.hok a _ ea).1
  obtain ⟨oe, vs, hg, ⟨zc, zd⟩, hd⟩ := q
  have nc : PySem.W.notCls oe := by
    unfold PySem.W.notCls
    rw [hd]
  cases d with
  | none =>
    refine ⟨oe, none, ⟨hg, zc, nc, ?_⟩, fun n v e _ _ => ?_⟩
    · rw [zd]
      trivial
    · have e0 : fs = [] := ed
      rw [e0] at e
      cases e
  | some dx =>
    have hx : ∃ mA, s.heap.Ns1 dx mA ∧ ∀ f, RelO (fs.lookup f) (mA f) := show ObjOk X.prog X.w H s.heap dx (.xd fs) from I.hok dx _ ed
    obtain ⟨mA, hns, hr⟩ := hx
    obtain ⟨od, h1, h2⟩ := lookIn_ns hns
    refine ⟨oe, some od, ⟨hg, zc, nc, by rw [zd]; exact h1⟩, fun n v e hdi hno => ?_⟩
    obtain ⟨u, e3, r⟩ := (RelO.some_of (o := mA n) (v := v)) (e ▸ hr n)
    exact ⟨u, r, PySem.W.findObj_own hdi hno rfl (by rw [h2, e3])⟩
/-! ### its fields -/
def tErF (K : PySem.W.Frag) (n : Str) (te : TE) : TE := fun σ H Q => te σ H fun x H1 => ∃ (a C dx : Addr) (fs : List (Str × V)) (v : V), x = .ref a ∧ H1 a = some (exv a C (some dx)) ∧ ExcC K C ∧ PySem.W.findIn K (.ref C) n = some none ∧ H1 dx = some (.xd fs) ∧ fs.lookup n = some v ∧ Q v H1
theorem pe_erF {X : Cx} {e : Expr} {te : TE} {pos : Pos} {n : Str} (he : PE X e te) (hb : attributeBase e n X.env (eval e X.env) = eval e X.env := by rfl) : PE X (.Attribute e n pos) (tErF X.K n te) :=
  ⟨fun pins s σ H Q I h => attr_of hb (thn (he.run pins s σ H _ I h) fun u s1 ⟨x, H1, I1, rx, a, C, dx, fs, v, ex, ea, T, hno, ed, l, q⟩ => by
    subst ex
    cases rx
    obtain ⟨oe, od, J, look⟩ := exv_inst (fs := fs) I1 ea ed
    obtain ⟨w, rw, ew⟩ := look n v l T.hd hno
    exact HandSPX.exc_get I1.kIn J T.hg T.hk T.hs ew (handed_of rw) ⟨v, H1, I1.tok _, rw, q⟩)⟩
theorem RepF.look {K : PySem.W.Frag} {b : Option Addr} {F : Hp} {n : Str} {d : D} : ∀ {vs : List (Str × V)} {ds : Fl}, RepF K b F vs ds → ds.lookup n = some d → ∃ v, vs.lookup n = some v ∧ Rep K b F v d
  | _, _, .nil, e => by cases e
  | _, _, .cons (k := k) (v := v) (d := d') h r, e => by
    rw [List.lookup_cons] at e ⊢
    cases hk : n == k with
    | true =>
      rw [hk] at e
      cases e
      exact ⟨v, rfl, h⟩
    | false =>
      rw [hk] at e
      exact RepF.look r e
def gErF (cs : List Str) (n : Str) : D → Option D
  | .err c fs => if cs.contains c then fs.lookup n else none
  | _ => none
def mErF (cs : List Str) (n : Str) (m : MM D) : MM D := mBind m fun d => o1 (gErF cs n d)
section
variable {X : Cx} {W : WX}
theorem j_erF {cs : List Str} {n : Str} {e : Expr} {pos : Pos} {m : MM D} (hc : ∀ c ∈ cs, ExcC X.K (He.ga X.K c) ∧ PySem.W.findIn X.K (.ref (He.ga X.K c)) n = some none) (he : PE X e (rdE X.K W m)) (hb : attributeBase e n X.env (eval e X.env) = eval e X.env := by rfl) : PE X (.Attribute e n pos) (rdE X.K W (mErF cs n m)) :=
  peI (pe_erF he hb) fun σ H Q h => rd_un (rl := rlD) (r := fun x H1 Q => ∃ (a C dx : Addr) (fs : List (Str × V)) (v : V), x = .ref a ∧ H1 a = some (exv a C (some dx)) ∧ ExcC X.K C ∧ PySem.W.findIn X.K (.ref C) n = some none ∧ H1 dx = some (.xd fs) ∧ fs.lookup n = some v ∧ Q v H1) (fun S F H σ ρ x v a Q eK r hr p => by
    replace p : Post rlD S W σ F H ρ (o1 (gErF cs n a) ρ x) Q := p
    cases hr <;> try exact p.elim
    · rename_i a' C' c' ea ec
      replace p : Post rlD S W σ F H ρ (o1 (if cs.contains c' then (([] : Fl).lookup n) else none) ρ x) Q := p
      split at p
      · exact (show False from p).elim
      · exact (show False from p).elim
    · rename_i a' C' dx c' fs fds ea ec ed rf
      replace p : Post rlD S W σ F H ρ (o1 (if cs.contains c' then fds.lookup n else none) ρ x) Q := p
      split at p
      · rename_i hcs
        cases el : fds.lookup n with
        | none =>
          rw [el] at p
          exact p.elim
        | some d =>
          rw [el] at p
          obtain ⟨v, hl, hv⟩ := rf.look el
          obtain ⟨h1, h2⟩ := hc c' (List.contains_iff_mem.mp hcs)
          subst ec
          rw [eK] at ea
          exact ⟨_, _, dx, fs, v, rfl, r.core.sub _ _ ea, h1, h2, r.core.sub _ _ ed, hl, post_val (rl := rlD) r p hv⟩
      · exact (show False from p).elim) h
end
/-! ### its class -/
def rIsEr (K : PySem.W.Frag) (cv : Value) : V → Hp → VK → Prop := fun x H Q => ∃ (a C : Addr) (d : Option Addr) (fs : List (Str × V)) (b : Bool), x = .ref a ∧ H a = some (exv a C d) ∧ DictAt H d fs ∧ ExcC K C ∧ PySem.W.kitOne K (.ref C) cv = some b ∧ Q (.bl b) H
theorem call_isEr {X : Cx} {cw : V} {cv : Value} (hcv : ∀ u, RelV cw u → u = cv) : CallR X (.builtin "isinstance") (fun xs H Q => ∃ x, xs = [x, cw] ∧ rIsEr X.K cv x H Q) :=
  fun pins s σ H xs us Q I r ⟨x, ex, a, C, d, fs, b, ea', ea, ed, T, e, q⟩ => by
    subst ex ea'
    match us, r with
    | [u1, u2], .cons r1 (.cons r2 .nil) =>
      cases r1
      cases hcv u2 r2
      obtain ⟨oe, od, J, _⟩ := exv_inst I ea ed
      have hcl : (PySem.W.clsIn X.K C).isSome = true := by
        obtain ⟨cd, hc, _⟩ := PySem.W.any_some T.hd
        exact Option.isSome_iff_exists.mpr ⟨cd, hc⟩
      exact PySem.W.kia_one (PySem.W.kitx_exc hcl T.hg T.hk T.hs T.ha T.hn T.ht T.hm) I.kIn J e (fun z => nomatch z) fun tk => ⟨.bl b, H, I.tok tk, rfl, q⟩
def gIsE (tab : List (Str × Bool)) : D → Option D
  | .err c _ => (tab.lookup c).map .bl
  | _ => none
def mIsE (tab : List (Str × Bool)) (m : MM D) : MM D := mBind m fun d => o1 (gIsE tab d)
def TabE (K : PySem.W.Frag) (tab : List (Str × Bool)) (cv : Value) : Prop := ∀ c b, tab.lookup c = some b → ExcC K (He.ga K c) ∧ PySem.W.kitOne K (.ref (He.ga K c)) cv = some b
section
variable {X : Cx} {W : WX}
theorem real_isE {K : PySem.W.Frag} {tab : List (Str × Bool)} {cv : Value} (ht : TabE K tab cv) : ∀ S F H σ ρ x v a Q, S.K = K → Rel S F H σ ρ x → Rep S.K S.b F v a → Post rlD S W σ F H ρ (o1 (gIsE tab a) ρ x) Q → rIsEr K cv v H Q := by
  intro S F H σ ρ x v a Q eK r hr p
  cases hr <;> try exact p.elim
  · rename_i a' C' c' ea ec
    replace p : Post rlD S W σ F H ρ (o1 ((tab.lookup c').map .bl) ρ x) Q := p
    cases el : tab.lookup c' with
    | none =>
      rw [el] at p
      exact p.elim
    | some b =>
      rw [el] at p
      obtain ⟨h1, h2⟩ := ht c' b el
      subst ec
      rw [eK] at ea
      exact ⟨_, _, none, [], b, rfl, r.core.sub _ _ ea, rfl, h1, h2, post_val (rl := rlD) r p (.bl _)⟩
  · rename_i a' C' dx c' fs fds ea ec ed rf
    replace p : Post rlD S W σ F H ρ (o1 ((tab.lookup c').map .bl) ρ x) Q := p
    cases el : tab.lookup c' with
    | none =>
      rw [el] at p
      exact p.elim
    | some b =>
      rw [el] at p
      obtain ⟨h1, h2⟩ := ht c' b el
      subst ec
      rw [eK] at ea
      exact ⟨_, _, some dx, fs, b, rfl, r.core.sub _ _ ea, r.core.sub _ _ ed, h1, h2, post_val (rl := rlD) r p (.bl _)⟩
/-- isinstance(e, C), C an own class -/
theorem j_isE {y T : Str} {p p2 pos : Pos} {e : Expr} {m : MM D} {tab : List (Str × Bool)} (ht : TabE X.K tab (.ref (He.ga X.K T))) (hg : Gl X y) (hm : X.mg y = none) (hv : bootBuiltins y = some (.builtin "isinstance")) (hgT : Gl X T) (hmT : X.mg T = some (.ref (He.ga X.K T))) (he : PE X e (rdE X.K W m)) (hn : y ≠ "__name__" := by decide) (hdb : (y == ("__debug__" : Str)) = false := by decide) (hdT : (T == ("__debug__" : Str)) = false := by decide)
    (h1 : starEach (e :: [Expr.Name T p2]) X.env = (false, eval e X.env) :: starEach [Expr.Name T p2] X.env := by rfl) (h2 : starEach [Expr.Name T p2] X.env = (false, eval (Expr.Name T p2) X.env) :: starEach [] X.env := by rfl) (hpl : (backTo pos (starEach [Expr.Name T p2] X.env)).any (·.1) = false := by rfl) :
    PE X (.Call (.Name y p) [e, .Name T p2] [] pos) (rdE X.K W (mIsE tab m)) :=
  peI (pe_callB (call_isEr (cw := .ref (He.ga X.K T)) (cv := .ref (He.ga X.K T)) fun u r => r) hg hm hv (pa_cons he (pa_cons (pe_glob (v := .ref (He.ga X.K T)) hgT hmT rfl hdT) pa_nil h2) h1) hn hdb h1 hpl) fun σ H Q q =>
    rd_un (rl := rlD) (r := fun x H1 Q => ∃ x', [x, V.ref (He.ga X.K T)] = [x', V.ref (He.ga X.K T)] ∧ rIsEr X.K (.ref (He.ga X.K T)) x' H1 Q) (fun S F H σ ρ x v a Q eK r hr p => ⟨v, rfl, real_isE ht S F H σ ρ x v a Q eK r hr p⟩) q
/-- isinstance(e, T), T a built-in class -/
theorem j_isEb {y T : Str} {T0 : String} {p p2 pos : Pos} {e : Expr} {m : MM D} {tab : List (Str × Bool)} (ht : TabE X.K tab (.type T0)) (hg : Gl X y) (hm : X.mg y = none) (hv : bootBuiltins y = some (.builtin "isinstance")) (hgT : Gl X T) (hmT : X.mg T = none) (hvT : bootBuiltins T = some (.type T0)) (he : PE X e (rdE X.K W m)) (hn : y ≠ "__name__" := by decide) (hdb : (y == ("__debug__" : Str)) = false := by decide) (hnT : T ≠ "__name__" := by decide) (hdT : (T == ("__debug__" : Str)) = false := by decide)
    (h1 : starEach (e :: [Expr.Name T p2]) X.env = (false, eval e X.env) :: starEach [Expr.Name T p2] X.env := by rfl) (h2 : starEach [Expr.Name T p2] X.env = (false, eval (Expr.Name T p2) X.env) :: starEach [] X.env := by rfl) (hpl : (backTo pos (starEach [Expr.Name T p2] X.env)).any (·.1) = false := by rfl) :
    PE X (.Call (.Name y p) [e, .Name T p2] [] pos) (rdE X.K W (mIsE tab m)) :=
  peI (pe_callB (call_isEr (cw := .ty T0) (cv := .type T0) fun u r => r) hg hm hv (pa_cons he (pa_cons (pe_bltn (v := .ty T0) hgT hmT hvT rfl hnT hdT) pa_nil h2) h1) hn hdb h1 hpl) fun σ H Q q =>
    rd_un (rl := rlD) (r := fun x H1 Q => ∃ x', [x, V.ty T0] = [x', V.ty T0] ∧ rIsEr X.K (.type T0) x' H1 Q) (fun S F H σ ρ x v a Q eK r hr p => ⟨v, rfl, real_isE ht S F H σ ρ x v a Q eK r hr p⟩) q
end
/-! ### try: body, except c as n: suite, the error kept -/
/-- an error is at hand in the frame of X: without it the state was one of ours -/
structure Got (X : Cx) (pins : List (Addr × Obj)) (σ : L2.St) (H : Hp) (a C : Addr) (d : Option Addr) (s : Shared) : Prop where
  ex : ∃ (B : Heap) (s0 : Shared), L2.Inv X pins σ H s0 ∧ (∀ b o, s0.heap.get? b = some o → b ∉ frs X.stack → B.get? b = some o) ∧ s0.heap.UpToSlots s.heap ∧ HandSPX.FlyingZ B X.stack a (Zc (.ref C) d) s.heap ∧ s.os = s0.os ∧ AllBare s.gens
  na : H a = none
section
variable {X : Cx} {pins : List (Addr × Obj)} {σ : L2.St} {H : Hp} {s : Shared} {a C : Addr} {d : Option Addr}
theorem Got.inv (g : Got X pins σ H a C d s) : L2.Inv X pins σ H s :=
  let ⟨_, _, J, nb, up, fl, os, ag⟩ := g.ex
  J.landed nb fl.1 up os ag
theorem Got.obj (g : Got X pins σ H a C d s) : ∃ oe vs, s.heap.get? a = some oe ∧ Zc (.ref C) d oe ∧ oe.data = .fields vs :=
  let ⟨_, _, _, _, _, fl, _, _⟩ := g.ex
  fl.there
/-- .. and with it, tracked -/
theorem Got.kept (g : Got X pins σ H a C d s) : L2.Inv X pins σ (upd H a (exv a C d)) s := by
  obtain ⟨oe, vs, he, hz, hd⟩ := g.obj
  obtain ⟨B, s0, J, nb, up, fl, os, ag⟩ := g.ex
  have out : a ∉ frs X.stack := fun m => by
    obtain ⟨_, o, e, no⟩ := fl.2.2.1.mem m
    cases he.symm.trans e
    exact no vs hd
  have new0 : ∀ b o, s0.heap.get? b = some o → b ≠ a := fun b o e z => by
    have y := nb b o e (z ▸ out)
    rw [z, fl.2.1] at y
    cases y
  obtain ⟨G, onG, offG⟩ := restrict s.heap fun q => !(q == a)
  have same : ∀ b, b ≠ a → G.get? b = s.heap.get? b := fun b hb => onG b (by simp [hb])
  have gone : G.get? a = none := offG a (by simp)
  have JG : L2.Inv X pins σ H { s with heap := G } := by
    refine J.landed (B := B) nb (fun b o e => ?_) (fun b o e hn => ?_) os ag
    · rw [same b fun z => by rw [z, fl.2.1] at e; cases e]
      exact fl.1 b o e
    · obtain ⟨sl, q⟩ := up b o e hn
      exact ⟨sl, by rw [same b (new0 b o e)]; exact q⟩
  have back : ∀ b o, G.get? b = some o → s.heap.get? b = some o := fun b o e => by
    rw [← same b fun z => by rw [z, gone] at e; cases e]
    exact e
  have Z := L2.Inv.laidN (s := { s with heap := G }) (t' := s.toks) (h' := s.heap) (o := exv a C d) JG back gone g.na (exv_ok he hz hd)
  exact Z
theorem Got.again {M : Model} {A : Around} {E : Value → Shared → Prop} {Q : Unit → Shared → Prop} (g : Got X pins σ H a C d s) (k : ∀ s', Got X pins σ H a C d s' → Q () s') : wpAny M A (setFlight (.ref a) none) Q E s :=
  let ⟨B, s0, J, nb, up, fl, os, ag⟩ := g.ex
  HandSPX.lands_againZ fl fun _ fl' up' => k _ ⟨⟨B, s0, J, nb, up.trans up', fl', os, ag⟩, g.na⟩
theorem Got.cls (g : Got X pins σ H a C d s) (M : Model) : PySem.W.Looks M s.heap (typeOf (.ref a)) (.ref C) := fun _ _ _ _ k q =>
  let ⟨_, _, he, hz, _⟩ := g.obj
  wpAny_typeOf_ref (k _ _ he) (hz.1 ▸ q)
/-- the frame of a suite, and back -/
theorem suite_in (I : L2.Inv X pins σ H s) (b : Addr) : L2.Inv (X.suite b (X.pn ++ pins)) [] σ H s where
  ok := I.ok.suite _ _
  os := I.os
  bare := I.bare
  base := I.base
  loc := I.loc
  cell := I.cell
  free := I.free
  freeC := I.freeC
  pin := fun p hp => I.pin p (by rw [List.append_nil] at hp; exact hp)
  hok := I.hok
  len := I.len
theorem suite_out (ok : X.Ok) {b : Addr} (I : L2.Inv (X.suite b (X.pn ++ pins)) [] σ H s) : L2.Inv X pins σ H s where
  ok := ok
  os := I.os
  bare := I.bare
  base := I.base
  loc := I.loc
  cell := I.cell
  free := I.free
  freeC := I.freeC
  pin := fun p hp => I.pin p (List.mem_append_left _ hp)
  hok := I.hok
  len := I.len
end
def endsT (i : Nat) (D : Ends) : Ends := { nx := fun σ' H' => D.nx (σ'.set i none) H', rt := D.rt, bk := fun σ' H' => D.bk (σ'.set i none) H', ct := fun σ' H' => D.ct (σ'.set i none) H' }
theorem suite_ends {X : Cx} {pins : List (Addr × Obj)} {b : Addr} {i : Nat} {n : Str} {D : Ends} {pos : Pos} {A : Around} {E : Value → Shared → Prop} (ok : X.Ok) (hN : X.N.Nodup) (hi : X.N[i]? = some n) (hl : X.env.kindOf n = some .local) : ∀ (f : Flow) (s : Shared),
    SP (X.suite b (X.pn ++ pins)) [] (endsT i D) f s → wpAny (model X.prog X.w) A (do bindName X.env n .none; unbindBehindTheSuite X.env n pos) (fun _ s' => SP X pins D f s') E s
  | .next, _, ⟨_, _, I, q⟩ => gone_ok (suite_out ok I) hN hi hl fun _ J => ⟨_, _, J, q⟩
  | .brk, _, ⟨_, _, I, q⟩ => gone_ok (suite_out ok I) hN hi hl fun _ J => ⟨_, _, J, q⟩
  | .cont, _, ⟨_, _, I, q⟩ => gone_ok (suite_out ok I) hN hi hl fun _ J => ⟨_, _, J, q⟩
  | .ret _, _, ⟨_, _, _, I, r, q⟩ => gone_ok (suite_out ok I) hN hi hl fun _ J => ⟨_, _, _, J, r, q⟩
/-- what is wished of an error of the body: the clause takes it -/
def wAsT (K : PySem.W.Frag) (c : Value) (i : Nat) (ts : TS) (D : Ends) : WX := fun cls d σ H =>
  ∃ C, cls = .ref C ∧ PySem.W.exmOne K cls c = some true ∧ ∀ a, H a = none → ts (endsT i D) (σ.set i (some (.ref a))) (upd H a (exv a C d))
section
variable {X : Cx} {x n : Str} {c : Addr} {i : Nat} {body suite : List Stmt} {b₀ : Stmt} {np pos pos' : Pos} {tb : WX → TS} {ts : TS}
/-- the clause at work -/
theorem clause_ok {pins : List (Addr × Obj)} {σ : L2.St} {H : Hp} {s : Shared} {a C : Addr} {d : Option Addr} {D : Ends} (ok : X.Ok) (hN : X.N.Nodup) (hi : X.N[i]? = some n) (hl : X.env.kindOf n = some .local) (hg : Gl X x) (hm : X.mg x = some (.ref c)) (hdb : (x == ("__debug__" : Str)) = false)
    (hsu : ∀ (a : Addr) (pn : List (Addr × Obj)), PSs (X.suite a pn) (b₀ :: suite) ts) (G : Got X pins σ H a C d s) (he : PySem.W.exmOne X.K (.ref C) (.ref c) = some true) (hts : ts (endsT i D) (σ.set i (some (.ref a))) (upd H a (exv a C d))) :
    wpAny (model X.prog X.w) X.A (handleBy (.ref a) X.env [.ExceptHandler (some (.Name x np)) (some n) (b₀ :: suite) pos']) (SP X pins D) X.xe s := by
  refine wpAny_handleBy_cons (codeAny_handlers_test ?_) fun q => nomatch q
  refine ld_glob (X := X.suite a (X.pn ++ pins)) (suite_in G.inv a) hg hm ?_ hdb
  refine (PySem.W.exm_one G.inv.kIn (G.cls _) he).here ?_
  refine (show codeAny _ _ (.handlers _ _ _) _ _ from codeAny_handlers_suite_as (G.again fun s4 G4 => ?_))
  refine store_ok (X := X.suite a (X.pn ++ pins)) (v := .ref a) (suite_in G4.kept a) hN hi (.inl hl) rfl (fun s5 S5 => ?_) (.inr hl)
  exact wpAny_mono ((hsu a _).run [] s5 _ _ _ S5 hts) (suite_ends ok hN hi hl) fun _ _ z => z.elim
theorem ps_try_err (hs : X.stack = X.env :: X.outer) (hf : X.env.frame = some X.env.locals) (hN : X.N.Nodup) (hi : X.N[i]? = some n) (hl : X.env.kindOf n = some .local) (hg : Gl X x) (hm : X.mg x = some (.ref c)) (hdb : (x == ("__debug__" : Str)) = false)
    (hb : ∀ (W : WX) (pn : List (Addr × Obj)) (xe : Value → Shared → Prop), Takes (X.tr pn xe) W →
      PassesOwn (model X.prog X.w) X.A X.env xe → PSs (X.tr pn xe) body (tb W))
    (hsu : ∀ (a : Addr) (pn : List (Addr × Obj)), PSs (X.suite a pn) (b₀ :: suite) ts) :
    PS X (.Try body [.ExceptHandler (some (.Name x np)) (some n) (b₀ :: suite) pos'] [] [] pos) (fun D σ H => tb (wAsT X.K (.ref c) i ts D) D σ H) :=
  ⟨fun pins s σ H D I h => by
    have ok := I.ok
    have hfr : X.A.frames = some (X.env :: X.outer) := hs ▸ ok.frames
    refine wpAny_Try_except (wpAny_mono ((hb _ (X.pn ++ pins) _ (fun u s' xx => ?_) PassesOwn.looking).run [] s σ H D (I.toTry _) h) (fun f s1 out => ?_) fun _ _ z => z)
    · obtain ⟨a, B, s0, _, σ', H', cls, d, rfl, J, nb, up, sky, na, os, ag, C, rfl, he, hts⟩ := xx
      exact Sky.land Zc.steady hfr hf (hs ▸ sky) fun h3 fl3 up3 =>
        clause_ok ok hN hi hl hg hm hdb hsu ⟨⟨B, s0, J.ofTry ok, nb, up.trans up3, hs ▸ fl3, os, ag⟩, na⟩ he (hts a na)
    · match f, out with
      | .next, ⟨_, _, J, q⟩ => exact wpAny_execs_nil ⟨_, _, J.ofTry ok, q⟩
      | .brk, ⟨_, _, J, q⟩ => exact ⟨_, _, J.ofTry ok, q⟩
      | .cont, ⟨_, _, J, q⟩ => exact ⟨_, _, J.ofTry ok, q⟩
      | .ret _, ⟨_, _, _, J, r, q⟩ => exact ⟨_, _, _, J.ofTry ok, r, q⟩⟩
end
def mTry (tab : List (Str × Bool)) (i : Nat) (mb ms : MS) : MS := fun ρ x => match mb ρ x with
  | .exc c fs ρ1 x1 => (match tab.lookup c with
    | some true => (match ms (ρ1.set i (.fz (.err c fs))) x1 with
      | .nx ρ2 x2 => .nx (wipeE ρ2 [i]) x2
      | .brk ρ2 x2 => .brk (wipeE ρ2 [i]) x2
      | .cnt ρ2 x2 => .cnt (wipeE ρ2 [i]) x2
      | .ret d x2 => .ret d x2
      | _ => .out)
    | _ => .out)
  | r => r
def TabX (K : PySem.W.Frag) (tab : List (Str × Bool)) (cv : Value) : Prop := ∀ c b, tab.lookup c = some b → PySem.W.exmOne K (.ref (He.ga K c)) cv = some b
section
variable {X : Cx} {W : WX}
/-- a caught error's object, as data -/
theorem rep_err {S : Cf} {F H : Hp} {σ : L2.St} {ρ : En} {x : Bx} {a : Addr} {c : Str} {dd : Option Addr} {fs : Fl} (r : Rel S F H σ ρ x) (na : H a = none) (hd : XdOk S F dd fs) : Rep S.K S.b (upd F a (exv a (He.ga S.K c) dd)) (.ref a) (.err c fs) := by
  have nF := r.core.nF na
  rcases hd with ⟨rfl, rfl⟩ | ⟨dx, vs, rfl, e2, e3⟩
  · exact .err0 upd_same rfl
  · exact .err upd_same rfl (by rw [upd_ne fun z => by rw [z, nF] at e2; cases e2]; exact e2) (e3.mono (Same.new nF))
theorem rd_try {K : PySem.W.Frag} {tab : List (Str × Bool)} {i : Nat} {mb ms : MS} {cv : Value} (ht : TabX K tab cv) {D : Ends} {σ : L2.St} {H : Hp} (h : rdS K W (mTry tab i mb ms) D σ H) : rdS K (wAsT K cv i (rdS K Wf ms) D) mb D σ H := by
  obtain ⟨S, F, ρ, x, eK, r, p⟩ := h
  refine ⟨S, F, ρ, x, eK, r, ?_⟩
  unfold mTry at p
  generalize mb ρ x = R0 at p
  cases R0 with
  | exc c fs ρ1 x1 =>
    intro σ1 F1 H1 dd r1 hd
    dsimp only at p
    have hl : tab.lookup c = some true := by
      revert p
      cases tab.lookup c with
      | none => exact fun p => p.elim
      | some b =>
        cases b
        · exact fun p => p.elim
        · exact fun _ => rfl
    rw [hl] at p
    dsimp only at p
    refine ⟨He.ga S.K c, rfl, by rw [eK]; exact ht c true hl, fun a na => ⟨S, _, _, x1, eK, (r1.alloc na).put i (rep_err r1 na hd), ?_⟩⟩
    generalize ms (ρ1.set i (.fz (.err c fs))) x1 = R1 at p
    cases R1 with
    | nx ρ2 x2 => exact fun σ2 F2 H2 r2 => p _ F2 H2 (r2.wipe [i])
    | brk ρ2 x2 => exact fun σ2 F2 H2 r2 => p _ F2 H2 (r2.wipe [i])
    | cnt ρ2 x2 => exact fun σ2 F2 H2 r2 => p _ F2 H2 (r2.wipe [i])
    | ret d x2 => exact p
    | retN d x2 => exact p.elim
    | exc c2 fs2 ρ2 x2 => exact p.elim
    | out => exact p
  | _ => exact p
/-- try: .., except C as n: .. -/
theorem js_try {x n : Str} {i : Nat} {tab : List (Str × Bool)} {body suite : List Stmt} {b₀ : Stmt} {np pos pos' : Pos} {mb ms : MS} (ht : TabX X.K tab (.ref (He.ga X.K x))) (hs : X.stack = X.env :: X.outer) (hf : X.env.frame = some X.env.locals) (hN : X.N.Nodup) (hm : X.mg x = some (.ref (He.ga X.K x))) (tk : Takes X W)
    (hb : ∀ (W : WX) (pn : List (Addr × Obj)) (xe : Value → Shared → Prop), Takes (X.tr pn xe) W →
      PassesOwn (model X.prog X.w) X.A X.env xe → PSs (X.tr pn xe) body (rdS X.K W mb))
    (hsu : ∀ (a : Addr) (pn : List (Addr × Obj)), PSs (X.suite a pn) (b₀ :: suite) (rdS X.K Wf ms))
    (hi : X.N[i]? = some n := by rfl) (hln : X.env.kindOf n = some .local := by rfl) (hg : Gl X x := by rfl) (hdb : (x == ("__debug__" : Str)) = false := by decide) :
    PS X (.Try body [.ExceptHandler (some (.Name x np)) (some n) (b₀ :: suite) pos'] [] [] pos) (rdS X.K W (mTry tab i mb ms)) :=
  psI (ps_try_err (tb := fun W => rdS X.K W mb) hs hf hN hi hln hg hm hdb hb hsu) fun D σ H h => rd_try ht h
end
end Mi

/-! Mi15: replace, upper, a list so many times, a def out of a list called. -/
namespace Mi
open PySem PySem.Spec L2 PyProof.Rows
/-! ### a text replaced: a token must be out -/
def PE1 (X : Cx) (e : Expr) (t : TE) : Prop :=
  ∀ (pins : List (Addr × Obj)) (s : Shared) (σ : L2.St) (H : Hp) (Q : VK), Inv X pins σ H s → t σ H Q → wpAny (model X.prog X.w) X.A (eval e X.env) (fun v s1 => 1 ≤ s1.toks ∧ EP X pins σ Q v s1) X.xe s
section
variable {X : Cx} {W : WX}
theorem pe1_opc {op : Operator} {r : R2} {a : Expr} {ta : TE} {c : Str} {j : Nat} {p pos : Pos} (ho : OpR X (binaryOp op) r) (ha : PE X a ta) : PE1 X (.BinOp a op (.Constant (.str c) j p) pos) (tOp r ta (tC (.str c))) := by
  intro pins s σ H Q I h
  refine wpAny_BinOp (thn (ha.run pins s σ H _ I h) fun v s1 ⟨x, H1, I1, r1, q1⟩ => ?_)
  refine Calls.Constant_str (wpAny_mono (PySem.wpAny_toks (ho pins { s1 with toks := s1.toks + 1 } σ H1 x (.str c) v (.str c s1.toks) Q (I1.tok _) r1 ⟨_, rfl⟩ q1)) (fun u s2 q => ⟨?_, q.2⟩) fun _ _ z => z.2)
  have := q.1
  dsimp only at this
  omega
theorem pe1_op {op : Operator} {r : R2} {a b : Expr} {ta tb : TE} {pos : Pos} (ho : OpR X (binaryOp op) r) (ha : PE1 X a ta) (hb : PE X b tb) : PE1 X (.BinOp a op b pos) (tOp r ta tb) := by
  intro pins s σ H Q I h
  refine wpAny_BinOp (thn (ha pins s σ H _ I h) fun v s1 ⟨h1, x, H1, I1, r1, q1⟩ => ?_)
  refine wpAny_mono (PySem.wpAny_toks (hb.run pins s1 σ H1 _ I1 q1)) (fun u s2 q => ?_) fun _ _ z => z.2
  obtain ⟨h2, y, H2, I2, r2, q2⟩ := q
  refine wpAny_mono (PySem.wpAny_toks (ho pins s2 σ H2 x y v u Q I2 r1 r2 q2)) (fun z s3 q => ⟨?_, q.2⟩) fun _ _ z => z.2
  have := q.1
  omega
theorem pa_cons1 {e : Expr} {es : List Expr} {te : TE} {ta : TA} (ha : PE1 X e te) (hr : PAT X es ta) (hs : starEach (e :: es) X.env = (false, eval e X.env) :: starEach es X.env := by rfl) : PA X (e :: es) (tCons te ta) where
  run := fun pos pins s σ H Q I h => by
    have rest := fun u s1 (q : 1 ≤ s1.toks ∧ EP X pins σ _ u s1) => (let ⟨h1, _, H1, I1, r1, q1⟩ := q
      thn (hr pos pins s1 σ H1 _ h1 I1 q1) fun _ _ ⟨_, H2, I2, r2, q2⟩ => (⟨_, H2, I2, .cons r1 r2, q2⟩ : ∃ xs H2, L2.Inv X pins σ H2 _ ∧ Vals xs (u :: _) ∧ Q xs H2))
    rw [hs]
    exact Calls.spliced_cons (thn (ha pins s σ H _ I h) rest)
theorem pe1I {e : Expr} {t t' : TE} (h : PE1 X e t) (k : ∀ σ H Q, t' σ H Q → t σ H Q) : PE1 X e t' := fun pins s σ H Q I q => h pins s σ H Q I (k σ H Q q)
theorem petI {e : Expr} {t t' : TE} (h : PET X e t) (k : ∀ σ H Q, t' σ H Q → t σ H Q) : PET X e t' := fun pins s σ H Q h0 I q => h pins s σ H Q h0 I (k σ H Q q)
theorem patI {e : List Expr} {t t' : TA} (h : PAT X e t) (k : ∀ σ H Q, t' σ H Q → t σ H Q) : PAT X e t' := fun pos pins s σ H Q h0 I q => h pos pins s σ H Q h0 I (k σ H Q q)
theorem real_addM {K : PySem.W.Frag} : Real2 K W (fun x y H Q => rI0 (fun i j => V.int (i + j)) x y H Q ∨ ((∃ i j, x = .str i ∧ y = .str j ∧ i.length + j.length ≤ sizeLine ∧ Q (.str (i ++ j)) H) ∨ (rCat x y H Q ∨ rCatA K x y H Q))) (fun a b => o1 (gAdd a b)) :=
  Real2.or (real_I0 (f := fun i j => .int (i + j)) fun _ _ => .int _) (Real2.or real_addS (Real2.or real_addL real_addT))
theorem j1_addc {ma : MM D} {a : Expr} {c : Str} {j : Nat} {p pos : Pos} (ha : PE X a (rdE X.K W ma)) : PE1 X (.BinOp a .Add (.Constant (.str c) j p) pos) (rdE X.K W (mOp (fun a b => o1 (gAdd a b)) ma (mC (.str c)))) :=
  pe1I (pe1_opc op_addM ha) fun σ H Q h => by
    refine (show rdE X.K W ma σ H fun x H1 => tC (.str c) σ H1 fun y H2 => _ from ?_)
    refine rd_monoQ (show rdE X.K W ma σ H fun x H1 => rdE X.K W (mC (.str c)) σ H1 fun y H2 => _ from rd_op real_addM h) fun v H1 q => ?_
    exact rd_c (X := X) (W := W) (v := .str c) (d := .str c) (fun _ _ => .str c) σ H1 _ q
theorem j1_add {ma mb : MM D} {a b : Expr} {pos : Pos} (ha : PE1 X a (rdE X.K W ma)) (hb : PE X b (rdE X.K W mb)) : PE1 X (.BinOp a .Add b pos) (rdE X.K W (mOp (fun a b => o1 (gAdd a b)) ma mb)) :=
  pe1I (pe1_op op_addM ha hb) fun σ H Q h => rd_op real_addM h
theorem rd_cons {K : PySem.W.Frag} {m : MM D} {ms : MM (List D)} {σ : L2.St} {H : Hp} {Q : List V → Hp → Prop} (h : rdA K W (mCons m ms) σ H Q) : rdE K W m σ H fun x H1 => rdA K W ms σ H1 fun xs H2 => Q (x :: xs) H2 := by
  obtain ⟨S, F, ρ, x, eK, rr, p⟩ := rd_bind (rl := rlD) h
  refine ⟨S, F, ρ, x, eK, rr, ?_⟩
  cases e : m ρ x with
  | val a x1 =>
    rw [e] at p
    intro v F' H' r1 s1 k1 h1
    obtain ⟨S2, F2, ρ2, x2, eK2, rr2, p2⟩ := rd1_bind (rl1 := rlL) mono_D (p v F' H' r1 s1 k1 h1)
    refine ⟨S2, F2, ρ2, x2, eK2, rr2, ?_⟩
    cases e2 : ms ρ2 x2 with
    | val b x3 =>
      rw [e2] at p2
      intro v2 F3 H3 r3 s3 k3 h3
      obtain ⟨S4, F4, ρ4, x4, a4, b4, eK4, rr4, ha4, hb4, p4⟩ := p2 v2 F3 H3 r3 s3 k3 h3
      exact post_val (rl := rlL) rr4 p4 (.cons ha4 hb4)
    | exc c fs x3 =>
      rw [e2] at p2
      exact p2
    | out =>
      rw [e2] at p2
      exact p2
  | exc c fs x1 =>
    rw [e] at p
    exact p
  | out =>
    rw [e] at p
    exact p
theorem j1_acons {e : Expr} {es : List Expr} {m : MM D} {ms : MM (List D)} (he : PE1 X e (rdE X.K W m)) (hr : PAT X es (rdA X.K W ms)) (hs : starEach (e :: es) X.env = (false, eval e X.env) :: starEach es X.env := by rfl) : PA X (e :: es) (rdA X.K W (mCons m ms)) :=
  paI (pa_cons1 he hr hs) fun σ H Q h => rd_cons h
theorem jT_anil : PAT X [] (rdA X.K W mNil) := patI pat_nil fun σ H Q ⟨S, F, ρ, x, eK, r, p⟩ => post_val (rl := rlL) r p .nil
theorem jT_acons {e : Expr} {es : List Expr} {m : MM D} {ms : MM (List D)} (he : PET X e (rdE X.K W m)) (hr : PAT X es (rdA X.K W ms)) (hs : starEach (e :: es) X.env = (false, eval e X.env) :: starEach es X.env := by rfl) : PAT X (e :: es) (rdA X.K W (mCons m ms)) :=
  patI (pat_cons he hr hs) fun σ H Q h => rd_cons h
theorem jT_of {e : Expr} {t : TE} (h : PE X e t) : PET X e t := fun pins s σ H Q _ I q => h.run pins s σ H Q I q
def gRepl (y z s : Str) : Option D := if s.length + (s.length + 1) * z.length ≤ 16777216 then some (.str (Txt.replace s y z)) else none
theorem jT_repl {o : Expr} {y z : Str} {j k : Nat} {c0 c1 apos pos : Pos} {m : MM D} (ho : PE X o (rdE X.K W m)) (hyz : (y == z) = false := by decide)
    (hst : starEach [.Constant (.str y) j c0, .Constant (.str z) k c1] X.env = [(false, eval (.Constant (.str y) j c0) X.env), (false, eval (.Constant (.str z) k c1) X.env)] :=
      by rfl)
    (hbase : attributeBase o "replace" X.env (eval o X.env) = eval o X.env := by rfl)
      (hline : (apos.endLine == pos.line) = true := by rfl) :
    PET X (.Call (.Attribute o "replace" apos) [.Constant (.str y) j c0, .Constant (.str z) k c1] [] pos) (rdE X.K W (mM0 (gRepl y z) m)) :=
  petI (CwR.pet_replC ho hyz hst hbase hline) fun σ H Q h => rd_un (rl := rlD) (r := fun (v : V) (H1 : Hp) (Q : VK) => ∃ x : Str, v = .str x ∧ x.length + (x.length + 1) * z.length ≤ 16777216 ∧ Q (.str (Txt.replace x y z)) H1) (fun S F H σ ρ x v a Q eK r hr p => by
    cases hr <;> try exact p.elim
    rename_i s
    replace p : Post rlD S W σ F H ρ (o1 (gRepl y z s) ρ x) Q := p
    unfold gRepl at p
    split at p
    · rename_i hz
      exact ⟨s, rfl, hz, post_val (rl := rlD) r p (.str _)⟩
    · exact p.elim) h
def gUpper (s : Str) : Option D := if s.length ≤ 5592405 then some (.str (Txt.upper s)) else none
theorem gUpper_ok : ∀ a d, gUpper a = some d → a.length ≤ 5592405 ∧ Sca (V.str (Txt.upper a)) d := fun a d h => by
  unfold gUpper at h
  split at h
  · rename_i hz
    cases h
    exact ⟨hz, .str _⟩
  · cases h
theorem j_upper {apos cpos : Pos} {o : Expr} {m : MM D} (ho : PE X o (rdE X.K W m)) (hbase : attributeBase o "upper" X.env (eval o X.env) = eval o X.env := by rfl) (hline : (apos.endLine == cpos.line) = true := by rfl) : PE X (.Call (.Attribute o "upper" apos) [] [] cpos) (rdE X.K W (mM0 gUpper m)) :=
  j_m0 PySem.F.plainAttrs_str PySem.F.slot_str_upper PySem.F.type_str_upper mt_upper gUpper_ok ho hbase hline
/-! ### a list so many times -/
def gRepL (a b : D) : Option D := match a, b with
  | .lst ds, .int k => if -(2 ^ 63) ≤ k ∧ k < 2 ^ 63 ∧ ds.length * k.toNat ≤ big then some (.lst (List.replicate k.toNat ds).flatten) else none
  | _, _ => none
theorem real_rep {K : PySem.W.Frag} : Real2 K W rRep (fun a b => o1 (gRepL a b)) := by
  intro S F H σ ρ x v1 v2 a b Q eK r ha hb p
  cases ha <;> cases hb <;> try exact p.elim
  rename_i a1 vs1 ds1 h1 r1 k
  replace p : Post rlD S W σ F H ρ (o1 (if -(2 ^ 63) ≤ k ∧ k < 2 ^ 63 ∧ ds1.length * k.toNat ≤ big then some (.lst (List.replicate k.toNat ds1).flatten) else none) ρ x) Q := p
  split at p
  · rename_i hz
    refine ⟨a1, k, vs1, rfl, rfl, r.core.sub _ _ h1, hz.1, hz.2.1, ?_, fun q n => post_new (α := D) r p n (.lst upd_same ?_)⟩
    · rw [r1.length]
      exact big_le hz.2.2
    · have hrep : ∀ m : Nat, RepL S.K S.b F (List.replicate m vs1).flatten (List.replicate m ds1).flatten := fun m => by
        induction m with
        | zero => exact .nil
        | succ m ih =>
          simp only [List.replicate_succ, List.flatten_cons]
          exact r1.append ih
      exact (hrep _).mono (Same.new (r.core.nF n))
  · exact p.elim
theorem j_rep {ma mb : MM D} {a b : Expr} {pos : Pos} (ha : PE X a (rdE X.K W ma)) (hb : PE X b (rdE X.K W mb)) : PE X (.BinOp a .Mult b pos) (rdE X.K W (mOp (fun a b => o1 (gRepL a b)) ma mb)) :=
  j_op op_rep real_rep ha hb
/-! ### a def held as a value, called -/
def mFn (tab : List (Str × Mr)) (n : Nat) (mf : MM D) (ms : MM (List D)) : MM D := mBind mf fun d => match d with
  | .fn x => (match tab.lookup x with
    | some f => mDef n f ms
    | none => fun _ _ => .out)
  | _ => fun _ _ => .out
theorem j_callF {tab : List (Str × Mr)} {n k : Nat} {fe e : Expr} {es : List Expr} {pos : Pos} {mf : MM D} {ms : MM (List D)} (hO : ∀ x f, tab.lookup x = some f → ∃ ps, ps.length = n ∧ OkD X.prog X.w X.K X.mg X.base k x ps f) (hr : Room k X.A) (tk : Takes X W) (hf : PE X fe (rdE X.K W mf)) (ha : PA X (e :: es) (rdA X.K W ms))
    (ht : eval (.Call fe (e :: es) [] pos) X.env = (eval fe X.env >>= fun fv => callWith pos fv [] (backTo pos (starEach (e :: es) X.env)) (backToKw pos (keywordEach [] X.env))) := by rfl)
    (he : starEach (e :: es) X.env = (false, eval e X.env) :: starEach es X.env := by rfl) (hpl : (backTo pos (starEach es X.env)).any (·.1) = false := by rfl) : PE X (.Call fe (e :: es) [] pos) (rdE X.K W (mFn tab n mf ms)) := by
  refine ⟨fun pins s σ H Q I h =>
    ?_⟩
  have h2 : rdE X.K W mf σ H fun x H1 => ∃ y f ps, x = .ref (He.ga X.K y) ∧ ps.length = n ∧ OkD X.prog X.w X.K X.mg X.base k y ps f ∧ rdA X.K W ms σ H1 fun vs H2 => spM X.K n f vs H2 Q (WE W σ) :=
    rd_unS (rl := rlD) (r := fun x H1 Q => ∃ y f ps, x = .ref (He.ga X.K y) ∧ ps.length = n ∧ OkD X.prog X.w X.K X.mg X.base k y ps f ∧ rdA X.K W ms σ H1 fun vs H2 => spM X.K n f vs H2 Q (WE W σ)) (fun S F H ρ x v a Q eK r hr p => by
      cases hr <;> try exact p.elim
      rename_i y
      dsimp only at p
      cases el : tab.lookup y with
      | none =>
        rw [el] at p
        exact p.elim
      | some f =>
        rw [el] at p
        obtain ⟨ps, hl, O⟩ := hO y f el
        exact ⟨y, f, ps, by rw [eK], hl, O, rd_def ⟨S, F, ρ, x, eK, r, p⟩⟩) h
  refine PyProof.Rows.Call_ (thn (hf.run pins s σ H _ I h2) fun u s1 ⟨x, H1, I1, rx, y, f, ps, ex, hl, O, q⟩ => ?_) ht
  subst ex
  obtain rfl : u = Value.ref (He.ga X.K y) := rx
  obtain ⟨fd, F, b, _⟩ := O.ex
  subst hl
  refine PySem.W.callWith_K (h₀ := X.base) I.ok.mod.kin O.kp (thn (ha.run pos pins s1 σ H1 _ I1 q) fun us s2 ⟨vs, H2, I2, r, q2⟩ => ⟨I2.kIn, ?_⟩) he hpl
  exact run_fnS F hr b (passAt tk σ) I2 r q2
/-! ### a module's tuple of ints -/
def GTup (K : PySem.W.Frag) (mg : Str → Option Value) (y : Str) (is : List Int) : Prop := ∃ a, mg y = some (.ref a) ∧ KTup K a (is.map V.int)
theorem j_gtup {is : List Int} {y : Str} {pos : Pos} (hg : Gl X y) (hm : GTup X.K X.mg y is) (hd : (y == ("__debug__" : Str)) = false := by decide) : PE X (.Name y pos) (rdE X.K W (mC (.tup (is.map D.int)))) := by
  obtain ⟨a, hm, hk⟩ := hm
  exact peI (pe_glob (v := .ref a) hg hm rfl hd) fun σ H Q ⟨S, F, ρ, x, eK, r, p⟩ => post_val (rl := rlD) r p (.tup (.inr (by rw [eK]; exact hk)) (repL_ints is))
end
end Mi

/-! Mi16: tables of classes and defs; what never looks at the box. -/
namespace Mi
open PySem PySem.Spec L2
section
variable {K : PySem.W.Frag} {cv : Value} {c : Str} {b : Bool} {tab : List (Str × Bool)}
theorem tabX_nil : TabX K [] cv := fun _ _ e => by cases e
theorem tabX_cons (h : PySem.W.exmOne K (.ref (He.ga K c)) cv = some b) (r : TabX K tab cv) : TabX K ((c, b) :: tab) cv := fun c' b' e => by
  rw [List.lookup_cons] at e
  cases hk : c' == c with
  | true =>
    rw [hk] at e
    cases e
    rw [beq_iff_eq.mp hk]
    exact h
  | false =>
    rw [hk] at e
    exact r c' b' e
theorem tabE_nil : TabE K [] cv := fun _ _ e => by cases e
theorem tabE_cons (x : ExcC K (He.ga K c)) (h : PySem.W.kitOne K (.ref (He.ga K c)) cv = some b) (r : TabE K tab cv) : TabE K ((c, b) :: tab) cv := fun c' b' e => by
  rw [List.lookup_cons] at e
  cases hk : c' == c with
  | true =>
    rw [hk] at e
    cases e
    rw [beq_iff_eq.mp hk]
    exact ⟨x, h⟩
  | false =>
    rw [hk] at e
    exact r c' b' e
def ErC (K : PySem.W.Frag) (cs : List Str) (n : Str) : Prop := ∀ c ∈ cs, ExcC K (He.ga K c) ∧ PySem.W.findIn K (.ref (He.ga K c)) n = some none
theorem erC_nil {n : Str} : ErC K [] n := fun _ h => nomatch h
theorem erC_cons {n : Str} {cs : List Str} (x : ExcC K (He.ga K c)) (h : PySem.W.findIn K (.ref (He.ga K c)) n = some none) (r : ErC K cs n) : ErC K (c :: cs) n := fun c' m => by
  cases m with
  | head => exact ⟨x, h⟩
  | tail _ m => exact r c' m
end
section
variable {P : Program} {w : World} {K : PySem.W.Frag}
  {mg : Str → Option Value} {base : Heap}
def FnT (P : Program) (w : World) (K : PySem.W.Frag) (mg : Str → Option Value) (base : Heap) (k n : Nat) (tab : List (Str × Mr)) : Prop := ∀ x f, tab.lookup x = some f → ∃ ps : List Str, ps.length = n ∧ OkD P w K mg base k x ps f
theorem fnT_nil {k n : Nat} : FnT P w K mg base k n [] := fun _ _ e => by cases e
theorem fnT_cons {k j n : Nat} {tab : List (Str × Mr)} {x : Str} {ps : List Str} {f : Mr} (O : OkD P w K mg base j x ps f) (hk : j ≤ k) (hn : ps.length = n) (r : FnT P w K mg base k n tab) : FnT P w K mg base k n ((x, f) :: tab) := fun x' f' e => by
  rw [List.lookup_cons] at e
  cases hx : x' == x with
  | true =>
    rw [hx] at e
    cases e
    rw [beq_iff_eq.mp hx]
    exact ⟨ps, hn, O.mono hk⟩
  | false =>
    rw [hx] at e
    exact r x' f' e
theorem ErrO.nf {c f : Str} (E : ErrO P w K mg base c f) : PySem.W.findIn K (.ref (He.ga K c)) f = some none := by
  obtain ⟨_, E, _, _⟩ := E.ex
  exact E.nf
end
section
variable {α β : Type}
theorem pu_erF {cs : List Str} {n : Str} {m : MM D} (h : Pu m) : Pu (mErF cs n m) := h.bind fun _ => pu_o1
theorem pu_isE {tab : List (Str × Bool)} {m : MM D} (h : Pu m) : Pu (mIsE tab m) := h.bind fun _ => pu_o1
def PuT (tab : List (Str × Mr)) : Prop := ∀ x f, tab.lookup x = some f → PuF f
theorem puT_nil : PuT [] := fun _ _ e => by cases e
theorem puT_cons {x : Str} {f : Mr} {tab : List (Str × Mr)} (h : PuF f) (r : PuT tab) : PuT ((x, f) :: tab) := fun x' f' e => by
  rw [List.lookup_cons] at e
  cases hx : x' == x with
  | true =>
    rw [hx] at e
    cases e
    exact h
  | false =>
    rw [hx] at e
    exact r x' f' e
theorem pu_fn {tab : List (Str × Mr)} {n : Nat} {mf : MM D} {ms : MM (List D)} (h : PuT tab) (hf : Pu mf) (hs : Pu ms) : Pu (mFn tab n mf ms) := hf.bind fun d => by
  cases d <;> try exact pu_out
  rename_i x
  dsimp only
  cases e : tab.lookup x with
  | none => exact pu_out
  | some f => exact pu_def (h x f e) hs
theorem pu_try {tab : List (Str × Bool)} {i : Nat} {mb ms : MS} (h : PuS mb) (h' : PuS ms) : PuS (mTry tab i mb ms) := by
  intro ρ x
  unfold mTry
  rw [h ρ x]
  cases mb ρ b0 with
  | exc c fs ρ1 x1 =>
    show (match tab.lookup c with
      | some true => (match ms (ρ1.set i (.fz (.err c fs))) x with
        | .nx ρ2 x2 => RS.nx (wipeE ρ2 [i]) x2
        | .brk ρ2 x2 => .brk (wipeE ρ2 [i]) x2
        | .cnt ρ2 x2 => .cnt (wipeE ρ2 [i]) x2
        | .ret d x2 => .ret d x2
        | _ => .out)
      | _ => .out) = RS.st x (match tab.lookup c with
      | some true => (match ms (ρ1.set i (.fz (.err c fs))) x1 with
        | .nx ρ2 x2 => RS.nx (wipeE ρ2 [i]) x2
        | .brk ρ2 x2 => .brk (wipeE ρ2 [i]) x2
        | .cnt ρ2 x2 => .cnt (wipeE ρ2 [i]) x2
        | .ret d x2 => .ret d x2
        | _ => .out)
      | _ => .out)
    cases tab.lookup c with
    | none => rfl
    | some b =>
      cases b with
      | false => rfl
      | true =>
        dsimp only
        rw [h' _ x, h' _ x1]
        cases ms (ρ1.set i (.fz (.err c fs))) b0 <;> rfl
  | _ => rfl
end
end Mi

/-! Mi17: errors made by hand, as values: by place, by name, of nothing. -/
namespace Mi
open PySem PySem.Spec
open L2 PyProof.Rows
/-! ### an own error class called with one keyword: the machine's way, step by step -/
namespace Kw
open HandSPX Builtin PySem.Calls
section
variable {prog : Program} {w : World} {A : Around} {h : Heap} {gs : Array GenState} {dr : Drawn} {tk : Nat} {os : OsState}
variable {nm qn : Str} {C N fI : Addr} {bs bm bmB : List Value} {hd : Bool} {sn : List Str} {su : List Value} {ab : Bool} {co : Option Bool} {dd : Option Addr} {m0 m1 m2 m3 m5 : Option Value} {B newId initId : String}
/-- what is known of the class -/
structure Kn (F : ExcBaseFacts B newId initId bmB) (bm : List Value) : Prop where
  has : ∀ T : String, bm.contains (.type T) = bmB.contains (.type T)
theorem Kn.own {F : ExcBaseFacts B newId initId bmB} (k : Kn F bm) {T : String} {b : Bool} (e : bmB.contains (.type T) = b) : (Value.ref C :: bm).contains (.type T) = b :=
  (List.contains_cons).trans (by rw [k.has, e]; cases b <;> rfl)
/-- its __new__ may be asked so .. -/
theorem new_may {M : Model} {E : Value → Shared → Prop} {Q : Unit → Shared → Prop} {F : ExcBaseFacts B newId initId bmB} (k : Kn F bm) {ky : Str} {kv : Value}
    (hC : h.get? C = some (excClassObj nm qn C N bs bm hd sn su ab co dd m0 m1 m2 m3 m5 newId)) (q : Q () ⟨h, gs, dr, tk, os⟩) :
    wpAny M A (checkBuiltinCall newId ⟨[.ref C], [(ky, kv)]⟩) Q E ⟨h, gs, dr, tk, os⟩ := by
  have isB := k.own (C := C) F.hasB
  have star := F.noStar
  unfold checkBuiltinCall
  simp only [F.newKind, F.newSplit, F.newRow]
  repeat (first
    | exact q
    | refine wpAny_loadPart_at hC ?_
    | (refine wpAny_isSubtype_exc hC ?_
       rw [isB])
    | refine wpAny_staticBase_exc hC ?_
    | refine wpAny_madeBy_exc hC ?_
    | simp only [bne_self_eq_false, Bool.false_eq_true, if_false]
    | wp_step)
/-- .. and lays a record behind an empty tuple -/
theorem new_does {R : Result → Shared → Prop} {F : ExcBaseFacts B newId initId bmB} (k : Kn F bm) {ky : Str} {kv : Value}
    (hC : h.get? C = some (excClassObj nm qn C N bs bm hd sn su ab co dd m0 m1 m2 m3 m5 newId))
    (q : R (.ok (.ret (.ref (h.objs.size + 1)))) ⟨(h.push (W.kdv_tup [])).push (excO C h.objs.size), gs, dr, tk, os⟩) :
    codeAny (model prog w) A (.builtin newId ⟨[.ref C], [(ky, kv)]⟩) R ⟨h, gs, dr, tk, os⟩ := by
  have ends := F.ends
  have isB := k.own (C := C) F.hasB
  have noA := k.own (C := C) F.noAttr
  have noN := k.own (C := C) F.noName
  refine codeAny_builtinAt
    F.entry ?_
  refine PySem.wpAt_bind ?_
  refine PySem.wpAt_bind (PySem.wpAt_stack fun _ _ => PySem.wpAt_of_wpAny ?_)
  wp_walk
  refine PySem.wpAt_of_wpAny ?_
  rw [F.owner]
  repeat (first
    | with_reducible refine wpAny_madeHere_exc F.canon hC ?_
    | with_reducible refine wpAny_loadPart_at hC ?_
    | (with_reducible refine wpAny_isSubtype_exc hC ?_
       first
         | rw [isB]
         | rw [noA]
         | rw [noN])
    | wp_step)
  refine (show R _ _ from ?_)
  rw [Heap.size_push]
  exact q
/-- the class itself called: a record, then its own __init__ with the keyword -/
theorem call_does {R : Result → Shared → Prop} {F : ExcBaseFacts B newId initId bmB} (k : Kn F bm) {ky : Str} {kv : Value}
    (hC : h.get? C = some (excClassObj nm qn C N bs bm hd sn su ab co dd m0 m1 m2 m3 m5 newId)) (li : W.Looks (model prog w) h (typeLookup (.ref C) "__init__") (some (.ref fI)))
    (lb : ∀ self, W.Looks (model prog w) h (bindSpecial (.ref fI) self) (.ref fI, [self]))
    (q : codeAny (model prog w) (A.under (.builtin "type.__call__" ⟨[.ref C], [(ky, kv)]⟩)) (.call (.ref fI) ⟨[.ref (h.objs.size + 1)], [(ky, kv)]⟩) (W.InitBack (h.objs.size + 1) R) ⟨(h.push (W.kdv_tup [])).push (excO C h.objs.size), gs, dr, tk, os⟩) :
    codeAny (model prog w) A (.call (.ref C) ⟨[], [(ky, kv)]⟩) R ⟨h, gs, dr, tk, os⟩ := by
  have stay : ∀ b o, h.get? b = some o → ((h.push (W.kdv_tup [])).push (excO C h.objs.size)).get? b = some o := fun b o e => Heap.get?_push_of_some _ (Heap.get?_push_of_some _ e)
  have there : ((h.push (W.kdv_tup [])).push (excO C h.objs.size)).get? (h.objs.size + 1) = some (excO C h.objs.size) := by heap_get
  have own : (Value.ref C :: bm).contains (.ref C) = true := by simp
  have hC' := stay _ _ hC
  have t0 := tc_lookup
  have t1 := tc_bind (.ref C)
  have ty : (⟨h, gs, dr, tk, os⟩ : Shared).TypeIs (.ref C) "type" := ⟨_, hC, rfl⟩
  refine codeAny_of_tree ?_
  show wpAny (model prog w) _ (callAny (.ref C) ⟨[], [(ky, kv)]⟩) _ _ _
  repeat (any_goals (first
    | assumption
    | with_reducible refine wpAny_loadPart_at hC ?_
    | wp_step))
  refine ⟨rfl, codeAny_call_builtin_at (Code.quiet_builtin _ (by decide +kernel)) entry_typeCall (wpAny_check_type_call_sub hC ?_)⟩
  repeat (first
    | with_reducible refine wpAny_loadPart_at hC ?_
    | with_reducible refine wpAny_madeBy_exc hC ?_
    | wp_step)
  refine codeAny_call_builtin_code (Code.quiet_builtin _ F.quiet) (new_may k hC (new_does k hC ?_))
  refine (show wpAny _ _ _ _ _ _ from ?_)
  unfold isInstance
  repeat (first
    | with_reducible refine wpAny_loadPart_at there ?_
    | (with_reducible refine wpAny_isSubtype_exc hC' ?_
       rw [own])
    | wp_step)
  refine (show wpAny _ _ (typeLookup _ _) _ _ _ from (li.keeps stay).at (wpAny_holding (wpAny_bind ((lb _).keeps stay |>.at (wpAny_bind (wpAny_call (codeAny_mono q fun r s' z => ?_)))))))
  cases r with
  | error e => exact z
  | ok fl =>
    cases fl with
    | next => exact z.elim
    | brk => exact z.elim
    | cont => exact z.elim
    | ret v =>
      obtain ⟨ev, z⟩ := z
      subst ev
      first
        | exact
                                                wpAny_pure (wpAny_pure z)
        | (wp_walk
           exact z)
end
end Kw
/-! ### made in the frame of X -/
section
variable {X : Cx} {pins : List (Addr × Obj)} {σ : L2.St} {H : Hp} {hp : Heap} {gs : Array GenState} {dr : Drawn} {tk : Nat} {os : OsState}
/-- the heap behind the laying of an error that is told apart by its place a and its dict's place dx -/
abbrev errH (H : Hp) (a C dx : Addr) (f : Str) (v : V) : Hp := upd (upd H dx (.xd [(f, v)])) a (exv a C (some dx))
theorem told_exv {s : Shared} {a C dx : Addr} {f : Str} {v : V} (na : H a = none) (nd : H dx = none) (ne : dx ≠ a)
    (I : L2.Inv X pins σ (upd (upd (upd H a (exo a C none)) dx (exd dx [(f, v)])) a (exo a C (some dx))) s) : L2.Inv X pins σ (errH H a C dx f v) s := by
  have atA : upd (upd (upd H a (exo a C none)) dx (exd dx [(f, v)])) a (exo a C (some dx)) a = some (exo a C (some dx)) := upd_same
  have atD : upd (upd (upd H a (exo a C none)) dx (exd dx [(f, v)])) a (exo a C (some dx)) dx = some (exd dx [(f, v)]) := (upd_ne ne).trans upd_same
  obtain ⟨mA, names, look⟩ := exd_at I.hok atD
  obtain ⟨_, obj⟩ := exo_at I.hok atA
  have J : L2.Inv X pins σ _ { s with heap := s.heap, toks := s.toks } := I.write (t' := s.toks) (x := dx) (e := dx) (o := .xd [(f, v)]) (h' := s.heap) (atD ▸ True.intro) (.inl rfl) (fun _ _ _ h => h) (let ⟨o, _, _, e, _⟩ := names; ⟨o, e⟩) ⟨mA, names, look⟩
  have J2 := J.write (t' := s.toks) (x := a) (e := a) (o := exv a C (some dx)) (h' := s.heap) (by rw [upd_ne (Ne.symm ne), upd_same]; exact True.intro) (.inl rfl) (fun _ _ _ h => h) ⟨_, obj⟩ (exv_ok obj ⟨rfl, rfl⟩ rfl)
  have same : upd (upd (upd (upd (upd H a (exo a C none)) dx (exd dx [(f, v)])) a (exo a C (some dx))) dx (.xd [(f, v)])) a (exv a C (some dx)) = errH H a C dx f v := funext fun b => by
    unfold errH
    by_cases ha : b = a
    · rw [ha, upd_same, upd_same]
    · rw [upd_ne ha, upd_ne ha]
      by_cases hd : b = dx
      · rw [hd, upd_same, upd_same]
      · simp only [upd_ne ha, upd_ne hd]
  exact same ▸ J2
theorem init_does {fd : FuncData} {fI C : Addr} {f : Str} {u : Value} {v : V} {us : List Value} {A : Around} {args : Args} {Q : VK} (F : FnOk X.prog X.w X.K X.mg X.base CX0 1 fI fd ["self", f] (spI C f)) (I : L2.Inv X pins σ H ⟨hp, gs, dr, tk, os⟩) (rv : RelV v u) (hr : Room 1 A)
    (env : ∀ s' H', Env0 X.prog X.w X.K X.mg X.base X.A X.stack s' H' → Env0 X.prog X.w X.K X.mg X.base A X.stack s' H') (hb : ∀ s', BindsTo s' fd args [("self", .ref (hp.objs.size + 1)), (f, u)])
    (q : ∀ a dx, H a = none → H dx = none → dx ≠ a → Q (.ref a) (errH H a C dx f v)) :
    codeAny (model X.prog X.w) A (.call (.ref fI) args) (PySem.W.InitBack (hp.objs.size + 1) fun r s' => ∃ u', r = .ok (.ret u') ∧ EP X pins σ Q u' s') ⟨(hp.push (PySem.W.kdv_tup us)).push (HandSPX.excO C hp.objs.size), gs, dr, tk, os⟩ := by
  have na : H (hp.objs.size + 1) = none := I.hok.fresh (Nat.le_succ _)
  have got : ((hp.push (PySem.W.kdv_tup us)).push (HandSPX.excO C hp.objs.size)).get? (hp.objs.size + 1) = some (HandSPX.excO C hp.objs.size) := by heap_get
  have J := I.laid (t' := tk) (h' := (hp.push (PySem.W.kdv_tup us)).push (HandSPX.excO C hp.objs.size)) (a := hp.objs.size + 1) (o := exo (hp.objs.size + 1) C none) (fun b o e => Heap.get?_push_of_some _ (Heap.get?_push_of_some _ e)) (Nat.le_succ _) (exo_ok got)
  refine codeAny_mono (F.run A X.stack _ _ args [.ref (hp.objs.size + 1), u] [.ref (hp.objs.size + 1), v]
    (fun w H' => w = .non ∧ ∃ dx, H dx = none ∧ dx ≠ hp.objs.size + 1 ∧ H' = upd (upd (upd H (hp.objs.size + 1) (exo (hp.objs.size + 1) C none)) dx (exd dx [(f, v)])) (hp.objs.size + 1) (exo (hp.objs.size + 1) C (some dx)))
    (fun _ _ _ => False) hr (env _ _ J.env0) (hb _) (.cons rfl (.cons rv .nil)) ⟨_, v, rfl, upd_same, fun dx nx ne => ⟨rfl, dx, (upd_ne ne).symm.trans nx, ne, rfl⟩⟩) fun r s' z => ?_
  match r, z with
  | .error _, z => exact z.elim
  | .ok .next, z => exact z.elim
  | .ok .brk, z => exact z.elim
  | .ok .cont, z => exact z.elim
  | .ok (.ret u'), z =>
    obtain ⟨w, H2, K2, rw2, ew, dx, nd, ne, eH⟩ := J.after z
    subst ew eH
    exact ⟨rw2, _, rfl, .ref (hp.objs.size + 1), _, told_exv na nd ne K2, rfl, q _ dx na nd ne⟩
end
/-- an own error class, whole, also by a keyword -/
structure ErrK (P : Program) (w : World) (K : PySem.W.Frag) (mg : Str → Option Value) (base : Heap) (c f : Str) : Prop where
  ex : ∃ fd, ErrC K c f fd ∧ FnOk P w K mg base CX0 1 (He.ma K (He.ga K c) "__init__") fd ["self", f] (spI (He.ga K c) f) ∧ (∀ (s : Shared) (u v : Value), BindsTo s fd ⟨[u, v], []⟩ [("self", u), (f, v)]) ∧ ∀ (s : Shared) (u v : Value), BindsTo s fd ⟨[u], [(f, v)]⟩ [("self", u), (f, v)]
  gm : mg c = some (.ref (He.ga K c))
def tMkV (C : Addr) (f : Str) (ta : TA) : TE := fun σ H Q => ta σ H fun vs H1 => ∃ v, vs = [v] ∧ ∀ a dx, H1 a = none → H1 dx = none → dx ≠ a → Q (.ref a) (errH H1 a C dx f v)
section
variable {X : Cx} {W : WX} {c f : Str} {e : Expr} {ta : TA} {p pos : Pos}
theorem ret_of {M : Model} {A : Around} {E Q : Value → Shared → Prop} {g : Value} {args : Args} {s : Shared} (h : codeAny M A (.call g args) (fun r s' => ∃ u', r = .ok (.ret u') ∧ Q u' s') s) : wpAny M A (call g args.pos args.kw) Q E s :=
  wpAny_call (codeAny_mono h fun r s' ⟨u', e, q⟩ => by
    subst e
    exact q)
theorem pe_mkV (E : ErrK X.prog X.w X.K X.mg X.base c f) (hr : Room 2 X.A) (ha : PA X [e] ta) (hg : Gl X c := by rfl) (hdb : (c == ("__debug__" : Str)) = false := by decide)
    (he : starEach [e] X.env = (false, eval e X.env) :: starEach [] X.env := by rfl) (hpl : (backTo pos (starEach [] X.env)).any (·.1) = false := by rfl) : PE X (.Call (.Name c p) [e] [] pos) (tMkV (He.ga X.K c) f ta) where
  run := fun pins s σ H Q I h => by
    obtain ⟨fd, EC, F, hb, _⟩ := E.ex
    obtain ⟨nm, qn, N, bs, bm, sn, su, ab, co, dd, m0, m1, m2, m3, m5, cls, refs⟩ := EC.T.cls
    refine wpAny_Call_Name_kw (ld_glob I hg E.gm (PySem.W.callWith_K (h₀ := X.base) I.ok.mod.kin EC.T.kC (thn (ha.run pos pins s σ H _ I h) fun us s1 hh => ?_) he hpl) hdb)
    obtain ⟨vs, H1, I1, r1, v, ev, q⟩ := hh
    subst ev
    match us, r1 with
    | [u], .cons rv .nil =>
      refine ⟨I1.kIn, ret_of (args := ⟨[u], []⟩) (HandSPX.call_own PySem.F.excBase_ValueError (fun T => HandSPX.refsVE_contains T bm refs) (I1.kIn _ _ cls) (PySem.W.looks_findIn I1.kIn EC.iC) (fun self => PySem.W.bind_fn I1.kIn self EC.tI) (by show 1 ≤ sizeLine; decide) ?_)⟩
      exact init_does F I1 rv (hr.make (He.ga X.K c) [u] []) (fun _ _ z => z.make (He.ga X.K c) [u] []) (fun s' => hb s' _ u) q
theorem pe_mkW {kpos : Pos} (E : ErrK X.prog X.w X.K X.mg X.base c f) (hr : Room 2 X.A) (ha : PK X [⟨some f, e, kpos⟩] ta) (hg : Gl X c := by rfl) (hdb : (c == ("__debug__" : Str)) = false := by decide)
    (hks : (backToKw pos (keywordEach [⟨some f, e, kpos⟩] X.env)).filterMap (·.1) = [f] := by rfl) (hall : (backToKw pos (keywordEach [⟨some f, e, kpos⟩] X.env)).all (·.1.isSome) = true := by rfl)
    (hpl : ((backTo pos (starEach [] X.env)).any (·.1) || (backToKw pos (keywordEach [⟨some f, e, kpos⟩] X.env)).any (fun k => k.1.isNone)) = false := by rfl) : PE X (.Call (.Name c p) [] [⟨some f, e, kpos⟩] pos) (tMkV (He.ga X.K c) f ta) where
  run := fun pins s σ H Q I h => by
    obtain ⟨fd, EC, F, _, hb⟩ := E.ex
    obtain ⟨nm, qn, N, bs, bm, sn, su, ab, co, dd, m0, m1, m2, m3, m5, cls, refs⟩ := EC.T.cls
    refine wpAny_Call_Name_kw (ld_glob I hg E.gm (PySem.W.callWith_KW0 (h₀ := X.base) I.ok.mod.kin EC.T.kC hall (thn (ha.run pos pins s σ H _ I h) fun us s1 hh => ?_) hpl) hdb)
    obtain ⟨vs, H1, I1, r1, v, ev, q⟩ := hh
    subst ev
    match us, r1 with
    | [u], .cons rv .nil =>
      rw [hks]
      refine ⟨I1.kIn, ret_of (args := ⟨[], [(f, u)]⟩) (Kw.call_does (F := PySem.F.excBase_ValueError) ⟨fun T => HandSPX.refsVE_contains T bm refs⟩ (I1.kIn _ _ cls) (PySem.W.looks_findIn I1.kIn EC.iC) (fun self => PySem.W.bind_fn I1.kIn self EC.tI) ?_)⟩
      exact init_does F I1 rv (hr.make (He.ga X.K c) [] [(f, u)]) (fun _ _ z => z.make (He.ga X.K c) [] [(f, u)]) (fun s' => hb s' _ u) q
end
end Mi

/-! Mi18: mirrors of errors made by hand. -/
namespace Mi
open PySem PySem.Spec
open L2 PyProof.Rows
/-- an own error class without an own __init__ -/
structure Err0 (K : PySem.W.Frag) (mg : Str → Option Value) (c : Str) : Prop where
  ex : ∃ (B newId initId : String) (bmB : List Value), ExcBaseFacts B newId initId bmB ∧ PySem.W.excIn K (He.ga K c) bmB newId = true
  kp : PySem.W.keepIn K (.ref (He.ga K c)) = true
  gm : mg c = some (.ref (He.ga K c))
section
variable {X : Cx} {W : WX} {c f : Str} {e : Expr} {p pos : Pos} {ms : MM (List D)}
theorem pe_mk0 (E : Err0 X.K X.mg c) (hg : Gl X c := by rfl) (hdb : (c == ("__debug__" : Str)) = false := by decide) : PE X (.Call (.Name c p) [] [] pos) (fun σ H Q => ∀ a, H a = none → Q (.ref a) (upd H a (exv a (He.ga X.K c) none))) where
  run := fun pins s σ H Q I h => by
    obtain ⟨B, newId, initId, bmB, F, q⟩ := E.ex
    obtain ⟨bm, N, nm, qn, bs, hdct, sn, sub, ab, col, dd, k0, k1, k2, k3, k5, mN, hC, hN, hni, T⟩ := exc_obj I.kIn q
    refine wpAny_Call_Name_kw (ld_glob I hg E.gm (PySem.W.callWith_K0 I.kIn E.kp ?_) hdb)
    refine (show wpAny _ _ (call (.ref _) []) _ _ _ from wpAny_call_exc_subT F T hC hN hni (fun h' a hm => ?_) (Nat.zero_le _))
    have na : H a = none := I.hok.gone hm.new
    obtain ⟨t, ht, _, _⟩ :=
      hm.there
    exact ⟨.ref a, _, I.laidN (t' := s.toks) hm.keeps hm.new na (exv_ok ht ⟨rfl, rfl⟩ rfl), rfl, h a na⟩
def mMk0 (c : Str) : MM D := fun _ x => .val (.err c []) x
theorem j_mk0 (E : Err0 X.K X.mg c) (hg : Gl X c := by rfl) (hdb : (c == ("__debug__" : Str)) = false := by decide) : PE X (.Call (.Name c p) [] [] pos) (rdE X.K W (mMk0 c)) :=
  peI (pe_mk0 E hg hdb) fun σ H Q ⟨S, F, ρ, x, eK, r, q⟩ a na => by
    rw [← eK]
    exact post_new (α := D) r q na (.err0 upd_same rfl)
def mMkE (c f : Str) (ms : MM (List D)) : MM D := mBind ms fun ds => match ds with
  | [d] => fun _ x => .val (.err c [(f, d)]) x
  | _ => fun _ _ => .out
theorem rd_mkE {σ : L2.St} {H : Hp} {Q : VK} (h : rdE X.K W (mMkE c f ms) σ H Q) : tMkV (He.ga X.K c) f (rdA X.K W ms) σ H Q :=
  rd_unL (rl := rlD) (r := fun vs H1 Q => ∃ v, vs = [v] ∧ ∀ a dx, H1 a = none → H1 dx = none → dx ≠ a → Q (.ref a) (errH H1 a (He.ga X.K c) dx f v)) (fun S F H σ ρ x vs ds Q eK r hv q => by
    split at q
    · rename_i d
      obtain ⟨v, rfl, hd⟩ := rep1 hv
      refine ⟨v, rfl, fun a dx na nd ne => ?_⟩
      have r1 := r.alloc (o := .xd [(f, v)]) nd
      have na1 : upd H dx (.xd [(f, v)]) a = none := (upd_ne (Ne.symm ne)).trans na
      have r2 := r1.alloc (o := exv a (He.ga S.K c) (some dx)) na1
      have s1 : Same F (upd F dx (.xd [(f, v)])) := Same.new (r.core.nF nd)
      have s2 := Same.new (o := exv a (He.ga S.K c) (some dx)) (r1.core.nF na1)
      rw [← eK]
      exact q (.ref a) _ _ r2 (s1.trans s2) ((KeepB.new nd).trans (KeepB.new na1)) (.err upd_same rfl ((upd_ne ne).trans upd_same) (.cons (hd.mono (s1.trans s2)) .nil))
    · exact q.elim) h
theorem j_mkE (E : ErrK X.prog X.w X.K X.mg X.base c f) (hr : Room 2 X.A) (ha : PA X [e] (rdA X.K W ms)) (hg : Gl X c := by rfl) (hdb : (c == ("__debug__" : Str)) = false := by decide)
    (he : starEach [e] X.env = (false, eval e X.env) :: starEach [] X.env := by rfl) (hpl : (backTo pos (starEach [] X.env)).any (·.1) = false := by rfl) : PE X (.Call (.Name c p) [e] [] pos) (rdE X.K W (mMkE c f ms)) :=
  peI (pe_mkV E hr ha hg hdb he hpl) fun σ H Q h => rd_mkE h
theorem j_mkW {kpos : Pos} (E : ErrK X.prog X.w X.K X.mg X.base c f) (hr : Room 2 X.A) (ha : PK X [⟨some f, e, kpos⟩] (rdA X.K W ms)) (hg : Gl X c := by rfl) (hdb : (c == ("__debug__" : Str)) = false := by decide)
    (hks : (backToKw pos (keywordEach [⟨some f, e, kpos⟩] X.env)).filterMap (·.1) = [f] := by rfl) (hall : (backToKw pos (keywordEach [⟨some f, e, kpos⟩] X.env)).all (·.1.isSome) = true := by rfl)
    (hpl : ((backTo pos (starEach [] X.env)).any (·.1) || (backToKw pos (keywordEach [⟨some f, e, kpos⟩] X.env)).any (fun k => k.1.isNone)) = false := by rfl) : PE X (.Call (.Name c p) [] [⟨some f, e, kpos⟩] pos) (rdE X.K W (mMkE c f ms)) :=
  peI (pe_mkW E hr ha hg hdb hks hall hpl) fun σ H Q h => rd_mkE h
end
theorem ErrK.nf {P : Program} {w : World} {K : PySem.W.Frag} {mg : Str → Option Value} {base : Heap} {c f : Str} (E : ErrK P w K mg base c f) : PySem.W.findIn K (.ref (He.ga K c)) f = some none :=
  let ⟨_, E, _⟩ := E.ex
  E.nf
end Mi

/-! Mi19: while with fuel, sum, lcm, xs.pop(), elements of an owned list, one new list beside a value. -/
namespace Mi
open PySem PySem.Spec L2
section
variable {X : Cx} {W : WX}
/-! ### while: fuel in the mirror -/
def whileS (t : MM Bool) (mb : MS) : Nat → MS
  | 0 => fun _ _ => .out
  | n + 1 => mE t fun c => if c then (fun ρ x => match mb ρ x with
    | .nx ρ' x' => whileS t mb n ρ' x'
    | .cnt ρ' x' => whileS t mb n ρ' x'
    | .brk ρ' x' => .nx ρ' x'
    | .ret d x' => .ret d x'
    | .retN d x' => .retN d x'
    | .exc c f ρ' x' => .exc c f ρ' x'
    | .out => .out) else mNext
theorem js_while {c : Expr} {body : List Stmt} {pos : Pos} {t : MM Bool} {mb : MS} (n : Nat) (hp : PassesOwn (model X.prog X.w) X.A X.env X.xe) (hc : PT X c (rdT X.K W t)) (hb : PSs X body (rdS X.K W mb)) :
    PS X (.While c body [] pos) (rdS X.K W (whileS t mb n)) :=
  psI (ps_while hp hc hb) fun D σ H h => by
    obtain ⟨S, F1, ρ, x, eK, r1, p⟩ := h
    refine ⟨fun m σ H => ∃ F ρ x, Rel ⟨S.K, S.b, S.H0, F1, S.me⟩ F H σ ρ x ∧ PostS ⟨S.K, S.b, S.H0, F1, S.me⟩ W (whileS t mb m ρ x) D, ⟨n, F1, ρ, x, r1.rooted, p.root r1.core⟩, fun m σ' H' hW => ?_⟩
    obtain ⟨F', ρ', x', r', pp⟩ := hW
    refine (show rdT X.K W t σ' H' _ from ⟨⟨S.K, S.b, S.H0, F1, S.me⟩, F', ρ', x', eK, r', ?_⟩)
    cases m with
    | zero => exact pp.elim
    | succ m =>
      unfold whileS mE at pp
      cases e1 : t ρ' x' with
      | out =>
        rw [e1] at pp
        exact pp.elim
      | exc c fs x1 =>
        rw [e1] at pp
        exact fun F' H' dd a1 _ _ a4 => pp σ' F' H' dd a1 a4
      | val b x1 =>
        rw [e1] at pp
        intro v F2 H2 r2 s2 k2 hv
        have hv : v = b := hv
        subst hv
        cases v with
        | false => exact pp σ' F2 H2 r2
        | true =>
          rw [if_pos rfl]
          refine ⟨fun σ3 H3 => ∃ F ρ x, Rel ⟨S.K, S.b, S.H0, F1, S.me⟩ F H3 σ3 ρ x ∧ PostS ⟨S.K, S.b, S.H0, F1, S.me⟩ W (whileS t mb m ρ x) D, fun σ3 H3 hN => ⟨m, Nat.lt_succ_self m, hN⟩, ?_⟩
          refine (show rdS X.K W mb _ _ _ from ⟨⟨S.K, S.b, S.H0, F1, S.me⟩, F2, ρ', x1, eK, r2, ?_⟩)
          dsimp only at pp
          rw [if_pos rfl] at pp
          cases e3 : mb ρ' x1 with
          | nx ρ3 x3 =>
            rw [e3] at pp
            exact fun σ3 F3 H3 r3 => ⟨F3, ρ3, x3, r3, pp⟩
          | cnt ρ3 x3 =>
            rw [e3] at pp
            exact fun σ3 F3 H3 r3 => ⟨F3, ρ3, x3, r3, pp⟩
          | brk ρ3 x3 =>
            rw [e3] at pp
            exact fun σ3 F3 H3 r3 => pp σ3 F3 H3 r3
          | ret d3 x3 =>
            rw [e3] at pp
            exact pp
          | retN d3 x3 =>
            rw [e3] at pp
            exact pp
          | exc c3 f3 ρ3 x3 =>
            rw [e3] at pp
            exact pp
          | out =>
            rw [e3] at pp
            exact pp
theorem pu_while {t : MM Bool} {mb : MS} (h : Pu t) (hb : PuS mb) : ∀ n : Nat, PuS (whileS t mb n)
  | 0 => fun _ _ => rfl
  | n + 1 => pu_e h fun c => by
    cases c with
    | false => exact pu_next
    | true =>
      rw [if_pos rfl]
      intro ρ x
      show (match mb ρ x with
        | .nx ρ' x' => whileS t mb n ρ' x'
        | .cnt ρ' x' => whileS t mb n ρ' x'
        | .brk ρ' x' => .nx ρ' x'
        | .ret d x' => .ret d x'
        | .retN d x' => .retN d x'
        | .exc c f ρ' x' => .exc c f ρ' x'
        | .out => .out) = _
      rw [hb ρ x]
      cases e : mb ρ b0 with
      | nx ρ2 x2 => exact (pu_while h hb n ρ2 x).trans (by dsimp only; rw [e]; dsimp only; rw [pu_while h hb n ρ2 x2, RS.st_st])
      | cnt ρ2 x2 => exact (pu_while h hb n ρ2 x).trans (by dsimp only; rw [e]; dsimp only; rw [pu_while h hb n ρ2 x2, RS.st_st])
      | brk ρ2 x2 => dsimp only; rw [e]; rfl
      | ret d x2 => dsimp only; rw [e]; rfl
      | retN d x2 => dsimp only; rw [e]; rfl
      | exc c f ρ2 x2 => dsimp only; rw [e]; rfl
      | out => dsimp only; rw [e]; rfl
/-! ### sum -/
def asIs : List D → Option (List Int)
  | [] => some []
  | .int i :: ds => (asIs ds).map fun l => i :: l
  | _ => none
theorem RepL.ints {K : PySem.W.Frag} {b : Option Addr} {F : Hp} : ∀ {vs : List V} {ds : List D} {ns : List Int}, RepL K b F vs ds → asIs ds = some ns → vs = ns.map V.int
  | [], ds, ns, h, e => by
    cases h
    cases e
    rfl
  | v :: vs, ds, ns, h, e => by
    cases h with
    | cons h1 h2 =>
      cases h1 <;> first | (cases e; done) | skip
      rename_i es i
      cases q : asIs es with
      | none =>
        rw [asIs, q] at e
        cases e
      | some l =>
        rw [asIs, q] at e
        cases e
        rw [RepL.ints h2 q]
        rfl
def gSum : List D → Option D
  | [.lst ds] => (asIs ds).map fun ns => .int ns.sum
  | _ => none
theorem real_sum {K : PySem.W.Frag} : RealA K W (rSum K) fun ds => o1 (gSum ds) := by
  intro S F H σ ρ x vs ds Q eK r hv p
  unfold gSum at p
  dsimp only at p
  split at p
  · rename_i ds
    obtain ⟨v, e, h⟩ := rep1 hv
    subst e
    cases h with
    | lst h r1 =>
      cases q : asIs ds with
      | none =>
        rw [q] at p
        exact p.elim
      | some ns =>
        rw [q] at p
        have e2 := r1.ints q
        subst e2
        exact ⟨_, ns, rfl, sqL (r.core.sub _ _ h), post_val (rl := rlD) r p (.int _)⟩
  · exact p.elim
/-! ### lcm -/
def rLcmS : List V → Hp → VK → Prop := fun vs H Q => ∃ a b : Int, vs = [.int a, .int b] ∧ a.natAbs < 2 ^ 64 ∧ b.natAbs < 2 ^ 64 ∧ Q (.int ((Nat.lcm a.natAbs b.natAbs : Nat) : Int)) H
theorem cr_lcmS : CallR X (.builtin "math.lcm") rLcmS := by
  intro pins s σ
    H vs us Q I r h
  obtain ⟨a, b, rfl, ha, hb, q⟩ := h
  obtain ⟨t, u, rfl⟩ :=
    Vals.int2 r
  exact PySem.W.mc_lcm ha hb fun _ => ⟨.int _, H, I.tok _, ⟨_, rfl⟩, q⟩
def gLcm : List D → Option D
  | [.int i, .int j] => if i.natAbs < 2 ^ 64 ∧ j.natAbs < 2 ^ 64 then some (.int (Nat.lcm i.natAbs j.natAbs : Nat)) else none
  | _ => none
theorem j_lcm {g : Str} {p pos : Pos} {e : Expr} {es : List Expr} {ms : MM (List D)} (hg : Gl X g) (hm : X.mg g = some (.builtin "math.lcm")) (ha : PA X (e :: es) (rdA X.K W ms)) (hdb : (g == ("__debug__" : Str)) = false := by decide)
    (he : starEach (e :: es) X.env = (false, eval e X.env) :: starEach es X.env := by rfl) (hpl : (backTo pos (starEach es X.env)).any (·.1) = false := by rfl) : PE X (.Call (.Name g p) (e :: es) [] pos) (rdE X.K W (mCall gLcm ms)) :=
  peI (pe_callBfun cr_lcmS hg hm ha hdb he hpl) fun σ H Q q => rd_unL (rl := rlD) (r := rLcmS) (fun S F H σ ρ x vs ds Q eK r hv p => by
    unfold gLcm at p
    split at p
    · rename_i i j
      by_cases hz : i.natAbs < 2 ^ 64 ∧ j.natAbs < 2 ^ 64
      · obtain ⟨v, u, e, h, h2⟩ := rep2 hv
        subst e
        cases h
        cases h2
        rw [if_pos hz] at p
        exact ⟨_, _, rfl, hz.1, hz.2, post_val (rl := rlD) r p (.int _)⟩
      · rw [if_neg hz] at p
        exact p.elim
    · exact p.elim) q
/-! ### xs[j], xs owned -/
def mIxO (i : Nat) (mj : MM D) : MM D := fun ρ x => match ρ[i]? with
  | some (.ol ds) => (mBind mj fun d => match d with
    | .int k => o1 (atI ds k)
    | _ => fun _ _ => .out) ρ x
  | _ => .out
theorem j_ixO (i : Nat) {y : Str} {p1 pos : Pos} {j : Expr} {mj : MM D} (hj : PE X j (rdE X.K W mj)) (hN : X.N[i]? = some y := by rfl) (hv : Vis X.env.scope y := by first | exact Or.inl rfl | exact Or.inr (Or.inl rfl) | exact Or.inr (Or.inr rfl)) (hd : (y == ("__debug__" : Str)) = false := by decide) (hcd : (y == ("__classdict__" : Str)) = false := by decide)
    (hs : PlainIx j := by exact fun _ _ => rfl) : PE X (.Subscript (.Name y p1) j pos) (rdE X.K W (mIxO i mj)) :=
  peI (pe_ix ix_seq (pe_var (i := i) hN hv hd hcd) hj hs) fun σ H Q h => by
    obtain ⟨S, F, ρ, x, eK, r, p⟩ := h
    unfold mIxO at p
    split at p
    · rename_i ds e0
      obtain ⟨q, vs, eσ, nb, n0, nF, hH, hr⟩ := r.getO e0
      refine ⟨.ref q, eσ, ?_⟩
      refine (show rdE X.K W mj σ H _ from ⟨S, F, ρ, x, eK, r, ?_⟩)
      unfold mBind at p
      cases e1 : mj ρ x with
      | out =>
        rw [e1] at p
        exact p
      | exc c fs x1 =>
        rw [e1] at p
        exact p
      | val d x1 =>
        rw [e1] at p
        intro v F2 H2 r2 s2 k2 hv
        have hv : Rep S.K S.b F2 v d := hv
        replace p : Post rlD S W σ F H ρ ((match d with
          | .int k => o1 (atI ds k)
          | _ => fun _ _ => .out) ρ x1) Q := p
        cases hv <;> try exact p.elim
        rename_i k
        dsimp only at p
        cases e : atI ds k with
        | none =>
          rw [e] at p
          exact p.elim
        | some d2 =>
          rw [e] at p
          obtain ⟨w, e2, hw⟩ := atI_rep hr e
          have h3 : H2 q = some (.lst vs) := k2 q _ hH nb
          exact .inl ⟨q, vs, k, w, rfl, rfl, sqL h3, e2, p w F2 H2 r2 s2 k2 (hw.mono s2)⟩
    · exact p.elim
theorem pu_ixO {i : Nat} {mj : MM D} (h : Pu mj) : Pu (mIxO i mj) := fun ρ x => by
  unfold mIxO
  split
  · exact (h.bind fun d => by
      split
      · exact pu_o1
      · exact pu_out : Pu _) ρ x
  · rfl
/-! ### xs.pop(), xs owned -/
def mPop (i : Nat) : MS := fun ρ x => match ρ[i]? with
  | some (.ol ds) => if ds.isEmpty then .out else .nx (ρ.set i (.ol ds.dropLast)) x
  | _ => .out
theorem RepL.dropLast {K : PySem.W.Frag} {b : Option Addr} {F : Hp} {vs : List V} {ds : List D} (h : RepL K b F vs ds) : RepL K b F vs.dropLast ds.dropLast := by
  rw [List.dropLast_eq_take, List.dropLast_eq_take, h.length]
  exact h.take _
theorem js_pop (i : Nat) {y : Str} {p1 apos cpos pos : Pos} (hN : X.N[i]? = some y := by rfl) (hv : Vis X.env.scope y := by first | exact Or.inl rfl | exact Or.inr (Or.inl rfl) | exact Or.inr (Or.inr rfl)) (hd : (y == ("__debug__" : Str)) = false := by decide) (hcd : (y == ("__classdict__" : Str)) = false := by decide)
    (hbase : attributeBase (.Name y p1) "pop" X.env (eval (.Name y p1) X.env) = eval (.Name y p1) X.env := by rfl) (hline : (apos.endLine == cpos.line) = true := by rfl)
    (hs : swapsWith (.Call (.Attribute (.Name y p1) "pop" apos) [] [] cpos) none pos.line X.env = pure false := by rfl) :
    PS X (.Expr (.Call (.Attribute (.Name y p1) "pop" apos) [] [] cpos) pos) (rdS X.K W (mPop i)) :=
  psI (ps_expr (pe_bm0 PySem.F.plainAttrs_list PySem.F.slot_list_pop PySem.F.type_list_pop mt_pop (pe_var (i := i) hN hv hd hcd) hbase hline) hs) fun D σ H h => by
    obtain ⟨S, F, ρ, x, eK, r, p⟩ := h
    unfold mPop at p
    split at p
    · rename_i ds e
      split at p
      · exact p.elim
      · rename_i hz
        obtain ⟨q, vs, eσ, nb, n0, nF, hH, hr⟩ := r.getO e
        have hv0 : vs ≠ [] := fun z => hz (by rw [List.isEmpty_iff, ← List.length_eq_zero_iff, ← hr.length, z]; rfl)
        have hl : 0 < vs.length := List.length_pos_iff.mpr hv0
        exact ⟨.ref q, eσ, .inl ⟨rfl, vs, sqL hH⟩, q, vs, vs[vs.length - 1]'(by omega), rfl, rfl, hH, List.getElem?_eq_getElem _, p _ _ _ (r.updO e eσ hr.dropLast)⟩
    · exact p.elim
theorem pu_pop {i : Nat} : PuS (mPop i) := fun ρ x => by
  unfold mPop
  split
  · split <;> rfl
  · rfl
/-! ### a, b = [..], e: the first one new, the second a value -/
def mParM (i j : Nat) (m : MM (List D)) (n : MM D) : MS := mE m fun ds ρ x => match n (shut ρ) x with
  | .val d x2 => if i = j then .out else .nx ((ρ.set i (.ol ds)).set j (.fz d)) x2
  | _ => .out
theorem js_parM {i j : Nat} {x y : Str} {a b : Expr} {m : MM (List D)} {n : MM D} {px py pt pos pt2 : Pos} {kt k2 : Nat} (hc : X.calm = true) (hN : X.N.Nodup) (hij : i ≠ j) (ha : PE X a (rdN X.K W m)) (hb : PE X b (rdE X.K W n)) (hi : X.N[i]? = some x := by rfl) (hj : X.N[j]? = some y := by rfl)
    (hx : X.env.scope.names.lookup x = some .local := by rfl) (hy : X.env.scope.names.lookup y = some .local := by rfl) (h1 : starEach [a, b] X.env = (false, eval a X.env) :: starEach [b] X.env := by rfl) (h2 : starEach [b] X.env = (false, eval b X.env) :: starEach [] X.env := by rfl)
    (hw : swappedStores [.Tuple [.Name x px, .Name y py] kt pt] (.Tuple [a, b] k2 pt2) X.env = pure (some [x, y]) := by rfl) (hs : swapsWithSole [.Tuple [.Name x px, .Name y py] kt pt] (.Tuple [a, b] k2 pt2) pos.line X.env = pure false := by rfl) :
    PS X (.Assign [.Tuple [.Name x px, .Name y py] kt pt] (.Tuple [a, b] k2 pt2) pos) (rdS X.K W (mParM i j m n)) :=
  psI (ps_par hc hN hi hj hij hx hy (pa_cons ha (pa_cons hb pa_nil h2) h1) hw hs) fun D σ H h => rd_EN h fun S F1 H1 ρ x1 p ds eK r1 nl q => by
    refine (show rdE X.K W n σ H1 _ from ?_)
    have rsh := r1.shut
    cases e : n (shut ρ) x1 with
    | out =>
      rw [e] at q
      exact q.elim
    | exc c fs x2 =>
      rw [e] at q
      exact q.elim
    | val d x2 =>
      rw [e] at q
      dsimp only at q
      refine ⟨⟨S.K, S.b, H1, F1, S.me⟩, F1, shut ρ, x1, eK, rsh, ?_⟩
      rw [e]
      intro v F2 H2 r2 _ _ hv
      have hv : Rep S.K S.b F2 v d := hv
      rw [if_neg hij] at q
      obtain ⟨a1, a2, a3⟩ := r1.back r2.core
      obtain ⟨vs, hH, hr⟩ := nl.hH
      have n1 : NewL S F2 H2 σ ρ p ds := ⟨nl.nb, nl.n0, r2.core.fresh p (by rw [show (⟨S.K, S.b, H1, F1, S.me⟩ : Cf).H0 p = H1 p from rfl, hH]; intro z; cases z) nl.nF, ⟨vs, r2.core.keep p _ hH nl.nb, hr.mono r2.core.f0⟩, nl.nown⟩
      exact ⟨_, _, rfl, q _ _ _ ((a1.own n1 i).put j hv)⟩
end
end Mi

/-! Mi20: sorted, of tuples that begin with texts, no two alike; a list or a tuple of them. -/
namespace Mi
open PySem
open PySem.Spec PyProof.Rows L2

/-! ### the machine's way -/
/-- a tuple that begins with the text y -/
def Hd (h : Heap) (v : Value) (y : Str) : Prop := ∃ (a : Addr) (o : Obj) (t : Tok) (r : List Value) (its : Array Value) (n : Nat), v = .ref a ∧ h.get? a = some o ∧ o.cls = .type "tuple" ∧ o.data = .seq its n ∧ its.toList = .str y t :: r
def hdTx (h : Heap) (v : Value) : Str := DT.txOf (DT.seqAt0 h (DT.refOf (some v)))
theorem Hd.tx {h : Heap} {v : Value} {y : Str} (x : Hd h v y) : hdTx h v = y := by
  obtain ⟨a, o, t, r, its, n, rfl, ho, hc, hd, hi⟩ := x
  show DT.txOf (DT.seqAt0 h a) = y
  rw [DT.seqAt0_of (items := its) ⟨o, ho, hc, n, hd⟩, hi]
  rfl
theorem Hd.keeps {h h' : Heap} {v : Value} {y : Str} (x : Hd h v y) (k : ∀ b o, h.get? b = some o → o.cls = .type "tuple" → h'.get? b = some o) : Hd h' v y := by
  obtain ⟨a, o, t, r, its, n, e, ho, hc, z⟩ := x
  exact ⟨a, o, t, r, its, n, e, k _ _ ho hc, hc, z⟩
def ltS (a b : Str) : Bool := decide (a.cps.toList < b.cps.toList)
theorem ltS_swo {α : Type} (f : α → Str) : SrtO.Swo fun v u => ltS (f v) (f u) := by
  refine ⟨fun x y h =>
    ?_, fun x y z h1 h2 => ?_⟩
  · exact decide_eq_false (List.lt_asymm (of_decide_eq_true h))
  · have a := List.not_lt.mp (of_decide_eq_false h1)
    have b := List.not_lt.mp (of_decide_eq_false h2)
    exact decide_eq_false (List.not_lt.mpr (List.le_trans a b))
section
variable {prog : Program}
  {w : World} {A : Around}
  {E : Value → Shared → Prop} {s : Shared}
theorem lex_same {b : Bool} {Q : Bool → Shared → Prop} (h : Q false s) : ∀ (l : List Value) (i : Nat), PySem.W.KatLex prog w A b false Q (l.zip l) i s
  | [], _ => PySem.W.kat_nil h
  | v :: l, i => PySem.W.kat_cons ((SeqAt.EqAt.same v) prog w _ _ (PySem.W.kat_go (fun _ => PySem.W.kat_yes (lex_same h l (i + 1))) fun e => nomatch e))
theorem hd_firsts {h : Heap} : ∀ (vs : List Value), (∀ v ∈ vs, ∃ y, Hd h v y) → ∃ fs : List Value, PySem.W.KatTups h vs fs ∧ fs.length = vs.length ∧ ∀ f ∈ fs, ∃ y t, f = Value.str y t
  | [], _ => ⟨[], PySem.W.KatTups.nil, rfl, fun f hf =>
                                          by simp at hf⟩
  | v :: vs, x => by
    obtain ⟨fs, k, hl, hi⟩ := hd_firsts vs fun u hu => x u (List.mem_cons_of_mem _ hu)
    obtain ⟨y, a, o, t, r, its, n, rfl, ho, hc, hd, hits⟩ := x v (List.mem_cons_self ..)
    refine ⟨.str y t :: fs, PySem.W.KatTups.cons ho hc hd (by rw [← Array.getElem?_toList, hits]; rfl) k, by rw [List.length_cons, List.length_cons, hl], fun f hf => ?_⟩
    rcases List.mem_cons.mp hf with
      rfl | hf
    · exact ⟨y, t, rfl⟩
    · exact hi f hf
theorem hd_cmp {vs : List Value} {f : Value → Str} (hp : ∀ v ∈ vs, Hd s.heap v (f v)) (inj : ∀ v ∈ vs, ∀ u ∈ vs, f v = f u → v = u) : SrtO.Cmp prog w A s (tuples' true) (fun p => p.1 ∈ vs) (SrtO.lt2 fun v u => ltS (f v) (f u)) := by
  intro p q hm hm'
  show wpAny (model prog w) A (keyLt' (tuples' true) p.1 q.1) (fun r s' => s' = s ∧ r = ltS (f p.1) (f q.1)) (fun _ _ => False) s
  have h1 := hp _ hm
  have h2 := hp _ hm'
  have hi := inj _ hm _ hm'
  generalize p.1 = v at h1 hi ⊢
  generalize q.1 = u at h2 hi ⊢
  generalize f v = y at h1 hi ⊢
  generalize f u = z at h2 hi ⊢
  obtain ⟨a, o, t, r, its, n, rfl, ho, hc, hd, e1⟩ := h1
  obtain ⟨a', o', t', r', its', n', rfl, ho', hc', hd', e2⟩ := h2
  by_cases e : y = z
  · cases hi e
    rw [ho] at ho'
    cases ho'
    rw [hd] at hd'
    cases hd'
    refine PySem.W.kat_lt ho hd ho hd ?_
    rw [decide_eq_false (Nat.lt_irrefl _)]
    refine lex_same ⟨rfl, ?_⟩ _ _
    subst e
    exact (decide_eq_false (List.lt_irrefl _)).symm
  · refine PySem.W.kat_lt ho hd ho' hd' ?_
    rw [e1, e2]
    show PySem.W.KatLex prog w A true _ _ ((Value.str y t, Value.str z t') :: r.zip r') 0 s
    refine PySem.W.kat_cons (SeqAt.EqAt.str_str y t z t' prog w _ _ ?_)
    refine PySem.W.kat_go (fun e0 => (e (by simpa using e0)).elim) fun _ => ?_
    exact PySem.W.kat_no (oneLt_str ⟨rfl, rfl⟩)
theorem hd_sortable {a : Addr} {vs : List Value} {f : Value → Str} (h0 : 0 < vs.length) (hp : ∀ v ∈ vs, Hd s.heap v (f v)) (inj : ∀ v ∈ vs, ∀ u ∈ vs, f v = f u → v = u) (ha : ∀ o, s.heap.get? a = some o → o.cls ≠ .type "tuple") : SrtO.SortableO prog w A s a vs fun v u => ltS (f v) (f u) := by
  intro h' keep
  have hp' : ∀ v ∈ vs, Hd h' v (f v) := fun v hm => (hp v hm).keeps fun b o e c => keep b o (fun z => by subst z; exact ha o e c) e
  obtain ⟨fs, h1, h2, h3⟩ := hd_firsts vs fun v hm => ⟨_, hp' v hm⟩
  refine ⟨tuples' true, fun Q E hq => ?_, hd_cmp hp' inj⟩
  refine PySem.W.kat_kind (T := .type "str") h1 (by omega) (fun f hm => ?_) (by rfl) ?_
  · obtain ⟨x, t, rfl⟩ :=
                                          h3 f hm
    exact PySem.W.Looks.now
  · have e : (Value.type "str" != Value.type "tuple") = true := by first | decide +kernel | rfl | decide
    rw [e]
    exact hq
theorem sorted_hds {l : Addr} {vs : List Value} {f : Value → Str} {Q : Value → Shared → Prop} (hl : s.heap.IsList l vs.toArray) (hz : vs.length ≤ sizeLine) (hp : ∀ v ∈ vs, Hd s.heap v (f v)) (inj : ∀ v ∈ vs, ∀ u ∈ vs, f v = f u → v = u)
    (h : ∀ (h' : Heap) (d : Addr) (out : List Value), SrtO.Srtd (fun v u => ltS (f v) (f u)) out → SrtO.Stb (fun v u => ltS (f v) (f u)) out vs → (∀ b o, s.heap.get? b = some o → h'.get? b = some o) → s.heap.objs.size ≤ d → (∃ n, h'.get? d = some (seqObj "list" out.toArray n)) → Q (.ref d) { s with heap := h' }) :
    wpAny (model prog w) A (call
      (.builtin "sorted") [.ref l]) Q E s :=
      by
  refine SrtO.sorted_ord (ltS_swo f) hl hz (fun h2 h₁ a ha kk => ?_) fun out hs hb => ?_
  · refine hd_sortable (s := { s with heap := h₁ }) (by omega) (fun v hm => (hp v hm).keeps fun b o e _ => (kk b o e).2) inj fun o e => ?_
    have e' : some o = some (seqObj "list" vs.toArray 0) :=
      e.symm.trans ha
    cases e'
    intro c
    exact absurd (Value.type.inj c)
      (by decide)
  · exact h _ _ out hs hb (fun b o e => sortedAll_old e)
                                          (Nat.le_succ _) (sortedAll_at s.heap vs out.toArray)
end
end Mi
namespace Mi
open PySem PySem.Spec PyProof.Rows PySem.Calls L2
/-! ### sorted of what can be collected -/
section
variable {prog : Program}
  {w : World} {A : Around}
  {E : Value → Shared → Prop} {s : Shared}
/-- h keeps all that stood in s -/
def Kp (s : Shared) (h : Heap) : Prop := ∀ b o, s.heap.get? b = some o → h.get? b = some o
/-- r is collected: a list of values, told apart by P, in a heap that keeps all -/
def Col (prog : Program) (w : World) (A : Around) (E : Value → Shared → Prop) (s : Shared) (r : Value) (P : List Value → Heap → Prop) : Prop :=
  ∀ Q : List Value → Shared → Prop, (∀ vs h tk, Kp s h → s.heap.objs.size ≤ h.objs.size → P vs h → Q vs { s with heap := h, toks := tk }) → wpAny (model prog w) A (collect r) Q E s
theorem col_tup {t : Addr} {vs : List Value} (ht : IsTup s.heap t vs.toArray) (hz : vs.length ≤ sizeLine) : Col prog w A E s (.ref t) fun us _ => us = vs := by
  intro Q h
  obtain ⟨o, ho, hc, n, hd⟩ :=
    ht
  have kp : Kp s ((s.heap.push (seqObj "list" #[] 0)).update s.heap.objs.size (Obj.mapSeq (· ++ vs.toArray))) := fun b o e => by
    rw [Heap.get?_update_ne _ _ _ _ (Nat.ne_of_lt (Heap.lt_size e))]
    exact
      Heap.get?_push_of_some _ e
  have g0 : (s.heap.push (seqObj "list" #[] 0)).get? s.heap.objs.size = some (seqObj "list" #[] 0) := Heap.get?_push_size _ rfl
  have z0 : ((#[] : Array Value) ++ vs.toArray).size ≤ sizeLine + 1 := by
    rw [Array.size_append, List.size_toArray]
    exact Nat.le_succ_of_le (by simpa using hz)
  unfold collect
  refine wpAny_bind (wpAny_runValue
    (codeAny_builtin entry_proto_collect' ?_))
  show wpAny _ _ (newList [] >>= fun l => again (.builtin "list.__iadd__" ⟨[l, .ref t], []⟩)) _ _ s
  refine wpAny_bind (wpAny_newList (wpAny_pure ⟨Code.quiet_builtin _ (by decide +kernel),
    codeAny_builtin entry_list_iadd' ?_⟩))
  show wpAny _ _ (Builtin.List.listExtendWith _ _ _) _ _ _
  unfold
    Builtin.List.listExtendWith
  refine wpAny_bind (wpAny_typeOf (T := "tuple") ⟨o, Heap.get?_push_of_some _ ho, hc⟩ ?_)
  rw [if_pos (by rw [show (Value.type "tuple" == Value.type "tuple") = true from rfl, Bool.or_true])]
  refine wpAny_bind (listItems_at (Heap.get?_push_of_some _ ho) hd (wpAny_bind (listItems_at g0 rfl ?_)))
  rw [if_neg (by simp)]
  refine wpAny_bind (listUpdate_at g0 rfl (wpAny_pure ?_) (Nat.zero_le _) z0)
  show wpAny (model prog w) A (load s.heap.objs.size >>= fun o => match o.data with
      | .seq xs _ => pure xs.toList
      | _ => unsupported "internal:collect") Q E _
  refine wpAny_bind (wpAny_load (get?_update_seq g0 _) ?_)
  show wpAny _ _ (pure ((#[] : Array
    Value) ++ vs.toArray).toList) Q E _
  refine wpAny_pure (h _ _ s.toks kp ?_ (by simp))
  rw [Heap.size_update, Heap.objs_push, Array.size_push]
  exact Nat.le_succ _
end
end Mi
namespace Mi
open PySem PySem.Spec PyProof.Rows PySem.Calls L2
section
variable {prog : Program}
  {w : World} {A : Around}
  {E : Value → Shared → Prop} {s : Shared}
theorem sorted_col {r : Value} {P : List Value → Heap → Prop} {Q : Value → Shared → Prop} (hc : Col prog w A.in1 E s r P) (hz : ∀ vs h, P vs h → vs.length ≤ sizeLine)
    (hf : ∀ vs h, P vs h → Kp s h → ∃ f : Value → Str, (∀ v ∈ vs, Hd h v (f v)) ∧ (∀ v ∈ vs, ∀ u ∈ vs, f v = f u → v = u) ∧
      ∀ (h' : Heap) (d tk : Nat) (out : List Value), SrtO.Srtd (fun v u => ltS (f v) (f u)) out → SrtO.Stb (fun v u => ltS (f v) (f u)) out vs → (∀ b o, h.get? b = some o → h'.get? b = some o) → s.heap.objs.size ≤ d → h'.get? d = some (seqObj "list" out.toArray (Classical.epsilon fun n => h'.get? d = some (seqObj "list" out.toArray n))) → Q (.ref d) { s with heap := h', toks := tk }) :
    wpAny (model prog w) A (call (.builtin "sorted") [r]) Q E s := by
  refine call_function_entry kind_sorted
    plain_sorted entry_sorted (args_sorted1 _) ?_
  unfold Builtin.«sorted»
  refine wpAny_bind (m := checkCount "sorted" 1 1 _)
    (wpAny_pure ?_)
  refine wpAny_bind (hc _ fun vs h tk kp le p => ?_)
  obtain ⟨f, g1, g2, g3⟩ := hf vs h p kp
  have hz := hz vs h p
  refine wpAny_bind
    (wpAny_newList ?_ hz)
  have gl : (h.push (seqObj "list" vs.toArray 0)).get? h.objs.size = some (seqObj "list" vs.toArray 0) := Heap.get?_push_size _ rfl
  have old : ∀ b o, h.get? b = some o → b ≠ h.objs.size ∧ (h.push (seqObj "list" vs.toArray 0)).get? b = some o := fun b o e => ⟨Nat.ne_of_lt (Heap.lt_size e), Heap.get?_push_of_some _ e⟩
  show wpAny _ _ (holding _ _ >>= _) _ _ { s with heap := h.push (seqObj "list" vs.toArray 0), toks := tk }
  refine wpAny_bind (wpAny_holding (wpAny_call_entry slot_list_sort ⟨_, gl, rfl⟩ entry_list_sort (SrtO.list_sort_ord (ltS_swo f) gl hz (fun h2 => ?_) fun out hs hb => ⟨_, rfl, ?_⟩) (args_list_sort _)))
  · refine hd_sortable (by omega) (fun v hm => (g1 v hm).keeps fun b o e _ => (old b o e).2) g2 fun o e => ?_
    cases gl.symm.trans e
    intro c
    exact absurd (Value.type.inj c)
      (by decide)
  · refine wpAny_pure ⟨_, rfl, ?_⟩
    have hin : ∀ b o, h.get? b = some o → (sortedHeap (h.push (seqObj "list" vs.toArray 0)) h.objs.size vs out.toArray).get? b = some o := fun b o e => by
      rw [sortedHeap_old (old b o e).1 (by rw [Heap.objs_push, Array.size_push]; exact Nat.lt_succ_of_lt (Heap.lt_size e))]
      exact (old b o e).2
    refine g3 _ _ tk out hs hb hin le (Classical.epsilon_spec (p := fun n => (sortedHeap (h.push (seqObj "list" vs.toArray 0)) h.objs.size vs out.toArray).get? h.objs.size = some (seqObj "list" out.toArray n)) ?_)
    unfold sortedHeap
    obtain ⟨n, hn⟩ : ∃ n, (((((h.push (seqObj "list" vs.toArray 0)).update h.objs.size (Obj.mapSeq fun _ => #[])).push (seqObj "tuple" vs.toArray 0)).push (seqObj "list" #[] 0))).get? h.objs.size = some (seqObj "list" #[] n) := by
      refine ⟨_, Heap.get?_push_of_some _ (Heap.get?_push_of_some _ (get?_update_seq gl (fun _ => #[])))⟩
    exact ⟨_, get?_update_seq hn (fun _ => out.toArray)⟩
end
end Mi
namespace Mi
open PySem PySem.Spec PyProof.Rows PySem.Calls L2
/-! ### sorted by keys that are texts, no two alike -/
def insK {α : Type} (a : α × Str) : List (α × Str) → List (α × Str)
  | [] => [a]
  | b :: r => if leS a.2 b.2 then a :: b :: r else b :: insK a r
def srtK {α : Type} : List (α × Str) → List (α × Str)
  | [] => []
  | a :: r => insK a (srtK r)
section
variable {α β : Type}
theorem insK_perm (a : α × Str) : ∀ l, (insK a l).Perm (a :: l)
  | [] => .refl _
  | b :: r => by
    unfold insK
    split
    · exact .refl _
    · exact ((insK_perm a r).cons b).trans (.swap a b r)
theorem srtK_perm : ∀ l : List (α × Str), (srtK l).Perm l
  | [] => .refl _
  | a :: r => (insK_perm a (srtK r)).trans ((srtK_perm r).cons a)
theorem insK_snd (a : α × Str) : ∀ l, (insK a l).map Prod.snd = insS a.2 (l.map Prod.snd)
  | [] => rfl
  | b :: r => by
    show (if leS a.2 b.2 = true then a :: b :: r else b :: insK a r).map Prod.snd = if leS a.2 b.2 = true then a.2 :: b.2 :: r.map Prod.snd else b.2 :: insS a.2 (r.map Prod.snd)
    split
    · rfl
    · rw [List.map_cons, insK_snd a r]
theorem srtK_snd : ∀ l : List (α × Str), (srtK l).map Prod.snd = srtS (l.map Prod.snd)
  | [] => rfl
  | a :: r => by
    show (insK a (srtK r)).map Prod.snd = insS a.2 (srtS (r.map Prod.snd))
    rw [insK_snd, srtK_snd r]
theorem srtK_pw (l : List (α × Str)) : (srtK l).Pairwise fun a b => leS a.2 b.2 = true := by
  have h := srtS_pw (l.map Prod.snd)
  rw [← srtK_snd] at h
  exact List.pairwise_map.mp h
theorem leS_anti {a b : Str} (h1 : leS a b = true) (h2 : leS b a = true) : a = b := Str.ext' (Array.toList_inj.mp (List.le_antisymm (leS_iff.mp h1) (leS_iff.mp h2)))
theorem inj_snd : ∀ {m : List (α × Str)}, (m.map Prod.snd).Nodup → ∀ a ∈ m, ∀ b ∈ m, a.2 = b.2 → a = b
  | [], _, a, ha, _, _, _ => nomatch ha
  | c :: m, nd, a, ha, b, hb, e => by
    rw [List.map_cons] at nd
    obtain ⟨n1, n2⟩ :=
      List.nodup_cons.mp nd
    rcases List.mem_cons.mp ha with h1 | h1 <;> rcases List.mem_cons.mp hb with h2 | h2
    · rw [h1, h2]
    · rw [h1] at e
      exact (n1 (e ▸ List.mem_map_of_mem h2)).elim
    · rw [h2] at e
      exact (n1 (e ▸ List.mem_map_of_mem h1)).elim
    · exact inj_snd n2 a h1 b h2 e
theorem srtK_uniq {l m : List (α × Str)} (p : l.Perm m) (s : l.Pairwise fun a b => leS a.2 b.2 = true) (nd : (m.map Prod.snd).Nodup) : l = srtK m := by
  have inj := inj_snd nd
  exact List.Perm.eq_of_pairwise (fun a b ha hb h1 h2 => inj a (p.mem_iff.mp ha) b ((srtK_perm m).mem_iff.mp hb) (leS_anti h1 h2)) s (srtK_pw m) (p.trans (srtK_perm m).symm)
/-- two lists side by side, sorted alike -/
theorem insK_par {r : α → β → Prop} {a : α × Str} {b : β × Str} (h : r a.1 b.1) (e : a.2 = b.2) : ∀ {l : List (α × Str)} {m : List (β × Str)}, PySem.Paired (fun x y => r x.1 y.1 ∧ x.2 = y.2) l m → PySem.Paired (fun x y => r x.1 y.1 ∧ x.2 = y.2) (insK a l) (insK b m)
  | _, _, .nil => .cons ⟨h, e⟩ .nil
  | _, _, .cons (a := c) (b := d) (l₁ := l) (l₂ := m) h1 hr => by
    show PySem.Paired _ (if leS a.2 c.2 = true then a :: c :: l else c :: insK a l) (if leS b.2 d.2 = true then b :: d :: m else d :: insK b m)
    rw [e, h1.2]
    split
    · exact .cons ⟨h, e⟩ (.cons h1 hr)
    · exact .cons h1 (insK_par h e hr)
theorem srtK_par {r : α → β → Prop} : ∀ {l : List (α × Str)} {m : List (β × Str)}, PySem.Paired (fun x y => r x.1 y.1 ∧ x.2 = y.2) l m → PySem.Paired (fun x y => r x.1 y.1 ∧ x.2 = y.2) (srtK l) (srtK m)
  | _, _, .nil => .nil
  | _, _, .cons h hr => insK_par h.1 h.2 (srtK_par hr)
end
end Mi
namespace Mi
open PySem PySem.Spec PyProof.Rows PySem.Calls L2
/-! ### the rule by values -/
def HeadIs (K : PySem.W.Frag) (H : Hp) (x : V) (y : Str) : Prop := ∃ t rest, x = .ref t ∧ SqT K H t (.str y :: rest)
def rSortedH (K : PySem.W.Frag) : List V → Hp → VK → Prop := fun vs H Q => ∃ (a : Addr) (xs : List V) (ks : List Str), vs = [.ref a] ∧ (SqL K H a xs ∨ SqT K H a xs) ∧ PySem.Paired (HeadIs K H) xs ks ∧ ks.Nodup ∧
  ∀ p, H p = none → Q (.ref p) (upd H p (.lst ((srtK (xs.zip ks)).map Prod.fst)))
section
variable {X : Cx}
theorem hd_of {pins : List (Addr × Obj)} {σ : L2.St} {H : Hp} {s : Shared} (I : Inv X pins σ H s) {x : V} {y : Str} {v : Value} (h : HeadIs X.K H x y) (r : RelV x v) : Hd s.heap v y ∧ ∃ a, v = .ref a := by
  obtain ⟨t, rest, rfl, hq⟩ := h
  obtain rfl : v = Value.ref t := r
  obtain ⟨its, rv, ⟨o, ho, hc, n, hd⟩, _⟩ := I.tuple hq
  cases rv with
  | cons r1 r2 =>
    obtain ⟨t1, rfl⟩ := r1
    exact ⟨⟨t, o, t1, _, _, n, rfl, ho, hc, hd, rfl⟩, t, rfl⟩
theorem pair_keys {h : Heap} {R : V → Str → Prop} (hR : ∀ x y v, R x y → RelV x v → Hd h v y ∧ ∃ a, v = Value.ref a) : ∀ {xs : List V} {ks : List Str} {its : List Value}, PySem.Paired R xs ks → Vals xs its →
    xs = its.map backV ∧ ks = its.map (hdTx h) ∧ (∀ v ∈ its, Hd h v (hdTx h v) ∧ ∃ a, v = Value.ref a)
  | _, _, _, .nil, .nil => ⟨rfl, rfl, fun _ h => nomatch h⟩
  | _, _, _, .cons (a := x) (b := y) h1 hr, .cons (b := v) r1 r2 => by
    obtain ⟨e1, e2, e3⟩ := pair_keys hR hr r2
    obtain ⟨g, a, rfl⟩ := hR _ _ _ h1 r1
    have ex : x = V.ref a := by
      cases x <;> first | exact (by cases r1; rfl) | exact (by obtain ⟨_, z⟩ := r1; cases z) | cases r1
    subst ex
    refine ⟨by rw [e1]; rfl, by rw [e2, List.map_cons, g.tx], fun v hv => ?_⟩
    rcases List.mem_cons.mp hv with
      rfl | hv
    · exact ⟨by rw [g.tx]; exact g, a, rfl⟩
    · exact e3 v hv
theorem zip_maps {α β γ : Type} (f : α → β) (g : α → γ) : ∀ l : List α, (l.map f).zip (l.map g) = l.map fun u => (f u, g u)
  | [] => rfl
  | a :: l => by rw [List.map_cons, List.map_cons, List.zip_cons_cons, zip_maps f g l, List.map_cons]
theorem inj_map {α : Type} {f : α → Str} : ∀ {l : List α}, (l.map f).Nodup → ∀ v ∈ l, ∀ u ∈ l, f v = f u → v = u
  | l, nd, v, hv, u, hu, e => by
    have h := inj_snd (m := l.map fun u => (u, f u)) (by rw [List.map_map]; exact nd) (v, f v) (List.mem_map.mpr ⟨v, hv, rfl⟩) (u, f u) (List.mem_map.mpr ⟨u, hu, rfl⟩) e
    exact congrArg Prod.fst h
theorem cr_sortedH : CallR X (.builtin "sorted") (rSortedH X.K) := by
  intro pins s σ
    H xs us Q I r h
  obtain ⟨a, xs, ks, rfl, hs, hx, nd, q⟩ := h
  obtain ⟨u, rfl, ru⟩ :=
    vals1 r
  obtain rfl : u = Value.ref a :=
    ru
  have key : ∀ its : List Value, Vals xs its → xs.length ≤ sizeLine → ∀ (h' : Heap) (d tk : Nat) (out : List Value), SrtO.Srtd (fun v u => ltS (hdTx s.heap v) (hdTx s.heap u)) out → SrtO.Stb (fun v u => ltS (hdTx s.heap v) (hdTx s.heap u)) out its → (∀ b o, s.heap.get? b = some o → h'.get? b = some o) → s.heap.objs.size ≤ d → (∃ n, h'.get? d = some (seqObj "list" out.toArray n)) → EP X pins σ Q (.ref d) { s with heap := h', toks := tk } := by
    intro its rv hz h' d tk out h1 h2 kp hd hn
    obtain ⟨e1, e2, e3⟩ := pair_keys (fun x y v => hd_of I) hx rv
    have h3 : ∀ u ∈ out, ∃ a, u = Value.ref a := fun u hu => (e3 u (h2.perm.mem_iff.mp hu)).2
    obtain ⟨n, hn⟩ := hn
    have el : out.map backV = (srtK (xs.zip ks)).map Prod.fst := by
      have p1 : (out.map fun u => (backV u, hdTx s.heap u)).Perm (xs.zip ks) := by
        rw [e1, e2, zip_maps]
        exact h2.perm.map _
      have n1 : ((xs.zip ks).map Prod.snd).Nodup := by
        rw [e1, e2, zip_maps, List.map_map]
        rw [e2] at nd
        exact nd
      have s1 : (out.map fun u => (backV u, hdTx s.heap u)).Pairwise fun a b => leS a.2 b.2 = true := by
        refine List.pairwise_map.mpr ?_
        refine List.Pairwise.imp (fun {u v} h => ?_) h1
        exact leS_iff.mpr (List.not_lt.mp (of_decide_eq_false h))
      rw [← srtK_uniq p1 s1 n1, List.map_map]
      rfl
    refine ⟨.ref d, upd H d (.lst (out.map backV)), I.laid (t' := tk) kp hd ⟨?_, out, n, vals_back h3, hn⟩, rfl, ?_⟩
    · rw [List.length_map, h2.perm.length_eq, ← rv.length]
      exact hz
    · rw [el]
      exact q d (I.hok.fresh hd)
  rcases hs with hs | hs
  · obtain ⟨its, rv, hl, hz⟩ := I.list hs
    obtain ⟨e1, e2, e3⟩ := pair_keys (fun x y v => hd_of I) hx rv
    refine sorted_hds (f := hdTx s.heap) hl.isList (by rw [← rv.length]; exact hz) (fun v hv => (e3 v hv).1) (inj_map (by rw [← e2]; exact nd)) fun h' d out h1 h2 kp hd hn => key its rv hz h' d s.toks out h1 h2 kp hd hn
  · obtain ⟨its, rv, ht, hz⟩ := I.tuple hs
    obtain ⟨e1, e2, e3⟩ := pair_keys (fun x y v => hd_of I) hx rv
    refine sorted_col (col_tup ht (by rw [← rv.length]; exact hz)) (fun vs h e => by rw [e, ← rv.length]; exact hz) fun vs h e kp => ?_
    subst e
    refine ⟨hdTx s.heap, fun v hv => (e3 v hv).1.keeps fun b o e _ => kp b o e, inj_map (by rw [← e2]; exact nd), fun h' d tk out h1 h2 kp' hd hn => key vs rv hz h' d tk out h1 h2 (fun b o e => kp' b o (kp b o e)) hd ⟨_, hn⟩⟩
end
/-! ### the mirror -/
def hdK : D → Option Str
  | .tup (.str y :: _) => some y
  | _ => none
def hdKs : List D → Option (List Str)
  | [] => some []
  | d :: ds => match hdK d, hdKs ds with
    | some y, some ys => some (y :: ys)
    | _, _ => none
def gSortH (ds : List D) : Option D := match hdKs ds with
  | some ks => if ks.Nodup then some (.lst ((srtK (ds.zip ks)).map Prod.fst)) else none
  | none => none
def gSortedH : List D → Option D
  | [.lst ds] => gSortH ds
  | [.tup ds] => gSortH ds
  | _ => none
section
variable {K : PySem.W.Frag} {b : Option Addr} {F H : Hp}
theorem head_of (s : Same F H) {v : V} {d : D} {y : Str} (h : Rep K b F v d) (e : hdK d = some y) : HeadIs K H v y := by
  cases h <;> try (cases e; done)
  rename_i ds a vs t r
  cases r with
  | nil => cases e
  | cons h1 h2 =>
    cases h1 <;> try (cases e; done)
    cases e
    exact ⟨_, _, rfl, sqT (t.mono s)⟩
theorem heads_of (s : Same F H) : ∀ {vs : List V} {ds : List D} {ks : List Str}, RepL K b F vs ds → hdKs ds = some ks → PySem.Paired (HeadIs K H) vs ks ∧ PySem.Paired (fun (x : V × Str) (y : D × Str) => Rep K b F x.1 y.1 ∧ x.2 = y.2) (vs.zip ks) (ds.zip ks)
  | _, _, ks, .nil, e => by
    cases e
    exact ⟨.nil, .nil⟩
  | _, _, ks, .cons (d := d) (ds := ds) h r, e => by
    unfold hdKs at e
    split at e
    · rename_i y ys e1 e2
      cases e
      obtain ⟨h1, h2⟩ := heads_of s r e2
      exact ⟨.cons (head_of s h e1) h1, .cons ⟨h, rfl⟩ h2⟩
    · cases e
theorem repL_of_par : ∀ {l : List (V × Str)} {m : List (D × Str)}, PySem.Paired (fun (x : V × Str) (y : D × Str) => Rep K b F x.1 y.1 ∧ x.2 = y.2) l m → RepL K b F (l.map Prod.fst) (m.map Prod.fst)
  | _, _, .nil => .nil
  | _, _, .cons h r => .cons h.1 (repL_of_par r)
end
theorem real_sortedH {W : WX} {K : PySem.W.Frag} : RealA K W (rSortedH K) fun ds => o1 (gSortedH ds) := by
  intro S F H σ ρ x vs ds Q eK r hv p
  have fin : ∀ (a : Addr) (ws : List V) (es : List D), (SqL K H a ws ∨ SqT K H a ws) → RepL S.K S.b F ws es → Post rlD S W σ F H ρ (o1 (gSortH es) ρ x) Q → rSortedH K [.ref a] H Q := by
    intro a ws es hq r1 p
    unfold gSortH at p
    split at p
    · rename_i ks hk
      split at p
      · rename_i nd
        obtain ⟨h1, h2⟩ := heads_of r.core.sub r1 hk
        refine ⟨a, ws, ks, rfl, hq, eK ▸ h1, nd, fun q n => ?_⟩
        exact post_new (α := D) r p n (.lst upd_same ((repL_of_par (srtK_par h2)).mono (Same.new (r.core.nF n))))
      · exact p.elim
    · exact p.elim
  unfold gSortedH at p
  dsimp only at p
  split at p
  · obtain ⟨v, e, h⟩ := rep1 hv
    subst e
    cases h with
    | lst h r1 => exact fin _ _ _ (.inl (sqL (r.core.sub _ _ h))) r1 p
  · obtain ⟨v, e, h⟩ := rep1 hv
    subst e
    cases h with
    | tup h r1 => exact fin _ _ _ (.inr (sqTK eK r.core.sub h)) r1 p
  · exact p.elim
end Mi

/-! Mi21: xs[::-1], lists and tuples. -/
namespace Mi
open PySem
open PySem.Spec PyProof.Rows L2
theorem adj_back (n : Nat) : Builtin.Slice.sliceAdjust none none (-1) (n : Int) = ((n : Int) - 1, -1) := rfl
theorem places_back (n : Nat) : Builtin.Slice.slicePlaces ((n : Int) - 1) (-1) (-1) = n := by
  unfold
    Builtin.Slice.slicePlaces
  rw [if_neg (by decide)]
  by_cases h : ((n : Int) - 1 > -1)
  · rw [if_pos h]
    show ((((n : Int) - 1 - -1 - 1) / 1 + 1).toNat) = n
    rw [Int.ediv_one]
    omega
  · rw [if_neg h]
    omega
theorem fm_congr {α β : Type} {f g : α → Option β} : ∀ {l : List α}, (∀ x ∈ l, f x = g x) → l.filterMap f = l.filterMap g
  | [], _ => rfl
  | x :: l, h => by rw [List.filterMap_cons, List.filterMap_cons, h x (List.mem_cons_self ..), fm_congr fun y hy => h y (List.mem_cons_of_mem _ hy)]
theorem pick_back (xs : Array Value) : ((List.range xs.size).filterMap fun k : Nat => xs[(((xs.size : Int) - 1) + (k : Int) * -1).toNat]?) = xs.toList.reverse := by
  have e : ((List.range xs.size).filterMap fun k : Nat => xs[(((xs.size : Int) - 1) + (k : Int) * -1).toNat]?) = (List.range xs.size).filterMap fun k => xs[xs.size - 1 - k]? := by
    refine fm_congr fun k hk => ?_
    have := List.mem_range.mp hk
    rw [show (((xs.size : Int) - 1) + (k : Int) * -1).toNat = xs.size - 1 - k by omega]
  rw [e]
  have e2 : ((List.range xs.size).filterMap fun k => xs[xs.size - 1 - k]?) = ((List.range xs.size).map fun k => xs.size - 1 - k).filterMap (xs[·]?) := by
    rw [List.filterMap_map]
    rfl
  rw [e2, PySem.W.krv_range, List.filterMap_reverse, PySem.W.krv_all]
section
variable {prog : Program}
  {w : World} {A : Around}
  {E : Value → Shared → Prop} {s : Shared}
theorem applied_back {sl : Addr} {vs : Value} {n : Nat} {Q : Int × Int × Nat → Shared → Prop} (hs : s.heap.IsSliceOf sl .none .none vs) (ps : IsPart vs (some (-1)))
    (h : Q ((n : Int) - 1, -1, n) s) : wpAny (model prog w) A (Builtin.Slice.sliceApplied (.ref sl) (pure (n : Int))) Q E s := by
  obtain ⟨os, hos, hcs, hds⟩ :=
    id hs
  unfold Builtin.Slice.sliceApplied
    Builtin.Slice.sliceFields
  refine wpAny_bind (wpAny_bind (wpAny_field hos hds (x := .none) rfl (wpAny_bind (wpAny_field hos hds (x := .none) rfl (wpAny_bind (wpAny_field hos hds (x := vs) rfl (wpAny_pure ?_)))))))
  refine wpAny_bind (HT.slicePart_ ps ?_)
  show wpAny _ _ (if ((-1 : Int) == 0) = true then _ else _) _ _ s
  rw [if_neg (by decide)]
  refine wpAny_bind (HT.slicePart_ .none (wpAny_bind (HT.slicePart_ .none (wpAny_bind (wpAny_pure ?_)))))
  show wpAny _ _ (pure ((n : Int) - 1, (-1 : Int), Builtin.Slice.slicePlaces ((n : Int) - 1) (-1) (-1))) _ _ s
  rw [places_back]
  exact wpAny_pure h
theorem getItem_tupBack {t sl : Addr} {vs : Value} {items : Array Value} {Q : Value → Shared → Prop} (ht : IsTup s.heap t items) (hs : s.heap.IsSliceOf sl .none .none vs) (ps : IsPart vs (some (-1)))
    (h : Q (.ref s.heap.objs.size) { s with heap := s.heap.push { cls := .type "tuple", data := .seq items.toList.reverse.toArray } })
    (hsz : items.size ≤ sizeLine) : wpAny (model prog w) A (getItem (.ref t)
      (.ref sl)) Q E s := by
  have hz : sizeOk (.seq items.toList.reverse.toArray) := by
    show items.toList.reverse.toArray.size ≤ sizeLine
    rw [List.size_toArray, List.length_reverse, Array.length_toList]
    exact hsz
  obtain ⟨os, hos, hcs, hds⟩ :=
    id hs
  have hTs : s.TypeIs (.ref sl) "slice" :=
    ⟨os, hos, hcs⟩
  unfold getItem
  try with_reducible
    refine wpAny_holding ?_
  first | refine wpAny_bind
                                          (wpAny_pure ?_) | skip
  refine wpAny_bind (wpAny_sequenceKey
    ht.typeIs (by decide) ?_)
  refine wpAny_bind (wpAny_callSpecial?_slot (name := Str.ofString "__getitem__") ht.typeIs slot_tuple_getitem (wpAny_call_entry slot_tuple_getitem ht.typeIs entry_tuple_getitem ?_ (args_tuple_getitem _ _)))
  show wpAny _ _ (Builtin.Tuple.tupleItemsOf
    (.ref t) >>= _) _ _ s
  refine wpAny_bind (tupleItemsOf_ ht (wpAny_bind (wpAny_typeOf hTs ?_)))
  rw [if_pos (by decide)]
  refine wpAny_bind (applied_back hs ps ?_)
  have hno : ¬ (((items.size : Int) - 1 == 0 && (-1 : Int) == 1 && items.size == items.size) = true) := by simp
  show wpAny _ _ (if ((items.size : Int) - 1 == 0 && (-1 : Int) == 1 && items.size == items.size) = true then _ else _) _ _ s
  rw [if_neg hno, pick_back]
  first
    | exact wpAny_bind (m := Builtin.Tuple.tupleExact _) (wpAny_newObj_type (wpAny_pure ⟨_, rfl, wpAny_pure h⟩) hz)
    | exact wpAny_bind (m := Builtin.Tuple.tupleExact _) (wpAny_newObj_type (wpAny_bind (wpAny_pure (wpAny_pure ⟨_, rfl, wpAny_pure h⟩))) hz)
    | exact wpAny_bind (wpAny_bind (m := Builtin.Tuple.tupleExact _) (wpAny_newObj_type (wpAny_pure (wpAny_pure ⟨_, rfl, wpAny_pure h⟩)) hz))
    | exact wpAny_bind (wpAny_bind (m := Builtin.Tuple.tupleExact _) (wpAny_newObj_type (wpAny_pure ⟨_, rfl, wpAny_pure h⟩) hz))
end
section
variable {X : Cx} {W : WX}
/-- e[::-1], a list or a tuple -/
def tRev (K : PySem.W.Frag) (te : TE) : TE := fun σ H Q => te σ H fun x H1 => ∃ a xs, x = V.ref a ∧ ((SqL K H1 a xs ∧ ∀ p, H1 p = none → Q (.ref p) (upd H1 p (.lst xs.reverse))) ∨ (SqT K H1 a xs ∧ ∀ p, H1 p = none → Q (.ref p) (upd H1 p (.tup xs.reverse))))
theorem vals_reverse {F : V → Value → Prop} : ∀ {xs : List V} {its : List Value}, PySem.Paired F xs its → PySem.Paired F xs.reverse its.reverse
  | _, _, .nil => .nil
  | _, _, .cons h r => by
    rw [List.reverse_cons,
      List.reverse_cons]
    exact (vals_reverse r).snoc h
theorem pe_rev {e : Expr} {te : TE} {k : Nat} {p0 p1 p2 pos : Pos} (he : PE X e te) : PE X (.Subscript e (.Slice none none (some (.UnaryOp .USub (.Constant (.int 1) k p0) p1)) p2) pos) (tRev X.K te) := by
  refine ⟨fun pins s σ H Q I h =>
    ?_⟩
  refine Subscript_ (thn (he.run pins s σ H _ I h) fun v s1 ⟨x, H1, I1, r1, a, xs, ex, q1⟩ => ?_)
  subst ex
  obtain rfl : v = Value.ref a :=
    r1
  refine wpAny_Slice ?_
  rw [evalPart_none]
  refine wpAny_pure
    (wpAny_pure ?_)
  have hst : PO X (some (.UnaryOp .USub (.Constant (.int 1) k p0) p1)) (tPart (tUn (rU fun i => V.int (-i)) (tC (V.int 1)))) := po_some (pe_un un_neg pe_int)
  refine thn (hst.run pins s1 σ H1 (fun o H2 => o = some (-1) ∧ H2 = H1) I1 ⟨1, rfl, -1, rfl, rfl, rfl⟩) fun vk s3 ⟨o, H2, I3, pk, eo, eH⟩ => ?_
  subst eo eH
  have I4 : Inv X pins σ H2 { s3 with heap := s3.heap.push { cls := .type "slice", data := .fields #[.none, .none, vk] } } := I3.kept (t' := s3.toks) fun b ob q => Heap.get?_push_of_some _ q
  rcases q1 with ⟨hx, q⟩ | ⟨hx, q⟩
  · obtain ⟨its, r, ht, hz⟩ := I4.list hx
    refine tail_any (ops := [.ref a, .ref s3.heap.objs.size]) ht.isList.typeIs slot_list_getitem.lookup ?_ (by with_unfolding_all rfl)
    refine wpAny_getItem_list_slice ht.isList (Heap.IsSliceOf.new ..) .none .none pk (by decide) ?_ (by rw [List.size_toArray, ← r.length]; exact hz)
    rw [PySem.W.krv_pick]
    exact ⟨.ref (s3.heap.push { cls := .type "slice", data := .fields #[.none, .none, vk] }).objs.size, _, I4.laid (t' := s3.toks) (o := .lst xs.reverse) (fun b ob q => Heap.get?_push_of_some _ q) (Nat.le_refl _) ⟨by rw [List.length_reverse]; exact hz, _, 0, vals_reverse r, Heap.get?_push_size _ rfl⟩, rfl, q _ (I4.hok.fresh (Nat.le_refl _))⟩
  · obtain ⟨its, r, ht, hz⟩ := I4.tuple hx
    refine tail_any (ops := [.ref a, .ref s3.heap.objs.size]) ht.typeIs slot_tuple_getitem.lookup ?_ (by with_unfolding_all rfl)
    refine getItem_tupBack ht (Heap.IsSliceOf.new ..) pk ?_ (by rw [List.size_toArray, ← r.length]; exact hz)
    exact ⟨.ref (s3.heap.push { cls := .type "slice", data := .fields #[.none, .none, vk] }).objs.size, _, I4.laid (t' := s3.toks) (o := .tup xs.reverse) (fun b ob q => Heap.get?_push_of_some _ q) (Nat.le_refl _) ⟨by rw [List.length_reverse]; exact hz, _, vals_reverse r, IsTup.new _ _⟩, rfl, q _ (I4.hok.fresh (Nat.le_refl _))⟩
theorem RepL.reverse {K : PySem.W.Frag} {b : Option Addr} {F : Hp} : ∀ {vs : List V} {ds : List D}, RepL K b F vs ds → RepL K b F vs.reverse ds.reverse
  | _, _, .nil => .nil
  | _, _, .cons h r => by
    rw [List.reverse_cons,
      List.reverse_cons]
    exact r.reverse.append (.cons h .nil)
def gRev : D → Option D
  | .lst ds => some (.lst ds.reverse)
  | .tup ds => some (.tup ds.reverse)
  | _ => none
theorem j_rev {e : Expr} {m : MM D} {k : Nat} {p0 p1 p2 pos : Pos} (he : PE X e (rdE X.K W m)) : PE X (.Subscript e (.Slice none none (some (.UnaryOp .USub (.Constant (.int 1) k p0) p1)) p2) pos) (rdE X.K W (mBind m fun d => o1 (gRev d))) :=
  peI (pe_rev he) fun σ H Q h => by
    obtain ⟨S, F, ρ, x, eK, r, p⟩ := rd_bind (rl := rlD) h
    refine ⟨S, F, ρ, x, eK, r, ?_⟩
    cases e1 : m ρ x with
    | out =>
      rw [e1] at p
      exact p
    | exc c fs x1 =>
      rw [e1] at p
      exact p
    | val d x1 =>
      rw [e1] at p
      intro v F' H' r1 s1 k1 h1
      obtain ⟨S2, F2, ρ2, x2, a2, eK2, r2, h2, p2⟩ := p v F' H' r1 s1 k1 h1
      have h2 : Rep S2.K S2.b F2 v a2 := h2
      unfold gRev at p2
      dsimp only at p2
      split at p2
      · cases h2 with
        | lst h q => exact ⟨_, _, rfl, .inl ⟨sqL (r2.core.sub _ _ h), fun l n => post_new (α := D) r2 p2 n (.lst upd_same (q.reverse.mono (Same.new (r2.core.nF n))))⟩⟩
      · cases h2 with
        | tup h q => exact ⟨_, _, rfl, .inr ⟨sqTK eK2 r2.core.sub h, fun l n => post_new (α := D) r2 p2 n (.tup (.inl upd_same) (q.reverse.mono (Same.new (r2.core.nF n))))⟩⟩
      · exact p2.elim
end
end Mi

/-! Mi22: expressions that take something out of an owned list; more new lists. -/
namespace Mi
open PySem PySem.Spec L2
/-! ### expressions that change the slots -/
inductive RP (α : Type) where
  | val (a : α) (ρ : En) (x : Bx)
  | exc (c : Str) (fs : Fl) (ρ : En) (x : Bx)
  | out
abbrev MP (α : Type) := En → Bx → RP α
def PostP {α β : Type} (rl : Rl α β) (S : Cf) (W : WX) (σ : L2.St) (F : Hp) (r : RP α) (Q : β → Hp → Prop) : Prop := match r with
  | .val a ρ' x' => ∀ v F' H', Rel S F' H' σ ρ' x' → Same F F' → rl S F' v a → Q v H'
  | .exc c fs ρ' x' => ∀ F' H' dd, Rel S F' H' σ ρ' x' → Same F F' → XdOk S F' dd fs → W (.ref (He.ga S.K c)) dd σ H'
  | .out => False
def rdP {α β : Type} (rl : Rl α β) (K : PySem.W.Frag) (W : WX) (m : MP α) : L2.St → Hp → (β → Hp → Prop) → Prop := fun σ H Q => ∃ S F ρ x, S.K = K ∧ Rel S F H σ ρ x ∧ PostP rl S W σ F (m ρ x) Q
theorem PostP.mono {α β : Type} {rl : Rl α β} {S : Cf} {W : WX} {σ : L2.St} {F F1 : Hp} {r : RP α} {Q : β → Hp → Prop} (s : Same F F1) (h : PostP rl S W σ F r Q) : PostP rl S W σ F1 r Q := by
  cases r with
  | val a ρ' x' => exact fun v F' H' a1 a2 a3 => h v F' H' a1 (s.trans a2) a3
  | exc c fs ρ' x' => exact fun F' H' dd a1 a2 a3 => h F' H' dd a1 (s.trans a2) a3
  | out => exact h
def pBind {α γ : Type} (m : MP α) (k : α → MP γ) : MP γ := fun ρ x => match m ρ x with
  | .val a ρ1 x1 => k a ρ1 x1
  | .exc c fs ρ1 x1 => .exc c fs ρ1 x1
  | .out => .out
def pLift {α : Type} (m : MM α) : MP α := fun ρ x => match m ρ x with
  | .val a x1 => .val a ρ x1
  | .exc c fs x1 => .exc c fs ρ x1
  | .out => .out
section
variable {α β γ δ : Type} {rl : Rl α β} {rl' : Rl γ δ} {K : PySem.W.Frag} {W : WX} {σ : L2.St} {H : Hp}
theorem rdP_lift {m : MM α} {Q : β → Hp → Prop} (h : rdP rl K W (pLift m) σ H Q) : rd rl K W m σ H Q := by
  obtain ⟨S, F, ρ, x, eK, r, p⟩ := h
  refine ⟨S, F, ρ, x, eK, r, ?_⟩
  unfold pLift at p
  cases e : m ρ x with
  | val a x1 =>
    rw [e] at p
    exact fun v F' H' a1 a2 _ a4 => p v F' H' a1 a2 a4
  | exc c fs x1 =>
    rw [e] at p
    exact fun F' H' dd a1 a2 _ a4 => p F' H' dd a1 a2 a4
  | out =>
    rw [e] at p
    exact p
theorem rdP_bind {m : MP α} {k : α → MP γ} {Q : δ → Hp → Prop} {Q' : β → Hp → Prop} (h : rdP rl' K W (pBind m k) σ H Q)
    (q : ∀ S F H' ρ x v a, S.K = K → Rel S F H' σ ρ x → rl S F v a → PostP rl' S W σ F (k a ρ x) Q → Q' v H') : rdP rl K W m σ H Q' := by
  obtain ⟨S, F, ρ, x, eK, r, p⟩ := h
  refine ⟨S, F, ρ, x, eK, r, ?_⟩
  unfold pBind at p
  cases e : m ρ x with
  | val a ρ1 x1 =>
    rw [e] at p
    exact fun v F' H' a1 a2 a3 => q S F' H' ρ1 x1 v a eK a1 a3 (p.mono a2)
  | exc c fs ρ1 x1 =>
    rw [e] at p
    exact p
  | out =>
    rw [e] at p
    exact p
end
section
variable {X : Cx} {W : WX}
def pNil : MP (List D) := fun ρ x => .val [] ρ x
def pCons (m : MP D) (ms : MP (List D)) : MP (List D) := pBind m fun a => pBind ms fun as ρ x => .val (a :: as) ρ x
theorem jp_lift {e : Expr} {m : MM D} (h : PE X e (rdE X.K W m)) : PE X e (rdP rlD X.K W (pLift m)) := peI h fun σ H Q q => rdP_lift q
theorem jp_anil : PA X [] (rdP rlL X.K W pNil) := paI pa_nil fun σ H Q ⟨S, F, ρ, x, eK, r, p⟩ => p [] F H r (Same.refl F) .nil
theorem jp_acons {e : Expr} {es : List Expr} {m : MP D} {ms : MP (List D)} (he : PE X e (rdP rlD X.K W m)) (hr : PA X es (rdP rlL X.K W ms)) (hs : starEach (e :: es) X.env = (false, eval e X.env) :: starEach es X.env := by rfl) : PA X (e :: es) (rdP rlL X.K W (pCons m ms)) :=
  paI (pa_cons he hr hs) fun σ H Q h => rdP_bind (rl := rlD) (rl' := rlL) h fun S F H1 ρ x v a eK r hv p => by
    have q : rdP rlL X.K W (pBind ms fun as ρ x => .val (a :: as) ρ x) σ H1 Q := ⟨S, F, ρ, x, eK, r, p⟩
    have hv : Rep S.K S.b F v a := hv
    refine ⟨S, F, ρ, x, eK, r, ?_⟩
    unfold pBind at p
    cases e1 : ms ρ x with
    | val as ρ1 x1 =>
      rw [e1] at p
      exact fun vs F' H' a1 a2 a3 => p (v :: vs) F' H' a1 a2 (.cons (hv.mono a2) a3)
    | exc c fs ρ1 x1 =>
      rw [e1] at p
      exact p
    | out =>
      rw [e1] at p
      exact p
def pTup (ms : MP (List D)) : MP D := pBind ms fun ds ρ x => if ds.length ≤ big then .val (.tup ds) ρ x else .out
theorem jp_tup {es : List Expr} {k : Nat} {pos : Pos} {ms : MP (List D)} (h : PA X es (rdP rlL X.K W ms)) : PE X (.Tuple es k pos) (rdP rlD X.K W (pTup ms)) :=
  peI (pe_tup h) fun σ H Q q => rdP_bind (rl := rlL) (rl' := rlD) q fun S F H1 ρ x vs ds eK r hv p => by
    have hv : RepL S.K S.b F vs ds := hv
    split at p
    · rename_i hz
      exact ⟨by rw [hv.length]; exact big_le hz, fun q n => p (.ref q) _ _ (r.alloc n) (Same.new (r.core.nF n)) (.tup (.inl upd_same) (hv.mono (Same.new (r.core.nF n))))⟩
    · exact p.elim
/-- ys.pop(e) -/
def pPop (j : Nat) (m : MP D) : MP D := fun ρ x => match ρ[j]? with
  | some (.ol _) => pBind m (fun d ρ x => match d with
    | .int k => (match ρ[j]? with
      | some (.ol es) => (match ixN es.length k with
        | some n => (match es[n]? with
          | some z => if -(2 ^ 63) ≤ k ∧ k < 2 ^ 63 then .val z (ρ.set j (.ol (es.eraseIdx n))) x else .out
          | none => .out)
        | none => .out)
      | _ => .out)
    | _ => .out) ρ x
  | _ => .out
theorem jp_pop (j : Nat) {z : Str} {e : Expr} {p2 apos2 cpos2 : Pos} {m : MP D} (he : PE X e (rdP rlD X.K W m)) (hNz : X.N[j]? = some z := by rfl) (hvz : Vis X.env.scope z := by first | exact Or.inl rfl | exact Or.inr (Or.inl rfl) | exact Or.inr (Or.inr rfl)) (hdz : (z == ("__debug__" : Str)) = false := by decide) (hcdz : (z == ("__classdict__" : Str)) = false := by decide)
    (h1 : starEach [e] X.env = (false, eval e X.env) :: starEach [] X.env := by rfl) (hbase : attributeBase (.Name z p2) "pop" X.env (eval (.Name z p2) X.env) = eval (.Name z p2) X.env := by rfl) (hfew : ((backTo cpos2 (starEach [e] X.env)).all (fun x => !x.1) && (backToKw cpos2 (keywordEach [] X.env)).all (fun x => x.1.isSome)
      && decide ([e].length + ([] : List Keyword).length + (if ([] : List Keyword).isEmpty then 0 else 1) < 30)) = true := by rfl) (hline : (apos2.endLine == cpos2.line) = true := by rfl) (hplain : (backTo cpos2 (starEach [] X.env)).any (·.1) = false := by rfl) :
    PE X (.Call (.Attribute (.Name z p2) "pop" apos2) [e] [] cpos2) (rdP rlD X.K W (pPop j m)) :=
  peI (pe_bm PySem.F.plainAttrs_list PySem.F.slot_list_pop PySem.F.type_list_pop mt_popAt (pe_var (i := j) hNz hvz hdz hcdz) (pa_cons he pa_nil h1) hbase hfew hline h1 hplain) fun σ H Q h => by
    obtain ⟨S, F, ρ, x, eK, r, p⟩ := h
    unfold pPop at p
    split at p
    · rename_i es0 e0
      obtain ⟨q', vs', eσ', nb', n0', nF', hH', hr'⟩ := r.getO e0
      refine ⟨.ref q', eσ', .inl ⟨rfl, vs', sqL hH'⟩, ?_⟩
      refine (show rdP rlD X.K W m σ H _ from ?_)
      refine rdP_bind (rl := rlD) (rl' := rlD) ⟨S, F, ρ, x, eK, r, p⟩ fun S F H2 ρ x v d eK r hv p => ?_
      have hv : Rep S.K S.b F v d := hv
      cases hv <;> try exact p.elim
      rename_i k
      dsimp only at p
      split at p
      · rename_i es e1
        obtain ⟨q, vs, eσ, nb, n0, nF, hH, hr⟩ := r.getO e1
        rw [eσ'] at eσ
        cases eσ
        split at p
        · rename_i n hn
          split at p
          · rename_i z hz
            split at p
            · rename_i hc
              have hn' : ixN vs.length k = some n := by rw [hr.length]; exact hn
              obtain ⟨w, ew, hw⟩ := hr.get hz
              exact ⟨q', vs, k, n, w, rfl, rfl, hH, hc.1, hc.2, (ixN_seq hn').1, ew, p w F _ (r.updO e1 eσ' (hr.erase n)) (Same.refl F) hw⟩
            · exact p.elim
          · exact p.elim
        · exact p.elim
      · exact p.elim
    · exact p.elim
/-- ahead of the rest of a statement -/
def mP {α : Type} (m : MP α) (k : α → MS) : MS := fun ρ x => match m ρ x with
  | .val d ρ1 x1 => k d ρ1 x1
  | .exc c fs ρ1 x1 => .exc c fs ρ1 x1
  | .out => .out
theorem rd_P {α β : Type} {rl : Rl α β} {K : PySem.W.Frag} {m : MP α} {k : α → MS} {D : Ends} {σ : L2.St} {H : Hp} {Q : β → Hp → Prop} (h : rdS K W (mP m k) D σ H)
    (q : ∀ S F H' ρ x v d, S.K = K → Rel S F H' σ ρ x → rl S F v d → PostS S W (k d ρ x) D → Q v H') : rdP rl K W m σ H Q := by
  obtain ⟨S, F, ρ, x, eK, r, p⟩ := h
  refine ⟨S, F, ρ, x, eK, r, ?_⟩
  unfold mP at p
  cases e : m ρ x with
  | val d ρ1 x1 =>
    rw [e] at p
    exact fun v F' H' r' _ hv => q S F' H' ρ1 x1 v d eK r' hv p
  | exc c fs ρ1 x1 =>
    rw [e] at p
    exact fun F' H' dd r' _ hd => p σ F' H' dd r' hd
  | out =>
    rw [e] at p
    exact p
def mAsgP (tg : Tg) (m : MP D) : MS := mP m fun d ρ x => match tg.asg d ρ with
  | some ρ' => .nx ρ' x
  | none => .out
theorem js_asgP {tgx e : Expr} {pos : Pos} {tg : Tg} {m : MP D} (he : PE X e (rdP rlD X.K W m)) (hg : PG X tgx (tg.g X.K)) (hs : swapsWithSole [tgx] e pos.line X.env = pure false := by rfl) (hw : swappedStores [tgx] e X.env = pure none := by rfl) (h1 : (assignEach [tgx] X.env).map (·.2) = [assign tgx X.env] := by rfl) : PS X (.Assign [tgx] e pos) (rdS X.K W (mAsgP tg m)) :=
  psI (ps_asg he hg hs hw h1) fun D σ H h => rd_P (rl := rlD) h fun S F H' ρ x v d eK r hv p => by
    cases e : tg.asg d ρ with
    | none =>
      rw [e] at p
      exact p.elim
    | some ρ' =>
      rw [e] at p
      rw [← eK]
      exact Tg.ok tg r hv e fun vs r' => p _ _ _ r'
/-- a, b = e, f -/
def mParP (i j : Nat) (ms : MP (List D)) : MS := mP ms fun ds ρ x => match ds with
  | [d, e] => .nx ((ρ.set i (.fz d)).set j (.fz e)) x
  | _ => .out
theorem js_parP {i j : Nat} {x y : Str} {a b : Expr} {ms : MP (List D)} {px py pt pos pt2 : Pos} {kt k2 : Nat} (hc : X.calm = true) (hN : X.N.Nodup) (hij : i ≠ j) (ha : PA X [a, b] (rdP rlL X.K W ms)) (hi : X.N[i]? = some x := by rfl) (hj : X.N[j]? = some y := by rfl)
    (hx : X.env.scope.names.lookup x = some .local := by rfl) (hy : X.env.scope.names.lookup y = some .local := by rfl)
    (hw : swappedStores [.Tuple [.Name x px, .Name y py] kt pt] (.Tuple [a, b] k2 pt2) X.env = pure (some [x, y]) := by rfl) (hs : swapsWithSole [.Tuple [.Name x px, .Name y py] kt pt] (.Tuple [a, b] k2 pt2) pos.line X.env = pure false := by rfl) :
    PS X (.Assign [.Tuple [.Name x px, .Name y py] kt pt] (.Tuple [a, b] k2 pt2) pos) (rdS X.K W (mParP i j ms)) :=
  psI (ps_par hc hN hi hj hij hx hy ha hw hs) fun D σ H h => rd_P (rl := rlL) h fun S F H' ρ x vs ds eK r hv p => by
    have hv : RepL S.K S.b F vs ds := hv
    split at p
    · obtain ⟨v, u, e, h1, h2⟩ := rep2 hv
      exact ⟨v, u, e, p _ _ _ ((r.put i h1).put j h2)⟩
    · exact p.elim
/-- xs.append(e), e one of these -/
def mAppP (i : Nat) (m : MP D) : MS := fun ρ x => match ρ[i]? with
  | some (.ol _) => mP m (fun d ρ x => match ρ[i]? with
    | some (.ol ds) => if ds.length < big then .nx (ρ.set i (.ol (ds ++ [d]))) x else .out
    | _ => .out) ρ x
  | _ => .out
theorem js_appP (i : Nat) {y : Str} {e : Expr} {p1 apos cpos pos : Pos} {m : MP D} (he : PE X e (rdP rlD X.K W m)) (hN : X.N[i]? = some y := by rfl) (hv : Vis X.env.scope y := by first | exact Or.inl rfl | exact Or.inr (Or.inl rfl) | exact Or.inr (Or.inr rfl)) (hd : (y == ("__debug__" : Str)) = false := by decide) (hcd : (y == ("__classdict__" : Str)) = false := by decide)
    (h1 : starEach [e] X.env = (false, eval e X.env) :: starEach [] X.env := by rfl) (hbase : attributeBase (.Name y p1) "append" X.env (eval (.Name y p1) X.env) = eval (.Name y p1) X.env := by rfl) (hfew : ((backTo cpos (starEach [e] X.env)).all (fun x => !x.1) && (backToKw cpos (keywordEach [] X.env)).all (fun x => x.1.isSome)
      && decide ([e].length + ([] : List Keyword).length + (if ([] : List Keyword).isEmpty then 0 else 1) < 30)) = true := by rfl) (hline : (apos.endLine == cpos.line) = true := by rfl) (hplain : (backTo cpos (starEach [] X.env)).any (·.1) = false := by rfl)
    (hs : swapsWith (.Call (.Attribute (.Name y p1) "append" apos) [e] [] cpos) none pos.line X.env = pure false := by rfl) :
    PS X (.Expr (.Call (.Attribute (.Name y p1) "append" apos) [e] [] cpos) pos) (rdS X.K W (mAppP i m)) :=
  psI (ps_expr (pe_bm PySem.F.plainAttrs_list PySem.F.slot_list_append PySem.F.type_list_append mt_append (pe_var (i := i) hN hv hd hcd) (pa_cons he pa_nil h1) hbase hfew hline h1 hplain) hs) fun D σ H h => by
    obtain ⟨S, F, ρ, x, eK, r, p⟩ := h
    unfold mAppP at p
    split at p
    · rename_i ds0 e0
      obtain ⟨q, vs0, eσ, nb, n0, nF, hH, hr⟩ := r.getO e0
      refine ⟨.ref q, eσ, .inl ⟨rfl, vs0, sqL hH⟩, ?_⟩
      refine (show rdP rlD X.K W m σ H _ from ?_)
      refine rd_P (rl := rlD) ⟨S, F, ρ, x, eK, r, p⟩ fun S F H2 ρ x v d eK r hv p => ?_
      have hv : Rep S.K S.b F v d := hv
      split at p
      · rename_i ds e1
        obtain ⟨q2, vs, eσ2, nb, n0, nF, hH, hr⟩ := r.getO e1
        rw [eσ] at eσ2
        cases eσ2
        split at p
        · rename_i hz
          exact ⟨q, vs, v, rfl, rfl, hH, by rw [hr.length]; exact big_lt hz, p _ _ _ (r.updO e1 eσ (hr.append (.cons hv .nil)))⟩
        · exact p.elim
      · exact p.elim
    · exact p.elim
end
end Mi
namespace Mi
open PySem PySem.Spec L2
section
variable {X : Cx} {W : WX}
/-! ### a, b = e, [..]: the first a value, the second one new -/
def mParV (i j : Nat) (m : MM D) (n : MM (List D)) : MS := mE m fun d => mE n fun ds ρ x => if i = j then .out else .nx ((ρ.set i (.fz d)).set j (.ol ds)) x
theorem Rel.newAt {S : Cf} {F H : Hp} {σ : L2.St} {ρ : En} {x : Bx} {p : Addr} {ds : List D} {v : V} {d : D} (r : Rel S F H σ ρ x) (n : NewL S F H σ ρ p ds) (i : Nat) (h : Rep S.K S.b F v d) : NewL S F H (σ.set i (some v)) (ρ.set i (.fz d)) p ds where
  nb := n.nb
  n0 := n.n0
  nF := n.nF
  hH := n.hH
  nown := fun k s e o z => by
    by_cases hk : i = k
    · subst hk
      have hi : i < ρ.length := by
        have := (List.getElem?_eq_some_iff.mp e).1
        rwa [List.length_set] at this
      rw [List.getElem?_set_self hi] at e
      cases e
      cases o
    · rw [List.getElem?_set_ne hk] at e z
      exact n.nown k s e o z
theorem js_parV {i j : Nat} {x y : Str} {a b : Expr} {m : MM D} {n : MM (List D)} {px py pt pos pt2 : Pos} {kt k2 : Nat} (hc : X.calm = true) (hN : X.N.Nodup) (hij : i ≠ j) (ha : PE X a (rdE X.K W m)) (hb : PE X b (rdN X.K W n)) (hi : X.N[i]? = some x := by rfl) (hj : X.N[j]? = some y := by rfl)
    (hx : X.env.scope.names.lookup x = some .local := by rfl) (hy : X.env.scope.names.lookup y = some .local := by rfl) (h1 : starEach [a, b] X.env = (false, eval a X.env) :: starEach [b] X.env := by rfl) (h2 : starEach [b] X.env = (false, eval b X.env) :: starEach [] X.env := by rfl)
    (hw : swappedStores [.Tuple [.Name x px, .Name y py] kt pt] (.Tuple [a, b] k2 pt2) X.env = pure (some [x, y]) := by rfl) (hs : swapsWithSole [.Tuple [.Name x px, .Name y py] kt pt] (.Tuple [a, b] k2 pt2) pos.line X.env = pure false := by rfl) :
    PS X (.Assign [.Tuple [.Name x px, .Name y py] kt pt] (.Tuple [a, b] k2 pt2) pos) (rdS X.K W (mParV i j m n)) :=
  psI (ps_par hc hN hi hj hij hx hy (pa_cons ha (pa_cons hb pa_nil h2) h1) hw hs) fun D σ H h => rd_E (rl := rlD) h fun S F1 H1 ρ x1 v d eK r1 hv q => by
    have hv : Rep S.K S.b F1 v d := hv
    refine (show rdN X.K W n σ H1 _ from ?_)
    refine ⟨S, F1, ρ, x1, eK, r1, ?_⟩
    unfold mE at q
    cases e : n ρ x1 with
    | out =>
      rw [e] at q
      exact q.elim
    | exc c fs x2 =>
      rw [e] at q
      exact fun F' H' dd a1 a2 a3 a4 => q σ F' H' dd a1 a4
    | val ds x2 =>
      rw [e] at q
      dsimp only at q
      rw [if_neg hij] at q
      exact fun p F' H' a1 a2 a3 a4 a5 => ⟨_, _, rfl, q _ _ _ ((a1.put i (hv.mono a3)).own (a1.newAt a2 i (hv.mono a3)) j)⟩
/-! ### more new lists -/
theorem rd_toN2 {K : PySem.W.Frag} {ma mb : MM D} {g : D → D → MM (List D)} {σ : L2.St} {H : Hp} {Q : VK} {r : R2} (h : rdN K W (mBind ma fun a => mBind mb fun b => g a b) σ H Q)
    (k : ∀ S F H' ρ x v1 v2 a b, S.K = K → Rel S F H' σ ρ x → Rep S.K S.b F v1 a → Rep S.K S.b F v2 b → PostN S W σ F H' ρ (g a b ρ x) Q → r v1 v2 H' Q) : tOp r (rdE K W ma) (rdE K W mb) σ H Q := by
  refine (show rdE K W ma σ H fun x H1 => rdE K W mb σ H1 fun y H2 => r x y H2 Q from ?_)
  refine rd_toN1 h fun S F H1 ρ x v a eK r1 hv p => ?_
  have q2 : rdN K W (mBind mb fun b => g a b) σ H1 Q := ⟨S, F, ρ, x, eK, r1, p⟩
  refine ⟨S, F, ρ, x, eK, r1, ?_⟩
  replace p : PostN S W σ F H1 ρ ((mb ρ x).bind fun b x1 => g a b ρ x1) Q := p
  cases e : mb ρ x with
  | out =>
    rw [e] at p
    exact p.elim
  | exc c fs x1 =>
    rw [e] at p
    exact p
  | val b x1 =>
    rw [e] at p
    exact fun v2 F' H' a1 a2 a3 a4 => k S F' H' ρ x1 v v2 a b eK a1 (hv.mono a2) a4 (p.mono a2 a3)
def gCatN : D → D → Option (List D)
  | .lst i, .lst j => if i.length + j.length ≤ big then some (i ++ j) else none
  | _, _ => none
theorem jn_cat {a b : Expr} {pos : Pos} {ma mb : MM D} (ha : PE X a (rdE X.K W ma)) (hb : PE X b (rdE X.K W mb)) : PE X (.BinOp a .Add b pos) (rdN X.K W (mBind ma fun a => mBind mb fun b => oB (gCatN a b))) :=
  peI (pe_op op_cat ha hb) fun σ H Q q => rd_toN2 (g := fun a b => oB (gCatN a b)) q fun S F H' ρ x v1 v2 a b eK r h1 h2 p => by
    unfold gCatN at p
    cases h1 <;> try exact p.elim
    rename_i a1 vs1 ds1 g1 r1
    cases h2 <;> try exact p.elim
    rename_i a2 vs2 ds2 g2 r2
    dsimp only at p
    split at p
    · rename_i hz
      exact ⟨a1, a2, vs1, vs2, rfl, rfl, r.core.sub _ _ g1, r.core.sub _ _ g2, by rw [r1.length, r2.length]; exact big_le hz, fun q n => p q F _ (r.allocO n) (newL_of r n (r1.append r2)) (Same.refl F) (KeepB.new n) n⟩
    · exact p.elim
/-- a new list as a value -/
theorem j_ofN {e : Expr} {m : MM (List D)} (he : PE X e (rdN X.K W m)) : PE X e (rdE X.K W (mBind m fun ds _ x => .val (.lst ds) x)) :=
  peI he fun σ H Q h => by
    obtain ⟨S, F, ρ, x, eK, r, p⟩ := h
    refine ⟨S, F, ρ, x, eK, r, ?_⟩
    replace p : Post rlD S W σ F H ρ ((m ρ x).bind fun ds x1 => .val (.lst ds) x1) Q := p
    cases e1 : m ρ x with
    | out =>
      rw [e1] at p
      exact p
    | exc c fs x1 =>
      rw [e1] at p
      exact p
    | val ds x1 =>
      rw [e1] at p
      intro q F' H' r' n s k h0
      obtain ⟨vs, hH, hr⟩ := n.hH
      have sF : Same F' (upd F' q (.lst vs)) := Same.new n.nF
      have c : Core S (upd F' q (.lst vs)) H' x1 := ⟨fun p o e => by
          by_cases hp : p = q
          · subst hp
            rw [upd_same] at e
            cases e
            exact hH
          · rw [upd_ne hp] at e
            exact r'.core.sub p o e, r'.core.f0.trans sF, fun p h1 h2 => by
          have hp : p ≠ q := fun z => by
            subst z
            exact h1 n.n0
          rw [upd_ne hp]
          exact r'.core.fresh p h1 h2, r'.core.keep, fun a ea => by
          have hp : a ≠ q := fun z => n.nb (z ▸ ea)
          rw [upd_ne hp]
          exact r'.core.box a ea⟩
      have rr : Rel S (upd F' q (.lst vs)) H' σ ρ x1 := ⟨c, r'.len, fun i s' ei => by
          obtain ⟨v, e2, hs⟩ := r'.slot i s' ei
          refine ⟨v, e2, ?_⟩
          cases s' with
          | un => trivial
          | fz d =>
            obtain ⟨u, e3, h3⟩ := hs
            exact ⟨u, e3, h3.mono sF⟩
          | ol es =>
            obtain ⟨q2, us, e3, b1, b2, b3, b4, b5⟩ := hs
            subst e3
            exact ⟨q2, us, rfl, b1, b2, by rw [upd_ne (by intro z; subst z; exact n.nown i _ ei rfl e2)]; exact b3, b4, b5.mono sF⟩
          | od es =>
            obtain ⟨q2, us, e3, b1, b2, b3, b4, b5⟩ := hs
            subst e3
            exact ⟨q2, us, rfl, b1, b2, by rw [upd_ne (by intro z; subst z; exact n.nown i _ ei rfl e2)]; exact b3, b4, b5.mono sF⟩
          | oo cc ff =>
            obtain ⟨q2, us, e3, b1, b2, b3, b4, b5⟩ := hs
            subst e3
            exact ⟨q2, us, rfl, b1, b2, by rw [upd_ne (by intro z; subst z; exact n.nown i _ ei rfl e2)]; exact b3, b4, ⟨b5.1.mono sF, b5.2⟩⟩, r'.dist⟩
      exact p (.ref q) _ H' rr (s.trans sF) k (.lst upd_same (hr.mono sF))
end
end Mi
namespace Mi
open PySem PySem.Spec L2
/-! ### two readings of one built-in -/
def gSrt (ds : List D) : Option D := (gSorted ds).or (gSortedH ds)
theorem real_srt {W : WX} {K : PySem.W.Frag} : RealA K W (fun xs H Q => rSortedS K xs H Q ∨ rSortedH K xs H Q) fun ds => o1 (gSrt ds) := RealA.or real_sorted real_sortedH
theorem cr_srt {X : Cx} : CallR X (.builtin "sorted") (fun xs H Q => rSortedS X.K xs H Q ∨ rSortedH X.K xs H Q) := cr_sortedS.or cr_sortedH
theorem pu_rev {m : MM D} (h : Pu m) : Pu (mBind m fun d => o1 (gRev d)) := Pu.bind h fun _ => pu_o1
theorem pu_cat {ma mb : MM D} (h1 : Pu ma) (h2 : Pu mb) : Pu (mBind ma fun a => mBind mb fun b => oB (gCatN a b)) := Pu.bind h1 fun _ => Pu.bind h2 fun _ => pu_oB
theorem pu_parV {i j : Nat} {m : MM D} {n : MM (List D)} (h1 : Pu m) (h2 : Pu n) : PuS (mParV i j m n) := pu_e h1 fun d => pu_e h2 fun ds ρ x => by split <;> rfl
end Mi

/-! Mi23: dicts: owned ones made and filled, frozen ones read. -/
namespace Mi
open PySem PySem.Spec L2
/-! ### by values -/
def valA {α : Type} (kvs : List (Key × α)) (k : Key) : Option α := (kvs.find? fun kv => decide (kv.1 = k)).map (·.2)
def putA {α : Type} (kvs : List (Key × α)) (k : Key) (v : α) : List (Key × α) :=
  if (kvs.any fun kv => decide (kv.1 = k)) = true then kvs.map (fun kv =>
    if kv.1 = k then (kv.1, v) else kv) else kvs ++ [(k, v)]
def mergeA {α : Type} (kvs more : List (Key × α)) : List (Key × α) := more.foldl (fun acc kv => putA acc kv.1 kv.2) kvs
theorem valA_cons {α : Type} (a : Key × α) (l : List (Key × α)) (k : Key) : valA (a :: l) k = if a.1 = k then some a.2 else valA l k := by
  unfold valA
  rw [List.find?_cons]
  by_cases h : a.1 = k
  · rw [if_pos h, decide_eq_true h]
    rfl
  · rw [if_neg h, decide_eq_false h]
def keyD : D → Option Key
  | .int i => some (.inl i)
  | .str s => some (.inr s)
  | _ => none
section
variable {K : PySem.W.Frag} {b : Option Addr} {F : Hp}
theorem Rep.key {v : V} {d : D} {k : Key} (h : Rep K b F v d) (e : keyD d = some k) : v = kV k := by
  cases h <;> first | (cases e; done) | (cases e; rfl)
theorem RepK.val : ∀ {kvs : List (Key × V)} {kds : List (Key × D)} (k : Key), RepK K b F kvs kds → (valA kds k = none ∧ valV kvs k = none) ∨ ∃ v d, valA kds k = some d ∧ valV kvs k = some v ∧ Rep K b F v d
  | _, _, k, .nil => .inl ⟨rfl, rfl⟩
  | _, _, k, .cons (k := j) (v := v) (vs := vs) (d := d) (ds := ds) h r => by
    rw [valA_cons]
    by_cases e : j = k
    · rw [if_pos e, valV_pos e]
      exact .inr ⟨v, d, rfl, rfl, h⟩
    · rw [if_neg e, valV_neg e]
      exact RepK.val k r
theorem RepK.any : ∀ {kvs : List (Key × V)} {kds : List (Key × D)} (k : Key), RepK K b F kvs kds → (kvs.any fun kv => decide (kv.1 = k)) = kds.any fun kv => decide (kv.1 = k)
  | _, _, _, .nil => rfl
  | _, _, k, .cons _ r => by rw [List.any_cons, List.any_cons, RepK.any k r]
theorem RepK.map {k : Key} {v : V} {d : D} (h : Rep K b F v d) : ∀ {kvs : List (Key × V)} {kds : List (Key × D)}, RepK K b F kvs kds → RepK K b F (kvs.map fun kv => if kv.1 = k then (kv.1, v) else kv) (kds.map fun kv => if kv.1 = k then (kv.1, d) else kv)
  | _, _, .nil => .nil
  | _, _, .cons (k := j) h1 r => by
    rw [List.map_cons,
      List.map_cons]
    by_cases e : j = k
    · rw [if_pos e, if_pos e]
      exact .cons h (RepK.map h r)
    · rw [if_neg e, if_neg e]
      exact .cons h1 (RepK.map h r)
theorem RepK.snoc {k : Key} {v : V} {d : D} (h : Rep K b F v d) : ∀ {kvs : List (Key × V)} {kds : List (Key × D)}, RepK K b F kvs kds → RepK K b F (kvs ++ [(k, v)]) (kds ++ [(k, d)])
  | _, _, .nil => .cons h .nil
  | _, _, .cons h1 r => .cons h1 (RepK.snoc h r)
theorem RepK.put {kvs : List (Key × V)} {kds : List (Key × D)} (k : Key) {v : V} {d : D} (h : Rep K b F v d) (r : RepK K b F kvs kds) : RepK K b F (putK kvs k v) (putA kds k d) := by
  unfold putK putA
  rw [r.any k]
  split
  · exact r.map h
  · exact r.snoc h
theorem RepK.merge : ∀ {more : List (Key × V)} {mds : List (Key × D)} {kvs : List (Key × V)} {kds : List (Key × D)}, RepK K b F more mds → RepK K b F kvs kds → RepK K b F (mergeK kvs more) (mergeA kds mds)
  | _, _, _, _, .nil, r => r
  | _, _, _, _, .cons (k := k) h m, r => by
    have := RepK.merge m (r.put k h)
    exact this
theorem putK_le {v : V} (k : Key) (kvs : List (Key × V)) : (putK kvs k v).length ≤ kvs.length + 1 := by
  unfold putK
  split
  · rw [List.length_map]
    exact Nat.le_succ _
  · rw [List.length_append]
    exact Nat.le_refl _
end
/-! ### a new owned thing -/
structure NewS (S : Cf) (F H : Hp) (σ : L2.St) (ρ : En) (p : Addr) (s : Slot) : Prop where
  nown : ∀ (i : Nat) (t : Slot), ρ[i]? = some t → t.own = true → σ[i]? ≠ some (some (.ref p))
  own : s.own = true
  ok : SlotOk S F H (some (.ref p)) s
def PostO (S : Cf) (W : WX) (σ : L2.St) (F H : Hp) (ρ : En) (r : R Slot) (Q : VK) : Prop := match r with
  | .val s x' => ∀ p F' H', Rel S F' H' σ ρ x' → NewS S F' H' σ ρ p s → Same F F' → KeepB S.b H H' → H p = none → Q (.ref p) H'
  | .exc c fs x' => ∀ F' H' dd, Rel S F' H' σ ρ x' → Same F F' → KeepB S.b H H' → XdOk S F' dd fs → W (.ref (He.ga S.K c)) dd σ H'
  | .out => False
def rdO (K : PySem.W.Frag) (W : WX) (m : MM Slot) : TE := fun σ H Q => ∃ S F ρ x, S.K = K ∧ Rel S F H σ ρ x ∧ PostO S W σ F H ρ (m ρ x) Q
theorem NewS.addr {S : Cf} {F H : Hp} {σ : L2.St} {ρ : En} {p : Addr} {s : Slot} (n : NewS S F H σ ρ p s) : S.b ≠ some p ∧ S.H0 p = none ∧ F p = none ∧ ∃ o, H p = some o := by
  have h := n.ok
  have o := n.own
  cases s with
  | un => cases o
  | fz d => cases o
  | ol ds =>
    obtain ⟨q, us, e3, b1, b2, b3, b4, b5⟩ := h
    cases e3
    exact ⟨b1, b2, b3, _, b4⟩
  | od ds =>
    obtain ⟨q, us, e3, b1, b2, b3, b4, b5⟩ := h
    cases e3
    exact ⟨b1, b2, b3, _, b4⟩
  | oo c fs =>
    obtain ⟨q, us, e3, b1, b2, b3, b4, b5⟩ := h
    cases e3
    exact ⟨b1, b2, b3, _, b4⟩
theorem Rel.ownS {S : Cf} {F H : Hp} {σ : L2.St} {ρ : En} {x : Bx} {p : Addr} {s0 : Slot} (r : Rel S F H σ ρ x) (n : NewS S F H σ ρ p s0) (i : Nat) : Rel S F H (σ.set i (some (.ref p))) (ρ.set i s0) x where
  core := r.core
  len := by rw [List.length_set, List.length_set, r.len]
  slot := fun j s e => by
    by_cases hj : i = j
    · subst hj
      have hi : i < ρ.length := by
        have := (List.getElem?_eq_some_iff.mp e).1
        rwa [List.length_set] at this
      rw [List.getElem?_set_self hi] at e
      cases e
      exact ⟨_, List.getElem?_set_self (by rw [← r.len]; exact hi), n.ok⟩
    · rw [List.getElem?_set_ne hj] at e ⊢
      exact r.slot j s e
  dist := fun a b s t q hab ea eb os ot ha => by
    by_cases h1 : i = a
    · subst h1
      have hi : i < ρ.length := by
        have := (List.getElem?_eq_some_iff.mp ea).1
        rwa [List.length_set] at this
      rw [List.getElem?_set_self (by rw [← r.len]; exact hi)] at ha
      cases ha
      rw [List.getElem?_set_ne hab] at eb ⊢
      exact n.nown b t eb ot
    · by_cases h2 : i = b
      · subst h2
        have hi : i < ρ.length := by
          have := (List.getElem?_eq_some_iff.mp eb).1
          rwa [List.length_set] at this
        rw [List.getElem?_set_ne h1] at ea ha
        rw [List.getElem?_set_self (by rw [← r.len]; exact hi)]
        intro z
        cases z
        exact n.nown a s ea os ha
      · rw [List.getElem?_set_ne h1] at ea ha
        rw [List.getElem?_set_ne h2] at eb ⊢
        exact r.dist a b s t q hab ea eb os ot ha
/-- an owned thing is changed -/
theorem Rel.updS {S : Cf} {F H : Hp} {σ : L2.St} {ρ : En} {x : Bx} (r : Rel S F H σ ρ x) {i : Nat} {s0 s1 : Slot} {p : Addr} {o : HO} (e : ρ[i]? = some s0) (ow : s0.own = true) (ow1 : s1.own = true) (ep : σ[i]? = some (some (.ref p))) (nb : S.b ≠ some p) (n0 : S.H0 p = none) (nF : F p = none)
    (ok : SlotOk S F (upd H p o) (some (.ref p)) s1) : Rel S F (upd H p o) σ (ρ.set i s1) x := by
  have hi : i < ρ.length := (List.getElem?_eq_some_iff.mp e).1
  refine ⟨r.core.write nF nb n0, by rw [List.length_set, r.len], fun j s ej => ?_, fun a b s t q hab ea eb os ot ha => ?_⟩
  · by_cases hj : i = j
    · subst hj
      rw [List.getElem?_set_self hi] at ej
      cases ej
      exact ⟨_, ep, ok⟩
    · rw [List.getElem?_set_ne hj] at ej
      obtain ⟨v, e2, hs⟩ := r.slot j s ej
      refine ⟨v, e2, ?_⟩
      have far : ∀ q, v = some (.ref q) → s.own = true → q ≠ p := fun q e3 os z => r.dist i j _ _ p hj e ej ow os ep (by rw [e2, e3, z])
      cases s with
      | un => trivial
      | fz d => exact hs
      | ol ds =>
        obtain ⟨q, us, e3, b1, b2, b3, b4, b5⟩ := hs
        exact ⟨q, us, e3, b1, b2, b3, by rw [upd_ne (far q e3 rfl)]; exact b4, b5⟩
      | od ds =>
        obtain ⟨q, us, e3, b1, b2, b3, b4, b5⟩ := hs
        exact ⟨q, us, e3, b1, b2, b3, by rw [upd_ne (far q e3 rfl)]; exact b4, b5⟩
      | oo c fs =>
        obtain ⟨q, us, e3, b1, b2, b3, b4, b5⟩ := hs
        exact ⟨q, us, e3, b1, b2, b3, by rw [upd_ne (far q e3 rfl)]; exact b4, b5⟩
  · have key : ∀ (c : Nat) (u : Slot), (ρ.set i s1)[c]? = some u → u.own = true → ∃ u', ρ[c]? = some u' ∧ u'.own = true := fun c u ec oc => by
      by_cases hc : i = c
      · subst hc
        exact ⟨_, e, ow⟩
      · rw [List.getElem?_set_ne hc] at ec
        exact ⟨u, ec, oc⟩
    obtain ⟨s', es, os'⟩ := key a s ea os
    obtain ⟨t', et, ot'⟩ := key b t eb ot
    exact r.dist a b s' t' q hab es et os' ot' ha
/-- .. and frozen for good, as the object o now there -/
theorem Rel.freeze {S : Cf} {F H : Hp} {σ : L2.St} {ρ : En} {x : Bx} {p : Addr} {o o' : HO} (r : Rel S F H σ ρ x) (nb : S.b ≠ some p) (n0 : S.H0 p = none) (nF : F p = none) (hH : H p = some o) (nown : ∀ (i : Nat) (t : Slot), ρ[i]? = some t → t.own = true → σ[i]? ≠ some (some (.ref p))) :
    Rel S (upd F p o') (upd H p o') σ ρ x := by
  have sF : Same F (upd F p o') := Same.new nF
  refine ⟨⟨fun q u e => ?_, r.core.f0.trans sF, fun q h1 h2 => ?_, fun q u h1 h2 => ?_, fun a ea => ?_⟩, r.len, fun i s' ei => ?_, r.dist⟩
  · by_cases hq : q = p
    · subst hq
      rw [upd_same] at e ⊢
      exact e
    · rw [upd_ne hq] at e ⊢
      exact r.core.sub q u e
  · have hq : q ≠ p := fun z => by
      subst z
      exact h1 n0
    rw [upd_ne hq]
    exact r.core.fresh q h1 h2
  · have hq : q ≠ p := fun z => by
      subst z
      rw [n0] at h1
      cases h1
    rw [upd_ne hq]
    exact r.core.keep q u h1 h2
  · have hq : a ≠ p := fun z => nb (z ▸ ea)
    rw [upd_ne hq, upd_ne hq]
    exact r.core.box a ea
  · obtain ⟨v, e2, hs⟩ := r.slot i s' ei
    refine ⟨v, e2, ?_⟩
    have far : ∀ q, v = some (.ref q) → s'.own = true → q ≠ p := fun q e3 os z => nown i _ ei os (by rw [e2, e3, z])
    cases s' with
    | un => trivial
    | fz d =>
      obtain ⟨u, e3, h3⟩ := hs
      exact ⟨u, e3, h3.mono sF⟩
    | ol es =>
      obtain ⟨q2, us, e3, b1, b2, b3, b4, b5⟩ := hs
      have hq := far q2 e3 rfl
      exact ⟨q2, us, e3, b1, b2, by rw [upd_ne hq]; exact b3, by rw [upd_ne hq]; exact b4, b5.mono sF⟩
    | od es =>
      obtain ⟨q2, us, e3, b1, b2, b3, b4, b5⟩ := hs
      have hq := far q2 e3 rfl
      exact ⟨q2, us, e3, b1, b2, by rw [upd_ne hq]; exact b3, by rw [upd_ne hq]; exact b4, b5.mono sF⟩
    | oo c fs =>
      obtain ⟨q2, us, e3, b1, b2, b3, b4, b5⟩ := hs
      have hq := far q2 e3 rfl
      exact ⟨q2, us, e3, b1, b2, by rw [upd_ne hq]; exact b3, by rw [upd_ne hq]; exact b4, ⟨b5.1.mono sF, b5.2⟩⟩
/-- something nobody's is changed -/
theorem Rel.writeN {S : Cf} {F H : Hp} {σ : L2.St} {ρ : En} {x : Bx} {p : Addr} {o : HO} (r : Rel S F H σ ρ x) (nb : S.b ≠ some p) (n0 : S.H0 p = none) (nF : F p = none) (nown : ∀ (i : Nat) (t : Slot), ρ[i]? = some t → t.own = true → σ[i]? ≠ some (some (.ref p))) : Rel S F (upd H p o) σ ρ x where
  core := r.core.write nF nb n0
  len := r.len
  slot := fun i s' ei => by
    obtain ⟨v, e2, hs⟩ := r.slot i s' ei
    refine ⟨v, e2, ?_⟩
    have far : ∀ q, v = some (.ref q) → s'.own = true → q ≠ p := fun q e3 os z => nown i _ ei os (by rw [e2, e3, z])
    cases s' with
    | un => trivial
    | fz d => exact hs
    | ol es =>
      obtain ⟨q2, us, e3, b1, b2, b3, b4, b5⟩ := hs
      exact ⟨q2, us, e3, b1, b2, b3, by rw [upd_ne (far q2 e3 rfl)]; exact b4, b5⟩
    | od es =>
      obtain ⟨q2, us, e3, b1, b2, b3, b4, b5⟩ := hs
      exact ⟨q2, us, e3, b1, b2, b3, by rw [upd_ne (far q2 e3 rfl)]; exact b4, b5⟩
    | oo c fs =>
      obtain ⟨q2, us, e3, b1, b2, b3, b4, b5⟩ := hs
      exact ⟨q2, us, e3, b1, b2, b3, by rw [upd_ne (far q2 e3 rfl)]; exact b4, b5⟩
  dist := r.dist
theorem rd_EO {W : WX} {K : PySem.W.Frag} {m : MM Slot} {k : Slot → MS} {D : Ends} {σ : L2.St} {H : Hp} {Q : VK} (h : rdS K W (mE m k) D σ H)
    (q : ∀ S F H' ρ x p s, S.K = K → Rel S F H' σ ρ x → NewS S F H' σ ρ p s → PostS S W (k s ρ x) D → Q (.ref p) H') : rdO K W m σ H Q := by
  obtain ⟨S, F, ρ, x, eK, r, p⟩ := h
  refine ⟨S, F, ρ, x, eK, r, ?_⟩
  unfold mE at p
  cases e : m ρ x with
  | val d x1 =>
    rw [e] at p
    exact fun v F' H' r' hv _ _ _ => q S F' H' ρ x1 v d eK r' hv p
  | exc c fs x1 =>
    rw [e] at p
    exact fun F' H' dd r' _ _ hd => p σ F' H' dd r' hd
  | out =>
    rw [e] at p
    exact p
section
variable {X : Cx} {W : WX}
theorem js_ownS {i : Nat} {y : Str} {e : Expr} {pos pos' : Pos} {m : MM Slot} (hN : X.N.Nodup) (he : PE X e (rdO X.K W m)) (hi : X.N[i]? = some y := by rfl) (hx : Loc X.env.scope y := by first | exact Or.inl rfl | exact Or.inr rfl) (hs : swapsWith e (some (.Name y pos')) pos.line X.env = pure false := by rfl) (hf : X.fn y = true ∨ X.env.scope.names.lookup y = some .local := by first | exact .inl rfl | exact .inr rfl | assumption) :
    PS X (.Assign [.Name y pos'] e pos) (rdS X.K W (mE m fun s ρ x => .nx (ρ.set i s) x)) :=
  psI (ps_set hN hi hx he hs hf) fun D σ H h => rd_EO h fun S F H' ρ x p s eK r n q => q _ _ _ (r.ownS n i)
/-! ### {k: v, ..} -/
def mPairs : List (MM D × MM D) → MM (List (Key × D))
  | [] => fun _ x => .val [] x
  | (mk, mv) :: r => mBind mk fun k => mBind mv fun v => match keyD k with
    | some key => mBind (mPairs r) fun kvs => fun _ x => .val ((key, v) :: kvs) x
    | none => fun _ _ => .out
def mDict (ms : List (MM D × MM D)) : MM Slot := fun ρ x => match mPairs ms (shut ρ) x with
  | .val kvs x' => .val (.od (mergeA [] kvs)) x'
  | _ => .out
def trsOf (K : PySem.W.Frag) (W : WX) : List (MM D × MM D) → List (TE × TE)
  | [] => []
  | (a, b) :: r => (rdE K W a, rdE K W b) :: trsOf K W r
inductive PPm (X : Cx) (W : WX) : List (Option Expr) → List Expr → List (MM D × MM D) → Prop where
  | nil : PPm X W [] [] []
  | cons {k v : Expr} {ks : List (Option Expr)} {vs : List Expr} {mk mv : MM D} {ms : List (MM D × MM D)} : PE X k (rdE X.K W mk) → PE X v (rdE X.K W mv) → PPm X W ks vs ms → PPm X W (some k :: ks) (v :: vs) ((mk, mv) :: ms)
theorem PPm.pps {pos : Pos} : ∀ {ks : List (Option Expr)} {vs : List Expr} {ms : List (MM D × MM D)}, PPm X W ks vs ms → PPs X pos ks vs (trsOf X.K W ms)
  | _, _, _, .nil => pps_nil
  | _, _, _, .cons h1 h2 r => pps_cons h1 h2 r.pps
theorem pairs_go {K : PySem.W.Frag} {S : Cf} {σ : L2.St} {ρ : En} (eK : S.K = K) : ∀ (ms : List (MM D × MM D)) (F H : Hp) (x : Bx) (Q : List (V × V) → Hp → Prop), Rel S F H σ ρ x →
    (match mPairs ms ρ x with
      | .val kvs x' => ∀ F' H' (vs : List (Key × V)), Rel S F' H' σ ρ x' → Same F F' → KeepB S.b H H' → RepK S.K S.b F' vs kvs → vs.length ≤ ms.length → Q (vs.map fun kv => (kV kv.1, kv.2)) H'
      | .exc c fs x' => ∀ F' H' dd, Rel S F' H' σ ρ x' → Same F F' → KeepB S.b H H' → XdOk S F' dd fs → W (.ref (He.ga S.K c)) dd σ H'
      | .out => False) → tPairs (trsOf K W ms) σ H Q
  | [], F, H, x, Q, r, p => p F H [] r (Same.refl F) KeepB.refl .nil (Nat.le_refl _)
  | (mk, mv) :: ms, F, H, x, Q, r, p => by
    show rdE K W mk σ H fun y H1 => rdE K W mv σ H1 fun z H2 => tPairs (trsOf K W ms) σ H2 fun ps H3 => Q ((y, z) :: ps) H3
    refine ⟨S, F, ρ, x, eK, r, ?_⟩
    have e0 : mPairs ((mk, mv) :: ms) ρ x = ((mk ρ x).bind fun k x1 => ((mv ρ x1).bind fun v x2 => (match keyD k with
      | some key => mBind (mPairs ms) fun kvs => fun _ x => .val ((key, v) :: kvs) x
      | none => fun _ _ => .out) ρ x2)) := rfl
    rw [e0] at p
    cases e1 : mk ρ x with
    | out =>
      rw [e1] at p
      exact p
    | exc c fs x1 =>
      rw [e1] at p
      exact p
    | val k x1 =>
      rw [e1] at p
      intro v1 F1 H1 r1 s1 k1 h1
      have h1 : Rep S.K S.b F1 v1 k := h1
      refine ⟨S, F1, ρ, x1, eK, r1, ?_⟩
      replace p : match ((mv ρ x1).bind fun v x2 => (match keyD k with
        | some key => mBind (mPairs ms) fun kvs => fun _ x => .val ((key, v) :: kvs) x
        | none => fun _ _ => .out) ρ x2) with
        | .val kvs x' => ∀ F' H' (vs : List (Key × V)), Rel S F' H' σ ρ x' → Same F F' → KeepB S.b H H' → RepK S.K S.b F' vs kvs → vs.length ≤ ms.length + 1 → Q (vs.map fun kv => (kV kv.1, kv.2)) H'
        | .exc c fs x' => ∀ F' H' dd, Rel S F' H' σ ρ x' → Same F F' → KeepB S.b H H' → XdOk S F' dd fs → W (.ref (He.ga S.K c)) dd σ H'
        | .out => False := p
      cases e2 : mv ρ x1 with
      | out =>
        rw [e2] at p
        exact p
      | exc c fs x2 =>
        rw [e2] at p
        exact fun F' H' dd a1 a2 a3 a4 => p F' H' dd a1 (s1.trans a2) (k1.trans a3) a4
      | val v x2 =>
        rw [e2] at p
        intro v2 F2 H2 r2 s2 k2 h2
        have h2 : Rep S.K S.b F2 v2 v := h2
        cases e3 : keyD k with
        | none =>
          simp only [R.bind, e3] at p
        | some key =>
          have ev := h1.key e3
          subst ev
          refine pairs_go eK ms F2 H2 x2 _ r2 ?_
          simp only [R.bind, e3, mBind] at p
          cases e4 : mPairs ms ρ x2 with
          | out =>
            rw [e4] at p
            exact p
          | exc c fs x3 =>
            rw [e4] at p
            exact fun F' H' dd a1 a2 a3 a4 => p F' H' dd a1 ((s1.trans s2).trans a2) ((k1.trans k2).trans a3) a4
          | val kvs x3 =>
            rw [e4] at p
            exact fun F' H' vs a1 a2 a3 a4 a5 => p F' H' ((key, v2) :: vs) a1 ((s1.trans s2).trans a2) ((k1.trans k2).trans a3) (.cons (h2.mono a2) a4) (by rw [List.length_cons]; omega)
theorem jo_dict {keys : List (Option Expr)} {values : List Expr} {pos : Pos} {ms : List (MM D × MM D)} (h : PPm X W keys values ms) (hall : keys.all (·.isSome) = true := by rfl) (hl : keys.length = values.length := by rfl) (h0 : keys ≠ [] := by exact fun z => nomatch z) (h15 : keys.length ≤ 15 := by decide) (hm : ms.length ≤ 15 := by decide) :
    PE X (.Dict keys values pos) (rdO X.K W (mDict ms)) :=
  peI (pe_disp h.pps hall hl h0 h15) fun σ H Q q => by
    obtain ⟨S, F, ρ, x, eK, r, p⟩ := q
    intro q0 n0
    have nf := r.core.nF n0
    have nb := r.core.ne_box n0
    have r1 := r.allocO (o := .dK []) n0
    unfold mDict at p
    refine pairs_go (S := ⟨S.K, S.b, upd H q0 (.dK []), F, S.me⟩) eK ms F _ x _ r1.shut ?_
    cases e : mPairs ms (shut ρ) x with
    | out =>
      rw [e] at p
      exact p.elim
    | exc c fs x1 =>
      rw [e] at p
      exact p.elim
    | val kvs x1 =>
      rw [e] at p
      intro F' H' vs a1 a2 a3 a4 a5
      have h2 : H' q0 = some (.dK []) := a3 q0 _ upd_same nb
      have nF' : F' q0 = none := a1.core.fresh q0 (by rw [show (⟨S.K, S.b, upd H q0 (.dK []), F, S.me⟩ : Cf).H0 q0 = upd H q0 (.dK []) q0 from rfl, upd_same]; intro z; cases z) nf
      obtain ⟨b1, b2, b3⟩ := r1.back a1.core
      refine ⟨h2, vs, rfl, Nat.le_trans a5 hm, ?_⟩
      have nown : ∀ (i : Nat) (t : Slot), ρ[i]? = some t → t.own = true → σ[i]? ≠ some (some (.ref q0)) := fun i t ei o z => r.own_there ei o z n0
      refine p q0 F' _ (b1.writeN nb (r.core.n0 n0) nF' nown) ⟨nown, rfl, q0, _, rfl, nb, r.core.n0 n0, nF', upd_same, RepK.merge a4 .nil⟩ b2 (fun y o h n => ?_) n0
      have hy : y ≠ q0 := ne_of_none h n0
      rw [upd_ne hy]
      exact b3 y o (by rw [upd_ne hy]; exact h) n
end
end Mi
namespace Mi
open PySem PySem.Spec L2
section
variable {X : Cx} {W : WX}
theorem Rel.getD {S : Cf} {F H : Hp} {σ : L2.St} {ρ : En} {x : Bx} (r : Rel S F H σ ρ x) {i : Nat} {ds : List (Key × D)} (e : ρ[i]? = some (.od ds)) : ∃ p vs, σ[i]? = some (some (.ref p)) ∧ S.b ≠ some p ∧ S.H0 p = none ∧ F p = none ∧ H p = some (.dK vs) ∧ RepK S.K S.b F vs ds := by
  obtain ⟨v, e1, p, vs, e2, h⟩ := r.slot i _ e
  subst e2
  exact ⟨p, vs, e1, h⟩
/-! ### d[k] = e, d owned -/
def mSetD (i : Nat) (mk m : MM D) : MS := mE m fun d ρ x => match ρ[i]? with
  | some (.od _) => mE mk (fun k ρ x => match ρ[i]? with
    | some (.od kds) => (match keyD k with
      | some key => if kds.length < big then .nx (ρ.set i (.od (putA kds key d))) x else .out
      | none => .out)
    | _ => .out) ρ x
  | _ => .out
theorem RepK.length' {K : PySem.W.Frag} {b : Option Addr} {F : Hp} {vs : List (Key × V)} {ds : List (Key × D)} (h : RepK K b F vs ds) : vs.length = ds.length := h.length
theorem js_setD (i : Nat) {y : Str} {e j : Expr} {p1 p2 pos : Pos} {m mk : MM D} (hu : X.A.units + 1 < cLine) (he : PE X e (rdE X.K W m)) (hj : PE X j (rdE X.K W mk)) (hN : X.N[i]? = some y := by rfl) (hv : Vis X.env.scope y := by first | exact Or.inl rfl | exact Or.inr (Or.inl rfl) | exact Or.inr (Or.inr rfl)) (hd : (y == ("__debug__" : Str)) = false := by decide) (hcd : (y == ("__classdict__" : Str)) = false := by decide)
    (hs : swapsWith e (some (.Subscript (.Name y p1) j p2)) pos.line X.env = pure false := by rfl) :
    PS X (.Assign [.Subscript (.Name y p1) j p2] e pos) (rdS X.K W (mSetD i mk m)) :=
  psI (ps_dput hu (pe_var (i := i) hN hv hd hcd) hj he hs) fun D σ H h => rd_E (rl := rlD) h fun S F H1 ρ x v d eK r hv p => by
    have hv : Rep S.K S.b F v d := hv
    split at p
    · rename_i k0 e0
      obtain ⟨q0, vs0, eσ, _⟩ := r.getD e0
      refine ⟨.ref q0, eσ, ?_⟩
      refine (show rdE X.K W mk σ H1 _ from ?_)
      refine ⟨S, F, ρ, x, eK, r, ?_⟩
      unfold mE at p
      cases e1 : mk ρ x with
      | out =>
        rw [e1] at p
        exact p
      | exc c fs x1 =>
        rw [e1] at p
        exact fun F' H' dd a1 _ _ a4 => p σ F' H' dd a1 a4
      | val k x1 =>
        rw [e1] at p
        intro vk F' H' r' s' k' hk
        have hk : Rep S.K S.b F' vk k := hk
        dsimp only at p
        split at p
        · rename_i kds e2
          obtain ⟨q, vs, eσ2, nb, n0, nF, hH, hr⟩ := r'.getD e2
          rw [eσ] at eσ2
          cases eσ2
          split at p
          · rename_i key ek
            have ev := hk.key ek
            subst ev
            split at p
            · rename_i hz
              exact ⟨q0, _, rfl, .inl ⟨vs, key, hH, rfl, by rw [hr.length]; exact big_lt hz, rfl⟩, p _ _ _ (r'.updS (s1 := .od (putA kds key d)) e2 rfl rfl eσ nb n0 nF ⟨q0, _, rfl, nb, n0, nF, upd_same, hr.put key (hv.mono s')⟩)⟩
            · exact p.elim
          · exact p.elim
        · exact p.elim
    · exact p.elim
/-! ### d[k], d owned -/
def mGetO (i : Nat) (mk : MM D) : MM D := fun ρ x => match ρ[i]? with
  | some (.od _) => mBind mk (fun k => fun ρ x => match ρ[i]? with
    | some (.od kds) => (match keyD k with
      | some key => (match valA kds key with
        | some d => .val d x
        | none => .out)
      | none => .out)
    | _ => .out) ρ x
  | _ => .out
theorem j_getO (i : Nat) {y : Str} {j : Expr} {p1 pos : Pos} {mk : MM D} (hu : X.A.units + 1 < cLine) (hj : PE X j (rdE X.K W mk)) (hN : X.N[i]? = some y := by rfl) (hv : Vis X.env.scope y := by first | exact Or.inl rfl | exact Or.inr (Or.inl rfl) | exact Or.inr (Or.inr rfl)) (hd : (y == ("__debug__" : Str)) = false := by decide) (hcd : (y == ("__classdict__" : Str)) = false := by decide)
    (hs : NoSl j := by exact fun _ _ => rfl) : PE X (.Subscript (.Name y p1) j pos) (rdE X.K W (mGetO i mk)) :=
  peI (pe_dget hu (pe_var (i := i) hN hv hd hcd) hj hs) fun σ H Q h => by
    obtain ⟨S, F, ρ, x, eK, r, p⟩ := h
    unfold mGetO at p
    split at p
    · rename_i k0 e0
      obtain ⟨q0, vs0, eσ, _⟩ := r.getD e0
      refine ⟨.ref q0, eσ, ?_⟩
      refine (show rdE X.K W mk σ H _ from ?_)
      refine ⟨S, F, ρ, x, eK, r, ?_⟩
      replace p : Post rlD S W σ F H ρ ((mk ρ x).bind fun k x1 => (match ρ[i]? with
        | some (.od kds) => (match keyD k with
          | some key => (match valA kds key with
            | some d => .val d x1
            | none => .out)
          | none => .out)
        | _ => .out)) Q := p
      cases e1 : mk ρ x with
      | out =>
        rw [e1] at p
        exact p
      | exc c fs x1 =>
        rw [e1] at p
        exact p
      | val k x1 =>
        rw [e1] at p
        intro vk F' H' r' s' k' hk
        have hk : Rep S.K S.b F' vk k := hk
        simp only [R.bind] at p
        split at p
        · rename_i kds e2
          obtain ⟨q, vs, eσ2, nb, n0, nF, hH, hr⟩ := r'.getD e2
          rw [eσ] at eσ2
          cases eσ2
          split at p
          · rename_i key ek
            have ev := hk.key ek
            subst ev
            split at p
            · rename_i d ed
              rcases hr.val key with ⟨z, _⟩ | ⟨v, d', z1, z2, z3⟩
              · rw [z] at ed
                cases ed
              · rw [z1] at ed
                cases ed
                exact ⟨q0, v, rfl, .inl ⟨vs, key, .inl hH, rfl, z2.symm⟩, p v F' H' r' s' k' z3⟩
            · exact p.elim
          · exact p.elim
        · exact p.elim
    · exact p.elim
/-! ### frozen and borrowed dicts read -/
def isDct : D → Option (List (Key × D))
  | .dct kds => some kds
  | .dcb kds => some kds
  | _ => none
theorem Rep.dict {K : PySem.W.Frag} {b : Option Addr} {F H : Hp} {v : V} {d : D} {kds : List (Key × D)} (s : Same F H) (h : Rep K b F v d) (e : isDct d = some kds) : ∃ a kvs, v = .ref a ∧ Rd H a (.dK kvs) ∧ RepK K b F kvs kds := by
  cases h <;> try (cases e; done)
  · rename_i a o kvs ds h r
    cases e
    exact ⟨a, kvs, rfl, .inr ⟨o, s _ _ h⟩, r⟩
  · rename_i a kvs ds h r
    cases e
    exact ⟨a, kvs, rfl, .inl (s _ _ h), r⟩
def gDGet (a b : D) : Option D := match isDct a, keyD b with
  | some kds, some k => valA kds k
  | _, _ => none
/-- a[b]: a list, a tuple, a text, a dict -/
def gSubA (a b : D) : Option D := match isDct a with
  | some _ => gDGet a b
  | none => gIx a b
theorem rd_first {m : MM D} {k : D → MM D} {σ : L2.St} {H : Hp} {Q : VK} {A B : Prop} (P : D → Bool) (h : rdE X.K W (mBind m k) σ H Q) (h1 : rdE X.K W (mBind m fun a => if P a then k a else fun _ _ => .out) σ H Q → A) (h2 : rdE X.K W (mBind m fun a => if P a then (fun _ _ => .out) else k a) σ H Q → B) : A ∨ B := by
  obtain ⟨S, F, ρ, x, eK, r, p⟩ := h
  replace p : Post rlD S W σ F H ρ ((m ρ x).bind fun a x1 => k a ρ x1) Q := p
  cases e : m ρ x with
  | out =>
    rw [e] at p
    exact p.elim
  | exc c fs x1 =>
    rw [e] at p
    refine .inl (h1 ⟨S, F, ρ, x, eK, r, ?_⟩)
    show Post rlD S W σ F H ρ ((m ρ x).bind fun a x1 => _) Q
    rw [e]
    exact p
  | val a x1 =>
    rw [e] at p
    cases hP : P a with
    | true =>
      refine .inl (h1 ⟨S, F, ρ, x, eK, r, ?_⟩)
      show Post rlD S W σ F H ρ ((m ρ x).bind fun a x1 => (if P a then k a else fun _ _ => .out) ρ x1) Q
      rw [e]
      show Post rlD S W σ F H ρ ((if P a then k a else fun _ _ => .out) ρ x1) Q
      rw [if_pos hP]
      exact p
    | false =>
      refine .inr (h2 ⟨S, F, ρ, x, eK, r, ?_⟩)
      show Post rlD S W σ F H ρ ((m ρ x).bind fun a x1 => (if P a then (fun _ _ => .out) else k a) ρ x1) Q
      rw [e]
      show Post rlD S W σ F H ρ ((if P a then (fun _ _ => .out) else k a) ρ x1) Q
      rw [hP, if_neg Bool.false_ne_true]
      exact p
theorem peOr {e : Expr} {t t' : TE} (h : PE X e t) (h' : PE X e t') : PE X e (fun σ H Q => t σ H Q ∨ t' σ H Q) := ⟨fun pins s σ H Q I q => by
  rcases q with q | q
  · exact h.run pins s σ H Q I q
  · exact h'.run pins s σ H Q I q⟩
theorem mOp_congr {g g' : D → D → MM D} {ma mb : MM D} {σ : L2.St} {H : Hp} {Q : VK} (e : ∀ a b ρ x, g a b ρ x = .out ∨ g a b ρ x = g' a b ρ x) (h : rdE X.K W (mOp g ma mb) σ H Q) : rdE X.K W (mOp g' ma mb) σ H Q := by
  obtain ⟨S, F, ρ, x, eK, r, p⟩ := h
  refine ⟨S, F, ρ, x, eK, r, ?_⟩
  replace p : Post rlD S W σ F H ρ ((ma ρ x).bind fun a x1 => (mb ρ x1).bind fun b x2 => g a b ρ x2) Q := p
  show Post rlD S W σ F H ρ ((ma ρ x).bind fun a x1 => (mb ρ x1).bind fun b x2 => g' a b ρ x2) Q
  cases e1 : ma ρ x with
  | out =>
    rw [e1] at p
    exact p
  | exc c fs x1 =>
    rw [e1] at p
    exact p
  | val a x1 =>
    rw [e1] at p
    simp only [R.bind] at p ⊢
    cases e2 : mb ρ x1 with
    | out =>
      rw [e2] at p
      exact p
    | exc c fs x2 =>
      rw [e2] at p
      exact p
    | val b x2 =>
      rw [e2] at p
      simp only at p ⊢
      rcases e a b ρ x2 with z | z
      · rw [z] at p
        exact p.elim
      · rw [z] at p
        exact p
theorem op_yes {P : D → Bool} {g : D → D → MM D} {ma mb : MM D} {σ : L2.St} {H : Hp} {Q : VK} (h : rdE X.K W (mBind ma fun a => if P a then mBind mb (g a) else fun _ _ => .out) σ H Q) : rdE X.K W (mOp (fun a b => if P a then g a b else fun _ _ => .out) ma mb) σ H Q := by
  obtain ⟨S, F, ρ, x, eK, r, p⟩ := h
  refine ⟨S, F, ρ, x, eK, r, ?_⟩
  replace p : Post rlD S W σ F H ρ ((ma ρ x).bind fun a x1 => (if P a then mBind mb (g a) else fun _ _ => .out) ρ x1) Q := p
  show Post rlD S W σ F H ρ ((ma ρ x).bind fun a x1 => (mb ρ x1).bind fun b x2 => (if P a then g a b else fun _ _ => .out) ρ x2) Q
  cases e1 : ma ρ x with
  | out =>
    rw [e1] at p
    exact p
  | exc c fs x1 =>
    rw [e1] at p
    exact p
  | val a x1 =>
    rw [e1] at p
    simp only [R.bind] at p ⊢
    cases hP : P a with
    | true =>
      rw [hP] at p
      exact p
    | false =>
      rw [hP] at p
      exact p.elim
theorem op_no {P : D → Bool} {g : D → D → MM D} {ma mb : MM D} {σ : L2.St} {H : Hp} {Q : VK} (h : rdE X.K W (mBind ma fun a => if P a then (fun _ _ => .out) else mBind mb (g a)) σ H Q) : rdE X.K W (mOp (fun a b => if P a then (fun _ _ => .out) else g a b) ma mb) σ H Q := by
  obtain ⟨S, F, ρ, x, eK, r, p⟩ := h
  refine ⟨S, F, ρ, x, eK, r, ?_⟩
  replace p : Post rlD S W σ F H ρ ((ma ρ x).bind fun a x1 => (if P a then (fun _ _ => .out) else mBind mb (g a)) ρ x1) Q := p
  show Post rlD S W σ F H ρ ((ma ρ x).bind fun a x1 => (mb ρ x1).bind fun b x2 => (if P a then (fun _ _ => .out) else g a b) ρ x2) Q
  cases e1 : ma ρ x with
  | out =>
    rw [e1] at p
    exact p
  | exc c fs x1 =>
    rw [e1] at p
    exact p
  | val a x1 =>
    rw [e1] at p
    simp only [R.bind] at p ⊢
    cases hP : P a with
    | true =>
      rw [hP] at p
      exact p.elim
    | false =>
      rw [hP] at p
      exact p
def rDGet : R2 := fun x y H Q => ∃ a v, x = V.ref a ∧ DGet H a y (some v) ∧ Q v H
theorem real_dget {K : PySem.W.Frag} : Real2 K W rDGet fun a b => o1 (gDGet a b) := by
  intro S F H σ ρ x v1 v2 a b Q eK r ha hb p
  unfold gDGet at p
  dsimp only at p
  split at p
  · rename_i kds k e1 e2
    obtain ⟨q, kvs, rfl, hd, hr⟩ := ha.dict r.core.sub e1
    have ev := hb.key e2
    subst ev
    rcases hr.val k with ⟨z, _⟩ | ⟨v, d, z1, z2, z3⟩
    · rw [z] at p
      exact p.elim
    · rw [z1] at p
      exact ⟨q, v, rfl, .inl ⟨kvs, k, hd, rfl, z2.symm⟩, post_val (rl := rlD) r p z3⟩
  · exact p.elim
theorem j_subA {ma mb : MM D} {a b : Expr} {pos : Pos} (hu : X.A.units + 1 < cLine) (ha : PE X a (rdE X.K W ma)) (hb : PE X b (rdE X.K W mb)) (hs : PlainIx b := by exact fun _ _ => rfl) (hs' : NoSl b := by exact fun _ _ => rfl) : PE X (.Subscript a b pos) (rdE X.K W (mOp (fun a b => o1 (gSubA a b)) ma mb)) :=
  peI (peOr (pe_dget hu ha hb hs') (j_subP ha hb hs)) fun σ H Q h => rd_first (fun a => (isDct a).isSome) h (fun q => rd_op (r := rDGet) real_dget (mOp_congr (fun a b ρ x => by
    cases e : isDct a with
    | none => exact .inl rfl
    | some k => exact .inr (by simp only [gSubA, e]; rfl)) (op_yes (P := fun a => (isDct a).isSome) (g := fun a b => o1 (gSubA a b)) q))) fun q => mOp_congr (fun a b ρ x => by
    cases e : isDct a with
    | none => exact .inr (by simp only [gSubA, e]; rfl)
    | some k => exact .inl rfl) (op_no (P := fun a => (isDct a).isSome) (g := fun a b => o1 (gSubA a b)) q)
end
end Mi

/-! Mi24: sorted(d.items()); dicts asked, locked, walked. -/
namespace Mi
open PySem
open PySem.Spec PyProof.Rows L2
/-! ### the state grows by all that is new -/
def extF (F H H' : Hp) : Hp := fun b => match H b with
  | none => H' b
  | some _ => F b
theorem extF_old {F H H' : Hp} {b : Addr} {o : HO} (h : H b = some o) : extF F H H' b = F b := by
  unfold extF
  rw [h]
theorem extF_new {F H H' : Hp} {b : Addr} (h : H b = none) : extF F H H' b = H' b := by
  unfold extF
  rw [h]
theorem Rel.ext {S : Cf} {F H H' : Hp} {σ : L2.St} {ρ : En} {x : Bx} (r : Rel S F H σ ρ x) (g : ∀ b o, H b = some o → H' b = some o) : Rel S (extF F H H') H' σ ρ x ∧ Same F (extF F H H') := by
  have sF : Same F (extF F H H') := fun b o e => by
    rw [extF_old (r.core.sub b o e)]
    exact e
  have held : ∀ p, H p ≠ none → F p = none → extF F H H' p = none := fun p h1 h2 => by
    cases e : H p with
    | none => exact (h1 e).elim
    | some o =>
      rw [extF_old e]
      exact h2
  refine ⟨r.go ⟨fun b o e => ?_, r.core.f0.trans sF, fun p h1 h2 => ?_, fun p o h1 h2 => g p o (r.core.keep p o h1 h2), fun a ea => ?_⟩ sF (fun p o h _ => g p o h) fun p h1 h2 _ => held p h1 h2, sF⟩
  · cases e2 : H b with
    | none =>
      rw [extF_new e2] at e
      exact e
    | some o2 =>
      rw [extF_old e2] at e
      exact g b o (r.core.sub b o e)
  · refine held p ?_ (r.core.fresh p h1 h2)
    cases e : S.H0 p with
    | none => exact (h1 e).elim
    | some o =>
      by_cases hb : S.b = some p
      · rw [(r.core.box p hb).2]
        intro z
        cases z
      · rw [r.core.keep p o e hb]
        intro z
        cases z
  · obtain ⟨b1, b2⟩ := r.core.box a ea
    exact ⟨held a (by rw [b2]; intro z; cases z) b1, g a _ b2⟩
/-! ### d.items() -/
section
variable {X : Cx}
def rItemsK : V → List V → Hp → VK → Prop := fun x xs H Q => ∃ (a : Addr) (kvs : List (Key × V)), x = .ref a ∧ xs = [] ∧ Rd H a (.dK kvs) ∧ ∀ p, H p = none → Q (.ref p) (upd H p (DX.itemsO p a))
theorem raw_of {pins : List (Addr × Obj)} {σ : L2.St} {H : Hp} {s : Shared} (I : Inv X pins σ H s) {a : Addr} {kvs : List (Key × V)} (h : Rd H a (.dK kvs)) : ∃ es ep vs, DT.Raw s.heap a es ep ∧ (a == sysModules) = false ∧ KV kvs vs ∧ Pairs (mixKind X.prog X.w) es.toList vs ∧ (vs.map (·.1)).Nodup ∧ kvs.length ≤ sizeLine := by
  obtain ⟨hz, hd, vs, rel, o, es, ep, ho, hx, hdat, _, hp, nd⟩ := dk_rd I.hok h
  exact ⟨es, ep, vs, ⟨o, ho, hx, hdat⟩, hd, rel, hp, nd, hz⟩
theorem mt_itemsK : MtR X "dict.items" rItemsK := by
  intro pins s σ H x
    xs v us Q I rx rxs h
  obtain ⟨a, kvs, rfl, rfl, ha, q⟩ :=
    h
  cases rx
  cases rxs
  obtain ⟨es, ep, vs, raw, hd, _⟩ := raw_of I ha
  refine DT.callItems hd raw ?_
  exact ⟨.ref s.heap.objs.size, _, I.laid (t' := s.toks) (fun b u e => Heap.get?_push_of_some _ e) (Nat.le_refl _) (DX.itemsO_ok (Heap.get?_push_size _ rfl)), rfl, q _ (I.hok.fresh (Nat.le_refl _))⟩
/-- entry by entry -/
theorem pairs_at {kvs : List (Key × V)} {vs : List (Key × Value)} (rel : KV kvs vs) : ∀ {es : List DictEntry}, Pairs (mixKind X.prog X.w) es vs → es.length = kvs.length ∧ ∀ (j : Nat) (e : DictEntry), es[j]? = some e → ∃ kv, kvs[j]? = some kv ∧ keyIs kv.1 e.key = true ∧ RelV kv.2 e.val := by
  induction rel with
  | nil =>
    intro es hp
    cases hp
    exact ⟨rfl, fun j e h => by simp at h⟩
  | @cons p q ps qs h t ih =>
    intro es hp
    cases hp with
    | cons h1 h2 h3 =>
      obtain ⟨e1, e2⟩ := ih h3
      refine ⟨by rw [List.length_cons, List.length_cons, e1], fun j e he => ?_⟩
      cases j with
      | zero =>
        rw [List.getElem?_cons_zero] at he
        cases he
        exact ⟨p, rfl, by rw [h.1]; exact h1, by rw [h2]; exact h.2⟩
      | succ j =>
        rw [List.getElem?_cons_succ] at he ⊢
        exact e2 j e he
def pay : Option HO → V
  | some (.tup [_, v]) => v
  | _ => .non
/-- sorted(d.items()), the keys texts -/
def rSortedIt : List V → Hp → VK → Prop := fun vs H Q => ∃ (p a : Addr) (kvs : List (Key × V)) (ks : List Str), vs = [.ref p] ∧ H p = some (DX.itemsO p a) ∧ Rd H a (.dK kvs) ∧ kvs.map (·.1) = ks.map Sum.inr ∧ ks.Nodup ∧
  ∀ (H' : Hp) (l : Addr) (zs : List Addr), (∀ b o, H b = some o → H' b = some o) → H l = none → H' l = some (.lst (zs.map V.ref)) → PySem.Paired (fun z (kv : V × Str) => H z = none ∧ H' z = some (.tup [.str kv.2, kv.1])) zs (srtK ((kvs.map (·.2)).zip ks)) → Q (.ref l) H'
theorem paired_get {α β : Type} {R : α → β → Prop} : ∀ {l : List α} {m : List β}, l.length = m.length → (∀ (j : Nat) (a : α) (b : β), l[j]? = some a → m[j]? = some b → R a b) → PySem.Paired R l m
  | [], [], _, _ => .nil
  | a :: l, b :: m, h, g => .cons (g 0 a b rfl rfl) (paired_get (by simpa using h) fun j x y h1 h2 => g (j + 1) x y h1 h2)
  | [], _ :: _, h, _ =>
                                          by simp at h
  | _ :: _, [], h, _ =>
                                          by simp at h
theorem insK_map {α β : Type} (f : α → β) (a : α × Str) : ∀ l : List (α × Str), insK (f a.1, a.2) (l.map fun z => (f z.1, z.2)) = (insK a l).map fun z => (f z.1, z.2)
  | [] => rfl
  | b :: r => by
    show (if leS a.2 b.2 = true then (f a.1, a.2) :: (f b.1, b.2) :: r.map _ else (f b.1, b.2) :: insK (f a.1, a.2) (r.map _)) = (if leS a.2 b.2 = true then a :: b :: r else b :: insK a r).map _
    split
    · rfl
    · rw [insK_map f a r]
      rfl
theorem srtK_map {α β : Type} (f : α → β) : ∀ l : List (α × Str), srtK (l.map fun z => (f z.1, z.2)) = (srtK l).map fun z => (f z.1, z.2)
  | [] => rfl
  | a :: r => by
    show insK (f a.1, a.2) (srtK (r.map _)) = (insK a (srtK r)).map _
    rw [srtK_map f r, insK_map]
theorem cr_sortedIt (hc : X.calm = true) : CallR X (.builtin "sorted") rSortedIt := by
  intro pins s σ
    H xs us Q I r h
  obtain ⟨p, a, kvs, ks, rfl, hp, ha, hks, nd, q⟩ := h
  obtain rfl := Vals.ref1 r
  have view : s.heap.IsItemsView p a := (show ObjOk X.prog X.w H s.heap p (DX.itemsO p a) from I.hok p _ hp).1
  obtain ⟨es, ep, vs, raw, hd, rel, hpr, _, hz⟩ := raw_of I ha
  obtain ⟨le, hat⟩ := pairs_at (X := X) rel hpr
  have lks : kvs.length = ks.length := by
    have e := congrArg List.length hks
    rwa [List.length_map, List.length_map] at e
  have les : es.size = kvs.length := by rw [← Array.length_toList]; exact le
  have hh : X.A.in1.handled = none := I.ok.hd hc
  -- what is collected
  have col : Col X.prog X.w X.A.in1 X.xe s (.ref p) fun vs h => ∃ as : List Addr, vs = as.map Value.ref ∧ as.length = es.size ∧ DT.Made es s.heap.objs.size h as := by
    intro Q h
    exact DT.collectI (R := Q) hh view raw (by rw [les]; exact hz) fun h' tk as hk hlt hl hG => h _ h' tk hk (Nat.le_of_lt hlt) ⟨as, rfl, hl, hG⟩
  refine sorted_col col (fun vs h ⟨as, e, hl, _⟩ => by rw [e, List.length_map, hl, les]; exact hz) fun vs0 h ⟨as, evs, hl, hG⟩ kp => ?_
  -- each made pair
  have pr : ∀ (j : Nat) (b : Addr), as[j]? = some b → ∃ (kv : Key × V) (y : Str) (t : Tok) (v : Value), kvs[j]? = some kv ∧ ks[j]? = some y ∧ RelV kv.2 v ∧ h.get? b = some { cls := .type "tuple", data := .seq #[.str y t, v] } := by
    intro j b hj
    obtain ⟨en, he, hg⟩ :=
      hG.pairs j b hj
    obtain ⟨kv, hkv, hk1, hv1⟩ := hat j en (by rw [Array.getElem?_toList]; exact he)
    have hy : ks[j]?.map Sum.inr = some kv.1 := by
      rw [← List.getElem?_map, ← hks, List.getElem?_map, hkv]
      rfl
    cases e : ks[j]? with
    | none =>
      rw [e] at hy
      cases hy
    | some y =>
      rw [e] at hy
      have e2 : kv.1 = Sum.inr y := (Option.some.inj hy).symm
      rw [e2] at hk1
      obtain ⟨t, et⟩ : ∃ t, en.key = .str y t := by
        rcases keyIs_shape hk1 with ⟨i, t, z, _⟩ | ⟨x, t, z, z2⟩
        · cases z
        · cases z
          exact ⟨t, z2⟩
      exact ⟨kv, y, t, en.val, hkv, rfl, hv1, by rw [hg, et]⟩
  have lak : as.length = ks.length :=
    by omega
  have hds : ∀ (j : Nat) (b : Addr) (y : Str), as[j]? = some b → ks[j]? = some y → Hd h (.ref b) y := by
    intro j b y hj hy
    obtain ⟨kv, y', t, v, _, e2, _, hg⟩ := pr j b hj
    rw [hy] at e2
    cases e2
    exact ⟨b, _, t, [v], _, 0, rfl, hg, rfl, rfl, rfl⟩
  have tx : as.map (fun b => hdTx h (.ref b)) = ks := by
    refine List.ext_getElem? fun j =>
      ?_
    rw [List.getElem?_map]
    cases e : as[j]? with
    | none =>
      have := List.getElem?_eq_none_iff.mp e
      rw [List.getElem?_eq_none_iff.mpr (by omega)]
      rfl
    | some b =>
      obtain ⟨_, y, _, _, _, e2, _, _⟩ := pr j b e
      rw [e2]
      show some (hdTx h (.ref b)) = some y
      rw [(hds j b y e e2).tx]
  subst evs
  refine ⟨hdTx h, fun v hv => ?_, ?_, fun h' d tk out h1 h2 kp' hdl hn => ?_⟩
  · obtain ⟨b, hb, rfl⟩ := List.mem_map.mp hv
    obtain ⟨j, hj⟩ :=
      List.mem_iff_getElem?.mp hb
    obtain ⟨_, y, _, _, _, e2, _, _⟩ := pr j b hj
    have g := hds j b y hj e2
    rw [g.tx]
    exact g
  · refine inj_map ?_
    rw [List.map_map, show (hdTx h ∘ Value.ref) = fun b => hdTx h (.ref b) from rfl, tx]
    exact nd
  · -- the sorted list of addresses
    obtain ⟨zs, ez⟩ : ∃ zs : List Addr, out = zs.map Value.ref := by
      refine ⟨out.map fun v => DT.refOf (some v), ?_⟩
      rw [List.map_map]
      have e : out.map (Value.ref ∘ fun v => DT.refOf (some v)) = out.map id := List.map_congr_left fun v hv => by
        obtain ⟨b, _, rfl⟩ := List.mem_map.mp (h2.perm.mem_iff.mp hv)
        rfl
      rw [e, List.map_id]
    subst ez
    have pz : zs.Perm as := by
      have e := h2.perm.map fun v => DT.refOf (some v)
      rw [List.map_map,
        List.map_map] at e
      have f : ((fun v => DT.refOf (some v)) ∘ Value.ref) = (id : Addr → Addr) := rfl
      rw [f, List.map_id, List.map_id] at e
      exact e
    have nda : as.Nodup := List.Pairwise.imp (fun h => Nat.ne_of_lt h) hG.rise
    have ezs : zs.zip (zs.map fun b => hdTx h (.ref b)) = srtK (as.zip ks) := by
      rw [← tx]
      have e1 : zs.zip (zs.map fun b => hdTx h (.ref b)) = zs.map fun b => (b, hdTx h (.ref b)) := by
        have := zip_maps (fun b : Addr => b) (fun b : Addr => hdTx h (.ref b)) zs
        rw [List.map_id'] at this
        exact this
      have e2 : as.zip (as.map fun b => hdTx h (.ref b)) = as.map fun b => (b, hdTx h (.ref b)) := by
        have := zip_maps (fun b : Addr => b) (fun b : Addr => hdTx h (.ref b)) as
        rw [List.map_id'] at this
        exact this
      rw [e1, e2]
      refine srtK_uniq (pz.map _) ?_ ?_
      · refine List.pairwise_map.mpr ?_
        refine List.Pairwise.imp (fun {u v} h => ?_) (List.pairwise_map.mp h1)
        exact leS_iff.mpr (List.not_lt.mp (of_decide_eq_false h))
      · rw [List.map_map]
        show (as.map fun b => hdTx h (.ref b)).Nodup
        rw [tx]
        exact nd
    -- the state behind
    have kS : ∀ b o, s.heap.get? b = some o → h'.get? b = some o := fun b o e => kp' b o (kp b o e)
    have I1 : Inv X pins σ H { s with heap := h', toks := tk } := I.kept (t' := tk) kS
    have hn0 : H d = none := I.hok.fresh hdl
    have hdz : ∀ b ∈ as, b ≠ d := fun b hb z => by
      obtain ⟨j, hj⟩ :=
        List.mem_iff_getElem?.mp hb
      obtain ⟨_, y, t, v, _, _, _, hg⟩ := pr j b hj
      have := kp' b _ hg
      rw [z, hn] at this
      have z2 := congrArg Obj.cls (Option.some.inj this)
      exact absurd (Value.type.inj z2) (by decide)
    have rv : Vals (zs.map V.ref) (zs.map Value.ref) := vals_maps (fun z : Addr => V.ref z) (fun z => Value.ref z) zs fun _ _ => rfl
    have I2 : Inv X pins σ (upd H d (.lst (zs.map V.ref))) { s with heap := h', toks := tk } := I1.take (h' := h') (t' := tk) (fun b ob _ e => e) (I.fpOk hdl hn0) ⟨by rw [List.length_map, pz.length_eq, hl, les]; exact hz, _, _, rv, hn⟩
    obtain ⟨H2, I3, g, qt⟩ := DX.takeT (P := fun b vs => ∃ (j : Nat) (kv : Key × V) (y : Str), as[j]? = some b ∧ kvs[j]? = some kv ∧ ks[j]? = some y ∧ vs = [.str y, kv.2]) I as _ I2 nda fun b hb => by
      obtain ⟨j, hj⟩ :=
        List.mem_iff_getElem?.mp hb
      obtain ⟨kv, y, t, v, e1, e2, e3, hg⟩ := pr j b hj
      have hbl : s.heap.objs.size ≤ b :=
        Nat.le_of_lt (hG.above b hb)
      refine ⟨hbl, ?_, [.str y, kv.2], ⟨j, kv, y, hj, e1, e2, rfl⟩, fun H3 => ⟨(by rw [sizeLine_eq]; show 2 ≤ 16777216; omega), [Value.str y t, v], .cons ⟨t, rfl⟩ (.cons e3 .nil), ⟨_, kp' _ _ hg, rfl, 0, rfl⟩⟩⟩
      rw [upd_ne (hdz b hb)]
      exact I.hok.fresh hbl
    have gr : ∀ b o, H b = some o → H2 b = some o :=
      fun b o e => g b o (by rw [upd_ne (ne_of_none e hn0)]; exact e)
    refine ⟨.ref d, H2, I3, rfl, q H2 d zs gr hn0 (g _ _ upd_same) ?_⟩
    have e5 : srtK ((kvs.map (·.2)).zip ks) = (srtK (as.zip ks)).map fun z => (pay (H2 z.1), z.2) := by
      rw [← srtK_map (fun b => pay (H2 b))]
      congr 1
      refine List.ext_getElem? fun j =>
        ?_
      rw [List.getElem?_map]
      cases ea : as[j]? with
      | none =>
        have := List.getElem?_eq_none_iff.mp ea
        rw [List.getElem?_eq_none_iff.mpr (by rw [List.length_zip, List.length_map]; omega), List.getElem?_eq_none_iff.mpr (by rw [List.length_zip]; omega)]
        rfl
      | some b =>
        obtain ⟨kv, y, t, v, e1, e2, e3, hg⟩ := pr j b ea
        obtain ⟨vs3, ⟨j2, kv2, y2, a1, a2, a3, a4⟩, hH⟩ := qt b (List.mem_of_getElem? ea)
        have eij : j = j2 := (List.getElem?_inj (List.getElem?_eq_some_iff.mp ea).1 nda).mp (ea.trans a1.symm)
        subst eij
        rw [e1] at a2
        cases a2
        rw [e2] at a3
        cases a3
        subst a4
        have z1 : ((kvs.map (·.2)).zip ks)[j]? = some (kv.2, y) := List.getElem?_zip_eq_some.mpr ⟨by rw [List.getElem?_map, e1]; rfl, e2⟩
        have z2 : (as.zip ks)[j]? = some (b, y) := List.getElem?_zip_eq_some.mpr ⟨ea, e2⟩
        rw [z1, z2]
        show some (kv.2, y) = some (pay (H2 b), y)
        rw [hH]
        rfl
    rw [e5, ← ezs]
    refine paired_get (by rw [List.length_map, List.length_zip, List.length_map]; omega) fun j z kv h3 h4 => ?_
    rw [List.getElem?_map] at h4
    have z3 : (zs.zip (zs.map fun b => hdTx h (.ref b)))[j]? = some (z, hdTx h (.ref z)) := List.getElem?_zip_eq_some.mpr ⟨h3, by rw [List.getElem?_map, h3]; rfl⟩
    rw [z3] at h4
    cases h4
    have hzm : z ∈ as := pz.mem_iff.mp (List.mem_of_getElem? h3)
    obtain ⟨vs3, ⟨j2, kv2, y2, a1, a2, a3, a4⟩, hH⟩ := qt z hzm
    subst a4
    refine ⟨I.hok.fresh (Nat.le_of_lt (hG.above z hzm)), ?_⟩
    show H2 z = some (.tup [.str (hdTx h (.ref z)), pay (H2 z)])
    rw [hH, (hds j2 z y2 a1 a3).tx]
    rfl
end
/-! ### the mirror -/
def txtKeys : List (Key × D) → Option (List Str)
  | [] => some []
  | (.inr y, _) :: r => (txtKeys r).map (y :: ·)
  | (.inl _, _) :: _ => none
theorem txtKeys_eq : ∀ {kds : List (Key × D)} {ks : List Str}, txtKeys kds = some ks → kds.map (·.1) = ks.map Sum.inr
  | [], ks, e => by
    cases e
    rfl
  | (.inr y, d) :: r, ks, e => by
    rw [txtKeys] at e
    cases q : txtKeys r with
    | none =>
      rw [q] at e
      cases e
    | some l =>
      rw [q] at e
      cases e
      rw [List.map_cons, List.map_cons, txtKeys_eq q]
  | (.inl _, _) :: _, ks, e => by cases e
section
variable {K : PySem.W.Frag} {b : Option Addr} {F : Hp}
theorem RepK.keys : ∀ {kvs : List (Key × V)} {kds : List (Key × D)}, RepK K b F kvs kds → kvs.map (·.1) = kds.map (·.1)
  | _, _, .nil => rfl
  | _, _, .cons _ r => by rw [List.map_cons, List.map_cons, RepK.keys r]
theorem RepK.vals : ∀ {kvs : List (Key × V)} {kds : List (Key × D)}, RepK K b F kvs kds → RepL K b F (kvs.map (·.2)) (kds.map (·.2))
  | _, _, .nil => .nil
  | _, _, .cons h r => .cons h (RepK.vals r)
theorem zip_par : ∀ {vs : List V} {ds : List D} (ks : List Str), RepL K b F vs ds → PySem.Paired (fun (x : V × Str) (y : D × Str) => Rep K b F x.1 y.1 ∧ x.2 = y.2) (vs.zip ks) (ds.zip ks)
  | _, _, [], h => by
    rw [List.zip_nil_right, List.zip_nil_right]
    exact .nil
  | _, _, k :: ks, .nil => .nil
  | _, _, k :: ks, .cons h r => .cons ⟨h, rfl⟩ (zip_par ks r)
end
def pairsD (l : List (D × Str)) : List D := l.map fun z => .tup [.str z.2, z.1]
def gSortIt (d : D) : Option D := match isDct d with
  | some kds => (match txtKeys kds with
    | some ks => if ks.Nodup then some (.lst (pairsD (srtK ((kds.map (·.2)).zip ks)))) else none
    | none => none)
  | none => none
section
variable {X : Cx} {W : WX}
/-- d.items() as a value -/
def tItems (to : TE) : TE := fun σ H Q => to σ H fun x H1 => ∃ a kvs, x = V.ref a ∧ Rd H1 a (.dK kvs) ∧ ∀ p, H1 p = none → Q (.ref p) (upd H1 p (DX.itemsO p a))
theorem pe_itemsV {o : Expr} {apos cpos : Pos} {to : TE} (ho : PE X o to) (hbase : attributeBase o "items" X.env (eval o X.env) = eval o X.env) (hline : (apos.endLine == cpos.line) = true) : PE X (.Call (.Attribute o "items" apos) [] [] cpos) (tItems to) := by
  refine ⟨fun pins s σ H Q I h =>
    ?_⟩
  refine wpAny_Call_method0_late hbase hline (thn (ho.run pins s σ H _ I h) fun v s1 ⟨x, H1, I1, r1, a, kvs, ex, hd, q1⟩ => ?_)
  subst ex
  have r1 : v = Value.ref a := r1
  obtain ⟨t1, t2, _⟩ := isD_at I1 (.inl ⟨kvs, hd⟩)
  refine ⟨"dict", "dict.items", PySem.F.plainAttrs_dict, PySem.F.slot_dict_items, PySem.F.type_dict_items, by rw [r1]; exact t1, fun b e => t2 b (by rw [← r1, e]), Calls.callWith_builtin rfl (PySem.evalArgs_none (mt_itemsK pins s1 σ H1 (.ref a) [] v [] Q I1 r1 .nil ⟨a, kvs, rfl, rfl, hd, q1⟩))⟩
theorem j_sortIt {g : Str} {p apos cpos pos : Pos} {o : Expr} {m : MM D} (hc : X.calm = true) (hg : Gl X g) (hm : X.mg g = none) (hv : bootBuiltins g = some (.builtin "sorted")) (ho : PE X o (rdE X.K W m)) (hn : g ≠ "__name__" := by decide) (hdb : (g == ("__debug__" : Str)) = false := by decide)
    (hbase : attributeBase o "items" X.env (eval o X.env) = eval o X.env := by rfl) (hline : (apos.endLine == cpos.line) = true := by rfl)
    (he : starEach [Expr.Call (.Attribute o "items" apos) [] [] cpos] X.env = (false, eval (.Call (.Attribute o "items" apos) [] [] cpos) X.env) :: starEach [] X.env := by rfl) (hpl : (backTo pos (starEach [] X.env)).any (·.1) = false := by rfl) :
    PE X (.Call (.Name g p) [.Call (.Attribute o "items" apos) [] [] cpos] [] pos) (rdE X.K W (mBind m fun d => o1 (gSortIt d))) :=
  peI (pe_callB (cr_sortedIt hc) hg hm hv (pa_cons (pe_itemsV ho hbase hline) pa_nil he) hn hdb he hpl) fun σ H Q h => by
    obtain ⟨S, F, ρ, x, eK, r, p⟩ := h
    refine (show rdE X.K W m σ H _ from ?_)
    refine ⟨S, F, ρ, x, eK, r, ?_⟩
    replace p : Post rlD S W σ F H ρ ((m ρ x).bind fun d x1 => o1 (gSortIt d) ρ x1) Q := p
    cases e1 : m ρ x with
    | out =>
      rw [e1] at p
      exact p
    | exc c fs x1 =>
      rw [e1] at p
      exact p
    | val d x1 =>
      rw [e1] at p
      intro v F' H' r1 s1 k1 h1
      have h1 : Rep S.K S.b F' v d := h1
      replace p : Post rlD S W σ F H ρ (o1 (gSortIt d) ρ x1) Q := p
      unfold gSortIt at p
      split at p
      · rename_i kds hd
        split at p
        · rename_i ks hk
          split at p
          · rename_i nd
            obtain ⟨a, kvs, ev, hrd, hr⟩ := h1.dict r1.core.sub hd
            refine ⟨a, kvs, ev, hrd, fun q n => ?_⟩
            have rA : Rel S F' (upd H' q (DX.itemsO q a)) σ ρ x1 := r1.allocO n
            have hrd2 : Rd (upd H' q (DX.itemsO q a)) a (.dK kvs) := by
              rcases hrd with z | ⟨o, z⟩
              · exact .inl (by rw [upd_ne (ne_of_none z n)]; exact z)
              · exact .inr ⟨o, by rw [upd_ne (ne_of_none z n)]; exact z⟩
            refine ⟨q, a, kvs, ks, rfl, upd_same, hrd2, by rw [hr.keys]; exact txtKeys_eq hk, nd, fun H2 l zs g nl hl hp => ?_⟩
            obtain ⟨rB, sB⟩ := rA.ext g
            have fresh : ∀ b o, upd H' q (DX.itemsO q a) b = none → H2 b = some o → extF F' (upd H' q (DX.itemsO q a)) H2 b = some o := fun b o e1 e2 => by
              rw [extF_new e1]
              exact e2
            refine p (.ref l) _ H2 rB (s1.trans sB) (fun y o e ne => g y o (by
              have hy := k1 y o e ne
              rw [upd_ne (ne_of_none hy n)]
              exact hy)) (.lst (fresh l _ nl hl) ?_)
            have par := srtK_par (zip_par ks hr.vals)
            have go : ∀ {zs : List Addr} {ps : List (V × Str)} {qs : List (D × Str)}, PySem.Paired (fun z (kv : V × Str) => upd H' q (DX.itemsO q a) z = none ∧ H2 z = some (.tup [.str kv.2, kv.1])) zs ps → PySem.Paired (fun (x : V × Str) (y : D × Str) => Rep S.K S.b F' x.1 y.1 ∧ x.2 = y.2) ps qs → RepL S.K S.b (extF F' (upd H' q (DX.itemsO q a)) H2) (zs.map V.ref) (pairsD qs) := by
              intro zs ps qs h1
              induction h1 generalizing qs with
              | nil =>
                intro h2
                cases h2
                exact .nil
              | @cons z kv zs ps h t ih =>
                intro h2
                cases h2 with
                | @cons _ y _ qs' h3 t3 =>
                  refine .cons (.tup (.inl (fresh z _ h.1 h.2)) (.cons ?_ (.cons (h3.1.mono sB) .nil))) (ih t3)
                  rw [h3.2]
                  exact .str _
            exact go hp par
          · exact p.elim
        · exact p.elim
      · exact p.elim
end
end Mi

/-! Mi25: k in d, d.get, sorted(d), dicts locked and walked, targets in a dict. -/
namespace Mi
open PySem PySem.Spec L2
section
variable {X : Cx} {W : WX}
theorem rd_pick {ma mb : MM D} {g : D → D → MM D} {σ : L2.St} {H : Hp} {Q : VK} {A B : Prop} (P : D → D → Bool) (h : rdE X.K W (mOp g ma mb) σ H Q) (h1 : rdE X.K W (mOp (fun a b => if P a b then g a b else fun _ _ => .out) ma mb) σ H Q → A) (h2 : rdE X.K W (mOp (fun a b => if P a b then (fun _ _ => .out) else g a b) ma mb) σ H Q → B) : A ∨ B := by
  obtain ⟨S, F, ρ, x, eK, r, p⟩ := h
  replace p : Post rlD S W σ F H ρ ((ma ρ x).bind fun a x1 => (mb ρ x1).bind fun b x2 => g a b ρ x2) Q := p
  have mk : ∀ g' : D → D → MM D, Post rlD S W σ F H ρ ((ma ρ x).bind fun a x1 => (mb ρ x1).bind fun b x2 => g' a b ρ x2) Q → rdE X.K W (mOp g' ma mb) σ H Q := fun g' q => ⟨S, F, ρ, x, eK, r, q⟩
  cases e1 : ma ρ x with
  | out =>
    rw [e1] at p
    exact p.elim
  | exc c fs x1 =>
    rw [e1] at p
    exact .inl (h1 (mk _ (by rw [e1]; exact p)))
  | val a x1 =>
    cases e2 : mb ρ x1 with
    | out =>
      rw [e1] at p
      simp only [R.bind] at p
      rw [e2] at p
      exact p.elim
    | exc c fs x2 =>
      refine .inl (h1 (mk _ ?_))
      rw [e1] at p ⊢
      simp only [R.bind] at p ⊢
      rw [e2] at p ⊢
      exact p
    | val b x2 =>
      rw [e1] at p
      simp only [R.bind] at p
      rw [e2] at p
      cases hP : P a b with
      | true =>
        refine .inl (h1 (mk _ ?_))
        rw [e1]
        simp only [R.bind]
        rw [e2]
        simp only [hP, if_true]
        exact p
      | false =>
        refine .inr (h2 (mk _ ?_))
        rw [e1]
        simp only [R.bind]
        rw [e2]
        simp only [hP, if_false]
        exact p
/-! ### k in d -/
def gDIn (neg : Bool) (a b : D) : Option D := match isDct b, keyD a with
  | some kds, some k => some (.bl (if neg then !(valA kds k).isSome else (valA kds k).isSome))
  | _, _ => none
def gInA (neg : Bool) (a b : D) : Option D := match isDct b with
  | some _ => gDIn neg a b
  | none => gIn neg a b
def rDIn (neg : Bool) : R2 := fun y x H Q => ∃ a o, x = V.ref a ∧ DGet H a y o ∧ Q (.bl (if neg then !o.isSome else o.isSome)) H
theorem real_din {K : PySem.W.Frag} {neg : Bool} : Real2 K W (rDIn neg) fun a b => o1 (gDIn neg a b) := by
  intro S F H σ ρ x v1 v2 a b Q eK r ha hb p
  unfold gDIn at p
  dsimp only at p
  split at p
  · rename_i kds k e1 e2
    obtain ⟨q, kvs, rfl, hd, hr⟩ := hb.dict r.core.sub e1
    have ev := ha.key e2
    subst ev
    refine ⟨q, valV kvs k, rfl, .inl ⟨kvs, k, hd, rfl, rfl⟩, ?_⟩
    have es : (valV kvs k).isSome = (valA kds k).isSome := by
      rcases hr.val k with ⟨z1, z2⟩ | ⟨v, d, z1, z2, z3⟩
      · rw [z1, z2]
        rfl
      · rw [z1, z2]
        rfl
    rw [es]
    exact post_val (rl := rlD) r p (.bl _)
  · exact p.elim
theorem inA_go {neg : Bool} {ma mb : MM D} {σ : L2.St} {H : Hp} {Q : VK} {A B : Prop} (h : rdE X.K W (mOp (fun a b => o1 (gInA neg a b)) ma mb) σ H Q) (h1 : rdE X.K W (mOp (fun a b => o1 (gDIn neg a b)) ma mb) σ H Q → A) (h2 : rdE X.K W (mOp (fun a b => o1 (gIn neg a b)) ma mb) σ H Q → B) : A ∨ B :=
  rd_pick (fun _ b => (isDct b).isSome) h (fun q => h1 (mOp_congr (fun a b ρ x => by
    cases e : isDct b with
    | none => exact .inl rfl
    | some k => exact .inr (by simp only [gInA, e]; rfl)) q)) fun q => h2 (mOp_congr (fun a b ρ x => by
    cases e : isDct b with
    | none => exact .inr (by simp only [gInA, e]; rfl)
    | some k => exact .inl rfl) q)
theorem j_inA {ma mb : MM D} {a b : Expr} {pos : Pos} (hu : X.A.units + 1 < cLine) (ha : PE X a (rdE X.K W ma)) (hb : PE X b (rdE X.K W mb)) (hm : behindInMarks .In b = false := by rfl) : PE X (.Compare a [.In] [b] pos) (rdE X.K W (mOp (fun a b => o1 (gInA false a b)) ma mb)) :=
  peI (peOr (pe_cmp (pc_din hu ha hb) hm) (j_cmp op_in_seq real_in ha hb hm)) fun σ H Q h => inA_go h (fun q => rd_op (r := rDIn false) real_din q) id
theorem j_notInA {ma mb : MM D} {a b : Expr} {pos : Pos} (hu : X.A.units + 1 < cLine) (ha : PE X a (rdE X.K W ma)) (hb : PE X b (rdE X.K W mb)) (hm : behindInMarks .NotIn b = false := by rfl) : PE X (.Compare a [.NotIn] [b] pos) (rdE X.K W (mOp (fun a b => o1 (gInA true a b)) ma mb)) :=
  peI (peOr (pe_cmp (pc_dnotin hu ha hb) hm) (j_cmp op_notIn_seq real_in ha hb hm)) fun σ H Q h => inA_go h (fun q => rd_op (r := rDIn true) real_din q) id
theorem ptOr' {e : Expr} {t t' : TT} (h : PT X e t) (h' : PT X e t') : PT X e (fun σ H Q => t σ H Q ∨ t' σ H Q) := ⟨fun pins s σ H Q I q => by
  rcases q with q | q
  · exact h.run pins s σ H Q I q
  · exact h'.run pins s σ H Q I q⟩
theorem jt_inA {ma mb : MM D} {a b : Expr} {pos : Pos} (hu : X.A.units + 1 < cLine) (ha : PE X a (rdE X.K W ma)) (hb : PE X b (rdE X.K W mb)) (hm : behindInMarks .In b = false := by rfl) : PT X (.Compare a [.In] [b] pos) (rdT X.K W (mTst (mOp (fun a b => o1 (gInA false a b)) ma mb))) :=
  ptI (ptOr' (pt_cmp (pc_din hu ha hb) hm) (pt_cmpR op_in_seq ha hb hm)) fun σ H Q h => inA_go (rd_tst h) (fun q => rd_op (r := rDIn false) real_din q) fun q => rd_op real_in q
theorem jt_notInA {ma mb : MM D} {a b : Expr} {pos : Pos} (hu : X.A.units + 1 < cLine) (ha : PE X a (rdE X.K W ma)) (hb : PE X b (rdE X.K W mb)) (hm : behindInMarks .NotIn b = false := by rfl) : PT X (.Compare a [.NotIn] [b] pos) (rdT X.K W (mTst (mOp (fun a b => o1 (gInA true a b)) ma mb))) :=
  ptI (ptOr' (pt_cmp (pc_dnotin hu ha hb) hm) (pt_cmpR op_notIn_seq ha hb hm)) fun σ H Q h => inA_go (rd_tst h) (fun q => rd_op (r := rDIn true) real_din q) fun q => rd_op real_in q
/-! ### d.get(k, e) -/
def mGet2 (mo mk md : MM D) : MM D := mBind mo fun o => match isDct o with
  | some kds => mBind mk fun k => mBind md fun d => match keyD k with
    | some key => fun _ x => .val ((valA kds key).getD d) x
    | none => fun _ _ => .out
  | none => fun _ _ => .out
theorem j_get2 {o e f : Expr} {apos cpos : Pos} {mo mk md : MM D} (hu : X.A.units + 1 < cLine) (ho : PE X o (rdE X.K W mo)) (he : PE X e (rdE X.K W mk)) (hf : PE X f (rdE X.K W md)) (m : M2 X o "get" apos e f cpos := by exact ⟨rfl, rfl, rfl, rfl⟩) : PE X (.Call (.Attribute o "get" apos) [e, f] [] cpos) (rdE X.K W (mGet2 mo mk md)) :=
  peI (pe_dget2 hu ho he hf m) fun σ H Q h => by
    obtain ⟨S, F, ρ, x, eK, r, p⟩ := h
    refine (show rdE X.K W mo σ H _ from ?_)
    refine ⟨S, F, ρ, x, eK, r, ?_⟩
    replace p : Post rlD S W σ F H ρ ((mo ρ x).bind fun o x1 => (match isDct o with
      | some kds => mBind mk fun k => mBind md fun d => match keyD k with
        | some key => fun _ x => .val ((valA kds key).getD d) x
        | none => fun _ _ => .out
      | none => fun _ _ => .out) ρ x1) Q := p
    cases e1 : mo ρ x with
    | out =>
      rw [e1] at p
      exact p
    | exc c fs x1 =>
      rw [e1] at p
      exact p
    | val d x1 =>
      rw [e1] at p
      simp only [R.bind] at p
      intro v F' H' r1 s1 k1 h1
      have h1 : Rep S.K S.b F' v d := h1
      cases hd : isDct d with
      | none =>
        rw [hd] at p
        exact p.elim
      | some kds =>
        rw [hd] at p
        obtain ⟨a, kvs, ev, hrd, hr⟩ := h1.dict (Same.refl F') hd
        have sub := r1.core.sub
        have rd1 : ∀ F2 H2, Rel S F2 H2 σ ρ x1 → Same F' F2 → Rd H2 a (.dK kvs) := fun F2 H2 r2 s2 => hrd.imp (fun z => r2.core.sub _ _ (s2 _ _ z)) fun ⟨o, z⟩ => ⟨o, r2.core.sub _ _ (s2 _ _ z)⟩
        refine ⟨a, ev, .inl ⟨kvs, hrd.imp (sub _ _) fun ⟨o, z⟩ => ⟨o, sub _ _ z⟩⟩, ?_⟩
        refine (show rdE X.K W mk σ H' _ from ?_)
        refine ⟨S, F', ρ, x1, eK, r1, ?_⟩
        replace p : Post rlD S W σ F H ρ ((mk ρ x1).bind fun k x2 => ((md ρ x2).bind fun d x3 => (match keyD k with
          | some key => fun _ x => .val ((valA kds key).getD d) x
          | none => fun _ _ => .out : MM D) ρ x3)) Q := p
        cases e2 : mk ρ x1 with
        | out =>
          rw [e2] at p
          exact p
        | exc c fs x2 =>
          rw [e2] at p
          exact fun F' H' dd a1 a2 a3 a4 => p F' H' dd a1 (s1.trans a2) (k1.trans a3) a4
        | val k x2 =>
          rw [e2] at p
          simp only [R.bind] at p
          intro vk F2 H2 r2 s2 k2 h2
          have h2 : Rep S.K S.b F2 vk k := h2
          refine (show rdE X.K W md σ H2 _ from ?_)
          refine ⟨S, F2, ρ, x2, eK, r2, ?_⟩
          cases e3 : md ρ x2 with
          | out =>
            rw [e3] at p
            exact p
          | exc c fs x3 =>
            rw [e3] at p
            exact fun F' H' dd a1 a2 a3 a4 => p F' H' dd a1 ((s1.trans s2).trans a2) ((k1.trans k2).trans a3) a4
          | val d3 x3 =>
            intro v3 F3 H3 r3 s3 k3 h3
            have h3 : Rep S.K S.b F3 v3 d3 := h3
            cases ek : keyD k with
            | none =>
              rw [e3] at p
              simp only [ek] at p
              exact p.elim
            | some key =>
              rw [e3] at p
              simp only [ek] at p
              have evk := h2.key ek
              subst evk
              have g3 : Rd H3 a (.dK kvs) := hrd.imp (fun z => r3.core.sub _ _ ((s2.trans s3) _ _ z)) fun ⟨o, z⟩ => ⟨o, r3.core.sub _ _ ((s2.trans s3) _ _ z)⟩
              refine ⟨valV kvs key, .inl ⟨kvs, key, g3, rfl, rfl⟩, ?_⟩
              refine p _ F3 H3 r3 ((s1.trans s2).trans s3) ((k1.trans k2).trans k3) ?_
              rcases hr.val key with ⟨z1, z2⟩ | ⟨v, d, z1, z2, z3⟩
              · rw [z1, z2]
                exact h3
              · rw [z1, z2]
                exact z3.mono (s2.trans s3)
/-! ### sorted(d) -/
def gSortD : List D → Option D
  | [d] => match isDct d with
    | some kds => (match txtKeys kds with
      | some ks => if ks.length < 64 then some (.lst ((srtS ks).map .str)) else none
      | none => none)
    | none => none
  | _ => none
def rSortD : List V → Hp → VK → Prop := fun xs H Q => ∃ (a : Addr) (kvs : List (Key × V)) (ks : List Str), xs = [.ref a] ∧ Rd H a (.dK kvs) ∧ kvs.map (·.1) = ks.map Sum.inr ∧ ks.length < 64 ∧ ∀ ys p, ys.Perm ks → PyProof.Rows.sortedS ys = true → H p = none → Q (.ref p) (upd H p (.lst (ys.map V.str)))
theorem real_sortD {K : PySem.W.Frag} : RealA K W rSortD fun ds => o1 (gSortD ds) := by
  intro S F H σ ρ x vs ds Q eK r hv p
  unfold gSortD at p
  dsimp only at p
  split at p
  · obtain ⟨v, e, h⟩ := rep1 hv
    subst e
    split at p
    · rename_i kds hd
      split at p
      · rename_i ks hk
        split at p
        · rename_i hz
          obtain ⟨a, kvs, rfl, hrd, hr⟩ := h.dict r.core.sub hd
          refine ⟨a, kvs, ks, rfl, hrd, by rw [hr.keys]; exact txtKeys_eq hk, hz, fun ys q pm st n => ?_⟩
          have e3 := srt_eq pm st
          subst e3
          exact post_new (α := D) r p n (.lst upd_same (repL_strs _))
        · exact p.elim
      · exact p.elim
    · exact p.elim
  · exact p.elim
def gSrtA (ds : List D) : Option D := (gSrt ds).or (gSortD ds)
theorem real_srtA {K : PySem.W.Frag} : RealA K W (fun xs H Q => (rSortedS K xs H Q ∨ rSortedH K xs H Q) ∨ rSortD xs H Q) fun ds => o1 (gSrtA ds) := RealA.or real_srt real_sortD
theorem cr_srtA (hc : X.calm = true) : CallR X (.builtin "sorted") (fun xs H Q => (rSortedS X.K xs H Q ∨ rSortedH X.K xs H Q) ∨ rSortD xs H Q) := cr_srt.or (call_sortedD hc)
/-! ### an owned dict frozen for good: locked -/
def lockE (i : Nat) (ρ : En) : En := match ρ[i]? with
  | some (.od kds) => ρ.set i (.fz (.dct kds))
  | _ => ρ
theorem js_lock {st : Stmt} {m : MS} (i : Nat) (h : PS X st (rdS X.K W m)) : PS X st (rdS X.K W fun ρ x => m (lockE i ρ) x) := ⟨fun pins s σ H D I q => by
  obtain ⟨S, F, ρ, x, eK, r, p⟩ := q
  replace p : PostS S W (m (lockE i ρ) x) D := p
  unfold lockE at p
  split at p
  · rename_i kds e
    obtain ⟨q0, vs, eσ, nb, n0, nF, hH, hr⟩ := r.getD e
    obtain ⟨od, I2⟩ := Inv.lock I hH trivial
    have hi : i < ρ.length := (List.getElem?_eq_some_iff.mp e).1
    have sF : Same F (upd F q0 (.frz od (.dK vs))) := Same.new nF
    refine h.run pins s σ _ D I2 ⟨S, upd F q0 (.frz od (.dK vs)), ρ.set i (.fz (.dct kds)), x, eK, ?_, p⟩
    have ru : Rel S F H (σ.set i none) (ρ.set i .un) x := r.drop i
    have rf := ru.freeze (o' := .frz od (.dK vs)) nb n0 nF hH fun j t ej ot z => by
      by_cases hj : i = j
      · subst hj
        rw [List.getElem?_set_self hi] at ej
        cases ej
        cases ot
      · rw [List.getElem?_set_ne hj] at ej z
        exact r.dist j i t _ q0 (Ne.symm hj) ej e ot rfl z eσ
    have rp := rf.put i (v := .ref q0) (d := .dct kds) (.dct upd_same (hr.mono sF))
    have e1 : (σ.set i none).set i (some (.ref q0)) = σ := by
      rw [List.set_set]
      refine List.ext_getElem? fun j =>
        ?_
      by_cases hj : i = j
      · subst hj
        rw [List.getElem?_set_self (by rw [← r.len]; exact hi), eσ]
      · rw [List.getElem?_set_ne hj]
    rw [e1, List.set_set] at rp
    exact rp
  · exact h.run pins s σ H D I ⟨S, F, ρ, x, eK, r, p⟩⟩
/-! ### what is walked: the keys of a frozen dict, too -/
def keyOf : Key → D
  | .inl i => .int i
  | .inr s => .str s
theorem rep_key {K : PySem.W.Frag} {b : Option Addr} {F : Hp} : ∀ k : Key, Rep K b F (kV k) (keyOf k)
  | .inl i => .int i
  | .inr s => .str s
def dKeys (kds : List (Key × D)) : List D := kds.map fun kv => keyOf kv.1
theorem walks_dct {K : PySem.W.Frag} {b : Option Addr} {F : Hp} {a : Addr} {o : Obj} {kvs : List (Key × V)} {kds : List (Key × D)} (h : F a = some (.frz o (.dK kvs))) (r : RepK K b F kvs kds) : Walks K b F (Itk a o kvs) (dKeys kds) := fun S i F1 H x eK eb s c => by
  have ha : H a = some (.frz o (.dK kvs)) := c.sub _ _ (s _ _ h)
  have hl : (dKeys kds).length = kvs.length := by
    unfold dKeys
    rw [List.length_map, r.length]
  refine ⟨fun hi => ⟨⟨ha, by rw [hl] at hi; exact hi⟩, fun v H' y => ?_⟩, fun hi => ⟨ha, by rw [hl] at hi; exact hi⟩⟩
  obtain ⟨rfl, k, v0, e, rfl⟩ := y
  refine ⟨F1, keyOf k, c, Same.refl _, KeepB.refl, Nw.same, ?_, rep_key k⟩
  unfold dKeys
  have e2 : (kds.map (·.1))[i]? = some k := by
    rw [← r.keys, List.getElem?_map, e]
    rfl
  rw [List.getElem?_map] at e2 ⊢
  cases q : kds[i]? with
  | none =>
    rw [q] at e2
    cases e2
  | some kv =>
    rw [q] at e2
    cases e2
    rfl
def itemsA (d : D) : Option (List D) := match d with
  | .dct kds => some (dKeys kds)
  | d => itemsD d
def mIterA (m : MM D) : MM (List D) := mBind m fun d => oB (itemsA d)
theorem j_iterA {tg : Expr} {e : Expr} {m : MM D} (he : PE X e (rdE X.K W m)) : PI X tg e (rd rlI X.K W (mIterA m)) :=
  piI (piOr (pi_keys he) (j_iter he)) fun σ H R h => by
    obtain ⟨S, F, ρ, x, eK, rr, p⟩ := h
    replace p : Post rlI S W σ F H ρ ((m ρ x).bind fun d x1 => oB (itemsA d) ρ x1) R := p
    cases e : m ρ x with
    | out =>
      rw [e] at p
      exact p.elim
    | exc c fs x1 =>
      refine .inl ⟨S, F, ρ, x, eK, rr, ?_⟩
      rw [e] at p ⊢
      exact p
    | val d x1 =>
      rw [e] at p
      have other : itemsA d = itemsD d → (iKeys (rdE X.K W m) σ H R ∨ rd rlI X.K W (mIter m) σ H R) := fun z => by
        refine .inr ⟨S, F, ρ, x, eK, rr, ?_⟩
        show Post rlI S W σ F H ρ ((m ρ x).bind fun d x1 => oB (itemsD d) ρ x1) R
        rw [e]
        show Post rlI S W σ F H ρ (oB (itemsD d) ρ x1) R
        rw [← z]
        exact p
      cases d with
      | dct kds =>
        refine .inl ⟨S, F, ρ, x, eK, rr, ?_⟩
        rw [e]
        intro v F' H' r1 s1 k1 h1
        cases h1 with
        | @dct a o kvs _ h r => exact ⟨a, o, rfl, .inl ⟨kvs, r1.core.sub _ _ h, p (Itk a o kvs) F' H' r1 s1 k1 (walks_dct h r)⟩⟩
      | _ => exact other rfl
end
end Mi

/-! Mi26: own classes: fields, properties, instances made. -/
namespace Mi
open PySem PySem.Spec L2
/-! ### fields -/
def gFld (c f : Str) : D → Option D
  | .obj c' fs => if c' = c then fs.lookup f else none
  | _ => none
theorem RepF.get {K : PySem.W.Frag} {b : Option Addr} {F : Hp} {f : Str} {d : D} : ∀ {vs : List (Str × V)} {fs : Fl}, RepF K b F vs fs → fs.lookup f = some d → ∃ v, vs.lookup f = some v ∧ Rep K b F v d
  | _, _, .nil, e => by cases e
  | _, _, .cons (k := k) h r, e => by
    rw [List.lookup_cons] at e ⊢
    cases hk : f == k with
    | true =>
      rw [hk] at e
      cases e
      exact ⟨_, rfl, h⟩
    | false =>
      rw [hk] at e
      exact RepF.get r e
section
variable {X : Cx} {W : WX}
theorem j_fld {c f : Str} {e : Expr} {pos : Pos} {m : MM D} (C : Cls X.K (He.ga X.K c)) (nf : NoAttr X.K (He.ga X.K c) f) (he : PE X e (rdE X.K W m)) (hb : attributeBase e f X.env (eval e X.env) = eval e X.env := by rfl) : PE X (.Attribute e f pos) (rdE X.K W (mBind m fun d => o1 (gFld c f d))) :=
  peI (pe_fld he hb) fun σ H Q h => rd_un (rl := rlD) (r := fun x H1 Q => ∃ a C dx fs v, x = V.ref a ∧ H1 a = some (.ins C dx fs) ∧ Cls X.K C ∧ NoAttr X.K C f ∧ fs.lookup f = some v ∧ Q v H1) (fun S F H σ ρ x v a Q eK r hr p => by
    unfold gFld at p
    split at p
    · rename_i c' fs
      split at p
      · rename_i hc
        subst hc
        cases hr with
        | @obj a C dx _ vs _ h1 e1 h2 =>
          cases q : fs.lookup f with
          | none =>
            rw [q] at p
            exact p.elim
          | some d =>
            rw [q] at p
            obtain ⟨v, e2, hv⟩ := h2.get q
            subst e1
            exact ⟨a, _, dx, vs, v, rfl, r.core.sub _ _ h1, eK ▸ C, eK ▸ nf, e2, post_val (rl := rlD) r p hv⟩
      · exact p.elim
    · exact p.elim) h
end
/-! ### methods by their place -/
structure OkM (P : Program) (w : World) (K : PySem.W.Frag) (mg : Str → Option Value) (base : Heap) (k : Nat) (g : Addr) (ps : List Str) (f : Mr) : Prop where
  ex : ∃ fd, FnOk P w K mg base (L2.CX P w) k g fd ps (spM K ps.length f) ∧ Binds K fd ps []
structure PropO (P : Program) (w : World) (K : PySem.W.Frag) (mg : Str → Option Value) (base : Heap) (k : Nat) (c name : Str) (f : Mr) : Prop where
  ex : ∃ p g, PropOf K (He.ga K c) name p g ∧ OkM P w K mg base k g ["self"] f
  cls : Cls K (He.ga K c)
def mProp (c : Str) (f : Mr) (m : MM D) : MM D := mBind m fun d => fun _ x => match d with
  | .obj c' fs => if c' = c then (match f [.obj c' fs] x with
    | .val d x' => .val d x'
    | _ => .out) else .out
  | _ => .out
section
variable {X : Cx} {W : WX}
theorem j_prop {k : Nat} {c name : Str} {f : Mr} {e : Expr} {pos : Pos} {m : MM D} (O : PropO X.prog X.w X.K X.mg X.base k c name f) (hr : Room (k + 1) X.A) (he : PE X e (rdE X.K W m)) (hb : attributeBase e name X.env (eval e X.env) = eval e X.env := by rfl) : PE X (.Attribute e name pos) (rdE X.K W (mProp c f m)) := by
  obtain ⟨p, g, hp, M⟩ := O.ex
  obtain ⟨fd, F, b⟩ := M.ex
  refine peI (pe_prop he O.cls hp F hr b .nil (passL (X := X.nox)) hb) fun σ H Q h => rd_un (rl := rlD) (r := fun x H1 Q => ∃ a dx fs, x = V.ref a ∧ H1 a = some (.ins (He.ga X.K c) dx fs) ∧ spM X.K 1 f [.ref a] H1 Q E0) (fun S F H σ ρ x v a Q eK r hr p => ?_) h
  split at p
  · rename_i c' fs
    split at p
    · rename_i hc
      subst hc
      have hr2 := hr
      cases hr with
      | @obj a C dx _ vs _ h1 e1 h2 =>
        subst e1
        refine ⟨a, dx, vs, rfl, by rw [← eK]; exact r.core.sub _ _ h1, spM0 (W := W) (ds := [.obj c' fs]) eK r (.cons hr2 .nil) ?_⟩
        rw [if_pos (show [D.obj c' fs].length = 1 from rfl)]
        exact p
    · exact p.elim
  · exact p.elim
end
section
variable {P : Program} {w : World} {K : PySem.W.Frag}
  {mg : Str → Option Value} {base : Heap}
theorem okM {x qual : Str} {st : Stmt} {g : Addr} {fd : FuncData} {N ps : List Str} {k n : Nat} {m : MS} (F : Fun K x qual st g fd) (b : Binds K fd ps []) (Sc : FnScope N ps (defScope st)) (hn : N.length = n)
    (body : ∀ (cdv : Value) (A : Around) (outer : List PySem.Env) (s : Shared) (H : Hp) (E : XK), Room k (A.deeper (PyProof.Rows.envOfC qual (defScope st) s.heap.objs.size g cdv)) → PSs (cxOf (L2.CX P w) P w K mg base N qual (defScope st) g cdv A outer s H E) (defBody st) (rdS K (WD E) m)) :
    OkM P w K mg base (k + 1) g ps (mirror n m) := by
  subst hn
  exact ⟨⟨fd, def_ok F Sc body, b⟩⟩
end
/-! ### an instance made -/
def PostI (S : Cf) (a : Addr) (c : Str) (r : R Fl) (Q : VK) (E : XK) : Prop := match r with
  | .val fs x' => ∀ F' H' o, Core S F' H' x' → F' a = none → H' a = some o → InsOk S.K S.b F' o c fs → Q .non H'
  | .exc d fs x' => ∀ F' H' dd, Core S F' H' x' → XdOk S F' dd fs → E (.ref (He.ga S.K d)) dd H'
  | .out => False
abbrev MrI := List D → Bx → R Fl
def spInit (K : PySem.W.Frag) (c : Str) (n : Nat) (f : MrI) : Sp := fun vs H Q E => ∃ S x ds a dx us, vs = V.ref a :: us ∧ S.K = K ∧ S.me = some a ∧ S.H0 a = none ∧ S.H0 dx = none ∧ dx ≠ a ∧ H = upd (upd S.H0 dx (.own a)) a (.ins (He.ga K c) dx []) ∧ Core S S.F0 S.H0 x ∧ RepL S.K S.b S.F0 us ds ∧ ds.length = n ∧ PostI S a c (f ds x) Q E
def mirrorI (n : Nat) (c : Str) (m : MS) : MrI := fun ds x => match m (.oo c [] :: startE (n - 1) ds) x with
  | .nx (.oo c' fs :: _) x' => if c' = c then .val fs x' else .out
  | .exc c fs _ x' => .exc c fs x'
  | _ => .out
theorem Rel.consO {S : Cf} {F H : Hp} {σ : L2.St} {ρ : En} {x : Bx} {a : Addr} {s : Slot} (r : Rel S F H σ ρ x) (ok : SlotOk S F H (some (.ref a)) s) (no : ∀ (i : Nat) (t : Slot), ρ[i]? = some t → t.own = false) : Rel S F H (some (.ref a) :: σ) (s :: ρ) x where
  core := r.core
  len := by rw [List.length_cons, List.length_cons, r.len]
  slot := fun i t e => by
    cases i with
    | zero =>
      cases e
      exact ⟨_, rfl, ok⟩
    | succ i =>
      rw [List.getElem?_cons_succ] at e ⊢
      exact r.slot i t e
  dist := fun i j t u p hij ei ej ot ou _ => by
    cases i with
    | zero =>
      cases j with
      | zero => exact (hij rfl).elim
      | succ j =>
        rw [List.getElem?_cons_succ] at ej
        rw [no j u ej] at ou
        cases ou
    | succ i =>
      rw [List.getElem?_cons_succ] at ei
      rw [no i t ei] at ot
      cases ot
theorem startE_no (n : Nat) (ds : List D) (i : Nat) (t : Slot) (e : (startE n ds)[i]? = some t) : t.own = false := by
  have h := List.mem_of_getElem? e
  unfold startE at h
  rcases List.mem_append.mp h with
    h | h
  · obtain ⟨d, _, rfl⟩ := List.mem_map.mp h
    rfl
  · rw [(List.mem_replicate.mp h).2]
    rfl
section
variable {P : Program} {w : World} {K : PySem.W.Frag}
  {mg : Str → Option Value} {base : Heap}
theorem initI {x qual : Str} {params : Arguments} {body : List Stmt} {scope : Scope} {dvs : List V} {f : Addr} {fd : FuncData} {y : Str} {N ps : List Str} {k n : Nat} {m : MS} {c : Str} (F : FunD K x qual params body scope dvs [] f fd) (Sc : FnScope (y :: N) ("self" :: ps) scope) (hn : (y :: N).length = n)
    (hb : ∀ (cdv : Value) (A : Around) (outer : List PySem.Env) (s : Shared) (H : Hp) (E : XK), Room k (A.deeper (PyProof.Rows.envOfC qual scope s.heap.objs.size f cdv)) → PSs (cxOf (L2.CX P w) P w K mg base (y :: N) qual scope f cdv A outer s H E) body (rdS K (WD E) m)) :
    FnOk P w K mg base (L2.CX P w) (k + 1) f fd ("self" :: ps) (spInit K c ps.length (mirrorI n c m)) := by
  subst hn
  refine F.ok Sc (fun vs H Q E h => ?_) (fun cdv A outer s H vs Q E hr h => ⟨_, hb cdv A outer s H E hr, ?_⟩)
  · obtain ⟨S, x, ds, a, dx, us, rfl, _, _, _, _, _, _, _, r, hl, _⟩ := h
    rw [List.length_cons, List.length_cons, r.length, hl]
  · obtain ⟨S, x, ds, a, dx, us, rfl, eK, eme, h1, h2, hne, rfl, core, r, hl, p⟩ := h
    have c1 : Core S S.F0 (upd S.H0 dx (.own a)) x := core.allocO h2
    have na : upd S.H0 dx (.own a) a = none := by
      rw [upd_ne (Ne.symm hne)]
      exact h1
    have c2 : Core S S.F0 (upd (upd S.H0 dx (.own a)) a (.ins (He.ga K c) dx [])) x := c1.allocO na
    have nb := core.ne_box h1
    have rs := rel_start N c2 r
    have r1 := rs.consO (a := a) (s := .oo c []) ⟨a, _, rfl, nb, h1, core.nF h1, upd_same, ⟨He.ga K c, dx, [], rfl, by rw [eK], .nil⟩, eme⟩ (startE_no _ _)
    have es : L2.start (y :: N) (V.ref a :: us) = some (V.ref a) :: L2.start N us := by
      unfold L2.start
      rw [List.map_cons, List.length_cons, List.length_cons, Nat.add_sub_add_right]
      rfl
    rw [es]
    refine ⟨S, S.F0, .oo c [] :: startE N.length ds, x, eK, r1, ?_⟩
    unfold mirrorI at p
    rw [List.length_cons, Nat.add_sub_cancel] at p
    cases e : m (.oo c [] :: startE N.length ds) x with
    | nx ρ x' =>
      rw [e] at p
      cases ρ with
      | nil => exact p.elim
      | cons s0 ρ' =>
        cases s0 with
        | oo c' fs =>
          dsimp only at p
          split at p
          · rename_i hc
            subst hc
            intro σ F' H' r'
            obtain ⟨v, e3, q, o, e4, b1, b2, b3, b4, b5, b6⟩ := r'.slot 0 _ rfl
            rw [eme] at b6
            cases b6
            exact p F' H' o r'.core b3 b4 b5
          · exact p.elim
        | _ => exact p.elim
    | ret d x' =>
      rw [e] at p
      exact p.elim
    | exc d fs ρ x' =>
      rw [e] at p
      exact fun σ F H dd r hd => p F H dd r.core hd
    | retN ds x' =>
      rw [e] at p
      exact p.elim
    | brk ρ x' =>
      rw [e] at p
      exact p.elim
    | cnt ρ x' =>
      rw [e] at p
      exact p.elim
    | out =>
      rw [e] at p
      exact p.elim
end
/-! ### self.f = e, while it is made -/
def putD (f : Str) (v : D) : Fl → Fl
  | [] => [(f, v)]
  | (g, x) :: r => if g = f then (g, v) :: r else (g, x) :: putD f v r
theorem RepF.put {K : PySem.W.Frag} {b : Option Addr} {F : Hp} {f : Str} {v : V} {d : D} (h : Rep K b F v d) : ∀ {vs : List (Str × V)} {fs : Fl}, RepF K b F vs fs → RepF K b F (putF f v vs) (putD f d fs)
  | _, _, .nil => .cons h .nil
  | _, _, .cons (k := g) (vs := vs) (ds := fs) (v := x) (d := y) h1 r => by
    show RepF K b F (if g = f then (g, v) :: vs else (g, x) :: putF f v vs) (if g = f then (g, d) :: fs else (g, y) :: putD f d fs)
    split
    · exact .cons h r
    · exact .cons h1 (RepF.put h r)
theorem RepF.length {K : PySem.W.Frag} {b : Option Addr} {F : Hp} : ∀ {vs : List (Str × V)} {fs : Fl}, RepF K b F vs fs → vs.length = fs.length
  | _, _, .nil => rfl
  | _, _, .cons _ r => by rw [List.length_cons, List.length_cons, RepF.length r]
section
variable {X : Cx} {W : WX}
def mSetA (i : Nat) (c f : Str) (m : MM D) : MS := mE m fun d ρ x => match ρ[i]? with
  | some (.oo c' fs) => if c' = c ∧ fs.length < 1000 then .nx (ρ.set i (.oo c (putD f d fs))) x else .out
  | _ => .out
theorem js_setA (i : Nat) {c f y : Str} {e : Expr} {p1 p2 pos : Pos} {m : MM D} (C : Cls X.K (He.ga X.K c)) (nf : NoAttr X.K (He.ga X.K c) f) (he : PE X e (rdE X.K W m)) (hN : X.N[i]? = some y := by rfl) (hv : Vis X.env.scope y := by first | exact Or.inl rfl | exact Or.inr (Or.inl rfl) | exact Or.inr (Or.inr rfl)) (hd : (y == ("__debug__" : Str)) = false := by decide) (hcd : (y == ("__classdict__" : Str)) = false := by decide)
    (hs : swapsWith e (some (.Attribute (.Name y p1) f p2)) pos.line X.env = pure false := by rfl) :
    PS X (.Assign [.Attribute (.Name y p1) f p2] e pos) (rdS X.K W (mSetA i c f m)) :=
  psI (ps_fld (pe_var (i := i) hN hv hd hcd) he hs) fun D σ H h => rd_E (rl := rlD) h fun S F H1 ρ x v d eK r hv p => by
    have hv : Rep S.K S.b F v d := hv
    split at p
    · rename_i c' fs e0
      split at p
      · rename_i hc
        obtain ⟨hc, hz⟩ := hc
        subst hc
        obtain ⟨u, eσ, q, o, e4, b1, b2, b3, b4, ⟨C', dx, vs, eo, eC, rf⟩, b6⟩ := r.slot i _ e0
        subst e4
        subst eo
        subst eC
        refine ⟨.ref q, eσ, q, _, dx, vs, rfl, b4, eK ▸ C, eK ▸ nf, by rw [rf.length]; exact hz, ?_⟩
        exact p _ _ _ (r.updS (s1 := .oo c' (putD f d fs)) e0 rfl rfl eσ b1 b2 b3 ⟨q, _, rfl, b1, b2, b3, upd_same, ⟨_, dx, _, rfl, rfl, rf.put hv⟩, b6⟩)
      · exact p.elim
    · exact p.elim
end
/-! ### C(e, ..) -/
section
variable {X : Cx} {CX : CXT} {k : Nat} {f C : Addr} {fd : FuncData} {ps : List Str} {sp : Sp} {ds : List Value} {dvs : List V} {E : St → XK} {x : Str} {p pos : Pos} {e : Expr} {es : List Expr} {t : TA}
/-- an instance made, at the slots σ -/
theorem run_makeS {pins : List (Addr × Obj)} {σ : L2.St} {H : Hp} {s : Shared} {Q : VK} {us : List Value} {vs : List V} (M : Mk X.K C f) (F : FnOk X.prog X.w X.K X.mg X.base CX k f fd ps sp) (hr : Room (k + 1) X.A) (hb : Binds X.K fd ps ds) (hd : Vals dvs ds)
    (hx : PassesAt CX X σ (E σ)) (I : Inv X pins σ H s) (r : Vals vs us)
    (h : ∀ x dx, H x = none → H dx = none → dx ≠ x → sp (.ref x :: (vs ++ dvs)) (upd (upd H dx (.own x)) x (.ins C dx [])) (fun v H2 => v = .non ∧ Q (.ref x) H2) (E σ)) :
    wpAny (model X.prog X.w) X.A (call (.ref C) us)
      (EP X pins σ Q) X.xe s := by
  have I2 :=
    Inv.made (C := C) I
  have q0 := h (s.heap.objs.size + 1) s.heap.objs.size (I.hok.fresh (Nat.le_succ _)) (I.hok.fresh (Nat.le_refl _)) (Nat.ne_of_lt (Nat.lt_succ_self _))
  have rr : Vals (V.ref (s.heap.objs.size + 1) :: (vs ++ dvs)) (Value.ref (s.heap.objs.size + 1) :: (us ++ ds)) := .cons rfl (r.append hd)
  have len : (Value.ref (s.heap.objs.size + 1) :: us ++ ds).length = ps.length := by
    rw [← F.len _ _ _ _ q0]
    exact rr.length.symm
  refine wpAny_call (make_map (f := f) I.kIn M.makes M.init (beq_iff_eq.mp M.fn) (codeAny_mono (F.run _ X.stack _ _ ⟨_, []⟩ _ _ _ (E σ) (hr.make C us [])
    (I2.env0.make C us []) (hb _ (Value.ref (s.heap.objs.size + 1) :: us) I2.kIn len) rr q0) fun r s' hq => ?_))
  cases r with
  | error e => exact hx pins _ _ e s' I2 hq
  | ok fl =>
    cases fl with
    | ret u =>
      obtain ⟨v, H', I3, rv, ev, q3⟩ := I2.after hq
      subst ev
      exact ⟨rv, V.ref (s.heap.objs.size + 1), H', I3, rfl, q3⟩
    | next => exact hq.elim
    | brk => exact hq.elim
    | cont => exact hq.elim
def tMakeS (C : Addr) (sp : Sp) (dvs : List V) (E : St → XK) (t : TA) : TE := fun σ H Q => t σ H fun vs H1 => ∀ x dx, H1 x = none → H1 dx = none → dx ≠ x → sp (.ref x :: (vs ++ dvs)) (upd (upd H1 dx (.own x)) x (.ins C dx [])) (fun v H2 => v = .non ∧ Q (.ref x) H2) (E σ)
theorem pe_makeS (M : Mk X.K C f) (F : FnOk X.prog X.w X.K X.mg X.base CX k f fd ps sp) (hr : Room (k + 1) X.A) (hg : Gl X x) (hm : X.mg x = some (.ref C)) (hb : Binds X.K fd ps ds) (hd : Vals dvs ds) (hx : ∀ σ, PassesAt CX X σ (E σ))
    (ha : PA X (e :: es) t) (hdb : (x == ("__debug__" : Str)) = false := by decide)
      (he : starEach (e :: es) X.env = (false, eval e X.env) :: starEach es X.env := by rfl)
        (hpl : (backTo pos (starEach es X.env)).any (·.1) = false := by rfl) :
    PE X (.Call (.Name x p) (e :: es) [] pos) (tMakeS C sp dvs E t) := by
  refine ⟨fun pins s σ H Q I h =>
    ?_⟩
  refine wpAny_Call_Name_kw
    (ld_glob I hg hm ?_ hdb)
  exact PySem.W.callWith_K (h₀ := X.base) I.ok.mod.kin M.kp (thn (ha.run pos pins s σ H _ I h) fun us s1 ⟨vs, H1, I1, r, q⟩ => ⟨I1.kIn, run_makeS M F hr hb hd (hx σ) I1 r q⟩) he hpl
theorem pe_makeS0 (M : Mk X.K C f) (F : FnOk X.prog X.w X.K X.mg X.base CX k f fd ps sp) (hr : Room (k + 1) X.A) (hg : Gl X x) (hm : X.mg x = some (.ref C)) (hb : Binds X.K fd ps ds) (hd : Vals dvs ds) (hx : ∀ σ, PassesAt CX X σ (E σ))
    (hdb : (x == ("__debug__" : Str)) = false := by decide) : PE X (.Call (.Name x p) [] [] pos) (tMakeS C sp dvs E tNil) := by
  refine ⟨fun pins s σ H Q I h =>
    ?_⟩
  refine wpAny_Call_Name_kw
    (ld_glob I hg hm ?_ hdb)
  exact PySem.W.callWith_K0 I.kIn M.kp (run_makeS (us := []) M F hr hb hd (hx σ) I .nil h)
end
/-! ### the class, whole -/
structure InitO (P : Program) (w : World) (K : PySem.W.Frag) (mg : Str → Option Value) (base : Heap) (k : Nat) (c : Str) (n : Nat) (fi : MrI) (dds : List D) : Prop where
  ex : ∃ (f : Addr) (fd : FuncData) (ps : List Str) (dvs : List V) (dvl : List Value), Mk K (He.ga K c) f ∧ FnOk P w K mg base (L2.CX P w) k f fd ps (spInit K c n fi) ∧ Binds K fd ps [] ∧ Binds K fd ps dvl ∧ Vals dvs dvl ∧ ∀ b F, RepL K b F dvs dds
  gm : mg c = some (.ref (He.ga K c))
theorem Core.me {S : Cf} {F H : Hp} {x : Bx} (m : Option Addr) (c : Core S F H x) : Core { S with me := m } F H x := ⟨c.sub, c.f0, c.fresh, c.keep, c.box⟩
def mMake (c : Str) (n : Nat) (fi : MrI) (ms : MM (List D)) : MM D := mBind ms fun ds => fun _ x => if ds.length = n then (match fi ds x with
  | .val fs x' => .val (.obj c fs) x'
  | .exc d fs x' => .exc d fs x'
  | .out => .out) else .out
section
variable {X : Cx} {W : WX}
theorem make_go {c : Str} {n : Nat} {fi : MrI} {S : Cf} {F H : Hp} {σ : L2.St} {ρ : En} {x : Bx} {vs : List V} {ds : List D} {Q : VK} (eK : S.K = X.K) (r : Rel S F H σ ρ x) (hv : RepL S.K S.b F vs ds)
    (p : Post rlD S W σ F H ρ (if ds.length = n then (match fi ds x with
      | .val fs x' => .val (.obj c fs) x'
      | .exc d fs x' => .exc d fs x'
      | .out => .out) else .out) Q) (a dx : Addr) (na : H a = none) (nd : H dx = none) (ne : dx ≠ a) :
    spInit X.K c n fi (.ref a :: vs) (upd (upd H dx (.own a)) a (.ins (He.ga X.K c) dx [])) (fun v H2 => v = .non ∧ Q (.ref a) H2) (WE W σ) := by
  split at p
  · rename_i hz
    refine ⟨⟨S.K, S.b, H, F, some a⟩, x, ds, a, dx, vs, rfl, eK, rfl, na, nd, ne, rfl, r.core.enter.me (some a), hv, hz, ?_⟩
    cases e : fi ds x with
    | out =>
      rw [e] at p
      exact p
    | exc d fs x' =>
      rw [e] at p
      intro F' H' dd c' hd
      obtain ⟨a1, a2, a3⟩ := r.back (c'.me S.me)
      exact p F' H' dd a1 a2 a3 hd
    | val fs x' =>
      rw [e] at p
      intro F' H' o c' nF hH ok
      refine ⟨rfl, ?_⟩
      obtain ⟨a1, a2, a3⟩ := r.back (c'.me S.me)
      have rf := a1.freeze (o' := o) (r.core.ne_box na) (r.core.n0 na) nF hH fun i t ei ot z => r.own_there ei ot z na
      have eH : upd H' a o = H' := by
        funext q
        by_cases hq : q = a
        · subst hq
          rw [upd_same, hH]
        · rw [upd_ne hq]
      rw [eH] at rf
      have sF : Same F' (upd F' a o) := Same.new nF
      have ok : InsOk S.K S.b F' o c fs := ok
      exact p (.ref a) _ H' rf (a2.trans sF) a3 (insOk_rep upd_same (ok.mono sF))
  · exact p.elim
theorem j_make {k n : Nat} {c : Str} {fi : MrI} {dds : List D} {e : Expr} {es : List Expr} {p pos : Pos} {ms : MM (List D)} (O : InitO X.prog X.w X.K X.mg X.base k c n fi dds) (hr : Room (k + 1) X.A) (tk : Takes X W) (ha : PA X (e :: es) (rdA X.K W ms)) (hg : Gl X c := by rfl) (hdb : (c == ("__debug__" : Str)) = false := by decide) (he : starEach (e :: es) X.env = (false, eval e X.env) :: starEach es X.env := by rfl) (hpl : (backTo pos (starEach es X.env)).any (·.1) = false := by rfl) :
    PE X (.Call (.Name c p) (e :: es) [] pos) (rdE X.K W (mMake c n fi ms)) := by
  obtain ⟨f, fd, ps, dvs, dvl, M, F, b, _⟩ := O.ex
  refine peI (pe_makeS M F hr hg O.gm b .nil (fun σ => passAt tk σ) ha hdb he hpl) fun σ H Q q => rd_kw q fun S F1 H1 ρ x vs ds eK r hv q2 a dx na nd ne => ?_
  rw [List.append_nil]
  exact make_go eK r hv q2 a dx na nd ne
/-- C() -/
def mMake0 (c : Str) (fi : MrI) (dds : List D) : MM D := fun _ x => match fi dds x with
  | .val fs x' => .val (.obj c fs) x'
  | .exc d fs x' => .exc d fs x'
  | .out => .out
theorem j_make0 {k n : Nat} {c : Str} {fi : MrI} {dds : List D} {p pos : Pos} (O : InitO X.prog X.w X.K X.mg X.base k c n fi dds) (hr : Room (k + 1) X.A) (tk : Takes X W) (hn : dds.length = n := by rfl) (hg : Gl X c := by rfl) (hdb : (c == ("__debug__" : Str)) = false := by decide) :
    PE X (.Call (.Name c p) [] [] pos) (rdE X.K W (mMake0 c fi dds)) := by
  obtain ⟨f, fd, ps, dvs, dvl, M, F, _, b, hd, hv⟩ := O.ex
  refine peI (pe_makeS0 M F hr hg O.gm b hd (fun σ => passAt tk σ) hdb) fun σ H Q q => ?_
  obtain ⟨S, F1, ρ, x, eK, r, q2⟩ := q
  intro a dx na nd ne
  refine make_go eK r (eK ▸ hv S.b F1) ?_ a dx na nd ne
  rw [if_pos hn]
  exact q2
end
end Mi

/-! Mi27: two except clauses; keywords in any order; d[a], d[b] = e, f; x += e; a = b = e. -/
namespace Mi
open PySem
open PySem.Spec PyProof.Rows L2
/-! ### try: .., except C as n: .., except D as m: .. -/
def wAsT2 (K : PySem.W.Frag) (c c' : Value) (i i' : Nat) (ts ts' : TS) (D : Ends) : WX := fun cls d σ H =>
  ∃ C, cls = .ref C ∧ ((PySem.W.exmOne K cls c = some true ∧ ∀ a, H a = none → ts (endsT i D) (σ.set i (some (.ref a))) (upd H a (exv a C d))) ∨
    (PySem.W.exmOne K cls c = some false ∧ PySem.W.exmOne K cls c' = some true ∧ ∀ a, H a = none → ts' (endsT i' D) (σ.set i' (some (.ref a))) (upd H a (exv a C d))))
section
variable {X : Cx} {x n x' n' : Str} {c c' : Addr} {i i' : Nat} {body suite suite' : List Stmt} {b₀ b₀' : Stmt} {np np' pos pos' pos'' : Pos} {tb : WX → TS} {ts ts' : TS}
theorem clause_yes {pins : List (Addr × Obj)} {σ : L2.St} {H : Hp} {s : Shared} {a C : Addr} {d : Option Addr} {D : Ends} {rest : List ExceptHandler} (ok : X.Ok) (hN : X.N.Nodup) (hi : X.N[i]? = some n) (hl : X.env.kindOf n = some .local) (hg : Gl X x) (hm : X.mg x = some (.ref c)) (hdb : (x == ("__debug__" : Str)) = false)
    (hsu : ∀ (a : Addr) (pn : List (Addr × Obj)), PSs (X.suite a pn) (b₀ :: suite) ts) (G : Got X pins σ H a C d s) (he : PySem.W.exmOne X.K (.ref C) (.ref c) = some true) (hts : ts (endsT i D) (σ.set i (some (.ref a))) (upd H a (exv a C d))) :
    wpAny (model X.prog X.w) X.A (handleBy (.ref a) X.env (.ExceptHandler (some (.Name x np)) (some n) (b₀ :: suite) pos' :: rest)) (SP X pins D) X.xe s := by
  refine wpAny_handleBy_cons (codeAny_handlers_test ?_) fun q => nomatch q
  refine ld_glob (X := X.suite a (X.pn ++ pins)) (suite_in G.inv a) hg hm ?_ hdb
  refine (PySem.W.exm_one G.inv.kIn (G.cls _) he).here ?_
  refine (show codeAny _ _ (.handlers _ _ _) _ _ from codeAny_handlers_suite_as (G.again fun s4 G4 => ?_))
  refine store_ok (X := X.suite a (X.pn ++ pins)) (v := .ref a) (suite_in G4.kept a) hN hi (.inl hl) rfl (fun s5 S5 => ?_) (.inr hl)
  exact wpAny_mono ((hsu a _).run [] s5 _ _ _ S5 hts) (suite_ends ok hN hi hl) fun _ _ z => z.elim
theorem clause_no {pins : List (Addr × Obj)} {σ : L2.St} {H : Hp} {s : Shared} {a C : Addr} {d : Option Addr} {D : Ends} {h : Option Str} {b : List Stmt} {rest : List ExceptHandler} (hg : Gl X x) (hm : X.mg x = some (.ref c)) (hdb : (x == ("__debug__" : Str)) = false)
    (G : Got X pins σ H a C d s) (he : PySem.W.exmOne X.K (.ref C) (.ref c) = some false) (next : wpAny (model X.prog X.w) X.A (handleBy (.ref a) X.env rest) (SP X pins D) X.xe s) :
    wpAny (model X.prog X.w) X.A (handleBy (.ref a) X.env (.ExceptHandler (some (.Name x np)) h b pos' :: rest)) (SP X pins D) X.xe s := by
  refine wpAny_handleBy_cons (codeAny_handlers_test ?_) fun q => nomatch q
  refine ld_glob (X := X.suite a (X.pn ++ pins)) (suite_in G.inv a) hg hm ?_ hdb
  refine (PySem.W.exm_one G.inv.kIn (G.cls _) he).here ?_
  exact next
theorem ps_try_err2 (hs : X.stack = X.env :: X.outer) (hf : X.env.frame = some X.env.locals) (hN : X.N.Nodup) (hi : X.N[i]? = some n) (hl : X.env.kindOf n = some .local) (hg : Gl X x) (hm : X.mg x = some (.ref c)) (hdb : (x == ("__debug__" : Str)) = false)
    (hi' : X.N[i']? = some n') (hl' : X.env.kindOf n' = some .local) (hg' : Gl X x') (hm' : X.mg x' = some (.ref c')) (hdb' : (x' == ("__debug__" : Str)) = false)
    (hb : ∀ (W : WX) (pn : List (Addr × Obj))
      (xe : Value → Shared → Prop), Takes (X.tr pn xe) W → PassesOwn (model X.prog X.w) X.A X.env xe → PSs (X.tr pn xe) body (tb W))
    (hsu : ∀ (a : Addr) (pn : List (Addr × Obj)), PSs (X.suite a pn) (b₀ :: suite) ts) (hsu' : ∀ (a : Addr) (pn : List (Addr × Obj)), PSs (X.suite a pn) (b₀' :: suite') ts') :
    PS X (.Try body [.ExceptHandler (some (.Name x np)) (some n) (b₀ :: suite) pos', .ExceptHandler (some (.Name x' np')) (some n') (b₀' :: suite') pos''] [] [] pos) (fun D σ H => tb (wAsT2 X.K (.ref c) (.ref c') i i' ts ts' D) D σ H) :=
  ⟨fun pins s σ H D I h => by
    have ok := I.ok
    have hfr : X.A.frames = some (X.env :: X.outer) := hs ▸ ok.frames
    refine wpAny_Try_except (wpAny_mono ((hb _ (X.pn ++ pins) _ (fun u s' xx => ?_) PassesOwn.looking).run [] s σ H D (I.toTry _) h) (fun f s1 out => ?_) fun _ _ z => z)
    · obtain ⟨a, B, s0, _, σ', H', cls, d, rfl, J, nb, up, sky, na, os, ag, C, rfl, hw⟩ := xx
      refine Sky.land Zc.steady hfr hf (hs ▸ sky) fun h3 fl3 up3 => ?_
      have G : Got X pins σ' H' a C d { s' with heap := h3 } := ⟨⟨B, s0, J.ofTry ok, nb, up.trans up3, hs ▸ fl3, os, ag⟩, na⟩
      rcases hw with ⟨he, hts⟩ | ⟨he, he', hts⟩
      · exact clause_yes ok hN hi hl hg hm hdb hsu G he (hts a na)
      · exact clause_no hg hm hdb G he (clause_yes ok hN hi' hl' hg' hm' hdb' hsu' G he' (hts a na))
    · match f, out with
      | .next, ⟨_, _, J, q⟩ => exact wpAny_execs_nil ⟨_, _, J.ofTry ok, q⟩
      | .brk, ⟨_, _, J, q⟩ => exact ⟨_, _, J.ofTry ok, q⟩
      | .cont, ⟨_, _, J, q⟩ => exact ⟨_, _, J.ofTry ok, q⟩
      | .ret _, ⟨_, _, _, J, r, q⟩ => exact ⟨_, _, _, J.ofTry ok, r, q⟩⟩
end
/-- a suite at work on the caught error -/
def mSuite (i : Nat) (c : Str) (fs : Fl) (ms : MS) (ρ1 : En) (x1 : Bx) : RS := match ms (ρ1.set i (.fz (.err c fs))) x1 with
  | .nx ρ2 x2 => .nx (wipeE ρ2 [i]) x2
  | .brk ρ2 x2 => .brk (wipeE ρ2 [i]) x2
  | .cnt ρ2 x2 => .cnt (wipeE ρ2 [i]) x2
  | .ret d x2 => .ret d x2
  | _ => .out
def mTry2 (tab tab' : List (Str × Bool)) (i i' : Nat) (mb ms ms' : MS) : MS := fun ρ x => match mb ρ x with
  | .exc c fs ρ1 x1 => (match tab.lookup c, tab'.lookup c with
    | some true, _ => mSuite i c fs ms ρ1 x1
    | some false, some true => mSuite i' c fs ms' ρ1 x1
    | _, _ => .out)
  | r => r
section
variable {X : Cx} {W : WX}
theorem suite_go {K : PySem.W.Frag} {S : Cf} {F1 H1 : Hp} {σ1 : L2.St} {ρ1 : En} {x1 : Bx} {c : Str} {fs : Fl} {dd : Option Addr} {i : Nat} {ms : MS} {D : Ends} (eK : S.K = K) (r1 : Rel S F1 H1 σ1 ρ1 x1) (hd : XdOk S F1 dd fs) (p : PostS S W (mSuite i c fs ms ρ1 x1) D) (a : Addr) (na : H1 a = none) :
    rdS K Wf ms (endsT i D) (σ1.set i (some (.ref a))) (upd H1 a (exv a (He.ga S.K c) dd)) := by
  refine ⟨S, _, _, x1, eK, (r1.alloc na).put i (rep_err r1 na hd), ?_⟩
  unfold mSuite at p
  generalize ms (ρ1.set i (.fz (.err c fs))) x1 = R1 at p
  cases R1 with
  | nx ρ2 x2 => exact fun σ2 F2 H2 r2 => p _ F2 H2 (r2.wipe [i])
  | brk ρ2 x2 => exact fun σ2 F2 H2 r2 => p _ F2 H2 (r2.wipe [i])
  | cnt ρ2 x2 => exact fun σ2 F2 H2 r2 => p _ F2 H2 (r2.wipe [i])
  | ret d x2 => exact p
  | retN d x2 => exact p.elim
  | exc c2 fs2 ρ2 x2 => exact p.elim
  | out => exact p
theorem rd_try2 {K : PySem.W.Frag} {tab tab' : List (Str × Bool)} {i i' : Nat} {mb ms ms' : MS} {cv cv' : Value} (ht : TabX K tab cv) (ht' : TabX K tab' cv') {D : Ends} {σ : L2.St} {H : Hp} (h : rdS K W (mTry2 tab tab' i i' mb ms ms') D σ H) : rdS K (wAsT2 K cv cv' i i' (rdS K Wf ms) (rdS K Wf ms') D) mb D σ H := by
  obtain ⟨S, F, ρ, x, eK, r, p⟩ := h
  refine ⟨S, F, ρ, x, eK, r, ?_⟩
  unfold mTry2 at p
  generalize mb ρ x = R0 at p
  cases R0 with
  | exc c fs ρ1 x1 =>
    intro σ1 F1 H1 dd r1 hd
    dsimp only at p
    refine ⟨He.ga S.K c, rfl, ?_⟩
    cases h1 : tab.lookup c with
    | none =>
      rw [h1] at p
      cases h2 : tab'.lookup c <;> · rw [h2] at p; exact p.elim
    | some b =>
      cases b with
      | true =>
        rw [h1] at p
        exact .inl ⟨by rw [eK]; exact ht c true h1, fun a na => suite_go eK r1 hd p a na⟩
      | false =>
        cases h2 : tab'.lookup c with
        | none =>
          rw [h1, h2] at p
          exact p.elim
        | some b2 =>
          rw [h1, h2] at p
          cases b2 with
          | false => exact p.elim
          | true => exact .inr ⟨by rw [eK]; exact ht c false h1, by rw [eK]; exact ht' c true h2, fun a na => suite_go eK r1 hd p a na⟩
  | _ => exact p
theorem js_try2 {x n x' n' : Str} {i i' : Nat} {tab tab' : List (Str × Bool)} {body suite suite' : List Stmt} {b₀ b₀' : Stmt} {np np' pos pos' pos'' : Pos} {mb ms ms' : MS} (ht : TabX X.K tab (.ref (He.ga X.K x))) (ht' : TabX X.K tab' (.ref (He.ga X.K x'))) (hs : X.stack = X.env :: X.outer) (hf : X.env.frame = some X.env.locals) (hN : X.N.Nodup) (hm : X.mg x = some (.ref (He.ga X.K x))) (hm' : X.mg x' = some (.ref (He.ga X.K x'))) (tk : Takes X W)
    (hb : ∀ (W : WX) (pn : List (Addr × Obj)) (xe : Value → Shared → Prop), Takes (X.tr pn xe) W → PassesOwn (model X.prog X.w) X.A X.env xe → PSs (X.tr pn xe) body (rdS X.K W mb))
    (hsu : ∀ (a : Addr) (pn : List (Addr × Obj)), PSs (X.suite a pn) (b₀ :: suite) (rdS X.K Wf ms)) (hsu' : ∀ (a : Addr) (pn : List (Addr × Obj)), PSs (X.suite a pn) (b₀' :: suite') (rdS X.K Wf ms'))
    (hi : X.N[i]? = some n := by rfl) (hln : X.env.kindOf n = some .local := by rfl) (hg : Gl X x := by rfl) (hdb : (x == ("__debug__" : Str)) = false := by decide) (hi' : X.N[i']? = some n' := by rfl) (hln' : X.env.kindOf n' = some .local := by rfl) (hg' : Gl X x' := by rfl) (hdb' : (x' == ("__debug__" : Str)) = false := by decide) :
    PS X (.Try body [.ExceptHandler (some (.Name x np)) (some n) (b₀ :: suite) pos', .ExceptHandler (some (.Name x' np')) (some n') (b₀' :: suite') pos''] [] [] pos) (rdS X.K W (mTry2 tab tab' i i' mb ms ms')) :=
  psI (ps_try_err2 (tb := fun W => rdS X.K W mb) hs hf hN hi hln hg hm hdb hi' hln' hg' hm' hdb' hb hsu hsu') fun D σ H h => rd_try2 ht ht' h
end
end Mi
namespace Mi
open PySem
open PySem.Spec PyProof.Rows L2
/-! ### keywords in any order; they may raise -/
def perm {α : Type} (pm : List Nat) (ws : List α) : List α := pm.filterMap (ws[·]?)
theorem perm_par {α β : Type} {R : α → β → Prop} {ws : List α} {us : List β} (h : PySem.Paired R ws us) : ∀ pm : List Nat, PySem.Paired R (perm pm ws) (perm pm us)
  | [] => .nil
  | i :: pm => by
    have ih := perm_par h pm
    have at_ : ∀ {ws : List α} {us : List β}, PySem.Paired R ws us → ∀ i : Nat, (ws[i]? = none ∧ us[i]? = none) ∨ ∃ a b, ws[i]? = some a ∧ us[i]? = some b ∧ R a b := by
      intro ws us h
      induction h with
      | nil => exact fun i => .inl ⟨rfl, rfl⟩
      | cons h1 _ ih =>
        intro i
        cases i with
        | zero => exact .inr ⟨_, _, rfl, rfl, h1⟩
        | succ i => exact ih i
    unfold perm at ih ⊢
    rw [List.filterMap_cons, List.filterMap_cons]
    rcases at_ h i with ⟨e1, e2⟩ | ⟨a, b, e1, e2, r⟩
    · rw [e1, e2]
      exact ih
    · rw [e1, e2]
      exact .cons r ih
theorem repL_paired {K : PySem.W.Frag} {b : Option Addr} {F : Hp} : ∀ {vs : List V} {ds : List D}, RepL K b F vs ds → PySem.Paired (fun v d => Rep K b F v d) vs ds
  | _, _, .nil => .nil
  | _, _, .cons h r => .cons h (repL_paired r)
theorem paired_repL {K : PySem.W.Frag} {b : Option Addr} {F : Hp} : ∀ {vs : List V} {ds : List D}, PySem.Paired (fun v d => Rep K b F v d) vs ds → RepL K b F vs ds
  | _, _, .nil => .nil
  | _, _, .cons h r => .cons h (paired_repL r)
/-- how the keywords ks are bound -/
def KwB (K : PySem.W.Frag) (x : Str) (ps ks : List Str) (pm : List Nat) : Prop := ∀ fd, FdAt K x fd → ∀ (s : Shared) (ws : List Value), ws.length = ks.length → BindsTo s fd ⟨[], ks.zip ws⟩ (ps.zip (perm pm ws))
section
variable {X : Cx} {W : WX} {ps ks : List Str} {k : Nat} {g : Mr} {ms : MM (List D)} {y : Str} {p pos : Pos}
theorem spM_of {K : PySem.W.Frag} {S : Cf} {F H : Hp} {σ : L2.St} {ρ : En} {x : Bx} {n : Nat} {f : Mr} {vs : List V} {ds : List D} {Q : VK} (eK : S.K = K) (r : Rel S F H σ ρ x) (h : RepL S.K S.b F vs ds)
    (p : Post rlD S W σ F H ρ (if ds.length = n then f ds x else .out) Q) : spM K n f vs H Q (WE W σ) ∧ ds.length = n := by
  split at p
  · rename_i hz
    refine ⟨⟨⟨S.K, S.b, H, F, S.me⟩, x, ds, eK, rfl, r.core.enter, h, hz, ?_⟩, hz⟩
    cases e2 : f ds x with
    | out =>
      rw [e2] at p
      exact p
    | val d x3 =>
      rw [e2] at p
      intro v F3 H3 c3 h3
      obtain ⟨a1, a2, a3⟩ := r.back c3
      exact p v F3 H3 a1 a2 a3 h3
    | exc c fs x3 =>
      rw [e2] at p
      intro F3 H3 dd c3 h3
      obtain ⟨a1, a2, a3⟩ := r.back c3
      exact p F3 H3 dd a1 a2 a3 h3
  · exact p.elim
def mDefK (n : Nat) (pm : List Nat) (f : Mr) (ms : MM (List D)) : MM D := mBind ms fun ds => fun _ x => if ds.length = pm.length then (if (perm pm ds).length = n then f (perm pm ds) x else .out) else .out
theorem j_callKX {kws : List Keyword} {n : Nat} {pm : List Nat} (O : OkD X.prog X.w X.K X.mg X.base k y ps g) (B : KwB X.K y ps ks pm) (hr : Room k X.A) (tk : Takes X W) (hkw : PK X kws (rdA X.K W ms)) (hn : ps.length = n := by rfl) (hks : (backToKw pos (keywordEach kws X.env)).filterMap (·.1) = ks := by rfl) (hall : (backToKw pos (keywordEach kws X.env)).all (·.1.isSome) = true := by rfl) (hlen : ks.length = pm.length := by rfl) (hg : Gl X y := by rfl) (hdb : (y == ("__debug__" : Str)) = false := by decide)
    (hpl : ((backTo pos (starEach [] X.env)).any (·.1) || (backToKw pos (keywordEach kws X.env)).any (·.1.isNone)) = false :=
      by rfl) :
    PE X (.Call (.Name y p) [] kws pos) (rdE X.K W (mDefK n pm g ms)) := by
  subst hn
  obtain ⟨fd, F, _, _, at_⟩ := O.ex
  refine ⟨fun pins s σ H Q I h =>
    ?_⟩
  refine wpAny_Call_Name_kw (ld_glob I hg O.gm ?_ hdb)
  have h2 : rdA X.K W ms σ H fun zs H2 => spM X.K ps.length g (perm pm zs) H2 Q (WE W σ) ∧ zs.length = pm.length := rd_kw h fun S F1 H' ρ x vs ds eK r hv q => by
    have hv : RepL S.K S.b F1 vs ds := hv
    have hp := paired_repL (perm_par (repL_paired hv) pm)
    split at q
    · rename_i hz
      exact ⟨(spM_of eK r hp q).1, by rw [hv.length]; exact hz⟩
    · exact q.elim
  refine PySem.W.callWith_KW0 (h₀ := X.base) I.ok.mod.kin O.kp hall (thn (hkw.run pos pins s σ H _ I h2) fun ws s2 ⟨zs, H2, I2, rz, q2, ql⟩ => ⟨I2.kIn, ?_⟩) hpl
  rw [hks]
  have rp : Vals (perm pm zs) (perm pm ws) := perm_par rz pm
  have hl : ws.length = ks.length := by
    rw [← rz.length, hlen]
    exact ql
  refine wpAny_call (codeAny_mono (F.run X.A X.stack s2 H2 ⟨[], ks.zip ws⟩ (perm pm ws) (perm pm zs) Q (WE W σ) hr I2.env0 (B fd at_ s2 ws hl) rp q2) fun r s' hq => ?_)
  cases r with
  | error e => exact passAt tk σ pins H2 s2 e s' I2 hq
  | ok fl =>
    cases fl with
    | ret u => exact I2.after hq
    | next => exact False.elim hq
    | brk => exact False.elim hq
    | cont => exact False.elim hq
end
end Mi
namespace Mi
open PySem
open PySem.Spec PyProof.Rows L2
/-! ### d[a], d[b] = e: d owned -/
def putAt (i : Nat) (k d : D) (ρ : En) : Option En := match ρ[i]? with
  | some (.od kds) => (match keyD k with
    | some key => if kds.length < big then some (ρ.set i (.od (putA kds key d))) else none
    | none => none)
  | _ => none
def mAsgDD (i : Nat) (mk1 mk2 m : MM D) : MS := mE m fun d ρ x => match d with
  | .tup [d1, d2] => (match ρ[i]? with
    | some (.od _) => mE mk1 (fun k1 ρ x => match putAt i k1 d1 ρ with
      | some ρ1 => mE mk2 (fun k2 ρ1 x => match putAt i k2 d2 ρ1 with
        | some ρ2 => .nx ρ2 x
        | none => .out) ρ1 x
      | none => .out) ρ x
    | _ => .out)
  | _ => .out
section
variable {X : Cx} {W : WX}
theorem put_go {S : Cf} {F H : Hp} {σ : L2.St} {ρ ρ1 : En} {x : Bx} {i : Nat} {k d : D} {vk v : V} {a : Addr} (r : Rel S F H σ ρ x) (hk : Rep S.K S.b F vk k) (hv : Rep S.K S.b F v d) (e : putAt i k d ρ = some ρ1) (ea : σ[i]? = some (some (.ref a))) : ∃ H', DPut H a vk v H' ∧ Rel S F H' σ ρ1 x := by
  unfold putAt at e
  split at e
  · rename_i kds e0
    obtain ⟨q, vs, eσ, nb, n0, nF, hH, hr⟩ := r.getD e0
    rw [ea] at eσ
    cases eσ
    split at e
    · rename_i key ek
      have ev := hk.key ek
      subst ev
      split at e
      · rename_i hz
        cases e
        exact ⟨_, .inl ⟨vs, key, hH, rfl, by rw [hr.length]; exact big_lt hz, rfl⟩, r.updS (s1 := .od (putA kds key d)) e0 rfl rfl ea nb n0 nF ⟨a, _, rfl, nb, n0, nF, upd_same, hr.put key hv⟩⟩
      · cases e
    · cases e
  · cases e
theorem js_asgDD (i : Nat) {y : Str} {e j1 j2 : Expr} {p1 p2 p3 p4 pt pos : Pos} {kt : Nat} {m mk1 mk2 : MM D} (hc : X.calm = true) (hu : X.A.units + 1 < cLine) (he : PE X e (rdE X.K W m)) (hj1 : PE X j1 (rdE X.K W mk1)) (hj2 : PE X j2 (rdE X.K W mk2)) (hN : X.N[i]? = some y := by rfl) (hv : Vis X.env.scope y := by first | exact Or.inl rfl | exact Or.inr (Or.inl rfl) | exact Or.inr (Or.inr rfl)) (hd : (y == ("__debug__" : Str)) = false := by decide) (hcd : (y == ("__classdict__" : Str)) = false := by decide)
    (hs : swapsWithSole [.Tuple [.Subscript (.Name y p1) j1 p2, .Subscript (.Name y p3) j2 p4] kt pt] e pos.line X.env = pure false := by rfl) (hw : swappedStores [.Tuple [.Subscript (.Name y p1) j1 p2, .Subscript (.Name y p3) j2 p4] kt pt] e X.env = pure none := by rfl)
    (h1 : (assignEach [.Tuple [.Subscript (.Name y p1) j1 p2, .Subscript (.Name y p3) j2 p4] kt pt] X.env).map (·.2) = [assign (.Tuple [.Subscript (.Name y p1) j1 p2, .Subscript (.Name y p3) j2 p4] kt pt) X.env] := by rfl)
    (h2 : ∀ v, assign (.Subscript (.Name y p1) j1 p2) X.env v = (do let ov ← holding [v] (eval (.Name y p1) X.env); let iv ← holding [v, ov] (eval j1 X.env); standAt p2; holding [v, ov, iv] (setItem ov iv v); release [v, ov, iv] []) := by intro _; rfl) (h3 : ∀ v, assign (.Subscript (.Name y p3) j2 p4) X.env v = (do let ov ← holding [v] (eval (.Name y p3) X.env); let iv ← holding [v, ov] (eval j2 X.env); standAt p4; holding [v, ov, iv] (setItem ov iv v); release [v, ov, iv] []) := by intro _; rfl)
    (hn : (assignEach [Expr.Subscript (.Name y p1) j1 p2, .Subscript (.Name y p3) j2 p4] X.env).length = 2 := by rfl) (hst : (assignEach [Expr.Subscript (.Name y p1) j1 p2, .Subscript (.Name y p3) j2 p4] X.env).findIdx? (·.1) = none := by rfl)
    (g1 : List.map (fun x => x.snd) (assignEach [Expr.Subscript (.Name y p1) j1 p2, .Subscript (.Name y p3) j2 p4] X.env) = assign (.Subscript (.Name y p1) j1 p2) X.env :: List.map (fun x => x.snd) (assignEach [Expr.Subscript (.Name y p3) j2 p4] X.env) := by rfl) (g2 : List.map (fun x => x.snd) (assignEach [Expr.Subscript (.Name y p3) j2 p4] X.env) = assign (.Subscript (.Name y p3) j2 p4) X.env :: List.map (fun x => x.snd) (assignEach [] X.env) := by rfl) :
    PS X (.Assign [.Tuple [.Subscript (.Name y p1) j1 p2, .Subscript (.Name y p3) j2 p4] kt pt] e pos) (rdS X.K W (mAsgDD i mk1 mk2 m)) :=
  psI (ps_asg he (pg_tup hc (pgs_cons (pg_sub (pe_var (i := i) hN hv hd hcd) hj1 (set_dict hu) h2) (pgs_cons (pg_sub (pe_var (i := i) hN hv hd hcd) hj2 (set_dict hu) h3) pgs_nil g2) g1) hn hst) hs hw h1) fun D σ H h => rd_E (rl := rlD) h fun S F H1 ρ x v d eK r hv p => by
    have hv : Rep S.K S.b F v d := hv
    split at p
    · rename_i d1 d2
      cases hv with
      | tup ht hl =>
        obtain ⟨v1, v2, ev, hv1, hv2⟩ := rep2 hl
        subst ev
        refine ⟨_, _, rfl, sqTK eK r.core.sub ht, rfl, v1, [v2], rfl, ?_⟩
        split at p
        · rename_i k0 e0
          obtain ⟨q0, vs0, eσ, _⟩ := r.getD e0
          refine (show ∃ v, σ[i]? = some (some v) ∧ _ from ⟨.ref q0, eσ, ?_⟩)
          refine (show rdE X.K W mk1 σ H1 _ from ?_)
          refine ⟨S, F, ρ, x, eK, r, ?_⟩
          unfold mE at p
          cases e1 : mk1 ρ x with
          | out =>
            rw [e1] at p
            exact p
          | exc c fs x1 =>
            rw [e1] at p
            exact fun F' H' dd a1 _ _ a4 => p σ F' H' dd a1 a4
          | val k1 x1 =>
            rw [e1] at p
            intro vk F2 H2 r2 s2 _ hk
            have hk : Rep S.K S.b F2 vk k1 := hk
            dsimp only at p
            split at p
            · rename_i ρ1 e2
              obtain ⟨H3, dp, r3⟩ := put_go r2 hk (hv1.mono s2) e2 eσ
              refine ⟨q0, H3, rfl, dp, v2, [], rfl, ?_⟩
              refine (show ∃ v, σ[i]? = some (some v) ∧ _ from ⟨.ref q0, eσ, ?_⟩)
              refine (show rdE X.K W mk2 σ H3 _ from ?_)
              refine ⟨S, F2, ρ1, x1, eK, r3, ?_⟩
              cases e3 : mk2 ρ1 x1 with
              | out =>
                rw [e3] at p
                exact p
              | exc c fs x2 =>
                rw [e3] at p
                exact fun F' H' dd a1 _ _ a4 => p σ F' H' dd a1 a4
              | val k2 x2 =>
                rw [e3] at p
                intro vk2 F4 H4 r4 s4 _ hk2
                have hk2 : Rep S.K S.b F4 vk2 k2 := hk2
                dsimp only at p
                split at p
                · rename_i ρ2 e4
                  obtain ⟨H5, dp2, r5⟩ := put_go r4 hk2 ((hv2.mono s2).mono s4) e4 eσ
                  exact ⟨q0, H5, rfl, dp2, rfl, p _ _ _ r5⟩
                · exact p.elim
            · exact p.elim
        · exact p.elim
    · exact p.elim
end
end Mi
namespace Mi
open PySem PySem.Spec L2
/-! ### a class's defs as they stand -/
structure RawM (K : PySem.W.Frag) (name qual c : Str) (st : Stmt) : Prop where
  ex : ∃ p g fd, PropOf K (He.ga K c) name p g ∧ Fun K name qual st g fd ∧ Binds K fd ["self"] []
structure RawI (K : PySem.W.Frag) (mg : Str → Option Value) (c qual : Str) (st : Stmt) (ps : List Str) (dds : List D) : Prop where
  ex : ∃ f fd dvs dvl, Mk K (He.ga K c) f ∧ FunD K "__init__" qual (defArgs st) (defBody st) (defScope st) dvs [] f fd ∧ Binds K fd ps [] ∧ Binds K fd ps dvl ∧ Vals dvs dvl ∧ ∀ b F, RepL K b F dvs dds
  gm : mg c = some (.ref (He.ga K c))
section
variable {P : Program} {w : World} {K : PySem.W.Frag}
  {mg : Str → Option Value} {base : Heap}
theorem propO_mk {name qual c : Str} {st : Stmt} {k : Nat} {f : Mr} (R : RawM K name qual c st) (C : Cls K (He.ga K c)) (h : ∀ g fd, Fun K name qual st g fd → Binds K fd ["self"] [] → OkM P w K mg base k g ["self"] f) : PropO P w K mg base k c name f := by
  obtain ⟨p, g, fd, hp, F, b⟩ := R.ex
  exact ⟨⟨p, g, hp, h g fd F b⟩, C⟩
theorem initO_mk {c qual : Str} {st : Stmt} {ps : List Str} {dds : List D} {k n : Nat} {fi : MrI} (R : RawI K mg c qual st ps dds) (h : ∀ f fd dvs, FunD K "__init__" qual (defArgs st) (defBody st) (defScope st) dvs [] f fd → FnOk P w K mg base (L2.CX P w) k f fd ps (spInit K c n fi)) : InitO P w K mg base k c n fi dds := by
  obtain ⟨f, fd, dvs, dvl, M, F, b1, b2, hv, hr⟩ := R.ex
  exact ⟨⟨f, fd, ps, dvs, dvl, M, h f fd dvs F, b1, b2, hv, hr⟩, R.gm⟩
/-- one default that is an empty tuple -/
theorem rawI_tup0 {c qual : Str} {st : Stmt} {ps : List Str} {p0 p1 : Str} {f T t0 : Addr} {oc kV doc pm cdv ct : Value} {od an : Option Addr} {osl dsl tsl : Array (Option Value)} {do_ td : Option Addr} {dcl : Value} {dn tn : Nat}
    (M : Mk K (He.ga K c) f) (gm : mg c = some (.ref (He.ga K c))) (lk : K.lookup f = some ⟨oc, od, .func (PySem.W.fnOf "__init__" qual (defArgs st) (defBody st) (defScope st) (.ref T) kV doc pm an cdv ct), osl⟩) (hcd : PySem.W.codeIn K cdv qual = true) (kp : PySem.W.keepIn K (.ref f) = true)
    (lT : K.lookup T = some ⟨dcl, do_, .seq #[.ref t0] dn, dsl⟩) (l0 : K.lookup t0 = some ⟨.type "tuple", td, .seq #[] tn, tsl⟩) (hps : ps = [p0, p1])
    (h2 : ∀ (T : Addr) (kV doc pm : Value) (an : Option Addr) (cdv ct : Value) (a b d : Value), ∃ k, bindArgs (PySem.W.fnOf "__init__" qual (defArgs st) (defBody st) (defScope st) (.ref T) kV doc pm an cdv ct) ⟨[a, b], []⟩ = seqItems? (.ref T) >>= k ∧ k (some #[d]) = pure (ps.zip [a, b]))
    (h1 : ∀ (T : Addr) (kV doc pm : Value) (an : Option Addr) (cdv ct : Value) (a d : Value), ∃ k, bindArgs (PySem.W.fnOf "__init__" qual (defArgs st) (defBody st) (defScope st) (.ref T) kV doc pm an cdv ct) ⟨[a], []⟩ = seqItems? (.ref T) >>= k ∧ k (some #[d]) = pure (ps.zip [a, d])) :
    RawI K mg c qual st ps [.tup []] := by
  have rv : Vals [V.ref t0] [Value.ref t0] := .cons rfl .nil
  have F : FunD K "__init__" qual (defArgs st) (defBody st) (defScope st) [.ref t0] [] f (PySem.W.fnOf "__init__" qual (defArgs st) (defBody st) (defScope st) (.ref T) kV doc pm an cdv ct) :=
    ⟨⟨oc, od, .ref T, kV, doc, pm, an, cdv, ct, osl, rfl, lk, hcd, .inr ⟨by simp, T, _, [.ref t0], dn, rfl, lT, rfl, rv⟩, .inl rfl⟩, kp⟩
  have z2 : ps.length = 2 := by rw [hps]; rfl
  obtain ⟨ds, r1, b1⟩ := F.binds1 (ps := ps) 2 1 (by simp) (by rw [z2]; rfl) fun T kV doc pm an cdv ct us its e1 e2 => by
    match us, its, e1, e2 with
    | [a, b], [d], _, _ => exact h2 T kV doc pm an cdv ct a b d
  obtain ⟨dl, r2, b2⟩ := F.binds1 (ps := ps) 1 0 (by simp) (by rw [z2]; rfl) fun T kV doc pm an cdv ct us its e1 e2 => by
    match us, its, e1, e2 with
    | [a], [d], _, _ => exact h1 T kV doc pm an cdv ct a d
  cases r1
  exact ⟨⟨f, _, [.ref t0], dl, M, F, b1, b2, r2, fun b F => .cons (.tup (.inr ⟨_, #[], tn, l0, rfl, rfl, Nat.zero_le _, .nil⟩) .nil) .nil⟩, gm⟩
end
end Mi

/-! Mi28: len(set(xs)) of a tuple of texts. -/
namespace Mi
open PySem
open PySem.Spec PyProof.Rows L2
/-- how many unlike ones stand among the first i -/
def dst (xs : List Str) : Nat → Nat
  | 0 => 0
  | i + 1 => if (xs.take i).any (· == xs.getD i Str.empty) then dst xs i else dst xs i + 1
theorem dst_le (xs : List Str) : ∀ i, dst xs i ≤ i
  | 0 => Nat.le_refl _
  | i + 1 => by
    have := dst_le xs i
    unfold dst
    split <;> omega
abbrev Among (xs : List Str) (i : Nat) : Str → Bool := fun y => (xs.take i).any (· == y)
theorem among_step {xs : List Str} {i : Nat} (h : i < xs.length) (y : Str) : (Among xs i y || decide (y = xs.getD i Str.empty)) = Among xs (i + 1) y := by
  have e : xs.getD i Str.empty = xs[i] := by
    rw [List.getD_eq_getElem?_getD, List.getElem?_eq_getElem h]
    rfl
  have z : ∀ b : Str, decide (y = b) = (b == y) := fun b => Bool.eq_iff_iff.mpr ⟨fun p => by
    have := of_decide_eq_true p
    subst this
    exact beq_self_eq_true _, fun p => decide_eq_true (beq_iff_eq.mp p).symm⟩
  show ((xs.take i).any (· == y) || _) = (xs.take (i + 1)).any (· == y)
  rw [List.take_add_one, List.getElem?_eq_getElem h, e, List.any_append, z]
  simp
section
variable {prog : Program}
  {w : World} {A : Around}
  {E : Value → Shared → Prop} {s : Shared}
theorem tx_fill {Rz : Result → Shared → Prop} {It D : Addr} {fp wr : List Addr} {G : Array GenState → Array GenState → Prop} {m : Nat} {Pv : Nat → Value → Prop} {St : Nat → Shared → Prop} (W : WalksS prog w A.in1 It fp wr G m Pv St) (nf : D ∉ fp) (xs : List Str) (em : xs.length = m) (few : m + 1 < scanBound)
    (look : ∀ j v, Pv j v → ∃ t, v = .str (xs.getD j Str.empty) t) (left : Nat) : ∀ (j : Nat) (s : Shared), m - j = left → j ≤ m → St j s → s.heap.SetOf (strKind prog w) D (Among xs j) (dst xs j) →
      (∀ s2, Moved (D :: wr) G s s2 → s2.heap.SetOf (strKind prog w) D (Among xs m) (dst xs m) → Rz (.ok (.ret .none)) s2) → codeAny (model prog w) A (.builtin "set.update.loop" ⟨[.ref D, .ref It], []⟩) Rz s := by
  have nw : D ∉ wr := fun q => nf (W.sub _ q)
  have grow : ∀ b ∈ wr, b ∈ D :: wr := fun b => List.mem_cons_of_mem _
  induction left with
  | zero =>
    intro j s ej hj st hS fin
    obtain rfl : j = m := by omega
    refine codeAny_builtin
      PyProof.Rows.F.entry_set_update_loop ?_
    rw [Around.under_plainId
      PyProof.Rows.F.plain_set_update_loop _]
    show wpAny _ A.in1 (pyNext (.ref It) >>= _) _ _ s
    refine wpAny_bind (W.done s _ _ st fun s1 mv => ?_)
    refine (show wpAny _ A.in1 (ret Value.none) _ _ s1 from wpAny_pure (fin s1 (mv.mono grow) ?_))
    obtain ⟨o, es, ep, tb, ho, more⟩ := hS
    exact ⟨o, es, ep, tb, mv.heap D _ nw ho, more⟩
  | succ left ih =>
    intro j s ej hj st hS fin
    have lt : j < m := by omega
    refine codeAny_builtin
      PyProof.Rows.F.entry_set_update_loop ?_
    rw [Around.under_plainId
      PyProof.Rows.F.plain_set_update_loop _]
    show wpAny _ A.in1 (pyNext (.ref It) >>= _) _ _ s
    refine wpAny_bind (W.item j s _ _ lt st fun v s1 pv st1 mv => ?_)
    obtain ⟨t, rfl⟩ := look j v pv
    have hS1 : s1.heap.SetOf (strKind prog w) D (Among xs j) (dst xs j) := by
      obtain ⟨o, es, ep, tb, ho, more⟩ := hS
      exact ⟨o, es, ep, tb, mv.heap D _ nw ho, more⟩
    show wpAny _ A.in1 (holding [Value.str (xs.getD j Str.empty) t] (setAdd D (.str (xs.getD j Str.empty) t)) >>= _) _ _ s1
    refine wpAny_bind
      (wpAny_holding ?_)
    unfold setAdd
    refine wpAny_holding ?_
    refine wpAny_bind ((strKind prog w).pyHash (k := xs.getD j Str.empty) (strKind_is _ _ _ _) ?_)
    have := dst_le xs j
    refine wpAny_setAddHashed_of (knd := strKind prog w) (s := { s1 with toks := s1.toks + 1 }) (strKind_is _ _ _ _) rfl hS1 (by omega) fun h2 sb hS2 => ?_
    have hS3 : h2.SetOf (strKind prog w) D (Among xs (j + 1)) (dst xs (j + 1)) := SetOf_congr hS2 (fun y => among_step (by omega) y) rfl
    refine wpAny_pure ⟨plainId_quiet PyProof.Rows.F.plain_set_update_loop _, ih (j + 1) _ (by omega) lt (W.frame _ s1 _ _ st1 (Nat.le_succ _) fun b hb o e => ?_) hS3 fun s3 mv3 hS3 => ?_⟩
    · rw [sb.2 b fun q : b = D => nf (q ▸ hb)]
      exact e
    · refine fin s3 (Moved.trans W.gtrans ((mv.mono grow).then_heap (Nat.le_succ _) fun b o hb e => ?_) mv3) hS3
      rw [sb.2 b fun q : b = D => hb (q ▸ List.mem_cons_self)]
      exact e
/-- what a type's call makes of its arguments: its maker's code, then its initialiser, whose arguments are held by a check of their own -/
theorem type_by {T nw ini : String} {Bi : Builtin} {args : List Value} {Q Made : Value → Shared → Prop} (ft : TypeCalled T nw ini) (typ : checkTypeCall T ⟨args, []⟩ = pure ()) (en : entryFor table ini = some Bi) (make : codeAny (model prog w) A.in1 (.call (.builtin nw) ⟨.type T :: args, []⟩) (wants Made E) s)
    (fill : ∀ o s1, Made o s1 → (∀ (M : Model) (A' : Around) (E' : Value → Shared → Prop) (Q' : Unit → Shared → Prop), Q' () s1 → wpAny M A' (checkBuiltinCall ini ⟨o :: args, []⟩) Q' E' s1) ∧ s1.TypeIs o T ∧
      wpAny (model prog w) A.in1.in1 (Bi ⟨o :: args, []⟩) (fun fin s2 => match fin with
        | .done f => wants (fun r s3 => r = .none ∧ Q o s3) E (.ok f) s2
        | .again c => c.quiet = true ∧ codeAny (model prog w) A.in1 c (wants (fun r s3 => r = .none ∧ Q o s3) E) s2) (fun e s2 => wants (fun r s3 => r = .none ∧ Q o s3) E (.error e) s2) s1) : wpAny (model prog w) A (call (.type T) args) Q E s := by
  obtain ⟨⟨c, tl, m1⟩, m2, m3, m4, m5⟩ := And.intro ft.mro (And.intro ft.made (And.intro ft.sub (And.intro ft.notType ft.canCreate)))
  refine wpAny_call (codeAny_of_tree (show wpAny _ _ (callAny (.type T) _) _ _ _ from wpAny_pure ⟨Code.quiet_builtin _ (by decide +kernel), codeAny_builtin PySem.F.entry_type_call ?_⟩))
  rw [Around.under_plain
    (weight_type_call_type T args []) rfl]
  repeat any_goals first | assumption | wp_step
  refine codeAny_mono make fun r s1 q => ?_
  match r, q with
  | .error _, q => exact q
  | .ok .next, q => exact q.elim
  | .ok .brk, q => exact q.elim
  | .ok .cont, q => exact q.elim
  | .ok (.ret o), q =>
    obtain ⟨held, isT, body⟩ := fill o s1 q
    have l1 := ft.init.lookup
    have l2 := ft.init.bind o
    repeat any_goals first | assumption | wp_step
    refine codeAny_mono (codeAny_call_builtin ft.init.plain en (held _ _ _ _ body)) fun r2 s2 q2 => ?_
    match r2, q2 with
    | .error _, q2 => exact q2
    | .ok .next, q2 => exact q2.elim
    | .ok .brk, q2 => exact q2.elim
    | .ok .cont, q2 => exact q2.elim
    | .ok (.ret v), ⟨e1, q2⟩ =>
      subst e1
      repeat any_goals first | assumption | wp_step
abbrev newSet (w : World) : Obj := { cls := .type "set", dict := none, data := .set #[] 0 (.fresh 0 0 (!w.params.followText "set-order")) }
abbrev TxSet (prog : Program) (w : World) (s : Shared) (xs : List Str) (h : Heap) : Prop := h.SetOf (strKind prog w) s.heap.objs.size (Among xs xs.length) (dst xs xs.length) ∧ ∀ b o, s.heap.get? b = some o → h.get? b = some o
theorem tx_new {l : Addr} {items : Array Value} {xs : List Str} {Q : Value → Shared → Prop} (hh : A.handled = none) (isT : s.heap.IsTuple l items) (hi : StrsAre items.toList xs) (few : xs.length + 1 < scanBound)
    (h : ∀ (h1 : Heap) (tk : Nat), TxSet prog w s xs h1 → Q (.ref s.heap.objs.size) { s with heap := h1, toks := tk }) : wpAny (model prog w) A (call (.type "set") [.ref l]) Q E s := by
  have zs : items.size = xs.length := by rw [← StrsAre.len_eq hi, Array.length_toList]
  refine type_by (Made := fun o s1 => o = .ref s.heap.objs.size ∧ s1 = { s with heap := s.heap.push (newSet w) }) PySem.F.called_set (PySem.F.typeCall_set_1 (.ref l)) PySem.F.entry_set_init (code_set_led1 (.ref l) ⟨rfl, rfl⟩) fun o s1 made => ?_
  obtain ⟨e1, e2⟩ := made
  subst e1 e2
  have at0 : (s.heap.push (newSet w)).get? s.heap.objs.size = some (newSet w) := Heap.get?_push_size _ rfl
  have ty0 : Shared.TypeIs { s with heap := s.heap.push (newSet w) } (.ref s.heap.objs.size) "set" := ⟨_, at0, rfl⟩
  refine ⟨fun M A' E' Q' q => check_set_init_1 ty0 q, ty0, ?_⟩
  have isT1 : (s.heap.push (newSet w)).IsTuple l items := isT.push _
  obtain ⟨⟨c1, d1, t1, v1⟩, at1, k1, n1, k2⟩ := id isT1
  replace k1 : c1 = .type "tuple" := k1
  replace k2 : t1 = .seq items n1 := k2
  subst k1 k2
  obtain ⟨n2, n3, n4⟩ := And.intro PySem.F.sub_tuple_set (And.intro PySem.F.sub_tuple_frozenset (show (Value.type "tuple" == Value.type "dict") = false by decide))
  unfold Builtin.«set.__init__»
    noKeywords Builtin.Frozenset.updateFrom
  generalize key : pyIter = walk
  wp_walk
  subst key
  refine wpAny_pyIter_tuple isT1 (wpAny_bind (wpAny_runValue ?_))
  obtain ⟨o0, at2, _⟩ := id isT
  have lt : l < s.heap.objs.size := Heap.lt_size at2
  have h3 : A.in1.in1.in1.handled = none := by simp [hh]
  have ez : (s.heap.push (newSet w)).objs.size = s.heap.objs.size + 1 := Heap.size_push ..
  have look : ∀ (i : Nat) (v : Value), items[i]? = some v → ∃ t, v = .str (xs.getD i Str.empty) t := fun i v hv => SS.strs_at hi i v (by rw [Array.getElem?_toList]; exact hv)
  have ne1 : l ≠ s.heap.objs.size + 1 := Nat.ne_of_lt (Nat.lt_succ_of_lt lt)
  have nf : s.heap.objs.size ∉ [s.heap.objs.size + 1, l] := by
    simp only [List.mem_cons, List.not_mem_nil, or_false, not_or]
    exact ⟨Nat.ne_of_lt (Nat.lt_succ_self _), Nat.ne_of_gt lt⟩
  rw [← ez] at ne1 nf
  refine tx_fill (D := s.heap.objs.size) ((Walks.tuple h3 _ l ne1 items).toS) nf xs zs.symm (by omega) look (items.size - 0) 0 _ (by omega) (Nat.zero_le _) ⟨⟨_, Heap.get?_push_size _ rfl, rfl, rfl⟩, isT1.push _⟩ ?_ fun s4 mv hS4 => ?_
  · have hg := Heap.get?_push_of_some (h := s.heap.push (newSet w)) { cls := .type "tuple_iterator", data := .fields #[.ref l, .int 0 0] } at0
    exact SetOf_congr ((setObjOf_fresh (knd := strKind prog w) _).setOf hg (by unfold scanBound; omega)) (fun _ => rfl) rfl
  · obtain ⟨h4, g4, d4, t4, o4⟩ := s4
    obtain ⟨eg, ed, eo⟩ : g4 = s.gens ∧ d4 = s.drawn ∧ o4 = s.os := ⟨mv.gens, mv.drawn, mv.os⟩
    subst eg ed eo
    refine (show wpAny _ _ _ _ _ _ from wpAny_pure (show wpAny _ _ (ret Value.none) _ _ _ from ?_))
    rw [zs] at hS4
    refine wpAny_pure ⟨rfl, h _ _ ⟨hS4, fun b o e => ?_⟩⟩
    have b0 : b < s.heap.objs.size := Heap.lt_size e
    exact mv.heap b o (by rw [ez]; simp only [List.mem_cons, List.not_mem_nil, or_false, not_or]; exact ⟨Nat.ne_of_lt b0, Nat.ne_of_lt (Nat.lt_succ_of_lt b0)⟩) (Heap.get?_push_of_some _ (Heap.get?_push_of_some _ e))
end
section
variable {X : Cx} {W : WX}
def tLenTx (K : PySem.W.Frag) (ta : TE) : TE := fun σ H Q => ta σ H fun x H1 => ∃ l, ∃ xs : List Str, x = .ref l ∧ SqT K H1 l (xs.map V.str) ∧ xs.length ≤ 1000 ∧ Q (.int (dst xs xs.length : Nat)) H1
theorem pe_lenTx {a : Expr} {ta : TE} {p p2 q pos : Pos} (hc : X.calm = true) (hg : Gl X "len") (hm : X.mg "len" = none) (hg2 : Gl X "set") (hm2 : X.mg "set" = none) (ha : PE X a ta)
    (na : starEach [a] X.env = (false, eval a X.env) :: starEach [] X.env := by rfl) : PE X (.Call (.Name "len" p) [.Call (.Name "set" p2) [a] [] q] [] pos) (tLenTx X.K ta) := by
  refine ⟨fun pins s σ H Q I h =>
    ?_⟩
  refine Call_ (ld_blt
    I hg hm boot_len ?_)
  refine callWith_builtin1 (args_cons ?_ rfl) rfl rfl
  refine Call_ (ld_blt
    I hg2 hm2 boot_set ?_)
  refine callWith_type1 (args_cons (thn (ha.run pins s σ H _ I h) fun v s1 ⟨x, H1, I1, r1, q1⟩ => args_nil ?_) na) na rfl
  obtain ⟨l, xs, rfl, hq, few, q1⟩ := q1
  cases r1
  obtain ⟨its, r, pl, hz⟩ := I1.tuple hq
  refine tx_new (I1.ok.hd hc) pl (by simpa using strsAre_of r) (by unfold scanBound; omega) fun h2 tk both => args_nil ?_
  obtain ⟨hS, keep⟩ := both
  obtain ⟨o, es, ep, t, ho, hex, hd, _, _, _, hf, hn⟩ :=
    hS
  have := dst_le xs xs.length
  have I2 : Inv X pins σ H1 { s1 with heap := h2, toks := tk } := I1.kept fun b o e => keep b o e
  exact call_len_set ho hex hd hf (by rw [hn]; omega) ⟨.int (dst xs xs.length : Nat), H1, I2.tok _, ⟨_, by rw [hn]⟩, q1⟩
def gNTx : D → Option D
  | .tup ds => match asSs ds with
    | some xs => if xs.length ≤ 1000 then some (.int (dst xs xs.length : Nat)) else none
    | none => none
  | _ => none
theorem j_lenTx {a : Expr} {m : MM D} {p p2 q pos : Pos} (hc : X.calm = true) (hg : Gl X "len") (hm : X.mg "len" = none) (hg2 : Gl X "set") (hm2 : X.mg "set" = none) (ha : PE X a (rdE X.K W m))
    (na : starEach [a] X.env = (false, eval a X.env) :: starEach [] X.env := by rfl) : PE X (.Call (.Name "len" p) [.Call (.Name "set" p2) [a] [] q] [] pos) (rdE X.K W (mUn (fun d => o1 (gNTx d)) m)) :=
  peI (pe_lenTx hc hg hm hg2 hm2 ha na) fun σ H Q h => rd_un (rl := rlD) (r := fun x H1 Q => ∃ l, ∃ xs : List Str, x = .ref l ∧ SqT X.K H1 l (xs.map V.str) ∧ xs.length ≤ 1000 ∧ Q (.int (dst xs xs.length : Nat)) H1) (fun S F H σ ρ x v a Q eK r hr p => by
    unfold gNTx at p
    split at p
    · split at p
      · rename_i ds xs e
        split at p
        · rename_i few
          cases hr with
          | tup h1 h2 =>
            have e2 := RepL.strs h2 e
            subst e2
            exact ⟨_, xs, rfl, sqTK eK r.core.sub h1, few, post_val (rl := rlD) r p (.int _)⟩
        · exact p.elim
      · exact p.elim
    · exact p.elim) h
end
end Mi

/-! Mi29: a, b, c = e1, e2, e3, where some are new lists or dicts. -/
namespace Mi
open PySem
open PySem.Spec PyProof.Rows L2
/-- a part of the right side -/
inductive Pt where
  | v (m : MM D)
  | l (m : MM (List D))
  | o (m : MM Slot)
def Pt.run : Pt → MM Slot
  | .v m => mBind m fun d _ x => .val (.fz d) x
  | .l m => mBind m fun ds _ x => .val (.ol ds) x
  | .o m => m
def Pt.te (K : PySem.W.Frag) (W : WX) : Pt → TE
  | .v m => rdE K W m
  | .l m => rdN K W m
  | .o m => rdO K W m
def tParts (K : PySem.W.Frag) (W : WX) : List Pt → TA
  | [] => tNil
  | p :: r => tCons (p.te K W) (tParts K W r)
def putS : List Nat → List Slot → En → En
  | i :: is, s :: ss, ρ => putS is ss (ρ.set i s)
  | _, _, ρ => ρ
def okIx : List Nat → Bool
  | [] => true
  | i :: r => !r.contains i && okIx r
def pars (is : List Nat) : List Pt → List Slot → MS
  | [], acc => fun ρ x => if okIx is && is.length == acc.length then .nx (putS is acc ρ) x else .out
  | p :: r, acc => fun ρ x => match p.run (shut ρ) x with
    | .val s x2 => pars is r (acc ++ [s]) ρ x2
    | _ => .out
def mParG (p : Pt) (r : List Pt) (is : List Nat) : MS := mE p.run fun s => pars is r [s]
section
variable {S : Cf} {F H : Hp} {σ : L2.St} {ρ : En} {x : Bx}
theorem Rel.remap {σ' : L2.St} {ρ' : En} (r : Rel S F H σ ρ x) (hl : ρ'.length = σ'.length) (f : Nat → Nat) (h : ∀ i s, ρ'[i]? = some s → ρ[f i]? = some s ∧ σ'[i]? = σ[f i]?) (inj : ∀ i j, i < ρ'.length → j < ρ'.length → f i = f j → i = j) : Rel S F H σ' ρ' x where
  core := r.core
  len := hl
  slot := fun i s e => by
    obtain ⟨h1, h2⟩ := h i s e
    rw [h2]
    exact r.slot _ _ h1
  dist := fun i j s t p ne e1 e2 o1 o2 q => by
    obtain ⟨h1, h2⟩ := h i s e1
    obtain ⟨h3, h4⟩ := h j t e2
    rw [h4]
    rw [h2] at q
    exact r.dist _ _ s t p (fun z => ne (inj i j (List.getElem?_eq_some_iff.mp e1).1 (List.getElem?_eq_some_iff.mp e2).1 z)) h1 h3 o1 o2 q
theorem Rel.fore {vs : L2.St} {ss : En} (r : Rel S F H (σ ++ vs) (ρ ++ ss) x) (hl : ρ.length = σ.length) : Rel S F H σ ρ x :=
  r.remap hl (fun i => i) (fun i s e => by
    have hi := (List.getElem?_eq_some_iff.mp e).1
    rw [List.getElem?_append_left hi, List.getElem?_append_left (by omega)]
    exact ⟨e, rfl⟩) fun _ _ _ _ z => z
/-- the first pending one moves into its slot -/
theorem Rel.move {v : Option V} {s : Slot} {vs : L2.St} {ss : En} (i : Nat) (r : Rel S F H (σ ++ v :: vs) (ρ ++ s :: ss) x) (hl : ρ.length = σ.length) : Rel S F H (σ.set i v ++ vs) (ρ.set i s ++ ss) x := by
  have hlen := r.len
  simp only [List.length_append, List.length_cons] at hlen
  refine r.remap (by simp only [List.length_append, List.length_set]; omega) (fun k => if k = i ∧ i < ρ.length then ρ.length else if k < ρ.length then k else k + 1) (fun k t e => ?_) fun j k hj hk z => ?_
  · by_cases hk : k < ρ.length
    · rw [List.getElem?_append_left (by rwa [List.length_set])] at e
      rw [List.getElem?_append_left (l₁ := σ.set i v) (by rw [List.length_set]; omega)]
      by_cases hi : k = i
      · subst hi
        rw [if_pos ⟨rfl, hk⟩]
        rw [List.getElem?_set_self hk] at e
        rw [List.getElem?_set_self (by omega)]
        rw [List.getElem?_append_right (Nat.le_refl _), List.getElem?_append_right (by omega), ← hl]
        simpa using e
      · rw [if_neg (fun z => hi z.1), if_pos hk]
        rw [List.getElem?_set_ne (fun z => hi z.symm)] at e
        rw [List.getElem?_set_ne (fun z => hi z.symm), List.getElem?_append_left hk, List.getElem?_append_left (by omega)]
        exact ⟨e, rfl⟩
    · rw [if_neg (fun z => by omega), if_neg hk]
      rw [List.getElem?_append_right (by rw [List.length_set]; omega), List.length_set] at e
      rw [List.getElem?_append_right (l₁ := σ.set i v) (by rw [List.length_set]; omega), List.length_set, List.getElem?_append_right (by omega), List.getElem?_append_right (by omega), ← hl]
      have e1 : k + 1 - ρ.length = (k - ρ.length) + 1 := by omega
      rw [e1, List.getElem?_cons_succ, List.getElem?_cons_succ]
      exact ⟨e, rfl⟩
  · simp only [List.length_append, List.length_set] at hj hk
    by_cases c1 : j = i ∧ i < ρ.length <;> by_cases c2 : k = i ∧ i < ρ.length <;> by_cases c3 : j < ρ.length <;> by_cases c4 : k < ρ.length <;> simp only [c1, c2, c3, c4, if_true, if_false, and_self, and_true, true_and] at z <;> first | omega | (simp at z; omega)
theorem Rel.snoc {v : V} {s : Slot} (r : Rel S F H σ ρ x) (h : SlotOk S F H (some v) s) (n : s.own = true → ∀ (p : Addr), v = .ref p → ∀ (i : Nat) (t : Slot), ρ[i]? = some t → t.own = true → σ[i]? ≠ some (some (.ref p))) : Rel S F H (σ ++ [some v]) (ρ ++ [s]) x where
  core := r.core
  len := by simp [r.len]
  slot := fun i t e => by
    by_cases hi : i < ρ.length
    · rw [List.getElem?_append_left hi] at e
      rw [List.getElem?_append_left (by rw [← r.len]; exact hi)]
      exact r.slot i t e
    · have h2 : i = ρ.length := by
        have := (List.getElem?_eq_some_iff.mp e).1
        simp at this
        omega
      subst h2
      rw [List.getElem?_append_right (Nat.le_refl _)] at e
      rw [List.getElem?_append_right (by rw [r.len]; exact Nat.le_refl _), ← r.len]
      simp at e ⊢
      subst e
      exact h
  dist := fun i j t u p ne e1 e2 o1 o2 q => by
    have cut : ∀ k w, (ρ ++ [s])[k]? = some w → (k < ρ.length ∧ ρ[k]? = some w ∧ (σ ++ [some v])[k]? = σ[k]?) ∨ (k = ρ.length ∧ w = s ∧ (σ ++ [some v])[k]? = some (some v)) := fun k w e => by
      by_cases hk : k < ρ.length
      · rw [List.getElem?_append_left hk] at e
        exact .inl ⟨hk, e, List.getElem?_append_left (by rw [← r.len]; exact hk)⟩
      · have h2 : k = ρ.length := by
          have := (List.getElem?_eq_some_iff.mp e).1
          simp at this
          omega
        subst h2
        rw [List.getElem?_append_right (Nat.le_refl _)] at e
        simp at e
        refine .inr ⟨rfl, e.symm, ?_⟩
        rw [r.len, List.getElem?_append_right (Nat.le_refl _)]
        simp
    rcases cut i t e1 with ⟨a1, a2, a3⟩ | ⟨a1, a2, a3⟩ <;> rcases cut j u e2 with ⟨b1, b2, b3⟩ | ⟨b1, b2, b3⟩
    · rw [b3]
      rw [a3] at q
      exact r.dist i j t u p ne a2 b2 o1 o2 q
    · rw [b3]
      rw [a3] at q
      intro z
      injection z with z
      injection z with z
      subst b2
      exact n o2 p z i t a2 o1 q
    · rw [b3]
      rw [a3] at q
      injection q with q
      injection q with q
      subst a2
      exact n o1 p q j u b2 o2
    · omega
theorem shut_app (a b : En) : shut (a ++ b) = shut a ++ shut b := by
  unfold shut
  rw [List.map_append]
theorem shut_len (a : En) : (shut a).length = a.length := by
  unfold shut
  rw [List.length_map]
end
section
variable {X : Cx} {W : WX}
/-- what a part gives behind the state of its reading -/
theorem pt_step {K : PySem.W.Frag} {S : Cf} {F H : Hp} {σ : L2.St} {ρ : En} {x x2 : Bx} {s : Slot} {Q : VK} (p : Pt) (eK : S.K = K) (r : Rel S F H σ ρ x) (e : p.run ρ x = .val s x2)
    (k : ∀ v F' H', Rel S F' H' σ ρ x2 → SlotOk S F' H' (some v) s → Same F F' → KeepB S.b H H' → (s.own = true → ∃ q, v = .ref q ∧ H q = none) → Q v H') : p.te K W σ H Q := by
  cases p with
  | v m =>
    refine ⟨S, F, ρ, x, eK, r, ?_⟩
    unfold Pt.run at e
    replace e : (m ρ x).bind (fun d x1 => R.val (Slot.fz d) x1) = .val s x2 := e
    cases em : m ρ x with
    | out => rw [em] at e; cases e
    | exc c fs x1 => rw [em] at e; cases e
    | val d x1 =>
      rw [em] at e
      cases e
      exact fun v F' H' r' s' k' h => k v F' H' r' ⟨v, rfl, h⟩ s' k' (fun z => by cases z)
  | l m =>
    refine ⟨S, F, ρ, x, eK, r, ?_⟩
    unfold Pt.run at e
    replace e : (m ρ x).bind (fun d x1 => R.val (Slot.ol d) x1) = .val s x2 := e
    cases em : m ρ x with
    | out => rw [em] at e; cases e
    | exc c fs x1 => rw [em] at e; cases e
    | val d x1 =>
      rw [em] at e
      cases e
      exact fun p F' H' r' n s' k' h0 => by
        obtain ⟨vs, hH, hr⟩ := n.hH
        exact k _ F' H' r' ⟨p, vs, rfl, n.nb, n.n0, n.nF, hH, hr⟩ s' k' fun _ => ⟨p, rfl, h0⟩
  | o m =>
    refine ⟨S, F, ρ, x, eK, r, ?_⟩
    have e : m ρ x = .val s x2 := e
    rw [e]
    exact fun p F' H' r' n s' k' h0 => k _ F' H' r' n.ok s' k' fun _ => ⟨p, rfl, h0⟩
theorem pt_first {K : PySem.W.Frag} {p : Pt} {k : Slot → MS} {D : Ends} {σ : L2.St} {H : Hp} {Q : VK} (h : rdS K W (mE p.run k) D σ H)
    (q : ∀ S F H' ρ x v s, S.K = K → Rel S F H' (σ ++ [some v]) (ρ ++ [s]) x → ρ.length = σ.length → PostS S W (k s ρ x) D → Q v H') : p.te K W σ H Q := by
  cases p with
  | v m =>
    refine (show rdE K W m σ H Q from ?_)
    have h : rdS K W (mE m fun d => k (.fz d)) D σ H := by
      obtain ⟨S, F, ρ, x, eK, r, p⟩ := h
      refine ⟨S, F, ρ, x, eK, r, ?_⟩
      unfold mE at p ⊢
      rw [show (Pt.v m).run ρ x = (m ρ x).bind fun d x1 => .val (.fz d) x1 from rfl] at p
      cases e : m ρ x <;> rw [e] at p <;> exact p
    exact rd_E (rl := rlD) h fun S F H' ρ x v d eK r hv p => q S F H' ρ x v (.fz d) eK (r.snoc (s := .fz d) ⟨v, rfl, hv⟩ fun z => by cases z) r.len p
  | l m =>
    refine (show rdN K W m σ H Q from ?_)
    have h : rdS K W (mE m fun d => k (.ol d)) D σ H := by
      obtain ⟨S, F, ρ, x, eK, r, p⟩ := h
      refine ⟨S, F, ρ, x, eK, r, ?_⟩
      unfold mE at p ⊢
      rw [show (Pt.l m).run ρ x = (m ρ x).bind fun d x1 => .val (.ol d) x1 from rfl] at p
      cases e : m ρ x <;> rw [e] at p <;> exact p
    exact rd_EN h fun S F H' ρ x p ds eK r n z => by
      obtain ⟨vs, hH, hr⟩ := n.hH
      exact q S F H' ρ x _ (.ol ds) eK (r.snoc (s := .ol ds) ⟨p, vs, rfl, n.nb, n.n0, n.nF, hH, hr⟩ fun _ p' e i t e1 o => by
        cases e
        exact n.nown i t e1 o) r.len z
  | o m =>
    refine (show rdO K W m σ H Q from ?_)
    exact rd_EO (show rdS K W (mE m k) D σ H from h) fun S F H' ρ x p s eK r n z => q S F H' ρ x _ _ eK (r.snoc n.ok fun _ p' e i t e1 o => by
        cases e
        exact n.nown i t e1 o) r.len z
/-- what stands behind all parts -/
def AfterP (K : PySem.W.Frag) (W : WX) (is : List Nat) (D : Ends) (σ : L2.St) (vs : List V) (H : Hp) : Prop := ∃ S F ρ x ss, S.K = K ∧ Rel S F H (σ ++ vs.map some) (ρ ++ ss) x ∧ ρ.length = σ.length ∧ okIx is = true ∧ is.length = ss.length ∧ PostS S W (.nx (putS is ss ρ) x) D
theorem parts_go {K : PySem.W.Frag} {is : List Nat} {D : Ends} {σ : L2.St} : ∀ (ps : List Pt) (S : Cf) (F H : Hp) (ρ : En) (x : Bx) (ss : List Slot) (vs : List V), S.K = K → Rel S F H (σ ++ vs.map some) (ρ ++ ss) x → ρ.length = σ.length → PostS S W (pars is ps ss ρ x) D →
    tParts K W ps σ H fun ws H' => AfterP K W is D σ (vs ++ ws) H'
  | [], S, F, H, ρ, x, ss, vs, eK, r, hl, p => by
    refine (show AfterP K W is D σ (vs ++ []) H from ?_)
    unfold pars at p
    split at p
    · rename_i c
      rw [Bool.and_eq_true, beq_iff_eq] at c
      rw [List.append_nil]
      exact ⟨S, F, ρ, x, ss, eK, r, hl, c.1, c.2, p⟩
    · exact p.elim
  | pt :: ps, S, F, H, ρ, x, ss, vs, eK, r, hl, p => by
    refine (show pt.te K W σ H fun v H1 => tParts K W ps σ H1 fun ws H2 => AfterP K W is D σ (vs ++ v :: ws) H2 from ?_)
    unfold pars at p
    cases e : pt.run (shut ρ) x with
    | out => rw [e] at p; exact p.elim
    | exc c fs x1 => rw [e] at p; exact p.elim
    | val s x2 =>
      rw [e] at p
      dsimp only at p
      have rs := r.shut
      rw [shut_app] at rs
      have rf := rs.fore (by rw [shut_len]; exact hl)
      refine pt_step (S := ⟨S.K, S.b, H, F, S.me⟩) pt eK rf e fun v F' H' r' ok sm kb own => ?_
      obtain ⟨a1, a2, a3⟩ := r.back r'.core
      have ok2 : SlotOk S F' H' (some v) s := by
        cases s with
        | un => trivial
        | fz d => exact ok
        | ol ds =>
          obtain ⟨p, us, b1, b2, b3, b4, b5, b6⟩ := ok
          exact ⟨p, us, b1, b2, r.core.n0 b3, b4, b5, b6⟩
        | od ds =>
          obtain ⟨p, us, b1, b2, b3, b4, b5, b6⟩ := ok
          exact ⟨p, us, b1, b2, r.core.n0 b3, b4, b5, b6⟩
        | oo c fs =>
          obtain ⟨p, us, b1, b2, b3, b4, b5, b6⟩ := ok
          exact ⟨p, us, b1, b2, r.core.n0 b3, b4, b5, b6⟩
      have r3 := a1.snoc (v := v) (s := s) ok2 fun o p ep i t e1 o1 z => by
        obtain ⟨q, eq, n0⟩ := own o
        rw [ep] at eq
        cases eq
        exact r.own_there e1 o1 z n0
      rw [List.append_assoc, List.append_assoc] at r3
      have go := parts_go ps S F' H' ρ x2 (ss ++ [s]) (vs ++ [v]) eK (by rw [List.map_append]; exact r3) hl p
      simpa only [List.append_assoc, List.singleton_append] using go
theorem Pt.mono {K : PySem.W.Frag} {p : Pt} {σ : L2.St} {H : Hp} {Q Q' : VK} (k : ∀ v H, Q v H → Q' v H) (h : p.te K W σ H Q) : p.te K W σ H Q' := by
  cases p with
  | v m => exact rd_monoQ (rl := rlD) h k
  | l m =>
    obtain ⟨S, F, ρ, x, eK, r, p⟩ := h
    refine ⟨S, F, ρ, x, eK, r, ?_⟩
    cases e : m ρ x <;> rw [e] at p
    · exact fun p' F' H' a1 a2 a3 a4 a5 => k _ _ (p p' F' H' a1 a2 a3 a4 a5)
    · exact p
    · exact p
  | o m =>
    obtain ⟨S, F, ρ, x, eK, r, p⟩ := h
    refine ⟨S, F, ρ, x, eK, r, ?_⟩
    cases e : m ρ x <;> rw [e] at p
    · exact fun p' F' H' a1 a2 a3 a4 a5 => k _ _ (p p' F' H' a1 a2 a3 a4 a5)
    · exact p
    · exact p
theorem tParts_mono {K : PySem.W.Frag} : ∀ {ps : List Pt} {σ : L2.St} {H : Hp} {Q Q' : List V → Hp → Prop}, (∀ vs H, Q vs H → Q' vs H) → tParts K W ps σ H Q → tParts K W ps σ H Q'
  | [], _, _, _, _, k, h => k _ _ h
  | p :: ps, _, _, _, _, k, h => Pt.mono (p := p) (fun _ _ q => tParts_mono (ps := ps) (fun _ _ q2 => k _ _ q2) q) h
theorem js_par2G {i j : Nat} {x y : Str} {a b : Expr} {p : Pt} {ps : List Pt} {px py pt pos pt2 : Pos} {kt k2 : Nat} (hc : X.calm = true) (hN : X.N.Nodup) (hij : i ≠ j) (ha : PA X [a, b] (tParts X.K W (p :: ps))) (hi : X.N[i]? = some x := by rfl) (hj : X.N[j]? = some y := by rfl)
    (hx : X.env.scope.names.lookup x = some .local := by rfl) (hy : X.env.scope.names.lookup y = some .local := by rfl)
    (hw : swappedStores [.Tuple [.Name x px, .Name y py] kt pt] (.Tuple [a, b] k2 pt2) X.env = pure (some [x, y]) := by rfl) (hs : swapsWithSole [.Tuple [.Name x px, .Name y py] kt pt] (.Tuple [a, b] k2 pt2) pos.line X.env = pure false := by rfl) :
    PS X (.Assign [.Tuple [.Name x px, .Name y py] kt pt] (.Tuple [a, b] k2 pt2) pos) (rdS X.K W (mParG p ps [i, j])) :=
  psI (ps_par hc hN hi hj hij hx hy ha hw hs) fun D σ H h => by
    refine (show p.te X.K W σ H fun v H1 => tParts X.K W ps σ H1 fun vs H2 => _ from ?_)
    refine pt_first h fun S F H' ρ x v s eK r hl q => ?_
    have go := parts_go (is := [i, j]) ps S F H' ρ x [s] [v] eK r hl q
    refine tParts_mono (fun vs H2 z => ?_) go
    obtain ⟨S, F, ρ, x, ss, eK, r, hl, _, h2, q⟩ := z
    obtain ⟨s1, s2, rfl⟩ : ∃ s1 s2, ss = [s1, s2] := by
      match ss, h2 with
      | [s1, s2], _ => exact ⟨s1, s2, rfl⟩
    have hlen := r.len
    obtain ⟨u, rfl⟩ : ∃ u, vs = [u] := by
      match vs, hlen with
      | [u], _ => exact ⟨u, rfl⟩
      | [], e => simp at e; omega
      | _ :: _ :: _, e => simp at e; omega
    have r1 := (r.move i hl).move j (by rw [List.length_set, List.length_set]; exact hl)
    rw [show ∀ z : L2.St, z ++ List.map some [] = z from List.append_nil, List.append_nil] at r1
    exact ⟨v, u, rfl, q _ _ _ r1⟩
theorem js_par3G {i j l : Nat} {x y z : Str} {a b c : Expr} {p : Pt} {ps : List Pt} {px py pz pt pos pt2 : Pos} {kt k2 : Nat} (hc : X.calm = true) (hN : X.N.Nodup) (hij : i ≠ j) (hil : i ≠ l) (hjl : j ≠ l) (ha : PA X [a, b, c] (tParts X.K W (p :: ps))) (hi : X.N[i]? = some x := by rfl) (hj : X.N[j]? = some y := by rfl) (hl : X.N[l]? = some z := by rfl)
    (hx : X.env.scope.names.lookup x = some .local := by rfl) (hy : X.env.scope.names.lookup y = some .local := by rfl) (hz : X.env.scope.names.lookup z = some .local := by rfl)
    (hw : swappedStores [.Tuple [.Name x px, .Name y py, .Name z pz] kt pt] (.Tuple [a, b, c] k2 pt2) X.env = pure (some [x, y, z]) := by rfl) (hs : swapsWithSole [.Tuple [.Name x px, .Name y py, .Name z pz] kt pt] (.Tuple [a, b, c] k2 pt2) pos.line X.env = pure false := by rfl) :
    PS X (.Assign [.Tuple [.Name x px, .Name y py, .Name z pz] kt pt] (.Tuple [a, b, c] k2 pt2) pos) (rdS X.K W (mParG p ps [i, j, l])) :=
  psI (ps_par3 hc hN hi hj hl hij hil hjl hx hy hz ha hw hs) fun D σ H h => by
    refine (show p.te X.K W σ H fun v H1 => tParts X.K W ps σ H1 fun vs H2 => _ from ?_)
    refine pt_first h fun S F H' ρ x v s eK r hl q => ?_
    have go := parts_go (is := [i, j, l]) ps S F H' ρ x [s] [v] eK r hl q
    refine tParts_mono (fun vs H2 z => ?_) go
    obtain ⟨S, F, ρ, x, ss, eK, r, hl, _, h2, q⟩ := z
    obtain ⟨s1, s2, s3, rfl⟩ : ∃ s1 s2 s3, ss = [s1, s2, s3] := by
      match ss, h2 with
      | [s1, s2, s3], _ => exact ⟨s1, s2, s3, rfl⟩
    have hlen := r.len
    obtain ⟨u, t, rfl⟩ : ∃ u t, vs = [u, t] := by
      match vs, hlen with
      | [u, t], _ => exact ⟨u, t, rfl⟩
      | [], e => simp at e; omega
      | [_], e => simp at e; omega
      | _ :: _ :: _ :: _, e => simp at e; omega
    have r1 := ((r.move i hl).move j (by rw [List.length_set, List.length_set]; exact hl)).move l (by rw [List.length_set, List.length_set, List.length_set, List.length_set]; exact hl)
    rw [show ∀ z : L2.St, z ++ List.map some [] = z from List.append_nil, List.append_nil] at r1
    exact ⟨v, u, t, rfl, q _ _ _ r1⟩
end
end Mi

/-! Mi30: enumerate of a tuple. -/
namespace Mi
open PySem
open PySem.Spec PyProof.Rows L2
abbrev tupIt (l : Addr) : Obj := { cls := .type "tuple_iterator", data := .fields #[.ref l, .int 0 0] }
abbrev enumOf (it : Addr) : Obj := { cls := .type "enumerate", data := .fields #[.none, .bool false, .ref it, rawInt 0, .none, .none] }
abbrev enHeap (h : Heap) (l : Addr) : Heap := (h.push (tupIt l)).push (enumOf h.objs.size)
theorem en_new (l : Addr) (items : Array Value) (n : Nat) (dct : Option Addr) (sl : Array (Option Value)) :
    Meets (Builtin.«enumerate.__new__» ⟨[.type "enumerate", .ref l], []⟩) (fun _ Rz s => s.heap.get? l = some ⟨.type "tuple", dct, .seq items n, sl⟩ ∧ Rz (.ok (.ret (.ref (s.heap.push (tupIt l)).objs.size))) { s with heap := enHeap s.heap l }) :=
  .of_wp fun prog w A Rz s both => by
    obtain ⟨hp, g, d, tk, os⟩ :=
      s
    obtain ⟨at1, fin⟩ := both
    have hsub := sub_enumerate
    have isT : Heap.IsTuple (Shared.heap ⟨hp, g, d, tk, os⟩) l items := ⟨_, at1, rfl, n, rfl⟩
    wp_walk using AutoSeq1.wpAny_loadPart' at1
    refine wpAny_stack_any fun st =>
      wpAny_pure ?_
    split
    · rename_i c _ _ _ _ _
      cases (c == Value.type "enumerate") <;> wp_walk using AutoSeq1.wpAny_loadPart' at1, wpAny_pyIter_tuple isT <;> exact ⟨_, rfl, fin⟩
    · wp_walk using AutoSeq1.wpAny_loadPart' at1, wpAny_pyIter_tuple isT
      exact ⟨_, rfl, fin⟩
section
variable {prog : Program}
  {w : World} {A : Around}
  {E : Value → Shared → Prop} {s : Shared}
theorem en_call {l : Addr} {items : Array Value} {Q : Value → Shared → Prop} (isT : s.heap.IsTuple l items)
    (h : ∀ h1, IsEnum h1 (s.heap.objs.size + 1) s.heap.objs.size 0 .none → h1.IsTupleIter s.heap.objs.size l 0 → (∀ b o, s.heap.get? b = some o → h1.get? b = some o) → Q (.ref (s.heap.objs.size + 1)) { s with heap := h1 }) :
    wpAny (model prog w) A (call (.type "enumerate") [.ref l]) Q E s :=
      by
  obtain ⟨⟨c, dct, dt, sl⟩, at1, ec, n, ed⟩ := isT
  replace ec : c = .type "tuple" := ec
  replace ed : dt = .seq items n := ed
  subst ec ed
  refine callType_new PySem.F.called_enumerate (by decide) (PySem.F.typeCall_enumerate_1 _) (PySem.F.newCall_enumerate_1 _) (fun obj => PySem.F.args_object_init_2 obj _) PySem.F.entry_enumerate_new (en_new l items n dct sl) ⟨at1, ?_⟩
  have ez : (s.heap.push (tupIt l)).objs.size = s.heap.objs.size + 1 := Heap.size_push ..
  show _ ∧ _
  rw [ez]
  have en : IsEnum (enHeap s.heap l) (s.heap.objs.size + 1) s.heap.objs.size 0 .none := by
    have := Heap.get?_push_size (s.heap.push (tupIt l)) (o := enumOf s.heap.objs.size) rfl
    rw [ez] at this
    exact this
  exact ⟨⟨_, en, rfl⟩, h _ en ⟨_, Heap.get?_push_of_some _ (Heap.get?_push_size _ rfl), rfl, rfl⟩ fun b o x => Heap.get?_push_of_some _ (Heap.get?_push_of_some _ x)⟩
end
theorem en_end {prog : Program} {w : World} {A : Around} {E : Value → Shared → Prop} {s : Shared} {e it l : Addr} {i : Nat} {items : Array Value} {old : Value} {Q : Option Value → Shared → Prop} (hh : A.handled = none) (he : IsEnum s.heap e it i old) (hit : s.heap.IsTupleIter it l i) (isT : s.heap.IsTuple l items) (none' : items[i]? = none)
    (hQ : ∀ h1, Heap.ExtBut it s.heap h1 → Q none { s with heap := h1 }) : wpAny (model prog w) A (pyNext (.ref e)) Q E s := by
  have isE : s.TypeIs (.ref e) "enumerate" := ⟨_, he, rfl⟩
  unfold pyNext
  refine wpAny_bind (wpAny_attempt (wpAny_callSpecial?_slot (name := Str.ofString "__next__") isE PySem.F.slot_enumerate_next (wpAny_call_entry PySem.F.slot_enumerate_next isE PySem.F.entry_enumerate_next ?_ (PySem.F.args_enumerate_next_1 _))))
  refine (show wpAny _ _ (field (.ref e) 2 >>= _) _ _ _ from wpAny_bind (wpAny_field he rfl (x := .ref it) rfl ?_))
  refine wpAny_bind (wpAny_nextOf_tuple_end (by simp [hh]) hit isT none' fun h1 x e1 hx => ?_)
  obtain ⟨o, ho, hc⟩ := hx
  exact wpAny_bind (wpAny_isInstance (T := "StopIteration") (b := true) ⟨o, ho, hc⟩ isSubtype_stop (wpAny_pure (hQ _ e1)))
/-- the tuple at a, each item beside its place -/
def IteT (K : PySem.W.Frag) (a : Addr) : It :=
  ⟨fun i H => ∃ (xs : List V) (x : V), SqT K H a xs ∧ xs[i]? = some x, fun i H v H' => ∃ T x, v = .ref T ∧ H T = none ∧ H' = upd H T (.tup [.int (i : Nat), x]) ∧ ∀ xs, SqT K H a xs → xs[i]? = some x, fun i H => ∃ xs : List V, SqT K H a xs ∧ xs.length ≤ i⟩
theorem turn_enT {P : Program} {w : World} {K : PySem.W.Frag} {elts : List Expr} {kk : Nat} {tpos : Pos} (a e it : Addr) :
    Turn P w K (.Tuple elts kk tpos) (IteT K a) [e, it] e (fun i h => (∃ old, IsEnum h e it ((i : Nat) : Int) old) ∧ h.IsTupleIter it a i ∧ e ≠ it ∧ a ≠ it ∧ a ≠ e) where
  mem := by simp
  obj := fun i h st b hb => by
    obtain ⟨⟨old, he⟩, ⟨o, ho, hc, hd⟩, _⟩ :=
      st
    simp only [List.mem_cons,
      List.not_mem_nil, or_false] at hb
    rcases hb with rfl | rfl
    · exact ⟨_, he, fun v q => nomatch q⟩
    · exact ⟨o, ho, fun v q => by rw [hd] at q; cases q⟩
  keep := fun i h h' st k => by
    obtain ⟨⟨old, he⟩, hi, ne⟩ := st
    exact ⟨⟨old, k e (by simp) _ he⟩, hi.at fun o q => k it (by simp) o q, ne⟩
  item := by
    intro X hP hw hK hc
      i pins s σ H E I hf st hg
    subst hP hw hK
    obtain ⟨⟨old, he⟩, hit, ne, ai, ae⟩ := st
    obtain ⟨xs, x, hq, hx⟩ := hg
    obtain ⟨its, rv, p, hz⟩ :=
      I.tuple hq
    obtain ⟨u, hu, ru⟩ :=
      rv.get hx
    have el : e < s.heap.objs.size := Heap.lt_size he
    have il : it < s.heap.objs.size := by
      obtain ⟨_, q, _⟩ := hit
      exact Heap.lt_size q
    have isT : s.heap.IsTuple a its.toArray := p
    have hi : i < its.toArray.size := by
      rw [List.size_toArray]
      exact (List.getElem?_eq_some_iff.mp hu).1
    refine wpAny_pyNext_enum_itemD (Draws.tuple (A := X.A.in1) (by simp [I.ok.hd hc]) it a ai its.toArray) he ⟨hit, isT⟩ hi ne (by simp [ne, Ne.symm ae]) fun x' h1 tk hx' ho st1 hT hsz hk => ?_
    have ex : x' = u := by
      have hu2 : its.toArray[i]? = some u := by simpa using hu
      rw [hu2] at hx'
      exact (Option.some.inj hx').symm
    subst ex
    refine ⟨_, rfl, wpAny_letOwnedTupleGo_enum (s := { s with heap := h1, toks := tk + 1 }) ho fun h2 he2 sb => ?_⟩
    have hT2 : h2.get? s.heap.objs.size = some { cls := .type "tuple", data := .seq #[.int i tk, x'] } := (sb.2 _ (Nat.ne_of_gt el)).trans hT
    have new : ObjOk X.prog X.w (upd H s.heap.objs.size (.tup [.int (i : Nat), x])) h2 s.heap.objs.size (.tup [.int (i : Nat), x]) := ⟨by show 2 ≤ sizeLine; decide, [.int i tk, x'], .cons ⟨_, rfl⟩ (.cons ru .nil), ⟨_, hT2, rfl, _, rfl⟩⟩
    have I1 : Inv X pins σ (upd H s.heap.objs.size (.tup [.int (i : Nat), x])) { s with heap := h2, toks := tk + 1 } :=
      I.turnedNew (ch := [e, it]) (fun b ob hb q => (sb.2 b (fun z => hb (by simp [z]))).trans (hk b ob (fun z => hb (by simp [z]))
        (fun z => hb (by simp [z])) q)) hf (Nat.le_refl _) new
    refine ⟨.ref s.heap.objs.size, _, I1, rfl, ⟨_, x, rfl, I.hok.fresh (Nat.le_refl _), rfl, fun ys hy => by rw [I.tuple_inj hy hq]; exact hx⟩, ⟨⟨x', ?_⟩, st1.1.at fun o q => (sb.2 it (Ne.symm ne)).trans q, ne, ai, ae⟩, fun b hb => ?_⟩
    · rw [show ((i + 1 : Nat) : Int) = (i : Int) + 1 by omega]
      exact he2
    · have lt : b < s.heap.objs.size := by
        simp only [List.mem_cons,
          List.not_mem_nil, or_false] at hb
        rcases hb with rfl | rfl
        · exact el
        · exact il
      rw [upd_ne (Nat.ne_of_lt lt)]
      exact (hf b hb).1
  done := by
    intro X hP hw hK hc
      i pins s σ H E I hf st hg
    subst hP hw hK
    obtain ⟨⟨old, he⟩, hit, ne, ai, ae⟩ := st
    obtain ⟨xs, hq, hx⟩ := hg
    obtain ⟨its, rv, p, hz⟩ :=
      I.tuple hq
    obtain ⟨f0, f1, f2, f3, f4, f5⟩ :=
      hf it (by simp)
    have hl := rv.length
    exact en_end (I.ok.hd hc) he hit p (by simp; omega) fun h1 eb => ⟨rfl, I.turned (t' := s.toks) (fun b o hb q => eb b o hb q) f0 f1 f3 f4 f5⟩
  self := fun A i s Q E st h => wpAny_pyIter_enum st.1.choose_spec h
def iEnT (K : PySem.W.Frag) (ta : TA) : TI := fun σ H R => ta σ H fun vs H1 => ∃ a xs, vs = [.ref a] ∧ ((SqL K H1 a xs ∧ R (Ite K a) H1) ∨ (SqT K H1 a xs ∧ R (IteT K a) H1))
theorem pi_enT {X : Cx} {e : Expr} {ta : TA} {p pos tpos : Pos} {elts : List Expr} {kk : Nat} (hg : Gl X "enumerate") (hm : X.mg "enumerate" = none) (ha : PA X [e] ta) (hs : starEach [e] X.env = [(false, eval e X.env)] := by rfl) :
    PI X (.Tuple elts kk tpos) (.Call (.Name "enumerate" p) [e] [] pos) (iEnT X.K ta) := by
  refine ⟨fun pins s σ H Rz I h => ?_⟩
  refine Call_ (ld_blt I hg hm boot_enumerate (callWith_type1 (thn (ha.run pos pins s σ H _ I h) fun us s1 ⟨vs, H1, I1, r1, q1⟩ => ?_) hs rfl))
  obtain ⟨a, xs, ex, q1⟩ := q1
  subst ex
  cases r1 with
  | cons r rr =>
    cases rr
    cases r
    have fin : ∀ b ∈ [s1.heap.objs.size + 1, s1.heap.objs.size], FpOk X pins H1 b := fun b hb => by
      have le : s1.heap.objs.size ≤ b := by
        simp only [List.mem_cons,
          List.not_mem_nil, or_false] at hb
        rcases hb with rfl | rfl
        · exact Nat.le_add_right _ _
        · exact Nat.le_refl _
      exact I1.fpOk le (I1.hok.fresh le)
    rcases q1 with ⟨hq, q⟩ | ⟨hq, q⟩
    · obtain ⟨its, rv, p', hz⟩ :=
                                            I1.list hq
      refine call_enumerate_list p'.isList fun h' he hit hsz hk =>
        wpAny_pyIter_enum he ?_
      exact ⟨s1.heap.objs.size + 1, [s1.heap.objs.size + 1, s1.heap.objs.size], _, _, H1, rfl, I1.kept (t' := s1.toks) hk, turn_enum a (s1.heap.objs.size + 1) s1.heap.objs.size, ⟨⟨.none, he⟩, hit, Nat.succ_ne_self _⟩, fin, q⟩
    · obtain ⟨its, rv, p', hz⟩ :=
                                            I1.tuple hq
      obtain ⟨o1, ho1, _⟩ := id p'
      have lt := Heap.lt_size ho1
      refine en_call (show s1.heap.IsTuple a its.toArray from p') fun h' he hit hk => wpAny_pyIter_enum he ?_
      exact ⟨s1.heap.objs.size + 1, [s1.heap.objs.size + 1, s1.heap.objs.size], _, _, H1, rfl, I1.kept (t' := s1.toks) hk, turn_enT a (s1.heap.objs.size + 1) s1.heap.objs.size, ⟨⟨.none, he⟩, hit, Nat.succ_ne_self _, Nat.ne_of_lt lt, Nat.ne_of_lt (Nat.lt_succ_of_lt lt)⟩, fin, q⟩
theorem walks_enT {K : PySem.W.Frag} {b : Option Addr} {F : Hp} {a : Addr} {vs : List V} {ds : List D} (h : TupAt K F a vs) (r : RepL K b F vs ds) : Walks K b F (IteT K a) (enumD ds) := fun S i F1 H x eK eb s c => by
  have ha : SqT K H a vs := sqTK rfl c.sub (h.mono s)
  have hl : (enumD ds).length = ds.length := by
    unfold enumD
    rw [List.length_mapIdx]
  refine ⟨fun hi => ?_, fun hi => ⟨vs, ha, by rw [r.length, ← hl]; exact hi⟩⟩
  rw [hl] at hi
  obtain ⟨v0, e0, h0⟩ := r.get (List.getElem?_eq_getElem hi)
  refine ⟨⟨vs, v0, ha, e0⟩, fun v H' y => ?_⟩
  obtain ⟨T, u, rfl, n, rfl, y2⟩ := y
  have e1 := y2 vs ha
  rw [e0] at e1
  cases e1
  refine ⟨upd F1 T (.tup [.int (i : Nat), v0]), .tup [.int (i : Nat), ds[i]], c.alloc n, Same.new (c.nF n), KeepB.new n, Nw.new n, ?_, rep_pair (c.nF n) (.int _) (h0.mono s)⟩
  unfold enumD
  rw [List.getElem?_mapIdx, List.getElem?_eq_getElem hi]
  rfl
section
variable {X : Cx} {W : WX}
def gEnumA : List D → Option (List D)
  | [.lst ds] => some (enumD ds)
  | [.tup ds] => some (enumD ds)
  | _ => none
theorem j_enumA {e : Expr} {ms : MM (List D)} {p pos tpos : Pos} {elts : List Expr} {kk : Nat} (hg : Gl X "enumerate") (hm : X.mg "enumerate" = none) (ha : PA X [e] (rdA X.K W ms)) (hs : starEach [e] X.env = [(false, eval e X.env)] := by rfl) :
    PI X (.Tuple elts kk tpos) (.Call (.Name "enumerate" p) [e] [] pos) (rd rlI X.K W (mBind ms fun ds => oB (gEnumA ds))) :=
  piI (pi_enT hg hm ha hs) fun σ H Rz h => rd_unL (rl := rlI) (r := fun vs H1 Rz => ∃ a xs, vs = [.ref a] ∧ ((SqL X.K H1 a xs ∧ Rz (Ite X.K a) H1) ∨ (SqT X.K H1 a xs ∧ Rz (IteT X.K a) H1))) (fun S F H σ ρ x vs ds Rz eK r hv p => by
    unfold gEnumA at p
    split at p
    · obtain ⟨v, e, h⟩ := rep1 hv
      subst e
      cases h with
      | lst h r1 => exact ⟨_, _, rfl, .inl ⟨sqL (r.core.sub _ _ h), p _ F H r (Same.refl _) KeepB.refl (by rw [← eK]; exact walks_enum h r1)⟩⟩
    · obtain ⟨v, e, h⟩ := rep1 hv
      subst e
      cases h with
      | tup h r1 => exact ⟨_, _, rfl, .inr ⟨sqTK eK r.core.sub h, p _ F H r (Same.refl _) KeepB.refl (by rw [← eK]; exact walks_enT h r1)⟩⟩
    · exact p.elim) h
end
end Mi

/-! Mi31: x = xs + [ys.pop(..), ..]: a new list put together of what is taken out of another one. -/
namespace Mi
open PySem PySem.Spec L2
section
variable {X : Cx} {W : WX}
def PostPN (S : Cf) (W : WX) (σ : L2.St) (F : Hp) (r : RP (List D)) (Q : VK) : Prop := match r with
  | .val ds ρ' x' => ∀ p F' H', Rel S F' H' σ ρ' x' → NewL S F' H' σ ρ' p ds → Same F F' → Q (.ref p) H'
  | .exc c fs ρ' x' => ∀ F' H' dd, Rel S F' H' σ ρ' x' → Same F F' → XdOk S F' dd fs → W (.ref (He.ga S.K c)) dd σ H'
  | .out => False
def rdPN (K : PySem.W.Frag) (W : WX) (m : MP (List D)) : TE := fun σ H Q => ∃ S F ρ x, S.K = K ∧ Rel S F H σ ρ x ∧ PostPN S W σ F (m ρ x) Q
theorem PostPN.mono {S : Cf} {W : WX} {σ : L2.St} {F F1 : Hp} {r : RP (List D)} {Q : VK} (s : Same F F1) (h : PostPN S W σ F r Q) : PostPN S W σ F1 r Q := by
  cases r with
  | val a ρ' x' => exact fun p F' H' a1 a2 a3 => h p F' H' a1 a2 (s.trans a3)
  | exc c fs ρ' x' => exact fun F' H' dd a1 a2 a3 => h F' H' dd a1 (s.trans a2) a3
  | out => exact h
theorem rdPN_bind {α β : Type} {rl : Rl α β} {K : PySem.W.Frag} {σ : L2.St} {H : Hp} {m : MP α} {k : α → MP (List D)} {Q : VK} {Q' : β → Hp → Prop} (h : rdPN K W (pBind m k) σ H Q)
    (q : ∀ S F H' ρ x v a, S.K = K → Rel S F H' σ ρ x → rl S F v a → PostPN S W σ F (k a ρ x) Q → Q' v H') : rdP rl K W m σ H Q' := by
  obtain ⟨S, F, ρ, x, eK, r, p⟩ := h
  refine ⟨S, F, ρ, x, eK, r, ?_⟩
  unfold pBind at p
  cases e : m ρ x with
  | val a ρ1 x1 =>
    rw [e] at p
    exact fun v F' H' a1 a2 a3 => q S F' H' ρ1 x1 v a eK a1 a3 (p.mono a2)
  | exc c fs ρ1 x1 =>
    rw [e] at p
    exact p
  | out =>
    rw [e] at p
    exact p
theorem rd_PN {K : PySem.W.Frag} {m : MP (List D)} {k : List D → MS} {D : Ends} {σ : L2.St} {H : Hp} {Q : VK} (h : rdS K W (mP m k) D σ H)
    (q : ∀ S F H' ρ x p ds, S.K = K → Rel S F H' σ ρ x → NewL S F H' σ ρ p ds → PostS S W (k ds ρ x) D → Q (.ref p) H') : rdPN K W m σ H Q := by
  obtain ⟨S, F, ρ, x, eK, r, p⟩ := h
  refine ⟨S, F, ρ, x, eK, r, ?_⟩
  unfold mP at p
  cases e : m ρ x with
  | val d ρ1 x1 =>
    rw [e] at p
    exact fun v F' H' r' n _ => q S F' H' ρ1 x1 v d eK r' n p
  | exc c fs ρ1 x1 =>
    rw [e] at p
    exact fun F' H' dd r' _ hd => p _ _ _ dd r' hd
  | out =>
    rw [e] at p
    exact p
def pLst (ms : MP (List D)) : MP D := pBind ms fun ds ρ x => if ds.length ≤ big then .val (.lst ds) ρ x else .out
theorem jp_lst {es : List Expr} {pos : Pos} {ms : MP (List D)} (h : PA X es (rdP rlL X.K W ms)) : PE X (.List es pos) (rdP rlD X.K W (pLst ms)) :=
  peI (pe_lst h) fun σ H Q q => rdP_bind (rl := rlL) (rl' := rlD) q fun S F H1 ρ x vs ds eK r hv p => by
    have hv : RepL S.K S.b F vs ds := hv
    split at p
    · rename_i hz
      exact ⟨by rw [hv.length]; exact big_le hz, fun q n => p (.ref q) _ _ (r.alloc n) (Same.new (r.core.nF n)) (.lst upd_same (hv.mono (Same.new (r.core.nF n))))⟩
    · exact p.elim
def pCat (ma mb : MP D) : MP (List D) := pBind ma fun a => pBind mb fun b ρ x => match gCatN a b with
  | some ds => .val ds ρ x
  | none => .out
theorem jpn_cat {a b : Expr} {pos : Pos} {ma mb : MP D} (ha : PE X a (rdP rlD X.K W ma)) (hb : PE X b (rdP rlD X.K W mb)) : PE X (.BinOp a .Add b pos) (rdPN X.K W (pCat ma mb)) :=
  peI (pe_op op_cat ha hb) fun σ H Q q => by
    refine (show rdP rlD X.K W ma σ H fun x H1 => rdP rlD X.K W mb σ H1 fun y H2 => rCat x y H2 Q from ?_)
    refine rdPN_bind (rl := rlD) q fun S F H' ρ x v a eK r hv p => ?_
    have hv : Rep S.K S.b F v a := hv
    have q2 : rdPN X.K W (pBind mb fun b ρ x => match gCatN a b with
      | some ds => .val ds ρ x
      | none => .out) σ H' Q := ⟨S, F, ρ, x, eK, r, p⟩
    refine ⟨S, F, ρ, x, eK, r, ?_⟩
    unfold pBind at p
    cases e : mb ρ x with
    | out =>
      rw [e] at p
      exact p.elim
    | exc c fs ρ1 x1 =>
      rw [e] at p
      exact p
    | val b ρ1 x1 =>
      rw [e] at p
      intro u F' H2 r' s hu
      have hu : Rep S.K S.b F' u b := hu
      have hv' := hv.mono s
      replace p : PostPN S W σ F' (match gCatN a b with
        | some ds => .val ds ρ1 x1
        | none => .out) Q := PostPN.mono s p
      cases hv' with
      | lst g1 r1 =>
        cases hu with
        | lst g2 r2 =>
          unfold gCatN at p
          dsimp only at p
          split at p
          · rename_i ds eds
            split at eds
            · rename_i hz
              cases eds
              exact ⟨_, _, _, _, rfl, rfl, r'.core.sub _ _ g1, r'.core.sub _ _ g2, by rw [r1.length, r2.length]; exact big_le hz, fun q n => p q F' _ (r'.allocO n) (newL_of r' n (r1.append r2)) (Same.refl F')⟩
            · cases eds
          · exact p.elim
        | _ => exact p.elim
      | _ => exact p.elim
theorem js_ownP {i : Nat} {y : Str} {e : Expr} {pos pos' : Pos} {m : MP (List D)} (hN : X.N.Nodup) (he : PE X e (rdPN X.K W m)) (hi : X.N[i]? = some y := by rfl) (hx : Loc X.env.scope y := by first | exact Or.inl rfl | exact Or.inr rfl) (hs : swapsWith e (some (.Name y pos')) pos.line X.env = pure false := by rfl) (hf : X.fn y = true ∨ X.env.scope.names.lookup y = some .local := by first | exact .inl rfl | exact .inr rfl) :
    PS X (.Assign [.Name y pos'] e pos) (rdS X.K W (mP m fun ds ρ x => .nx (ρ.set i (.ol ds)) x)) :=
  psI (ps_set hN hi hx he hs hf) fun D σ H h => rd_PN h fun S F H' ρ x p ds eK r n q => q _ _ _ (r.own n i)
end
end Mi

/-! Mi32: a op b op c over ints, as a test. -/
namespace Mi
open PySem PySem.Spec L2
section
variable {X : Cx} {W : WX}
theorem rd_k {α γ : Type} {rl : Rl α γ} {K : PySem.W.Frag} {m : MM D} {g : D → MM α} {σ : L2.St} {H : Hp} {Q : γ → Hp → Prop} {Q' : V → Hp → Prop} (h : rd rl K W (mBind m g) σ H Q)
    (k : ∀ S F H' ρ x v a, S.K = K → Rel S F H' σ ρ x → Rep S.K S.b F v a → Post rl S W σ F H' ρ (g a ρ x) Q → Q' v H') : rdE K W m σ H Q' := by
  obtain ⟨S, F, ρ, x, eK, rr, p⟩ := rd_bind (rl := rlD) h
  refine ⟨S, F, ρ, x, eK, rr, ?_⟩
  cases e : m ρ x with
  | val a x1 =>
    rw [e] at p
    intro v F' H' r1 s1 k1 h1
    obtain ⟨S2, F2, ρ2, x2, a2, eK2, rr2, h2, p2⟩ := p v F' H' r1 s1 k1 h1
    exact k S2 F2 H' ρ2 x2 v a2 eK2 rr2 h2 p2
  | exc c fs x1 =>
    rw [e] at p
    exact p
  | out =>
    rw [e] at p
    exact p
def mCh2 (f : Int → Int → Bool) (j : Int) : D → MM Bool
  | .int k => fun _ x => .val (f j k) x
  | _ => fun _ _ => .out
def mCh1 (f f' : Int → Int → Bool) (mc : MM D) : D → D → MM Bool
  | .int i, .int j => if f i j = true then mBind mc (mCh2 f' j) else fun _ x => .val false x
  | _, _ => fun _ _ => .out
def mCh (f f' : Int → Int → Bool) (ma mb mc : MM D) : MM Bool := mBind ma fun a => mBind mb fun b => mCh1 f f' mc a b
theorem ch_int {S S1 : Cf} {F F1 H : Hp} {σ : L2.St} {ρ : En} {x : Bx} {Q : Bool → Hp → Prop} {f f' : Int → Int → Bool} {mc : MM D} {v v2 : V} {a b : D} {G : V → V → Prop} (hv : Rep S1.K S1.b F1 v a) (hv2 : Rep S.K S.b F v2 b) (p : Post rlB S W σ F H ρ (mCh1 f f' mc a b ρ x) Q)
    (k : ∀ i j, Post rlB S W σ F H ρ (mCh1 f f' mc (.int i) (.int j) ρ x) Q → G (.int i) (.int j)) : G v v2 := by
  cases a with
  | int i =>
    cases b with
    | int j =>
      cases hv
      cases hv2
      exact k i j p
    | _ => exact p.elim
  | _ => exact p.elim
theorem j_chain {op op' : CmpOp} {f f' : Int → Int → Bool} {ma mb mc : MM D} {a b c : Expr} {pos : Pos} (ho : OpR X (compareOp op) (rI0 fun i j => .bl (f i j))) (ho' : OpR X (compareOp op') (rI0 fun i j => .bl (f' i j)))
    (ha : PE X a (rdE X.K W ma)) (hb : PE X b (rdE X.K W mb)) (hc : PE X c (rdE X.K W mc)) (hm : lastMarks [op, op'] [b, c] = false := by with_unfolding_all rfl) : PT X (.Compare a [op, op'] [b, c] pos) (rdT X.K W (mCh f f' ma mb mc)) :=
  ptI (pt_chain ho ho' ha hb hc hm) fun σ H Q h => by
    refine rd_k h fun S F H1 ρ x v a eK r hv p => ?_
    have q1 : rdT X.K W (mBind mb fun b => mCh1 f f' mc a b) σ H1 Q := ⟨S, F, ρ, x, eK, r, p⟩
    refine rd_k q1 fun S F H2 ρ x v2 b eK r hv2 p => ?_
    exact ch_int (G := fun v v2 => rI0 (fun i j => .bl (f i j)) v v2 H2 fun z H3 => ∃ k, z = .bl k ∧ if k = true then rdE X.K W mc σ H3 fun w H4 => rI0 (fun i j => .bl (f' i j)) v2 w H4 fun x H' => ∃ k, x = .bl k ∧ Q k H' else ∃ k', V.bl false = .bl k' ∧ Q k' H3) hv hv2 p (fun i j p => by
      refine ⟨i, j, rfl, rfl, f i j, rfl, ?_⟩
      have p : Post rlB S W σ F H2 ρ ((if f i j = true then mBind mc (mCh2 f' j) else fun _ x => .val false x) ρ x) Q := p
      by_cases hf : f i j = true
      · rw [if_pos hf] at p ⊢
        have q2 : rdT X.K W (mBind mc (mCh2 f' j)) σ H2 Q := ⟨S, F, ρ, x, eK, r, p⟩
        refine rd_k q2 fun S F H3 ρ x v3 c eK r hv3 p => ?_
        cases c <;> try exact p.elim
        rename_i k
        cases hv3
        exact ⟨j, k, rfl, rfl, f' j k, rfl, post_val (rl := rlB) r p rfl⟩
      · rw [if_neg hf] at p ⊢
        exact ⟨false, rfl, post_val (rl := rlB) r p rfl⟩)
end
end Mi

/-! Mi33: len of an instance of an own class with an own method for it. -/
namespace Mi
open PySem PySem.Spec L2 PyProof.Rows
section
variable {X : Cx}
def rLenI (C : Addr) (sp : Sp) (E : XK) : List V → Hp → VK → Prop := fun xs H Q => ∃ a dx fs, xs = [.ref a] ∧ H a = some (.ins C dx fs) ∧ sp [.ref a] H (fun v H' => ∃ k : Int, v = .int k ∧ 0 ≤ k ∧ k < 2 ^ 63 ∧ Q (.int k) H') E
theorem call_lenOwn {CX : CXT} {n : Nat} {C f : Addr} {fd : FuncData} {ps : List Str} {sp : Sp} {E : XK} (F : FnOk X.prog X.w X.K X.mg X.base CX n f fd ps sp) (hs : PySem.W.findIn X.K (.ref C) "__len__" = some (some (.ref f))) (hf : PySem.W.isFn X.K (.ref f) = true)
    (hb : Binds X.K fd ps []) (hx : Passes CX X E) (hr : Room (n + 1) X.A) : CallR X (.builtin "len") (rLenI C sp E) := by
  intro pins s σ
    H xs us Q I rv h
  obtain ⟨a, dx, fs, rfl, ha, hsp⟩ := h
  obtain ⟨u, rfl, ru⟩ := rv.one
  cases ru
  have sb : Sub X n X.A.in1 := Sub.in1 (⟨hr, rfl⟩ : Sub X (n + 1) X.A)
  obtain ⟨mA, J, _⟩ :=
    ins_get I.hok ha
  obtain ⟨od, J, _⟩ := J.look
  refine Calls.call_function_entry kind_len
    plain_len entry_len (args_len1 _) ?_
  unfold Builtin.«len»
  refine wpAny_bind (m := oneArg "len" _)
    (wpAny_pure ?_)
  refine wpAny_bind (m := callSpecial? (.ref a) (PySem.Str.ofString "__len__")) (PySem.W.special_fn (name := "__len__") (args := []) I.kIn J hs (beq_iff_eq.mp hf) ?_)
  have e0 : Env0 X.prog X.w X.K X.mg X.base X.A.in1 X.stack s H := by
    have e := I.env0
    exact ⟨by rw [sb.fr]; exact e.frames,
      e.mod, e.bs, e.bsz, e.funs, e.frf, e.hok, e.bare⟩
  have hl := F.len _ _ _ _ hsp
  have r2 : Vals [V.ref a] [Value.ref a] :=
    .cons rfl .nil
  refine wpAny_call (codeAny_mono (F.run X.A.in1 X.stack s H ⟨[.ref a], []⟩ [.ref a] [.ref a] _ E sb.room e0 (by
    have := hb s [.ref a] I.kIn (by simpa using hl)
    simpa using this) r2 hsp) fun r s' hq =>
      ?_)
  cases r with
  | error e =>
                                          exact hx pins σ H s e s' I hq
  | ok fl =>
    cases fl with
    | ret w =>
      obtain ⟨z, H', I', rz, k, ez, k0, k1, q⟩ := I.after hq
      subst ez
      obtain ⟨t, rfl⟩ := rz
      refine wpAny_bind
        (wpAny_holding (wpAny_pure ?_))
      refine wpAny_bind
        (wpAny_letGo ?_)
      show wpAny _ _ (if k < 0 then _ else _) _ _ _
      rw [if_neg (by omega)]
      show wpAny _ _ (if k ≥ 2 ^ 63 then _ else _) _ _ _
      rw [if_neg (by omega)]
      exact wpAny_bind (wpAny_mkInt (wpAny_pure ⟨_, rfl, .int k, H', I'.tok _, ⟨_, rfl⟩, q⟩))
    | next => exact False.elim hq
    | brk => exact False.elim hq
    | cont => exact False.elim hq
structure LenO (P : Program) (w : World) (K : PySem.W.Frag) (mg : Str → Option Value) (base : Heap) (k : Nat) (c : Str) (f : Mr) : Prop where
  ex : ∃ g, PySem.W.findIn K (.ref (He.ga K c)) "__len__" = some (some (.ref g)) ∧ PySem.W.isFn K (.ref g) = true ∧ OkM P w K mg base k g ["self"] f
def mLenI (c : Str) (f : Mr) (m : MM D) : MM D := mBind (mCons m mNil) fun ds => fun _ x => match ds with
  | [.obj c' fs] => if c' = c then (match f [.obj c' fs] x with
    | .val (.int k) x' => if 0 ≤ k ∧ k < 2 ^ 63 then .val (.int k) x' else .out
    | _ => .out) else .out
  | _ => .out
theorem j_lenI {W : WX} {k : Nat} {c y : Str} {f : Mr} {e : Expr} {p pos : Pos} {m : MM D} (O : LenO X.prog X.w X.K X.mg X.base k c f) (hr : Room (k + 1) X.A) (hg : Gl X y) (hm : X.mg y = none) (hv : bootBuiltins y = some (.builtin "len")) (he : PE X e (rdE X.K W m)) (hn : y ≠ "__name__" := by decide) (hdb : (y == ("__debug__" : Str)) = false := by decide)
    (h1 : starEach [e] X.env = (false, eval e X.env) :: starEach [] X.env := by rfl) (hpl : (backTo pos (starEach [] X.env)).any (·.1) = false := by rfl) : PE X (.Call (.Name y p) [e] [] pos) (rdE X.K W (mLenI c f m)) := by
  obtain ⟨g, hs, hf, M⟩ := O.ex
  obtain ⟨fd, F, b⟩ := M.ex
  refine peI (pe_callB (call_lenOwn F hs hf b passL hr) hg hm hv (j_acons he j_anil h1) hn hdb h1 hpl) fun σ H Q q => rd_unL (rl := rlD) (r := rLenI (He.ga X.K c) (spM X.K 1 f) E0) (fun S F H σ ρ x vs ds Q eK r hv p => ?_) q
  skip
  split at p
  · rename_i c' fs
    split at p
    · rename_i hc
      subst hc
      obtain ⟨v, ev, hr2⟩ := rep1 hv
      subst ev
      have hr3 := hr2
      cases hr2 with
      | @obj a C dx _ vs _ h1 e1 h2 =>
        subst e1
        refine ⟨a, dx, vs, rfl, by rw [← eK]; exact r.core.sub _ _ h1, spM0 (W := W) (ds := [.obj c' fs]) eK r (.cons hr3 .nil) ?_⟩
        rw [if_pos (show [D.obj c' fs].length = 1 from rfl)]
        cases ef : f [.obj c' fs] x with
        | val d x' =>
          rw [ef] at p
          cases d with
          | int n =>
            dsimp only at p ⊢
            split at p
            · rename_i hz
              intro v F' H' r1 s1 k1 h1
              have q := p v F' H' r1 s1 k1 h1
              cases h1
              exact ⟨n, rfl, hz.1, hz.2, q⟩
            · exact p.elim
          | _ => exact p.elim
        | exc _ _ _ =>
          rw [ef] at p
          exact p.elim
        | out =>
          rw [ef] at p
          exact p.elim
    · exact p.elim
  · exact p.elim
end
section
variable {P : Program} {w : World} {K : PySem.W.Frag}
  {mg : Str → Option Value} {base : Heap}
structure RawL (K : PySem.W.Frag) (qual c : Str) (st : Stmt) : Prop where
  ex : ∃ g fd, PySem.W.findIn K (.ref (He.ga K c)) "__len__" = some (some (.ref g)) ∧ PySem.W.isFn K (.ref g) = true ∧ Fun K "__len__" qual st g fd ∧ Binds K fd ["self"] []
theorem lenO_mk {qual c : Str} {st : Stmt} {k : Nat} {f : Mr} (R : RawL K qual c st) (h : ∀ g fd, Fun K "__len__" qual st g fd → Binds K fd ["self"] [] → OkM P w K mg base k g ["self"] f) : LenO P w K mg base k c f := by
  obtain ⟨g, fd, hs, hf, F, b⟩ := R.ex
  exact ⟨⟨g, hs, hf, h g fd F b⟩⟩
end
end Mi

/-! Mi34: t1 = t2 = e; name += e for ints. -/
namespace Mi
open PySem PySem.Spec L2
section
variable {X : Cx} {W : WX}
/-- t1 = t2 = e -/
def mAsg2 (t1 t2 : Tg) (m : MM D) : MS := mE m fun d ρ x => match t1.asg d ρ with
  | some ρ1 => (match t2.asg d ρ1 with
    | some ρ2 => .nx ρ2 x
    | none => .out)
  | none => .out
theorem js_asg2 {tx1 tx2 e : Expr} {pos : Pos} {t1 t2 : Tg} {m : MM D} (he : PE X e (rdE X.K W m)) (h1 : PG X tx1 (t1.g X.K)) (h2 : PG X tx2 (t2.g X.K)) (ha : (assignEach [tx1, tx2] X.env).map (·.2) = [assign tx1 X.env, assign tx2 X.env] := by rfl) (hw : swappedStores [tx1, tx2] e X.env = pure none := by rfl) :
    PS X (.Assign [tx1, tx2] e pos) (rdS X.K W (mAsg2 t1 t2 m)) :=
  psI (ps_asg2 he h1 h2 ha hw) fun D σ H h => rd_E (rl := rlD) h fun S F H' ρ x v d eK r hv p => by
    cases e1 : t1.asg d ρ with
    | none =>
      rw [e1] at p
      exact p.elim
    | some ρ1 =>
      rw [e1] at p
      dsimp only at p
      cases e2 : t2.asg d ρ1 with
      | none =>
        rw [e2] at p
        exact p.elim
      | some ρ2 =>
        rw [e2] at p
        rw [← eK]
        exact Tg.ok t1 r hv e1 fun vs r' => Tg.ok t2 r' hv e2 fun vs2 r2 => p _ _ _ r2
/-- name += e -/
def mAugA (i : Nat) (m : MM D) : MS := fun ρ x => match ρ[i]? with
  | some (.fz (.int a)) => mE m (fun d ρ x => match d with
    | .int b => .nx (ρ.set i (.fz (.int (a + b)))) x
    | _ => .out) ρ x
  | _ => .out
theorem js_augA (i : Nat) {y : Str} {e : Expr} {p1 pos : Pos} {m : MM D} (hN : X.N.Nodup) (he : PE X e (rdE X.K W m)) (hi : X.N[i]? = some y := by rfl) (hx : Loc X.env.scope y := by first | exact Or.inl rfl | exact Or.inr rfl)
    (hf : X.fn y = true ∨ X.env.scope.names.lookup y = some .local := by first | exact .inl rfl | exact .inr rfl | assumption) : PS X (.AugAssign (.Name y p1) .Add e pos) (rdS X.K W (mAugA i m)) :=
  psI (ps_aug hN hi hx he ip_add hf) fun D σ H h => by
    obtain ⟨S, F, ρ, x, eK, r, p⟩ := h
    unfold mAugA at p
    split at p
    · rename_i a e
      obtain ⟨v, eσ, ok⟩ := r.slot i _ e
      obtain ⟨z, rfl, hz⟩ := ok
      cases hz
      refine ⟨.int a, eσ, ?_⟩
      refine (show rdE X.K W m σ H _ from ?_)
      exact rd_E (rl := rlD) ⟨S, F, ρ, x, eK, r, p⟩ fun S F H' ρ x v d eK r hv p => by
        cases hv <;> try exact p.elim
        rename_i b
        exact ⟨a, b, rfl, rfl, p _ _ _ (r.put i (.int (a + b)))⟩
    · exact p.elim
end
end Mi

/-! Mi35: a text taken out of an owned list of texts. -/
namespace Mi
open PySem PySem.Spec L2 PyProof.Rows
def rem1 (k : Str) : List Str → List Str
  | [] => []
  | a :: l => if a = k then l else a :: rem1 k l
theorem rem1_perm {k : Str} : ∀ {l : List Str}, k ∈ l → l.Perm (k :: rem1 k l)
  | a :: l, h => by
    unfold rem1
    by_cases e : a = k
    · rw [if_pos e, e]
    · rw [if_neg e]
      have h2 : k ∈ l := (List.mem_cons.mp h).resolve_left fun z => e z.symm
      exact ((rem1_perm h2).cons a).trans (List.Perm.swap _ _ _)
theorem rem1_len {k : Str} : ∀ {l : List Str}, (rem1 k l).length ≤ l.length
  | [] => Nat.le_refl _
  | a :: l => by
    unfold rem1
    split
    · exact Nat.le_succ _
    · exact Nat.succ_le_succ rem1_len
theorem rem1_at {k : Str} : ∀ {ks : List Str}, k ∈ ks → ∃ j, j < ks.length ∧ ks[j]? = some k ∧ (∀ i, i < j → ks[i]? ≠ some k) ∧ ks.eraseIdx j = rem1 k ks
  | [], h => nomatch h
  | a :: r, h =>
    if e : a = k then ⟨0, by simp, by simp [e], fun i hi => (Nat.not_lt_zero i hi).elim, by simp [rem1, e]⟩
    else
      match rem1_at ((List.mem_cons.mp h).resolve_left fun z => e z.symm) with
      | ⟨j, b1, b2, b3, b4⟩ => ⟨j + 1, by simpa using b1, by simpa using b2, (fun
        | 0, _, z => e (by simpa using z)
        | i + 1, lt, z => b3 i (by omega) (by simpa using z)), by simp [rem1, e, b4]⟩
theorem strs_are : ∀ {ks : List Str} {us : List Value}, Vals (ks.map V.str) us → StrsAre us ks
  | [], _, .nil => .nil
  | k :: ks, _, .cons r h => by
    obtain ⟨t, rfl⟩ := r
    exact .cons k t (strs_are h)
theorem erase_mapS : ∀ (l : List Str) (j : Nat), (l.map V.str).eraseIdx j = (l.eraseIdx j).map V.str
  | [], _ => rfl
  | _ :: _, 0 => rfl
  | a :: r, j + 1 => by
    show V.str a :: (r.map V.str).eraseIdx j = V.str a :: (r.eraseIdx j).map V.str
    rw [erase_mapS r j]
section
variable {X : Cx} {W : WX}
def rRemS : V → List V → Hp → VK → Prop := fun x xs H Q => ∃ (l : Addr) (ks : List Str) (k : Str), x = .ref l ∧ xs = [.str k] ∧ H l = some (.lst (ks.map V.str)) ∧ k ∈ ks ∧ Q .non (upd H l (.lst ((rem1 k ks).map V.str)))
/-- the values of texts in a list, one by one -/
theorem texts_at {ks : List Str} {us : List Value} (h : StrsAre us ks) {i : Nat} {a : Str} (ha : ks[i]? = some a) (hi : i < us.toArray.size) (k : Str) : isStrOf k us.toArray[i] = (a == k) := by
  obtain ⟨tk, e⟩ := h.get i a ha
  have e2 : us.toArray[i] = Value.str a tk := by
    have := (List.getElem?_eq_some_iff.mp e).2
    simpa using this
  rw [e2]
  rfl
/-- the call itself, on a list of texts whose first k stands at j -/
theorem rem_call {pins : List (Addr × Obj)} {s : Shared} {σ : L2.St} {l : Addr} {us : List Value} {ks : List Str} {n j : Nat} {k : Str} {t : Tok} {Q : VK} (hu : StrsAre us ks) (e : s.heap.get? l = some { cls := .type "list", dict := none, data := .seq us.toArray n, slots := #[] })
    (hj : ks[j]? = some k) (hf : ∀ i, i < j → ks[i]? ≠ some k) (hs : us.toArray.size ≤ sizeLine) (q : EP X pins σ Q Value.none { s with heap := s.heap.update l (Obj.mapSeq fun xs => xs.eraseIdxIfInBounds j) }) :
    wpAny (model X.prog X.w) X.A (call (.builtin "list.remove") [Value.ref l, Value.str k t]) (EP X pins σ Q) X.xe s := by
  have len := StrsAre.length hu
  have jl := (List.getElem?_eq_some_iff.mp hj).1
  have in_range : j < us.toArray.size := by
    rw [List.size_toArray]
    omega
  have one : isStrOf k us.toArray[j] = true := by
    rw [texts_at hu hj in_range k]
    simp
  have none_before : ∀ i (hi : i < us.toArray.size), i < j → isStrOf k us.toArray[i] = false := fun i hi lt => by
    have il : i < ks.length := by omega
    rw [texts_at hu (List.getElem?_eq_getElem il) hi k]
    exact beq_eq_false_iff_ne.mpr fun z => hf i lt (by rw [List.getElem?_eq_getElem il, z])
  have meets := MeetsSeq.list_remove l us.toArray n (.str k t) (isStrOf k) (fun y hy => eq_isStrOf k t hu y (by simpa using hy)) j in_range one none_before hs
  exact call_meets PySem.F.slot_list_remove
    ⟨_, e, rfl⟩ PySem.F.entry_list_remove
    (PySem.F.args_list_remove_2 _ _) meets ⟨e, q⟩
theorem mt_removeS : MtM X "list.remove" rRemS := fun pins s σ H x xs v us Q I rx rxs h => by
  obtain ⟨l, ks, k, ex, exs, hH, hk, q⟩ := h
  subst ex
  subst exs
  cases rx
  obtain ⟨u, rfl, t, rfl⟩ := rxs.one
  obtain ⟨small, vals, ver, rel, lens, there⟩ := I.lstM hH
  rw [List.length_map] at lens small
  obtain ⟨j, _, j2, j3, j4⟩ := rem1_at hk
  have short : vals.toArray.size ≤ sizeLine := by
    rw [List.size_toArray]
    omega
  refine rem_call (strs_are rel) there j2 j3 short ?_
  have rest : Vals ((rem1 k ks).map V.str) (vals.eraseIdx j) := by
    rw [← j4, ← erase_mapS]
    exact rel.eraseIdx j
  have fits : ((rem1 k ks).map V.str).length ≤ sizeLine := by
    rw [List.length_map]
    exact Nat.le_trans rem1_len small
  have same : vals.toArray.eraseIdxIfInBounds j = (vals.eraseIdx j).toArray := List.eraseIdxIfInBounds_toArray ..
  exact ⟨.non, _, I.lset (its' := vals.eraseIdx j) (t' := s.toks) hH there same rest fits, rfl, q⟩
def mRem (i : Nat) (m : MM D) : MS := fun ρ x => match ρ[i]? with
  | some (.ol ds) => mE m (fun d ρ x => match d with
    | .str k => (match asSs ds with
      | some ks => if k ∈ ks then .nx (ρ.set i (.ol ((rem1 k ks).map D.str))) x else .out
      | none => .out)
    | _ => .out) ρ x
  | _ => .out
theorem repL_strs2 {K : PySem.W.Frag} {b : Option Addr} {F : Hp} : ∀ ks : List Str, RepL K b F (ks.map V.str) (ks.map D.str)
  | [] => .nil
  | k :: ks => .cons (.str k) (repL_strs2 ks)
/-- xs.remove(e) -/
theorem js_rem (i : Nat) {y : Str} {e : Expr} {p1 apos cpos pos : Pos} {m : MM D} (he : PE X e (rdE X.K W m)) (hN : X.N[i]? = some y := by rfl) (hv : Vis X.env.scope y := by first | exact Or.inl rfl | exact Or.inr (Or.inl rfl) | exact Or.inr (Or.inr rfl)) (hd : (y == ("__debug__" : Str)) = false := by decide) (hcd : (y == ("__classdict__" : Str)) = false := by decide)
    (h1 : starEach [e] X.env = (false, eval e X.env) :: starEach [] X.env := by rfl) (hbase : attributeBase (.Name y p1) "remove" X.env (eval (.Name y p1) X.env) = eval (.Name y p1) X.env := by rfl) (hfew : ((backTo cpos (starEach [e] X.env)).all (fun x => !x.1) && (backToKw cpos (keywordEach [] X.env)).all (fun x => x.1.isSome)
      && decide ([e].length + ([] : List Keyword).length + (if ([] : List Keyword).isEmpty then 0 else 1) < 30)) = true := by rfl) (hline : (apos.endLine == cpos.line) = true := by rfl) (hplain : (backTo cpos (starEach [] X.env)).any (·.1) = false := by rfl)
    (hs : swapsWith (.Call (.Attribute (.Name y p1) "remove" apos) [e] [] cpos) none pos.line X.env = pure false := by rfl) :
    PS X (.Expr (.Call (.Attribute (.Name y p1) "remove" apos) [e] [] cpos) pos) (rdS X.K W (mRem i m)) :=
  psI (ps_expr (pe_bm PySem.F.plainAttrs_list PySem.F.slot_list_remove PySem.F.type_list_remove mt_removeS (pe_var (i := i) hN hv hd hcd) (pa_cons he pa_nil h1) hbase hfew hline h1 hplain) hs) fun D σ H h => by
    obtain ⟨S, F, ρ, x, eK, r, p⟩ := h
    unfold mRem at p
    split at p
    · rename_i ds e
      obtain ⟨q, vs, eσ, nb, n0, nF, hH, hr⟩ := r.getO e
      refine ⟨.ref q, eσ, .inl ⟨rfl, vs, sqL hH⟩, ?_⟩
      refine (show rdE X.K W m σ H _ from ?_)
      refine ⟨S, F, ρ, x, eK, r, ?_⟩
      unfold mE at p
      cases e1 : m ρ x with
      | out =>
        rw [e1] at p
        exact p
      | exc c fs x1 =>
        rw [e1] at p
        exact fun F' H' dd a1 _ _ a4 => p σ F' H' dd a1 a4
      | val d x1 =>
        rw [e1] at p
        dsimp only at p
        cases d with
        | str k =>
          dsimp only at p
          cases e2 : asSs ds with
          | none =>
            rw [e2] at p
            exact p.elim
          | some ks =>
            rw [e2] at p
            dsimp only at p
            by_cases hk : k ∈ ks
            · rw [if_pos hk] at p
              intro v F' H' r' s' k' hv
              have hv : Rep S.K S.b F' v (.str k) := hv
              cases hv
              have h2 : H' q = some (.lst vs) := k' q _ hH nb
              have ev := hr.strs e2
              subst ev
              exact ⟨q, ks, k, rfl, rfl, h2, hk, p _ _ _ (r'.updO e eσ (repL_strs2 _))⟩
            · rw [if_neg hk] at p
              exact p.elim
        | _ => exact p.elim
    · exact p.elim
end
end Mi
namespace Mi
open PySem PySem.Spec L2
/-- a block within a block -/
theorem blkOk_in {X : Cx} {N : List Str} {scope0 scope : Scope} {own : List (Str × Nat)} {s : Shared} {H : Hp} {env : Env} {fp : List Addr} (hN : X.N = N) (hs : env.scope = scope0) (h : blkC N scope0 scope own = true) : BlkOk (X.blk s H scope0 env fp).N (X.blk s H scope0 env fp).env.scope scope own := by
  subst hN
  subst hs
  exact blkOk_by h
end Mi
namespace Mi
open PySem PySem.Spec L2 PyProof.Rows
/-! ### list of a text -/
def txL (s : Str) : List Str := s.cps.toList.map fun c => ⟨#[c]⟩
section
variable {X : Cx} {W : WX}
/-- the signs of a text as values -/
theorem signs_vals {w : Str} {acc : Array Value} (it : ItemsOf (SignAt w) acc w.cps.size) : Vals ((txL w).map V.str) acc.toList := by
  have hl : ((txL w).map V.str).length = acc.toList.length := by
    simp [txL, it.1]
  refine vals_of_at hl fun j y u hy hu => ?_
  have hu2 : acc[j]? = some u := by simpa using hu
  obtain ⟨sign, tk, e1, e2⟩ := it.2 j u hu2
  have hy2 : ((txL w).map V.str)[j]? = some (.str ⟨#[sign]⟩) := by simp [txL, e1]
  rw [hy2] at hy
  cases hy
  exact ⟨tk, e2⟩
theorem call_list_tx (hc : X.calm = true) : CallR X (.type "list") (fun xs H Q => ∃ s : Str, xs = [.str s] ∧ s.cps.size ≤ sizeLine ∧ ∀ l, H l = none → Q (.ref l) (upd H l (.lst ((txL s).map V.str)))) := fun pins s σ H xs us Q I r h => by
  obtain ⟨w, ex, hz, q⟩ := h
  subst ex
  obtain ⟨u, eu, t, et⟩ := vals1 r
  subst eu
  subst et
  have short : ((txL w).map V.str).length ≤ sizeLine := by simpa [txL] using hz
  refine PySem.call_list_str (I.ok.hd hc) w t (fun h' tk acc c' keeps made it => ?_) hz
  have obj : ObjOk X.prog X.w H h' s.heap.objs.size (.lst ((txL w).map V.str)) := ⟨short, acc.toList, c', signs_vals it, by simpa using made⟩
  exact ⟨.ref s.heap.objs.size, upd H s.heap.objs.size (.lst ((txL w).map V.str)), I.laid (t' := tk) keeps (Nat.le_refl _) obj, rfl, q _ (I.hok.fresh (Nat.le_refl _))⟩
def gListT : List D → Option (List D)
  | [.str s] => if s.cps.size ≤ big then some ((txL s).map D.str) else none
  | _ => none
theorem jn_listT {y : Str} {p pos : Pos} {e : Expr} {es : List Expr} {ms : MM (List D)} (hc : X.calm = true) (hg : Gl X y) (hm : X.mg y = none) (hv : bootBuiltins y = some (.type "list")) (ha : PA X (e :: es) (rdA X.K W ms)) (hn : y ≠ "__name__" := by decide) (hdb : (y == ("__debug__" : Str)) = false := by decide)
    (he : starEach (e :: es) X.env = (false, eval e X.env) :: starEach es X.env := by rfl) (hpl : (backTo pos (starEach es X.env)).any (·.1) = false := by rfl) : PE X (.Call (.Name y p) (e :: es) [] pos) (rdN X.K W (mBind ms fun ds => oB (gListT ds))) :=
  peI (pe_callTy (call_list_tx hc) hg hm hv ha hn hdb he hpl) fun σ H Q q => rd_toN (rl := rlL) q fun S F H' ρ x vs a eK r hv p => by
    unfold gListT at p
    split at p
    · rename_i s
      obtain ⟨v, e, h⟩ := rep1 hv
      subst e
      cases h
      by_cases hz : s.cps.size ≤ big
      · rw [if_pos hz] at p
        exact ⟨s, rfl, big_le hz, fun l n => p l F _ (r.allocO n) (newL_of r n (repL_strs2 _)) (Same.refl F) (KeepB.new n) n⟩
      · rw [if_neg hz] at p
        exact p.elim
    · exact p.elim
end
end Mi

/-! Mi36: a dict made by a comprehension, lent as it stands. -/
namespace Mi
open PySem PySem.Spec L2
def dcRun (tg : Tg) (cond : MM Bool) (key elt : MM D) (ρ : En) : List D → List (Key × D) → Bx → R (List (Key × D))
  | [], acc, x => .val acc x
  | d :: ds, acc, x => match tg.asg d ρ with
    | none => .out
    | some ρ1 => match cond ρ1 x with
      | .val true x1 => (match key ρ1 x1 with
        | .val k x2 => (match elt ρ1 x2 with
          | .val e x3 => (match keyD k with
            | some q => if acc.length < big then dcRun tg cond key elt ρ ds (putA acc q e) x3 else .out
            | none => .out)
          | _ => .out)
        | _ => .out)
      | .val false x1 => dcRun tg cond key elt ρ ds acc x1
      | _ => .out
def mDcL (mi : MM (List D)) (tg : Tg) (cond : MM Bool) (key elt : MM D) (own : List Nat) : MM (List (Key × D)) := fun ρ x => match mi ρ x with
  | .val ds x1 => dcRun tg cond key elt (wipeE (shut ρ) own) ds [] x1
  | .exc c fs x1 => .exc c fs x1
  | .out => .out
def mDc (mi : MM (List D)) (tg : Tg) (cond : MM Bool) (key elt : MM D) (own : List Nat) : MM D := mBind (mDcL mi tg cond key elt own) fun ds => fun _ x => .val (.dcb ds) x
section
variable {X : Cx} {W : WX}
theorem dcRun_exc (tg : Tg) (mc : MM Bool) (mk me : MM D) (ρ : En) : ∀ (ds : List D) (acc : List (Key × D)) (x : Bx) (c : Str) (fs : Fl) (x2 : Bx), dcRun tg mc mk me ρ ds acc x ≠ .exc c fs x2
  | [], _, _, _, _, _ => fun h => by
    unfold dcRun at h
    cases h
  | d :: ds, acc, x, c, fs, x2 => fun h => by
    unfold dcRun at h
    split at h
    · cases h
    · split at h
      · split at h
        · split at h
          · split at h
            · split at h
              · exact dcRun_exc tg mc mk me ρ ds _ _ c fs x2 h
              · cases h
            · cases h
          · cases h
        · cases h
      · exact dcRun_exc tg mc mk me ρ ds _ _ c fs x2 h
      · cases h
/-- a turn of the walk, all of it -/
theorem dc_go {K : PySem.W.Frag} {tg : Tg} {mc : MM Bool} {mk me : MM D} {vs : List Nat} (htg : ∀ i ∈ tg.ixs, i ∈ vs) {S : Cf} {σ : L2.St} {F1 H1 : Hp} {ρ : En} {x1 : Bx} {J : It} {ds : List D} {Q : VK} {got : List (Key × D)} {x2 : Bx} (eK : S.K = K) (r1 : Rel S F1 H1 σ ρ x1) (w1 : Walks S.K S.b F1 J ds)
    (p : dcRun tg mc mk me (wipeE (shut ρ) vs) ds [] x1 = .val got x2) (Dl : Addr) (hD : H1 Dl = none)
    (fin : ∀ F' H' us, Core ⟨S.K, S.b, H1, F1, S.me⟩ F' H' x2 → F' Dl = none → H' Dl = some (.dK us) → RepK S.K S.b F' us got → Q (.ref Dl) H') :
    ∃ W : Nat → Nat → Hp → Prop, (∃ m, W 0 m (upd H1 Dl (.dK []))) ∧ ∀ i m H, W i m H → (J.stop i H ∧ Q (.ref Dl) H) ∨ (J.go i H ∧ ∃ Nx : Hp → Prop, (∀ H', Nx H' → ∃ m', m' < m ∧ W (i + 1) m' H') ∧ ∀ x H', J.yld i H x H' → tg.g K x (L2.wipe σ vs) H' fun σ2 H2 => L2.wipe σ2 vs = L2.wipe σ vs ∧ rdT K Wf mc σ2 H2 fun b H3 =>
      if b = true then rdE K Wf mk σ2 H3 fun y H4 => rdE K Wf me σ2 H4 fun z H5 => ∃ kvs k, y = kV k ∧ H5 Dl = some (.dK kvs) ∧ kvs.length < sizeLine ∧ Nx (upd H5 Dl (.dK (putK kvs k z))) else Nx H3) := by
  have q0 : Rel ⟨S.K, S.b, H1, F1, S.me⟩ F1 H1 (L2.wipe σ vs) (wipeE (shut ρ) vs) x1 := r1.shut.wipe vs
  have pw : Pure (wipeE (shut ρ) vs) := (pure_shut ρ).wipe vs
  generalize wipeE (shut ρ) vs = ρw at p q0 pw
  have nb : S.b ≠ some Dl := r1.core.ne_box hD
  let Go : Nat → Hp → Prop := fun i H' => ∃ F' x' us acc, Core ⟨S.K, S.b, H1, F1, S.me⟩ F' H' x' ∧ F' Dl = none ∧ H' Dl = some (.dK us) ∧ RepK S.K S.b F' us acc ∧ dcRun tg mc mk me ρw (ds.drop i) acc x' = .val got x2
  refine ⟨fun i m H' => m = ds.length - i ∧ i ≤ ds.length ∧ Go i H', ⟨ds.length, rfl, Nat.zero_le _, F1, x1, [], [], r1.core.enter.allocO hD, r1.core.nF hD, upd_same, .nil, p⟩, fun i m H' hW => ?_⟩
  obtain ⟨rfl, hi, F', x', us, acc, c', fD, hDl, ru, pp⟩ := hW
  obtain ⟨wa, wb⟩ := w1 ⟨S.K, S.b, H1, F1, S.me⟩ i F' H' x' rfl rfl c'.f0 c'
  by_cases hlt : i < ds.length
  case neg =>
    have ei : i = ds.length := Nat.le_antisymm hi (Nat.le_of_not_lt hlt)
    refine .inl ⟨wb (Nat.le_of_eq ei.symm), ?_⟩
    rw [ei, List.drop_length] at pp
    cases pp
    exact fin F' H' us c' fD hDl ru
  obtain ⟨hgo, hy⟩ := wa hlt
  refine .inr ⟨hgo, Go (i + 1), fun H'' hN => ⟨ds.length - (i + 1), by omega, rfl, hlt, hN⟩, fun v H'' y => ?_⟩
  obtain ⟨F2, d, c2, s2, k2, nw, ed, hv⟩ := hy v H'' y
  have f2 : F2 Dl = none := nw Dl (by rw [hDl]; intro z; cases z) fD nb
  have h2 : H'' Dl = some (.dK us) := k2 Dl _ hDl nb
  have there : (⟨S.K, S.b, H'', F2, S.me⟩ : Cf).H0 Dl ≠ none := by
    rw [show (⟨S.K, S.b, H'', F2, S.me⟩ : Cf).H0 Dl = H'' Dl from rfl, h2]
    intro z
    cases z
  have edr : ds.drop i = d :: ds.drop (i + 1) := by
    obtain ⟨hl, e1⟩ := List.getElem?_eq_some_iff.mp ed
    rw [List.drop_eq_getElem_cons hl, e1]
  rw [edr] at pp
  unfold dcRun at pp
  cases ea : tg.asg d ρw with
  | none =>
    rw [ea] at pp
    cases pp
  | some ρ1 =>
  rw [ea] at pp
  dsimp only at pp
  have re : Rel ⟨S.K, S.b, H'', F2, S.me⟩ F2 H'' (L2.wipe σ vs) ρw x' := q0.pure pw c2.enter (c'.f0.trans s2) rfl rfl
  rw [← eK]
  refine Tg.ok (S := ⟨S.K, S.b, H'', F2, S.me⟩) tg re hv ea fun zs rz => ?_
  refine ⟨by rw [wipe_putV _ _ _ htg, wipe_wipe vs vs fun _ h => h], ⟨S.K, S.b, H'', F2, S.me⟩, F2, ρ1, x', rfl, rz, ?_⟩
  cases e3 : mc ρ1 x' with
  | exc c fs x3 =>
    rw [e3] at pp
    cases pp
  | out =>
    rw [e3] at pp
    cases pp
  | val c x3 =>
  rw [e3] at pp
  intro b F3 H3 r3 s3 k3 hb
  have hb : b = c := hb
  subst hb
  cases b with
  | false => exact (show Go (i + 1) H3 from ⟨F3, x3, us, acc, c2.exit r3.core, r3.core.fresh Dl there f2, k3 Dl _ h2 nb, ru.mono (s2.trans s3), pp⟩)
  | true =>
  refine (show rdE S.K Wf mk _ H3 _ from ?_)
  refine ⟨⟨S.K, S.b, H'', F2, S.me⟩, F3, ρ1, x3, rfl, r3, ?_⟩
  dsimp only at pp
  cases e4 : mk ρ1 x3 with
  | exc c fs x4 =>
    rw [e4] at pp
    cases pp
  | out =>
    rw [e4] at pp
    cases pp
  | val k x4 =>
  rw [e4] at pp
  dsimp only at pp
  intro vk F4 H4 r4 s4 k4 hk
  have hk : Rep S.K S.b F4 vk k := hk
  refine (show rdE S.K Wf me _ H4 _ from ?_)
  refine ⟨⟨S.K, S.b, H'', F2, S.me⟩, F4, ρ1, x4, rfl, r4, ?_⟩
  cases e5 : me ρ1 x4 with
  | exc c fs x5 =>
    rw [e5] at pp
    cases pp
  | out =>
    rw [e5] at pp
    cases pp
  | val e x5 =>
  rw [e5] at pp
  dsimp only at pp
  intro ve F5 H5 r5 s5 k5 he
  have he : Rep S.K S.b F5 ve e := he
  cases e6 : keyD k with
  | none =>
    rw [e6] at pp
    cases pp
  | some q =>
  rw [e6] at pp
  dsimp only at pp
  by_cases hz : acc.length < big
  case neg =>
    rw [if_neg hz] at pp
    cases pp
  rw [if_pos hz] at pp
  have f5 : F5 Dl = none := r5.core.fresh Dl there f2
  refine ⟨us, q, hk.key e6, k5 Dl _ (k4 Dl _ (k3 Dl _ h2 nb) nb) nb, by rw [ru.length']; exact big_lt hz, ?_⟩
  exact ⟨F5, x5, putK us q ve, putA acc q e, (c2.exit r5.core).write f5 nb hD, f5, upd_same, (ru.mono (((s2.trans s3).trans s4).trans s5)).put q he, pp⟩
theorem rd_dc {K : PySem.W.Frag} {mi : MM (List D)} {tg : Tg} {mc : MM Bool} {mk me : MM D} {vs : List Nat} (htg : ∀ i ∈ tg.ixs, i ∈ vs) {σ : L2.St} {H : Hp} {Q : VK} (h : rdE K W (mDc mi tg mc mk me vs) σ H Q) : tDc (rd rlI K W mi) (tg.g K) (rdT K Wf mc) (rdE K Wf mk) (rdE K Wf me) vs σ H Q := by
  obtain ⟨S, F, ρ, x, eK, rr, p⟩ := h
  refine (show rd rlI K W mi σ H _ from ?_)
  refine ⟨S, F, ρ, x, eK, rr, ?_⟩
  replace p : Post rlD S W σ F H ρ ((mDcL mi tg mc mk me vs ρ x).bind fun ds x => .val (.dcb ds) x) Q := p
  unfold mDcL at p
  cases e : mi ρ x with
  | exc c fs x1 =>
    rw [e] at p
    exact p
  | out =>
    rw [e] at p
    exact p
  | val ds x1 =>
    rw [e] at p
    dsimp only at p
    intro J F1 H1 r1 s1 k1 w1 Dl hD
    cases e2 : dcRun tg mc mk me (wipeE (shut ρ) vs) ds [] x1 with
    | out =>
      rw [e2] at p
      exact p.elim
    | exc c fs x2 => exact (dcRun_exc _ _ _ _ _ _ _ _ _ _ _ e2).elim
    | val acc x2 =>
      rw [e2] at p
      refine dc_go htg eK r1 w1 e2 Dl hD fun F' H' us c' fD hDl ru => ?_
      have c3 : Core ⟨S.K, S.b, H1, F1, S.me⟩ (upd F' Dl (.dK us)) H' x2 := c'.freeze hDl fD (r1.core.ne_box hD) hD
      obtain ⟨a1, a2, a3⟩ := r1.back c3
      exact p (.ref Dl) _ H' a1 (s1.trans a2) (k1.trans a3) (.dcb upd_same (ru.mono (Same.new fD)))
theorem j_dc {kx elt tgx iter : Expr} {ifs : List Expr} {scope : Scope} {own : List (Str × Nat)} {nl : List Nat} {pos : Pos} {mi : MM (List D)} {tg : Tg} {mc : MM Bool} {mk me : MM D} (hc : X.calm = true) (hN : X.N.Nodup) (hi : PI X tgx iter (rd rlI X.K W mi)) (ok : BlkOk X.N X.env.scope scope own)
    (hg : ∀ (s : Shared) (H : Hp) (C : Addr) (cl : List (Str × Addr)) (fp : List Addr), PG (X.blk s H scope (compEnvC scope cl C X.env) fp) tgx (tg.g X.K)) (ht : ∀ (s : Shared) (H : Hp) (C : Addr) (cl : List (Str × Addr)) (fp : List Addr), PTs (X.blk s H scope (compEnvC scope cl C X.env) fp) ifs (rdT X.K Wf mc))
    (hk : ∀ (s : Shared) (H : Hp) (C : Addr) (cl : List (Str × Addr)) (fp : List Addr), PE (X.blk s H scope (compEnvC scope cl C X.env) fp) kx (rdE X.K Wf mk))
    (he : ∀ (s : Shared) (H : Hp) (C : Addr) (cl : List (Str × Addr)) (fp : List Addr), PE (X.blk s H scope (compEnvC scope cl C X.env) fp) elt (rdE X.K Wf me)) (hnl : own.map (·.2) = nl := by rfl) (htg : ∀ i ∈ tg.ixs, i ∈ nl := by decide) (hs : ∀ x, foldedSetIterable iter X.env x = pure x := by intro _; rfl) :
    PE X (.DictComp kx elt [⟨tgx, iter, ifs, 0⟩] scope pos) (rdE X.K W (mDc mi tg mc mk me nl)) := by
  subst hnl
  exact peI (pe_dc hc hN hi ok hg ht hk he hs) fun σ H Q h => rd_dc htg h
end
end Mi
namespace Mi
open PySem PySem.Spec L2
section
variable {X : Cx} {W : WX}
/-! ### a text no times, or once -/
def rOnce : R2 := fun x y H Q => ∃ (i : Str) (k : Int), x = .str i ∧ y = .int k ∧ (k = 0 ∨ k = 1) ∧ Q (.str (if k = 1 then i else Str.empty)) H
theorem op_onceS : OpR X (binaryOp .Mult) rOnce := by
  intro pins s σ H
    x y v u Q I rx ry h
  obtain ⟨i, k, rfl, rfl, hk, q⟩ := h
  obtain ⟨t, rfl⟩ := rx
  obtain ⟨t', rfl⟩ := ry
  rcases hk with rfl | rfl
  · exact PySem.P.mul_str_none (by decide) (by decide) ⟨.str Str.empty, H, I.tok _, ⟨_, rfl⟩, q⟩
  · refine PySem.P.mul_str (by decide) (fun _ z => by simp at z) (fun _ z => by simp at z) ?_
    rw [if_neg (by decide), if_pos (by rfl)]
    exact ⟨.str i, H, I, ⟨_, rfl⟩, q⟩
def gOnce (a b : D) : Option D := match a, b with
  | .str i, .int k => if k = 0 then some (.str Str.empty) else if k = 1 then some (.str i) else none
  | _, _ => none
theorem real_once {K : PySem.W.Frag} : Real2 K W rOnce (fun a b => o1 (gOnce a b)) := by
  intro S F H σ ρ x v1 v2 a b Q eK r ha hb p
  cases ha <;> cases hb <;> try exact p.elim
  rename_i i k
  replace p : Post rlD S W σ F H ρ (o1 (if k = 0 then some (.str Str.empty) else if k = 1 then some (.str i) else none) ρ x) Q := p
  by_cases h0 : k = 0
  · subst h0
    rw [if_pos rfl] at p
    exact ⟨i, 0, rfl, rfl, .inl rfl, post_val (rl := rlD) r p (.str _)⟩
  · rw [if_neg h0] at p
    by_cases h1 : k = 1
    · subst h1
      rw [if_pos rfl] at p
      exact ⟨i, 1, rfl, rfl, .inr rfl, post_val (rl := rlD) r p (.str _)⟩
    · rw [if_neg h1] at p
      exact p.elim
theorem j_once {ma mb : MM D} {a b : Expr} {pos : Pos} (ha : PE X a (rdE X.K W ma)) (hb : PE X b (rdE X.K W mb)) : PE X (.BinOp a .Mult b pos) (rdE X.K W (mOp (fun a b => o1 (gOnce a b)) ma mb)) :=
  j_op op_onceS real_once ha hb
end
end Mi

/-! Mi37: d.get(k); two names at once, some of them cells. -/
namespace Mi
open PySem
open PySem.Spec PyProof.Rows L2
section
variable {X : Cx} {W : WX}
/-! ### d.get(k) -/
def mGet1 (mo mk : MM D) : MM D := mBind mo fun o => match isDct o with
  | some kds => mBind mk fun k => match keyD k with
    | some key => fun _ x => .val ((valA kds key).getD .non) x
    | none => fun _ _ => .out
  | none => fun _ _ => .out
theorem j_get1 {o e : Expr} {apos cpos : Pos} {mo mk : MM D} (hu : X.A.units + 1 < cLine) (ho : PE X o (rdE X.K W mo)) (he : PE X e (rdE X.K W mk)) (m : M1 X o "get" apos e cpos := by exact ⟨rfl, rfl, rfl, rfl⟩) : PE X (.Call (.Attribute o "get" apos) [e] [] cpos) (rdE X.K W (mGet1 mo mk)) :=
  peI (pe_dget1 hu ho he m) fun σ H Q h => by
    obtain ⟨S, F, ρ, x, eK, r, p⟩ := h
    refine (show rdE X.K W mo σ H _ from ?_)
    refine ⟨S, F, ρ, x, eK, r, ?_⟩
    replace p : Post rlD S W σ F H ρ ((mo ρ x).bind fun o x1 => (match isDct o with
      | some kds => mBind mk fun k => match keyD k with
        | some key => fun _ x => .val ((valA kds key).getD .non) x
        | none => fun _ _ => .out
      | none => fun _ _ => .out) ρ x1) Q := p
    cases e1 : mo ρ x with
    | out =>
      rw [e1] at p
      exact p
    | exc c fs x1 =>
      rw [e1] at p
      exact p
    | val d x1 =>
      rw [e1] at p
      simp only [R.bind] at p
      intro v F' H' r1 s1 k1 h1
      have h1 : Rep S.K S.b F' v d := h1
      cases hd : isDct d with
      | none =>
        rw [hd] at p
        exact p.elim
      | some kds =>
        rw [hd] at p
        obtain ⟨a, kvs, ev, hrd, hr⟩ := h1.dict (Same.refl F') hd
        have sub := r1.core.sub
        have rd1 : ∀ F2 H2, Rel S F2 H2 σ ρ x1 → Same F' F2 → Rd H2 a (.dK kvs) := fun F2 H2 r2 s2 => hrd.imp (fun z => r2.core.sub _ _ (s2 _ _ z)) fun ⟨o, z⟩ => ⟨o, r2.core.sub _ _ (s2 _ _ z)⟩
        refine ⟨a, ev, .inl ⟨kvs, hrd.imp (sub _ _) fun ⟨o, z⟩ => ⟨o, sub _ _ z⟩⟩, ?_⟩
        refine (show rdE X.K W mk σ H' _ from ?_)
        refine ⟨S, F', ρ, x1, eK, r1, ?_⟩
        replace p : Post rlD S W σ F H ρ ((mk ρ x1).bind fun k x2 => (match keyD k with
          | some key => fun _ x => .val ((valA kds key).getD .non) x
          | none => fun _ _ => .out : MM D) ρ x2) Q := p
        cases e2 : mk ρ x1 with
        | out =>
          rw [e2] at p
          exact p
        | exc c fs x2 =>
          rw [e2] at p
          exact fun F' H' dd a1 a2 a3 a4 => p F' H' dd a1 (s1.trans a2) (k1.trans a3) a4
        | val k x2 =>
          rw [e2] at p
          simp only [R.bind] at p
          intro vk F2 H2 r2 s2 k2 h2
          have h2 : Rep S.K S.b F2 vk k := h2
          cases ek : keyD k with
          | none =>
            simp only [ek] at p
            exact p.elim
          | some key =>
            simp only [ek] at p
            have evk := h2.key ek
            subst evk
            have g2 : Rd H2 a (.dK kvs) := hrd.imp (fun z => r2.core.sub _ _ (s2 _ _ z)) fun ⟨o, z⟩ => ⟨o, r2.core.sub _ _ (s2 _ _ z)⟩
            refine ⟨valV kvs key, .inl ⟨kvs, key, g2, rfl, rfl⟩, ?_⟩
            refine p _ F2 H2 r2 (s1.trans s2) (k1.trans k2) ?_
            rcases hr.val key with ⟨z1, z2⟩ | ⟨v, d, z1, z2, z3⟩
            · rw [z1, z2]
              exact .non
            · rw [z1, z2]
              exact z3.mono s2
/-! ### two names at once, a cell among them -/
theorem js_parC {i j : Nat} {x y : Str} {a b : Expr} {p : Pt} {ps : List Pt} {px py pt pos pt2 : Pos} {kt k2 : Nat} (hc : X.calm = true) (hN : X.N.Nodup) (ha : PA X [a, b] (tParts X.K W (p :: ps))) (hx : PG X (.Name x px) (gName i)) (hy : PG X (.Name y py) (gName j))
    (hw : swappedStores [.Tuple [.Name x px, .Name y py] kt pt] (.Tuple [a, b] k2 pt2) X.env = pure none := by rfl) (hs : swapsWithSole [.Tuple [.Name x px, .Name y py] kt pt] (.Tuple [a, b] k2 pt2) pos.line X.env = pure false := by rfl) :
    PS X (.Assign [.Tuple [.Name x px, .Name y py] kt pt] (.Tuple [a, b] k2 pt2) pos) (rdS X.K W (mParG p ps [i, j])) :=
  psI (ps_asg (pe_tup ha) (pg_tup (n := 2) hc (pgs_cons hx (pgs_cons hy pgs_nil))) hs hw) fun D σ H h => by
    refine (show p.te X.K W σ H fun v H1 => tParts X.K W ps σ H1 fun vs H2 => (v :: vs).length ≤ sizeLine ∧ _ from ?_)
    refine pt_first h fun S F H' ρ x v s eK r hl q => ?_
    have go := parts_go (is := [i, j]) ps S F H' ρ x [s] [v] eK r hl q
    refine tParts_mono (fun vs H2 z => ?_) go
    obtain ⟨S, F, ρ, x, ss, eK, r, hl, _, h2, q⟩ := z
    obtain ⟨s1, s2, rfl⟩ : ∃ s1 s2, ss = [s1, s2] := by
      match ss, h2 with
      | [s1, s2], _ => exact ⟨s1, s2, rfl⟩
    have hlen := r.len
    obtain ⟨u, rfl⟩ : ∃ u, vs = [u] := by
      match vs, hlen with
      | [u], _ => exact ⟨u, rfl⟩
      | [], e => simp at e; omega
      | _ :: _ :: _, e => simp at e; omega
    refine ⟨by show 2 ≤ sizeLine; decide, fun t ht => ?_⟩
    have r0 := r.allocO (o := .tup [v, u]) ht
    have r1 := (r0.move i hl).move j (by rw [List.length_set, List.length_set]; exact hl)
    rw [show ∀ z : L2.St, z ++ List.map some [] = z from List.append_nil, List.append_nil] at r1
    exact ⟨t, [v, u], rfl, .inl (.inl upd_same), rfl, v, [u], rfl, u, [], rfl, rfl, q _ _ _ r1⟩
end
end Mi

/-! Mi38: sets of texts that a def owns: new, add, sorted. -/
namespace Mi
open PySem PySem.Spec PyProof.Rows L2 PySem.Froz
/-- a is a set of the texts l, each once; its table rises and can be walked -/
def TxtSet (P : Program) (w : World) (h : Heap) (a : Addr) (l : List Str) : Prop :=
  ∃ D : SD, h.get? a = some (sObj "set" D) ∧ TxOk P w D l ∧ l.Nodup ∧ l.length < scanBound ∧ Ris D.2.2.place.toList ∧ (w.params.followText "set-order" = true ∨ D.2.2.led = true)
def addT (l : List Str) (k : Str) : List Str := if k ∈ l then l else k :: l
theorem addT_nodup {l : List Str} (h : l.Nodup) (k : Str) : (addT l k).Nodup := by
  unfold addT
  split
  · exact h
  · rename_i n
    exact List.nodup_cons.mpr ⟨n, h⟩
theorem addT_len (l : List Str) (k : Str) : (addT l k).length ≤ l.length + 1 := by
  unfold addT
  split
  · omega
  · exact Nat.le_refl _
theorem tail_walk {ep : Nat} {es : Array (Int × Value)} {t : SetTable} {b : Bool} (r : Ris t.place.toList) : Ris (tailTx ep es t b).2.2.place.toList := by
  unfold tailTx
  split
  · exact relayAll_ris t es _
  · exact r
theorem tail_led {ep : Nat} {es : Array (Int × Value)} {t : SetTable} {b : Bool} : (tailTx ep es t b).2.2.led = t.led := by
  unfold tailTx
  split
  · exact relayAll_led t es _
  · rfl
theorem addTx_walk {D : SD} (v : Value) (c : Int) (r : Ris D.2.2.place.toList) : Ris (addTx c v D).2.2.place.toList := by
  have q := layNew_ris D.2.2 D.1 c v r
  unfold addTx
  refine tail_walk ?_
  split <;> exact q
theorem addTx_led {D : SD} (v : Value) (c : Int) : (addTx c v D).2.2.led = D.2.2.led := by
  have q := layNew_led D.2.2 D.1 c v
  unfold addTx
  rw [tail_led]
  split <;> exact q
section
variable {P : Program} {w : World} {A : Around} {E : Value → Shared → Prop} {s : Shared} {a : Addr} {l : List Str}
theorem TxtSet.get {h : Heap} (z : TxtSet P w h a l) : ∃ o, h.get? a = some o := ⟨_, z.choose_spec.1⟩
theorem TxtSet.stay {h h' : Heap} (z : TxtSet P w h a l) (k : ∀ o, h.get? a = some o → h'.get? a = some o) : TxtSet P w h' a l := by
  obtain ⟨D, g, rest⟩ := z
  exact ⟨D, k _ g, rest⟩
/-- a text that is in already -/
theorem twice_x {D : SD} {k : Str} {u : Tok} {Q : Bool → Shared → Prop} (ho : s.heap.get? a = some (sObj "set" D)) (F : TxOk P w D l) (hk : k ∈ l) (hb : l.length < scanBound) (h : Q false s) :
    wpAny (model P w) A (setAddHashed a (.str k u) (hashStr w k)) Q E s := by
  obtain ⟨es, ep, t⟩ := D
  have hf : t.fits es.size = true :=
    F.fit
  have el : ElemsOf (strKind P w) es.toList := F.el
  have sz : es.size = l.length := F.sz
  have here : ∃ j, List.findIdx? (fun e => (strKind P w).is k e.2) es.toList = some j := by
    cases q : List.findIdx? (fun e => (strKind P w).is k e.2) es.toList with
    | some j => exact ⟨j, rfl⟩
    | none =>
      obtain ⟨e, m1, m2⟩ := (F.mem k).mp hk
      have no := List.findIdx?_eq_none_iff.mp q e m1
      rw [m2] at no
      cases no
  obtain ⟨j, hj⟩ := here
  unfold setAddHashed
    setAddHashedIn
  refine wpAny_holding (wpAny_bind (wpAny_setState_of ho rfl hf ?_))
  dsimp only
  rw [byScan_of rfl (by rw [sz]; exact hb) el]
  simp only [↓reduceIte]
  unfold setAddByScan
  refine wpAny_bind (wpAny_bind (wpAny_rule (wpAny_bind (wpAny_setScan_of (knd := strKind P w) (k := k) (is_str k u) ho rfl hf el ?_))))
  rw [hj]
  dsimp only
  exact wpAny_pure
    (wpAny_pure h)
theorem txt_add {k : Str} {u : Tok} {Q : Value → Shared → Prop} (z : TxtSet P w s.heap a l) (room : l.length + 1 < scanBound)
    (hQ : ∀ h', Heap.SameBut a s.heap h' → TxtSet P w h' a (addT l k) → Q .none { s with heap := h', toks := s.toks + 1 }) : wpAny (model P w) A (call (.builtin "set.add") [.ref a, .str k u]) Q E s := by
  obtain ⟨D, ho, G, nd, hb, hr, hl⟩ := z
  refine wpAny_call_entry F.slot_set_add (show s.TypeIs (.ref a) "set" from ⟨_, ho, rfl⟩) F.entry_set_add ?_ (F.args_set_add_2 _ _)
  unfold Builtin.«set.add»
    Builtin.Frozenset.oneOther
  simp only [List.isEmpty_nil,
    bind_assoc]
  unfold
    Builtin.Frozenset.addrOf setAdd
  refine wpAny_bind
    (wpAny_pure ?_)
  try dsimp only
  refine wpAny_bind
    (wpAny_pure ?_)
  try dsimp only
  refine wpAny_bind (wpAny_holding (wpAny_bind ((strKind P w).pyHash (is_str k u) ?_)))
  by_cases hk : k ∈ l
  · refine twice_x (s := { s with toks := s.toks + 1 }) ho G hk hb ?_
    show wpAny _ _
      (ret Value.none) _ _ _
    refine wpAny_pure ⟨_, rfl, hQ s.heap (Heap.SameBut.refl a s.heap) ?_⟩
    unfold addT
    rw [if_pos hk]
    exact ⟨D, ho, G, nd, hb, hr, hl⟩
  · refine add_x (s := { s with toks := s.toks + 1 }) ho G hk room ?_
    show wpAny _ _
      (ret Value.none) _ _ _
    refine wpAny_pure ⟨_, rfl, hQ _ (Heap.SameBut.update s.heap a _) ?_⟩
    unfold addT
    rw [if_neg hk]
    exact ⟨_, get_upd _ ho rfl, PySem.Froz.add_ok u G, List.nodup_cons.mpr ⟨hk, nd⟩, room, addTx_walk _ _ hr, hl.imp id fun q => by rw [addTx_led]; exact q⟩
theorem txt_new {h : Heap} : TxtSet P w (h.push { cls := .type "set", dict := none, data := .set #[] 0 (.fresh 0 0 (!w.params.followText "set-order")) }) h.objs.size [] :=
  ⟨(#[], 0, .fresh 0 0 (!w.params.followText "set-order")), Heap.get?_push_size _ rfl, TxOk.nil rfl, List.nodup_nil, by decide, List.Pairwise.nil, by
    show _ ∨ (!w.params.followText
      "set-order") = true
    cases w.params.followText "set-order" <;> simp⟩
theorem strs_of : ∀ vs : List Value, (∀ v ∈ vs, ∃ k u, v = Value.str k u) → ∃ ks, StrsAre vs ks
  | [], _ => ⟨[], .nil⟩
  | v :: vs, h => by
    obtain ⟨k, u, rfl⟩ := h v List.mem_cons_self
    obtain ⟨ks, q⟩ := strs_of vs fun z hz => h z (List.mem_cons_of_mem _ hz)
    exact ⟨k :: ks, .cons k u q⟩
theorem strs_mem : ∀ {vs : List Value} {ks : List Str}, StrsAre vs ks → ∀ k, k ∈ ks ↔ ∃ u, Value.str k u ∈ vs
  | _, _, .nil, k => by simp
  | _, _, .cons x u q, k => by
    have ih := strs_mem q k
    constructor
    · intro h
      rcases List.mem_cons.mp h with
        e | e
      · exact ⟨u, by rw [e]; exact List.mem_cons_self⟩
      · obtain ⟨t, ht⟩ := ih.mp e
        exact ⟨t, List.mem_cons_of_mem _ ht⟩
    · rintro ⟨t, ht⟩
      rcases List.mem_cons.mp ht with e | e
      · cases e
        exact List.mem_cons_self
      · exact List.mem_cons_of_mem _ (ih.mpr ⟨t, e⟩)
/-- as many, all of them there, none twice: the same -/
theorem perm_of {l m : List Str} (nd : l.Nodup) (hs : ∀ x ∈ l, x ∈ m) (hz : m.length = l.length) : m.Perm l := by
  induction l generalizing m with
  | nil =>
    rw [List.length_eq_zero_iff.mp hz]
  | cons x l ih =>
    obtain ⟨n1, n2⟩ :=
      List.nodup_cons.mp nd
    have hx := hs x List.mem_cons_self
    have pm := List.perm_cons_erase hx
    refine pm.trans (List.Perm.cons x (ih n2 (fun y hy => ?_) ?_))
    · have hy2 := hs y (List.mem_cons_of_mem _ hy)
      exact (List.mem_erase_of_ne (fun e : y = x => n1 (by rw [← e]; exact hy))).mpr hy2
    · rw [List.length_erase_of_mem hx, hz]
      rfl
theorem txt_vals {D : SD} {vs : List Value} (F : TxOk P w D l) (nd : l.Nodup) (pm : vs.Perm (D.1.toList.map (·.2))) : ∃ ks, StrsAre vs ks ∧ ks.Perm l := by
  have all : ∀ v ∈ vs, ∃ k u, v = Value.str k u := fun v hv => by
    obtain ⟨e, he, q⟩ :=
      List.mem_map.mp (pm.mem_iff.mp hv)
    obtain ⟨⟨k, h1, _⟩, _⟩ := F.el e he
    obtain ⟨u, hu⟩ := Value.isStrOf_shape (x := k) (v := e.2) h1
    exact ⟨k, u, by rw [← q, hu]⟩
  obtain ⟨ks, hk⟩ := strs_of vs all
  refine ⟨ks, hk, perm_of nd (fun x hx => ?_) ?_⟩
  · obtain ⟨e, he, q⟩ := (F.mem x).mp hx
    obtain ⟨u, hu⟩ := Value.isStrOf_shape (x := x) (v := e.2) q
    exact (strs_mem hk x).mpr ⟨u, pm.mem_iff.mpr (List.mem_map.mpr ⟨e, he, hu⟩)⟩
  · rw [← F.sz, ← StrsAre.len_eq hk, pm.length_eq, List.length_map, Array.length_toList]
end
/-- as a thing that the def owns -/
def txtO (P : Program) (w : World) (a : Addr) (l : List Str) : HO := .ext fun h => TxtSet P w h a l
theorem txtO_ok {P : Program} {w : World} {H : Hp} {h : Heap} {a : Addr} {l : List Str} (z : TxtSet P w h a l) : ObjOk P w H h a (txtO P w a l) := ⟨z, z.get, fun _ _ p k => TxtSet.stay p k⟩
section
variable {X : Cx} {pins : List (Addr × Obj)}
  {σ : L2.St} {H : Hp} {s : Shared}
theorem txtO_at {a : Addr} {l : List Str} (I : Inv X pins σ H s) (e : H a = some (txtO X.prog X.w a l)) : TxtSet X.prog X.w s.heap a l := (I.hok a _ e).1
theorem txtO_add {E : Value → Shared → Prop} {a : Addr} {l : List Str} {k : Str} {u : Tok} {Q : Value → Shared → Prop} (I : Inv X pins σ H s) (e : H a = some (txtO X.prog X.w a l)) (room : l.length + 1 < scanBound)
    (h : ∀ s', Inv X pins σ (upd H a (txtO X.prog X.w a (addT l k))) s' → Q .none s') : wpAny (model X.prog X.w) X.A (call (.builtin "set.add") [.ref a, .str k u]) Q E s :=
  txt_add (txtO_at I e) room fun h' sb z => h _ (I.write (e := a) (t' := s.toks + 1) (by rw [e]; trivial) (.inl rfl) (fun b o hb ho => (sb.2 b hb).trans ho) z.get (txtO_ok z))
def rTxtSort (P : Program) (w : World) : List V → Hp → VK → Prop := fun vs H Q => ∃ (a : Addr) (l : List Str), vs = [.ref a] ∧ H a = some (txtO P w a l) ∧ l.length < 64 ∧ ∀ ys p, ys.Perm l → sortedS ys = true → H p = none → Q (.ref p) (upd H p (.lst (ys.map V.str)))
theorem cr_txtSort (hc : X.calm = true) : CallR X (.builtin "sorted") (rTxtSort X.prog X.w) := by
  intro pins s σ H vs us Q I r q
  obtain ⟨a, l, rfl, ha, h64, q⟩ := q
  obtain ⟨D, ho, G, nd, hb, hr, hl⟩ := txtO_at I ha
  have hsz : D.1.size = l.length := G.sz
  rw [Vals.ref1 r]
  refine Calls.call_function_entry kind_sorted
    plain_sorted entry_sorted (args_sorted1 _) ?_
  unfold Builtin.«sorted»
  refine wpAny_bind (m := checkCount "sorted" 1 1 _) (wpAny_pure (wpAny_bind (collect_set (A := X.A.in1) (es := D.1) (ep := D.2.1) (t := D.2.2) (I.ok.hd hc) ⟨_, ho, rfl, rfl⟩ G.fit (by rw [hsz]; exact hb) hr hl fun s1 out k1 z1 g1 o1 pm => ?_)))
  obtain ⟨ks, hS, pk⟩ := txt_vals G nd pm
  have hn : out.length < 64 := by rw [pm.length_eq, List.length_map, Array.length_toList, hsz]; exact h64
  refine wpAny_bind (wpAny_newList
    ?_ (by rw [sizeLine_eq]; omega))
  have at1 : (s1.heap.push (seqObj "list" out.toArray 0)).get? s1.heap.objs.size = some (seqObj "list" out.toArray 0) := Heap.get?_push_size _ rfl
  refine wpAny_bind (wpAny_holding (wpAny_call_entry slot_list_sort ⟨_, at1, rfl⟩ entry_list_sort (list_sort_treeK strKind_oneLt at1 hS.keysOf (fun v₁ v₂ rest e => keyKind_strs (by rw [← e]; exact hS)) hn fun st' hp hs => ⟨_, rfl, ?_⟩) (args_list_sort _)))
  obtain ⟨ys, e1, e2, e3⟩ := sorted_out_str hS hp hs
  obtain ⟨c, at2⟩ := sortedHeap_at (vs := out) (out := (arrOf st').map (·.2)) at1
  have hnew : H s1.heap.objs.size = none := I.hok.fresh z1
  have old : ∀ b o, s.heap.get? b = some o → (sortedHeap (s1.heap.push (seqObj "list" out.toArray 0)) s1.heap.objs.size out ((arrOf st').map (·.2))).get? b = some o := fun b o e => by
    have lt := Heap.lt_size (k1 b o e)
    rw [sortedHeap_old (Nat.ne_of_lt lt) (by rw [size_push']; exact Nat.lt_succ_of_lt lt)]
    exact Heap.get?_push_of_some _ (k1 b o e)
  have short : (ys.map V.str).length ≤ sizeLine := by rw [List.length_map, (e2.trans pk).length_eq, sizeLine_eq]; omega
  refine wpAny_pure ⟨_, rfl, .ref s1.heap.objs.size, upd H s1.heap.objs.size (.lst (ys.map V.str)), ?_, rfl, q ys _ (e2.trans pk) e3 hnew⟩
  exact I.call' (ch := []) o1 (Un.laid old z1 hnew) (I.hok.laid old z1 ⟨short, _, c, vals_of_strs e1, at2⟩) (by dsimp only; rw [g1]; exact I.bare) (fun _ z => nomatch z)
end
end Mi

/-! Mi39: {x for y in a for x in b}: a set comprehension with two clauses, of texts. -/
namespace Mi
open PySem PySem.Spec PyProof.Rows L2 PySem.Froz
section
variable {prog : Program} {w : World} {A : Around} {R : Result → Shared → Prop} {s : Shared} {elt : Expr} {gens : List Comprehension} {scope : Scope} {pos : Pos} {d : Nat} {it acc : Value} {env : Env}
/-- a clause's loop, by the body of its turn -/
theorem clause_loop {p : Pos} {body : Value → Sem Fin} (hT : compTurn (.SetComp elt gens scope pos) d it acc env = (do
      standAt p
      match ← pyNext it with
      | none => pure (.done .next)
      | some v => body v)) (I : Nat → Shared → Prop)
    (turn : ∀ n s, I n s → wpAny (model prog w) A (pyNext it) (fun r s1 => match r with
      | none => R (.ok .next) s1
      | some v => wpAny (model prog w) A (body v) (fun fin s2 => fin = .again (.compLoop (.SetComp elt gens scope pos) d it acc env) ∧ ∃ m, m < n ∧ I m s2) (fun _ _ => False) s1) (fun _ _ => False) s)
    (n : Nat) (h : I n s) : codeAny (model prog w) A (.compLoop (.SetComp elt gens scope pos) d it acc env) R s := by
  refine codeAny_loop rfl I (fun n s hI =>
    ?_) n h
  show wpAny _ A ((compTurn (.SetComp elt gens scope pos) d it acc env).onRaise (fun x => do noteFrame x env; theTreesLotGoes x)) _ _ s
  rw [hT]
  refine wpAny_noted (wpAny_bind (wpAny_standAt (wpAny_bind (thnF (turn n s hI) fun r s1 h1 => ?_))))
  cases r with
  | none => exact wpAny_pure h1
  | some v =>
    refine thnF h1 fun fin s2 h2 => ?_
    obtain ⟨h2, h3⟩ := h2
    subst h2
    exact ⟨rfl, h3⟩
/-- a clause's start -/
theorem clause_start {g : Comprehension} (hg : gens[d]? = some g) (ha : g.is_async = 0) (h0 : codeAny (model prog w) A (.compLoop (.SetComp elt gens scope pos) d it acc env) R s)
    (h : wpAny (model prog w) A (pyIter it) (fun it' s' => codeAny (model prog w) A (.compLoop (.SetComp elt gens scope pos) d it' acc env) R s') (fun _ _ => False) s) : codeAny (model prog w) A (.compStart (.SetComp elt gens scope pos) d it acc env) R s := by
  refine codeAny_of_tree ?_
  show wpAny _ _ ((compStart (.SetComp elt gens scope pos) d it acc env).onRaise (fun x => do noteFrame x env; standAt theWindowsPlace)) _ _ s
  refine wpAny_notedAt ?_
  unfold compStart
  rw [show clausesOf (.SetComp elt gens scope pos) = gens from rfl, hg]
  have e0 : (g.is_async != 0) = false := by rw [ha]; rfl
  simp only [Option.elim, e0, Bool.false_eq_true, if_false]
  refine wpAny_bind
    (wpAny_askSetting ?_)
  split
  · exact wpAny_pure ⟨rfl, h0⟩
  · exact wpAny_bind (wpAny_rule (wpAny_bind (wpAny_standAt (wpAny_bind (thnF h fun it' s' h' => wpAny_pure ⟨rfl, h'⟩)))))
end
/-- a walk of n steps -/
def Goes (J : It) (n : Nat) (W : Nat → Hp → Prop) (fin : Hp → Prop) (each : V → Hp → (Hp → Prop) → Prop) : Prop :=
  ∀ i H, W i H → (n ≤ i ∧ J.stop i H ∧ fin H) ∨ (i < n ∧ J.go i H ∧ ∀ x H', J.yld i H x H' → each x H' (W (i + 1)))
theorem loop_go {B : Cx} {pins : List (Addr × Obj)} {σ0 : L2.St} {H : Hp} {s : Shared} {tg : Expr} {J : It} {fp : List Addr} {it : Addr} {tn : Nat → Heap → Prop} {n : Nat} {W : Nat → Hp → Prop} {fin : Hp → Prop} {each : V → Hp → (Hp → Prop) → Prop} {R : Result → Shared → Prop} {elt : Expr} {gens : List Comprehension} {scope : Scope} {pos : Pos} {d : Nat} {acc : Value} {env : Env} {p : Pos} {rest : Value → Sem Fin}
    (hc : B.calm = true) (T : Turn B.prog B.w B.K tg J fp it tn) (hT : compTurn (.SetComp elt gens scope pos) d (.ref it) acc env = (do
      standAt p
      match ← pyNext (.ref it) with
      | none => pure (.done .next)
      | some v => do
        letOwnedTupleGo tg (.ref it) v
        rest v)) (I0 : Inv B pins σ0 H s) (st0 : tn 0 s.heap) (f0 : ∀ b ∈ fp, FpOk B pins H b) (w0 : W 0 H) (G : Goes J n W fin each) (hfin : ∀ s H, Inv B pins σ0 H s → fin H → R (.ok .next) s)
    (hturn : ∀ s x u H nxt, Inv B (pins ++ pinsAt fp s.heap) σ0 H s → RelV x u → each x H nxt → wpAny (model B.prog B.w) B.A (rest u) (fun r s' => r = .again (.compLoop (.SetComp elt gens scope pos) d (.ref it) acc env) ∧ ∃ σ' H', Inv B (pins ++ pinsAt fp s.heap) σ' H' s' ∧ σ0.length = σ'.length ∧ (∀ (j : Nat) v, σ0[j]? = some (some v) → σ'[j]? = some (some v)) ∧ nxt H') (fun _ _ => False) s) :
    codeAny (model B.prog B.w) B.A (.compLoop (.SetComp elt gens scope pos) d (.ref it) acc env) R s := by
  have stat : ∀ H', (∀ b ∈ fp, H' b = none) → ∀ b ∈ fp, FpOk B pins H' b := fun H' hn b hb => ⟨hn b hb, (f0 b hb).2⟩
  refine clause_loop hT (fun m s' => ∃ i H', m = n - i ∧ Inv B pins σ0 H' s' ∧ tn i s'.heap ∧ (∀ b ∈ fp, H' b = none) ∧ W i H') ?_ n ⟨0, H, by omega, I0, st0, fun b hb => (f0 b hb).1, w0⟩
  rintro m s1 ⟨i, H1, rfl, I1, st1, n1, w1⟩
  rcases G i H1 w1 with ⟨hi, stop, q⟩ | ⟨hi, go, step⟩
  · refine thnF (T.done B rfl rfl rfl hc i pins s1 σ0 H1 (fun _ _ => False) I1 (stat H1 n1) st1 stop) fun r s2 ⟨hr, I2⟩ => ?_
    subst hr
    exact hfin s2 H1 I2 q
  · refine thnF (T.item B rfl rfl rfl hc i pins s1 σ0 H1 (fun _ _ => False) I1 (stat H1 n1) st1 go) fun r s2 ⟨u, hr, h2⟩ => ?_
    subst hr
    refine wpAny_bind (thnF h2 fun _ s3 ⟨x, H3, I3, r3, y3, st3, n3⟩ => ?_)
    have I4 := I3.pinned (stat H3 n3) (T.obj _ _ st3)
    refine thnF (hturn s3 x u H3 (W (i + 1)) I4 r3 (step x H3 y3)) fun r s4 ⟨hr, σ4, H4, I5, l4, k4, nx⟩ => ?_
    have pin : ∀ b ∈ fp, ∀ o, s3.heap.get? b = some o → s4.heap.get? b = some o ∧ H4 b = none := fun b hb o e => by
      have z := I5.pin (b, o) (List.mem_append_right _ (List.mem_append_right _ (mem_pinsAt hb e)))
      exact ⟨z.1, z.2.1⟩
    refine ⟨hr, n - (i + 1), by omega, i + 1, H4, rfl, I5.unpinned.weak l4 k4, T.keep _ _ _ st3 fun b hb o e => (pin b hb o e).1, fun b hb => ?_, nx⟩
    obtain ⟨o, e, _⟩ := T.obj _ _ st3 b hb
    exact (pin b hb o e).2
section
variable {elt t0 i0 t1 i1 : Expr} {scope : Scope} {pos : Pos} {it acc : Value} {env : Env}
theorem turn_first : compTurn (.SetComp elt [⟨t0, i0, [], 0⟩, ⟨t1, i1, [], 0⟩] scope pos) 0 it acc env = (do
    standAt i0.pos
    match ← pyNext it with
    | none => pure (.done .next)
    | some v => do
      letOwnedTupleGo t0 it v
      (do
        assign t0 env v
        let x ← eval i1 env
        standAt i1.pos
        let x ←
          foldedSetIterable i1 env x
        let _ ← runOwn (.compStart (.SetComp elt [⟨t0, i0, [], 0⟩, ⟨t1, i1, [], 0⟩] scope pos) 1 (← holding [x] (pyIter x)) acc env) env
        again (.compLoop (.SetComp elt [⟨t0, i0, [], 0⟩, ⟨t1, i1, [], 0⟩] scope pos) 0 it acc env))) := by rfl
theorem turn_second : compTurn (.SetComp elt [⟨t0, i0, [], 0⟩, ⟨t1, i1, [], 0⟩] scope pos) 1 it acc env = (do
    standAt i1.pos
    match ← pyNext it with
    | none => pure (.done .next)
    | some v => do
      letOwnedTupleGo t1 it v
      (do
        assign t1 env v
        (do
          let y ← eval elt env
          standAt elt.pos
          let _ ← call (.builtin "set.add") [acc, y])
        again (.compLoop (.SetComp elt [⟨t0, i0, [], 0⟩, ⟨t1, i1, [], 0⟩] scope pos) 1 it acc env))) := by rfl
end
/-- {elt for g in wi for g1 in wi1}: D the new set -/
def tSc2 (P : Program) (w : World) (wi : TI) (g : TG) (wi1 : TI) (g1 : TG) (te : TE) (vs vs1 : List Nat) : TE := fun σ H Q => wi σ H fun J H1 => ∀ D, H1 D = none → ∃ n W, W 0 (upd H1 D (txtO P w D [])) ∧
  Goes J n W (Q (.ref D)) fun x H2 nxt => g x (L2.wipe σ vs) H2 fun σ2 H3 => L2.wipe σ2 vs = L2.wipe σ vs ∧ wi1 σ2 H3 fun J1 H4 => ∃ n1 W1, W1 0 H4 ∧
    Goes J1 n1 W1 nxt fun x1 H5 nxt1 => g1 x1 (L2.wipe σ2 vs1) H5 fun σ3 H6 => L2.wipe σ3 vs1 = L2.wipe σ2 vs1 ∧ te σ3 H6 fun y H7 => ∃ k l, y = .str k ∧ H7 D = some (txtO P w D l) ∧ l.length + 1 < scanBound ∧ nxt1 (upd H7 D (txtO P w D (addT l k)))
theorem fpOk_at {B : Cx} {pins : List (Addr × Obj)} {H H' : Hp} {b : Addr} (f : FpOk B pins H b) (h : H' b = none) : FpOk B pins H' b := ⟨h, f.2⟩
section
variable {X : Cx}
theorem pe_sc2 {elt tg iter tg1 iter1 : Expr} {scope : Scope} {own : List (Str × Nat)} {vs1 : List Nat} {pos : Pos} {wi wi1 : TI} {g g1 : TG} {te : TE} (hc : X.calm = true) (hN : X.N.Nodup) (hi : PI X tg iter wi) (ok : BlkOk X.N X.env.scope scope own) (hv : ∀ i ∈ vs1, i ∈ own.map (·.2))
    (hg : ∀ (s : Shared) (H : Hp) (C : Addr) (cl : List (Str × Addr)) (fp : List Addr), PG (X.blk s H scope (compEnvC scope cl C X.env) fp) tg g)
    (hi1 : ∀ (s : Shared) (H : Hp) (C : Addr) (cl : List (Str × Addr))
      (fp : List Addr), PI (X.blk s H scope (compEnvC scope cl C X.env) fp) tg1 iter1 wi1)
    (hg1 : ∀ (s : Shared) (H : Hp) (C : Addr) (cl : List (Str × Addr))
      (fp : List Addr), PG (X.blk s H scope (compEnvC scope cl C X.env) fp) tg1 g1)
    (he : ∀ (s : Shared) (H : Hp) (C : Addr) (cl : List (Str × Addr)) (fp : List Addr), PE (X.blk s H scope (compEnvC scope cl C X.env) fp) elt te)
      (hs : ∀ x, foldedSetIterable iter X.env x = pure x := by intro _; rfl) (hs1 : ∀ env x, foldedSetIterable iter1 env x = pure x := by intro _ _; rfl) :
    PE X (.SetComp elt [⟨tg, iter, [], 0⟩, ⟨tg1, iter1, [], 0⟩] scope pos) (tSc2 X.prog X.w wi g wi1 g1 te (own.map (·.2)) vs1) := by
  refine ⟨fun pins s σ H Q I h =>
    ?_⟩
  rw [PpSet.eval_SetComp]
  have hfree : ∀ y ∈ scope.names, y.2 = .free → ∃ c, X.env.cells.lookup y.1 = some c := fun y hy e => (ok.free y hy e).elim (fun k => I.ok.has _ (.inl k)) fun k => I.ok.has _ (.inr k)
  refine wpAny_comprehension_free (use := none) rfl hs (closure_ok hfree) ok.kind (fun y hy e => by rw [ok.uniq y hy, e]) (thn (hi.run pins s σ H _ I h) fun xv s1 hx => thn hx fun itv s2 h2 => ?_)
  obtain ⟨it, fp, tn, J, H2, e, I2, T, st2, f2, q⟩ :=
    h2
  subst e
  refine PpSet.newSet_ok (newEnv_comp ?_)
  generalize hD :
    s2.heap.objs.size = D
  obtain ⟨n, W, w0, G⟩ := q D (I2.hok.fresh (Nat.le_of_eq hD))
  generalize hs3 : ({ s2 with
      heap := s2.heap.push {
        cls := .type "set", dict := none,
        data := .set #[] 0 (.fresh 0 0 (!X.w.params.followText
          "set-order")) } } : Shared) = s3
  have up : ∀ b o, s2.heap.get? b = some o → s3.heap.get? b = some o := fun b o e => by
    rw [← hs3]
    exact
      Heap.get?_push_of_some _ e
  have sz3 : s3.heap.objs.size = s2.heap.objs.size + 1 := by
    rw [← hs3]
    exact Heap.size_push ..
  have I3 : Inv X pins σ (upd H2 D (txtO X.prog X.w D [])) s3 := by
    rw [← hs3]
    refine I2.laid (t' := s2.toks)
      (fun b o e => Heap.get?_push_of_some _ e) (Nat.le_of_eq hD) ?_
    rw [← hD]
    exact txtO_ok txt_new
  generalize hH3 : upd H2 D (txtO X.prog X.w D []) = H3 at I3 w0
  have f3 : ∀ b ∈ fp, FpOk X pins H3 b ∧ b < s3.heap.objs.size := fun b hb => by
    obtain ⟨o, e, _⟩ :=
      T.obj _ _ st2 b hb
    have lt : b < D := by
      rw [← hD]
      exact Heap.lt_size e
    refine ⟨fpOk_at (f2 b hb) ?_, Nat.lt_of_lt_of_le lt (by rw [sz3, hD]; exact Nat.le_succ _)⟩
    rw [← hH3, upd_ne (Nat.ne_of_lt lt)]
    exact (f2 b hb).1
  have I4 :=
    block_start I3 ok hN f3
  have pg := hg s3 H3 s3.heap.objs.size (cellsFrom (s3.heap.objs.size + 1) scope.names (cloFrom X.env.cells scope.names [])) fp
  have pe := he s3 H3 s3.heap.objs.size (cellsFrom (s3.heap.objs.size + 1) scope.names (cloFrom X.env.cells scope.names [])) fp
  have pi1 := hi1 s3 H3 s3.heap.objs.size (cellsFrom (s3.heap.objs.size + 1) scope.names (cloFrom X.env.cells scope.names [])) fp
  have pg1 := hg1 s3 H3 s3.heap.objs.size (cellsFrom (s3.heap.objs.size + 1) scope.names (cloFrom X.env.cells scope.names [])) fp
  show codeAny _ _ (.compStart (.SetComp elt [⟨tg, iter, [], 0⟩, ⟨tg1, iter1, [], 0⟩] scope pos) 0 (.ref it) (.ref D) (compEnvC scope (cellsFrom (s3.heap.objs.size + 1) scope.names (cloFrom X.env.cells scope.names [])) s3.heap.objs.size X.env)) (compPost (model X.prog X.w) X.A X.xe none (EP X pins σ Q) (.ref D) s3.heap.objs.size) { s3 with heap := pushCells (s3.heap.push { cls := .type "dict", data := .dict #[] }) scope.names }
  generalize hce : compEnvC scope (cellsFrom (s3.heap.objs.size + 1) scope.names (cloFrom X.env.cells scope.names [])) s3.heap.objs.size X.env = ce at I4 pg pe pi1 pg1 ⊢
  have cL : ce.locals = s3.heap.objs.size := by rw [← hce]; rfl
  generalize hs4 : ({ s3 with
      heap := pushCells (s3.heap.push {
        cls := .type "dict",
        data := .dict #[] }) scope.names } : Shared) = s4 at I4 ⊢
  have st4 : tn 0 s4.heap := T.keep _ _ _ st2 fun b _ o e => by
    rw [← hs4]
    exact pushCells_keeps _ _ _ _ (Heap.get?_push_of_some _ (up b o e))
  have f4 : ∀ b ∈ fp, FpOk (X.blk s3 H3 scope ce fp) [] H3 b := fun b hb =>
    ⟨(f3 b hb).1.1, (I4.ok.exf b hb).1, I4.ok.exfs b hb, .inl hb, fun x c e => (I4.ok.exf b hb).2 x c e, fun p hp => absurd (show p ∈ ([] : List (Addr × Obj)) ++ [] from hp) (by simp)⟩
  have hBx : (X.blk s3 H3 scope ce fp).calm = true := hc
  have loop : codeAny (model X.prog X.w) X.A (.compLoop (.SetComp elt [⟨tg, iter, [], 0⟩, ⟨tg1, iter1, [], 0⟩] scope pos) 0 (.ref it) (.ref D) ce) (compPost (model X.prog X.w) X.A X.xe none (EP X pins σ Q) (.ref D) s3.heap.objs.size) s4 := by
    refine loop_go (B := X.blk s3 H3 scope ce fp) hBx T turn_first I4 st4 f4 w0 G (fun s5 H5 I5 q5 => ?_) fun s5 x u H5 nxt I5 r5 q5 => ?_
    · -- back in the def
      have nC : H5 s3.heap.objs.size = none :=
        by
        rw [← cL]
        exact I5.free
      obtain ⟨m, hn, _⟩ := I5.loc
      have hn : s5.heap.Ns s3.heap.objs.size m := by
        rw [← cL]
        exact hn
      have I6 : Inv X pins σ H5 s5 := I3.call' (ch := fp) I5.os I5.base I5.hok I5.bare fun b hb => ⟨(f3 b hb).1.2.2.2.1, (f3 b hb).1.2.1, (f3 b hb).1.2.2.2.2.1, (f3 b hb).1.2.2.2.2.2⟩
      obtain ⟨g0, g1, g2, g3, g4, g5⟩ := I3.fpOk (Nat.le_refl _) nC
      exact ⟨m, hn, fun h6 sb => ⟨.ref D, H5, I6.turned (t' := s5.toks) (fun b o hb e => (sb.2 b hb).trans e) g0 g1 g3 g4 g5, rfl, q5⟩⟩
    · refine wpAny_bind (thnF (pg.run _ s5 _ H5 x u _ I5 r5 q5) fun _ s6 ⟨σ6, H6, I6, hw6, q6⟩ => ?_)
      refine wpAny_bind (thnF (pi1.run _ s6 σ6 H6 _ I6 q6) fun xv s7 hx => ?_)
      refine wpAny_bind (wpAny_standAt (wpAny_bind (wpAny_of_eq (hs1 ce xv) (wpAny_bind (wpAny_holding (thnF hx fun itv s8 h8 => ?_))))))
      obtain ⟨it1, fp1, tn1, J1, H8, e1, I8, T1, st8, f8, n1, W1, w1, G1⟩ := h8
      subst e1
      have l6 : (L2.wipe σ (own.map (·.2))).length = σ6.length := by rw [← hw6, wipe_length]
      have loop1 : codeAny (model X.prog X.w) X.A (.compLoop (.SetComp elt [⟨tg, iter, [], 0⟩, ⟨tg1, iter1, [], 0⟩] scope pos) 1 (.ref it1) (.ref D) ce)
          (fun r s' => r = .ok .next ∧ ∃ H', Inv (X.blk s3 H3 scope ce fp) ([] ++ pinsAt fp s5.heap) (L2.wipe σ6 vs1) H' s' ∧ nxt H') s8 := by
        refine loop_go (B := X.blk s3 H3 scope ce fp) hBx T1 turn_second (I8.weak (wipe_length _ _) fun j v e => (wipe_some e).1) st8 f8 w1 G1 (fun s9 H9 I9 q9 => ⟨rfl, H9, I9, q9⟩) fun s9 x1 u1 H9 nxt1 I9 r9 q9 => ?_
        refine wpAny_bind (thnF (pg1.run _ s9 _ H9 x1 u1 _ I9 r9 q9) fun _ s10 ⟨σ10, H10, I10, hw10, q10⟩ => ?_)
        refine wpAny_bind (wpAny_bind (thnF (pe.run _ s10 σ10 H10 _ I10 q10) fun y s11 ⟨yv, H11, I11, r11, k, l, ey, hD11, hz, nx⟩ => wpAny_bind (wpAny_standAt ?_)))
        subst ey
        obtain ⟨tk, rfl⟩ := r11
        refine wpAny_bind (txtO_add (X := X.blk s3 H3 scope ce fp) I11 hD11 hz fun s12 I12 => wpAny_pure ?_)
        exact wpAny_pure ⟨rfl, σ10, _, I12, by rw [← hw10, wipe_length], fun j v e => by
          rw [← hw10] at e
          exact (wipe_some e).1, nx⟩
      refine wpAny_bind
        (wpAny_runOwn ?_)
      rw [Around.mark_none]
      refine codeAny_mono (clause_start rfl rfl loop1 (T1.self X.A 0 _ _ _ st8 loop1)) fun r s9 ⟨hr, H9, I9, q9⟩ => ?_
      subst hr
      refine wpAny_pure ⟨rfl, _, H9, I9, l6.trans (wipe_length σ6 vs1).symm, fun j v e => ?_, q9⟩
      rw [← hw6] at e
      obtain ⟨e1, e2⟩ :=
        wipe_some e
      rw [L2.wipe_out fun z => e2 (hv j z)]
      exact e1
  exact clause_start rfl rfl loop (T.self X.A 0 _ _ _ st4 loop)
end
end Mi

/-! Mi40: sorted({x for y in a for x in b}), mirrored. -/
namespace Mi
open PySem PySem.Spec PyProof.Rows L2 PySem.Froz
def inRun (tg : Tg) (elt : MM D) (ρ : En) : List D → List Str → Bx → R (List Str)
  | [], acc, x => .val acc x
  | d :: ds, acc, x => match tg.asg d ρ with
    | none => .out
    | some ρ1 => match elt ρ1 x with
      | .val (.str t) x1 => if acc.length < 64 then inRun tg elt ρ ds (addT acc t) x1 else .out
      | _ => .out
def outRun (tg : Tg) (mi1 : MM (List D)) (tg1 : Tg) (elt : MM D) (vs1 : List Nat) (ρ : En) : List D → List Str → Bx → R (List Str)
  | [], acc, x => .val acc x
  | d :: ds, acc, x => match tg.asg d ρ with
    | none => .out
    | some ρ1 => match mi1 ρ1 x with
      | .val ds1 x1 => (match inRun tg1 elt (wipeE (shut ρ1) vs1) ds1 acc x1 with
        | .val acc1 x2 => outRun tg mi1 tg1 elt vs1 ρ ds acc1 x2
        | _ => .out)
      | _ => .out
def mSet2 (mi : MM (List D)) (tg : Tg) (mi1 : MM (List D)) (tg1 : Tg) (elt : MM D) (vs vs1 : List Nat) : MM (List Str) := fun ρ x => match mi ρ x with
  | .val ds x1 => outRun tg mi1 tg1 elt vs1 (wipeE (shut ρ) vs) ds [] x1
  | .exc c fs x1 => .exc c fs x1
  | .out => .out
def mSortSet2 (mi : MM (List D)) (tg : Tg) (mi1 : MM (List D)) (tg1 : Tg) (elt : MM D) (vs vs1 : List Nat) : MM D :=
  mBind (mSet2 mi tg mi1 tg1 elt vs vs1) fun l => fun _ x => if l.length < 64 then .val (.lst ((srtS l).map .str)) x else .out
theorem outRun_exc (tg : Tg) (mi1 : MM (List D)) (tg1 : Tg) (me : MM D) (vs1 : List Nat) (ρ : En) : ∀ (ds : List D) (acc : List Str) (x : Bx) (c : Str) (fs : Fl) (x2 : Bx), outRun tg mi1 tg1 me vs1 ρ ds acc x ≠ .exc c fs x2
  | [], _, _, _, _, _ => fun h => by
    unfold outRun at h
    cases h
  | d :: ds, acc, x, c, fs, x2 => fun h => by
    unfold outRun at h
    split at h
    · cases h
    · split at h
      · split at h
        · exact outRun_exc tg mi1 tg1 me vs1 ρ ds _ _ c fs x2 h
        · cases h
      · cases h
section
variable {X : Cx} {W : WX}
theorem in_go {K : PySem.W.Frag} {P : Program} {w : World} {tg : Tg} {me : MM D} {vs : List Nat} (htg : ∀ i ∈ tg.ixs, i ∈ vs) {S : Cf} {σ : L2.St} {F3 H3 : Hp} {ρ : En} {J : It} {ds : List D} {x3 : Bx} {D0 : Addr} {nxt : Hp → Prop} {acc0 acc1 : List Str} {x4 : Bx} {H1 F1 : Hp}
    (eK : S.K = K) (rw0 : Rel ⟨S.K, S.b, H3, F3, S.me⟩ F3 H3 (L2.wipe σ vs) ρ x3) (pw : Pure ρ) (w1 : Walks S.K S.b F3 J ds) (nb : S.b ≠ some D0) (hD : H1 D0 = none)
    (hw : L2.wipe (L2.wipe σ vs) vs = L2.wipe σ vs)
    (c3 : Core ⟨S.K, S.b, H1, F1, S.me⟩ F3 H3 x3) (fD : F3 D0 = none) (h3 : H3 D0 = some (txtO P w D0 acc0)) (p : inRun tg me ρ ds acc0 x3 = .val acc1 x4)
    (fin : ∀ F' H', Core ⟨S.K, S.b, H1, F1, S.me⟩ F' H' x4 → F' D0 = none → H' D0 = some (txtO P w D0 acc1) → Same F3 F' → nxt H') :
    ∃ n W1, W1 0 H3 ∧ Goes J n W1 nxt fun v H5 nxt1 => tg.g K v (L2.wipe σ vs) H5 fun σ3 H6 => L2.wipe σ3 vs = L2.wipe σ vs ∧ rdE K Wf me σ3 H6 fun y H7 => ∃ k l, y = .str k ∧ H7 D0 = some (txtO P w D0 l) ∧ l.length + 1 < scanBound ∧ nxt1 (upd H7 D0 (txtO P w D0 (addT l k))) := by
  refine ⟨ds.length, fun j H' => ∃ F' x' acc, Core ⟨S.K, S.b, H1, F1, S.me⟩ F' H' x' ∧ Same F3 F' ∧ F' D0 = none ∧ H' D0 = some (txtO P w D0 acc) ∧ inRun tg me ρ (ds.drop j) acc x' = .val acc1 x4, ⟨F3, x3, acc0, c3, Same.refl F3, fD, h3, p⟩, fun j H' hW => ?_⟩
  obtain ⟨F', x', acc, c', s', f', h', q⟩ := hW
  obtain ⟨wa, wb⟩ := w1 ⟨S.K, S.b, H1, F1, S.me⟩ j F' H' x' rfl rfl s' c'
  by_cases hlt : j < ds.length
  · obtain ⟨hgo, hy⟩ := wa hlt
    refine .inr ⟨hlt, hgo, fun v H5 y => ?_⟩
    obtain ⟨F4, d, c4, s4, k4, nw, ed, hv⟩ := hy v H5 y
    have f4 : F4 D0 = none := nw D0 (by rw [h']; intro z; cases z) f' nb
    have h5 : H5 D0 = some (txtO P w D0 acc) := k4 D0 _ h' nb
    have edr : ds.drop j = d :: ds.drop (j + 1) := by
      obtain ⟨hl, e1⟩ := List.getElem?_eq_some_iff.mp ed
      rw [List.drop_eq_getElem_cons hl, e1]
    rw [edr] at q
    unfold inRun at q
    cases ea : tg.asg d ρ with
    | none =>
      rw [ea] at q
      cases q
    | some ρ1 =>
      rw [ea] at q
      dsimp only at q
      have re : Rel ⟨S.K, S.b, H5, F4, S.me⟩ F4 H5 (L2.wipe σ vs) ρ x' := rw0.pure pw c4.enter (s'.trans s4) rfl rfl
      rw [← eK]
      refine Tg.ok (S := ⟨S.K, S.b, H5, F4, S.me⟩) tg re hv ea fun zs rz => ?_
      refine ⟨by rw [wipe_putV _ _ _ htg, hw], ⟨S.K, S.b, H5, F4, S.me⟩, F4, ρ1, x', rfl, rz, ?_⟩
      cases e4 : me ρ1 x' with
      | exc c fs x5 =>
        rw [e4] at q
        cases q
      | out =>
        rw [e4] at q
        cases q
      | val d5 x5 =>
        rw [e4] at q
        cases d5 <;> try (cases q; done)
        rename_i t
        dsimp only at q
        split at q
        · rename_i hz
          intro v5 F5 H6 r5 s5 k5 hv5
          cases hv5
          have f5 : F5 D0 = none := r5.core.fresh D0 (by rw [show (⟨S.K, S.b, H5, F4, S.me⟩ : Cf).H0 D0 = H5 D0 from rfl, h5]; intro z; cases z) f4
          refine ⟨t, acc, rfl, k5 D0 _ h5 nb, Nat.lt_of_lt_of_le (Nat.add_lt_add_right hz 1) (by decide), F5, x5, addT acc t, (c4.exit r5.core).write f5 nb hD, (s'.trans s4).trans s5, f5, upd_same, q⟩
        · cases q
  · have ej : ds.drop j = [] := List.drop_eq_nil_of_le (by omega)
    rw [ej] at q
    unfold inRun at q
    cases q
    exact .inl ⟨by omega, wb (by omega), fin F' H' c' f' h' s'⟩
theorem rd_sortSet {K : PySem.W.Frag} {P : Program} {w : World} {mi : MM (List D)} {tg : Tg} {mi1 : MM (List D)} {tg1 : Tg} {me : MM D} {vs vs1 : List Nat} (htg : ∀ i ∈ tg.ixs, i ∈ vs) (htg1 : ∀ i ∈ tg1.ixs, i ∈ vs1) {σ : L2.St} {H : Hp} {Q : VK} (h : rdE K W (mSortSet2 mi tg mi1 tg1 me vs vs1) σ H Q) :
    tSc2 P w (rd rlI K W mi) (tg.g K) (rd rlI K Wf mi1) (tg1.g K) (rdE K Wf me) vs vs1 σ H fun v H1 => rTxtSort P w [v] H1 Q := by
  obtain ⟨S, F, ρ, x, eK, rr, p⟩ := h
  refine (show rd rlI K W mi σ H _ from ?_)
  refine ⟨S, F, ρ, x, eK, rr, ?_⟩
  replace p : Post rlD S W σ F H ρ ((mSet2 mi tg mi1 tg1 me vs vs1 ρ x).bind fun l x => if l.length < 64 then .val (.lst ((srtS l).map .str)) x else .out) Q := p
  unfold mSet2 at p
  cases e : mi ρ x with
  | exc c fs x1 =>
    rw [e] at p
    exact p
  | out =>
    rw [e] at p
    exact p
  | val ds x1 =>
    rw [e] at p
    dsimp only at p
    intro J F1 H1 r1 s1 k1 w1 D0 hD
    cases e2 : outRun tg mi1 tg1 me vs1 (wipeE (shut ρ) vs) ds [] x1 with
    | out =>
      rw [e2] at p
      exact p.elim
    | exc c fs x2 => exact (outRun_exc _ _ _ _ _ _ _ _ _ _ _ _ e2).elim
    | val l x2 =>
      rw [e2] at p
      simp only [R.bind] at p
      have rw0 : Rel ⟨S.K, S.b, H1, F1, S.me⟩ F1 H1 (L2.wipe σ vs) (wipeE (shut ρ) vs) x1 := r1.shut.wipe vs
      have pw : Pure (wipeE (shut ρ) vs) := (pure_shut ρ).wipe vs
      generalize hρ : wipeE (shut ρ) vs = ρw at e2 rw0 pw
      have nb : S.b ≠ some D0 := r1.core.ne_box hD
      refine ⟨ds.length, fun i H' => ∃ F' x' acc, Core ⟨S.K, S.b, H1, F1, S.me⟩ F' H' x' ∧ F' D0 = none ∧ H' D0 = some (txtO P w D0 acc) ∧ outRun tg mi1 tg1 me vs1 ρw (ds.drop i) acc x' = .val l x2, ⟨F1, x1, [], r1.core.enter.allocO hD, r1.core.nF hD, upd_same, e2⟩, fun i H' hW => ?_⟩
      obtain ⟨F', x', acc, c', f', h', q⟩ := hW
      obtain ⟨wa, wb⟩ := w1 ⟨S.K, S.b, H1, F1, S.me⟩ i F' H' x' rfl rfl c'.f0 c'
      by_cases hlt : i < ds.length
      · obtain ⟨hgo, hy⟩ := wa hlt
        refine .inr ⟨hlt, hgo, fun v H2 y => ?_⟩
        obtain ⟨F2, d, c2, s2, k2, nw, ed, hv⟩ := hy v H2 y
        have f2 : F2 D0 = none := nw D0 (by rw [h']; intro z; cases z) f' nb
        have h2 : H2 D0 = some (txtO P w D0 acc) := k2 D0 _ h' nb
        have edr : ds.drop i = d :: ds.drop (i + 1) := by
          obtain ⟨hl, e1⟩ := List.getElem?_eq_some_iff.mp ed
          rw [List.drop_eq_getElem_cons hl, e1]
        rw [edr] at q
        unfold outRun at q
        cases ea : tg.asg d ρw with
        | none =>
          rw [ea] at q
          cases q
        | some ρ1 =>
          rw [ea] at q
          dsimp only at q
          have re : Rel ⟨S.K, S.b, H2, F2, S.me⟩ F2 H2 (L2.wipe σ vs) ρw x' := rw0.pure pw c2.enter (c'.f0.trans s2) rfl rfl
          rw [← eK]
          refine Tg.ok (S := ⟨S.K, S.b, H2, F2, S.me⟩) tg re hv ea fun zs rz => ?_
          refine ⟨by rw [wipe_putV _ _ _ htg, wipe_wipe vs vs fun _ h => h], ⟨S.K, S.b, H2, F2, S.me⟩, F2, ρ1, x', rfl, rz, ?_⟩
          cases e3 : mi1 ρ1 x' with
          | exc c fs x3 =>
            rw [e3] at q
            cases q
          | out =>
            rw [e3] at q
            cases q
          | val ds1 x3 =>
            rw [e3] at q
            dsimp only at q
            cases e4 : inRun tg1 me (wipeE (shut ρ1) vs1) ds1 acc x3 with
            | exc c fs x4 =>
              rw [e4] at q
              cases q
            | out =>
              rw [e4] at q
              cases q
            | val acc1 x4 =>
              rw [e4] at q
              dsimp only at q
              intro J1 F3 H3 r3 s3 k3 w3
              have f3 : F3 D0 = none := r3.core.fresh D0 (by rw [show (⟨S.K, S.b, H2, F2, S.me⟩ : Cf).H0 D0 = H2 D0 from rfl, h2]; intro z; cases z) f2
              refine in_go (S := S) (H1 := H1) (F1 := F1) htg1 rfl (r3.shut.wipe vs1) ((pure_shut ρ1).wipe vs1) w3 nb hD (wipe_wipe vs1 vs1 fun _ h => h) (c2.exit r3.core) f3 (k3 D0 _ h2 nb) e4 fun F5 H5 c5 f5 h5 s5 => ?_
              exact ⟨F5, x4, acc1, c5, f5, h5, q⟩
      · have ei : ds.drop i = [] := List.drop_eq_nil_of_le (by omega)
        rw [ei] at q
        unfold outRun at q
        cases q
        split at p
        · rename_i hz
          refine .inl ⟨by omega, wb (by omega), D0, l, rfl, h', hz, fun ys q pm st n => ?_⟩
          have e3 := srt_eq pm st
          subst e3
          obtain ⟨a1, a2, a3⟩ := r1.back c'
          exact p (.ref q) _ _ (a1.alloc n) ((s1.trans a2).trans (Same.new (a1.core.nF n))) ((k1.trans a3).trans (KeepB.new n)) (.lst upd_same (repL_strs _))
        · exact p.elim
theorem j_sortSet {y : Str} {p cpos spos : Pos} {elt tgx iter tgy iter1 : Expr} {scope : Scope} {own : List (Str × Nat)} {nl nl1 : List Nat} {mi mi1 : MM (List D)} {tg tg1 : Tg} {me : MM D} (hc : X.calm = true) (hN : X.N.Nodup) (hgl : Gl X y) (hm : X.mg y = none) (hv : bootBuiltins y = some (.builtin "sorted"))
    (hi : PI X tgx iter (rd rlI X.K W mi)) (ok : BlkOk X.N X.env.scope scope own)
    (hg : ∀ (s : Shared) (H : Hp) (C : Addr) (cl : List (Str × Addr)) (fp : List Addr), PG (X.blk s H scope (compEnvC scope cl C X.env) fp) tgx (tg.g X.K))
    (hi1 : ∀ (s : Shared) (H : Hp) (C : Addr) (cl : List (Str × Addr)) (fp : List Addr), PI (X.blk s H scope (compEnvC scope cl C X.env) fp) tgy iter1 (rd rlI X.K Wf mi1))
    (hg1 : ∀ (s : Shared) (H : Hp) (C : Addr) (cl : List (Str × Addr)) (fp : List Addr), PG (X.blk s H scope (compEnvC scope cl C X.env) fp) tgy (tg1.g X.K))
    (he : ∀ (s : Shared) (H : Hp) (C : Addr) (cl : List (Str × Addr)) (fp : List Addr), PE (X.blk s H scope (compEnvC scope cl C X.env) fp) elt (rdE X.K Wf me))
    (hnl : own.map (·.2) = nl := by rfl) (htg : ∀ i ∈ tg.ixs, i ∈ nl := by decide) (htg1 : ∀ i ∈ tg1.ixs, i ∈ nl1 := by decide) (hin : ∀ i ∈ nl1, i ∈ nl := by decide) (hs : ∀ x, foldedSetIterable iter X.env x = pure x := by intro _; rfl) (hs1 : ∀ env x, foldedSetIterable iter1 env x = pure x := by intro _ _; rfl)
    (hn : y ≠ "__name__" := by decide) (hdb : (y == ("__debug__" : Str)) = false := by decide) :
    PE X (.Call (.Name y p) [.SetComp elt [⟨tgx, iter, [], 0⟩, ⟨tgy, iter1, [], 0⟩] scope spos] [] cpos) (rdE X.K W (mSortSet2 mi tg mi1 tg1 me nl nl1)) := by
  subst hnl
  exact peI (pe_callB (cr_txtSort hc) hgl hm hv (pa_cons (pe_sc2 hc hN hi ok hin hg hi1 hg1 he hs hs1) pa_nil) hn hdb) fun σ H Q h => rd_sortSet htg htg1 h
end
end Mi

/-! Mi41: x in l, x not in l: items of any depth. -/
namespace Mi
open PySem PySem.Spec L2
def gInDB (a b : D) : Option Bool := match a.py, b.py with
  | some p, some (.list qs) => if SeqAt.shaped p && SeqAt.shaped (.list qs) then some (qs.any fun z => PyData.eqv z p) else none
  | _, _ => none
def gInD (a b : D) : Option D := (gInDB a b).map .bl
def gNotInD (a b : D) : Option D := (gInDB a b).map fun c => .bl (!c)
theorem gInDB_some {a b : D} {c : Bool} (h : gInDB a b = some c) : ∃ p qs, a.py = some p ∧ b.py = some (.list qs) ∧ SeqAt.shaped p = true ∧ SeqAt.shaped (.list qs) = true ∧ (qs.any fun z => PyData.eqv z p) = c := by
  unfold gInDB at h
  split at h
  · rename_i p qs e1 e2
    split at h
    · rename_i z
      obtain ⟨s1, s2⟩ := Bool.and_eq_true_iff.mp z
      exact ⟨p, qs, e1, e2, s1, s2, Option.some.inj h⟩
    · cases h
  · cases h
section
variable {X : Cx} {W : WX}
theorem real_inD {K : PySem.W.Frag} : Real2 K W (rInD K) (fun a b => o1 (gInD a b)) := by
  intro S F H σ ρ x v1 v2 a b Q eK r ha hb p
  cases e : gInDB a b with
  | none =>
    have p : Post rlD S W σ F H ρ (o1 ((gInDB a b).map .bl) ρ x) Q := p
    rw [e] at p
    exact p.elim
  | some c =>
    have p : Post rlD S W σ F H ρ (o1 ((gInDB a b).map .bl) ρ x) Q := p
    rw [e] at p
    obtain ⟨p1, q1, e1, e2, s1, s2, e3⟩ := gInDB_some e
    refine ⟨p1, q1, eK ▸ ha.dp r.core.sub e1, eK ▸ hb.dp r.core.sub e2, s1, s2, ?_⟩
    rw [e3]
    exact post_val (rl := rlD) r p (.bl _)
theorem real_notInD {K : PySem.W.Frag} : Real2 K W (rNotInD K) (fun a b => o1 (gNotInD a b)) := by
  intro S F H σ ρ x v1 v2 a b Q eK r ha hb p
  cases e : gInDB a b with
  | none =>
    have p : Post rlD S W σ F H ρ (o1 ((gInDB a b).map fun c => .bl (!c)) ρ x) Q := p
    rw [e] at p
    exact p.elim
  | some c =>
    have p : Post rlD S W σ F H ρ (o1 ((gInDB a b).map fun c => .bl (!c)) ρ x) Q := p
    rw [e] at p
    obtain ⟨p1, q1, e1, e2, s1, s2, e3⟩ := gInDB_some e
    refine ⟨p1, q1, eK ▸ ha.dp r.core.sub e1, eK ▸ hb.dp r.core.sub e2, s1, s2, ?_⟩
    rw [e3]
    exact post_val (rl := rlD) r p (.bl _)
theorem jt_inD {ma mb : MM D} {a b : Expr} {pos : Pos} {k : Nat} (hr : Room k X.A) (ha : PE X a (rdE X.K W ma)) (hb : PE X b (rdE X.K W mb)) (hm : behindInMarks .In b = false := by rfl) : PT X (.Compare a [.In] [b] pos) (rdT X.K W (mTst (mOp (fun a b => o1 (gInD a b)) ma mb))) :=
  j_cmpT (op_inD (by have := hr.un; omega)) real_inD ha hb hm
theorem jt_notInD {ma mb : MM D} {a b : Expr} {pos : Pos} {k : Nat} (hr : Room k X.A) (ha : PE X a (rdE X.K W ma)) (hb : PE X b (rdE X.K W mb)) (hm : behindInMarks .NotIn b = false := by rfl) : PT X (.Compare a [.NotIn] [b] pos) (rdT X.K W (mTst (mOp (fun a b => o1 (gNotInD a b)) ma mb))) :=
  j_cmpT (op_notInD (by have := hr.un; omega)) real_notInD ha hb hm
end
end Mi

/-! Mi42: a module's constant text. -/
namespace Mi
open PySem PySem.Spec L2
section
variable {X : Cx} {W : WX}
theorem j_gstr {s : Str} {y : Str} {pos : Pos} (hg : Gl X y) (hm : ∃ t, X.mg y = some (.str s t)) (hd : (y == ("__debug__" : Str)) = false := by decide) : PE X (.Name y pos) (rdE X.K W (mC (.str s))) := by
  obtain ⟨t, hm⟩ := hm
  exact peI (pe_glob (v := .str s) hg hm ⟨t, rfl⟩ hd) (rd_c fun _ _ => .str s)
end
end Mi

/-! Mi43: C.m(..), m a static method, C the class's own name. -/
namespace Mi
open PySem PySem.Spec L2
structure SmO (P : Program) (w : World) (K : PySem.W.Frag) (mg : Str → Option Value) (base : Heap) (k : Nat) (c m : Str) (ps : List Str) (f : Mr) : Prop where
  ex : ∃ p g rest, ClX.CRead K (He.ga K c) (.type "type") ∧ PySem.W.findCls K (.ref (He.ga K c)) (.type "type") m = some (.get (.builtin "staticmethod.__get__") (.ref p) .none (.ref (He.ga K c))) ∧
    PySem.W.recIn K p "staticmethod" = some (.ref g :: rest) ∧ PySem.W.keepIn K (.ref g) = true ∧ OkM P w K mg base k g ps f
  gm : mg c = some (.ref (He.ga K c))
section
variable {X : Cx} {W : WX}
theorem j_static {k n : Nat} {c m : Str} {ps : List Str} {f : Mr} {e : Expr} {es : List Expr} {py apos pos : Pos} {ms : MM (List D)} {pl : Sem Bool} (O : SmO X.prog X.w X.K X.mg X.base k c m ps f) (hr : Room k X.A) (tk : Takes X W) (ha : PA X (e :: es) (rdA X.K W ms)) (hn : ps.length = n := by rfl) (hg : Gl X c := by rfl) (hd : (c == ("__debug__" : Str)) = false := by decide)
    (hst : starEach (e :: es) X.env = (false, eval e X.env) :: starEach es X.env := by rfl)
      (hpl : (backTo pos (starEach es X.env)).any (·.1) = false := by rfl)
    (ht : eval (.Call (.Attribute (.Name c py) m apos) (e :: es) [] pos) X.env = (do
      let ov ← eval (.Name c py) X.env
      standAt apos.atName
      let (f,
        first) ← holding [ov] (getMethod ov m pl)
      callWith pos f first (backTo pos (starEach (e :: es) X.env))
        (backToKw pos (keywordEach [] X.env))) := by rfl) :
    PE X (.Call (.Attribute (.Name c py) m apos) (e :: es) [] pos) (rdE X.K W (mDef n f ms)) := by
  subst hn
  obtain ⟨p, g, rest, r, at_, rc, hk, M⟩ := O.ex
  obtain ⟨fd, F, b⟩ := M.ex
  refine ⟨fun pins s σ H Q I h =>
    ?_⟩
  have h := rd_def h
  refine PySem.W.methodCall_KW (pl := pl) (thn ((pe_glob (X := X) (v := .ref (He.ga X.K c)) hg O.gm rfl hd).run pins s σ H (fun x H1 => x = .ref (He.ga X.K c) ∧ rdA X.K W ms σ H1 fun vs H2 => spM X.K ps.length f vs H2 Q (WE W σ)) I ⟨rfl, h⟩) fun u s1 ⟨x, H1, I1, rx, ex, q⟩ => ?_) ht
  subst ex
  obtain rfl : u = Value.ref (He.ga X.K c) := rx
  refine PySem.W.method_cls I1.kIn r.ga (PySem.W.cls_bind I1.kIn r.rd at_ (wpAny_call (PySem.W.sm_get (s := { s1 with toks := s1.toks + 1 }) I1.kIn rc (PySem.W.handed_on rfl ?_))))
  refine PySem.W.callWith_K (h₀ := X.base) I1.ok.mod.kin hk (thn (ha.run pos pins _ σ H1 _ (I1.tok _) q) fun us s2 ⟨vs, H2, I2, rv, q2⟩ => ⟨I2.kIn, ?_⟩) hst hpl
  exact run_fnS F hr b (passAt tk σ) I2 rv q2
end
section
variable {P : Program} {w : World} {K : PySem.W.Frag}
  {mg : Str → Option Value} {base : Heap}
structure RawS (K : PySem.W.Frag) (mg : Str → Option Value) (name qual c : Str) (st : Stmt) (ps : List Str) : Prop where
  ex : ∃ p g rest fd, ClX.CRead K (He.ga K c) (.type "type") ∧ PySem.W.findCls K (.ref (He.ga K c)) (.type "type") name = some (.get (.builtin "staticmethod.__get__") (.ref p) .none (.ref (He.ga K c))) ∧
    PySem.W.recIn K p "staticmethod" = some (.ref g :: rest) ∧ PySem.W.keepIn K (.ref g) = true ∧ Fun K name qual st g fd ∧ Binds K fd ps []
  gm : mg c = some (.ref (He.ga K c))
theorem smO_mk {name qual c : Str} {st : Stmt} {ps : List Str} {k : Nat} {f : Mr} (R : RawS K mg name qual c st ps) (h : ∀ g fd, Fun K name qual st g fd → Binds K fd ps [] → OkM P w K mg base k g ps f) : SmO P w K mg base k c name ps f := by
  obtain ⟨p, g, rest, fd, h1, h2, h3, h4, F, b⟩ := R.ex
  exact ⟨⟨p, g, rest, h1, h2, h3, h4, h g fd F b⟩, R.gm⟩
end
end Mi

/-! Mi44: an except clause without a name. -/
namespace Mi
open PySem PySem.Spec L2
def mTryU (tab : List (Str × Bool)) (mb ms : MS) : MS := fun ρ x => match mb ρ x with
  | .exc c fs ρ1 x1 => (match tab.lookup c with
    | some true => (match ms ρ1 x1 with
      | .nx ρ2 x2 => .nx ρ2 x2
      | .brk ρ2 x2 => .brk ρ2 x2
      | .cnt ρ2 x2 => .cnt ρ2 x2
      | .ret d x2 => .ret d x2
      | _ => .out)
    | some false => .exc c fs ρ1 x1
    | none => .out)
  | r => r
section
variable {X : Cx} {W : WX}
theorem rd_tryU {K : PySem.W.Frag} {tab : List (Str × Bool)} {mb ms : MS} {cv : Value} (ht : TabX K tab cv) {D : Ends} {σ : L2.St} {H : Hp} (h : rdS K W (mTryU tab mb ms) D σ H) : rdS K (wOnly K cv (fun _ _ _ => rdS K Wf ms) W D) mb D σ H := by
  obtain ⟨S, F, ρ, x, eK, r, p⟩ := h
  refine ⟨S, F, ρ, x, eK, r, ?_⟩
  unfold mTryU at p
  generalize mb ρ x = Z at p
  cases Z with
  | exc c fs ρ1 x1 =>
    intro σ1 F1 H1 dd r1 hd
    dsimp only at p
    cases hl : tab.lookup c with
    | none =>
      rw [hl] at p
      exact p.elim
    | some b =>
      rw [hl] at p
      refine ⟨b, by rw [eK]; exact ht c b hl, fun hb a na => ?_, fun hb => ?_⟩
      · subst hb
        dsimp only at p
        refine ⟨S, F1, ρ1, x1, eK, r1, ?_⟩
        generalize ms ρ1 x1 = Y at p
        cases Y with
        | nx ρ2 x2 => exact p
        | brk ρ2 x2 => exact p
        | cnt ρ2 x2 => exact p
        | ret d x2 => exact p
        | retN d x2 => exact p.elim
        | exc c2 fs2 ρ2 x2 => exact p.elim
        | out => exact p
      · subst hb
        exact p σ1 F1 H1 dd r1 hd
  | _ => exact p
theorem js_tryU {x : Str} {tab : List (Str × Bool)} {body suite : List Stmt} {b₀ : Stmt} {np pos pos' : Pos} {mb ms : MS} (ht : TabX X.K tab (.ref (He.ga X.K x))) (hs : X.stack = X.env :: X.outer) (hf : X.env.frame = some X.env.locals) (hc : Names X x (.ref (He.ga X.K x))) (tk : Takes X W)
    (hb : ∀ (W : WX) (pn : List (Addr × Obj)) (xe : Value → Shared → Prop), Takes (X.tr pn xe) W → PassesOwn (model X.prog X.w) X.A X.env xe → PSs (X.tr pn xe) body (rdS X.K W mb))
    (hsu : ∀ (a : Addr) (pn : List (Addr × Obj)), PSs (X.suite a pn) (b₀ :: suite) (rdS X.K Wf ms)) :
    PS X (.Try body [.ExceptHandler (some (.Name x np)) none (b₀ :: suite) pos'] [] [] pos) (rdS X.K W (mTryU tab mb ms)) :=
  psI (ps_try_only (tb := fun W => rdS X.K W mb) (ts := fun _ _ _ => rdS X.K Wf ms) hs hf hc tk hb fun a oe cls d pn _ _ => hsu a ((a, oe) :: pn)) fun D σ H h => rd_tryU ht h
end
end Mi

/-! Mi45: a try whose clause is never come to; a slice as a new list. -/
namespace Mi
open PySem PySem.Spec L2
/-- I say nothing of what the clause does -/
def mTryW (mb : MS) : MS := fun ρ x => match mb ρ x with
  | .exc _ _ _ _ => .out
  | r => r
section
variable {X : Cx} {W : WX}
theorem js_tryW {x n : Str} {i : Nat} {body suite : List Stmt} {b₀ : Stmt} {np pos pos' : Pos} {mb : MS} (hs : X.stack = X.env :: X.outer) (hf : X.env.frame = some X.env.locals) (hN : X.N.Nodup) (hm : X.mg x = some (.ref (He.ga X.K x)))
    (hb : ∀ (W : WX) (pn : List (Addr × Obj)) (xe : Value → Shared → Prop), Takes (X.tr pn xe) W → PassesOwn (model X.prog X.w) X.A X.env xe → PSs (X.tr pn xe) body (rdS X.K W mb))
    (hi : X.N[i]? = some n := by rfl) (hln : X.env.kindOf n = some .local := by rfl) (hg : Gl X x := by rfl) (hdb : (x == ("__debug__" : Str)) = false := by decide) :
    PS X (.Try body [.ExceptHandler (some (.Name x np)) (some n) (b₀ :: suite) pos'] [] [] pos) (rdS X.K W (mTryW mb)) :=
  psI (ps_try_err (tb := fun W => rdS X.K W mb) (ts := fun _ _ _ => False) hs hf hN hi hln hg hm hdb hb fun _ _ => ⟨fun _ _ _ _ _ _ h => h.elim⟩) fun D σ H h => by
    obtain ⟨S, F, ρ, x, eK, r, p⟩ := h
    refine ⟨S, F, ρ, x, eK, r, ?_⟩
    unfold mTryW at p
    generalize mb ρ x = Z at p
    cases Z with
    | exc c fs ρ1 x1 => exact p.elim
    | _ => exact p
/-! ### xs[a:b] as a new list -/
def cutN (l u : Option Int) : D → Option (List D)
  | .lst ds => some (cutD ds l u)
  | _ => none
def mSliceN (m : MM D) (lo hi : MM (Option Int)) : MM (List D) := mBind m fun d => mBind lo fun l => mBind hi fun u => oB (cutN l u d)
theorem jn_slice {e : Expr} {lo hi : Option Expr} {p2 pos : Pos} {m : MM D} {ml mh : MM (Option Int)} (he : PE X e (rdE X.K W m)) (hl : PO X lo (rd rlB X.K W ml)) (hu : PO X hi (rd rlB X.K W mh)) : PE X (.Subscript e (.Slice lo hi none p2) pos) (rdN X.K W (mSliceN m ml mh)) :=
  peI (pe_slice (sl_list (X := X)) he hl hu) fun σ H Q q => rd_toN1 (Q' := fun x H1 => rd rlB X.K W ml σ H1 fun l H2 => rd rlB X.K W mh σ H2 fun u H3 => rSlL X.K x l u H3 Q) q fun S F H1 ρ x v d eK r hv p => by
    refine ⟨S, F, ρ, x, eK, r, ?_⟩
    replace p : PostN S W σ F H1 ρ ((ml ρ x).bind fun l x1 => (mh ρ x1).bind fun u x2 => oB (cutN l u d) ρ x2) Q := p
    cases e1 : ml ρ x with
    | out =>
      rw [e1] at p
      exact p.elim
    | exc c fs x1 =>
      rw [e1] at p
      exact p
    | val l x1 =>
      rw [e1] at p
      intro l' F2 H2 r2 s2 k2 hl'
      replace hl' : l' = l := hl'
      subst hl'
      refine (show rd rlB X.K W mh σ H2 _ from ⟨S, F2, ρ, x1, eK, r2, ?_⟩)
      replace p := p.mono s2 k2
      cases e2 : mh ρ x1 with
      | out =>
        simp only [R.bind] at p
        rw [e2] at p
        exact p.elim
      | exc c fs x2 =>
        simp only [R.bind] at p
        rw [e2] at p
        exact p
      | val u x2 =>
        simp only [R.bind] at p
        rw [e2] at p
        intro u' F3 H3 r3 s3 k3 hu'
        replace hu' : u' = u := hu'
        subst hu'
        replace p := PostN.mono s3 k3 p
        replace hv := hv.mono (s2.trans s3)
        replace p : PostN S W σ F3 H3 ρ (oB (cutN l' u' d) ρ x2) Q := p
        cases hv <;> try exact p.elim
        rename_i a1 vs ds h r1
        exact ⟨a1, vs, rfl, by rw [← eK]; exact sqL (r3.core.sub _ _ h), fun q n => p q F3 _ (r3.allocO n) (newL_of r3 n (cut_rep r1 _ _)) (Same.refl F3) (KeepB.new n) n⟩
end
end Mi

/-! Mi46: dict(list of pairs). -/
namespace Mi
open PySem PySem.Spec L2
def pairsP : List D → Option (List (Key × D))
  | [] => some []
  | .tup [k, v] :: ds => match keyD k, pairsP ds with
    | some key, some r => some ((key, v) :: r)
    | _, _ => none
  | _ => none
def gDictP : List D → Option D
  | [.lst ds] => (pairsP ds).map fun kds => .dcb (mergeA [] kds)
  | _ => none
section
variable {X : Cx} {W : WX}
theorem pairs_rep {S : Cf} {F H : Hp} {K : PySem.W.Frag} (eK : S.K = K) (sub : Same F H) : ∀ {vs : List V} {ds : List D} {kds : List (Key × D)}, RepL S.K S.b F vs ds → pairsP ds = some kds → ∃ ps kvs, vs = ps.map V.ref ∧ Paired (fun (p : Addr) (kv : Key × V) => SqT K H p [kV kv.1, kv.2]) ps kvs ∧ RepK S.K S.b F kvs kds
  | _, _, kds, .nil, e => by
    cases e
    exact ⟨[], [], rfl, .nil, .nil⟩
  | _, _, kds, .cons (v := v) (vs := vs) (d := d) (ds := ds) h r, e => by
    unfold pairsP at e
    split at e
    · rename_i e0
      cases e0
    · rename_i k u ds' e0
      cases e0
      split at e
      · rename_i key rest e1 e2
        cases e
        obtain ⟨ps, kvs, h1, h2, h3⟩ := pairs_rep eK sub r e2
        cases h with
        | tup ht rt =>
          rename_i a us
          cases rt with
          | cons r1 t1 =>
            cases t1 with
            | cons r2 t2 =>
              cases t2
              have ev := r1.key e1
              subst ev
              exact ⟨a :: ps, (key, _) :: kvs, by rw [h1]; rfl, .cons (sqTK eK sub ht) h2, .cons r2 h3⟩
      · cases e
    · cases e
theorem j_dictP {y : Str} {p pos : Pos} {e : Expr} {ms : MM (List D)} (hc : X.calm = true) (hg : Gl X y) (hm : X.mg y = none) (hv : bootBuiltins y = some (.type "dict")) (ha : PA X [e] (rdA X.K W ms)) (hn : y ≠ "__name__" := by decide) (hdb : (y == ("__debug__" : Str)) = false := by decide)
    (he : starEach [e] X.env = (false, eval e X.env) :: starEach [] X.env := by rfl) (hpl : (backTo pos (starEach [] X.env)).any (·.1) = false := by rfl) : PE X (.Call (.Name y p) [e] [] pos) (rdE X.K W (mCall gDictP ms)) :=
  peI (pe_callTy (call_dictP hc) hg hm hv ha hn hdb he hpl) fun σ H Q q => rd_unL (rl := rlD) (r := fun xs H Q => ∃ (a : Addr) (ps : List Addr) (kvs : List (Key × V)), xs = [.ref a] ∧ SqL X.K H a (ps.map V.ref) ∧ Paired (fun (p : Addr) (kv : Key × V) => SqT X.K H p [kV kv.1, kv.2]) ps kvs ∧ ∀ p, H p = none → Q (.ref p) (upd H p (.dK (mergeK [] kvs)))) (fun S F H σ ρ x vs ds Q eK r hv p => by
    unfold gDictP at p
    split at p
    · obtain ⟨v, e, h⟩ := rep1 hv
      subst e
      cases h with
      | lst h r1 =>
        rename_i ds a us
        cases q : pairsP ds with
        | none =>
          rw [q] at p
          exact p.elim
        | some kds =>
          rw [q] at p
          obtain ⟨ps, kvs, h1, h2, h3⟩ := pairs_rep eK r.core.sub r1 q
          refine ⟨a, ps, kvs, rfl, by rw [← h1]; exact sqL (r.core.sub _ _ h), h2, fun l n => ?_⟩
          exact post_new (α := D) r p n (.dcb upd_same ((RepK.merge h3 .nil).mono (Same.new (r.core.nF n))))
    · exact p.elim) q
end
end Mi

/-! Mi47: a block within a block, that walks a name of the def around both. -/
namespace Mi
open PySem PySem.Spec L2
/-- the names of a block as they are told within it -/
def scIn (scope sc : Scope) : Scope :=
  { scope with names := scope.names.map fun nk => if (nk.2 == .free && sc.kind == .function && sc.names.lookup nk.1 == some .cell) then (nk.1, .cell) else nk }
theorem scIn_eq {scope sc : Scope} {cl : List (Str × Addr)} {C : Addr} {env : Env} (hs : env.scope = sc) : (compEnvC scope cl C env).scope = scIn scope sc := by
  subst hs
  rfl
theorem blkOk_in2 {X : Cx} {N : List Str} {scope0 scope sc : Scope} {own : List (Str × Nat)} {s : Shared} {H : Hp} {cl : List (Str × Addr)} {C : Addr} {E0 : Env} {fp : List Addr} (hN : X.N = N) (hs : E0.scope = sc) (h : blkC N (scIn scope0 sc) scope own = true) : BlkOk (X.blk s H scope0 (compEnvC scope0 cl C E0) fp).N (X.blk s H scope0 (compEnvC scope0 cl C E0) fp).env.scope scope own := by
  subst hN
  subst hs
  exact blkOk_by h
end Mi

/-! Mi48: set(xs) of a list of texts, as a thing that is owned; sorted(set(xs)). -/
namespace Mi
open PySem PySem.Spec PyProof.Rows L2 PySem.Froz
section
variable {P : Program} {w : World} {A : Around} {E : Value → Shared → Prop} {s : Shared} {a : Addr} {l : List Str}
theorem txt_put {k : Str} {u : Tok} {Q : Bool → Shared → Prop} (z : TxtSet P w s.heap a l) (room : l.length + 1 < scanBound)
    (hQ : ∀ b h', Heap.SameBut a s.heap h' → TxtSet P w h' a (addT l k) → Q b { s with heap := h', toks := s.toks + 1 }) : wpAny (model P w) A (setAdd a (.str k u)) Q E s := by
  obtain ⟨D, ho, G, nd, hb, hr, hl⟩ := z
  unfold setAdd
  refine wpAny_holding (wpAny_bind ((strKind P w).pyHash (is_str k u) ?_))
  by_cases hk : k ∈ l
  · refine twice_x (s := { s with toks := s.toks + 1 }) ho G hk hb (hQ _ s.heap (Heap.SameBut.refl a s.heap) ?_)
    unfold addT
    rw [if_pos hk]
    exact ⟨D, ho, G, nd, hb, hr, hl⟩
  · refine add_x (s := { s with toks := s.toks + 1 }) ho G hk room (hQ _ _ (Heap.SameBut.update s.heap a _) ?_)
    unfold addT
    rw [if_neg hk]
    exact ⟨_, get_upd _ ho rfl, PySem.Froz.add_ok u G, List.nodup_cons.mpr ⟨hk, nd⟩, room, addTx_walk _ _ hr, hl.imp id fun q => by rw [addTx_led]; exact q⟩
/-- each once, from those on -/
def unq (l : List Str) (ks : List Str) : List Str := ks.foldl addT l
theorem unq_len (ks : List Str) : ∀ l : List Str, (unq l ks).length ≤ l.length + ks.length := by
  induction ks with
  | nil => exact fun l => Nat.le_refl _
  | cons k ks ih =>
    intro l
    have a := ih (addT l k)
    have b := addT_len l k
    show (unq (addT l k) ks).length ≤ l.length + (ks.length + 1)
    omega
theorem txt_fill {Rz : Result → Shared → Prop} {It D : Addr} {fp wr : List Addr} {G : Array GenState → Array GenState → Prop} {m : Nat} {Pv : Nat → Value → Prop} {St : Nat → Shared → Prop} (W : WalksS P w A.in1 It fp wr G m Pv St) (nf : D ∉ fp) (xs : List Str) (em : xs.length = m) (few : m + 1 < scanBound)
    (look : ∀ j v, Pv j v → ∃ t, v = .str (xs.getD j Str.empty) t) (left : Nat) : ∀ (j : Nat) (s : Shared), m - j = left → j ≤ m → St j s → TxtSet P w s.heap D (unq [] (xs.take j)) →
      (∀ s2, Moved (D :: wr) G s s2 → TxtSet P w s2.heap D (unq [] xs) → Rz (.ok (.ret .none)) s2) → codeAny (model P w) A (.builtin "set.update.loop" ⟨[.ref D, .ref It], []⟩) Rz s := by
  have nw : D ∉ wr := fun q => nf (W.sub _ q)
  have grow : ∀ b ∈ wr, b ∈ D :: wr := fun b => List.mem_cons_of_mem _
  induction left with
  | zero =>
    intro j s ej hj st hS fin
    obtain rfl : j = m := by omega
    rw [List.take_of_length_le (by omega)] at hS
    refine codeAny_builtin
      PyProof.Rows.F.entry_set_update_loop ?_
    rw [Around.under_plainId
      PyProof.Rows.F.plain_set_update_loop _]
    show wpAny _ A.in1 (pyNext (.ref It) >>= _) _ _ s
    refine wpAny_bind (W.done s _ _ st fun s1 mv => ?_)
    refine (show wpAny _ A.in1 (ret Value.none) _ _ s1 from wpAny_pure (fin s1 (mv.mono grow) ?_))
    exact hS.stay fun o ho => mv.heap D _ nw ho
  | succ left ih =>
    intro j s ej hj st hS fin
    have lt : j < m := by omega
    refine codeAny_builtin
      PyProof.Rows.F.entry_set_update_loop ?_
    rw [Around.under_plainId
      PyProof.Rows.F.plain_set_update_loop _]
    show wpAny _ A.in1 (pyNext (.ref It) >>= _) _ _ s
    refine wpAny_bind (W.item j s _ _ lt st fun v s1 pv st1 mv => ?_)
    obtain ⟨t, rfl⟩ := look j v pv
    have hS1 : TxtSet P w s1.heap D (unq [] (xs.take j)) := hS.stay fun o ho => mv.heap D _ nw ho
    have room : (unq [] (xs.take j)).length + 1 < scanBound := by
      have := unq_len (xs.take j) []
      rw [List.length_take, List.length_nil] at this
      omega
    have eg : xs.getD j Str.empty = xs[j] := by
      rw [List.getD_eq_getElem?_getD, List.getElem?_eq_getElem (by omega)]
      rfl
    show wpAny _ A.in1 (holding [Value.str (xs.getD j Str.empty) t] (setAdd D (.str (xs.getD j Str.empty) t)) >>= _) _ _ s1
    refine wpAny_bind
      (wpAny_holding ?_)
    refine txt_put hS1 room fun b h2 sb hS2 => ?_
    have hS3 : TxtSet P w h2 D (unq [] (xs.take (j + 1))) := by
      rw [List.take_add_one, List.getElem?_eq_getElem (by omega)]
      unfold unq
      rw [List.foldl_append]
      rw [eg] at hS2
      exact hS2
    refine wpAny_pure ⟨plainId_quiet PyProof.Rows.F.plain_set_update_loop _, ih (j + 1) _ (by omega) lt (W.frame _ s1 _ _ st1 (Nat.le_succ _) fun b hb o e => ?_) hS3 fun s3 mv3 hS3 => ?_⟩
    · rw [sb.2 b fun q : b = D => nf (q ▸ hb)]
      exact e
    · refine fin s3 (Moved.trans W.gtrans ((mv.mono grow).then_heap (Nat.le_succ _) fun b o hb e => ?_) mv3) hS3
      rw [sb.2 b fun q : b = D => hb (q ▸ List.mem_cons_self)]
      exact e
theorem set_new {l : Addr} {items : Array Value} {xs : List Str} {Q : Value → Shared → Prop} (hh : A.handled = none) (isT : s.heap.IsList l items) (hi : StrsAre items.toList xs) (few : xs.length + 1 < scanBound)
    (h : ∀ (h1 : Heap) (tk : Nat), TxtSet P w h1 s.heap.objs.size (unq [] xs) → (∀ b o, s.heap.get? b = some o → h1.get? b = some o) → Q (.ref s.heap.objs.size) { s with heap := h1, toks := tk }) : wpAny (model P w) A (call (.type "set") [.ref l]) Q E s := by
  have zs : items.size = xs.length := by rw [← StrsAre.len_eq hi, Array.length_toList]
  refine type_by (Made := fun o s1 => o = .ref s.heap.objs.size ∧ s1 = { s with heap := s.heap.push (newSet w) }) PySem.F.called_set (PySem.F.typeCall_set_1 (.ref l)) PySem.F.entry_set_init (code_set_led1 (.ref l) ⟨rfl, rfl⟩) fun o s1 made => ?_
  obtain ⟨e1, e2⟩ := made
  subst e1 e2
  have at0 : (s.heap.push (newSet w)).get? s.heap.objs.size = some (newSet w) := Heap.get?_push_size _ rfl
  have ty0 : Shared.TypeIs { s with heap := s.heap.push (newSet w) } (.ref s.heap.objs.size) "set" := ⟨_, at0, rfl⟩
  refine ⟨fun M A' E' Q' q => check_set_init_1 ty0 q, ty0, ?_⟩
  have isT1 : (s.heap.push (newSet w)).IsList l items := isT.push _
  obtain ⟨⟨c1, d1, t1, v1⟩, at1, k1, n1, k2⟩ := id isT1
  replace k1 : c1 = .type "list" := k1
  replace k2 : t1 = .seq items n1 := k2
  subst k1 k2
  obtain ⟨n2, n3, n4⟩ := And.intro PySem.F.sub_list_set (And.intro PySem.F.sub_list_frozenset (show (Value.type "list" == Value.type "dict") = false by decide))
  unfold Builtin.«set.__init__»
    noKeywords Builtin.Frozenset.updateFrom
  generalize key : pyIter = walk
  wp_walk
  subst key
  refine wpAny_pyIter_list isT1 (wpAny_bind (wpAny_runValue ?_))
  obtain ⟨o0, at2, _⟩ := id isT
  have lt : l < s.heap.objs.size := Heap.lt_size at2
  have h3 : A.in1.in1.in1.handled = none := by simp [hh]
  have ez : (s.heap.push (newSet w)).objs.size = s.heap.objs.size + 1 := Heap.size_push ..
  have look : ∀ (i : Nat) (v : Value), items[i]? = some v → ∃ t, v = .str (xs.getD i Str.empty) t := fun i v hv => SS.strs_at hi i v (by rw [Array.getElem?_toList]; exact hv)
  have ne1 : l ≠ s.heap.objs.size + 1 := Nat.ne_of_lt (Nat.lt_succ_of_lt lt)
  have nf : s.heap.objs.size ∉ [s.heap.objs.size + 1, l] := by
    simp only [List.mem_cons, List.not_mem_nil, or_false, not_or]
    exact ⟨Nat.ne_of_lt (Nat.lt_succ_self _), Nat.ne_of_gt lt⟩
  rw [← ez] at ne1 nf
  refine txt_fill (D := s.heap.objs.size) ((Walks.list h3 _ l ne1 items).toS) nf xs zs.symm (by omega) look (items.size - 0) 0 _ (by omega) (Nat.zero_le _) ⟨⟨_, Heap.get?_push_size _ rfl, rfl, rfl⟩, isT1.push _⟩ ?_ fun s4 mv hS4 => ?_
  · have t0 : TxtSet P w (s.heap.push (newSet w)) s.heap.objs.size [] := txt_new
    exact t0.stay fun o ho => Heap.get?_push_of_some _ ho
  · obtain ⟨h4, g4, d4, t4, o4⟩ := s4
    obtain ⟨eg, ed, eo⟩ : g4 = s.gens ∧ d4 = s.drawn ∧ o4 = s.os := ⟨mv.gens, mv.drawn, mv.os⟩
    subst eg ed eo
    refine (show wpAny _ _ _ _ _ _ from wpAny_pure (show wpAny _ _ (ret Value.none) _ _ _ from ?_))
    refine wpAny_pure ⟨rfl, h _ _ hS4 fun b o e => ?_⟩
    have b0 : b < s.heap.objs.size := Heap.lt_size e
    exact mv.heap b o (by rw [ez]; simp only [List.mem_cons, List.not_mem_nil, or_false, not_or]; exact ⟨Nat.ne_of_lt b0, Nat.ne_of_lt (Nat.lt_succ_of_lt b0)⟩) (Heap.get?_push_of_some _ (Heap.get?_push_of_some _ e))
end
section
variable {X : Cx} {W : WX}
def rSetL (K : PySem.W.Frag) (P : Program) (w : World) : List V → Hp → VK → Prop := fun vs H Q => ∃ (a : Addr) (ks : List Str), vs = [.ref a] ∧ SqL K H a (ks.map V.str) ∧ ks.length ≤ 60 ∧ ∀ p, H p = none → Q (.ref p) (upd H p (txtO P w p (unq [] ks)))
theorem cr_setL (hc : X.calm = true) : CallR X (.type "set") (rSetL X.K X.prog X.w) := by
  intro pins s σ H vs us Q I r q
  obtain ⟨a, ks, rfl, hq, few, q⟩ := q
  rw [Vals.ref1 r]
  obtain ⟨its, rv, pl, hz⟩ :=
    I.list hq
  obtain ⟨o, n, ho, hcl, hd, hdat⟩ := pl
  refine set_new (I.ok.hd hc) ⟨o, ho, hcl, n, hdat⟩ (by simpa using strsAre_of rv) (by unfold scanBound; omega) fun h2 tk hS keep => ?_
  exact ⟨.ref s.heap.objs.size, upd H s.heap.objs.size (txtO X.prog X.w s.heap.objs.size (unq [] ks)), I.laid (t' := tk) keep (Nat.le_refl _) (txtO_ok hS), rfl, q _ (I.hok.fresh (Nat.le_refl _))⟩
def mSrtSet (m : MM D) : MM D := mBind m fun d => match d with
  | .lst ds => (match asSs ds with
    | some ks => fun _ x => if ks.length ≤ 60 then .val (.lst ((srtS (unq [] ks)).map .str)) x else .out
    | none => fun _ _ => .out)
  | _ => fun _ _ => .out
theorem j_srtSet {y z : Str} {p p2 cpos pos2 : Pos} {e : Expr} {m : MM D} (hc : X.calm = true) (hgl : Gl X y) (hm : X.mg y = none) (hv : bootBuiltins y = some (.builtin "sorted")) (hgz : Gl X z) (hmz : X.mg z = none) (hvz : bootBuiltins z = some (.type "set")) (he : PE X e (rdE X.K W m))
    (hn : y ≠ "__name__" := by decide) (hdb : (y == ("__debug__" : Str)) = false := by decide) (hnz : z ≠ "__name__" := by decide) (hdz : (z == ("__debug__" : Str)) = false := by decide)
    (s1 : starEach [e] X.env = (false, eval e X.env) :: starEach [] X.env := by rfl) (p1 : (backTo pos2 (starEach [] X.env)).any (·.1) = false := by rfl)
    (s2 : starEach [.Call (.Name z p2) [e] [] pos2] X.env = (false, eval (.Call (.Name z p2) [e] [] pos2) X.env) :: starEach [] X.env := by rfl) (p3 : (backTo cpos (starEach [] X.env)).any (·.1) = false := by rfl) :
    PE X (.Call (.Name y p) [.Call (.Name z p2) [e] [] pos2] [] cpos) (rdE X.K W (mSrtSet m)) :=
  peI (pe_callB (cr_txtSort hc) hgl hm hv (pa_cons (pe_callTy (cr_setL hc) hgz hmz hvz (pa_cons he pa_nil s1) hnz hdz s1 p1) pa_nil s2) hn hdb s2 p3) fun σ H Q h => by
    refine (show rdE X.K W m σ H fun v H1 => rSetL X.K X.prog X.w [v] H1 fun v2 H2 => rTxtSort X.prog X.w [v2] H2 Q from ?_)
    refine rd_un (rl := rlD) (r := fun v H1 Q => rSetL X.K X.prog X.w [v] H1 fun v2 H2 => rTxtSort X.prog X.w [v2] H2 Q) (fun S F H σ ρ x v a Q eK r hr p => ?_) h
    cases hr <;> try exact p.elim
    rename_i a' vs ds hF hL
    dsimp only at p
    cases eS : asSs ds with
    | none =>
      rw [eS] at p
      exact p.elim
    | some ks =>
      rw [eS] at p
      dsimp only at p
      split at p
      · rename_i few
        have e2 := RepL.strs hL eS
        subst e2
        have lu := unq_len ks []
        rw [List.length_nil] at lu
        refine ⟨a', ks, rfl, by rw [← eK]; exact sqL (r.core.sub _ _ hF), few, fun q hq => ?_⟩
        refine ⟨q, unq [] ks, rfl, upd_same, by omega, fun ys t pm st n => ?_⟩
        have e3 := srt_eq pm st
        subst e3
        have r1 := r.allocO (o := txtO X.prog X.w q (unq [] ks)) hq
        exact p (.ref t) _ _ (r1.alloc n) (Same.new (r.core.nF (show H t = none from by
          by_cases z : t = q
          · subst z; rw [upd_same] at n; cases n
          · rw [upd_ne z] at n; exact n))) ((KeepB.new hq).trans (KeepB.new n)) (.lst upd_same (repL_strs _))
      · exact p.elim
end
end Mi

/-! Mi49: list(d) of a dict. -/
namespace Mi
open PySem PySem.Spec L2
section
variable {X : Cx} {W : WX}
def gListK : List D → Option D
  | [d] => (isDct d).map fun kds => .lst (dKeys kds)
  | _ => none
def gListA (ds : List D) : Option D := (gList ds).or (gListK ds)
theorem keys_rep {K : PySem.W.Frag} {b : Option Addr} {F : Hp} : ∀ {kvs : List (Key × V)} {kds : List (Key × D)}, RepK K b F kvs kds → RepL K b F (kvs.map fun kv => kV kv.1) (dKeys kds)
  | _, _, .nil => .nil
  | _, _, .cons (k := k) (vs := vs) (ds := ds) _ r => by
    have ih := keys_rep r
    refine .cons ?_ ih
    cases k with
    | inl i => exact .int i
    | inr s => exact .str s
theorem real_listK {K : PySem.W.Frag} : RealA K W (fun xs H Q => ∃ (a : Addr) (kvs : List (Key × V)), xs = [.ref a] ∧ Rd H a (.dK kvs) ∧ ∀ p, H p = none → Q (.ref p) (upd H p (.lst (kvs.map fun kv => kV kv.1)))) fun ds => o1 (gListK ds) := by
  intro S F H σ ρ x vs ds Q eK r hv p
  match ds, hv with
  | [], _ => exact p.elim
  | _ :: _ :: _, _ => exact p.elim
  | [d], hv =>
    obtain ⟨v, e, h⟩ := rep1 hv
    subst e
    replace p : Post rlD S W σ F H ρ (o1 ((isDct d).map fun kds => .lst (dKeys kds)) ρ x) Q := p
    cases q : isDct d with
    | none =>
      rw [q] at p
      exact p.elim
    | some kds =>
      rw [q] at p
      obtain ⟨a, kvs, ev, hrd, hr⟩ := h.dict (Same.refl F) q
      subst ev
      exact ⟨a, kvs, rfl, hrd.imp (r.core.sub _ _) fun ⟨o, z⟩ => ⟨o, r.core.sub _ _ z⟩, fun l n => post_new (α := D) r p n (.lst upd_same ((keys_rep hr).mono (Same.new (r.core.nF n))))⟩
theorem cr_listA (hc : X.calm = true) : CallR X (.type "list") (fun xs H Q => (∃ p ys, xs = [V.ref p] ∧ (SqL X.K H p ys ∨ SqT X.K H p ys) ∧ ∀ l, H l = none → Q (.ref l) (upd H l (.lst ys))) ∨ ∃ (a : Addr) (kvs : List (Key × V)), xs = [.ref a] ∧ Rd H a (.dK kvs) ∧ ∀ p, H p = none → Q (.ref p) (upd H p (.lst (kvs.map fun kv => kV kv.1)))) := call_list_of.or (call_listD hc)
theorem real_listA {K : PySem.W.Frag} : RealA K W (fun xs H Q => (∃ p ys, xs = [V.ref p] ∧ (SqL K H p ys ∨ SqT K H p ys) ∧ ∀ l, H l = none → Q (.ref l) (upd H l (.lst ys))) ∨ ∃ (a : Addr) (kvs : List (Key × V)), xs = [.ref a] ∧ Rd H a (.dK kvs) ∧ ∀ p, H p = none → Q (.ref p) (upd H p (.lst (kvs.map fun kv => kV kv.1)))) fun ds => o1 (gListA ds) := real_list.or real_listK
end
end Mi

/-! Mi50: tuple(list) with its object known to have no dict of its own; dict(such a tuple of pairs). -/
namespace Mi
open PySem PySem.Spec L2
section
variable {X : Cx} {W : WX}
theorem dictFree_ok {P : Program} {w : World} {H : Hp} {h : Heap} {a : Addr} {vs : List V} {o : Obj} {its : Array Value} {n : Nat} (e : h.get? a = some o) (c : o.cls = .type "tuple") (d : o.dict = none) (s : o.data = .seq its n) (z : its.size ≤ sizeLine) (r : Vals vs its.toList) : ObjOk P w H h a (dictFree a vs) := by
  refine ⟨⟨o, its, n, e, c, d, s, z, r⟩, ⟨o, e⟩, fun h1 h2 x keep => ?_⟩
  obtain ⟨o', its', n', e', r'⟩ := x
  exact ⟨o', its', n', keep _ e', r'⟩
/-- tuple(xs) of a list -/
theorem call_tupleF : CallR X (.type "tuple") (fun xs H Q => ∃ p ys, xs = [.ref p] ∧ SqL X.K H p ys ∧ ∀ l, H l = none → Q (.ref l) (upd H l (dictFree l ys))) := by
  intro pins s σ
    H xs us Q I r h
  obtain ⟨p, ys, ex, hq, q⟩ := h
  subst ex
  obtain ⟨u, eu, rx⟩ := vals1 r
  subst eu
  cases rx
  obtain ⟨its, rv, pl, hz⟩ :=
    I.list hq
  have ln := rv.length
  have zz : its.toArray.size ≤ sizeLine := by
    rw [List.size_toArray]
    omega
  refine call_tuple_list pl.isList (fun h2 keep => ?_) zz
  have I1 : Inv X pins σ H { s with heap := h2 } := I.kept (t' := s.toks) keep
  have at0 : (h2.push { cls := .type "tuple", data := .seq its.toArray }).get? h2.objs.size = some { cls := .type "tuple", data := .seq its.toArray } := Heap.get?_push_size _ rfl
  have I2 : Inv X pins σ (upd H h2.objs.size (dictFree h2.objs.size ys)) { s with heap := h2.push { cls := .type "tuple", data := .seq its.toArray } } :=
    I1.laid (t' := s.toks) (fun b o e => Heap.get?_push_of_some _ e) (Nat.le_refl _) (dictFree_ok at0 rfl rfl rfl zz rv)
  exact ⟨.ref h2.objs.size, _, I2, rfl, q _ (I1.hok.fresh (Nat.le_refl _))⟩
def gTupX : List D → Option D
  | [.lst ds] => some (.xt .tp ds)
  | _ => none
theorem real_tupX {K : PySem.W.Frag} : RealA K W (fun xs H Q => ∃ p ys, xs = [V.ref p] ∧ SqL K H p ys ∧ ∀ l, H l = none → Q (.ref l) (upd H l (dictFree l ys))) fun ds => o1 (gTupX ds) := by
  intro S F H σ ρ x vs ds Q eK r hv p
  unfold gTupX at p
  dsimp only at p
  split at p
  · obtain ⟨v, e, h⟩ := rep1 hv
    subst e
    cases h with
    | lst h r1 => exact ⟨_, _, rfl, sqL (r.core.sub _ _ h), fun l n => post_new (α := D) r p n (.xt (show XtOk _ l _ .tp from upd_same) (r1.mono (Same.new (r.core.nF n))))⟩
  · exact p.elim
/-- the pairs of a sequence, a key and a value each -/
theorem trs_of {pins : List (Addr × Obj)} {σ : St} {H : Hp} {s : Shared} (I : Inv X pins σ H s) : ∀ {ps : List Addr} {kvs : List (Key × V)}, Paired (fun (p : Addr) (kv : Key × V) => SqT X.K H p [kV kv.1, kv.2]) ps kvs →
    ∃ tr : List (Key × Value × Value), KV kvs (tr.map fun t => (t.1, t.2.2)) ∧ tr.length = ps.length ∧ ∀ (j : Nat) (t : Key × Value × Value), tr[j]? = some t → ∃ b, ps[j]? = some b ∧ PyProof.Rows.IsTup s.heap b #[t.2.1, t.2.2] ∧ keyIs t.1 t.2.1 = true
  | _, _, .nil => ⟨[], .nil, rfl, fun j t e => by simp at e⟩
  | _, _, .cons (a := a) (b := kv) h more => by
    obtain ⟨tr, k1, k2, k3⟩ := trs_of I more
    obtain ⟨its, rv, isT, _⟩ := I.tuple h
    obtain ⟨u, y, ei, r1, r2⟩ := vals2 rv
    subst ei
    refine ⟨(kv.1, u, y) :: tr, .cons ⟨rfl, r2⟩ k1, by rw [List.length_cons, List.length_cons, k2], fun j t e => ?_⟩
    match j, e with
    | 0, e =>
      cases e
      exact ⟨a, rfl, isT, kV_is (P := X.prog) (w := X.w) r1⟩
    | j + 1, e =>
      obtain ⟨b, q1, q2⟩ := k3 j t (by simpa using e)
      exact ⟨b, by simpa using q1, q2⟩
/-- dict(t) of a tuple of pairs whose object has no dict -/
theorem call_dictF (hc : X.calm = true) : CallR X (.type "dict") (fun xs H Q => ∃ (a : Addr) (ps : List Addr) (kvs : List (Key × V)), xs = [.ref a] ∧ H a = some (dictFree a (ps.map V.ref)) ∧ Paired (fun (p : Addr) (kv : Key × V) => SqT X.K H p [kV kv.1, kv.2]) ps kvs ∧
    ∀ p, H p = none → Q (.ref p)
      (upd H p (.dK (mergeK [] kvs)))) := by
  intro pins s σ
    H xs us Q I r q
  obtain ⟨a, ps, kvs, ex, hq, hp, q⟩ :=
    q
  subst ex
  obtain ⟨u, eu, rx⟩ := vals1 r
  subst eu
  cases rx
  obtain ⟨⟨o, its, n, ho, hcl, hd, hdat, hz, rv⟩, _⟩ := I.hok a _ hq
  have ei := refs_at rv
  obtain ⟨tr, k1, k2, k3⟩ := trs_of I hp
  have zs : its.size = ps.length := by
    rw [← Array.length_toList, ei, List.length_map]
  have P := PairArg.tuple (prog := X.prog) (w := X.w) a its (fun j => ps.getD j 0) (tr.map fun t => (t.2.1, t.2.2))
  have items : PairItems s.heap its (fun j => ps.getD j 0) (tr.map fun t => (t.2.1, t.2.2)) := by
    refine ⟨by rw [List.length_map, k2]; exact zs, fun j k v e => ?_⟩
    rw [List.getElem?_map] at e
    obtain ⟨t, e1, e2⟩ := Option.map_eq_some_iff.mp e
    cases e2
    obtain ⟨b, q1, q2, _⟩ := k3 j t e1
    have eb : ps.getD j 0 = b := by rw [List.getD_eq_getElem?_getD, q1]; rfl
    refine ⟨?_, ?_⟩
    · dsimp only
      rw [eb, ← Array.getElem?_toList, ei, List.getElem?_map, q1]
      rfl
    · dsimp only
      rw [eb]
      exact .inl q2
  have have_ : PairsHave (mixKind X.prog X.w) (tr.map fun t => (t.2.1, t.2.2)).length (PairRel (tr.map fun t => (t.2.1, t.2.2))) (tr.map fun t => (t.1, t.2.2)) := by
    refine ⟨by rw [List.length_map, List.length_map], fun i key v e => ?_⟩
    have e : (tr.map fun t => (t.2.1, t.2.2))[i]? = some (key, v) := e
    rw [List.getElem?_map] at e
    obtain ⟨t, e1, e2⟩ := Option.map_eq_some_iff.mp e
    cases e2
    obtain ⟨b, _, _, q3⟩ := k3 i t e1
    exact ⟨t.1, by rw [List.getElem?_map, e1]; rfl, q3⟩
  refine PySem.call_dict_pairs P (I.ok.hd hc) ⟨⟨o, n, ho, hcl, hd, hdat⟩, items⟩ have_ (by rw [List.length_map, k2, ← zs]; exact hz) fun h2 tk hD keep => ?_
  have ns : (s.heap.objs.size == sysModules) = false := beq_eq_false_iff_ne.mpr (Nat.ne_of_gt I.big)
  have few : (mergeK [] kvs).length ≤ sizeLine := by
    have a1 := length_mergeK kvs []
    have a2 := k1.length
    rw [List.length_map] at a2
    rw [List.length_nil, Nat.zero_add] at a1
    omega
  exact ⟨.ref s.heap.objs.size, upd H s.heap.objs.size (.dK (mergeK [] kvs)), I.laid (t' := tk) (fun b o e => keep b o (fun z => nomatch z) e) (Nat.le_refl _) (show ObjOk X.prog X.w _ _ _ (.dK (mergeK [] kvs)) from ⟨few, ns, merged [] (tr.map fun t => (t.1, t.2.2)), KV.merge k1 .nil, hD⟩), rfl, q _ (I.hok.fresh (Nat.le_refl _))⟩
def gDictX : List D → Option D
  | [.xt .tp ds] => (pairsP ds).map fun kds => .dcb (mergeA [] kds)
  | _ => none
theorem real_dictX {K : PySem.W.Frag} : RealA K W (fun xs H Q => ∃ (a : Addr) (ps : List Addr) (kvs : List (Key × V)), xs = [V.ref a] ∧ H a = some (dictFree a (ps.map V.ref)) ∧ Paired (fun (p : Addr) (kv : Key × V) => SqT K H p [kV kv.1, kv.2]) ps kvs ∧
    ∀ p, H p = none → Q (.ref p) (upd H p (.dK (mergeK [] kvs)))) fun ds => o1 (gDictX ds) := by
  intro S F H σ ρ x vs ds Q eK r hv p
  unfold gDictX at p
  dsimp only at p
  split at p
  · obtain ⟨v, e, h⟩ := rep1 hv
    subst e
    cases h with
    | xt h r1 =>
      rename_i ds a us
      cases q : pairsP ds with
      | none =>
        rw [q] at p
        exact p.elim
      | some kds =>
        rw [q] at p
        obtain ⟨ps, kvs, h1, h2, h3⟩ := pairs_rep eK r.core.sub r1 q
        subst h1
        exact ⟨a, ps, kvs, rfl, r.core.sub _ _ (show F a = some (dictFree a (ps.map V.ref)) from h), h2, fun l n => post_new (α := D) r p n (.dcb upd_same ((RepK.merge h3 .nil).mono (Same.new (r.core.nF n))))⟩
  · exact p.elim
section
variable {y : Str} {p pos : Pos} {e : Expr} {ms : MM (List D)}
theorem j_tupX (hg : Gl X y) (hm : X.mg y = none) (hv : bootBuiltins y = some (.type "tuple")) (ha : PA X [e] (rdA X.K W ms)) (hn : y ≠ "__name__" := by decide) (hdb : (y == ("__debug__" : Str)) = false := by decide)
    (he : starEach [e] X.env = (false, eval e X.env) :: starEach [] X.env := by rfl) (hpl : (backTo pos (starEach [] X.env)).any (·.1) = false := by rfl) : PE X (.Call (.Name y p) [e] [] pos) (rdE X.K W (mCall gTupX ms)) :=
  peI (pe_callTy call_tupleF hg hm hv ha hn hdb he hpl) fun σ H Q q => rd_unL (rl := rlD) real_tupX q
theorem j_dictX (hc : X.calm = true) (hg : Gl X y) (hm : X.mg y = none) (hv : bootBuiltins y = some (.type "dict")) (ha : PA X [e] (rdA X.K W ms)) (hn : y ≠ "__name__" := by decide) (hdb : (y == ("__debug__" : Str)) = false := by decide)
    (he : starEach [e] X.env = (false, eval e X.env) :: starEach [] X.env := by rfl) (hpl : (backTo pos (starEach [] X.env)).any (·.1) = false := by rfl) : PE X (.Call (.Name y p) [e] [] pos) (rdE X.K W (mCall gDictX ms)) :=
  peI (pe_callTy (call_dictF hc) hg hm hv ha hn hdb he hpl) fun σ H Q q => rd_unL (rl := rlD) real_dictX q
end
end
end Mi

/-! Mi51: x in t, x not in t: a tuple's items of any depth. -/
namespace Mi
open PySem PySem.Spec L2
section
variable {X : Cx} {W : WX}
/-- what stands in a tuple, told by data -/
def rTupD (K : PySem.W.Frag) (neg : Bool) : R2 := fun x y H Q => ∃ d ds, Dp K H x d ∧ Dp K H y (.tuple ds) ∧ SeqAt.shaped d = true ∧ SeqAt.shaped (.tuple ds) = true ∧ Q (.bl (if neg then !(ds.any fun z => PyData.eqv z d) else ds.any fun z => PyData.eqv z d)) H
theorem op_inT (hu : X.A.units + 65 < cLine) : OpR X (compareOp .In) (rTupD X.K false) := by
  intro pins s σ H x y v u Q I rx ry ⟨d, ds, h1, h2, h3, h4, q⟩
  obtain ⟨as, r1⟩ := Dp.reads I d x v h1 rx
  obtain ⟨bs, r2⟩ := Dp.reads I (.tuple ds) y u h2 ry
  exact SeqAt.in_tuple_reads r2 r1 (SeqAt.canLay_of_shaped h4) (SeqAt.canLay_of_shaped h3) (PyProof.Rows.room_in_shaped h3 hu) ⟨.bl _, H, I, rfl, q⟩
theorem op_notInT (hu : X.A.units + 65 < cLine) : OpR X (compareOp .NotIn) (rTupD X.K true) := by
  intro pins s σ H x y v u Q I rx ry ⟨d, ds, h1, h2, h3, h4, q⟩
  obtain ⟨as, r1⟩ := Dp.reads I d x v h1 rx
  obtain ⟨bs, r2⟩ := Dp.reads I (.tuple ds) y u h2 ry
  exact SeqAt.notIn_tuple_reads r2 r1 (SeqAt.canLay_of_shaped h4) (SeqAt.canLay_of_shaped h3) (PyProof.Rows.room_in_shaped h3 hu) ⟨.bl _, H, I, rfl, q⟩
def gInTB (a b : D) : Option Bool := match a.py, b.py with
  | some p, some (.tuple qs) => if SeqAt.shaped p && SeqAt.shaped (.tuple qs) then some (qs.any fun z => PyData.eqv z p) else none
  | _, _ => none
def gInT (neg : Bool) (a b : D) : Option D := (gInTB a b).map fun c => .bl (if neg then !c else c)
theorem gInTB_some {a b : D} {c : Bool} (h : gInTB a b = some c) : ∃ p qs, a.py = some p ∧ b.py = some (.tuple qs) ∧ SeqAt.shaped p = true ∧ SeqAt.shaped (.tuple qs) = true ∧ (qs.any fun z => PyData.eqv z p) = c := by
  unfold gInTB at h
  split at h
  · rename_i p qs e1 e2
    split at h
    · rename_i z
      have z := Bool.and_eq_true_iff.mp z
      exact ⟨p, qs, e1, e2, z.1, z.2, Option.some.inj h⟩
    · cases h
  · cases h
theorem real_inT {K : PySem.W.Frag} (neg : Bool) : Real2 K W (rTupD K neg) (fun a b => o1 (gInT neg a b)) := by
  intro S F H σ ρ x v1 v2 a b Q eK r ha hb p
  replace p : Post rlD S W σ F H ρ (o1 ((gInTB a b).map fun c => .bl (if neg then !c else c)) ρ x) Q := p
  cases e : gInTB a b with
  | none =>
    rw [e] at p
    exact p.elim
  | some c =>
    rw [e] at p
    obtain ⟨d, qs, e1, e2, s1, s2, e3⟩ := gInTB_some e
    refine ⟨d, qs, eK ▸ ha.dp r.core.sub e1, eK ▸ hb.dp r.core.sub e2, s1, s2, ?_⟩
    rw [e3]
    exact post_val (rl := rlD) r p (.bl _)
theorem jt_inT {ma mb : MM D} {a b : Expr} {pos : Pos} {k : Nat} (hr : Room k X.A) (ha : PE X a (rdE X.K W ma)) (hb : PE X b (rdE X.K W mb)) (hm : behindInMarks .In b = false := by rfl) : PT X (.Compare a [.In] [b] pos) (rdT X.K W (mTst (mOp (fun a b => o1 (gInT false a b)) ma mb))) :=
  j_cmpT (op_inT (by have := hr.un; omega)) (real_inT false) ha hb hm
theorem jt_notInT {ma mb : MM D} {a b : Expr} {pos : Pos} {k : Nat} (hr : Room k X.A) (ha : PE X a (rdE X.K W ma)) (hb : PE X b (rdE X.K W mb)) (hm : behindInMarks .NotIn b = false := by rfl) : PT X (.Compare a [.NotIn] [b] pos) (rdT X.K W (mTst (mOp (fun a b => o1 (gInT true a b)) ma mb))) :=
  j_cmpT (op_notInT (by have := hr.un; omega)) (real_inT true) ha hb hm
end
end Mi

/-! R0: FRACTIONS as data, their worth, their bounds. -/
namespace GG
open PySem PySem.Spec L2 Mi
def fr (n d : Int) : D := .tup [.int n, .int d]
def lowN (n d : Int) : Int := n / (Nat.gcd n.natAbs d.natAbs : Nat)
def lowD (n d : Int) : Int := d / (Nat.gcd n.natAbs d.natAbs : Nat)
def low (n d : Int) : D := fr (lowN n d) (lowD n d)
def frR (q : Rat) : D := fr q.num q.den
theorem divInt_num {n d : Int} (hd : 0 < d) : (Rat.divInt n d).num = lowN n d := by
  rw [Rat.num_divInt, Int.sign_eq_one_of_pos hd, Int.one_mul]
  unfold lowN
  rw [Int.gcd, Nat.gcd_comm]
theorem divInt_den {n d : Int} (hd : 0 < d) : ((Rat.divInt n d).den : Int) = lowD n d := by
  rw [Rat.den_divInt, if_neg (by omega)]
  unfold lowD
  have e : (d.natAbs : Int) = d := by omega
  rw [Int.gcd, Nat.gcd_comm, Int.natCast_ediv, e]
theorem low_rat {n d : Int} (hd : 0 < d) : low n d = frR (Rat.divInt n d) := by
  unfold low frR
  rw [divInt_num hd, divInt_den hd]
/-! ### bounds -/
def Bq (k : Nat) (q : Rat) : Prop := q.num.natAbs < 2 ^ k ∧ q.den < 2 ^ k
def Fq (L B : Nat) (q : Rat) : Prop := q.den ∣ L ∧ q.num.natAbs ≤ B * q.den
theorem Fq.mono {L B L' B' : Nat} {q : Rat} (h : Fq L B q) (hL : L ∣ L') (hB : B ≤ B') : Fq L' B' q := ⟨Nat.dvd_trans h.1 hL, Nat.le_trans h.2 (Nat.mul_le_mul_right _ hB)⟩
theorem Fq.bd {L B k : Nat} {q : Rat} (h : Fq L B q) (h0 : 0 < L) (h1 : L < 2 ^ k) (h2 : B * L < 2 ^ k) : Bq k q := by
  have hd := Nat.le_of_dvd h0 h.1
  exact ⟨Nat.lt_of_le_of_lt h.2 (Nat.lt_of_le_of_lt (Nat.mul_le_mul_left B hd) h2), by omega⟩
theorem fq_divInt {L B : Nat} {X Y : Int} (hY : 0 < Y) (hL : Y.natAbs ∣ X.natAbs * L) (hB : X.natAbs ≤ B * Y.natAbs) : Fq L B (Rat.divInt X Y) := by
  have gp : 0 < Nat.gcd X.natAbs Y.natAbs := Nat.gcd_pos_of_pos_right _ (by omega)
  have g1 := Nat.gcd_dvd_left X.natAbs Y.natAbs
  have g2 := Nat.gcd_dvd_right X.natAbs Y.natAbs
  have cop : Nat.Coprime (X.natAbs / Nat.gcd X.natAbs Y.natAbs) (Y.natAbs / Nat.gcd X.natAbs Y.natAbs) := Nat.coprime_div_gcd_div_gcd gp
  have eD : (Rat.divInt X Y).den = Y.natAbs / Nat.gcd X.natAbs Y.natAbs := by
    rw [Rat.den_divInt, if_neg (by omega), Int.gcd, Nat.gcd_comm]
  have eN : (Rat.divInt X Y).num.natAbs = X.natAbs / Nat.gcd X.natAbs Y.natAbs := by
    rw [divInt_num hY]
    unfold lowN
    rw [Int.natAbs_ediv_of_dvd (Int.dvd_natAbs.mp (Int.natCast_dvd_natCast.mpr g1)), Int.natAbs_natCast]
  unfold Fq
  rw [eD, eN]
  revert cop g1 g2 gp
  generalize Nat.gcd X.natAbs Y.natAbs = g
  intro gp g1 g2 cop
  obtain ⟨x, ex⟩ := g1
  obtain ⟨y, ey⟩ := g2
  rw [ex, ey] at cop hL hB
  rw [ex, ey, Nat.mul_div_cancel_left _ gp, Nat.mul_div_cancel_left _ gp]
  rw [Nat.mul_div_cancel_left _ gp, Nat.mul_div_cancel_left _ gp] at cop
  refine ⟨?_, ?_⟩
  · rw [Nat.mul_assoc] at hL
    exact Nat.Coprime.dvd_of_dvd_mul_left cop.symm (Nat.dvd_of_mul_dvd_mul_left gp hL)
  · refine (Nat.mul_le_mul_left_iff gp).mp ?_
    calc g * x ≤ B * (g * y) := hB
      _ = g * (B * y) := by rw [Nat.mul_left_comm]
/-! ### sums, products as they are reckoned -/
theorem pos_den (q : Rat) : (0 : Int) < q.den := Int.natCast_pos.mpr q.den_pos
theorem add_rat (a b : Rat) : Rat.divInt (a.num * b.den + b.num * a.den) (a.den * b.den) = a + b := by
  rw [Rat.add_def', ← Int.natCast_mul, Rat.divInt_ofNat]
theorem sub_rat (a b : Rat) : Rat.divInt (a.num * b.den - b.num * a.den) (a.den * b.den) = a - b := by
  rw [Rat.sub_def', ← Int.natCast_mul, Rat.divInt_ofNat]
theorem mul_rat (a b : Rat) : Rat.divInt (a.num * b.num) (a.den * b.den) = a * b := by
  rw [Rat.mul_def', ← Int.natCast_mul, Rat.divInt_ofNat]
theorem lt_rat (a b : Rat) : decide (a.num * b.den < b.num * a.den) = decide (a < b) := decide_eq_decide.mpr (Rat.lt_iff a b).symm
section
variable {L B C : Nat} {a b : Rat}
theorem dvd_nat {d L : Nat} (h : d ∣ L) : (d : Int) ∣ (L : Int) := Int.natCast_dvd_natCast.mpr h
theorem sum_dvd (h1 : a.den ∣ L) (h2 : b.den ∣ L) (z : Int) (hz : z = a.num * b.den + b.num * a.den ∨ z = a.num * b.den - b.num * a.den) : ((a.den : Int) * b.den).natAbs ∣ z.natAbs * L := by
  have k1 : (a.den : Int) * b.den ∣ a.num * b.den * L := by
    rw [show a.num * (b.den : Int) * L = b.den * (a.num * L) by rw [Int.mul_comm a.num, Int.mul_assoc], Int.mul_comm (a.den : Int)]
    exact Int.mul_dvd_mul_left _ (Int.dvd_trans (dvd_nat h1) (Int.dvd_mul_left _ _))
  have k2 : (a.den : Int) * b.den ∣ b.num * a.den * L := by
    rw [show b.num * (a.den : Int) * L = a.den * (b.num * L) by rw [Int.mul_comm b.num, Int.mul_assoc]]
    exact Int.mul_dvd_mul_left _ (Int.dvd_trans (dvd_nat h2) (Int.dvd_mul_left _ _))
  have k3 : (a.den : Int) * b.den ∣ z * L := by
    rcases hz with rfl | rfl
    · rw [Int.add_mul]
      exact Int.dvd_add k1 k2
    · rw [Int.sub_mul]
      exact Int.dvd_sub k1 k2
  have := Int.natAbs_dvd_natAbs.mpr k3
  rwa [Int.natAbs_mul z, Int.natAbs_natCast] at this
theorem sum_abs (h1 : a.num.natAbs ≤ B * a.den) (h2 : b.num.natAbs ≤ C * b.den) (z : Int) (hz : z = a.num * b.den + b.num * a.den ∨ z = a.num * b.den - b.num * a.den) : z.natAbs ≤ (B + C) * ((a.den : Int) * b.den).natAbs := by
  have e : ((a.den : Int) * b.den).natAbs = a.den * b.den := by rw [Int.natAbs_mul, Int.natAbs_natCast, Int.natAbs_natCast]
  have a1 : (a.num * (b.den : Int)).natAbs ≤ B * (a.den * b.den) := by
    rw [Int.natAbs_mul, Int.natAbs_natCast, ← Nat.mul_assoc]
    exact Nat.mul_le_mul_right _ h1
  have a2 : (b.num * (a.den : Int)).natAbs ≤ C * (a.den * b.den) := by
    rw [Int.natAbs_mul, Int.natAbs_natCast, Nat.mul_comm a.den, ← Nat.mul_assoc]
    exact Nat.mul_le_mul_right _ h2
  have a3 : z.natAbs ≤ (a.num * (b.den : Int)).natAbs + (b.num * (a.den : Int)).natAbs := by
    rcases hz with rfl | rfl
    · exact Int.natAbs_add_le _ _
    · exact Int.natAbs_sub_le _ _
  rw [e, Nat.add_mul]
  omega
theorem Fq.add (h1 : Fq L B a) (h2 : Fq L C b) : Fq L (B + C) (a + b) := by
  rw [← add_rat]
  exact fq_divInt (Int.mul_pos (pos_den a) (pos_den b)) (sum_dvd h1.1 h2.1 _ (.inl rfl)) (sum_abs h1.2 h2.2 _ (.inl rfl))
theorem Fq.sub (h1 : Fq L B a) (h2 : Fq L C b) : Fq L (B + C) (a - b) := by
  rw [← sub_rat]
  exact fq_divInt (Int.mul_pos (pos_den a) (pos_den b)) (sum_dvd h1.1 h2.1 _ (.inr rfl)) (sum_abs h1.2 h2.2 _ (.inr rfl))
theorem Fq.mul {L' : Nat} (h1 : Fq L B a) (h2 : Fq L' C b) : Fq (L * L') (B * C) (a * b) := by
  rw [← mul_rat]
  have e : ((a.den : Int) * b.den).natAbs = a.den * b.den := by rw [Int.natAbs_mul, Int.natAbs_natCast, Int.natAbs_natCast]
  refine fq_divInt (Int.mul_pos (pos_den a) (pos_den b)) ?_ ?_
  · rw [e]
    exact Nat.dvd_trans (Nat.mul_dvd_mul h1.1 h2.1) (Nat.dvd_mul_left _ _)
  · rw [e, Int.natAbs_mul]
    calc a.num.natAbs * b.num.natAbs ≤ (B * a.den) * (C * b.den) := Nat.mul_le_mul h1.2 h2.2
      _ = B * C * (a.den * b.den) := by rw [Nat.mul_assoc, Nat.mul_left_comm a.den, ← Nat.mul_assoc]
end
/-! ### what a mirror asks of them -/
theorem lg_of {i : Int} {k : Nat} (h : i.natAbs < 2 ^ k) (hk : 0 < k) : lg i < k := by
  unfold lg
  by_cases hz : i.natAbs = 0
  · rw [hz]
    simpa using hk
  · exact (Nat.log2_lt hz).mpr h
theorem okm {i j : Int} {k : Nat} (h1 : i.natAbs < 2 ^ k) (h2 : j.natAbs < 2 ^ k) (hk : 0 < k) (hk' : k ≤ 1000) : okMul i j = true := by
  unfold okMul
  rw [Bool.or_eq_true]
  refine .inr (decide_eq_true ?_)
  have a := lg_of h1 hk
  have b := lg_of h2 hk
  unfold lg at a b
  unfold CMulW
  omega
theorem bl (n : Nat) (h : n ≤ 20) : n ≤ big := Nat.le_trans h (by decide)
theorem bg (n : Nat) (h : n < 200) : n < big := Nat.lt_of_lt_of_le h (by decide)
theorem at2_0 {a b : D} : atI [a, b] 0 = some a := rfl
theorem at2_1 {a b : D} : atI [a, b] 1 = some b := rfl
end GG

namespace GG
open PySem PySem.Spec L2 Mi
def topS (i : Nat) : Stmt := PySem.Challenge.pw_layernets_k53_nothing_is_lost.main.body.getD i (.Pass ⟨0, 0, 0, 0⟩)
abbrev s_l_box : Stmt := topS 40
theorem sc_l_box : FnScope ["_law_script", "_law_k", "_law_cell"] ["_law_script", "_law_k"] (defScope s_l_box) := ⟨rfl, rfl, rfl, by decide +kernel, rfl, by decide +kernel, by decide +kernel⟩
abbrev s_channels_made : Stmt := topS 32
theorem sc_channels_made : FnScope ["part"] ["part"] (defScope s_channels_made) := ⟨rfl, rfl, rfl, by decide +kernel, rfl, by decide +kernel, by decide +kernel⟩
abbrev s_channels_taken : Stmt := topS 31
theorem sc_channels_taken : FnScope ["part"] ["part"] (defScope s_channels_taken) := ⟨rfl, rfl, rfl, by decide +kernel, rfl, by decide +kernel, by decide +kernel⟩
abbrev s_p_fits : Stmt := topS 34
theorem sc_p_fits : FnScope ["part", "free", "taken", "made", "channel"] ["part", "free"] (defScope s_p_fits) := ⟨rfl, rfl, rfl, by decide +kernel, rfl, by decide +kernel, by decide +kernel⟩
abbrev s_as_tuples : Stmt := topS 18
theorem sc_as_tuples : FnScope ["value", "item"] ["value"] (defScope s_as_tuples) := ⟨rfl, rfl, rfl, by decide +kernel, rfl, by decide +kernel, by decide +kernel⟩
abbrev s_Net___init__ : Stmt := inClass (topS 30) 0
theorem sc_Net___init__ : FnScope ["self", "parts", "free", "place", "part", "channel"] ["self", "parts"] (defScope s_Net___init__) := ⟨rfl, rfl, rfl, by decide +kernel, rfl, by decide +kernel, by decide +kernel⟩
abbrev s_l_frac : Stmt := topS 45
theorem sc_l_frac : FnScope ["_law_top_so", "_law_low_so", "_law_one", "_law_two", "_law_turn"] ["_law_top_so", "_law_low_so"] (defScope s_l_frac) := ⟨rfl, rfl, rfl, by decide +kernel, rfl, by decide +kernel, by decide +kernel⟩
abbrev s_l_add : Stmt := topS 46
theorem sc_l_add : FnScope ["_law_one", "_law_two"] ["_law_one", "_law_two"] (defScope s_l_add) := ⟨rfl, rfl, rfl, by decide +kernel, rfl, by decide +kernel, by decide +kernel⟩
abbrev s_l_low : Stmt := topS 48
theorem sc_l_low : FnScope ["_law_one", "_law_two"] ["_law_one", "_law_two"] (defScope s_l_low) := ⟨rfl, rfl, rfl, by decide +kernel, rfl, by decide +kernel, by decide +kernel⟩
abbrev s_l_mul : Stmt := topS 47
theorem sc_l_mul : FnScope ["_law_one", "_law_two"] ["_law_one", "_law_two"] (defScope s_l_mul) := ⟨rfl, rfl, rfl, by decide +kernel, rfl, by decide +kernel, by decide +kernel⟩
abbrev s_l_same : Stmt := topS 44
theorem sc_l_same : FnScope ["_law_got", "_law_due", "_law_mine", "_law_its"] ["_law_got", "_law_due"] (defScope s_l_same) := ⟨rfl, rfl, rfl, by decide +kernel, rfl, by decide +kernel, by decide +kernel⟩
abbrev s_Net_outlets : Stmt := inClass (topS 30) 4
theorem sc_Net_outlets : FnScope ["self"] ["self"] (defScope s_Net_outlets) := ⟨rfl, rfl, rfl, by decide +kernel, rfl, by decide +kernel, by decide +kernel⟩
abbrev s_Net_parts : Stmt := inClass (topS 30) 2
theorem sc_Net_parts : FnScope ["self"] ["self"] (defScope s_Net_parts) := ⟨rfl, rfl, rfl, by decide +kernel, rfl, by decide +kernel, by decide +kernel⟩
abbrev s_is_less : Stmt := topS 6
theorem sc_is_less : FnScope ["one", "other"] ["one", "other"] (defScope s_is_less) := ⟨rfl, rfl, rfl, by decide +kernel, rfl, by decide +kernel, by decide +kernel⟩
abbrev s_lesser : Stmt := topS 7
theorem sc_lesser : FnScope ["one", "other"] ["one", "other"] (defScope s_lesser) := ⟨rfl, rfl, rfl, by decide +kernel, rfl, by decide +kernel, by decide +kernel⟩
abbrev s_p_lowest : Stmt := topS 8
theorem sc_p_lowest : FnScope ["top", "bottom", "common"] ["top", "bottom"] (defScope s_p_lowest) := ⟨rfl, rfl, rfl, by decide +kernel, rfl, by decide +kernel, by decide +kernel⟩
abbrev s_minus : Stmt := topS 4
theorem sc_minus : FnScope ["one", "other"] ["one", "other"] (defScope s_minus) := ⟨rfl, rfl, rfl, by decide +kernel, rfl, by decide +kernel, by decide +kernel⟩
abbrev s_plus : Stmt := topS 3
theorem sc_plus : FnScope ["one", "other"] ["one", "other"] (defScope s_plus) := ⟨rfl, rfl, rfl, by decide +kernel, rfl, by decide +kernel, by decide +kernel⟩
abbrev s_times : Stmt := topS 5
theorem sc_times : FnScope ["one", "other"] ["one", "other"] (defScope s_times) := ⟨rfl, rfl, rfl, by decide +kernel, rfl, by decide +kernel, by decide +kernel⟩
abbrev s_p_amounts : Stmt := topS 38
theorem sc_p_amounts : FnScope ["net", "inflow", "amounts", "part", "_", "one", "other", "to", "word", "amount", "rest", "come"] ["net", "inflow"] (defScope s_p_amounts) := ⟨rfl, rfl, rfl, by decide +kernel, rfl, by decide +kernel, by decide +kernel⟩
abbrev s_flow : Stmt := topS 37
theorem sc_flow : FnScope ["net", "inflow", "amounts", "outlet"] ["net", "inflow"] (defScope s_flow) := ⟨rfl, rfl, rfl, by decide +kernel, rfl, by decide +kernel, by decide +kernel⟩
abbrev s_walked : Stmt := topS 36
theorem sc_walked : FnScope ["net", "inflow", "amounts"] ["net", "inflow"] (defScope s_walked) := ⟨rfl, rfl, rfl, by decide +kernel, rfl, by decide +kernel, by decide +kernel⟩
abbrev s_walked_x : Stmt := topS 36
theorem sc_walked_x : FnScope ["net", "inflow", "amounts"] ["net", "inflow"] (defScope s_walked_x) := ⟨rfl, rfl, rfl, by decide +kernel, rfl, by decide +kernel, by decide +kernel⟩
abbrev s_l_net_right : Stmt := topS 51
theorem sc_l_net_right : FnScope ["_law_parts_so", "_law_near", "_law_far", "_law_host", "_law_sum_so", "_law_tag", "_law_much_so", "_law_more", "_law_twice", "_law_due", "_law_k", "_law_one", "_law_two", "_law_turned", "_law_own"] ["_law_parts_so", "_law_near", "_law_far"] (defScope s_l_net_right) := ⟨rfl, rfl, rfl, by decide +kernel, rfl, by decide +kernel, by decide +kernel⟩
abbrev s_l_sample : Stmt := topS 50
theorem sc_l_sample : FnScope [] [] (defScope s_l_sample) := ⟨rfl, rfl, rfl, by decide +kernel, rfl, by decide +kernel, by decide +kernel⟩
abbrev s_l_by_hand_right : Stmt := topS 52
theorem sc_l_by_hand_right : FnScope ["_law_rows_so", "_law_own", "_law_near", "_law_far"] [] (defScope s_l_by_hand_right) := ⟨rfl, rfl, rfl, by decide +kernel, rfl, by decide +kernel, by decide +kernel⟩
abbrev s_l_cells : Stmt := topS 42
theorem sc_l_cells : FnScope ["_law_script", "_law_top_so", "_law_cells_so", "_law_k", "_law_cell", "_law_at_so"] ["_law_script", "_law_top_so"] (defScope s_l_cells) := ⟨rfl, rfl, rfl, by decide +kernel, rfl, by decide +kernel, by decide +kernel⟩
abbrev s_l_take : Stmt := topS 41
theorem sc_l_take : FnScope ["_law_box_here", "_law_size_so", "_law_some", "_law_once", "_law_far", "_law_again"] ["_law_box_here", "_law_size_so"] (defScope s_l_take) := ⟨rfl, rfl, rfl, by decide +kernel, rfl, by decide +kernel, by decide +kernel⟩
abbrev s_l_of : Stmt := topS 43
theorem sc_l_of : FnScope ["_law_box_here", "_law_goods_so"] ["_law_box_here", "_law_goods_so"] (defScope s_l_of) := ⟨rfl, rfl, rfl, by decide +kernel, rfl, by decide +kernel, by decide +kernel⟩
abbrev s_l_net : Stmt := topS 49
theorem sc_l_net : FnScope ["_law_box_here", "_law_many_so", "_law_sizes_so", "_law_free", "_law_names_so", "_law_found", "_law_turn", "_law_come", "_law_sort_so", "_law_to_so", "_law_rest_so", "_law_part_so"] ["_law_box_here", "_law_many_so", "_law_sizes_so"] (defScope s_l_net) := ⟨rfl, rfl, rfl, by decide +kernel, rfl, by decide +kernel, by decide +kernel⟩
abbrev s_l_right : Stmt := topS 53
theorem sc_l_right : FnScope ["_law_box_here", "_law_turn", "_law_parts_so", "_law_lap", "_law_near", "_law_far", "_law_bit"] ["_law_box_here"] (defScope s_l_right) := ⟨rfl, rfl, rfl, by decide +kernel, rfl, by decide +kernel, by decide +kernel⟩
abbrev s_law : Stmt := topS 54
theorem sc_law : FnScope ["_law_script", "_law_cells_here", "_law_k"] ["_law_script"] (defScope s_law) := ⟨rfl, rfl, rfl, by decide +kernel, rfl, by decide +kernel, by decide +kernel⟩
abbrev s_BadPart : Stmt := inClass (topS 21) 0
theorem sc_BadPart : FnScope ["self", "place"] ["self", "place"] (defScope s_BadPart) := ⟨rfl, rfl, rfl, by decide +kernel, rfl, by decide +kernel, by decide +kernel⟩
/-! ### the mirrors -/
def M_l_box : MS :=
    (mSeq (mAsg (.nm 2) (mIf (mTst (mOp (fun a b => o1 (gLt a b)) (mVar 1) (mCall gLen (mCons (mVar 0) mNil)))) (mOp (fun a b => o1 (gIx a b)) (mVar 0) (mVar 1)) (mC (.int 0))))
    (mE (mLstN (mCons (mOp (fun a b => o1 (gMulI a b)) (mCall gAbs (mCons (mVar 2) mNil)) (mCall gInt (mCons (mOp (fun a b => o1 (gGe a b)) (mCall gAbs (mCons (mVar 2) mNil)) (mOp (fun a b => o1 (gPow a b)) (mC (.int 10)) (mC (.int 18)))) mNil))) (mCons (mOp (fun a b => o1 (gAdd a b)) (mOp (fun a b => o1 (gAdd a b)) (mOp (fun a b => o1 (gMod a b)) (mCall gInt (mCons (mVar 2) mNil)) (mC (.int 2305843009213693951))) (mOp (fun a b => o1 (gMulI a b)) (mC (.int 39373)) (mVar 1))) (mC (.int 81853))) (mCons (mC (.int 0)) mNil)))) fun ds _ x => .retN ds x))
def F_l_box : MrN := mirrorN 3 M_l_box
def M_channels_made : MS :=
    (mRet (mSlice (mVar 0) (mPart (mC (.int 3))) mNoPart))
def F_channels_made : Mr := mirror 1 M_channels_made
def M_channels_taken : MS :=
    (mRet (mIf (mTst (mOp (fun a b => o1 (gEq a b)) (mOp (fun a b => o1 (gIx a b)) (mVar 0) (mC (.int 0))) (mC (.str "join")))) (mSlice (mVar 0) (mPart (mC (.int 1))) (mPart (mC (.int 3)))) (mSlice (mVar 0) (mPart (mC (.int 1))) (mPart (mC (.int 2))))))
def F_channels_taken : Mr := mirror 1 M_channels_taken
def M_p_fits : MS :=
    (mSeq (mPar 2 3 (mCons (mDef 1 F_channels_taken (mCons (mVar 0) mNil)) (mCons (mDef 1 F_channels_made (mCons (mVar 0) mNil)) mNil)))
    (mSeq (mIfS (mTOr (mTst (mOp (fun a b => o1 (gLt a b)) (mUn (fun d => o1 (gNTx d)) (mVar 2)) (mCall gLen (mCons (mVar 2) mNil)))) (mTst (mOp (fun a b => o1 (gLt a b)) (mUn (fun d => o1 (gNTx d)) (mVar 3)) (mCall gLen (mCons (mVar 3) mNil)))))
    (mRet (mC (.bl false)))
    mNext)
    (mSeq (mIfS (mTru (mCall gAny (mCons (mLc (mIter (mVar 3)) (.nm 4) mYes (mOp (fun a b => o1 (gInA false a b)) (mVar 4) (mVar 1)) [4]) mNil)))
    (mRet (mC (.bl false)))
    mNext)
    (mRet (mCall gAll (mCons (mLc (mIter (mVar 2)) (.nm 4) mYes (mGet2 (mVar 1) (mVar 4) (mC (.bl false))) [4]) mNil))))))
def F_p_fits : Mr := mirror 5 M_p_fits
def M_as_tuples (g : Mr) : MS :=
    (mSeq (mIfS (mTru (mIsi2 "list" "tuple" (mVar 0)))
    (mRet (mCall gTuple (mCons (mLc (mIter (mVar 0)) (.nm 1) mYes (mDef 1 g (mCons (mVar 1) mNil)) [1]) mNil)))
    mNext)
    (mRet (mVar 0)))
def F_as_tuples : Nat → Mr
  | 0 => fun _ _ => .out
  | n + 1 => mirror 2 (M_as_tuples (F_as_tuples n))
def M_Net___init__ : MS :=
    (mSeq (mAsg (.nm 1) (mDef 1 (F_as_tuples 12) (mCons (mVar 1) mNil)))
    (mSeq (mE (mDict [((mC (.str "in")), (mC (.bl true)))]) fun s ρ x => .nx (ρ.set 2 s) x)
    (mSeq (mFor (mBind (mCons (mVar 1) mNil) fun ds => oB (gEnumA ds)) (.tp [3, 4])
    (mSeq (mIfS (mTNot (mBorT (mTru (mDef 2 F_p_fits (mCons (mVar 4) (mCons (mVar 2) mNil))))))
    (mRaise "BadPart" "place" (mCons (mVar 3) mNil))
    mNext)
    (mSeq (mFor (mIter (mDef 1 F_channels_taken (mCons (mVar 4) mNil))) (.nm 5)
    (mSetD 2 (mVar 5) (mC (.bl false))))
    (mFor (mIter (mDef 1 F_channels_made (mCons (mVar 4) mNil))) (.nm 5)
    (mSetD 2 (mVar 5) (mC (.bl true)))))))
    (mSeq (mSetA 0 "Net" "_parts" (mVar 1))
    (mSeq (fun ρ x => (mSetA 0 "Net" "_channels" (mCall gTuple (mCons (mCall gSrtA (mCons (mVar 2) mNil)) mNil))) (lockE 2 ρ) x)
    (mSetA 0 "Net" "_outlets" (mCall gTuple (mCons (mCall gSrtA (mCons (mLc (mIterA (mVar 2)) (.nm 5) (mTru (mOp (fun a b => o1 (gSubA a b)) (mVar 2) (mVar 5))) (mVar 5) [5]) mNil)) mNil))))))))
def F_Net___init__ : MrI := mirrorI 6 "Net" M_Net___init__
def M_l_frac : MS :=
    (mSeq (mPar 2 3 (mCons (mCall gAbs (mCons (mVar 0) mNil)) (mCons (mVar 1) mNil)))
    (mSeq (mFor (mBind (mCons (mC (.int 400)) mNil) fun ds => oB (gRng ds)) (.nm 4)
    (mSeq (mIfS (mTst (mOp (fun a b => o1 (gEq a b)) (mVar 3) (mC (.int 0))))
    (fun ρ x => .brk ρ x)
    mNext)
    (mPar 2 3 (mCons (mVar 3) (mCons (mOp (fun a b => o1 (gMod a b)) (mVar 2) (mVar 3)) mNil)))))
    (mRet (mTup (mCons (mOp (fun a b => o1 (gDiv a b)) (mVar 0) (mVar 2)) (mCons (mOp (fun a b => o1 (gDiv a b)) (mVar 1) (mVar 2)) mNil))))))
def F_l_frac : Mr := mirror 5 M_l_frac
def M_l_add : MS :=
    (mRet (mDef 2 F_l_frac (mCons (mOp (fun a b => o1 (gAdd a b)) (mOp (fun a b => o1 (gMulI a b)) (mOp (fun a b => o1 (gIx a b)) (mVar 0) (mC (.int 0))) (mOp (fun a b => o1 (gIx a b)) (mVar 1) (mC (.int 1)))) (mOp (fun a b => o1 (gMulI a b)) (mOp (fun a b => o1 (gIx a b)) (mVar 1) (mC (.int 0))) (mOp (fun a b => o1 (gIx a b)) (mVar 0) (mC (.int 1))))) (mCons (mOp (fun a b => o1 (gMulI a b)) (mOp (fun a b => o1 (gIx a b)) (mVar 0) (mC (.int 1))) (mOp (fun a b => o1 (gIx a b)) (mVar 1) (mC (.int 1)))) mNil))))
def F_l_add : Mr := mirror 2 M_l_add
def M_l_low : MS :=
    (mRet (mOp (fun a b => o1 (gLt a b)) (mOp (fun a b => o1 (gMulI a b)) (mOp (fun a b => o1 (gIx a b)) (mVar 0) (mC (.int 0))) (mOp (fun a b => o1 (gIx a b)) (mVar 1) (mC (.int 1)))) (mOp (fun a b => o1 (gMulI a b)) (mOp (fun a b => o1 (gIx a b)) (mVar 1) (mC (.int 0))) (mOp (fun a b => o1 (gIx a b)) (mVar 0) (mC (.int 1))))))
def F_l_low : Mr := mirror 2 M_l_low
def M_l_mul : MS :=
    (mRet (mDef 2 F_l_frac (mCons (mOp (fun a b => o1 (gMulI a b)) (mOp (fun a b => o1 (gIx a b)) (mVar 0) (mC (.int 0))) (mOp (fun a b => o1 (gIx a b)) (mVar 1) (mC (.int 0)))) (mCons (mOp (fun a b => o1 (gMulI a b)) (mOp (fun a b => o1 (gIx a b)) (mVar 0) (mC (.int 1))) (mOp (fun a b => o1 (gIx a b)) (mVar 1) (mC (.int 1)))) mNil))))
def F_l_mul : Mr := mirror 2 M_l_mul
def M_l_same (g : Mr) : MS :=
    (mSeq (mIfS (mTru (mIsi2 "list" "tuple" (mVar 1)))
    (mSeq (mIfS (mTst (mOp (fun a b => o1 (gNe a b)) (mIsi "list" (mVar 0)) (mIsi "list" (mVar 1))))
    (mRet (mC (.bl false)))
    mNext)
    (mSeq (mIfS (mTst (mOp (fun a b => o1 (gNe a b)) (mIsi "tuple" (mVar 0)) (mIsi "tuple" (mVar 1))))
    (mRet (mC (.bl false)))
    mNext)
    (mRet (mAndV (mOp (fun a b => o1 (gEq a b)) (mCall gLen (mCons (mVar 0) mNil)) (mCall gLen (mCons (mVar 1) mNil))) (mCall gAll (mCons (mLc (mBind (mCons (mVar 0) (mCons (mVar 1) mNil)) fun ds => oB (gZip ds)) (.tp [2, 3]) mYes (mDef 2 g (mCons (mVar 2) (mCons (mVar 3) mNil))) [2, 3]) mNil))))))
    mNext)
    (mSeq (mIfS (mTOr (mTst (mOp (fun a b => o1 (gIsN a b)) (mVar 1) (mC .non))) (mTru (mIsi2 "bool" "str" (mVar 1))))
    (mRet (mAndV (mOp (fun a b => o1 (gEq a b)) (mVar 0) (mVar 1)) (mAndV (mOp (fun a b => o1 (gEq a b)) (mIsi "bool" (mVar 0)) (mIsi "bool" (mVar 1))) (mOp (fun a b => o1 (gEq a b)) (mOp (fun a b => o1 (gIsN a b)) (mVar 0) (mC .non)) (mOp (fun a b => o1 (gIsN a b)) (mVar 1) (mC .non))))))
    mNext)
    (mRet (mAndV (mIsi "int" (mVar 0)) (mAndV (mNotV (mIsi "bool" (mVar 0))) (mOp (fun a b => o1 (gEq a b)) (mVar 0) (mVar 1)))))))
def F_l_same : Nat → Mr
  | 0 => fun _ _ => .out
  | n + 1 => mirror 4 (M_l_same (F_l_same n))
def M_Net_outlets : MS :=
    (mRet (mBind (mVar 0) fun d => o1 (gFld "Net" "_outlets" d)))
def F_Net_outlets : Mr := mirror 1 M_Net_outlets
def M_Net_parts : MS :=
    (mRet (mBind (mVar 0) fun d => o1 (gFld "Net" "_parts" d)))
def F_Net_parts : Mr := mirror 1 M_Net_parts
def M_is_less : MS :=
    (mRet (mOp (fun a b => o1 (gLt a b)) (mOp (fun a b => o1 (gMulI a b)) (mOp (fun a b => o1 (gIx a b)) (mVar 0) (mC (.int 0))) (mOp (fun a b => o1 (gIx a b)) (mVar 1) (mC (.int 1)))) (mOp (fun a b => o1 (gMulI a b)) (mOp (fun a b => o1 (gIx a b)) (mVar 1) (mC (.int 0))) (mOp (fun a b => o1 (gIx a b)) (mVar 0) (mC (.int 1))))))
def F_is_less : Mr := mirror 2 M_is_less
def M_lesser : MS :=
    (mRet (mIf (mTru (mDef 2 F_is_less (mCons (mVar 0) (mCons (mVar 1) mNil)))) (mVar 0) (mVar 1)))
def F_lesser : Mr := mirror 2 M_lesser
def M_p_lowest : MS :=
    (mSeq (mAsg (.nm 2) (mCall gGcd (mCons (mVar 0) (mCons (mVar 1) mNil))))
    (mRet (mTup (mCons (mOp (fun a b => o1 (gDiv a b)) (mVar 0) (mVar 2)) (mCons (mOp (fun a b => o1 (gDiv a b)) (mVar 1) (mVar 2)) mNil)))))
def F_p_lowest : Mr := mirror 3 M_p_lowest
def M_minus : MS :=
    (mRet (mDef 2 F_p_lowest (mCons (mOp (fun a b => o1 (gSub a b)) (mOp (fun a b => o1 (gMulI a b)) (mOp (fun a b => o1 (gIx a b)) (mVar 0) (mC (.int 0))) (mOp (fun a b => o1 (gIx a b)) (mVar 1) (mC (.int 1)))) (mOp (fun a b => o1 (gMulI a b)) (mOp (fun a b => o1 (gIx a b)) (mVar 1) (mC (.int 0))) (mOp (fun a b => o1 (gIx a b)) (mVar 0) (mC (.int 1))))) (mCons (mOp (fun a b => o1 (gMulI a b)) (mOp (fun a b => o1 (gIx a b)) (mVar 0) (mC (.int 1))) (mOp (fun a b => o1 (gIx a b)) (mVar 1) (mC (.int 1)))) mNil))))
def F_minus : Mr := mirror 2 M_minus
def M_plus : MS :=
    (mRet (mDef 2 F_p_lowest (mCons (mOp (fun a b => o1 (gAdd a b)) (mOp (fun a b => o1 (gMulI a b)) (mOp (fun a b => o1 (gIx a b)) (mVar 0) (mC (.int 0))) (mOp (fun a b => o1 (gIx a b)) (mVar 1) (mC (.int 1)))) (mOp (fun a b => o1 (gMulI a b)) (mOp (fun a b => o1 (gIx a b)) (mVar 1) (mC (.int 0))) (mOp (fun a b => o1 (gIx a b)) (mVar 0) (mC (.int 1))))) (mCons (mOp (fun a b => o1 (gMulI a b)) (mOp (fun a b => o1 (gIx a b)) (mVar 0) (mC (.int 1))) (mOp (fun a b => o1 (gIx a b)) (mVar 1) (mC (.int 1)))) mNil))))
def F_plus : Mr := mirror 2 M_plus
def M_times : MS :=
    (mRet (mDef 2 F_p_lowest (mCons (mOp (fun a b => o1 (gMulI a b)) (mOp (fun a b => o1 (gIx a b)) (mVar 0) (mC (.int 0))) (mOp (fun a b => o1 (gIx a b)) (mVar 1) (mC (.int 0)))) (mCons (mOp (fun a b => o1 (gMulI a b)) (mOp (fun a b => o1 (gIx a b)) (mVar 0) (mC (.int 1))) (mOp (fun a b => o1 (gIx a b)) (mVar 1) (mC (.int 1)))) mNil))))
def F_times : Mr := mirror 2 M_times
def M_p_amounts : MS :=
    (mSeq (mE (mDict [((mC (.str "in")), (mDef 1 (F_as_tuples 12) (mCons (mVar 1) mNil)))]) fun s ρ x => .nx (ρ.set 2 s) x)
    (mSeq (mFor (mIter (mProp "Net" F_Net_parts (mVar 0))) (.nm 3)
    (mIfS (mTst (mOp (fun a b => o1 (gEq a b)) (mOp (fun a b => o1 (gIx a b)) (mVar 3) (mC (.int 0))) (mC (.str "join"))))
    (mSeq (mAsg (.tp [4, 5, 6, 7]) (mVar 3))
    (mSetD 2 (mVar 7) (mDef 2 F_plus (mCons (mGetO 2 (mVar 5)) (mCons (mGetO 2 (mVar 6)) mNil)))))
    (mSeq (mAsg (.tp [8, 5, 9, 7, 10]) (mVar 3))
    (mSeq (mAsg (.nm 11) (mGetO 2 (mVar 5)))
    (mSeq (mSetD 2 (mVar 7) (mIf (mTst (mOp (fun a b => o1 (gEq a b)) (mVar 8) (mC (.str "weir")))) (mDef 2 F_lesser (mCons (mVar 11) (mCons (mVar 9) mNil))) (mDef 2 F_times (mCons (mVar 11) (mCons (mVar 9) mNil)))))
    (mSetD 2 (mVar 10) (mDef 2 F_minus (mCons (mVar 11) (mCons (mGetO 2 (mVar 7)) mNil)))))))))
    (fun ρ x => (mRet (mVar 2)) (lockE 2 ρ) x)))
def F_p_amounts : Mr := mirror 12 M_p_amounts
def M_flow : MS :=
    (mSeq (mAsg (.nm 2) (mDef 2 F_p_amounts (mCons (mVar 0) (mCons (mVar 1) mNil))))
    (mRet (mCall gTuple (mCons (mLc (mIter (mProp "Net" F_Net_outlets (mVar 0))) (.nm 3) mYes (mTup (mCons (mVar 3) (mCons (mOp (fun a b => o1 (gSubA a b)) (mVar 2) (mVar 3)) mNil))) [3]) mNil))))
def F_flow : Mr := mirror 4 M_flow
def M_walked : MS :=
    (mSeq (mAsg (.nm 2) (mDef 2 F_p_amounts (mCons (mVar 0) (mCons (mVar 1) mNil))))
    (mRet (mCall gTuple (mCons (mBind (mVar 2) fun d => o1 (gSortIt d)) mNil))))
def F_walked : Mr := mirror 3 M_walked
def M_walked_x : MS :=
    (mSeq (mAsg (.nm 2) (mDef 2 F_p_amounts (mCons (mVar 0) (mCons (mVar 1) mNil))))
    (mRet (mCall gTupX (mCons (mBind (mVar 2) fun d => o1 (gSortIt d)) mNil))))
def F_walked_x : Mr := mirror 3 M_walked_x
def M_l_net_right : MS :=
    (mSeq (mPar 3 4 (mCons (mMake "Net" 1 F_Net___init__ (mCons (mVar 0) mNil)) (mCons (mTup (mCons (mC (.int 0)) (mCons (mC (.int 1)) mNil))) mNil)))
    (mSeq (mFor (mIter (mDef 2 F_flow (mCons (mVar 3) (mCons (mVar 1) mNil)))) (.tp [5, 6])
    (mAsg (.nm 4) (mDef 2 F_l_add (mCons (mVar 4) (mCons (mVar 6) mNil)))))
    (mSeq (mIfS (mTst (mOp (fun a b => o1 (gNe a b)) (mVar 4) (mVar 1)))
    (mRet (mC (.bl false)))
    mNext)
    (mSeq (mAsg (.nm 7) (mCall gDictX (mCons (mDef 2 F_walked_x (mCons (mVar 3) (mCons (mDef 2 F_l_add (mCons (mVar 1) (mCons (mVar 2) mNil))) mNil))) mNil)))
    (mSeq (mIfS (mTst (mOp (fun a b => o1 (gNe a b)) (mLc (mIter (mDef 2 F_walked (mCons (mVar 3) (mCons (mVar 1) mNil)))) (.tp [5, 6]) (mTru (mDef 2 F_l_low (mCons (mOp (fun a b => o1 (gSubA a b)) (mVar 7) (mVar 5)) (mCons (mVar 6) mNil)))) (mVar 5) [5, 6]) (mLst mNil)))
    (mRet (mC (.bl false)))
    mNext)
    (mSeq (mAsg (.nm 8) (mLc (mIter (mVar 0)) (.nm 14) mYes (mIf (mTst (mOp (fun a b => o1 (gEq a b)) (mOp (fun a b => o1 (gIx a b)) (mVar 14) (mC (.int 0))) (mC (.str "weir")))) (mOp (fun a b => o1 (gAdd a b)) (mOp (fun a b => o1 (gAdd a b)) (mSlice (mVar 14) mNoPart (mPart (mC (.int 2)))) (mTup (mCons (mDef 2 F_l_mul (mCons (mOp (fun a b => o1 (gIx a b)) (mVar 14) (mC (.int 2))) (mCons (mTup (mCons (mC (.int 2)) (mCons (mC (.int 1)) mNil))) mNil))) mNil))) (mSlice (mVar 14) (mPart (mC (.int 3))) mNoPart)) (mVar 14)) [14]))
    (mSeq (mAsg (.nm 9) (mCall gTuple (mCons (mLc (mIter (mDef 2 F_walked (mCons (mVar 3) (mCons (mVar 1) mNil)))) (.tp [5, 6]) mYes (mTup (mCons (mVar 5) (mCons (mDef 2 F_l_mul (mCons (mVar 6) (mCons (mTup (mCons (mC (.int 2)) (mCons (mC (.int 1)) mNil))) mNil))) mNil))) [5, 6]) mNil)))
    (mSeq (mIfS (mTNot (mTru (mDef 2 (F_l_same 12) (mCons (mDef 2 F_walked (mCons (mMake "Net" 1 F_Net___init__ (mCons (mCall gTuple (mCons (mVar 8) mNil)) mNil)) (mCons (mDef 2 F_l_mul (mCons (mVar 1) (mCons (mTup (mCons (mC (.int 2)) (mCons (mC (.int 1)) mNil))) mNil))) mNil))) (mCons (mVar 9) mNil)))))
    (mRet (mC (.bl false)))
    mNext)
    (mSeq (mFor (mBind (mCons (mOp (fun a b => o1 (gSub a b)) (mCall gLen (mCons (mVar 0) mNil)) (mC (.int 1))) mNil) fun ds => oB (gRng ds)) (.nm 10)
    (mSeq (mPar 11 12 (mCons (mOp (fun a b => o1 (gIx a b)) (mVar 0) (mVar 10)) (mCons (mOp (fun a b => o1 (gIx a b)) (mVar 0) (mOp (fun a b => o1 (gAdd a b)) (mVar 10) (mC (.int 1)))) mNil)))
    (mIfS (mTAnd (mTst (mOp (fun a b => o1 (gIn true a b)) (mOp (fun a b => o1 (gIx a b)) (mVar 12) (mC (.int 1))) (mSlice (mVar 11) (mPart (mC (.int 3))) mNoPart))) (mTst (mOp (fun a b => o1 (gInT true a b)) (mOp (fun a b => o1 (gIx a b)) (mVar 12) (mC (.int 2))) (mSlice (mVar 11) (mPart (mC (.int 3))) mNoPart))))
    (mSeq (mAsg (.nm 13) (mOp (fun a b => o1 (gAdd a b)) (mOp (fun a b => o1 (gAdd a b)) (mSlice (mVar 0) mNoPart (mPart (mVar 10))) (mTup (mCons (mVar 12) (mCons (mVar 11) mNil)))) (mSlice (mVar 0) (mPart (mOp (fun a b => o1 (gAdd a b)) (mVar 10) (mC (.int 2)))) mNoPart)))
    (mIfS (mTNot (mTru (mDef 2 (F_l_same 12) (mCons (mDef 2 F_walked (mCons (mMake "Net" 1 F_Net___init__ (mCons (mVar 13) mNil)) (mCons (mVar 1) mNil))) (mCons (mDef 2 F_walked (mCons (mVar 3) (mCons (mVar 1) mNil))) mNil)))))
    (mRet (mC (.bl false)))
    mNext))
    mNext)))
    (mRet (mC (.bl true))))))))))))
def F_l_net_right : Mr := mirror 15 M_l_net_right
def M_l_sample : MS :=
    (mRet (mTup (mCons (mTup (mCons (mC (.str "weir")) (mCons (mC (.str "in")) (mCons (mTup (mCons (mC (.int 3)) (mCons (mC (.int 1)) mNil))) (mCons (mC (.str "a")) (mCons (mC (.str "r")) mNil)))))) (mCons (mTup (mCons (mC (.str "divide")) (mCons (mC (.str "r")) (mCons (mTup (mCons (mC (.int 1)) (mCons (mC (.int 2)) mNil))) (mCons (mC (.str "s")) (mCons (mC (.str "t")) mNil)))))) (mCons (mTup (mCons (mC (.str "join")) (mCons (mC (.str "a")) (mCons (mC (.str "s")) (mCons (mC (.str "j")) mNil))))) (mCons (mTup (mCons (mC (.str "weir")) (mCons (mC (.str "j")) (mCons (mTup (mCons (mC (.int 5)) (mCons (mC (.int 1)) mNil))) (mCons (mC (.str "p")) (mCons (mC (.str "u")) mNil)))))) (mCons (mTup (mCons (mC (.str "join")) (mCons (mC (.str "u")) (mCons (mC (.str "t")) (mCons (mC (.str "q")) mNil))))) mNil)))))))
def F_l_sample : Mr := mirror 0 M_l_sample
def M_l_by_hand_right : MS :=
    (mSeq (mAsg (.nm 0) (mLst (mCons (mTup mNil) (mCons (mDef0 0 F_l_sample mNil) (mCons (mTup (mCons (mTup (mCons (mC (.str "weir")) (mCons (mC (.str "in")) (mCons (mTup (mCons (mC (.int 0)) (mCons (mC (.int 1)) mNil))) (mCons (mC (.str "a")) (mCons (mC (.str "b")) mNil)))))) (mCons (mTup (mCons (mC (.str "divide")) (mCons (mC (.str "a")) (mCons (mTup (mCons (mC (.int 1)) (mCons (mC (.int 3)) mNil))) (mCons (mC (.str "c")) (mCons (mC (.str "d")) mNil)))))) (mCons (mTup (mCons (mC (.str "weir")) (mCons (mC (.str "b")) (mCons (mTup (mCons (mC (.int 5)) (mCons (mC (.int 2)) mNil))) (mCons (mC (.str "e")) (mCons (mC (.str "f")) mNil)))))) mNil)))) mNil)))))
    (mSeq (mFor (mIter (mVar 0)) (.nm 1)
    (mFor (mIter (mTup (mCons (mTup (mCons (mTup (mCons (mC (.int 0)) (mCons (mC (.int 1)) mNil))) (mCons (mTup (mCons (mC (.int 1)) (mCons (mC (.int 1)) mNil))) mNil))) (mCons (mTup (mCons (mTup (mCons (mC (.int 7)) (mCons (mC (.int 1)) mNil))) (mCons (mTup (mCons (mC (.int 1)) (mCons (mC (.int 7)) mNil))) mNil))) (mCons (mTup (mCons (mTup (mCons (mOp (fun a b => o1 (gSub a b)) (mOp (fun a b => o1 (gMulI a b)) (mC (.int 5)) (mOp (fun a b => o1 (gPow a b)) (mC (.int 10)) (mC (.int 11)))) (mC (.int 1))) (mCons (mC (.int 1)) mNil))) (mCons (mTup (mCons (mC (.int 1)) (mCons (mC (.int 2)) mNil))) mNil))) (mCons (mTup (mCons (mTup (mCons (mC (.int 5)) (mCons (mC (.int 2)) mNil))) (mCons (mTup (mCons (mC (.int 0)) (mCons (mC (.int 1)) mNil))) mNil))) mNil)))))) (.tp [2, 3])
    (mIfS (mTNot (mTru (mDef 3 F_l_net_right (mCons (mVar 1) (mCons (mVar 2) (mCons (mVar 3) mNil))))))
    (mRet (mC (.bl false)))
    mNext)))
    (mRet (mC (.bl true)))))
def F_l_by_hand_right : Mr := mirror 4 M_l_by_hand_right
def M_l_cells : MS :=
    (mSeq (mE (mOrN (mBind (mCons (mSlice (mVar 0) mNoPart (mPart (mVar 1))) mNil) fun ds => oB (gListN ds)) (mLstN (mCons (mC (.int 0)) mNil))) fun ds ρ x => .nx (ρ.set 2 (.ol ds)) x)
    (mSeq (mFor (mBind (mCons (mSlice (mVar 0) (mPart (mVar 1)) (mPart (mC (.int 63)))) mNil) fun ds => oB (gEnumA ds)) (.tp [3, 4])
    (mSeq (mAsg (.nm 5) (mOp (fun a b => o1 (gMod a b)) (mCall gInt (mCons (mVar 3) mNil)) (mVar 1)))
    (mSetI 2 (mVar 5) (mOp (fun a b => o1 (gAdd a b)) (mIxO 2 (mVar 5)) (mOp (fun a b => o1 (gMulI a b)) (mVar 4) (mOp (fun a b => o1 (gAdd a b)) (mVar 3) (mC (.int 2))))))))
    (fun ρ x => (mRet (mVar 2)) (frzS allS ρ) x)))
def F_l_cells : Mr := mirror 6 M_l_cells
def M_l_take : MS :=
    (mSeq (mIfS (mTst (mOp (fun a b => o1 (gGt a b)) (mOp gItem (mVar 0) (mC (.int 0))) (mC (.int 0))))
    (mSeq (mAsg (.nm 2) (mOp (fun a b => o1 (gMod a b)) (mCall gInt (mCons (mOp gItem (mVar 0) (mC (.int 0))) mNil)) (mVar 1)))
    (mSeq (mSetB 0 (mC (.int 0)) (mOp (fun a b => o1 (gDiv a b)) (mOp gItem (mVar 0) (mC (.int 0))) (mVar 1)))
    (mRet (mVar 2))))
    mNext)
    (mSeq (mSetB 0 (mC (.int 2)) (mOp (fun a b => o1 (gAdd a b)) (mOp gItem (mVar 0) (mC (.int 2))) (mC (.int 1))))
    (mSeq (mAsg (.nm 3) (mOp (fun a b => o1 (gMod a b)) (mCall gInt (mCons (mOp (fun a b => o1 (gMulI a b)) (mOp (fun a b => o1 (gAdd a b)) (mOp gItem (mVar 0) (mC (.int 1))) (mOp (fun a b => o1 (gMulI a b)) (mC (.int 48271)) (mOp gItem (mVar 0) (mC (.int 2))))) (mOp (fun a b => o1 (gAdd a b)) (mC (.int 39373)) (mOp gItem (mVar 0) (mC (.int 2))))) mNil)) (mC (.int 2147483647))))
    (mSeq (mAsg (.nm 4) (mOp (fun a b => o1 (gAdd a b)) (mOp (fun a b => o1 (gMod a b)) (mCall gInt (mCons (mVar 3) mNil)) (mC (.int 40009))) (mC (.int 7))))
    (mSeq (mAsg (.nm 5) (mOp (fun a b => o1 (gMod a b)) (mCall gInt (mCons (mOp (fun a b => o1 (gMulI a b)) (mOp (fun a b => o1 (gAdd a b)) (mOp (fun a b => o1 (gAdd a b)) (mVar 3) (mOp gItem (mVar 0) (mC (.int 2)))) (mOp (fun a b => o1 (gDiv a b)) (mOp gItem (mVar 0) (mC (.int 1))) (mC (.int 1000003)))) (mVar 4)) mNil)) (mC (.int 2147483629))))
    (mRet (mOp (fun a b => o1 (gMod a b)) (mCall gInt (mCons (mOp (fun a b => o1 (gDiv a b)) (mOp (fun a b => o1 (gMod a b)) (mCall gInt (mCons (mOp (fun a b => o1 (gAdd a b)) (mOp (fun a b => o1 (gMulI a b)) (mVar 5) (mC (.int 48271))) (mVar 3)) mNil)) (mC (.int 2147483587))) (mC (.int 64))) mNil)) (mVar 1))))))))
def F_l_take : Mr := mirror 6 M_l_take
def M_l_of : MS :=
    (mRet (mOp (fun a b => o1 (gIx a b)) (mVar 1) (mDef 2 F_l_take (mCons (mVar 0) (mCons (mCall gLen (mCons (mVar 1) mNil)) mNil)))))
def F_l_of : Mr := mirror 2 M_l_of
def M_l_net : MS :=
    (mSeq (mParG (.l (mLstN (mCons (mC (.str "in")) mNil))) [.l (mLstN (mCons (mC (.str "b")) (mCons (mC (.str "a")) (mCons (mC (.str "pond")) (mCons (mC (.str "c")) (mCons (mC (.str "ditch")) (mCons (mC (.str "x")) (mCons (mC (.str "y")) (mCons (mC (.str "z")) (mCons (mC (.str "well")) (mCons (mC (.str "e")) (mCons (mC (.str "f")) (mCons (mC (.str "g")) mNil))))))))))))), .l (mLstN mNil)] [3, 4, 5])
    (mSeq (mFor (mBind (mCons (mDef 2 F_l_take (mCons (mVar 0) (mCons (mOp (fun a b => o1 (gAdd a b)) (mVar 1) (mC (.int 1))) mNil))) mNil) fun ds => oB (gRng ds)) (.nm 6)
    (mSeq (mParP 7 8 (pCons (pPop 3 (pLift (mDef 2 F_l_take (mCons (mVar 0) (mCons (mBor (mCall gLen (mCons (mVar 3) mNil))) mNil))))) (pCons (pLift (mDef 2 F_l_take (mCons (mVar 0) (mCons (mC (.int 3)) mNil)))) pNil)))
    (mSeq (mAsgP (.nm 9) (pPop 4 (pLift (mDef 2 F_l_take (mCons (mVar 0) (mCons (mBor (mCall gLen (mCons (mVar 4) mNil))) mNil))))))
    (mIfS (mTAnd (mTst (mOp (fun a b => o1 (gEq a b)) (mVar 8) (mC (.int 2)))) (mBorT (mTst (mOp (fun a b => o1 (gNe a b)) (mVar 3) (mLst mNil)))))
    (mSeq (mAppP 5 (pTup (pCons (pLift (mC (.str "join"))) (pCons (pLift (mVar 7)) (pCons (pPop 3 (pLift (mDef 2 F_l_take (mCons (mVar 0) (mCons (mBor (mCall gLen (mCons (mVar 3) mNil))) mNil))))) (pCons (pLift (mVar 9)) pNil))))))
    (mApp 3 (mVar 9)))
    (mSeq (mAsgP (.nm 10) (pPop 4 (pLift (mDef 2 F_l_take (mCons (mVar 0) (mCons (mBor (mCall gLen (mCons (mVar 4) mNil))) mNil))))))
    (mSeq (mAsg (.nm 11) (mIf (mTst (mOp (fun a b => o1 (gEq a b)) (mVar 8) (mC (.int 1)))) (mDef 2 F_l_frac (mCons (mDef 2 F_l_take (mCons (mVar 0) (mCons (mC (.int 7)) mNil))) (mCons (mC (.int 6)) mNil))) (mDef 2 F_l_frac (mCons (mDef 2 F_l_of (mCons (mVar 0) (mCons (mVar 2) mNil))) (mCons (mOp (fun a b => o1 (gAdd a b)) (mC (.int 1)) (mDef 2 F_l_take (mCons (mVar 0) (mCons (mC (.int 2)) mNil)))) mNil)))))
    (mSeq (mApp 5 (mTup (mCons (mOp (fun a b => o1 (gIx a b)) (mLst (mCons (mC (.str "weir")) (mCons (mC (.str "divide")) (mCons (mC (.str "weir")) mNil)))) (mVar 8)) (mCons (mVar 7) (mCons (mVar 11) (mCons (mVar 9) (mCons (mVar 10) mNil)))))))
    (fun ρ x => (mE (mBind (mVar 3) fun a => mBind (mLst (mCons (mVar 9) (mCons (mVar 10) mNil))) fun b => oB (gCatN a b)) fun ds ρ x => .nx (ρ.set 3 (.ol ds)) x) (frzS (fun i => i == 3) ρ) x))))))))
    (fun ρ x => (mRet (mTup (mCons (mCall gTuple (mCons (mVar 5) mNil)) (mCons (mCall gTuple (mCons (mCall gSrtA (mCons (mVar 3) mNil)) mNil)) mNil)))) (frzS allS ρ) x)))
def F_l_net : Mr := mirror 12 M_l_net
def M_l_right : MS :=
    (mSeq (mFor (mBind (mCons (mC (.int 8)) mNil) fun ds => oB (gRng ds)) (.nm 1)
    (mSeq (mAsg (.nm 2) (mOp (fun a b => o1 (gIx a b)) (mDef 3 F_l_net (mCons (mVar 0) (mCons (mC (.int 5)) (mCons (mDef 2 F_l_of (mCons (mVar 0) (mCons (mLst (mCons (mLst (mCons (mC (.int 0)) (mCons (mC (.int 1)) (mCons (mC (.int 2)) (mCons (mC (.int 3)) mNil))))) (mCons (mLst (mCons (mC (.int 3)) (mCons (mC (.int 8)) (mCons (mC (.int 20)) mNil)))) mNil))) mNil))) mNil)))) (mC (.int 0))))
    (mFor (mBind (mCons (mC (.int 2)) mNil) fun ds => oB (gRng ds)) (.nm 3)
    (mSeq (mAsg (.tp [4, 5]) (mLc (mBind (mCons (mC (.int 2)) mNil) fun ds => oB (gRng ds)) (.nm 6) mYes (mDef 2 F_l_frac (mCons (mDef 2 F_l_take (mCons (mVar 0) (mCons (mC (.int 40)) mNil))) (mCons (mOp (fun a b => o1 (gAdd a b)) (mC (.int 1)) (mDef 2 F_l_take (mCons (mVar 0) (mCons (mC (.int 4)) mNil)))) mNil))) [6]))
    (mIfS (mTNot (mTru (mDef 3 F_l_net_right (mCons (mVar 2) (mCons (mVar 4) (mCons (mVar 5) mNil))))))
    (mRet (mC (.bl false)))
    mNext)))))
    (mRet (mC (.bl true))))
def F_l_right : Mr := mirror 7 M_l_right
def M_law : MS :=
    (mSeq (mAsg (.nm 1) (mDef 2 F_l_cells (mCons (mVar 0) (mCons (mC (.int 3)) mNil))))
    (mRet (mAndV (mDef0 0 F_l_by_hand_right mNil) (mCall gAll (mCons (mLc (mBind (mCons (mCall gLen (mCons (mVar 1) mNil)) mNil) fun ds => oB (gRng ds)) (.nm 2) mYes (mDefB F_l_right (mDefN 2 F_l_box (mCons (mVar 1) (mCons (mVar 2) mNil)))) [2]) mNil)))))
def F_law : Mr := mirror 3 M_law
/-! ### each def keeps its mirror -/
structure TF (K : PySem.W.Frag) (mg : Str → Option Value) : Prop where
  n_abs : mg "abs" = none
  n_all : mg "all" = none
  n_any : mg "any" = none
  n_bool : mg "bool" = none
  n_dict : mg "dict" = none
  n_enumerate : mg "enumerate" = none
  n_int : mg "int" = none
  n_isinstance : mg "isinstance" = none
  n_len : mg "len" = none
  n_list : mg "list" = none
  n_range : mg "range" = none
  n_set : mg "set" = none
  n_sorted : mg "sorted" = none
  n_str : mg "str" = none
  n_tuple : mg "tuple" = none
  n_zip : mg "zip" = none
  g_gcd : mg "gcd" = some (.builtin "math.gcd")
theorem bb_abs : bootBuiltins "abs" = some (.builtin "abs") := by decide +kernel
theorem bb_all : bootBuiltins "all" = some (.builtin "all") := by decide +kernel
theorem bb_any : bootBuiltins "any" = some (.builtin "any") := by decide +kernel
theorem bb_bool : bootBuiltins "bool" = some (.type "bool") := by decide +kernel
theorem bb_dict : bootBuiltins "dict" = some (.type "dict") := by decide +kernel
theorem bb_enumerate : bootBuiltins "enumerate" = some (.type "enumerate") := by decide +kernel
theorem bb_int : bootBuiltins "int" = some (.type "int") := by decide +kernel
theorem bb_isinstance : bootBuiltins "isinstance" = some (.builtin "isinstance") := by decide +kernel
theorem bb_len : bootBuiltins "len" = some (.builtin "len") := by decide +kernel
theorem bb_list : bootBuiltins "list" = some (.type "list") := by decide +kernel
theorem bb_range : bootBuiltins "range" = some (.type "range") := by decide +kernel
theorem bb_set : bootBuiltins "set" = some (.type "set") := by decide +kernel
theorem bb_sorted : bootBuiltins "sorted" = some (.builtin "sorted") := by decide +kernel
theorem bb_str : bootBuiltins "str" = some (.type "str") := by decide +kernel
theorem bb_tuple : bootBuiltins "tuple" = some (.type "tuple") := by decide +kernel
theorem bb_zip : bootBuiltins "zip" = some (.type "zip") := by decide +kernel
section
variable {P : Program} {w : World} {K : PySem.W.Frag}
  {mg : Str → Option Value} {base : Heap}
theorem ok_BadPart {fd : FuncData} (F : Fun K "__init__" "BadPart.__init__" s_BadPart (He.ma K (He.ga K "BadPart") "__init__") fd) (T : OexC K (He.ga K "BadPart")) (nf : PySem.W.findIn K (.ref (He.ga K "BadPart")) "place" = some none) : FnOk P w K mg base CX0 1 (He.ma K (He.ga K "BadPart") "__init__") fd ["self", "place"] (spI (He.ga K "BadPart") "place") :=
  init_ok F sc_BadPart T nf fun cdv A outer s H E => ⟨_, pss_one (ps_ost (pv 0) (pv 1)), fun _ _ _ h => h⟩
theorem ok_l_box (T : TF K mg) (R : RawD K mg "_law_box" s_l_box ["_law_script", "_law_k"]) : OkN P w K mg base 1 "_law_box" ["_law_script", "_law_k"] F_l_box := by
  have nd := sc_l_box.nd
  refine okN (k := 0) (n := 3) (m := M_l_box) R sc_l_box rfl rfl fun _ cdv A outer s H E hr => ?_
  exact (js_cons (js_asg (j_ifExp (jt_lt (j_var 1) (j_callB cr_len real_len (by rfl) T.n_len bb_len (j_acons (j_var 0) j_anil))) (j_subP (j_var 0) (j_var 1)) j_int) (jg_nm 2 nd))
    (js_one (js_retL (jn_lst (j_acons (j_mulI (j_callB call_abs real_abs (by rfl) T.n_abs bb_abs (j_acons (j_var 2) j_anil)) (j_callTy cr_int real_int (by rfl) T.n_int bb_int (j_acons (j_ge (j_callB call_abs real_abs (by rfl) T.n_abs bb_abs (j_acons (j_var 2) j_anil)) (j_pow j_int j_int)) j_anil))) (j_acons (j_add (j_add (j_mod (j_callTy cr_int real_int (by rfl) T.n_int bb_int (j_acons (j_var 2) j_anil)) j_int) (j_mulI j_int (j_var 1))) j_int) (j_acons j_int j_anil)))))))
theorem ok_channels_made (T : TF K mg) (R : RawD K mg "channels_made" s_channels_made ["part"]) : OkD P w K mg base 1 "channels_made" ["part"] F_channels_made := by
  have nd := sc_channels_made.nd
  refine okD (k := 0) (n := 1) (m := M_channels_made) R sc_channels_made rfl rfl fun _ cdv A outer s H E hr => ?_
  exact (js_one (js_ret (j_slice (j_var 0) (j_part j_int) j_noPart)))
theorem ok_channels_taken (T : TF K mg) (R : RawD K mg "channels_taken" s_channels_taken ["part"]) : OkD P w K mg base 1 "channels_taken" ["part"] F_channels_taken := by
  have nd := sc_channels_taken.nd
  refine okD (k := 0) (n := 1) (m := M_channels_taken) R sc_channels_taken rfl rfl fun _ cdv A outer s H E hr => ?_
  exact (js_one (js_ret (j_ifExp (jt_eq hr (j_subP (j_var 0) j_int) j_str) (j_slice (j_var 0) (j_part j_int) (j_part j_int)) (j_slice (j_var 0) (j_part j_int) (j_part j_int)))))
theorem ok_p_fits (T : TF K mg) (R : RawD K mg "_fits" s_p_fits ["part", "free"]) (O_channels_made : OkD P w K mg base 1 "channels_made" ["part"] F_channels_made) (O_channels_taken : OkD P w K mg base 1 "channels_taken" ["part"] F_channels_taken) : OkD P w K mg base 2 "_fits" ["part", "free"] F_p_fits := by
  have nd := sc_p_fits.nd
  refine okD (k := 1) (n := 5) (m := M_p_fits) R sc_p_fits rfl rfl fun _ cdv A outer s H E hr => ?_
  exact (js_cons (js_par (i := 2) (j := 3) rfl nd (by decide) (j_acons (j_callD O_channels_taken (hr.mono (by decide)) (takes_of rfl rfl rfl rfl) (j_acons (j_var 0) j_anil)) (j_acons (j_callD O_channels_made (hr.mono (by decide)) (takes_of rfl rfl rfl rfl) (j_acons (j_var 0) j_anil)) j_anil)))
    (js_cons (js_if (PW.pt (j_wor (jt_lt (j_lenTx rfl (by rfl) T.n_len (by rfl) T.n_set (j_var 2)) (j_callB cr_len real_len (by rfl) T.n_len bb_len (j_acons (j_var 2) j_anil))) (j_wor1 (jt_lt (j_lenTx rfl (by rfl) T.n_len (by rfl) T.n_set (j_var 3)) (j_callB cr_len real_len (by rfl) T.n_len bb_len (j_acons (j_var 3) j_anil))))))
    (js_one (js_ret j_bl))
    js_nil)
    (js_cons (js_if (j_test (j_callB (cr_any rfl) real_any (by rfl) T.n_any bb_any (j_acons (j_lc rfl nd (j_iter (j_var 3)) (blkOk_by (own := [("channel", 4)]) (N := ["part", "free", "taken", "made", "channel"]) (sc := defScope s_p_fits) (by decide +kernel)) (fun _ _ _ _ _ => (jg_nm 4 nd)) (fun _ _ _ _ _ => j_yes) (fun _ _ _ _ _ => (j_inA (hu_of hr) (j_var 4) (j_var 1)))) j_anil)))
    (js_one (js_ret j_bl))
    js_nil)
    (js_one (js_ret (j_callB (cr_all rfl) real_all (by rfl) T.n_all bb_all (j_acons (j_lc rfl nd (j_iter (j_var 2)) (blkOk_by (own := [("channel", 4)]) (N := ["part", "free", "taken", "made", "channel"]) (sc := defScope s_p_fits) (by decide +kernel)) (fun _ _ _ _ _ => (jg_nm 4 nd)) (fun _ _ _ _ _ => j_yes) (fun _ _ _ _ _ => (j_get2 (hu_of hr) (j_var 1) (j_var 4) j_bl))) j_anil)))))))
theorem ok_as_tuples (T : TF K mg) (R : RawD K mg "as_tuples" s_as_tuples ["value"]) : ∀ n, OkD P w K mg base (1 + n) "as_tuples" ["value"] (F_as_tuples n)
  | 0 => okD_out R
  | n + 1 => by
    have O_as_tuples := ok_as_tuples T R n
    have nd := sc_as_tuples.nd
    refine okD (k := 1 + n) (n := 2) (m := M_as_tuples (F_as_tuples n)) R sc_as_tuples rfl rfl fun _ cdv A outer s H E hr => ?_
    exact (js_cons (js_if (j_test (j_isi2 (by rfl) T.n_isinstance bb_isinstance (by rfl) T.n_list bb_list (by rfl) T.n_tuple bb_tuple (j_var 0)))
    (js_one (js_ret (j_callTy call_tuple_of real_tuple (by rfl) T.n_tuple bb_tuple (j_acons (j_lc rfl nd (j_iter (j_var 0)) (blkOk_by (own := [("item", 1)]) (N := ["value", "item"]) (sc := defScope s_as_tuples) (by decide +kernel)) (fun _ _ _ _ _ => (jg_nm 1 nd)) (fun _ _ _ _ _ => j_yes) (fun _ _ _ _ _ => (j_callD O_as_tuples hr takes0 (j_acons (j_var 1) j_anil)))) j_anil))))
    js_nil)
    (js_one (js_ret (j_var 0))))
theorem ok_Net___init__ (T : TF K mg) (O_as_tuples : OkD P w K mg base 13 "as_tuples" ["value"] (F_as_tuples 12)) (O_p_fits : OkD P w K mg base 2 "_fits" ["part", "free"] F_p_fits) (O_channels_taken : OkD P w K mg base 1 "channels_taken" ["part"] F_channels_taken) (O_channels_made : OkD P w K mg base 1 "channels_made" ["part"] F_channels_made) (E_BadPart : ErrO P w K mg base "BadPart" "place") (CL_Net : Cls K (He.ga K "Net")) (NA_Net__parts : NoAttr K (He.ga K "Net") "_parts") (NA_Net__channels : NoAttr K (He.ga K "Net") "_channels") (NA_Net__outlets : NoAttr K (He.ga K "Net") "_outlets") {f : Addr} {fd : FuncData} {dvs : List V} (F : FunD K "__init__" "Net.__init__" (defArgs s_Net___init__) (defBody s_Net___init__) (defScope s_Net___init__) dvs [] f fd) : FnOk P w K mg base (L2.CX P w) 14 f fd ["self", "parts"] (spInit K "Net" 1 F_Net___init__) := by
  have nd := sc_Net___init__.nd
  exact initI (k := 13) (n := 6) (m := M_Net___init__) F sc_Net___init__ rfl fun cdv A outer s H E hr =>
    (js_cons (js_asg (j_callD O_as_tuples (hr.mono (by decide)) (takes_of rfl rfl rfl rfl) (j_acons (j_var 1) j_anil)) (jg_nm 1 nd))
    (js_cons (js_ownS (i := 2) nd (jo_dict (.cons j_str j_bl PPm.nil)))
    (js_cons (js_for (passes_of rfl) rfl (j_enumA (by rfl) T.n_enumerate (j_acons (j_var 1) j_anil)) (jg_tp rfl (jgs_cons (jg_nm 3 nd) (jgs_cons (jg_nm 4 nd) jgs_nil)))
    (js_cons (js_if (j_tnot (j_borT (j_test (j_callD O_p_fits (hr.mono (by decide)) (takes_of rfl rfl rfl rfl) (j_acons (j_var 4) (j_acons (j_var 2) j_anil))))))
    (js_one (js_raiseE rfl (takes_of rfl rfl rfl rfl) E_BadPart (hr.mono (by decide)) (j_acons (j_var 3) j_anil)))
    js_nil)
    (js_cons (js_for (passes_of rfl) rfl (j_iter (j_callD O_channels_taken (hr.mono (by decide)) (takes_of rfl rfl rfl rfl) (j_acons (j_var 4) j_anil))) (jg_nm 5 nd)
    (js_one (js_setD 2 (hu_of hr) j_bl (j_var 5))))
    (js_one (js_for (passes_of rfl) rfl (j_iter (j_callD O_channels_made (hr.mono (by decide)) (takes_of rfl rfl rfl rfl) (j_acons (j_var 4) j_anil))) (jg_nm 5 nd)
    (js_one (js_setD 2 (hu_of hr) j_bl (j_var 5))))))))
    (js_cons (js_setA 0 CL_Net NA_Net__parts (j_var 1))
    (js_cons (js_lock 2 (js_setA 0 CL_Net NA_Net__channels (j_callTy call_tuple_of real_tuple (by rfl) T.n_tuple bb_tuple (j_acons (j_callB (cr_srtA rfl) real_srtA (by rfl) T.n_sorted bb_sorted (j_acons (j_var 2) j_anil)) j_anil))))
    (js_one (js_setA 0 CL_Net NA_Net__outlets (j_callTy call_tuple_of real_tuple (by rfl) T.n_tuple bb_tuple (j_acons (j_callB (cr_srtA rfl) real_srtA (by rfl) T.n_sorted bb_sorted (j_acons (j_lc rfl nd (j_iterA (j_var 2)) (blkOk_by (own := [("channel", 5)]) (N := ["self", "parts", "free", "place", "part", "channel"]) (sc := defScope s_Net___init__) (by decide +kernel)) (fun _ _ _ _ _ => (jg_nm 5 nd)) (fun _ _ _ _ _ => (j_when (j_test (j_subA (hu_of hr) (j_var 2) (j_var 5))))) (fun _ _ _ _ _ => (j_var 5))) j_anil)) j_anil)))))))))
theorem ok_l_frac (T : TF K mg) (R : RawD K mg "_law_frac" s_l_frac ["_law_top_so", "_law_low_so"]) : OkD P w K mg base 1 "_law_frac" ["_law_top_so", "_law_low_so"] F_l_frac := by
  have nd := sc_l_frac.nd
  refine okD (k := 0) (n := 5) (m := M_l_frac) R sc_l_frac rfl rfl fun _ cdv A outer s H E hr => ?_
  exact (js_cons (js_par (i := 2) (j := 3) rfl nd (by decide) (j_acons (j_callB call_abs real_abs (by rfl) T.n_abs bb_abs (j_acons (j_var 0) j_anil)) (j_acons (j_var 1) j_anil)))
    (js_cons (js_for (passes_of rfl) rfl (j_range1 (by rfl) T.n_range (j_acons j_int j_anil)) (jg_nm 4 nd)
    (js_cons (js_if (jt_eq hr (j_var 3) j_int)
    (js_one js_break)
    js_nil)
    (js_one (js_par (i := 2) (j := 3) rfl nd (by decide) (j_acons (j_var 3) (j_acons (j_mod (j_var 2) (j_var 3)) j_anil))))))
    (js_one (js_ret (j_tup (j_acons (j_div (j_var 0) (j_var 2)) (j_acons (j_div (j_var 1) (j_var 2)) j_anil)))))))
theorem ok_l_add (T : TF K mg) (R : RawD K mg "_law_add" s_l_add ["_law_one", "_law_two"]) (O_l_frac : OkD P w K mg base 1 "_law_frac" ["_law_top_so", "_law_low_so"] F_l_frac) : OkD P w K mg base 2 "_law_add" ["_law_one", "_law_two"] F_l_add := by
  have nd := sc_l_add.nd
  refine okD (k := 1) (n := 2) (m := M_l_add) R sc_l_add rfl rfl fun _ cdv A outer s H E hr => ?_
  exact (js_one (js_ret (j_callD O_l_frac (hr.mono (by decide)) (takes_of rfl rfl rfl rfl) (j_acons (j_add (j_mulI (j_subP (j_var 0) j_int) (j_subP (j_var 1) j_int)) (j_mulI (j_subP (j_var 1) j_int) (j_subP (j_var 0) j_int))) (j_acons (j_mulI (j_subP (j_var 0) j_int) (j_subP (j_var 1) j_int)) j_anil)))))
theorem ok_l_low (T : TF K mg) (R : RawD K mg "_law_low" s_l_low ["_law_one", "_law_two"]) : OkD P w K mg base 1 "_law_low" ["_law_one", "_law_two"] F_l_low := by
  have nd := sc_l_low.nd
  refine okD (k := 0) (n := 2) (m := M_l_low) R sc_l_low rfl rfl fun _ cdv A outer s H E hr => ?_
  exact (js_one (js_ret (j_lt (j_mulI (j_subP (j_var 0) j_int) (j_subP (j_var 1) j_int)) (j_mulI (j_subP (j_var 1) j_int) (j_subP (j_var 0) j_int)))))
theorem ok_l_mul (T : TF K mg) (R : RawD K mg "_law_mul" s_l_mul ["_law_one", "_law_two"]) (O_l_frac : OkD P w K mg base 1 "_law_frac" ["_law_top_so", "_law_low_so"] F_l_frac) : OkD P w K mg base 2 "_law_mul" ["_law_one", "_law_two"] F_l_mul := by
  have nd := sc_l_mul.nd
  refine okD (k := 1) (n := 2) (m := M_l_mul) R sc_l_mul rfl rfl fun _ cdv A outer s H E hr => ?_
  exact (js_one (js_ret (j_callD O_l_frac (hr.mono (by decide)) (takes_of rfl rfl rfl rfl) (j_acons (j_mulI (j_subP (j_var 0) j_int) (j_subP (j_var 1) j_int)) (j_acons (j_mulI (j_subP (j_var 0) j_int) (j_subP (j_var 1) j_int)) j_anil)))))
theorem ok_l_same (T : TF K mg) (R : RawD K mg "_law_same" s_l_same ["_law_got", "_law_due"]) : ∀ n, OkD P w K mg base (1 + n) "_law_same" ["_law_got", "_law_due"] (F_l_same n)
  | 0 => okD_out R
  | n + 1 => by
    have O_l_same := ok_l_same T R n
    have nd := sc_l_same.nd
    refine okD (k := 1 + n) (n := 4) (m := M_l_same (F_l_same n)) R sc_l_same rfl rfl fun _ cdv A outer s H E hr => ?_
    exact (js_cons (js_if (j_test (j_isi2 (by rfl) T.n_isinstance bb_isinstance (by rfl) T.n_list bb_list (by rfl) T.n_tuple bb_tuple (j_var 1)))
    (js_cons (js_if (jt_ne hr (j_isi (by rfl) T.n_isinstance bb_isinstance (by rfl) T.n_list bb_list (j_var 0)) (j_isi (by rfl) T.n_isinstance bb_isinstance (by rfl) T.n_list bb_list (j_var 1)))
    (js_one (js_ret j_bl))
    js_nil)
    (js_cons (js_if (jt_ne hr (j_isi (by rfl) T.n_isinstance bb_isinstance (by rfl) T.n_tuple bb_tuple (j_var 0)) (j_isi (by rfl) T.n_isinstance bb_isinstance (by rfl) T.n_tuple bb_tuple (j_var 1)))
    (js_one (js_ret j_bl))
    js_nil)
    (js_one (js_ret (j_and (j_eq hr (j_callB cr_len real_len (by rfl) T.n_len bb_len (j_acons (j_var 0) j_anil)) (j_callB cr_len real_len (by rfl) T.n_len bb_len (j_acons (j_var 1) j_anil))) (j_one (j_callB (cr_all rfl) real_all (by rfl) T.n_all bb_all (j_acons (j_lc rfl nd (j_zip (by rfl) T.n_zip (j_acons (j_var 0) (j_acons (j_var 1) j_anil))) (blkOk_by (own := [("_law_mine", 2), ("_law_its", 3)]) (N := ["_law_got", "_law_due", "_law_mine", "_law_its"]) (sc := defScope s_l_same) (by decide +kernel)) (fun _ _ _ _ _ => (jg_tp rfl (jgs_cons (jg_nm 2 nd) (jgs_cons (jg_nm 3 nd) jgs_nil)))) (fun _ _ _ _ _ => j_yes) (fun _ _ _ _ _ => (j_callD O_l_same hr takes0 (j_acons (j_var 2) (j_acons (j_var 3) j_anil))))) j_anil))))))))
    js_nil)
    (js_cons (js_if (PW.pt (j_wor (jt_isN (j_var 1) j_non) (j_wor1 (j_test (j_isi2 (by rfl) T.n_isinstance bb_isinstance (by rfl) T.n_bool bb_bool (by rfl) T.n_str bb_str (j_var 1))))))
    (js_one (js_ret (j_and (j_eq hr (j_var 0) (j_var 1)) (j_and (j_eq hr (j_isi (by rfl) T.n_isinstance bb_isinstance (by rfl) T.n_bool bb_bool (j_var 0)) (j_isi (by rfl) T.n_isinstance bb_isinstance (by rfl) T.n_bool bb_bool (j_var 1))) (j_one (j_eq hr (j_isN (j_var 0) j_non) (j_isN (j_var 1) j_non)))))))
    js_nil)
    (js_one (js_ret (j_and (j_isi (by rfl) T.n_isinstance bb_isinstance (by rfl) T.n_int bb_int (j_var 0)) (j_and (j_notV (j_isi (by rfl) T.n_isinstance bb_isinstance (by rfl) T.n_bool bb_bool (j_var 0))) (j_one (j_eq hr (j_var 0) (j_var 1)))))))))
theorem ok_Net_outlets (T : TF K mg) (CL_Net : Cls K (He.ga K "Net")) (NA_Net__outlets : NoAttr K (He.ga K "Net") "_outlets") {g : Addr} {fd : FuncData} (F : Fun K "outlets" "Net.outlets" s_Net_outlets g fd) (b : Binds K fd ["self"] []) : OkM P w K mg base 1 g ["self"] F_Net_outlets := by
  have nd := sc_Net_outlets.nd
  exact okM (k := 0) (n := 1) (m := M_Net_outlets) F b sc_Net_outlets rfl fun cdv A outer s H E hr =>
    (js_one (js_ret (j_fld CL_Net NA_Net__outlets (j_var 0))))
theorem ok_Net_parts (T : TF K mg) (CL_Net : Cls K (He.ga K "Net")) (NA_Net__parts : NoAttr K (He.ga K "Net") "_parts") {g : Addr} {fd : FuncData} (F : Fun K "parts" "Net.parts" s_Net_parts g fd) (b : Binds K fd ["self"] []) : OkM P w K mg base 1 g ["self"] F_Net_parts := by
  have nd := sc_Net_parts.nd
  exact okM (k := 0) (n := 1) (m := M_Net_parts) F b sc_Net_parts rfl fun cdv A outer s H E hr =>
    (js_one (js_ret (j_fld CL_Net NA_Net__parts (j_var 0))))
theorem ok_is_less (T : TF K mg) (R : RawD K mg "is_less" s_is_less ["one", "other"]) : OkD P w K mg base 1 "is_less" ["one", "other"] F_is_less := by
  have nd := sc_is_less.nd
  refine okD (k := 0) (n := 2) (m := M_is_less) R sc_is_less rfl rfl fun _ cdv A outer s H E hr => ?_
  exact (js_one (js_ret (j_lt (j_mulI (j_subP (j_var 0) j_int) (j_subP (j_var 1) j_int)) (j_mulI (j_subP (j_var 1) j_int) (j_subP (j_var 0) j_int)))))
theorem ok_lesser (T : TF K mg) (R : RawD K mg "lesser" s_lesser ["one", "other"]) (O_is_less : OkD P w K mg base 1 "is_less" ["one", "other"] F_is_less) : OkD P w K mg base 2 "lesser" ["one", "other"] F_lesser := by
  have nd := sc_lesser.nd
  refine okD (k := 1) (n := 2) (m := M_lesser) R sc_lesser rfl rfl fun _ cdv A outer s H E hr => ?_
  exact (js_one (js_ret (j_ifExp (j_test (j_callD O_is_less (hr.mono (by decide)) (takes_of rfl rfl rfl rfl) (j_acons (j_var 0) (j_acons (j_var 1) j_anil)))) (j_var 0) (j_var 1))))
theorem ok_p_lowest (T : TF K mg) (R : RawD K mg "_lowest" s_p_lowest ["top", "bottom"]) : OkD P w K mg base 1 "_lowest" ["top", "bottom"] F_p_lowest := by
  have nd := sc_p_lowest.nd
  refine okD (k := 0) (n := 3) (m := M_p_lowest) R sc_p_lowest rfl rfl fun _ cdv A outer s H E hr => ?_
  exact (js_cons (js_asg (j_gcd (by rfl) T.g_gcd (j_acons (j_var 0) (j_acons (j_var 1) j_anil))) (jg_nm 2 nd))
    (js_one (js_ret (j_tup (j_acons (j_div (j_var 0) (j_var 2)) (j_acons (j_div (j_var 1) (j_var 2)) j_anil))))))
theorem ok_minus (T : TF K mg) (R : RawD K mg "minus" s_minus ["one", "other"]) (O_p_lowest : OkD P w K mg base 1 "_lowest" ["top", "bottom"] F_p_lowest) : OkD P w K mg base 2 "minus" ["one", "other"] F_minus := by
  have nd := sc_minus.nd
  refine okD (k := 1) (n := 2) (m := M_minus) R sc_minus rfl rfl fun _ cdv A outer s H E hr => ?_
  exact (js_one (js_ret (j_callD O_p_lowest (hr.mono (by decide)) (takes_of rfl rfl rfl rfl) (j_acons (j_sub (j_mulI (j_subP (j_var 0) j_int) (j_subP (j_var 1) j_int)) (j_mulI (j_subP (j_var 1) j_int) (j_subP (j_var 0) j_int))) (j_acons (j_mulI (j_subP (j_var 0) j_int) (j_subP (j_var 1) j_int)) j_anil)))))
theorem ok_plus (T : TF K mg) (R : RawD K mg "plus" s_plus ["one", "other"]) (O_p_lowest : OkD P w K mg base 1 "_lowest" ["top", "bottom"] F_p_lowest) : OkD P w K mg base 2 "plus" ["one", "other"] F_plus := by
  have nd := sc_plus.nd
  refine okD (k := 1) (n := 2) (m := M_plus) R sc_plus rfl rfl fun _ cdv A outer s H E hr => ?_
  exact (js_one (js_ret (j_callD O_p_lowest (hr.mono (by decide)) (takes_of rfl rfl rfl rfl) (j_acons (j_add (j_mulI (j_subP (j_var 0) j_int) (j_subP (j_var 1) j_int)) (j_mulI (j_subP (j_var 1) j_int) (j_subP (j_var 0) j_int))) (j_acons (j_mulI (j_subP (j_var 0) j_int) (j_subP (j_var 1) j_int)) j_anil)))))
theorem ok_times (T : TF K mg) (R : RawD K mg "times" s_times ["one", "other"]) (O_p_lowest : OkD P w K mg base 1 "_lowest" ["top", "bottom"] F_p_lowest) : OkD P w K mg base 2 "times" ["one", "other"] F_times := by
  have nd := sc_times.nd
  refine okD (k := 1) (n := 2) (m := M_times) R sc_times rfl rfl fun _ cdv A outer s H E hr => ?_
  exact (js_one (js_ret (j_callD O_p_lowest (hr.mono (by decide)) (takes_of rfl rfl rfl rfl) (j_acons (j_mulI (j_subP (j_var 0) j_int) (j_subP (j_var 1) j_int)) (j_acons (j_mulI (j_subP (j_var 0) j_int) (j_subP (j_var 1) j_int)) j_anil)))))
theorem ok_p_amounts (T : TF K mg) (R : RawD K mg "_amounts" s_p_amounts ["net", "inflow"]) (O_as_tuples : OkD P w K mg base 13 "as_tuples" ["value"] (F_as_tuples 12)) (O_Net_parts : PropO P w K mg base 1 "Net" "parts" F_Net_parts) (O_plus : OkD P w K mg base 2 "plus" ["one", "other"] F_plus) (O_lesser : OkD P w K mg base 2 "lesser" ["one", "other"] F_lesser) (O_times : OkD P w K mg base 2 "times" ["one", "other"] F_times) (O_minus : OkD P w K mg base 2 "minus" ["one", "other"] F_minus) : OkD P w K mg base 14 "_amounts" ["net", "inflow"] F_p_amounts := by
  have nd := sc_p_amounts.nd
  refine okD (k := 13) (n := 12) (m := M_p_amounts) R sc_p_amounts rfl rfl fun _ cdv A outer s H E hr => ?_
  exact (js_cons (js_ownS (i := 2) nd (jo_dict (.cons j_str (j_callD O_as_tuples (hr.mono (by decide)) (takes_of rfl rfl rfl rfl) (j_acons (j_var 1) j_anil)) PPm.nil)))
    (js_cons (js_for (passes_of rfl) rfl (j_iter (j_prop O_Net_parts (hr.mono (by decide)) (j_var 0))) (jg_nm 3 nd)
    (js_one (js_if (jt_eq hr (j_subP (j_var 3) j_int) j_str)
    (js_cons (js_asg (j_var 3) (jg_tp rfl (jgs_cons (jg_nm 4 nd) (jgs_cons (jg_nm 5 nd) (jgs_cons (jg_nm 6 nd) (jgs_cons (jg_nm 7 nd) jgs_nil))))))
    (js_one (js_setD 2 (hu_of hr) (j_callD O_plus (hr.mono (by decide)) (takes_of rfl rfl rfl rfl) (j_acons (j_getO 2 (hu_of hr) (j_var 5)) (j_acons (j_getO 2 (hu_of hr) (j_var 6)) j_anil))) (j_var 7))))
    (js_cons (js_asg (j_var 3) (jg_tp rfl (jgs_cons (jg_nm 8 nd) (jgs_cons (jg_nm 5 nd) (jgs_cons (jg_nm 9 nd) (jgs_cons (jg_nm 7 nd) (jgs_cons (jg_nm 10 nd) jgs_nil)))))))
    (js_cons (js_asg (j_getO 2 (hu_of hr) (j_var 5)) (jg_nm 11 nd))
    (js_cons (js_setD 2 (hu_of hr) (j_ifExp (jt_eq hr (j_var 8) j_str) (j_callD O_lesser (hr.mono (by decide)) (takes_of rfl rfl rfl rfl) (j_acons (j_var 11) (j_acons (j_var 9) j_anil))) (j_callD O_times (hr.mono (by decide)) (takes_of rfl rfl rfl rfl) (j_acons (j_var 11) (j_acons (j_var 9) j_anil)))) (j_var 7))
    (js_one (js_setD 2 (hu_of hr) (j_callD O_minus (hr.mono (by decide)) (takes_of rfl rfl rfl rfl) (j_acons (j_var 11) (j_acons (j_getO 2 (hu_of hr) (j_var 7)) j_anil))) (j_var 10)))))))))
    (js_one (js_lock 2 (js_ret (j_var 2))))))
theorem ok_flow (T : TF K mg) (R : RawD K mg "flow" s_flow ["net", "inflow"]) (O_p_amounts : OkD P w K mg base 14 "_amounts" ["net", "inflow"] F_p_amounts) (O_Net_outlets : PropO P w K mg base 1 "Net" "outlets" F_Net_outlets) : OkD P w K mg base 15 "flow" ["net", "inflow"] F_flow := by
  have nd := sc_flow.nd
  refine okD (k := 14) (n := 4) (m := M_flow) R sc_flow rfl rfl fun _ cdv A outer s H E hr => ?_
  exact (js_cons (js_asg (j_callD O_p_amounts (hr.mono (by decide)) (takes_of rfl rfl rfl rfl) (j_acons (j_var 0) (j_acons (j_var 1) j_anil))) (jg_nm 2 nd))
    (js_one (js_ret (j_callTy call_tuple_of real_tuple (by rfl) T.n_tuple bb_tuple (j_acons (j_lc rfl nd (j_iter (j_prop O_Net_outlets (hr.mono (by decide)) (j_var 0))) (blkOk_by (own := [("outlet", 3)]) (N := ["net", "inflow", "amounts", "outlet"]) (sc := defScope s_flow) (by decide +kernel)) (fun _ _ _ _ _ => (jg_nm 3 nd)) (fun _ _ _ _ _ => j_yes) (fun _ _ _ _ _ => (j_tup (j_acons (j_var 3) (j_acons (j_subA (hu_of hr) (j_var 2) (j_var 3)) j_anil))))) j_anil)))))
theorem ok_walked (T : TF K mg) (R : RawD K mg "walked" s_walked ["net", "inflow"]) (O_p_amounts : OkD P w K mg base 14 "_amounts" ["net", "inflow"] F_p_amounts) : OkD P w K mg base 15 "walked" ["net", "inflow"] F_walked := by
  have nd := sc_walked.nd
  refine okD (k := 14) (n := 3) (m := M_walked) R sc_walked rfl rfl fun _ cdv A outer s H E hr => ?_
  exact (js_cons (js_asg (j_callD O_p_amounts (hr.mono (by decide)) (takes_of rfl rfl rfl rfl) (j_acons (j_var 0) (j_acons (j_var 1) j_anil))) (jg_nm 2 nd))
    (js_one (js_ret (j_callTy call_tuple_of real_tuple (by rfl) T.n_tuple bb_tuple (j_acons (j_sortIt rfl (by rfl) T.n_sorted bb_sorted (j_var 2)) j_anil)))))
theorem ok_walked_x (T : TF K mg) (R : RawD K mg "walked" s_walked_x ["net", "inflow"]) (O_p_amounts : OkD P w K mg base 14 "_amounts" ["net", "inflow"] F_p_amounts) : OkD P w K mg base 15 "walked" ["net", "inflow"] F_walked_x := by
  have nd := sc_walked_x.nd
  refine okD (k := 14) (n := 3) (m := M_walked_x) R sc_walked_x rfl rfl fun _ cdv A outer s H E hr => ?_
  exact (js_cons (js_asg (j_callD O_p_amounts (hr.mono (by decide)) (takes_of rfl rfl rfl rfl) (j_acons (j_var 0) (j_acons (j_var 1) j_anil))) (jg_nm 2 nd))
    (js_one (js_ret (j_tupX (by rfl) T.n_tuple bb_tuple (j_acons (j_sortIt rfl (by rfl) T.n_sorted bb_sorted (j_var 2)) j_anil)))))
theorem ok_l_net_right (T : TF K mg) (R : RawD K mg "_law_net_right" s_l_net_right ["_law_parts_so", "_law_near", "_law_far"]) (O_Net___init__ : InitO P w K mg base 14 "Net" 1 F_Net___init__ [.tup []]) (O_flow : OkD P w K mg base 15 "flow" ["net", "inflow"] F_flow) (O_l_add : OkD P w K mg base 2 "_law_add" ["_law_one", "_law_two"] F_l_add) (O_walked_x : OkD P w K mg base 15 "walked" ["net", "inflow"] F_walked_x) (O_walked : OkD P w K mg base 15 "walked" ["net", "inflow"] F_walked) (O_l_low : OkD P w K mg base 1 "_law_low" ["_law_one", "_law_two"] F_l_low) (O_l_mul : OkD P w K mg base 2 "_law_mul" ["_law_one", "_law_two"] F_l_mul) (O_l_same : OkD P w K mg base 13 "_law_same" ["_law_got", "_law_due"] (F_l_same 12)) : OkD P w K mg base 16 "_law_net_right" ["_law_parts_so", "_law_near", "_law_far"] F_l_net_right := by
  have nd := sc_l_net_right.nd
  refine okD (k := 15) (n := 15) (m := M_l_net_right) R sc_l_net_right rfl rfl fun _ cdv A outer s H E hr => ?_
  exact (js_cons (js_par (i := 3) (j := 4) rfl nd (by decide) (j_acons (j_make O_Net___init__ (hr.mono (by decide)) (takes_of rfl rfl rfl rfl) (j_acons (j_var 0) j_anil)) (j_acons (j_tup (j_acons j_int (j_acons j_int j_anil))) j_anil)))
    (js_cons (js_for (passes_of rfl) rfl (j_iter (j_callD O_flow (hr.mono (by decide)) (takes_of rfl rfl rfl rfl) (j_acons (j_var 3) (j_acons (j_var 1) j_anil)))) (jg_tp rfl (jgs_cons (jg_nm 5 nd) (jgs_cons (jg_nm 6 nd) jgs_nil)))
    (js_one (js_asg (j_callD O_l_add (hr.mono (by decide)) (takes_of rfl rfl rfl rfl) (j_acons (j_var 4) (j_acons (j_var 6) j_anil))) (jg_nm 4 nd))))
    (js_cons (js_if (jt_ne hr (j_var 4) (j_var 1))
    (js_one (js_ret j_bl))
    js_nil)
    (js_cons (js_asg (j_dictX rfl (by rfl) T.n_dict bb_dict (j_acons (j_callD O_walked_x (hr.mono (by decide)) (takes_of rfl rfl rfl rfl) (j_acons (j_var 3) (j_acons (j_callD O_l_add (hr.mono (by decide)) (takes_of rfl rfl rfl rfl) (j_acons (j_var 1) (j_acons (j_var 2) j_anil))) j_anil))) j_anil)) (jg_nm 7 nd))
    (js_cons (js_if (jt_ne hr (j_lc rfl nd (j_iter (j_callD O_walked (hr.mono (by decide)) (takes_of rfl rfl rfl rfl) (j_acons (j_var 3) (j_acons (j_var 1) j_anil)))) (blkOk_by (own := [("_law_tag", 5), ("_law_much_so", 6)]) (N := ["_law_parts_so", "_law_near", "_law_far", "_law_host", "_law_sum_so", "_law_tag", "_law_much_so", "_law_more", "_law_twice", "_law_due", "_law_k", "_law_one", "_law_two", "_law_turned", "_law_own"]) (sc := defScope s_l_net_right) (by decide +kernel)) (fun _ _ _ _ _ => (jg_tp rfl (jgs_cons (jg_nm 5 nd) (jgs_cons (jg_nm 6 nd) jgs_nil)))) (fun _ _ _ _ _ => (j_when (j_test (j_callD O_l_low (hr.mono (by decide)) takes0 (j_acons (j_subA (hu_of hr) (j_var 7) (j_var 5)) (j_acons (j_var 6) j_anil)))))) (fun _ _ _ _ _ => (j_var 5))) (j_lst j_anil))
    (js_one (js_ret j_bl))
    js_nil)
    (js_cons (js_setLc (i := 8) rfl nd rfl rfl (sw_true rfl rfl rfl (by decide +kernel)) (j_iter (j_var 0)) (blkOk_by (own := [("_law_own", 14)]) (N := ["_law_parts_so", "_law_near", "_law_far", "_law_host", "_law_sum_so", "_law_tag", "_law_much_so", "_law_more", "_law_twice", "_law_due", "_law_k", "_law_one", "_law_two", "_law_turned", "_law_own"]) (sc := defScope s_l_net_right) (by decide +kernel)) (fun _ _ _ _ _ => (jg_nm 14 nd)) (fun _ _ _ _ _ => j_yes) (fun _ _ _ _ _ => (j_ifExp (jt_eq hr (j_subP (j_var 14) j_int) j_str) (j_add (j_add (j_slice (j_var 14) j_noPart (j_part j_int)) (j_tup (j_acons (j_callD O_l_mul (hr.mono (by decide)) takes0 (j_acons (j_subP (j_var 14) j_int) (j_acons (j_tup (j_acons j_int (j_acons j_int j_anil))) j_anil))) j_anil))) (j_slice (j_var 14) (j_part j_int) j_noPart)) (j_var 14))))
    (js_cons (js_asg (j_callTy call_tuple_of real_tuple (by rfl) T.n_tuple bb_tuple (j_acons (j_lc rfl nd (j_iter (j_callD O_walked (hr.mono (by decide)) (takes_of rfl rfl rfl rfl) (j_acons (j_var 3) (j_acons (j_var 1) j_anil)))) (blkOk_by (own := [("_law_tag", 5), ("_law_much_so", 6)]) (N := ["_law_parts_so", "_law_near", "_law_far", "_law_host", "_law_sum_so", "_law_tag", "_law_much_so", "_law_more", "_law_twice", "_law_due", "_law_k", "_law_one", "_law_two", "_law_turned", "_law_own"]) (sc := defScope s_l_net_right) (by decide +kernel)) (fun _ _ _ _ _ => (jg_tp rfl (jgs_cons (jg_nm 5 nd) (jgs_cons (jg_nm 6 nd) jgs_nil)))) (fun _ _ _ _ _ => j_yes) (fun _ _ _ _ _ => (j_tup (j_acons (j_var 5) (j_acons (j_callD O_l_mul (hr.mono (by decide)) takes0 (j_acons (j_var 6) (j_acons (j_tup (j_acons j_int (j_acons j_int j_anil))) j_anil))) j_anil))))) j_anil)) (jg_nm 9 nd))
    (js_cons (js_if (j_tnot (j_test (j_callD O_l_same (hr.mono (by decide)) (takes_of rfl rfl rfl rfl) (j_acons (j_callD O_walked (hr.mono (by decide)) (takes_of rfl rfl rfl rfl) (j_acons (j_make O_Net___init__ (hr.mono (by decide)) (takes_of rfl rfl rfl rfl) (j_acons (j_callTy call_tuple_of real_tuple (by rfl) T.n_tuple bb_tuple (j_acons (j_var 8) j_anil)) j_anil)) (j_acons (j_callD O_l_mul (hr.mono (by decide)) (takes_of rfl rfl rfl rfl) (j_acons (j_var 1) (j_acons (j_tup (j_acons j_int (j_acons j_int j_anil))) j_anil))) j_anil))) (j_acons (j_var 9) j_anil)))))
    (js_one (js_ret j_bl))
    js_nil)
    (js_cons (js_for (passes_of rfl) rfl (j_range1 (by rfl) T.n_range (j_acons (j_sub (j_callB cr_len real_len (by rfl) T.n_len bb_len (j_acons (j_var 0) j_anil)) j_int) j_anil)) (jg_nm 10 nd)
    (js_cons (js_par (i := 11) (j := 12) rfl nd (by decide) (j_acons (j_subP (j_var 0) (j_var 10)) (j_acons (j_subP (j_var 0) (j_add (j_var 10) j_int)) j_anil)))
    (js_one (js_if (PW.pt (j_wand (j_cmpT op_notIn_seq real_in (j_subP (j_var 12) j_int) (j_slice (j_var 11) (j_part j_int) j_noPart) (by rfl)) (j_wand1 (jt_notInT hr (j_subP (j_var 12) j_int) (j_slice (j_var 11) (j_part j_int) j_noPart)))))
    (js_cons (js_asg (j_add (j_add (j_slice (j_var 0) j_noPart (j_part (j_var 10))) (j_tup (j_acons (j_var 12) (j_acons (j_var 11) j_anil)))) (j_slice (j_var 0) (j_part (j_add (j_var 10) j_int)) j_noPart)) (jg_nm 13 nd))
    (js_one (js_if (j_tnot (j_test (j_callD O_l_same (hr.mono (by decide)) (takes_of rfl rfl rfl rfl) (j_acons (j_callD O_walked (hr.mono (by decide)) (takes_of rfl rfl rfl rfl) (j_acons (j_make O_Net___init__ (hr.mono (by decide)) (takes_of rfl rfl rfl rfl) (j_acons (j_var 13) j_anil)) (j_acons (j_var 1) j_anil))) (j_acons (j_callD O_walked (hr.mono (by decide)) (takes_of rfl rfl rfl rfl) (j_acons (j_var 3) (j_acons (j_var 1) j_anil))) j_anil)))))
    (js_one (js_ret j_bl))
    js_nil)))
    js_nil))))
    (js_one (js_ret j_bl)))))))))))
theorem ok_l_sample (T : TF K mg) (R : RawD K mg "_law_sample" s_l_sample []) : OkD P w K mg base 1 "_law_sample" [] F_l_sample := by
  have nd := sc_l_sample.nd
  refine okD (k := 0) (n := 0) (m := M_l_sample) R sc_l_sample rfl rfl fun _ cdv A outer s H E hr => ?_
  exact (js_one (js_ret (j_tup (j_acons (j_tup (j_acons j_str (j_acons j_str (j_acons (j_tup (j_acons j_int (j_acons j_int j_anil))) (j_acons j_str (j_acons j_str j_anil)))))) (j_acons (j_tup (j_acons j_str (j_acons j_str (j_acons (j_tup (j_acons j_int (j_acons j_int j_anil))) (j_acons j_str (j_acons j_str j_anil)))))) (j_acons (j_tup (j_acons j_str (j_acons j_str (j_acons j_str (j_acons j_str j_anil))))) (j_acons (j_tup (j_acons j_str (j_acons j_str (j_acons (j_tup (j_acons j_int (j_acons j_int j_anil))) (j_acons j_str (j_acons j_str j_anil)))))) (j_acons (j_tup (j_acons j_str (j_acons j_str (j_acons j_str (j_acons j_str j_anil))))) j_anil))))))))
theorem ok_l_by_hand_right (T : TF K mg) (R : RawD K mg "_law_by_hand_right" s_l_by_hand_right []) (O_l_sample : OkD P w K mg base 1 "_law_sample" [] F_l_sample) (O_l_net_right : OkD P w K mg base 16 "_law_net_right" ["_law_parts_so", "_law_near", "_law_far"] F_l_net_right) : OkD P w K mg base 17 "_law_by_hand_right" [] F_l_by_hand_right := by
  have nd := sc_l_by_hand_right.nd
  refine okD (k := 16) (n := 4) (m := M_l_by_hand_right) R sc_l_by_hand_right rfl rfl fun _ cdv A outer s H E hr => ?_
  exact (js_cons (js_asg (j_lst (j_acons (j_tup j_anil) (j_acons (j_call0 O_l_sample (hr.mono (by decide))) (j_acons (j_tup (j_acons (j_tup (j_acons j_str (j_acons j_str (j_acons (j_tup (j_acons j_int (j_acons j_int j_anil))) (j_acons j_str (j_acons j_str j_anil)))))) (j_acons (j_tup (j_acons j_str (j_acons j_str (j_acons (j_tup (j_acons j_int (j_acons j_int j_anil))) (j_acons j_str (j_acons j_str j_anil)))))) (j_acons (j_tup (j_acons j_str (j_acons j_str (j_acons (j_tup (j_acons j_int (j_acons j_int j_anil))) (j_acons j_str (j_acons j_str j_anil)))))) j_anil)))) j_anil)))) (jg_nm 0 nd))
    (js_cons (js_for (passes_of rfl) rfl (j_iter (j_var 0)) (jg_nm 1 nd)
    (js_one (js_for (passes_of rfl) rfl (j_iter (j_tup (j_acons (j_tup (j_acons (j_tup (j_acons j_int (j_acons j_int j_anil))) (j_acons (j_tup (j_acons j_int (j_acons j_int j_anil))) j_anil))) (j_acons (j_tup (j_acons (j_tup (j_acons j_int (j_acons j_int j_anil))) (j_acons (j_tup (j_acons j_int (j_acons j_int j_anil))) j_anil))) (j_acons (j_tup (j_acons (j_tup (j_acons (j_sub (j_mulI j_int (j_pow j_int j_int)) j_int) (j_acons j_int j_anil))) (j_acons (j_tup (j_acons j_int (j_acons j_int j_anil))) j_anil))) (j_acons (j_tup (j_acons (j_tup (j_acons j_int (j_acons j_int j_anil))) (j_acons (j_tup (j_acons j_int (j_acons j_int j_anil))) j_anil))) j_anil)))))) (jg_tp rfl (jgs_cons (jg_nm 2 nd) (jgs_cons (jg_nm 3 nd) jgs_nil)))
    (js_one (js_if (j_tnot (j_test (j_callD O_l_net_right (hr.mono (by decide)) (takes_of rfl rfl rfl rfl) (j_acons (j_var 1) (j_acons (j_var 2) (j_acons (j_var 3) j_anil))))))
    (js_one (js_ret j_bl))
    js_nil)))))
    (js_one (js_ret j_bl))))
theorem ok_l_cells (T : TF K mg) (R : RawD K mg "_law_cells" s_l_cells ["_law_script", "_law_top_so"]) : OkD P w K mg base 1 "_law_cells" ["_law_script", "_law_top_so"] F_l_cells := by
  have nd := sc_l_cells.nd
  refine okD (k := 0) (n := 6) (m := M_l_cells) R sc_l_cells rfl rfl fun _ cdv A outer s H E hr => ?_
  exact (js_cons (js_own (i := 2) nd (jn_or (jn_list (by rfl) T.n_list bb_list (j_acons (j_slice (j_var 0) j_noPart (j_part (j_var 1))) j_anil)) (jn_lst (j_acons j_int j_anil))))
    (js_cons (js_for (passes_of rfl) rfl (j_enumA (by rfl) T.n_enumerate (j_acons (j_slice (j_var 0) (j_part (j_var 1)) (j_part j_int)) j_anil)) (jg_tp rfl (jgs_cons (jg_nm 3 nd) (jgs_cons (jg_nm 4 nd) jgs_nil)))
    (js_cons (js_asg (j_mod (j_callTy cr_int real_int (by rfl) T.n_int bb_int (j_acons (j_var 3) j_anil)) (j_var 1)) (jg_nm 5 nd))
    (js_one (js_setI 2 (j_add (j_ixO 2 (j_var 5)) (j_mulI (j_var 4) (j_add (j_var 3) j_int))) (j_var 5)))))
    (js_one (js_frz allS (js_ret (j_var 2))))))
theorem ok_l_take (T : TF K mg) (R : RawD K mg "_law_take" s_l_take ["_law_box_here", "_law_size_so"]) : OkD P w K mg base 1 "_law_take" ["_law_box_here", "_law_size_so"] F_l_take := by
  have nd := sc_l_take.nd
  refine okD (k := 0) (n := 6) (m := M_l_take) R sc_l_take rfl rfl fun _ cdv A outer s H E hr => ?_
  exact (js_cons (js_if (jt_gt (j_sub' (j_var 0) j_int) j_int)
    (js_cons (js_asg (j_mod (j_callTy cr_int real_int (by rfl) T.n_int bb_int (j_acons (j_sub' (j_var 0) j_int) j_anil)) (j_var 1)) (jg_nm 2 nd))
    (js_cons (js_setB 0 (j_div (j_sub' (j_var 0) j_int) (j_var 1)) j_int)
    (js_one (js_ret (j_var 2)))))
    js_nil)
    (js_cons (js_setB 0 (j_add (j_sub' (j_var 0) j_int) j_int) j_int)
    (js_cons (js_asg (j_mod (j_callTy cr_int real_int (by rfl) T.n_int bb_int (j_acons (j_mulI (j_add (j_sub' (j_var 0) j_int) (j_mulI j_int (j_sub' (j_var 0) j_int))) (j_add j_int (j_sub' (j_var 0) j_int))) j_anil)) j_int) (jg_nm 3 nd))
    (js_cons (js_asg (j_add (j_mod (j_callTy cr_int real_int (by rfl) T.n_int bb_int (j_acons (j_var 3) j_anil)) j_int) j_int) (jg_nm 4 nd))
    (js_cons (js_asg (j_mod (j_callTy cr_int real_int (by rfl) T.n_int bb_int (j_acons (j_mulI (j_add (j_add (j_var 3) (j_sub' (j_var 0) j_int)) (j_div (j_sub' (j_var 0) j_int) j_int)) (j_var 4)) j_anil)) j_int) (jg_nm 5 nd))
    (js_one (js_ret (j_mod (j_callTy cr_int real_int (by rfl) T.n_int bb_int (j_acons (j_div (j_mod (j_callTy cr_int real_int (by rfl) T.n_int bb_int (j_acons (j_add (j_mulI (j_var 5) j_int) (j_var 3)) j_anil)) j_int) j_int) j_anil)) (j_var 1)))))))))
theorem ok_l_of (T : TF K mg) (R : RawD K mg "_law_of" s_l_of ["_law_box_here", "_law_goods_so"]) (O_l_take : OkD P w K mg base 1 "_law_take" ["_law_box_here", "_law_size_so"] F_l_take) : OkD P w K mg base 2 "_law_of" ["_law_box_here", "_law_goods_so"] F_l_of := by
  have nd := sc_l_of.nd
  refine okD (k := 1) (n := 2) (m := M_l_of) R sc_l_of rfl rfl fun _ cdv A outer s H E hr => ?_
  exact (js_one (js_ret (j_subP (j_var 1) (j_callD O_l_take (hr.mono (by decide)) (takes_of rfl rfl rfl rfl) (j_acons (j_var 0) (j_acons (j_callB cr_len real_len (by rfl) T.n_len bb_len (j_acons (j_var 1) j_anil)) j_anil))))))
theorem ok_l_net (T : TF K mg) (R : RawD K mg "_law_net" s_l_net ["_law_box_here", "_law_many_so", "_law_sizes_so"]) (O_l_take : OkD P w K mg base 1 "_law_take" ["_law_box_here", "_law_size_so"] F_l_take) (O_l_frac : OkD P w K mg base 1 "_law_frac" ["_law_top_so", "_law_low_so"] F_l_frac) (O_l_of : OkD P w K mg base 2 "_law_of" ["_law_box_here", "_law_goods_so"] F_l_of) : OkD P w K mg base 3 "_law_net" ["_law_box_here", "_law_many_so", "_law_sizes_so"] F_l_net := by
  have nd := sc_l_net.nd
  refine okD (k := 2) (n := 12) (m := M_l_net) R sc_l_net rfl rfl fun _ cdv A outer s H E hr => ?_
  exact (js_cons (js_par3G (i := 3) (j := 4) (l := 5) rfl nd (by decide) (by decide) (by decide) (pa_cons (jn_lst (j_acons j_str j_anil)) (pa_cons (jn_lst (j_acons j_str (j_acons j_str (j_acons j_str (j_acons j_str (j_acons j_str (j_acons j_str (j_acons j_str (j_acons j_str (j_acons j_str (j_acons j_str (j_acons j_str (j_acons j_str j_anil))))))))))))) (pa_cons (jn_lst j_anil) pa_nil))))
    (js_cons (js_for (passes_of rfl) rfl (j_range1 (by rfl) T.n_range (j_acons (j_callD O_l_take (hr.mono (by decide)) (takes_of rfl rfl rfl rfl) (j_acons (j_var 0) (j_acons (j_add (j_var 1) j_int) j_anil))) j_anil)) (jg_nm 6 nd)
    (js_cons (js_parP (i := 7) (j := 8) rfl nd (by decide) (jp_acons (jp_pop 3 (jp_lift (j_callD O_l_take (hr.mono (by decide)) (takes_of rfl rfl rfl rfl) (j_acons (j_var 0) (j_acons (j_bor (j_callB cr_len real_len (by rfl) T.n_len bb_len (j_acons (j_var 3) j_anil))) j_anil))))) (jp_acons (jp_lift (j_callD O_l_take (hr.mono (by decide)) (takes_of rfl rfl rfl rfl) (j_acons (j_var 0) (j_acons j_int j_anil)))) jp_anil)))
    (js_cons (js_asgP (jp_pop 4 (jp_lift (j_callD O_l_take (hr.mono (by decide)) (takes_of rfl rfl rfl rfl) (j_acons (j_var 0) (j_acons (j_bor (j_callB cr_len real_len (by rfl) T.n_len bb_len (j_acons (j_var 4) j_anil))) j_anil))))) (jg_nm 9 nd))
    (js_one (js_if (PW.pt (j_wand (jt_eq hr (j_var 8) j_int) (j_wand1 (j_borT (jt_ne hr (j_var 3) (j_lst j_anil))))))
    (js_cons (js_appP 5 (jp_tup (jp_acons (jp_lift j_str) (jp_acons (jp_lift (j_var 7)) (jp_acons (jp_pop 3 (jp_lift (j_callD O_l_take (hr.mono (by decide)) (takes_of rfl rfl rfl rfl) (j_acons (j_var 0) (j_acons (j_bor (j_callB cr_len real_len (by rfl) T.n_len bb_len (j_acons (j_var 3) j_anil))) j_anil))))) (jp_acons (jp_lift (j_var 9)) jp_anil))))))
    (js_one (js_app 3 (j_var 9))))
    (js_cons (js_asgP (jp_pop 4 (jp_lift (j_callD O_l_take (hr.mono (by decide)) (takes_of rfl rfl rfl rfl) (j_acons (j_var 0) (j_acons (j_bor (j_callB cr_len real_len (by rfl) T.n_len bb_len (j_acons (j_var 4) j_anil))) j_anil))))) (jg_nm 10 nd))
    (js_cons (js_asg (j_ifExp (jt_eq hr (j_var 8) j_int) (j_callD O_l_frac (hr.mono (by decide)) (takes_of rfl rfl rfl rfl) (j_acons (j_callD O_l_take (hr.mono (by decide)) (takes_of rfl rfl rfl rfl) (j_acons (j_var 0) (j_acons j_int j_anil))) (j_acons j_int j_anil))) (j_callD O_l_frac (hr.mono (by decide)) (takes_of rfl rfl rfl rfl) (j_acons (j_callD O_l_of (hr.mono (by decide)) (takes_of rfl rfl rfl rfl) (j_acons (j_var 0) (j_acons (j_var 2) j_anil))) (j_acons (j_add j_int (j_callD O_l_take (hr.mono (by decide)) (takes_of rfl rfl rfl rfl) (j_acons (j_var 0) (j_acons j_int j_anil)))) j_anil)))) (jg_nm 11 nd))
    (js_cons (js_app 5 (j_tup (j_acons (j_subP (j_lst (j_acons j_str (j_acons j_str (j_acons j_str j_anil)))) (j_var 8)) (j_acons (j_var 7) (j_acons (j_var 11) (j_acons (j_var 9) (j_acons (j_var 10) j_anil)))))))
    (js_one (js_frz (fun i => i == 3) (js_own (i := 3) nd (jn_cat (j_var 3) (j_lst (j_acons (j_var 9) (j_acons (j_var 10) j_anil)))))))))))))))
    (js_one (js_frz allS (js_ret (j_tup (j_acons (j_callTy call_tuple_of real_tuple (by rfl) T.n_tuple bb_tuple (j_acons (j_var 5) j_anil)) (j_acons (j_callTy call_tuple_of real_tuple (by rfl) T.n_tuple bb_tuple (j_acons (j_callB (cr_srtA rfl) real_srtA (by rfl) T.n_sorted bb_sorted (j_acons (j_var 3) j_anil)) j_anil)) j_anil))))))))
theorem ok_l_right (T : TF K mg) (R : RawD K mg "_law_right" s_l_right ["_law_box_here"]) (O_l_of : OkD P w K mg base 2 "_law_of" ["_law_box_here", "_law_goods_so"] F_l_of) (O_l_net : OkD P w K mg base 3 "_law_net" ["_law_box_here", "_law_many_so", "_law_sizes_so"] F_l_net) (O_l_take : OkD P w K mg base 1 "_law_take" ["_law_box_here", "_law_size_so"] F_l_take) (O_l_frac : OkD P w K mg base 1 "_law_frac" ["_law_top_so", "_law_low_so"] F_l_frac) (O_l_net_right : OkD P w K mg base 16 "_law_net_right" ["_law_parts_so", "_law_near", "_law_far"] F_l_net_right) : OkD P w K mg base 17 "_law_right" ["_law_box_here"] F_l_right := by
  have nd := sc_l_right.nd
  refine okD (k := 16) (n := 7) (m := M_l_right) R sc_l_right rfl rfl fun _ cdv A outer s H E hr => ?_
  exact (js_cons (js_for (passes_of rfl) rfl (j_range1 (by rfl) T.n_range (j_acons j_int j_anil)) (jg_nm 1 nd)
    (js_cons (js_asg (j_subP (j_callD O_l_net (hr.mono (by decide)) (takes_of rfl rfl rfl rfl) (j_acons (j_var 0) (j_acons j_int (j_acons (j_callD O_l_of (hr.mono (by decide)) (takes_of rfl rfl rfl rfl) (j_acons (j_var 0) (j_acons (j_lst (j_acons (j_lst (j_acons j_int (j_acons j_int (j_acons j_int (j_acons j_int j_anil))))) (j_acons (j_lst (j_acons j_int (j_acons j_int (j_acons j_int j_anil)))) j_anil))) j_anil))) j_anil)))) j_int) (jg_nm 2 nd))
    (js_one (js_for (passes_of rfl) rfl (j_range1 (by rfl) T.n_range (j_acons j_int j_anil)) (jg_nm 3 nd)
    (js_cons (js_asg (j_lc rfl nd (j_range1 (by rfl) T.n_range (j_acons j_int j_anil)) (blkOk_by (own := [("_law_bit", 6)]) (N := ["_law_box_here", "_law_turn", "_law_parts_so", "_law_lap", "_law_near", "_law_far", "_law_bit"]) (sc := defScope s_l_right) (by decide +kernel)) (fun _ _ _ _ _ => (jg_nm 6 nd)) (fun _ _ _ _ _ => j_yes) (fun _ _ _ _ _ => (j_callD O_l_frac (hr.mono (by decide)) takes0 (j_acons (j_callD O_l_take (hr.mono (by decide)) takes0 (j_acons (j_var 0) (j_acons j_int j_anil))) (j_acons (j_add j_int (j_callD O_l_take (hr.mono (by decide)) takes0 (j_acons (j_var 0) (j_acons j_int j_anil)))) j_anil))))) (jg_tp rfl (jgs_cons (jg_nm 4 nd) (jgs_cons (jg_nm 5 nd) jgs_nil))))
    (js_one (js_if (j_tnot (j_test (j_callD O_l_net_right (hr.mono (by decide)) (takes_of rfl rfl rfl rfl) (j_acons (j_var 2) (j_acons (j_var 4) (j_acons (j_var 5) j_anil))))))
    (js_one (js_ret j_bl))
    js_nil)))))))
    (js_one (js_ret j_bl)))
theorem ok_law (T : TF K mg) {fd : FuncData} (F : Fun K "law" "law" s_law (He.ga K "law") fd) (O_l_cells : OkD P w K mg base 1 "_law_cells" ["_law_script", "_law_top_so"] F_l_cells) (O_l_box : OkN P w K mg base 1 "_law_box" ["_law_script", "_law_k"] F_l_box) (O_l_right : OkD P w K mg base 17 "_law_right" ["_law_box_here"] F_l_right) (O_l_by_hand_right : OkD P w K mg base 17 "_law_by_hand_right" [] F_l_by_hand_right) : FnOk P w K mg base (L2.CX P w) 18 (He.ga K "law") fd ["_law_script"] (spM K 1 F_law) := by
  have nd := sc_law.nd
  exact def_ok (k := 17) (m := M_law) F sc_law fun cdv A outer s H E hr =>
    (js_cons (js_asg (j_callD O_l_cells (hr.mono (by decide)) (takes_of rfl rfl rfl rfl) (j_acons (j_var 0) (j_acons j_int j_anil))) (jg_nm 1 nd))
    (js_one (js_ret (j_and (j_call0 O_l_by_hand_right (hr.mono (by decide))) (j_one (j_callB (cr_all rfl) real_all (by rfl) T.n_all bb_all (j_acons (j_lc rfl nd (j_range1 (by rfl) T.n_range (j_acons (j_callB cr_len real_len (by rfl) T.n_len bb_len (j_acons (j_var 1) j_anil)) j_anil)) (blkOk_by (own := [("_law_k", 2)]) (N := ["_law_script", "_law_cells_here", "_law_k"]) (sc := defScope s_law) (by decide +kernel)) (fun _ _ _ _ _ => (jg_nm 2 nd)) (fun _ _ _ _ _ => j_yes) (fun _ _ _ _ _ => (j_callB' O_l_right (hr.mono (by decide)) (j_callN O_l_box (hr.mono (by decide)) (j_acons (j_var 1) (j_acons (j_var 2) j_anil)))))) j_anil)))))))
/-! ### all of them -/
theorem ok_all (T : TF K mg) (R_l_box : RawD K mg "_law_box" s_l_box ["_law_script", "_law_k"]) (R_channels_made : RawD K mg "channels_made" s_channels_made ["part"]) (R_channels_taken : RawD K mg "channels_taken" s_channels_taken ["part"]) (R_p_fits : RawD K mg "_fits" s_p_fits ["part", "free"]) (R_as_tuples : RawD K mg "as_tuples" s_as_tuples ["value"]) (R_Net___init__ : RawI K mg "Net" "Net.__init__" s_Net___init__ ["self", "parts"] [.tup []]) (R_l_frac : RawD K mg "_law_frac" s_l_frac ["_law_top_so", "_law_low_so"]) (R_l_add : RawD K mg "_law_add" s_l_add ["_law_one", "_law_two"]) (R_l_low : RawD K mg "_law_low" s_l_low ["_law_one", "_law_two"]) (R_l_mul : RawD K mg "_law_mul" s_l_mul ["_law_one", "_law_two"]) (R_l_same : RawD K mg "_law_same" s_l_same ["_law_got", "_law_due"]) (R_Net_outlets : RawM K "outlets" "Net.outlets" "Net" s_Net_outlets) (R_Net_parts : RawM K "parts" "Net.parts" "Net" s_Net_parts) (R_is_less : RawD K mg "is_less" s_is_less ["one", "other"]) (R_lesser : RawD K mg "lesser" s_lesser ["one", "other"]) (R_p_lowest : RawD K mg "_lowest" s_p_lowest ["top", "bottom"]) (R_minus : RawD K mg "minus" s_minus ["one", "other"]) (R_plus : RawD K mg "plus" s_plus ["one", "other"]) (R_times : RawD K mg "times" s_times ["one", "other"]) (R_p_amounts : RawD K mg "_amounts" s_p_amounts ["net", "inflow"]) (R_flow : RawD K mg "flow" s_flow ["net", "inflow"]) (R_walked : RawD K mg "walked" s_walked ["net", "inflow"]) (R_walked_x : RawD K mg "walked" s_walked_x ["net", "inflow"]) (R_l_net_right : RawD K mg "_law_net_right" s_l_net_right ["_law_parts_so", "_law_near", "_law_far"]) (R_l_sample : RawD K mg "_law_sample" s_l_sample []) (R_l_by_hand_right : RawD K mg "_law_by_hand_right" s_l_by_hand_right []) (R_l_cells : RawD K mg "_law_cells" s_l_cells ["_law_script", "_law_top_so"]) (R_l_take : RawD K mg "_law_take" s_l_take ["_law_box_here", "_law_size_so"]) (R_l_of : RawD K mg "_law_of" s_l_of ["_law_box_here", "_law_goods_so"]) (R_l_net : RawD K mg "_law_net" s_l_net ["_law_box_here", "_law_many_so", "_law_sizes_so"]) (R_l_right : RawD K mg "_law_right" s_l_right ["_law_box_here"]) {fd : FuncData} (F : Fun K "law" "law" s_law (He.ga K "law") fd) (E_BadPart : ErrO P w K mg base "BadPart" "place") (CL_Net : Cls K (He.ga K "Net")) (NA_Net__parts : NoAttr K (He.ga K "Net") "_parts") (NA_Net__channels : NoAttr K (He.ga K "Net") "_channels") (NA_Net__outlets : NoAttr K (He.ga K "Net") "_outlets") : FnOk P w K mg base (L2.CX P w) 18 (He.ga K "law") fd ["_law_script"] (spM K 1 F_law) := by
  have O_l_box := ok_l_box (P := P) (w := w) (base := base) T R_l_box
  have O_channels_made := ok_channels_made (P := P) (w := w) (base := base) T R_channels_made
  have O_channels_taken := ok_channels_taken (P := P) (w := w) (base := base) T R_channels_taken
  have O_p_fits := ok_p_fits (P := P) (w := w) (base := base) T R_p_fits O_channels_made O_channels_taken
  have O_as_tuples := ok_as_tuples (P := P) (w := w) (base := base) T R_as_tuples 12
  have O_Net___init__ := initO_mk (P := P) (w := w) (base := base) R_Net___init__ fun _ _ _ F => ok_Net___init__ (P := P) (w := w) (base := base) T O_as_tuples O_p_fits O_channels_taken O_channels_made E_BadPart CL_Net NA_Net__parts NA_Net__channels NA_Net__outlets F
  have O_l_frac := ok_l_frac (P := P) (w := w) (base := base) T R_l_frac
  have O_l_add := ok_l_add (P := P) (w := w) (base := base) T R_l_add O_l_frac
  have O_l_low := ok_l_low (P := P) (w := w) (base := base) T R_l_low
  have O_l_mul := ok_l_mul (P := P) (w := w) (base := base) T R_l_mul O_l_frac
  have O_l_same := ok_l_same (P := P) (w := w) (base := base) T R_l_same 12
  have O_Net_outlets := propO_mk (P := P) (w := w) (mg := mg) (base := base) R_Net_outlets CL_Net fun _ _ F b => ok_Net_outlets (P := P) (w := w) (base := base) T CL_Net NA_Net__outlets F b
  have O_Net_parts := propO_mk (P := P) (w := w) (mg := mg) (base := base) R_Net_parts CL_Net fun _ _ F b => ok_Net_parts (P := P) (w := w) (base := base) T CL_Net NA_Net__parts F b
  have O_is_less := ok_is_less (P := P) (w := w) (base := base) T R_is_less
  have O_lesser := ok_lesser (P := P) (w := w) (base := base) T R_lesser O_is_less
  have O_p_lowest := ok_p_lowest (P := P) (w := w) (base := base) T R_p_lowest
  have O_minus := ok_minus (P := P) (w := w) (base := base) T R_minus O_p_lowest
  have O_plus := ok_plus (P := P) (w := w) (base := base) T R_plus O_p_lowest
  have O_times := ok_times (P := P) (w := w) (base := base) T R_times O_p_lowest
  have O_p_amounts := ok_p_amounts (P := P) (w := w) (base := base) T R_p_amounts O_as_tuples O_Net_parts O_plus O_lesser O_times O_minus
  have O_flow := ok_flow (P := P) (w := w) (base := base) T R_flow O_p_amounts O_Net_outlets
  have O_walked := ok_walked (P := P) (w := w) (base := base) T R_walked O_p_amounts
  have O_walked_x := ok_walked_x (P := P) (w := w) (base := base) T R_walked_x O_p_amounts
  have O_l_net_right := ok_l_net_right (P := P) (w := w) (base := base) T R_l_net_right O_Net___init__ O_flow O_l_add O_walked_x O_walked O_l_low O_l_mul O_l_same
  have O_l_sample := ok_l_sample (P := P) (w := w) (base := base) T R_l_sample
  have O_l_by_hand_right := ok_l_by_hand_right (P := P) (w := w) (base := base) T R_l_by_hand_right O_l_sample O_l_net_right
  have O_l_cells := ok_l_cells (P := P) (w := w) (base := base) T R_l_cells
  have O_l_take := ok_l_take (P := P) (w := w) (base := base) T R_l_take
  have O_l_of := ok_l_of (P := P) (w := w) (base := base) T R_l_of O_l_take
  have O_l_net := ok_l_net (P := P) (w := w) (base := base) T R_l_net O_l_take O_l_frac O_l_of
  have O_l_right := ok_l_right (P := P) (w := w) (base := base) T R_l_right O_l_of O_l_net O_l_take O_l_frac O_l_net_right
  have O_law := ok_law (P := P) (w := w) (base := base) T F O_l_cells O_l_box O_l_right O_l_by_hand_right
  exact O_law
end
end GG

namespace GG
open PySem PySem.Spec L2 Mi
theorem gEqB_str (s t : Str) (hs : PyData.strOk s = true) (ht : PyData.strOk t = true) : gEqB (.str s) (.str t) = some (s == t) := by
  have h1 : ∀ s : Str, PyData.strOk s = true → (PyData.str s).canLay0 = true := fun s h => by simp [PyData.canLay0, h]
  have h2 : ∀ s : Str, (PyData.str s).depth ≤ 64 := fun s => by first | (show 0 ≤ 64; decide) | (show 1 ≤ 64; decide) | simp [PyData.depth]
  have h3 : (PyData.str s).eqv (PyData.str t) = (s == t) := by first | rfl | simp [PyData.eqv]
  simp [gEqB, D.py, SeqAt.shaped, h1 s hs, h1 t ht, h2, h3]
theorem gEqB_int (i j : Int) : gEqB (.int i) (.int j) = some (i == j) := rfl
theorem gEqB_bl (i j : Bool) : gEqB (.bl i) (.bl j) = some (i == j) := by cases i <;> cases j <;> rfl
/-- flat data of depth n -/
def plain : Nat → D → Bool
  | 0, _ => false
  | _ + 1, .str s => PyData.strOk s
  | _ + 1, .int _ => true
  | _ + 1, .bl _ => true
  | _ + 1, .non => true
  | n + 1, .lst ds => ds.all (plain n) && decide (ds.length ≤ 100)
  | n + 1, .tup ds => ds.all (plain n) && decide (ds.length ≤ 100)
  | _ + 1, _ => false
theorem same_run {m : MM D} {ρ : En} (i3 : 3 < ρ.length) : ∀ (ds : List D) (acc : List D) (x : Bx), (∀ d ∈ ds, ∀ ρ' x, ρ'[2]? = some (.fz d) → ρ'[3]? = some (.fz d) → m ρ' x = .val (.bl true) x) → acc.length + ds.length ≤ 100 →
    lcRun (.tp [2, 3]) mYes m ρ (zipD ds ds) acc x = .val (acc ++ List.replicate ds.length (.bl true)) x
  | [], acc, x, _, _ => by
    show (R.val acc x : R (List D)) = .val (acc ++ []) x
    rw [List.append_nil]
  | d :: ds, acc, x, h, hl => by
    have hl' : acc.length + (ds.length + 1) ≤ 100 := hl
    have hb : acc.length < big := by
      unfold big
      omega
    have ih := same_run (m := m) i3 ds (acc ++ [.bl true]) x (fun d hd => h d (List.mem_cons_of_mem _ hd)) (by rw [List.length_append]; show acc.length + 1 + _ ≤ _; omega)
    have hm := h d (List.mem_cons_self ..) ((ρ.set 2 (.fz d)).set 3 (.fz d)) x (by rw [List.getElem?_set_ne (by decide), List.getElem?_set_self (by omega)]) (by rw [List.getElem?_set_self (by rw [List.length_set]; omega)])
    show (match m ((ρ.set 2 (.fz d)).set 3 (.fz d)) x with
        | .val e x2 => if acc.length < big then lcRun (.tp [2, 3]) mYes m ρ (zipD ds ds) (acc ++ [e]) x2 else .out
        | _ => .out) = _
    rw [hm]
    show (if acc.length < big then lcRun (.tp [2, 3]) mYes m ρ (zipD ds ds) (acc ++ [.bl true]) x else .out) = _
    rw [if_pos hb, ih, List.append_assoc]
    rfl
theorem asBs_rep : ∀ n, asBs (List.replicate n (.bl true)) = some (List.replicate n true)
  | 0 => rfl
  | n + 1 => by
    rw [List.replicate_succ, List.replicate_succ]
    unfold asBs
    rw [asBs_rep n]
    rfl
theorem isiA_str (s : Str) : isi ["list", "tuple"] (.str s) = some false := by simp [isi, isi1, tyN, tyIs]
theorem isiA_int (s : Int) : isi ["list", "tuple"] (.int s) = some false := by simp [isi, isi1, tyN, tyIs]
theorem isiA_lst (s : List D) : isi ["list", "tuple"] (.lst s) = some true := by simp [isi, isi1, tyN, tyIs]
theorem isiA_tup (s : List D) : isi ["list", "tuple"] (.tup s) = some true := by simp [isi, isi1, tyN, tyIs]
theorem isiB_str (s : Str) : isi ["bool", "str"] (.str s) = some true := by simp [isi, isi1, tyN, tyIs]
theorem isiB_int (s : Int) : isi ["bool", "str"] (.int s) = some false := by simp [isi, isi1, tyN, tyIs]
theorem isi1_b_str (s : Str) : isi1 "bool" (.str s) = some false := by simp [isi1, tyN, tyIs]
theorem isi1_b_int (s : Int) : isi1 "bool" (.int s) = some false := by simp [isi1, tyN, tyIs]
theorem isi1_i_int (s : Int) : isi1 "int" (.int s) = some true := by simp [isi1, tyN, tyIs]
theorem isi1_l_lst (s : List D) : isi1 "list" (.lst s) = some true := by simp [isi1, tyN, tyIs]
theorem isi1_l_tup (s : List D) : isi1 "list" (.tup s) = some false := by simp [isi1, tyN, tyIs]
theorem isi1_t_tup (s : List D) : isi1 "tuple" (.tup s) = some true := by simp [isi1, tyN, tyIs]
theorem isi1_t_lst (s : List D) : isi1 "tuple" (.lst s) = some false := by simp [isi1, tyN, tyIs]
theorem isiA_bl (s : Bool) : isi ["list", "tuple"] (.bl s) = some false := by simp [isi, isi1, tyN, tyIs]
theorem isiA_non : isi ["list", "tuple"] .non = some false := by simp [isi, isi1, tyN, tyIs]
theorem isiB_bl (s : Bool) : isi ["bool", "str"] (.bl s) = some true := by simp [isi, isi1, tyN, tyIs]
theorem isi1_b_bl (s : Bool) : isi1 "bool" (.bl s) = some true := by simp [isi1, tyN, tyIs]
theorem isi1_b_non : isi1 "bool" .non = some false := by simp [isi1, tyN, tyIs]
theorem isi1_s_str (s : Str) : isi1 "str" (.str s) = some true := by simp [isi1, tyN, tyIs]
theorem isi1_s_tup (s : List D) : isi1 "str" (.tup s) = some false := by simp [isi1, tyN, tyIs]
theorem same_lc {n : Nat} {ds : List D} {z : D} (ih : ∀ d ∈ ds, ∀ x, F_l_same n [d, d] x = .val (.bl true) x) (hl : ds.length ≤ 100) (hz : z = .lst ds ∨ z = .tup ds) (x : Bx) :
    mLc (mBind (mCons (mVar 0) (mCons (mVar 1) mNil)) fun ds => oB (gZip ds)) (.tp [2, 3]) mYes (mDef 2 (F_l_same n) (mCons (mVar 2) (mCons (mVar 3) mNil))) [2, 3] [.fz z, .fz z, .un, .un] x = .val (.lst (List.replicate ds.length (.bl true))) x := by
  have run := fun ρ i3 => same_run (ρ := ρ) (m := mDef 2 (F_l_same n) (mCons (mVar 2) (mCons (mVar 3) mNil))) i3 ds [] x (fun d hd ρ' x e2 e3 => by simp [mDef, mBind, mCons, mVar, mNil, R.bind, e2, e3, ih d hd]) (by simpa using hl)
  have e : (mBind (mCons (mVar 0) (mCons (mVar 1) mNil)) fun ds => oB (gZip ds)) [.fz z, .fz z, .un, .un] x = .val (zipD ds ds) x := by
    rcases hz with rfl | rfl <;> simp [mBind, mCons, mVar, mNil, R.bind, gZip, oB]
  unfold mLc mLcL mBind
  show R.bind (match (mBind (mCons (mVar 0) (mCons (mVar 1) mNil)) fun ds => oB (gZip ds)) [.fz z, .fz z, .un, .un] x with
    | .val ds x1 => lcRun _ _ _ _ ds [] x1
    | .exc c fs x1 => .exc c fs x1
    | .out => .out) _ = _
  rw [e]
  show R.bind (lcRun _ _ _ _ (zipD ds ds) [] x) _ = _
  rw [run _ (by simp [wipeE, shut])]
  rfl
theorem same_refl : ∀ (n : Nat) (d : D), plain n d = true → ∀ x, F_l_same n [d, d] x = .val (.bl true) x
  | 0, _, h, _ => nomatch h
  | n + 1, .str s, h, x => by
    have hs := gEqB_str s s h h
    simp [F_l_same, M_l_same, mirror, startE, mSeq, mIfS, mE, mTru, mTst, mIsi2, mIsi, mVar, mBind, R.bind, o1, oB, gTru, mNext, mTOr, mOp, gIsN, mC, gTst, mRet, mAndV, asB, gEq, hs, gEqB_bl, isiA_str, isiB_str, isi1_b_str]
  | n + 1, .int i, _, x => by
    simp [F_l_same, M_l_same, mirror, startE, mSeq, mIfS, mE, mTru, mTst, mIsi2, mIsi, mVar, mBind, R.bind, o1, oB, gTru, mNext, mTOr, mOp, gIsN, mC, gTst, mRet, mAndV, asB, gEq, gEqB_int, gEqB_bl, isiA_int, isiB_int, isi1_b_int, isi1_i_int, mNotV]
  | n + 1, .lst ds, h, x => by
    unfold plain at h
    rw [Bool.and_eq_true, List.all_eq_true] at h
    have hLc := same_lc (n := n) (ds := ds) (z := .lst ds) (fun d hd => same_refl n d (h.1 d hd)) (of_decide_eq_true h.2) (by first | exact .inl rfl | exact .inr rfl) x
    show mirror 4 (M_l_same (F_l_same n)) _ _ = _
    unfold M_l_same mirror
    revert hLc
    generalize (mLc (mBind (mCons (mVar 0) (mCons (mVar 1) mNil)) fun ds => oB (gZip ds)) (.tp [2, 3]) mYes (mDef 2 (F_l_same n) (mCons (mVar 2) (mCons (mVar 3) mNil))) [2, 3]) = E
    intro hLc
    simp [startE, mSeq, mIfS, mE, mTru, mTst, mIsi2, mIsi, mVar, mBind, R.bind, o1, oB, gTru, mNext, mTOr, mOp, gIsN, mC, gTst, mRet, mAndV, asB, gEq, gNe, gEqB_int, gEqB_bl, isiA_lst, isi1_l_lst, isi1_t_lst, mNotV, mCall, mCons, mNil, gLen, gAll, asBs_rep, hLc]
  | n + 1, .tup ds, h, x => by
    unfold plain at h
    rw [Bool.and_eq_true, List.all_eq_true] at h
    have hLc := same_lc (n := n) (ds := ds) (z := .tup ds) (fun d hd => same_refl n d (h.1 d hd)) (of_decide_eq_true h.2) (by first | exact .inl rfl | exact .inr rfl) x
    show mirror 4 (M_l_same (F_l_same n)) _ _ = _
    unfold M_l_same mirror
    revert hLc
    generalize (mLc (mBind (mCons (mVar 0) (mCons (mVar 1) mNil)) fun ds => oB (gZip ds)) (.tp [2, 3]) mYes (mDef 2 (F_l_same n) (mCons (mVar 2) (mCons (mVar 3) mNil))) [2, 3]) = E
    intro hLc
    simp [startE, mSeq, mIfS, mE, mTru, mTst, mIsi2, mIsi, mVar, mBind, R.bind, o1, oB, gTru, mNext, mTOr, mOp, gIsN, mC, gTst, mRet, mAndV, asB, gEq, gNe, gEqB_int, gEqB_bl, isiA_tup, isi1_l_tup, isi1_t_tup, mNotV, mCall, mCons, mNil, gLen, gAll, asBs_rep, hLc]
  | n + 1, .non, h, x => by
    have hs : gEqB .non .non = some true := rfl
    simp [F_l_same, M_l_same, mirror, startE, mSeq, mIfS, mE, mTru, mTst, mIsi2, mIsi, mVar, mBind, R.bind, o1, oB, gTru, mNext, mTOr, mOp, gIsN, mC, gTst, mRet, mAndV, asB, gEq, hs, gEqB_bl, isiA_non, isi1_b_non]
  | n + 1, .bl c, h, x => by
    simp [F_l_same, M_l_same, mirror, startE, mSeq, mIfS, mE, mTru, mTst, mIsi2, mIsi, mVar, mBind, R.bind, o1, oB, gTru, mNext, mTOr, mOp, gIsN, mC, gTst, mRet, mAndV, asB, gEq, gEqB_bl, isiA_bl, isiB_bl, isi1_b_bl]
  | n + 1, .dct _, h, x => nomatch h
  | n + 1, .obj .., h, x => nomatch h
  | n + 1, .err .., h, x => nomatch h
  | n + 1, .fn .., h, x => nomatch h
  | n + 1, .box, h, x => nomatch h
  | n + 1, .scr _, h, x => nomatch h
mutual
def eqD : D → D → Bool
  | .non, .non => true
  | .bl a, .bl b => a == b
  | .int a, .int b => decide (a = b)
  | .str a, .str b => decide (a.cps.toList = b.cps.toList)
  | .lst a, .lst b => eqDs a b
  | .tup a, .tup b => eqDs a b
  | _, _ => false
def eqDs : List D → List D → Bool
  | [], [] => true
  | a :: as, b :: bs => eqD a b && eqDs as bs
  | _, _ => false
end
mutual
theorem eqD_ok : ∀ a b, eqD a b = true → a = b
  | .non, .non, _ => rfl
  | .bl a, .bl b, h => by
    unfold eqD at h
    rw [eq_of_beq h]
  | .int a, .int b, h => by
    unfold eqD at h
    rw [of_decide_eq_true h]
  | .str a, .str b, h => by
    unfold eqD at h
    rw [TL.ext_tl (of_decide_eq_true h)]
  | .lst a, .lst b, h => by
    unfold eqD at h
    rw [eqDs_ok a b h]
  | .tup a, .tup b, h => by
    unfold eqD at h
    rw [eqDs_ok a b h]
theorem eqDs_ok : ∀ a b, eqDs a b = true → a = b
  | [], [], _ => rfl
  | a :: as, b :: bs, h => by
    unfold eqDs at h
    rw [Bool.and_eq_true] at h
    rw [eqD_ok a b h.1, eqDs_ok as bs h.2]
end
def okv (d : D) (r : R D) : Bool := match r with
  | .val e _ => eqD d e
  | _ => false
theorem okv_at {f : Mr} (h : PuF f) {ds : List D} {d : D} (e : okv d (f ds b0) = true) (x : Bx) : f ds x = .val d x := by
  cases e1 : f ds b0 with
  | val e2 y =>
    rw [e1] at e
    have e3 := eqD_ok d e2 e
    subst e3
    exact h.at e1 x
  | exc _ _ _ =>
    rw [e1] at e
    cases e
  | out =>
    rw [e1] at e
    cases e
end GG

namespace GG
open PySem PySem.Spec L2 Mi
/-- how far Euclid comes in k steps -/
def Fb : Nat → Nat
  | 0 => 1
  | 1 => 2
  | k + 2 => Fb (k + 1) + Fb k
def fbs : Nat → Nat × Nat
  | 0 => (1, 2)
  | k + 1 => ((fbs k).2, (fbs k).2 + (fbs k).1)
theorem fbs_ok : ∀ k, fbs k = (Fb k, Fb (k + 1))
  | 0 => rfl
  | k + 1 => by
    unfold fbs
    rw [fbs_ok k]
    rfl
theorem fb_big : 2 ^ 240 < Fb 400 := by
  have : 2 ^ 240 < (fbs 400).1 := by decide +kernel
  rwa [fbs_ok] at this
def EB : MS := mSeq (mIfS (mTst (mOp (fun a b => o1 (gEq a b)) (mVar 3) (mC (.int 0)))) (fun ρ x => .brk ρ x) mNext)
    (mPar 2 3 (mCons (mVar 3) (mCons (mOp (fun a b => o1 (gMod a b)) (mVar 2) (mVar 3)) mNil)))
section
variable {t l s4 : Slot} {x : Bx}
theorem eb_zero {a : Int} : EB [t, l, .fz (.int a), .fz (.int 0), s4] x = .brk [t, l, .fz (.int a), .fz (.int 0), s4] x := by
  simp [EB, mSeq, mIfS, mE, mTst, mOp, mBind, R.bind, mVar, mC, o1, gEq, gEqB_int, gTst, oB]
theorem eb_step {a b : Nat} (h : 0 < b) : EB [t, l, .fz (.int a), .fz (.int b), s4] x = .nx [t, l, .fz (.int b), .fz (.int ((a % b : Nat) : Int)), s4] x := by
  have h0 : ((b : Int) == 0) = false := by
    rw [beq_eq_false_iff_ne]
    omega
  have h1 : (0 : Int) < b := by omega
  simp [EB, mSeq, mIfS, mE, mTst, mOp, mBind, R.bind, mVar, mC, o1, gEq, gEqB_int, gTst, oB, h0, mNext, mPar, mCons, mNil, gMod, gI, h]
theorem eu_loop (k : Nat) : (∀ (ds : List D) (a b : Nat) (s4 : Slot), b < Fb k → k ≤ ds.length → ∃ s4', loopS (.nm 4) EB ds [t, l, .fz (.int a), .fz (.int b), s4] x = .nx [t, l, .fz (.int ((Nat.gcd a b : Nat) : Int)), .fz (.int 0), s4'] x) ∧
    (∀ (ds : List D) (a b : Nat) (s4 : Slot), b < Fb (k + 1) → k + 1 ≤ ds.length → ∃ s4', loopS (.nm 4) EB ds [t, l, .fz (.int a), .fz (.int b), s4] x = .nx [t, l, .fz (.int ((Nat.gcd a b : Nat) : Int)), .fz (.int 0), s4'] x) := by
  have zero : ∀ (ds : List D) (a : Nat) (s4 : Slot), ∃ s4', loopS (.nm 4) EB ds [t, l, .fz (.int a), .fz (.int 0), s4] x = .nx [t, l, .fz (.int a), .fz (.int 0), s4'] x := fun ds a s4 => by
    cases ds with
    | nil => exact ⟨s4, rfl⟩
    | cons d ds =>
      refine ⟨.fz d, ?_⟩
      show (match EB [t, l, .fz (.int a), .fz (.int 0), .fz d] x with
        | .nx ρ2 x2 => loopS (.nm 4) EB ds ρ2 x2
        | .cnt ρ2 x2 => loopS (.nm 4) EB ds ρ2 x2
        | .brk ρ2 x2 => .nx ρ2 x2
        | r => r) = _
      rw [eb_zero]
  have step : ∀ (d : D) (ds : List D) (a b : Nat) (s4 : Slot), 0 < b → loopS (.nm 4) EB (d :: ds) [t, l, .fz (.int a), .fz (.int b), s4] x = loopS (.nm 4) EB ds [t, l, .fz (.int b), .fz (.int ((a % b : Nat) : Int)), .fz d] x := fun d ds a b s4 h => by
    show (match EB [t, l, .fz (.int a), .fz (.int b), .fz d] x with
        | .nx ρ2 x2 => loopS (.nm 4) EB ds ρ2 x2
        | .cnt ρ2 x2 => loopS (.nm 4) EB ds ρ2 x2
        | .brk ρ2 x2 => .nx ρ2 x2
        | r => r) = _
    rw [eb_step h]
  have g0 : ∀ a b : Nat, 0 < b → Nat.gcd b (a % b) = Nat.gcd a b := fun a b h => by
    rw [Nat.gcd_comm a b, Nat.gcd_rec b a, Nat.gcd_comm]
  induction k with
  | zero =>
    refine ⟨fun ds a b s4 hb _ => ?_, fun ds a b s4 hb hl => ?_⟩
    · obtain rfl : b = 0 := by
        unfold Fb at hb
        omega
      rw [Nat.gcd_zero_right]
      exact zero ds a s4
    · have hb : b < 2 := hb
      by_cases h : b = 0
      · subst h
        rw [Nat.gcd_zero_right]
        exact zero ds a s4
      · obtain rfl : b = 1 := by omega
        obtain ⟨d, ds', rfl⟩ : ∃ d ds', ds = d :: ds' := by
          cases ds with
          | nil => simp at hl
          | cons d ds' => exact ⟨d, ds', rfl⟩
        rw [step d ds' a 1 s4 (by decide), Nat.mod_one, Nat.gcd_one_right]
        exact zero ds' 1 (.fz d)
  | succ k ih =>
    obtain ⟨h1, h2⟩ := ih
    refine ⟨h2, fun ds a b s4 hb hl => ?_⟩
    by_cases h : b = 0
    · subst h
      rw [Nat.gcd_zero_right]
      exact zero ds a s4
    · obtain ⟨d, ds', rfl⟩ : ∃ d ds', ds = d :: ds' := by
        cases ds with
        | nil => simp at hl
        | cons d ds' => exact ⟨d, ds', rfl⟩
      rw [step d ds' a b s4 (by omega), ← g0 a b (by omega)]
      rw [List.length_cons] at hl
      have hr : a % b < b := Nat.mod_lt _ (by omega)
      by_cases hc : a % b < Fb (k + 1)
      · exact h2 ds' b (a % b) (.fz d) hc (by omega)
      · obtain ⟨e, es, rfl⟩ : ∃ d zs, ds' = d :: zs := by
          cases ds' with
          | nil => simp at hl
          | cons d ds' => exact ⟨d, ds', rfl⟩
        have hf : 0 < Fb (k + 1) := by
          have : ∀ k, 0 < Fb k ∧ 0 < Fb (k + 1) := fun k => by
            induction k with
            | zero => exact ⟨by decide, by decide⟩
            | succ k ih => exact ⟨ih.2, by show 0 < Fb (k + 1) + Fb k; omega⟩
          exact (this k).2
        rw [step e es b (a % b) (.fz d) (by omega), ← g0 b (a % b) (by omega)]
        rw [List.length_cons] at hl
        refine h1 es (a % b) (b % (a % b)) (.fz e) ?_ (by omega)
        have hb : b < Fb (k + 1) + Fb k := hb
        have m1 : b % (a % b) ≤ b - a % b := by
          rw [Nat.mod_eq_sub_mod (by omega)]
          exact Nat.mod_le _ _
        omega
end
theorem rng400 : ∃ ks, gRng [.int 400] = some ks ∧ ks.length = 400 := ⟨_, rfl, by simp [rng]⟩
theorem frac_ok {n d : Int} (hd : 0 < d) (hb : d < 2 ^ 240) (x : Bx) : F_l_frac [.int n, .int d] x = .val (frR (Rat.divInt n d)) x := by
  obtain ⟨ks, ek, hks⟩ := rng400
  have ed : d = ((d.natAbs : Nat) : Int) := by omega
  have hlt : d.natAbs < Fb 400 := Nat.lt_trans (by omega) fb_big
  obtain ⟨s4, el⟩ := (eu_loop (t := .fz (.int n)) (l := .fz (.int d)) (x := x) 400).1 ks n.natAbs d.natAbs .un hlt (by omega)
  rw [← ed] at el
  have gp : 0 < Nat.gcd n.natAbs d.natAbs := Nat.gcd_pos_of_pos_right _ (by omega)
  have gl : Nat.gcd n.natAbs d.natAbs ≤ d.natAbs := Nat.gcd_le_right _ (by omega)
  have gg : lg ((Nat.gcd n.natAbs d.natAbs : Nat) : Int) < 9000 := Nat.lt_trans (lg_of (k := 240) (by omega) (by decide)) (by decide)
  have gp' : (0 : Int) < ((Nat.gcd n.natAbs d.natAbs : Nat) : Int) := by omega
  have p0 : (mPar 2 3 (mCons (mCall gAbs (mCons (mVar 0) mNil)) (mCons (mVar 1) mNil))) [.fz (.int n), .fz (.int d), .un, .un, .un] x = .nx [.fz (.int n), .fz (.int d), .fz (.int ((n.natAbs : Nat) : Int)), .fz (.int d), .un] x := by
    have ea : (if n < 0 then -n else n) = ((n.natAbs : Nat) : Int) := by split <;> omega
    simp [mPar, mE, mBind, R.bind, mCons, mNil, mCall, mVar, gAbs, o1, ea]
  have p1 : (mBind (mCons (mC (.int 400)) mNil) fun ds => oB (gRng ds)) [.fz (.int n), .fz (.int d), .fz (.int ((n.natAbs : Nat) : Int)), .fz (.int d), .un] x = .val ks x := by
    simp [mBind, mCons, mNil, R.bind, mC, oB, ek]
  have e0 : F_l_frac [.int n, .int d] x = (match (mSeq (mPar 2 3 (mCons (mCall gAbs (mCons (mVar 0) mNil)) (mCons (mVar 1) mNil))) (mSeq (mFor (mBind (mCons (mC (.int 400)) mNil) fun ds => oB (gRng ds)) (.nm 4) EB)
      (mRet (mTup (mCons (mOp (fun a b => o1 (gDiv a b)) (mVar 0) (mVar 2)) (mCons (mOp (fun a b => o1 (gDiv a b)) (mVar 1) (mVar 2)) mNil)))))) [.fz (.int n), .fz (.int d), .un, .un, .un] x with
    | .nx _ x' => R.val D.non x'
    | .ret d x' => .val d x'
    | .exc c fs _ x' => .exc c fs x'
    | _ => .out) := rfl
  rw [e0, ← low_rat hd]
  revert p0 p1 el gp' gg
  unfold low lowN lowD fr
  generalize ((Nat.gcd n.natAbs d.natAbs : Nat) : Int) = G
  generalize EB = B
  generalize (mBind (mCons (mC (.int 400)) mNil) fun ds => oB (gRng ds)) = I
  generalize (mPar 2 3 (mCons (mCall gAbs (mCons (mVar 0) mNil)) (mCons (mVar 1) mNil))) = P0
  intro el gg gp' p0 p1
  simp [mSeq, p0, mFor, mE, p1, el, mRet, mTup, mBind, R.bind, mCons, mNil, mVar, mOp, gDiv, gI, o1, gp', gg, bl]
theorem lowest_ok {n d : Int} (hd : 0 < d) (hb : d < 2 ^ 240) (x : Bx) : F_p_lowest [.int n, .int d] x = .val (frR (Rat.divInt n d)) x := by
  have gp : 0 < Nat.gcd n.natAbs d.natAbs := Nat.gcd_pos_of_pos_right _ (by omega)
  have gl : Nat.gcd n.natAbs d.natAbs ≤ d.natAbs := Nat.gcd_le_right _ (by omega)
  have gg : lg ((Nat.gcd n.natAbs d.natAbs : Nat) : Int) < 9000 := Nat.lt_trans (lg_of (k := 240) (by omega) (by decide)) (by decide)
  have gp' : (0 : Int) < ((Nat.gcd n.natAbs d.natAbs : Nat) : Int) := by omega
  have ec : gGcd [.int n, .int d] = some (.int ((Nat.gcd n.natAbs d.natAbs : Nat) : Int)) := rfl
  rw [← low_rat hd]
  unfold low lowN lowD fr
  revert gp' gg ec
  generalize ((Nat.gcd n.natAbs d.natAbs : Nat) : Int) = G
  intro gg gp' ec
  simp [F_p_lowest, M_p_lowest, mirror, startE, mSeq, mAsg, Tg.asg, mE, mCall, mBind, R.bind, mCons, mNil, mVar, ec, o1, mRet, mTup, mOp, gDiv, gI, gp', gg, bl]
theorem pow_lt {m k l : Nat} (h : m < 2 ^ k) (e : k ≤ l) : (m : Int) < 2 ^ l := by
  have := Nat.lt_of_lt_of_le h (Nat.pow_le_pow_right (by decide) e)
  exact_mod_cast this
theorem opsI {n d m e : Int} {V : Int → D} {x : Bx} (k1 : okMul n e = true) (k2 : okMul m d = true) (k3 : okMul d e = true) (k4 : okMul n m = true) (f1 : ∀ i, F_l_frac [.int i, .int (d * e)] x = .val (V i) x) (f2 : ∀ i, F_p_lowest [.int i, .int (d * e)] x = .val (V i) x) :
    F_plus [fr n d, fr m e] x = .val (V (n * e + m * d)) x ∧ F_l_add [fr n d, fr m e] x = .val (V (n * e + m * d)) x ∧
    F_minus [fr n d, fr m e] x = .val (V (n * e - m * d)) x ∧
    F_times [fr n d, fr m e] x = .val (V (n * m)) x ∧ F_l_mul [fr n d, fr m e] x = .val (V (n * m)) x ∧
    F_is_less [fr n d, fr m e] x = .val (.bl (decide (n * e < m * d))) x ∧ F_l_low [fr n d, fr m e] x = .val (.bl (decide (n * e < m * d))) x := by
  refine ⟨?_, ?_, ?_, ?_, ?_, ?_, ?_⟩
  · simp [F_plus, M_plus, mirror, startE, mRet, mE, mDef, mBind, R.bind, mCons, mNil, mOp, mVar, mC, o1, gIx, fr, at2_0, at2_1, gMulI, gI, k1, k2, k3, gAdd, f2]
  · simp [F_l_add, M_l_add, mirror, startE, mRet, mE, mDef, mBind, R.bind, mCons, mNil, mOp, mVar, mC, o1, gIx, fr, at2_0, at2_1, gMulI, gI, k1, k2, k3, gAdd, f1]
  · simp [F_minus, M_minus, mirror, startE, mRet, mE, mDef, mBind, R.bind, mCons, mNil, mOp, mVar, mC, o1, gIx, fr, at2_0, at2_1, gMulI, gI, k1, k2, k3, Mi.gSub, f2]
  · simp [F_times, M_times, mirror, startE, mRet, mE, mDef, mBind, R.bind, mCons, mNil, mOp, mVar, mC, o1, gIx, fr, at2_0, at2_1, gMulI, gI, k3, k4, f2]
  · simp [F_l_mul, M_l_mul, mirror, startE, mRet, mE, mDef, mBind, R.bind, mCons, mNil, mOp, mVar, mC, o1, gIx, fr, at2_0, at2_1, gMulI, gI, k3, k4, f1]
  · simp [F_is_less, M_is_less, mirror, startE, mRet, mE, mBind, R.bind, mOp, mVar, mC, o1, gIx, fr, at2_0, at2_1, gMulI, gI, k1, k2, gLt]
  · simp [F_l_low, M_l_low, mirror, startE, mRet, mE, mBind, R.bind, mOp, mVar, mC, o1, gIx, fr, at2_0, at2_1, gMulI, gI, k1, k2, gLt]
section
variable {k : Nat} {a b : Rat}
theorem ops (h1 : Bq k a) (h2 : Bq k b) (hk : 0 < k) (hk' : k ≤ 119) (x : Bx) :
    F_plus [frR a, frR b] x = .val (frR (a + b)) x ∧ F_l_add [frR a, frR b] x = .val (frR (a + b)) x ∧
    F_minus [frR a, frR b] x = .val (frR (a - b)) x ∧
    F_times [frR a, frR b] x = .val (frR (a * b)) x ∧ F_l_mul [frR a, frR b] x = .val (frR (a * b)) x ∧
    F_is_less [frR a, frR b] x = .val (.bl (decide (a < b))) x ∧ F_l_low [frR a, frR b] x = .val (.bl (decide (a < b))) x := by
  have hp : (0 : Int) < (a.den : Int) * b.den := Int.mul_pos (pos_den a) (pos_den b)
  have hb2 : (a.den : Int) * b.den < 2 ^ 240 := by
    have e : a.den * b.den < 2 ^ (k + k) := by
      rw [Nat.pow_add]
      exact Nat.mul_lt_mul'' h1.2 h2.2
    rw [← Int.natCast_mul]
    exact pow_lt e (by omega)
  have d1 : (a.den : Int).natAbs < 2 ^ k := by rw [Int.natAbs_natCast]; exact h1.2
  have d2 : (b.den : Int).natAbs < 2 ^ k := by rw [Int.natAbs_natCast]; exact h2.2
  have h := opsI (n := a.num) (d := a.den) (m := b.num) (e := b.den) (x := x) (okm h1.1 d2 hk (by omega)) (okm h2.1 d1 hk (by omega)) (okm d1 d2 hk (by omega)) (okm h1.1 h2.1 hk (by omega)) (fun i => frac_ok (n := i) hp hb2 x) (fun i => lowest_ok (n := i) hp hb2 x)
  rw [add_rat, sub_rat, mul_rat, lt_rat] at h
  exact h
theorem lesser_ok (h1 : Bq k a) (h2 : Bq k b) (hk : 0 < k) (hk' : k ≤ 119) (x : Bx) : F_lesser [frR a, frR b] x = .val (frR (if a < b then a else b)) x := by
  have h := (ops h1 h2 hk hk' x).2.2.2.2.2.1
  by_cases c : a < b
  · rw [decide_eq_true c] at h
    rw [if_pos c]
    simp [F_lesser, M_lesser, mirror, startE, mRet, mE, mIf, mTru, mDef, mBind, R.bind, mCons, mNil, mVar, h, gTru, oB]
  · rw [decide_eq_false c] at h
    rw [if_neg c]
    simp [F_lesser, M_lesser, mirror, startE, mRet, mE, mIf, mTru, mDef, mBind, R.bind, mCons, mNil, mVar, h, gTru, oB]
end
end GG

namespace GG
open PySem PySem.Spec L2 Mi
/-- a PART -/
inductive Pa where
  | jn (a b c : Str)
  | dv (a : Str) (q : Rat) (c e : Str)
  | wr (a : Str) (q : Rat) (c e : Str)
def Pa.d : Pa → D
  | .jn a b c => .tup [.str "join", .str a, .str b, .str c]
  | .dv a q c e => .tup [.str "divide", .str a, frR q, .str c, .str e]
  | .wr a q c e => .tup [.str "weir", .str a, frR q, .str c, .str e]
def Pa.takes : Pa → List Str
  | .jn a b _ => [a, b]
  | .dv a _ _ _ => [a]
  | .wr a _ _ _ => [a]
def Pa.makes : Pa → List Str
  | .jn _ _ c => [c]
  | .dv _ _ c e => [c, e]
  | .wr _ _ c e => [c, e]
theorem at4_0 {a b c d : D} : atI [a, b, c, d] 0 = some a := rfl
theorem at4_1 {a b c d : D} : atI [a, b, c, d] 1 = some b := rfl
theorem at4_2 {a b c d : D} : atI [a, b, c, d] 2 = some c := rfl
theorem at4_3 {a b c d : D} : atI [a, b, c, d] 3 = some d := rfl
theorem at5_0 {a b c d e : D} : atI [a, b, c, d, e] 0 = some a := rfl
theorem at5_1 {a b c d e : D} : atI [a, b, c, d, e] 1 = some b := rfl
theorem at5_2 {a b c d e : D} : atI [a, b, c, d, e] 2 = some c := rfl
theorem at5_3 {a b c d e : D} : atI [a, b, c, d, e] 3 = some d := rfl
theorem at5_4 {a b c d e : D} : atI [a, b, c, d, e] 4 = some e := rfl
theorem q1 : gEqB (.str "join") (.str "join") = some true := by rw [gEqB_str _ _ (by decide +kernel) (by decide +kernel)]; decide +kernel
theorem q2 : gEqB (.str "divide") (.str "join") = some false := by rw [gEqB_str _ _ (by decide +kernel) (by decide +kernel)]; decide +kernel
theorem q3 : gEqB (.str "weir") (.str "join") = some false := by rw [gEqB_str _ _ (by decide +kernel) (by decide +kernel)]; decide +kernel
theorem q4 : gEqB (.str "weir") (.str "weir") = some true := by rw [gEqB_str _ _ (by decide +kernel) (by decide +kernel)]; decide +kernel
theorem q5 : gEqB (.str "divide") (.str "weir") = some false := by rw [gEqB_str _ _ (by decide +kernel) (by decide +kernel)]; decide +kernel
theorem q6 : gEqB (.str "divide") (.str "divide") = some true := by rw [gEqB_str _ _ (by decide +kernel) (by decide +kernel)]; decide +kernel
theorem q7 : gEqB (.str "weir") (.str "divide") = some false := by rw [gEqB_str _ _ (by decide +kernel) (by decide +kernel)]; decide +kernel
theorem made_ok (p : Pa) (x : Bx) : F_channels_made [p.d] x = .val (.tup (p.makes.map .str)) x := by
  cases p <;> simp [F_channels_made, M_channels_made, mirror, startE, mRet, mE, mSlice, mPart, mNoPart, mBind, R.bind, mVar, mC, Pa.d, Pa.makes, gCut, cutD, HT.sIx, o1]
theorem taken_ok (p : Pa) (x : Bx) : F_channels_taken [p.d] x = .val (.tup (p.takes.map .str)) x := by
  cases p <;> simp [F_channels_taken, M_channels_taken, mirror, startE, mRet, mE, mIf, mTst, mOp, gIx, gEq, at4_0, at5_0, q1, q2, q3, gTst, oB, mSlice, mPart, mNoPart, mBind, R.bind, mVar, mC, Pa.d, Pa.takes, gCut, cutD, HT.sIx, o1]
theorem ntx1 (a : Str) : gNTx (.tup [.str a]) = some (.int 1) := rfl
theorem ntx2 {a b : Str} (h : a ≠ b) : gNTx (.tup [.str a, .str b]) = some (.int 2) := by
  have : (a == b) = false := beq_eq_false_iff_ne.mpr h
  simp [gNTx, asSs, dst, this]
/-- what a dict must say so that a PART fits -/
structure Fits (kds : List (Key × D)) (p : Pa) : Prop where
  tn : p.takes.Nodup
  mn : p.makes.Nodup
  tk : ∀ a ∈ p.takes, valA kds (.inr a) = some (.bl true)
  nw : ∀ c ∈ p.makes, valA kds (.inr c) = none
theorem fits_ok {kds : List (Key × D)} {p : Pa} (h : Fits kds p) (x : Bx) : F_p_fits [p.d, .dcb kds] x = .val (.bl true) x := by
  obtain ⟨h1, h2, h3, h4⟩ := h
  have e1 := made_ok p x
  have e2 := taken_ok p x
  cases p with
  | jn a b c =>
    have hab : a ≠ b := by
      intro z
      simp [Pa.takes, z] at h1
    have ha := h3 a (by simp [Pa.takes])
    have hb := h3 b (by simp [Pa.takes])
    have hc := h4 c (by simp [Pa.makes])
    simp only [Pa.makes, Pa.takes, List.map_cons, List.map_nil] at e1 e2
    simp [F_p_fits, M_p_fits, mirror, startE, mSeq, mPar, mE, mDef, mCons, mNil, mBind, R.bind, mVar, e1, e2, mIfS, mTOr, mTst, mOp, mUn, ntx1, ntx2 hab, mCall, gLen, o1, gLt, gI, gTst, oB, mRet, mNext, mTru, mLc, mLcL, mIter, itemsD, lcRun, Tg.asg, mYes, gInA, isDct, gDIn, keyD, hc, wipeE, shut, mC, bg, gAny, asBs, gTru, mGet2, ha, hb, gAll]
  | dv a q c e =>
    have hce : c ≠ e := by
      intro z
      simp [Pa.makes, z] at h2
    have ha := h3 a (by simp [Pa.takes])
    have hc := h4 c (by simp [Pa.makes])
    have he := h4 e (by simp [Pa.makes])
    simp only [Pa.makes, Pa.takes, List.map_cons, List.map_nil] at e1 e2
    simp [F_p_fits, M_p_fits, mirror, startE, mSeq, mPar, mE, mDef, mCons, mNil, mBind, R.bind, mVar, e1, e2, mIfS, mTOr, mTst, mOp, mUn, ntx1, ntx2 hce, mCall, gLen, o1, gLt, gI, gTst, oB, mRet, mNext, mTru, mLc, mLcL, mIter, itemsD, lcRun, Tg.asg, mYes, gInA, isDct, gDIn, keyD, hc, he, wipeE, shut, mC, bg, gAny, asBs, gTru, mGet2, ha, gAll]
  | wr a q c e =>
    have hce : c ≠ e := by
      intro z
      simp [Pa.makes, z] at h2
    have ha := h3 a (by simp [Pa.takes])
    have hc := h4 c (by simp [Pa.makes])
    have he := h4 e (by simp [Pa.makes])
    simp only [Pa.makes, Pa.takes, List.map_cons, List.map_nil] at e1 e2
    simp [F_p_fits, M_p_fits, mirror, startE, mSeq, mPar, mE, mDef, mCons, mNil, mBind, R.bind, mVar, e1, e2, mIfS, mTOr, mTst, mOp, mUn, ntx1, ntx2 hce, mCall, gLen, o1, gLt, gI, gTst, oB, mRet, mNext, mTru, mLc, mLcL, mIter, itemsD, lcRun, Tg.asg, mYes, gInA, isDct, gDIn, keyD, hc, he, wipeE, shut, mC, bg, gAny, asBs, gTru, mGet2, ha, gAll]
end GG

namespace GG
open PySem PySem.Spec L2 Mi
/-! ### a dict of channels -/
theorem inr_ne {a b : Str} (h : a ≠ b) : ¬ (Sum.inr a : Key) = Sum.inr b := fun z => h (Sum.inr.inj z)
def dk (K : List Str) (f : Str → D) : List (Key × D) := K.map fun k => (Sum.inr k, f k)
theorem dk_any (K : List Str) (f : Str → D) (a : Str) : ((dk K f).any fun kv => decide (kv.1 = Sum.inr a)) = decide (a ∈ K) := by
  induction K with
  | nil => simp [dk]
  | cons k K ih =>
    have e : (dk (k :: K) f) = (Sum.inr k, f k) :: dk K f := rfl
    rw [e, List.any_cons, ih]
    by_cases h : k = a
    · subst h
      simp
    · have h' : ¬ a = k := fun z => h z.symm
      simp [h, h']
theorem dk_val {K : List Str} {f : Str → D} {a : Str} (h : a ∈ K) : valA (dk K f) (.inr a) = some (f a) := by
  induction K with
  | nil => cases h
  | cons k K ih =>
    have e : (dk (k :: K) f) = (Sum.inr k, f k) :: dk K f := rfl
    rw [e, valA_cons]
    by_cases hk : k = a
    · subst hk
      rw [if_pos rfl]
    · rw [if_neg (inr_ne hk)]
      rcases List.mem_cons.mp h with
        z | z
      · exact (hk z.symm).elim
      · exact ih z
theorem dk_none {K : List Str} {f : Str → D} {a : Str} (h : a ∉ K) : valA (dk K f) (.inr a) = none := by
  induction K with
  | nil => rfl
  | cons k K ih =>
    have e : (dk (k :: K) f) = (Sum.inr k, f k) :: dk K f := rfl
    rw [e, valA_cons, if_neg (inr_ne fun z : k = a => h (by rw [z]; exact List.mem_cons_self ..))]
    exact ih fun z => h (List.mem_cons_of_mem _ z)
theorem dk_put {K : List Str} {f : Str → D} {a : Str} {v : D} (h : a ∈ K) : putA (dk K f) (.inr a) v = dk K fun k => if k = a then v else f k := by
  unfold putA
  rw [dk_any, decide_eq_true h, if_pos rfl]
  unfold dk
  rw [List.map_map]
  refine List.map_congr_left fun k _ =>
    ?_
  by_cases hk : k = a
  · subst hk
    simp
  · show (if (Sum.inr k : Key) = Sum.inr a then (Sum.inr k, v) else (Sum.inr k, f k)) = _
    rw [if_neg (inr_ne hk)]
    show (Sum.inr k, f k) = (Sum.inr k, if k = a then v else f k)
    rw [if_neg hk]
theorem dk_new {K : List Str} {f : Str → D} {a : Str} {v : D} (h : a ∉ K) : putA (dk K f) (.inr a) v = dk K f ++ [(.inr a, v)] := by
  unfold putA
  rw [dk_any, decide_eq_false h, if_neg (by decide)]
theorem dk_congr {K : List Str} {f g : Str → D} (h : ∀ k ∈ K, f k = g k) : dk K f = dk K g := List.map_congr_left fun k hk => by rw [h k hk]
theorem dk_app (K M : List Str) (f : Str → D) : dk (K ++ M) f = dk K f ++ dk M f := List.map_append
def putAll (kds : List (Key × D)) (ns : List Str) (v : D) : List (Key × D) := ns.foldl (fun k c => putA k (.inr c) v) kds
theorem all_put {K : List Str} {v : D} : ∀ {T : List Str} {f : Str → D}, (∀ a ∈ T, a ∈ K) → putAll (dk K f) T v = dk K fun k => if k ∈ T then v else f k
  | [], f, _ => by
    refine (show dk K f = _ from dk_congr fun k _ => ?_)
    simp
  | a :: T, f, h => by
    refine (show putAll (putA (dk K f) (.inr a) v) T v = _ from ?_)
    rw [dk_put (h a (List.mem_cons_self ..)), all_put fun b hb => h b (List.mem_cons_of_mem _ hb)]
    refine dk_congr fun k _ => ?_
    by_cases h1 : k ∈ T
    · simp [h1]
    · by_cases h2 : k = a
      · simp [h2]
      · simp [h1, h2]
theorem all_new {v : D} : ∀ {M K : List Str} {f : Str → D}, (∀ c ∈ M, c ∉ K) → M.Nodup → (∀ c ∈ M, f c = v) → putAll (dk K f) M v = dk (K ++ M) f
  | [], K, f, _, _, _ => by
    rw [List.append_nil]
    rfl
  | c :: M, K, f, h, hn, hv => by
    obtain ⟨h1, h2⟩ :=
      List.nodup_cons.mp hn
    refine (show putAll (putA (dk K f) (.inr c) v) M v = _ from ?_)
    rw [dk_new (h c (List.mem_cons_self ..))]
    have e : dk K f ++ [(Sum.inr c, v)] = dk (K ++ [c]) f := by
      rw [dk_app]
      show _ = dk K f ++ [(Sum.inr c, f c)]
      rw [hv c (List.mem_cons_self ..)]
    rw [e, all_new (K := K ++ [c]) (fun d hd => ?_) h2 fun d hd => hv d (List.mem_cons_of_mem _ hd), List.append_assoc]
    · rfl
    · rw [List.mem_append, List.mem_singleton]
      rintro (z | z)
      · exact h d (List.mem_cons_of_mem _ hd) z
      · subst z
        exact h1 hd
theorem put_len (kds : List (Key × D)) (k : Key) (v : D) : (putA kds k v).length ≤ kds.length + 1 := by
  unfold putA
  split
  · rw [List.length_map]
    omega
  · rw [List.length_append]
    exact Nat.le_refl _
theorem txt_dk (K : List Str) (f : Str → D) : txtKeys (dk K f) = some K := by
  induction K with
  | nil => rfl
  | cons k K ih =>
    show txtKeys ((Sum.inr k, f k) :: dk K f) = _
    unfold txtKeys
    rw [ih]
    rfl
theorem srt_congr {xs ys : List Str} (p : xs.Perm ys) : srtS xs = srtS ys := by
  refine List.Perm.eq_of_pairwise (le := fun a b => leS a b = true) (fun a b _ _ h1 h2 => ?_) (srtS_pw xs) (srtS_pw ys) ((srtS_perm xs).trans (p.trans (srtS_perm ys).symm))
  exact TL.ext_tl (List.le_antisymm (leS_iff.mp h1) (leS_iff.mp h2))
/-! ### the steps of a loop -/
inductive Runs (tg : Tg) (mb : MS) : List D → En → Bx → En → Bx → Prop
  | nil {ρ : En} {x : Bx} : Runs tg mb [] ρ x ρ x
  | cons {d : D} {ds : List D} {ρ ρ1 ρ2 ρ3 : En} {x x2 x3 : Bx} : tg.asg d ρ = some ρ1 → mb ρ1 x = .nx ρ2 x2 → Runs tg mb ds ρ2 x2 ρ3 x3 → Runs tg mb (d :: ds) ρ x ρ3 x3
theorem Runs.loop {tg : Tg} {mb : MS} {ds : List D} {ρ ρ' : En} {x x' : Bx} (h : Runs tg mb ds ρ x ρ' x') : loopS tg mb ds ρ x = .nx ρ' x' := by
  induction h with
  | nil => rfl
  | cons e1 e2 _ ih =>
    unfold loopS
    rw [e1]
    dsimp only
    rw [e2]
    exact ih
theorem Runs.snoc {tg : Tg} {mb : MS} {d : D} {ds : List D} {ρ ρ1 ρ2 ρ3 : En} {x x1 x2 : Bx} (h : Runs tg mb ds ρ x ρ1 x1) (e1 : tg.asg d ρ1 = some ρ2) (e2 : mb ρ2 x1 = .nx ρ3 x2) : Runs tg mb (ds ++ [d]) ρ x ρ3 x2 := by
  induction h with
  | nil => exact .cons e1 e2 .nil
  | cons a b _ ih => exact .cons a b (ih e1 e2)
/-! ### one PART in Net -/
def TB : MS := mSetD 2 (mVar 5) (mC (.bl false))
def UB : MS := mSetD 2 (mVar 5) (mC (.bl true))
def NB : MS := (mSeq (mIfS (mTNot (mBorT (mTru (mDef 2 F_p_fits (mCons (mVar 4) (mCons (mVar 2) mNil))))))
    (mRaise "BadPart" "place" (mCons (mVar 3) mNil))
    mNext)
    (mSeq (mFor (mIter (mDef 1 F_channels_taken (mCons (mVar 4) mNil))) (.nm 5) TB)
    (mFor (mIter (mDef 1 F_channels_made (mCons (mVar 4) mNil))) (.nm 5) UB)))
section
variable {s0 s1 s3 s4 : Slot} {x : Bx}
theorem t_loop (v : Bool) : ∀ (ns : List Str) (kds : List (Key × D)) (s5 : Slot), kds.length + ns.length < 100 → ∃ s5', loopS (.nm 5) (mSetD 2 (mVar 5) (mC (.bl v))) (ns.map .str) [s0, s1, .od kds, s3, s4, s5] x = .nx [s0, s1, .od (putAll kds ns (.bl v)), s3, s4, s5'] x
  | [], kds, s5, _ => ⟨s5, rfl⟩
  | n :: ns, kds, s5, h => by
    rw [List.length_cons] at h
    obtain ⟨s5', e⟩ := t_loop v ns (putA kds (.inr n) (.bl v)) (.fz (.str n)) (by have := put_len kds (.inr n) (.bl v); omega)
    refine ⟨s5', ?_⟩
    have e1 : mSetD 2 (mVar 5) (mC (.bl v)) [s0, s1, .od kds, s3, s4, .fz (.str n)] x = .nx [s0, s1, .od (putA kds (.inr n) (.bl v)), s3, s4, .fz (.str n)] x := by
      simp [mSetD, mE, mC, mVar, keyD, bg _ (show kds.length < 200 by omega)]
    show (match mSetD 2 (mVar 5) (mC (.bl v)) [s0, s1, .od kds, s3, s4, .fz (.str n)] x with
        | .nx ρ2 x2 => loopS (.nm 5) (mSetD 2 (mVar 5) (mC (.bl v))) (ns.map .str) ρ2 x2
        | .cnt ρ2 x2 => loopS (.nm 5) (mSetD 2 (mVar 5) (mC (.bl v))) (ns.map .str) ρ2 x2
        | .brk ρ2 x2 => .nx ρ2 x2
        | r => r) = _
    rw [e1]
    exact e
theorem tb_len {v : D} : ∀ (ns : List Str) (kds : List (Key × D)), (putAll kds ns v).length ≤ kds.length + ns.length
  | [], kds => Nat.le_refl _
  | n :: ns, kds => by
    have := tb_len (v := v) ns (putA kds (.inr n) v)
    have := put_len kds (.inr n) v
    show (putAll (putA kds (.inr n) v) ns v).length ≤ kds.length + (ns.length + 1)
    omega
theorem nb_ok {kds : List (Key × D)} {p : Pa} {s5 : Slot} (h : Fits kds p) (hl : kds.length < 50) : ∃ s5', NB [s0, s1, .od kds, s3, .fz p.d, s5] x = .nx [s0, s1, .od (putAll (putAll kds p.takes (.bl false)) p.makes (.bl true)), s3, .fz p.d, s5'] x := by
  have e1 := made_ok p x
  have e2 := taken_ok p x
  have e3 := fits_ok h x
  have l1 : p.takes.length ≤ 2 := by cases p <;> simp [Pa.takes]
  have l2 : p.makes.length ≤ 2 := by cases p <;> simp [Pa.makes]
  obtain ⟨u, f1⟩ := t_loop (s0 := s0) (s1 := s1) (s3 := s3) (s4 := .fz p.d) (x := x) false p.takes kds s5 (by omega)
  have := tb_len (v := .bl false) p.takes kds
  obtain ⟨w, f2⟩ := t_loop (s0 := s0) (s1 := s1) (s3 := s3) (s4 := .fz p.d) (x := x) true p.makes (putAll kds p.takes (.bl false)) u (by omega)
  refine ⟨w, ?_⟩
  have f1 : loopS (.nm 5) TB (p.takes.map .str) _ x = _ := f1
  have f2 : loopS (.nm 5) UB (p.makes.map .str) _ x = _ := f2
  unfold NB
  revert f1 f2
  generalize putAll (putAll kds p.takes (.bl false)) p.makes (.bl true) = k2
  generalize putAll kds p.takes (.bl false) = k1
  generalize TB = B1
  generalize UB = B2
  intro f1 f2
  simp [mSeq, mIfS, mTNot, mBorT, mTru, mDef, mBind, R.bind, mCons, mNil, mVar, frzS, allS, Slot.fzd, e3, gTru, oB, mE, mNext, mFor, mIter, e1, e2, itemsD, f1, f2]
end
end GG

namespace GG
open PySem PySem.Spec L2 Mi
/-- data without lists -/
def tpl : Nat → D → Bool
  | 0, _ => false
  | _ + 1, .str _ => true
  | _ + 1, .int _ => true
  | n + 1, .tup ds => ds.all (tpl n) && decide (ds.length ≤ 100)
  | _ + 1, _ => false
theorem tp_run {n : Nat} {ρ : En} (i1 : 1 < ρ.length) : ∀ (ds : List D) (acc : List D) (x : Bx), (∀ d ∈ ds, ∀ x, F_as_tuples n [d] x = .val d x) → acc.length + ds.length ≤ 100 →
    lcRun (.nm 1) mYes (mDef 1 (F_as_tuples n) (mCons (mVar 1) mNil)) ρ ds acc x = .val (acc ++ ds) x
  | [], acc, x, _, _ => by
    show (R.val acc x : R (List D)) = .val (acc ++ []) x
    rw [List.append_nil]
  | d :: ds, acc, x, h, hl => by
    have hl' : acc.length + (ds.length + 1) ≤ 100 := hl
    have ih := tp_run i1 ds (acc ++ [d]) x (fun d hd => h d (List.mem_cons_of_mem _ hd)) (by rw [List.length_append]; show acc.length + 1 + _ ≤ _; omega)
    have hm : mDef 1 (F_as_tuples n) (mCons (mVar 1) mNil) (ρ.set 1 (.fz d)) x = .val d x := by
      simp [mDef, mBind, R.bind, mCons, mNil, mVar, i1, h d (List.mem_cons_self ..)]
    show (match mDef 1 (F_as_tuples n) (mCons (mVar 1) mNil) (ρ.set 1 (.fz d)) x with
        | .val e x2 => if acc.length < big then lcRun (.nm 1) mYes (mDef 1 (F_as_tuples n) (mCons (mVar 1) mNil)) ρ ds (acc ++ [e]) x2 else .out
        | _ => .out) = _
    rw [hm]
    dsimp only
    rw [if_pos (bg _ (by omega)), ih, List.append_assoc]
    rfl
theorem as_seq {n : Nat} {ds : List D} {z : D} (ih : ∀ d ∈ ds, ∀ x, F_as_tuples n [d] x = .val d x) (hl : ds.length ≤ 100) (hz : z = .lst ds ∨ z = .tup ds) (x : Bx) : F_as_tuples (n + 1) [z] x = .val (.tup ds) x := by
  have run := fun ρ i1 => tp_run (ρ := ρ) i1 ds [] x ih (by simpa using hl)
  have hLc : mLc (mIter (mVar 0)) (.nm 1) mYes (mDef 1 (F_as_tuples n) (mCons (mVar 1) mNil)) [1] [.fz z, .un] x = .val (.lst ds) x := by
    have e : mIter (mVar 0) [.fz z, .un] x = .val ds x := by
      rcases hz with rfl | rfl <;> simp [mIter, mBind, R.bind, mVar, itemsD, oB]
    show R.bind (match mIter (mVar 0) [.fz z, .un] x with
      | .val ds x1 => lcRun _ _ _ _ ds [] x1
      | .exc c fs x1 => .exc c fs x1
      | .out => .out) _ = _
    rw [e]
    show R.bind (lcRun _ _ _ _ ds [] x) _ = _
    rw [run _ (by simp [wipeE, shut])]
    rfl
  show mirror 2 (M_as_tuples (F_as_tuples n)) _ _ = _
  unfold M_as_tuples mirror
  revert hLc
  generalize (mLc (mIter (mVar 0)) (.nm 1) mYes (mDef 1 (F_as_tuples n) (mCons (mVar 1) mNil)) [1]) = E
  intro hLc
  rcases hz with rfl | rfl
  · simp [startE, mSeq, mIfS, mE, mTru, mIsi2, mVar, mBind, R.bind, o1, oB, gTru, isiA_lst, mRet, mCall, mCons, mNil, hLc, gTuple]
  · simp [startE, mSeq, mIfS, mE, mTru, mIsi2, mVar, mBind, R.bind, o1, oB, gTru, isiA_tup, mRet, mCall, mCons, mNil, hLc, gTuple]
theorem as_ok : ∀ (n : Nat) (d : D), tpl n d = true → ∀ x, F_as_tuples n [d] x = .val d x
  | 0, _, h, _ => nomatch h
  | n + 1, .str s, h, x => by
    simp [F_as_tuples, M_as_tuples, mirror, startE, mSeq, mIfS, mE, mTru, mIsi2, mVar, mBind, R.bind, o1, oB, gTru, isiA_str, mRet, mNext]
  | n + 1, .int s, h, x => by
    simp [F_as_tuples, M_as_tuples, mirror, startE, mSeq, mIfS, mE, mTru, mIsi2, mVar, mBind, R.bind, o1, oB, gTru, isiA_int, mRet, mNext]
  | n + 1, .tup ds, h, x => by
    unfold tpl at h
    rw [Bool.and_eq_true, List.all_eq_true] at h
    exact as_seq (fun d hd => as_ok n d (h.1 d hd)) (of_decide_eq_true h.2) (.inr rfl) x
  | n + 1, .lst _, h, x => nomatch h
  | n + 1, .non, h, x => nomatch h
  | n + 1, .bl _, h, x => nomatch h
  | n + 1, .dct _, h, x => nomatch h
  | n + 1, .dcb _, h, x => nomatch h
  | n + 1, .obj .., h, x => nomatch h
  | n + 1, .err .., h, x => nomatch h
  | n + 1, .fn .., h, x => nomatch h
  | n + 1, .box, h, x => nomatch h
  | n + 1, .scr _, h, x => nomatch h
theorem fr_tpl (k : Nat) (q : Rat) : tpl (k + 2) (frR q) = true := by simp [frR, fr, tpl]
theorem pa_tpl (p : Pa) (k : Nat) : tpl (k + 3) p.d = true := by
  cases p <;> simp [Pa.d, tpl, frR, fr]
theorem parts_tpl {ps : List Pa} (h : ps.length ≤ 100) (k : Nat) : tpl (k + 4) (.tup (ps.map Pa.d)) = true := by
  unfold tpl
  rw [Bool.and_eq_true, List.all_eq_true, List.length_map]
  refine ⟨fun d hd => ?_, decide_eq_true h⟩
  obtain ⟨p, _, rfl⟩ := List.mem_map.mp hd
  exact pa_tpl p k
/-! ### drawn nets -/
def keys (ps : List Pa) : List Str := "in" :: ps.flatMap Pa.makes
def outs (ps : List Pa) : List Str := ps.flatMap Pa.takes
def N18 : List Str := ["b", "a", "pond", "c", "ditch", "x", "y", "z", "well", "e", "f", "g"]
def Pa.bd : Pa → Prop
  | .jn .. => True
  | .dv _ q _ _ => Fq 12 1 q ∧ 0 ≤ q ∧ q ≤ 1
  | .wr _ _ _ _ => True
inductive Drawn : List Pa → List Str → List Str → Prop
  | nil : Drawn [] ["in"] N18
  | step {ps : List Pa} {F N F' N' f n : List Str} {p : Pa} : Drawn ps F N → F.Perm (p.takes ++ f) → N.Perm (p.makes ++ n) → F'.Perm (p.makes ++ f) → N'.Perm n → p.bd → Drawn (ps ++ [p]) F' N'
theorem keys_snoc (ps : List Pa) (p : Pa) : keys (ps ++ [p]) = keys ps ++ p.makes := by simp [keys]
theorem outs_snoc (ps : List Pa) (p : Pa) : outs (ps ++ [p]) = outs ps ++ p.takes := by simp [outs]
theorem keysN {ps : List Pa} {F N : List Str} (h : Drawn ps F N) : (keys ps ++ N).Perm ("in" :: N18) := by
  induction h with
  | nil => exact .refl _
  | @step ps F N F' N' f n p _ _ hN _ hN' _ ih =>
    rw [keys_snoc, List.append_assoc]
    exact (((hN'.append_left p.makes).trans hN.symm).append_left (keys ps)).trans ih
theorem freeK {ps : List Pa} {F N : List Str} (h : Drawn ps F N) : (F ++ outs ps).Perm (keys ps) := by
  induction h with
  | nil => exact .refl _
  | @step ps F N F' N' f n p _ hF _ hF' _ _ ih =>
    rw [keys_snoc, outs_snoc]
    refine List.perm_iff_count.mpr fun a => ?_
    have h1 := hF.count_eq a
    have h2 := hF'.count_eq a
    have h3 := ih.count_eq a
    simp only [List.count_append] at *
    omega
theorem n19 : ("in" :: N18 : List Str).Nodup := by decide +kernel
section
variable {ps : List Pa} {F N : List Str} (h : Drawn ps F N)
include h
theorem Drawn.kn : (keys ps ++ N).Nodup := (keysN h).nodup_iff.mpr n19
theorem Drawn.keysNd : (keys ps).Nodup := (List.nodup_append.mp h.kn).1
theorem Drawn.fo : (F ++ outs ps).Nodup := (freeK h).nodup_iff.mpr h.keysNd
theorem Drawn.free_key {a : Str} (ha : a ∈ F) : a ∈ keys ps := (freeK h).mem_iff.mp (List.mem_append_left _ ha)
theorem Drawn.new_key {a : Str} (ha : a ∈ N) : a ∉ keys ps := fun z => (List.nodup_append.mp h.kn).2.2 a z a ha rfl
theorem Drawn.len : (keys ps).length ≤ 13 := by
  have := (keysN h).length_eq
  rw [List.length_append] at this
  have e : ("in" :: N18 : List Str).length = 13 := by decide
  omega
end
def Kf (ps : List Pa) (F : List Str) : List (Key × D) := dk (keys ps) fun k => .bl (decide (k ∈ F))
section
variable {ps : List Pa} {F N F' N' f n : List Str} {p : Pa} (h : Drawn ps F N) (hF : F.Perm (p.takes ++ f)) (hN : N.Perm (p.makes ++ n))
include h hF hN
theorem fits_of : Fits (Kf ps F) p where
  tn := (List.nodup_append.mp (hF.nodup_iff.mp (List.nodup_append.mp h.fo).1)).1
  mn := (List.nodup_append.mp (hN.nodup_iff.mp (List.nodup_append.mp h.kn).2.1)).1
  tk := fun a ha => by
    have hf : a ∈ F := hF.mem_iff.mpr (List.mem_append_left _ ha)
    unfold Kf
    rw [dk_val (h.free_key hf), decide_eq_true hf]
  nw := fun c hc => dk_none (h.new_key (hN.mem_iff.mpr (List.mem_append_left _ hc)))
theorem kf_step (hF' : F'.Perm (p.makes ++ f)) : putAll (putAll (Kf ps F) p.takes (.bl false)) p.makes (.bl true) = Kf (ps ++ [p]) F' := by
  have nF := hF.nodup_iff.mp (List.nodup_append.mp h.fo).1
  have fresh : ∀ c ∈ p.makes, c ∉ keys ps := fun c hc => h.new_key (hN.mem_iff.mpr (List.mem_append_left _ hc))
  unfold Kf
  rw [all_put fun a ha => h.free_key (hF.mem_iff.mpr (List.mem_append_left _ ha)), keys_snoc]
  rw [dk_congr (g := fun k => .bl (decide (k ∈ F'))) fun k hk => ?_]
  · exact all_new fresh (fits_of h hF hN).mn fun c hc => by rw [decide_eq_true (hF'.mem_iff.mpr (List.mem_append_left _ hc))]
  · have i1 : k ∈ F' ↔ k ∈ f := by
      rw [hF'.mem_iff, List.mem_append]
      exact ⟨fun z => z.elim (fun z => (fresh k z hk).elim) id, .inr⟩
    by_cases ht : k ∈ p.takes
    · have : k ∉ f := fun z => (List.nodup_append.mp nF).2.2 k ht k z rfl
      simp [ht, i1, this]
    · have i2 : k ∈ F ↔ k ∈ f := by
        rw [hF.mem_iff, List.mem_append]
        exact ⟨fun z => z.elim (fun z => (ht z).elim) id, .inr⟩
      simp [ht, i1, i2]
end
theorem enum_snoc (ds : List D) (d : D) : enumD (ds ++ [d]) = enumD ds ++ [.tup [.int (ds.length : Nat), d]] := by
  unfold enumD
  rw [List.mapIdx_append]
  simp
theorem net_runs {s0 s1 : Slot} {x : Bx} {ps : List Pa} {F N : List Str} (h : Drawn ps F N) : ∃ s3 s4 s5, Runs (.tp [3, 4]) NB (enumD (ps.map Pa.d)) [s0, s1, .od (Kf [] ["in"]), .un, .un, .un] x [s0, s1, .od (Kf ps F), s3, s4, s5] x := by
  induction h with
  | nil => exact ⟨_, _, _, .nil⟩
  | @step ps F N F' N' f n p hd hF hN hF' hN' _ ih =>
    obtain ⟨s3, s4, s5, r⟩ := ih
    have hl : (Kf ps F).length < 50 := by
      have := hd.len
      unfold Kf dk
      rw [List.length_map]
      omega
    obtain ⟨w, e⟩ := nb_ok (s0 := s0) (s1 := s1) (s3 := .fz (.int ((ps.map Pa.d).length : Nat))) (x := x) (s5 := s5) (fits_of hd hF hN) hl
    rw [kf_step hd hF hN hF'] at e
    refine ⟨.fz (.int ((ps.map Pa.d).length : Nat)), .fz p.d, w, ?_⟩
    rw [List.map_append, List.map_cons, List.map_nil, enum_snoc]
    exact r.snoc rfl e
end GG

namespace GG
open PySem PySem.Spec L2 Mi
theorem asSs_map : ∀ l : List Str, asSs (l.map .str) = some l
  | [] => rfl
  | a :: l => by
    show asSs (.str a :: l.map .str) = _
    unfold asSs
    rw [asSs_map l]
    rfl
theorem srtA_str {l : List Str} (h : l.length < 64) : gSrtA [.lst (l.map .str)] = some (.lst ((srtS l).map .str)) := by
  simp [gSrtA, gSrt, gSorted, asSs_map, h]
theorem srtA_dct {K : List Str} {f : Str → D} (h : K.length < 64) : gSrtA [.dct (dk K f)] = some (.lst ((srtS K).map .str)) := by
  simp [gSrtA, gSrt, gSorted, gSortedH, gSortD, isDct, txt_dk, h]
theorem dKeys_dk (K : List Str) (f : Str → D) : dKeys (dk K f) = K.map .str := by
  unfold dKeys dk
  rw [List.map_map]
  rfl
/-- a comprehension over texts that picks some -/
theorem pick_lc {i : Nat} {cond : MM Bool} {p : Str → Bool} {ρ : En} {x : Bx} (hi : i < ρ.length) : ∀ (ks : List Str) (acc : List D), (∀ k ∈ ks, cond (ρ.set i (.fz (.str k))) x = .val (p k) x) → acc.length + ks.length < 200 →
    lcRun (.nm i) cond (mVar i) ρ (ks.map .str) acc x = .val (acc ++ (ks.filter p).map .str) x
  | [], acc, _, _ => by
    show (R.val acc x : R (List D)) = .val (acc ++ []) x
    rw [List.append_nil]
  | k :: ks, acc, h, hl => by
    rw [List.length_cons] at hl
    have h1 :=
      h k (List.mem_cons_self ..)
    have ih := fun acc => pick_lc (p := p) hi ks acc fun k hk => h k (List.mem_cons_of_mem _ hk)
    have hv : mVar i (ρ.set i (.fz (.str k))) x = .val (.str k) x := by
      unfold mVar
      rw [List.getElem?_set_self hi]
    show (match cond (ρ.set i (.fz (.str k))) x with
      | .val true x1 => (match mVar i (ρ.set i (.fz (.str k))) x1 with
        | .val e x2 => if acc.length < big then lcRun (.nm i) cond (mVar i) ρ (ks.map .str) (acc ++ [e]) x2 else .out
        | _ => .out)
      | .val false x1 => lcRun (.nm i) cond (mVar i) ρ (ks.map .str) acc x1
      | _ => .out) = _
    rw [h1, List.filter_cons]
    cases hp : p k with
    | true =>
      dsimp only
      rw [hv]
      dsimp only
      rw [if_pos (bg _ (by omega)), ih (acc ++ [D.str k]) (by rw [List.length_append]; show acc.length + 1 + _ < _; omega), List.append_assoc]
      rfl
    | false =>
      dsimp only
      exact ih acc (by omega)
theorem lc_of {mi : MM (List D)} {tg : Tg} {cond : MM Bool} {elt : MM D} {own : List Nat} {ρ : En} {x x1 x2 : Bx} {ds es : List D} (h1 : mi ρ x = .val ds x1) (h2 : lcRun tg cond elt (wipeE (shut ρ) own) ds [] x1 = .val es x2) : mLc mi tg cond elt own ρ x = .val (.lst es) x2 := by
  have h : mLcL mi tg cond elt own ρ x = .val es x2 := by
    unfold mLcL
    rw [h1]
    exact h2
  unfold mLc mBind
  rw [h]
  rfl
def OB : MM D := mCall gTuple (mCons (mCall gSrtA (mCons (mLc (mIterA (mVar 2)) (.nm 5) (mTru (mOp (fun a b => o1 (gSubA a b)) (mVar 2) (mVar 5))) (mVar 5) [5]) mNil)) mNil)
def CB : MM D := mCall gTuple (mCons (mCall gSrtA (mCons (mVar 2) mNil)) mNil)
def netF (ps : List Pa) (F : List Str) : Fl := [("_parts", .tup (ps.map Pa.d)), ("_channels", .tup ((srtS (keys ps)).map .str)), ("_outlets", .tup ((srtS F).map .str))]
section
variable {ps : List Pa} {F N : List Str} {x : Bx}
theorem filter_perm (h : Drawn ps F N) : ((keys ps).filter fun k => decide (k ∈ F)).Perm F := by
  refine (List.perm_ext_iff_of_nodup (h.keysNd.filter _) (List.nodup_append.mp h.fo).1).mpr fun a => ?_
  rw [List.mem_filter, decide_eq_true_iff]
  exact ⟨fun z => z.2, fun z => ⟨h.free_key z, z⟩⟩
theorem ob_ok (h : Drawn ps F N) {s0 s1 s3 s4 s5 : Slot} : OB [s0, s1, .fz (.dct (Kf ps F)), s3, s4, s5] x = .val (.tup ((srtS F).map .str)) x := by
  have hl := h.len
  have e1 : mIterA (mVar 2) [s0, s1, .fz (.dct (Kf ps F)), s3, s4, s5] x = .val ((keys ps).map .str) x := by
    simp [mIterA, mBind, R.bind, mVar, itemsA, oB, Kf, dKeys_dk]
  have e2 := fun (ρ : En) (hρ : 5 < ρ.length) (h2 : ρ[2]? = some (.fz (.dct (Kf ps F)))) => pick_lc (i := 5) (cond := mTru (mOp (fun a b => o1 (gSubA a b)) (mVar 2) (mVar 5))) (p := fun k => decide (k ∈ F)) (ρ := ρ) (x := x) hρ (keys ps) [] (fun k hk => by
    have e3 : (ρ.set 5 (.fz (.str k)))[2]? = some (.fz (.dct (Kf ps F))) := by rw [List.getElem?_set_ne (by decide)]; exact h2
    have e4 : (ρ.set 5 (.fz (.str k)))[5]? = some (.fz (.str k)) := List.getElem?_set_self hρ
    have e5 : valA (Kf ps F) (.inr k) = some (.bl (decide (k ∈ F))) := dk_val hk
    simp [mTru, mOp, mBind, R.bind, mVar, e3, e4, gSubA, isDct, gDGet, keyD, e5, o1, gTru, oB]) (by simp; omega)
  have e6 := e2 (wipeE (shut [s0, s1, .fz (.dct (Kf ps F)), s3, s4, s5]) [5]) (by simp [wipeE, shut]) (by simp [wipeE, shut])
  have e7 : mLc (mIterA (mVar 2)) (.nm 5) (mTru (mOp (fun a b => o1 (gSubA a b)) (mVar 2) (mVar 5))) (mVar 5) [5] [s0, s1, .fz (.dct (Kf ps F)), s3, s4, s5] x = .val (.lst (((keys ps).filter fun k => decide (k ∈ F)).map .str)) x := by
    exact lc_of e1 e6
  have e8 : ((keys ps).filter fun k => decide (k ∈ F)).length < 64 := Nat.lt_of_le_of_lt (List.length_filter_le _ _) (by omega)
  have e9 := srtA_str e8
  rw [srt_congr (filter_perm h)] at e9
  unfold OB
  revert e7
  generalize mLc (mIterA (mVar 2)) (.nm 5) (mTru (mOp (fun a b => o1 (gSubA a b)) (mVar 2) (mVar 5))) (mVar 5) [5] = E
  intro e7
  simp [mCall, mBind, R.bind, mCons, mNil, e7, e9, o1, gTuple]
theorem M_init_eq : M_Net___init__ = (mSeq (mAsg (.nm 1) (mDef 1 (F_as_tuples 12) (mCons (mVar 1) mNil)))
    (mSeq (mE (mDict [((mC (.str "in")), (mC (.bl true)))]) fun s ρ x => .nx (ρ.set 2 s) x)
    (mSeq (mFor (mBind (mCons (mVar 1) mNil) fun ds => oB (gEnumA ds)) (.tp [3, 4]) NB)
    (mSeq (mSetA 0 "Net" "_parts" (mVar 1))
    (mSeq (fun ρ x => (mSetA 0 "Net" "_channels" CB) (lockE 2 ρ) x)
    (mSetA 0 "Net" "_outlets" OB)))))) := rfl
theorem init_ok (h : Drawn ps F N) (hl : ps.length ≤ 50) : F_Net___init__ [.tup (ps.map Pa.d)] x = .val (netF ps F) x := by
  obtain ⟨s3, s4, s5, r⟩ := net_runs (s0 := .oo "Net" []) (s1 := .fz (.tup (ps.map Pa.d))) (x := x) h
  have e1 := r.loop
  have e2 := as_ok 12 (.tup (ps.map Pa.d)) (parts_tpl (by omega) 8) x
  have e3 := ob_ok (x := x) h (s0 := .oo "Net" [("_parts", .tup (ps.map Pa.d)), ("_channels", .tup ((srtS (keys ps)).map .str))]) (s1 := .fz (.tup (ps.map Pa.d))) (s3 := s3) (s4 := s4) (s5 := s5)
  have hk := h.len
  have e4 : CB [.oo "Net" [("_parts", .tup (ps.map Pa.d))], .fz (.tup (ps.map Pa.d)), .fz (.dct (Kf ps F)), s3, s4, s5] x = .val (.tup ((srtS (keys ps)).map .str)) x := by
    have := srtA_dct (K := keys ps) (f := fun k => .bl (decide (k ∈ F))) (by omega)
    simp [CB, mCall, mBind, R.bind, mCons, mNil, mVar, Kf, this, o1, gTuple]
  have e5 : Kf [] ["in"] = [(.inr "in", .bl true)] := by simp [Kf, dk, keys]
  rw [e5] at e1
  have d1 : ¬ ("_parts" : Str) = "_channels" := by decide +kernel
  have d2 : ¬ ("_parts" : Str) = "_outlets" := by decide +kernel
  have d3 : ¬ ("_channels" : Str) = "_outlets" := by decide +kernel
  unfold F_Net___init__ mirrorI netF
  rw [M_init_eq]
  revert e1 e3 e4
  generalize NB = B1
  generalize OB = B2
  generalize CB = B3
  generalize Kf ps F = kk
  intro e1 e3 e4
  simp [startE, mSeq, mAsg, mE, mDef, mBind, R.bind, mCons, mNil, mVar, e2, Tg.asg, mDict, mPairs, shut, mC, keyD, mergeA, putA, mFor, gEnumA, oB, e1, mSetA, putD, lockE, e3, e4, d1, d2, d3]
end
end GG

namespace GG
open PySem PySem.Spec L2 Mi
theorem put_none {kds : List (Key × D)} {k : Key} {v : D} (h : valA kds k = none) : putA kds k v = kds ++ [(k, v)] := by
  unfold putA
  rw [if_neg]
  intro z
  rw [List.any_eq_true] at z
  obtain ⟨e, h1, h2⟩ := z
  unfold valA at h
  rw [Option.map_eq_none_iff, List.find?_eq_none] at h
  exact h e h1 h2
theorem val_app_ne {kds : List (Key × D)} {k k' : Key} {v : D} (h : ¬ k' = k) : valA (kds ++ [(k', v)]) k = valA kds k := by
  unfold valA
  rw [List.find?_append]
  cases hf : kds.find? fun kv => decide (kv.1 = k) with
  | some e => rfl
  | none => simp [h]
theorem val_app_eq {kds : List (Key × D)} {k : Key} {v : D} (h : valA kds k = none) : valA (kds ++ [(k, v)]) k = some v := by
  unfold valA at *
  rw [Option.map_eq_none_iff] at h
  rw [List.find?_append, h]
  simp
def PB : MS := (mIfS (mTst (mOp (fun a b => o1 (gEq a b)) (mOp (fun a b => o1 (gIx a b)) (mVar 3) (mC (.int 0))) (mC (.str "join"))))
    (mSeq (mAsg (.tp [4, 5, 6, 7]) (mVar 3))
    (mSetD 2 (mVar 7) (mDef 2 F_plus (mCons (mGetO 2 (mVar 5)) (mCons (mGetO 2 (mVar 6)) mNil)))))
    (mSeq (mAsg (.tp [8, 5, 9, 7, 10]) (mVar 3))
    (mSeq (mAsg (.nm 11) (mGetO 2 (mVar 5)))
    (mSeq (mSetD 2 (mVar 7) (mIf (mTst (mOp (fun a b => o1 (gEq a b)) (mVar 8) (mC (.str "weir")))) (mDef 2 F_lesser (mCons (mVar 11) (mCons (mVar 9) mNil))) (mDef 2 F_times (mCons (mVar 11) (mCons (mVar 9) mNil)))))
    (mSetD 2 (mVar 10) (mDef 2 F_minus (mCons (mVar 11) (mCons (mGetO 2 (mVar 7)) mNil))))))))
/-- the walk at a PART: pairs more -/
def Both (kds : List (Key × D)) (p : Pa) (kds' : List (Key × D)) : Prop :=
  (∀ (s0 s1 s4 s5 s6 s7 s8 s9 s10 s11 : Slot) (x : Bx), ∃ s4' s5' s6' s7' s8' s9' s10' s11', PB [s0, s1, .od kds, .fz p.d, s4, s5, s6, s7, s8, s9, s10, s11] x = .nx [s0, s1, .od kds', .fz p.d, s4', s5', s6', s7', s8', s9', s10', s11'] x)
def mn (u q : Rat) : Rat := if u < q then u else q
section
variable {kds : List (Key × D)} {a b c e : Str} {u v q : Rat} {k : Nat}
theorem both_jn (hk : 0 < k) (hk' : k ≤ 119) (hl : kds.length < 100) (ha : valA kds (.inr a) = some (frR u)) (hb : valA kds (.inr b) = some (frR v)) (hc : valA kds (.inr c) = none) (h1 : Bq k u) (h2 : Bq k v) :
    Both kds (.jn a b c) (kds ++ [(.inr c, frR (u + v))]) := by
  refine fun s0 s1 s4 s5 s6 s7 s8 s9 s10 s11 x => ⟨.fz (.str "join"), .fz (.str a), .fz (.str b), .fz (.str c), s8, s9, s10, s11, ?_⟩
  have o := (ops h1 h2 hk hk' x).1
  simp [PB, mSeq, mAsg, mE, mGetO, mOp, mBind, R.bind, mVar, mC, gIx, Pa.d, at4_0, o1, keyD, ha, hb, Tg.asg, putE, mIfS, mTst, gEq, q1, gTst, oB, mSetD, mDef, mCons, mNil, o, bg _ (show kds.length < 200 by omega), put_none hc]
theorem both_dv (hk : 0 < k) (hk' : k ≤ 119) (hl : kds.length < 100) (ha : valA kds (.inr a) = some (frR u)) (hc : valA kds (.inr c) = none) (he : valA kds (.inr e) = none) (hce : c ≠ e) (h1 : Bq k u) (h2 : Bq k q) (h3 : Bq k (u * q)) :
    Both kds (.dv a q c e) (kds ++ [(.inr c, frR (u * q))] ++ [(.inr e, frR (u - u * q))]) := by
  have he2 : valA (kds ++ [(Sum.inr c, frR (u * q))]) (.inr e) = none := by rw [val_app_ne (inr_ne hce), he]
  have hc2 := val_app_eq (v := frR (u * q)) hc
  have b2 : (kds ++ [(Sum.inr c, frR (u * q))]).length < big := bg _ (by
    rw [List.length_append]
    show kds.length + 1 < 200
    omega)
  have p1 := put_none (v := frR (u * q)) hc
  have p2 := put_none (v := frR (u - u * q)) he2
  have o3' := fun x => (ops h1 h2 hk hk' x).2.2.2.1
  have o4' := fun x => (ops h1 h3 hk hk' x).2.2.1
  revert o3' o4' b2 p1 p2 hc2
  generalize kds ++ [(Sum.inr c, frR (u * q))] = kd2
  generalize frR (u - u * q) = V2
  generalize frR (u * q) = V1
  intro hc2 b2 p1 p2 o3' o4'
  refine fun s0 s1 s4 s5 s6 s7 s8 s9 s10 s11 x => ⟨s4, .fz (.str a), s6, .fz (.str c), .fz (.str "divide"), .fz (frR q), .fz (.str e), .fz (frR u), ?_⟩
  simp [PB, mSeq, mAsg, mE, mGetO, mOp, mBind, R.bind, mVar, mC, gIx, Pa.d, at5_0, o1, keyD, ha, Tg.asg, putE, mIfS, mTst, gEq, q2, q5, mIf, gTst, oB, mSetD, mDef, mCons, mNil, o3', bg _ (show kds.length < 200 by omega), p1, hc2, o4', b2, p2]
theorem both_wr (hk : 0 < k) (hk' : k ≤ 119) (hl : kds.length < 100) (ha : valA kds (.inr a) = some (frR u)) (hc : valA kds (.inr c) = none) (he : valA kds (.inr e) = none) (hce : c ≠ e) (h1 : Bq k u) (h2 : Bq k q) :
    Both kds (.wr a q c e) (kds ++ [(.inr c, frR (mn u q))] ++ [(.inr e, frR (u - mn u q))]) := by
  have h3 : Bq k (mn u q) := by
    unfold mn
    split
    · exact h1
    · exact h2
  have he2 : valA (kds ++ [(Sum.inr c, frR (mn u q))]) (.inr e) = none := by rw [val_app_ne (inr_ne hce), he]
  have hc2 := val_app_eq (v := frR (mn u q)) hc
  have b2 : (kds ++ [(Sum.inr c, frR (mn u q))]).length < big := bg _ (by
    rw [List.length_append]
    show kds.length + 1 < 200
    omega)
  have p1 := put_none (v := frR (mn u q)) hc
  have p2 := put_none (v := frR (u - mn u q)) he2
  have o3' : ∀ x, F_lesser [frR u, frR q] x = .val (frR (mn u q)) x := fun x => lesser_ok h1 h2 hk hk' x
  have o4' := fun x => (ops h1 h3 hk hk' x).2.2.1
  revert o3' o4' b2 p1 p2 hc2
  generalize kds ++ [(Sum.inr c, frR (mn u q))] = kd2
  generalize frR (u - mn u q) = V2
  generalize frR (mn u q) = V1
  intro hc2 b2 p1 p2 o3' o4'
  refine fun s0 s1 s4 s5 s6 s7 s8 s9 s10 s11 x => ⟨s4, .fz (.str a), s6, .fz (.str c), .fz (.str "weir"), .fz (frR q), .fz (.str e), .fz (frR u), ?_⟩
  simp [PB, mSeq, mAsg, mE, mGetO, mOp, mBind, R.bind, mVar, mC, gIx, Pa.d, at5_0, o1, keyD, ha, Tg.asg, putE, mIfS, mTst, gEq, q3, q4, mIf, gTst, oB, mSetD, mDef, mCons, mNil, o3', bg _ (show kds.length < 200 by omega), p1, hc2, o4', b2, p2]
end
end GG

namespace GG
open PySem PySem.Spec L2 Mi
/-! ### sums -/
def rsum : List Rat → Rat
  | [] => 0
  | a :: l => a + rsum l
theorem rsum_app : ∀ a b : List Rat, rsum (a ++ b) = rsum a + rsum b
  | [], b => by
    show rsum b = 0 + rsum b
    rw [Rat.zero_add]
  | x :: a, b => by
    show x + rsum (a ++ b) = x + rsum a + rsum b
    rw [rsum_app a b, Rat.add_assoc]
theorem rsum_perm {a b : List Rat} (h : a.Perm b) : rsum a = rsum b := by
  induction h with
  | nil => rfl
  | cons x _ ih =>
    show x + _ = x + _
    rw [ih]
  | swap x y l =>
    show y + (x + rsum l) = x + (y + rsum l)
    rw [← Rat.add_assoc, ← Rat.add_assoc, Rat.add_comm y x]
  | trans _ _ i1 i2 => exact i1.trans i2
theorem sub_add (u t : Rat) : t + (u - t) = u := by grind
/-! ### bounds along the way -/
structure Bs (LL BB : Nat → Nat) : Prop where
  s1 : ∀ j, LL (j + 1) = LL j * 12
  s2 : ∀ j, BB (j + 1) = BB j + BB j
  sm : ∀ j, j ≤ 8 → 0 < LL j ∧ LL j < 2 ^ 110 ∧ BB j * LL j < 2 ^ 110
  l0 : 12 ∣ LL 0
  b0 : 40 ≤ BB 0
abbrev FjG (LL BB : Nat → Nat) (j : Nat) (q : Rat) : Prop := Fq (LL j) (BB j) q
section
variable {LL BB : Nat → Nat} (B : Bs LL BB)
include B
theorem Bs.dvd (j : Nat) : LL j ∣ LL (j + 1) := by
  rw [B.s1]
  exact Nat.dvd_mul_right _ _
theorem Bs.bd {j : Nat} {q : Rat} (h : FjG LL BB j q) (hj : j ≤ 8) : Bq 110 q := by
  have s := B.sm j hj
  exact Fq.bd h s.1 s.2.1 s.2.2
theorem Bs.succ {j : Nat} {q : Rat} (h : FjG LL BB j q) : FjG LL BB (j + 1) q := Fq.mono h (B.dvd j) (by rw [B.s2]; omega)
theorem Bs.up {b j : Nat} {q : Rat} (h : FjG LL BB b q) (e : b ≤ j) : FjG LL BB j q := by
  induction e with
  | refl => exact h
  | step _ ih => exact B.succ ih
end
section
variable (LL BB : Nat → Nat)
/-- all limits of weirs are small enough -/
def LimG (b : Nat) (ps : List Pa) : Prop := ∀ a q c e, Pa.wr a q c e ∈ ps → FjG LL BB b q
/-- what a part makes of the amounts -/
def stepV : Pa → (Str → Rat) → Str → Rat
  | .jn a b c, v => fun k => if k = c then v a + v b else v k
  | .dv a q c e, v => fun k => if k = c then v a * q else if k = e then v a - v a * q else v k
  | .wr a q c e, v => fun k => if k = c then mn (v a) q else if k = e then v a - mn (v a) q else v k
def valV (ps : List Pa) (q0 : Rat) : Str → Rat := ps.foldl (fun v p => stepV p v) fun _ => q0
theorem valV_snoc (ps : List Pa) (p : Pa) (q0 : Rat) : valV (ps ++ [p]) q0 = stepV p (valV ps q0) := by
  unfold valV
  rw [List.foldl_append]
  rfl
/-- the amounts of all channels -/
def amD (v : Str → Rat) : Str → D := fun k => frR (v k)
structure AmG (j0 : Nat) (ps : List Pa) (F : List Str) (q0 : Rat) (v : Str → Rat) : Prop where
  fj : ∀ a ∈ keys ps, FjG LL BB (j0 + ps.length) (v a)
  sum : rsum (F.map v) = q0
end
section
variable {LL BB : Nat → Nat} (B : Bs LL BB)
variable {j0 : Nat} {ps : List Pa} {F N F' N' f n : List Str} {p : Pa} {v : Str → Rat} {q0 : Rat}
theorem am_len (h : Drawn ps F N) : (dk (keys ps) (amD v)).length < 100 := by
  have := h.len
  unfold dk
  rw [List.length_map]
  omega
theorem map_f {v w : Str → Rat} {l : List Str} (h : ∀ k ∈ l, v k = w k) : l.map v = l.map w := List.map_congr_left h
include B in
theorem two_made {a c e : Str} {T : Rat} (h : Drawn ps F N) (hF' : F'.Perm (p.makes ++ f)) (hA : AmG LL BB j0 ps F q0 v) (hm : p.makes = [c, e]) (hc : c ∉ keys ps) (he : e ∉ keys ps) (hce : c ≠ e) (fk : ∀ a ∈ f, a ∈ keys ps) (s0 : rsum (p.takes.map v) + rsum (f.map v) = q0) (ht : p.takes = [a])
    (bo : Both (dk (keys ps) (amD v)) p (dk (keys ps) (amD v) ++ [(.inr c, frR T)] ++ [(.inr e, frR (v a - T))])) (f3 : FjG LL BB (j0 + ps.length + 1) T) (f4 : FjG LL BB (j0 + ps.length + 1) (v a - T)) : Both (dk (keys ps) (amD v)) p (dk (keys (ps ++ [p])) (amD (fun k => if k = c then T else if k = e then v a - T else v k))) ∧ AmG LL BB j0 (ps ++ [p]) F' q0 (fun k => if k = c then T else if k = e then v a - T else v k) := by
  refine ⟨?_, ?_, ?_⟩
  · have e0 : dk (keys (ps ++ [p])) (amD fun k => if k = c then T else if k = e then v a - T else v k) = dk (keys ps) (amD v) ++ [(.inr c, frR T)] ++ [(.inr e, frR (v a - T))] := by
      rw [keys_snoc, hm, dk_app, List.append_assoc]
      congr 1
      · refine dk_congr fun k hk => ?_
        show frR (if k = c then T else if k = e then v a - T else v k) = frR (v k)
        rw [if_neg fun z : k = c => hc (z ▸ hk), if_neg fun z : k = e => he (z ▸ hk)]
      · simp [dk, amD, hce.symm]
    rw [e0]
    exact bo
  · intro k hk
    rw [List.length_append]
    show FjG LL BB (j0 + ps.length + 1) (if k = c then T else if k = e then v a - T else v k)
    by_cases e1 : k = c
    · rw [if_pos e1]
      exact f3
    · rw [if_neg e1]
      by_cases e2 : k = e
      · rw [if_pos e2]
        exact f4
      · rw [if_neg e2]
        rw [keys_snoc, hm, List.mem_append, List.mem_cons, List.mem_singleton] at hk
        exact B.succ (hA.fj k (hk.resolve_right fun z => z.elim e1 e2))
  · rw [rsum_perm (hF'.map _), List.map_append, rsum_app, map_f (v := fun k => if k = c then T else if k = e then v a - T else v k) (w := v) (l := f) fun k hk => by
      show (if k = c then T else if k = e then v a - T else v k) = v k
      rw [if_neg fun z : k = c => hc (z ▸ fk k hk), if_neg fun z : k = e => he (z ▸ fk k hk)]]
    rw [← s0, hm, ht]
    congr 1
    show (if c = c then T else if c = e then v a - T else v c) + ((if e = c then T else if e = e then v a - T else v e) + 0) = v a + 0
    rw [if_pos rfl, if_neg hce.symm, if_pos rfl, Rat.add_zero, Rat.add_zero]
    exact sub_add _ _
include B in
theorem step_both (hlim : ∀ a q c e, p = .wr a q c e → FjG LL BB j0 q) (h : Drawn ps F N) (hF : F.Perm (p.takes ++ f)) (hN : N.Perm (p.makes ++ n)) (hF' : F'.Perm (p.makes ++ f)) (hb : p.bd) (hl : j0 + ps.length ≤ 7) (hA : AmG LL BB j0 ps F q0 v) : Both (dk (keys ps) (amD v)) p (dk (keys (ps ++ [p])) (amD (stepV p v))) ∧ AmG LL BB j0 (ps ++ [p]) F' q0 (stepV p v) := by
  have hk := am_len (v := v) h
  have tk : ∀ a ∈ p.takes, a ∈ keys ps := fun a ha => h.free_key (hF.mem_iff.mpr (List.mem_append_left _ ha))
  have nw : ∀ c ∈ p.makes, c ∉ keys ps := fun c hc => h.new_key (hN.mem_iff.mpr (List.mem_append_left _ hc))
  have fk : ∀ a ∈ f, a ∈ keys ps := fun a ha => h.free_key (hF.mem_iff.mpr (List.mem_append_right _ ha))
  have mnd := (fits_of h hF hN).mn
  have s0 : rsum (p.takes.map v) + rsum (f.map v) = q0 := by
    rw [← rsum_app, ← List.map_append, ← hA.sum]
    exact (rsum_perm (hF.map v)).symm
  have ge : ∀ a ∈ keys ps, valA (dk (keys ps) (amD v)) (.inr a) = some (frR (v a)) := fun a ha => dk_val ha
  have gn : ∀ c, c ∉ keys ps → valA (dk (keys ps) (amD v)) (.inr c) = none := fun c hc => dk_none hc
  cases p with
  | jn a b c =>
    have ka := tk a (by simp [Pa.takes])
    have kb := tk b (by simp [Pa.takes])
    have hc := nw c (by simp [Pa.makes])
    have f1 := hA.fj a ka
    have f2 := hA.fj b kb
    have bo := both_jn (k := 110) (by decide) (by decide) hk (ge a ka) (ge b kb) (gn c hc) (B.bd f1 (by omega)) (B.bd f2 (by omega))
    show Both _ _ (dk (keys (ps ++ [Pa.jn a b c])) (amD fun k => if k = c then v a + v b else v k)) ∧ AmG LL BB j0 (ps ++ [Pa.jn a b c]) F' q0 (fun k => if k = c then v a + v b else v k)
    refine ⟨?_, ?_, ?_⟩
    · have e : dk (keys (ps ++ [Pa.jn a b c])) (amD fun k => if k = c then v a + v b else v k) = dk (keys ps) (amD v) ++ [(.inr c, frR (v a + v b))] := by
        rw [keys_snoc, show (Pa.jn a b c).makes = [c] from rfl, dk_app]
        congr 1
        · refine dk_congr fun k hk => ?_
          show frR (if k = c then v a + v b else v k) = frR (v k)
          rw [if_neg fun z : k = c => hc (z ▸ hk)]
        · simp [dk, amD]
      rw [e]
      exact bo
    · intro k hk
      rw [List.length_append]
      show FjG LL BB (j0 + ps.length + 1) (if k = c then v a + v b else v k)
      by_cases e : k = c
      · rw [if_pos e]
        have := f1.add f2
        rw [← B.s2] at this
        exact this.mono (B.dvd _) (Nat.le_refl _)
      · rw [if_neg e]
        rw [keys_snoc, show (Pa.jn a b c).makes = [c] from rfl, List.mem_append, List.mem_singleton] at hk
        exact B.succ (hA.fj k (hk.resolve_right e))
    · rw [rsum_perm (hF'.map _), List.map_append, rsum_app, map_f (v := fun k => if k = c then v a + v b else v k) (w := v) (l := f) fun k hk => if_neg fun z : k = c => hc (z ▸ fk k hk)]
      rw [← s0]
      congr 1
      show (if c = c then v a + v b else v c) + 0 = v a + (v b + 0)
      rw [if_pos rfl, Rat.add_assoc]
  | dv a q c e =>
    have ka := tk a (by simp [Pa.takes])
    have hc := nw c (by simp [Pa.makes])
    have he := nw e (by simp [Pa.makes])
    have hce : c ≠ e := by
      intro z
      simp [Pa.makes, z] at mnd
    have hb : Fq 12 1 q := hb.1
    have f1 := hA.fj a ka
    have f2 : Fq (LL (j0 + ps.length + 1)) (BB (j0 + ps.length)) (v a * q) := by
      have := f1.mul hb
      rw [← B.s1, Nat.mul_one] at this
      exact this
    have f3 : FjG LL BB (j0 + ps.length + 1) (v a * q) := f2.mono (Nat.dvd_refl _) (by rw [B.s2]; omega)
    have f4 : FjG LL BB (j0 + ps.length + 1) (v a - v a * q) := by
      have := (Fq.mono f1 (B.dvd _) (Nat.le_refl _)).sub f2
      rw [← B.s2] at this
      exact this
    have bo := both_dv (k := 110) (by decide) (by decide) hk (ge a ka) (gn c hc) (gn e he) hce (B.bd f1 (by omega)) (Fq.bd hb (by decide) (by decide) (by decide)) (B.bd f3 (by omega))
    exact two_made B h hF' hA rfl hc he hce fk s0 rfl bo f3 f4
  | wr a q c e =>
    have ka := tk a (by simp [Pa.takes])
    have hc := nw c (by simp [Pa.makes])
    have he := nw e (by simp [Pa.makes])
    have hce : c ≠ e := by
      intro z
      simp [Pa.makes, z] at mnd
    have hb : FjG LL BB j0 q := hlim a q c e rfl
    have f1 := hA.fj a ka
    have f2 : FjG LL BB (j0 + ps.length) (mn (v a) q) := by
      unfold mn
      split
      · exact f1
      · exact B.up hb (by omega)
    have f4 : FjG LL BB (j0 + ps.length + 1) (v a - mn (v a) q) := by
      have := f1.sub f2
      rw [← B.s2] at this
      exact this.mono (B.dvd _) (Nat.le_refl _)
    have bo := both_wr (k := 110) (by decide) (by decide) hk (ge a ka) (gn c hc) (gn e he) hce (B.bd f1 (by omega)) (B.bd hb (by omega))
    exact two_made B h hF' hA rfl hc he hce fk s0 rfl bo (B.succ f2) f4
/-- the program's walk -/
structure WkG (LL BB : Nat → Nat) (j0 : Nat) (ps : List Pa) (F : List Str) (q0 : Rat) (v : Str → Rat) : Prop where
  am : AmG LL BB j0 ps F q0 v
  prg : ∀ (s0 s1 : Slot) (x : Bx), ∃ s3 s4 s5 s6 s7 s8 s9 s10 s11, Runs (.nm 3) PB (ps.map Pa.d) [s0, s1, .od [(.inr "in", frR q0)], .un, .un, .un, .un, .un, .un, .un, .un, .un] x [s0, s1, .od (dk (keys ps) (amD v)), s3, s4, s5, s6, s7, s8, s9, s10, s11] x
include B in
theorem walk_ok {ps : List Pa} {F N : List Str} {q0 : Rat} {j0 : Nat} (h : Drawn ps F N) (hl : j0 + ps.length ≤ 8) (hq : FjG LL BB j0 q0) (lim : LimG LL BB j0 ps) : WkG LL BB j0 ps F q0 (valV ps q0) := by
  induction h with
  | nil =>
    refine ⟨⟨fun a _ => hq, ?_⟩, fun _ _ _ => ⟨_, _, _, _, _, _, _, _, _, .nil⟩⟩
    show q0 + 0 = q0
    exact Rat.add_zero _
  | @step ps F N F' N' f n p hd hF hN hF' hN' hb ih =>
    rw [List.length_append] at hl
    have hl : j0 + (ps.length + 1) ≤ 8 := hl
    have w := ih (by omega) fun a q c e z => lim a q c e (List.mem_append_left _ z)
    obtain ⟨b1, a⟩ := step_both B (fun a q c e z => lim a q c e (by rw [z]; exact List.mem_append_right _ (List.mem_singleton_self _))) hd hF hN hF' hb (by omega) w.am
    rw [valV_snoc]
    refine ⟨a, fun s0 s1 x => ?_⟩
    obtain ⟨s3, s4, s5, s6, s7, s8, s9, s10, s11, r⟩ := w.prg s0 s1 x
    obtain ⟨t4, t5, t6, t7, t8, t9, t10, t11, e⟩ := b1 s0 s1 s4 s5 s6 s7 s8 s9 s10 s11 x
    refine ⟨.fz p.d, t4, t5, t6, t7, t8, t9, t10, t11, ?_⟩
    rw [List.map_append]
    exact r.snoc rfl e
end
theorem M_am_eq : M_p_amounts = (mSeq (mE (mDict [((mC (.str "in")), (mDef 1 (F_as_tuples 12) (mCons (mVar 1) mNil)))]) fun s ρ x => .nx (ρ.set 2 s) x) (mSeq (mFor (mIter (mProp "Net" F_Net_parts (mVar 0))) (.nm 3) PB) (fun ρ x => (mRet (mVar 2)) (lockE 2 ρ) x))) := rfl
section
variable {LL BB : Nat → Nat} {j0 : Nat} {ps : List Pa} {F N : List Str} {q0 : Rat} {v : Str → Rat}
theorem parts_get (x : Bx) : F_Net_parts [.obj "Net" (netF ps F)] x = .val (.tup (ps.map Pa.d)) x := by
  simp [F_Net_parts, M_Net_parts, mirror, startE, mRet, mE, mBind, R.bind, mVar, gFld, netF, o1]
theorem outs_get (x : Bx) : F_Net_outlets [.obj "Net" (netF ps F)] x = .val (.tup ((srtS F).map .str)) x := by
  have d1 : (("_outlets" : Str) == "_parts") = false := by decide +kernel
  have d2 : (("_outlets" : Str) == "_channels") = false := by decide +kernel
  simp [F_Net_outlets, M_Net_outlets, mirror, startE, mRet, mE, mBind, R.bind, mVar, gFld, netF, o1, List.lookup, d1, d2]
theorem as_fr (q : Rat) (n : Nat) (x : Bx) : F_as_tuples (n + 2) [frR q] x = .val (frR q) x := as_ok (n + 2) (frR q) (fr_tpl n q) x
theorem amounts_ok (w : WkG LL BB j0 ps F q0 v) (x : Bx) : F_p_amounts [.obj "Net" (netF ps F), frR q0] x = .val (.dct (dk (keys ps) (amD v))) x := by
  obtain ⟨s3, s4, s5, s6, s7, s8, s9, s10, s11, r⟩ := w.prg (.fz (.obj "Net" (netF ps F))) (.fz (frR q0)) x
  have e := r.loop
  have e2 : F_as_tuples 12 [frR q0] x = .val (frR q0) x := as_fr q0 10 x
  have e3 := parts_get (ps := ps) (F := F) x
  show mirror 12 M_p_amounts _ _ = _
  rw [M_am_eq]
  unfold mirror
  revert e e3
  generalize PB = B
  generalize netF ps F = nf
  intro e e3
  simp [startE, mSeq, mE, mDict, mPairs, shut, mBind, R.bind, mC, mVar, mDef, mCons, mNil, e2, keyD, mergeA, putA, mFor, mIter, mProp, e3, itemsD, oB, e, lockE, mRet]
end
end GG

namespace GG
open PySem PySem.Spec L2 Mi
theorem flDs_str : ∀ L : List Str, flDs (L.map .str) = some (L.map V.str)
  | [] => rfl
  | a :: L => by
    show (match flD (.str a), flDs (L.map .str) with
      | some v, some vs => some (v :: vs)
      | _, _ => none) = _
    rw [flDs_str L]
    rfl
theorem inV_str (k : Str) (L : List Str) : inV (.str k) (L.map V.str) = decide (k ∈ L) := by
  unfold inV
  rw [List.any_map]
  induction L with
  | nil => rfl
  | cons a L ih =>
    rw [List.any_cons, ih]
    show (a == k || decide (k ∈ L)) = _
    by_cases h : a = k
    · subst h
      simp
    · have h' : ¬ k = a := fun z => h z.symm
      simp [h, h']
theorem in_tup (neg : Bool) (k : Str) (L : List Str) : gIn neg (.str k) (.tup (L.map .str)) = some (.bl (if neg then !decide (k ∈ L) else decide (k ∈ L))) := by
  unfold gIn gInB
  simp only [flDs_str]
  show Option.map _ (some (inV (.str k) (L.map V.str))) = _
  rw [inV_str]
  rfl
/-- a comprehension over texts -/
theorem map_lc {i : Nat} {elt : MM D} {g : Str → D} {ρ : En} {x : Bx} : ∀ (ks : List Str) (acc : List D), (∀ k ∈ ks, elt (ρ.set i (.fz (.str k))) x = .val (g k) x) → acc.length + ks.length < 200 →
    lcRun (.nm i) mYes elt ρ (ks.map .str) acc x = .val (acc ++ ks.map g) x
  | [], acc, _, _ => by
    show (R.val acc x : R (List D)) = .val (acc ++ []) x
    rw [List.append_nil]
  | k :: ks, acc, h, hl => by
    rw [List.length_cons] at hl
    have h1 :=
      h k (List.mem_cons_self ..)
    have ih := map_lc (i := i) (elt := elt) (g := g) ks (acc ++ [g k]) (fun k hk => h k (List.mem_cons_of_mem _ hk)) (by rw [List.length_append]; show acc.length + 1 + _ < _; omega)
    show (match elt (ρ.set i (.fz (.str k))) x with
      | .val e x2 => if acc.length < big then lcRun (.nm i) mYes elt ρ (ks.map .str) (acc ++ [e]) x2 else .out
      | _ => .out) = _
    rw [h1]
    dsimp only
    rw [if_pos (bg _ (by omega)), ih, List.append_assoc]
    rfl
theorem zipK (f : Str → D) : ∀ K : List Str, ((dk K f).map (·.2)).zip K = K.map fun k => (f k, k)
  | [] => rfl
  | k :: K => by
    show (f k, k) :: ((dk K f).map (·.2)).zip K = _
    rw [zipK f K]
    rfl
/-! ### the pairs of a walk, sorted -/
def host (ps : List Pa) (F : List Str) : D := .obj "Net" (netF ps F)
def WL (K : List Str) (f : Str → D) : List D := pairsD (srtK (((dk K f).map (·.2)).zip K))
theorem sortIt_dk {K : List Str} (f : Str → D) (h : K.Nodup) : gSortIt (.dct (dk K f)) = some (.lst (WL K f)) := by
  simp [gSortIt, isDct, txt_dk, h, WL]
theorem insK_map (f : Str → D) (a : Str) : ∀ L : List Str, insK (f a, a) (L.map fun k => (f k, k)) = (insS a L).map fun k => (f k, k)
  | [] => rfl
  | b :: L => by
    show (if leS a b = true then (f a, a) :: (f b, b) :: L.map _ else (f b, b) :: insK (f a, a) (L.map _)) = (if leS a b = true then a :: b :: L else b :: insS a L).map _
    split
    · rfl
    · rw [insK_map f a L]
      rfl
theorem srtK_map (f : Str → D) : ∀ L : List Str, srtK (L.map fun k => (f k, k)) = (srtS L).map fun k => (f k, k)
  | [] => rfl
  | a :: L => by
    show insK (f a, a) (srtK (L.map _)) = _
    rw [srtK_map f L, insK_map]
    rfl
theorem WL_is (K : List Str) (f : Str → D) : WL K f = (srtS K).map fun k => .tup [.str k, f k] := by
  unfold WL pairsD
  rw [zipK, srtK_map, List.map_map]
  rfl
/-! ### two parts that stand side by side, turned -/
theorem drawn_last {ps : List Pa} {q : Pa} {F N : List Str} (h : Drawn (ps ++ [q]) F N) : ∃ F0 N0 f n, Drawn ps F0 N0 ∧ F0.Perm (q.takes ++ f) ∧ N0.Perm (q.makes ++ n) ∧ F.Perm (q.makes ++ f) ∧ N.Perm n ∧ q.bd := by
  generalize e : ps ++ [q] = l at h
  cases h with
  | nil => exact absurd e (by simp)
  | @step ps' F0 N0 F' N' f n p hd hF hN hF' hN' hb =>
    obtain ⟨rfl, h2⟩ := List.append_inj' e rfl
    cases h2
    exact ⟨F0, N0, f, n, hd, hF, hN, hF', hN', hb⟩
theorem cut_out {f t : List Str} (nf : f.Nodup) (nt : t.Nodup) (h : ∀ a ∈ t, a ∈ f) : ∃ g, f.Perm (t ++ g) := by
  refine ⟨f.filter fun a => !decide (a ∈ t), ?_⟩
  have h1 := (List.filter_append_perm (fun a => decide (a ∈ t)) f).symm
  refine h1.trans (List.Perm.append_right _ ?_)
  refine (List.perm_ext_iff_of_nodup (nf.filter _) nt).mpr fun a => ?_
  rw [List.mem_filter]
  exact ⟨fun z => of_decide_eq_true z.2, fun z => ⟨h a z, decide_eq_true z⟩⟩
theorem drawn_swap {ps : List Pa} {p q : Pa} {F N : List Str} (h : Drawn (ps ++ [p] ++ [q]) F N) (hd : ∀ a ∈ q.takes, a ∉ p.makes) : Drawn (ps ++ [q] ++ [p]) F N := by
  obtain ⟨F1, N1, f2, n2, h1, a1, a2, a3, a4, a5⟩ := drawn_last h
  obtain ⟨F0, N0, f1, n1, h0, b1, b2, b3, b4, b5⟩ := drawn_last h1
  have nF1 : F1.Nodup := (List.nodup_append.mp h1.fo).1
  have nf1 : f1.Nodup := (List.nodup_append.mp (b3.nodup_iff.mp nF1)).2.1
  have nt : q.takes.Nodup := (List.nodup_append.mp (a1.nodup_iff.mp nF1)).1
  obtain ⟨g, hg⟩ := cut_out nf1 nt fun a ha => by
    rcases List.mem_append.mp (b3.mem_iff.mp (a1.mem_iff.mpr (List.mem_append_left _ ha))) with z | z
    · exact absurd z (hd a ha)
    · exact z
  have c : ∀ a : Str, _ := fun a => And.intro (a1.count_eq a) (And.intro (a2.count_eq a) (And.intro (a3.count_eq a) (And.intro (a4.count_eq a) (And.intro (b1.count_eq a) (And.intro (b2.count_eq a) (And.intro (b3.count_eq a) (And.intro (b4.count_eq a) (hg.count_eq a))))))))
  simp only [List.count_append] at c
  refine .step (F := q.makes ++ (p.takes ++ g)) (N := p.makes ++ n2) (f := q.makes ++ g) (n := n2) (.step (f := p.takes ++ g) (n := p.makes ++ n2) h0 ?_ ?_ (.refl _) (.refl _) a5) ?_ (.refl _) ?_ ?_ b5
  · refine List.perm_iff_count.mpr fun a => ?_
    have := c a
    simp only [List.count_append]
    omega
  · refine List.perm_iff_count.mpr fun a => ?_
    have := c a
    simp only [List.count_append]
    omega
  · refine List.perm_iff_count.mpr fun a => ?_
    simp only [List.count_append]
    omega
  · refine List.perm_iff_count.mpr fun a => ?_
    have := c a
    simp only [List.count_append]
    omega
  · refine List.perm_iff_count.mpr fun a => ?_
    have := c a
    omega
theorem drawn_exch {ps1 : List Pa} {p q : Pa} (hd : ∀ a ∈ q.takes, a ∉ p.makes) : ∀ (m : Nat) (ps2 : List Pa) (F N : List Str), ps2.length = m → Drawn (ps1 ++ [p] ++ [q] ++ ps2) F N → Drawn (ps1 ++ [q] ++ [p] ++ ps2) F N
  | 0, [], F, N, _, h => by
    rw [List.append_nil] at h ⊢
    exact drawn_swap h hd
  | m + 1, ps2, F, N, hm, h => by
    rcases List.eq_nil_or_concat ps2 with rfl | ⟨l, t, rfl⟩
    · cases hm
    · rw [List.concat_eq_append] at *
      rw [← List.append_assoc] at h ⊢
      obtain ⟨F0, N0, f, n, h0, a1, a2, a3, a4, a5⟩ := drawn_last h
      refine .step (drawn_exch hd m l F0 N0 ?_ h0) a1 a2 a3 a4 a5
      rw [List.length_append] at hm
      exact Nat.succ.inj hm
/-! ### the amounts stay -/
theorem stepV_out {p : Pa} {v : Str → Rat} {k : Str} (h : k ∉ p.makes) : stepV p v k = v k := by
  cases p with
  | jn a b c =>
    have n1 : ¬ k = c := fun z => h (by rw [z]; exact List.mem_cons_self ..)
    exact if_neg n1
  | dv a q c e =>
    have n1 : ¬ k = c := fun z => h (by rw [z]; exact List.mem_cons_self ..)
    have n2 : ¬ k = e := fun z => h (by rw [z]; exact List.mem_cons_of_mem _ (List.mem_cons_self ..))
    exact (if_neg n1).trans (if_neg n2)
  | wr a q c e =>
    have n1 : ¬ k = c := fun z => h (by rw [z]; exact List.mem_cons_self ..)
    have n2 : ¬ k = e := fun z => h (by rw [z]; exact List.mem_cons_of_mem _ (List.mem_cons_self ..))
    exact (if_neg n1).trans (if_neg n2)
theorem stepV_in {p : Pa} {v w : Str → Rat} {k : Str} (h : k ∈ p.makes) (e : ∀ a ∈ p.takes, v a = w a) : stepV p v k = stepV p w k := by
  cases p with
  | jn a b c =>
    have h : k = c := by simpa [Pa.makes] using h
    show (if k = c then v a + v b else v k) = (if k = c then w a + w b else w k)
    rw [if_pos h, if_pos h, e a (List.mem_cons_self ..), e b (List.mem_cons_of_mem _ (List.mem_cons_self ..))]
  | dv a q c d =>
    have h : k = c ∨ k = d := by simpa [Pa.makes] using h
    have ea := e a (List.mem_cons_self ..)
    show (if k = c then v a * q else if k = d then v a - v a * q else v k) = (if k = c then w a * q else if k = d then w a - w a * q else w k)
    rw [ea]
    by_cases z : k = c
    · rw [if_pos z, if_pos z]
    · have z2 : k = d := h.resolve_left z
      rw [if_neg z, if_neg z, if_pos z2, if_pos z2]
  | wr a q c d =>
    have h : k = c ∨ k = d := by simpa [Pa.makes] using h
    have ea := e a (List.mem_cons_self ..)
    show (if k = c then mn (v a) q else if k = d then v a - mn (v a) q else v k) = (if k = c then mn (w a) q else if k = d then w a - mn (w a) q else w k)
    rw [ea]
    by_cases z : k = c
    · rw [if_pos z, if_pos z]
    · have z2 : k = d := h.resolve_left z
      rw [if_neg z, if_neg z, if_pos z2, if_pos z2]
theorem step_swap {p q : Pa} (h1 : ∀ a ∈ q.takes, a ∉ p.makes) (h2 : ∀ a ∈ p.takes, a ∉ q.makes) (h3 : ∀ a ∈ p.makes, a ∉ q.makes) (v : Str → Rat) : stepV q (stepV p v) = stepV p (stepV q v) := by
  funext k
  by_cases kp : k ∈ p.makes
  · rw [stepV_out (h3 k kp), stepV_in kp fun a ha => (stepV_out (h2 a ha) : stepV q v a = v a)]
  · rw [stepV_out (p := p) (v := stepV q v) kp]
    by_cases kq : k ∈ q.makes
    · exact stepV_in kq fun a ha => stepV_out (h1 a ha)
    · rw [stepV_out kq, stepV_out kp, stepV_out kq]
theorem valV_exch {ps1 ps2 : List Pa} {p q : Pa} {F N : List Str} (h : Drawn (ps1 ++ [p] ++ [q]) F N) (h1 : ∀ a ∈ q.takes, a ∉ p.makes) (q0 : Rat) : valV (ps1 ++ [q] ++ [p] ++ ps2) q0 = valV (ps1 ++ [p] ++ [q] ++ ps2) q0 := by
  have e : valV (ps1 ++ [q] ++ [p]) q0 = valV (ps1 ++ [p] ++ [q]) q0 := by
    rw [valV_snoc, valV_snoc, valV_snoc, valV_snoc]
    have nd := h.keysNd
    rw [keys_snoc, keys_snoc] at nd
    refine (step_swap h1 (fun a ha hb => ?_) (fun a ha hb => ?_) _).symm
    · obtain ⟨F1, N1, f2, n2, g1, _⟩ := drawn_last h
      obtain ⟨F0, N0, f1, n1, g0, b1, _⟩ := drawn_last g1
      have ka := g0.free_key (b1.mem_iff.mpr (List.mem_append_left _ ha))
      exact (List.nodup_append.mp nd).2.2 a (List.mem_append_left _ ka) a hb rfl
    · exact (List.nodup_append.mp nd).2.2 a (List.mem_append_right _ ha) a hb rfl
  unfold valV at *
  rw [List.foldl_append, e, ← List.foldl_append]
theorem drawn_pre : ∀ (m : Nat) (l r : List Pa) (F N : List Str), r.length = m → Drawn (l ++ r) F N → ∃ F N, Drawn l F N
  | 0, l, [], F, N, _, h => ⟨F, N, by rw [List.append_nil] at h; exact h⟩
  | m + 1, l, r, F, N, hm, h => by
    rcases List.eq_nil_or_concat r with rfl | ⟨r2, t, rfl⟩
    · cases hm
    · rw [List.concat_eq_append] at *
      rw [← List.append_assoc] at h
      obtain ⟨F0, N0, f, n, h0, _⟩ := drawn_last h
      rw [List.length_append] at hm
      exact drawn_pre m l r2 F0 N0 (Nat.succ.inj hm) h0
theorem takes_key {ps : List Pa} {F N : List Str} (h : Drawn ps F N) : ∀ p ∈ ps, ∀ s ∈ p.takes, s ∈ keys ps := by
  induction h with
  | nil => exact fun p hp => nomatch hp
  | @step ps F N F' N' f n p hd hF hN hF' hN' hb ih =>
    intro r hr s hs
    rw [keys_snoc]
    rcases List.mem_append.mp hr with z | z
    · exact List.mem_append_left _ (ih r z s hs)
    · rw [List.mem_singleton.mp z] at hs
      exact List.mem_append_left _ (hd.free_key (hF.mem_iff.mpr (List.mem_append_left _ hs)))
/-! ### more comes in, no channel has less -/
theorem mul_le' {a b r : Rat} (hr : 0 ≤ r) (h : a ≤ b) : a * r ≤ b * r := by
  have := Rat.mul_nonneg hr (show 0 ≤ b - a by grind)
  grind
theorem step_mono {p : Pa} (hb : p.bd) {v w : Str → Rat} (h : ∀ k, v k ≤ w k) (k : Str) : stepV p v k ≤ stepV p w k := by
  cases p with
  | jn a b c =>
    have ha := h a
    have hb := h b
    show (if k = c then v a + v b else v k) ≤ (if k = c then w a + w b else w k)
    split
    · grind
    · exact h k
  | dv a q c e =>
    obtain ⟨_, q0, q1⟩ : Fq 12 1 q ∧ 0 ≤ q ∧ q ≤ 1 := hb
    have ha := h a
    have m1 := mul_le' q0 ha
    have m2 := mul_le' (r := 1 - q) (by grind) ha
    show (if k = c then v a * q else if k = e then v a - v a * q else v k) ≤ (if k = c then w a * q else if k = e then w a - w a * q else w k)
    split
    · exact m1
    · split
      · grind
      · exact h k
  | wr a q c e =>
    have ha := h a
    show (if k = c then mn (v a) q else if k = e then v a - mn (v a) q else v k) ≤ (if k = c then mn (w a) q else if k = e then w a - mn (w a) q else w k)
    unfold mn
    split
    · split <;> split <;> grind
    · split
      · split <;> split <;> grind
      · exact h k
theorem valV_mono {ps : List Pa} {F N : List Str} (h : Drawn ps F N) {q q' : Rat} (hq : q ≤ q') : ∀ k, valV ps q k ≤ valV ps q' k := by
  induction h with
  | nil => exact fun _ => hq
  | @step ps F N F' N' f n p hd hF hN hF' hN' hb ih =>
    intro k
    rw [valV_snoc, valV_snoc]
    exact step_mono hb ih k
/-! ### all limits and the inflow times two -/
def dbl : Pa → Pa
  | .wr a q c e => .wr a (q * 2) c e
  | p => p
theorem dbl_takes (p : Pa) : (dbl p).takes = p.takes := by cases p <;> rfl
theorem dbl_makes (p : Pa) : (dbl p).makes = p.makes := by cases p <;> rfl
theorem dbl_bd {p : Pa} (h : p.bd) : (dbl p).bd := by cases p <;> exact h
theorem drawn_dbl {ps : List Pa} {F N : List Str} (h : Drawn ps F N) : Drawn (ps.map dbl) F N := by
  induction h with
  | nil => exact .nil
  | @step ps F N F' N' f n p hd hF hN hF' hN' hb ih =>
    rw [List.map_append]
    exact .step ih (by rw [dbl_takes]; exact hF) (by rw [dbl_makes]; exact hN) (by rw [dbl_makes]; exact hF') hN' (dbl_bd hb)
theorem keys_dbl (ps : List Pa) : keys (ps.map dbl) = keys ps := by
  unfold keys
  rw [List.flatMap_map]
  congr 2
  funext p
  exact dbl_makes p
theorem mn_two (u q : Rat) : mn (u * 2) (q * 2) = mn u q * 2 := by
  unfold mn
  split <;> split <;> grind
theorem step_two {p : Pa} {v w : Str → Rat} (h : ∀ k, w k = v k * 2) (k : Str) : stepV (dbl p) w k = stepV p v k * 2 := by
  cases p with
  | jn a b c =>
    show (if k = c then w a + w b else w k) = (if k = c then v a + v b else v k) * 2
    rw [h a, h b, h k]
    split <;> grind
  | dv a q c e =>
    show (if k = c then w a * q else if k = e then w a - w a * q else w k) = (if k = c then v a * q else if k = e then v a - v a * q else v k) * 2
    rw [h a, h k]
    split
    · grind
    · split <;> grind
  | wr a q c e =>
    show (if k = c then mn (w a) (q * 2) else if k = e then w a - mn (w a) (q * 2) else w k) = (if k = c then mn (v a) q else if k = e then v a - mn (v a) q else v k) * 2
    rw [h a, h k, mn_two]
    split
    · rfl
    · split <;> grind
theorem fold_two : ∀ (ps : List Pa) (v w : Str → Rat), (∀ k, w k = v k * 2) → ∀ k, (ps.map dbl).foldl (fun v p => stepV p v) w k = ps.foldl (fun v p => stepV p v) v k * 2
  | [], _, _, h => h
  | p :: ps, v, w, h => by
    rw [List.map_cons, List.foldl_cons, List.foldl_cons]
    exact fold_two ps _ _ (step_two h)
theorem valV_two (ps : List Pa) (q : Rat) (k : Str) : valV (ps.map dbl) (q * 2) k = valV ps q k * 2 := fold_two ps _ _ (fun _ => rfl) k
end GG

namespace GG
open PySem PySem.Spec L2 Mi
/-! ### what the program tells -/
def LL (j : Nat) : Nat := 12 * 12 ^ j
def BB (j : Nat) : Nat := 80 * 2 ^ j
theorem bs53 : Bs LL BB where
  s1 := fun j => by
    unfold LL
    rw [Nat.pow_succ, Nat.mul_assoc]
  s2 := fun j => by
    unfold BB
    rw [Nat.pow_succ]
    omega
  sm := by decide
  l0 := by decide
  b0 := by decide
/-- limits of weirs -/
def Lim (ps : List Pa) : Prop := ∀ a q c e, Pa.wr a q c e ∈ ps → Fq 12 80 q
def wpD (f : Str → Rat) : Str → D := fun k => .tup [.str k, frR (f k)]
def wkD (ps : List Pa) (q : Rat) : List D := (srtS (keys ps)).map (wpD (valV ps q))
section
variable {ps : List Pa} {F N : List Str} (h : Drawn ps F N) (hl : ps.length ≤ 5) (lim : Lim ps) {q : Rat} (hq : Fq 12 80 q) (x : Bx)
include h hl lim hq
theorem wk : WkG LL BB 0 ps F q (valV ps q) := walk_ok bs53 h (by omega) hq lim
theorem val_bd {k : Str} (hk : k ∈ keys ps) : Bq 110 (valV ps q k) := bs53.bd ((wk h hl lim hq).am.fj k hk) (by omega)
theorem val_sum : rsum (F.map (valV ps q)) = q := (wk h hl lim hq).am.sum
theorem am_ok : F_p_amounts [host ps F, frR q] x = .val (.dct (dk (keys ps) (amD (valV ps q)))) x := amounts_ok (wk h hl lim hq) x
theorem srt_ok : gSortIt (.dct (dk (keys ps) (amD (valV ps q)))) = some (.lst (wkD ps q)) := by
  rw [sortIt_dk _ h.keysNd, WL_is]
  rfl
theorem walked_ok : F_walked [host ps F, frR q] x = .val (.tup (wkD ps q)) x := by
  have e2 := am_ok h hl lim hq x
  have e3 := srt_ok h hl lim hq
  revert e2 e3
  generalize dk (keys ps) (amD (valV ps q)) = kk
  generalize wkD ps q = wl
  generalize host ps F = hh
  generalize frR q = Q
  intro e2 e3
  simp [F_walked, M_walked, mirror, startE, mSeq, mAsg, mE, mDef, mBind, R.bind, mCons, mNil, mVar, e2, Tg.asg, mRet, mCall, e3, o1, gTuple]
theorem walkedx_ok : F_walked_x [host ps F, frR q] x = .val (.xt .tp (wkD ps q)) x := by
  have e2 := am_ok h hl lim hq x
  have e3 := srt_ok h hl lim hq
  revert e2 e3
  generalize dk (keys ps) (amD (valV ps q)) = kk
  generalize wkD ps q = wl
  generalize host ps F = hh
  generalize frR q = Q
  intro e2 e3
  simp [F_walked_x, M_walked_x, mirror, startE, mSeq, mAsg, mE, mDef, mBind, R.bind, mCons, mNil, mVar, e2, Tg.asg, mRet, mCall, e3, o1, gTupX]
theorem flow_ok : F_flow [host ps F, frR q] x = .val (.tup ((srtS F).map (wpD (valV ps q)))) x := by
  have e2 := am_ok h hl lim hq x
  have e4 : (mIter (mProp "Net" F_Net_outlets (mVar 0))) [.fz (host ps F), .fz (frR q), .fz (.dct (dk (keys ps) (amD (valV ps q)))), .un] x = .val ((srtS F).map .str) x := by
    have e := outs_get (ps := ps) (F := F) x
    unfold host
    revert e
    generalize netF ps F = nf
    generalize F_Net_outlets = Y
    intro e
    simp [mIter, mBind, R.bind, mProp, mVar, e, itemsD, oB]
  have len : (srtS F).length < 150 := by
    have l1 := (srtS_perm F).length_eq
    have l2 := (freeK h).length_eq
    have l3 := h.len
    rw [List.length_append] at l2
    omega
  have e5 := fun (ρ : En) (hρ : 3 < ρ.length) (h2 : ρ[2]? = some (.fz (.dct (dk (keys ps) (amD (valV ps q)))))) => map_lc (i := 3) (elt := mTup (mCons (mVar 3) (mCons (mOp (fun a b => o1 (gSubA a b)) (mVar 2) (mVar 3)) mNil))) (g := wpD (valV ps q)) (ρ := ρ) (x := x) (srtS F) [] (fun k hk => by
    have e3 : (ρ.set 3 (.fz (.str k)))[2]? = some (.fz (.dct (dk (keys ps) (amD (valV ps q))))) := by rw [List.getElem?_set_ne (by decide)]; exact h2
    have e4 : (ρ.set 3 (.fz (.str k)))[3]? = some (.fz (.str k)) := List.getElem?_set_self hρ
    have e5 : valA (dk (keys ps) (amD (valV ps q))) (.inr k) = some (frR (valV ps q k)) := dk_val (h.free_key ((srtS_perm F).mem_iff.mp hk))
    simp [mTup, mCons, mNil, mOp, mBind, R.bind, mVar, e3, e4, gSubA, isDct, gDGet, keyD, e5, o1, bl, wpD]) (by simp; omega)
  have e6 := lc_of (own := [3]) e4 (e5 (wipeE (shut [.fz (host ps F), .fz (frR q), .fz (.dct (dk (keys ps) (amD (valV ps q)))), .un]) [3]) (by simp [wipeE, shut]) (by simp [wipeE, shut]))
  rw [List.nil_append] at e6
  show mirror 4 M_flow _ _ = _
  unfold M_flow mirror
  revert e2 e6
  generalize (mLc (mIter (mProp "Net" F_Net_outlets (mVar 0))) (.nm 3) mYes (mTup (mCons (mVar 3) (mCons (mOp (fun a b => o1 (gSubA a b)) (mVar 2) (mVar 3)) mNil))) [3]) = EE
  generalize dk (keys ps) (amD (valV ps q)) = kk
  generalize host ps F = hh
  generalize frR q = Q
  intro e2 e6
  simp [startE, mSeq, mAsg, mE, mDef, mBind, R.bind, mCons, mNil, mVar, e2, Tg.asg, mRet, mCall, e6, o1, gTuple]
end
end GG

namespace GG
open PySem PySem.Spec L2 Mi
theorem bg1 {n : Nat} (h : n < 100000) : n < big := Nat.lt_of_lt_of_le h (by decide)
theorem eq_fr (a b : Rat) : gEqB (frR a) (frR b) = some (decide (a = b)) := by
  have e : gEqB (frR a) (frR b) = some (PyData.eqv (.tuple [.int a.num, .int a.den]) (.tuple [.int b.num, .int b.den])) := by
    unfold gEqB frR fr
    simp [D.py, D.pys, SeqAt.shaped, PyData.canLay0, PyData.canLayAll0, PyData.depth, PyData.depthAll]
  rw [e]
  congr 1
  have e2 : PyData.eqv (.tuple [.int a.num, .int a.den]) (.tuple [.int b.num, .int b.den]) = (decide (a.num = b.num) && decide (a.den = b.den)) := by
    simp [PyData.eqv, PyData.eqvAll]
    have h3 : ((a.den : Int) = b.den) ↔ a.den = b.den := by omega
    by_cases h1 : a.num = b.num <;> by_cases h2 : a.den = b.den <;> simp [h1, h2, h3]
  rw [e2]
  by_cases h : a = b
  · subst h
    simp
  · have : ¬ (a.num = b.num ∧ a.den = b.den) := fun z => h (Rat.ext z.1 z.2)
    rw [decide_eq_false h]
    by_cases h1 : a.num = b.num
    · have h2 : ¬ a.den = b.den := fun z => this ⟨h1, z⟩
      simp [h1, h2]
    · simp [h1]
theorem lc_gen {α : Type} {tg : Tg} {cond : MM Bool} {elt : MM D} {f g : α → D} {p : α → Bool} {ρ : En} {x : Bx} : ∀ (ks : List α) (acc : List D), (∀ k ∈ ks, ∃ ρ1, tg.asg (f k) ρ = some ρ1 ∧ cond ρ1 x = .val (p k) x ∧ (p k = true → elt ρ1 x = .val (g k) x)) → acc.length + ks.length < 100000 →
    lcRun tg cond elt ρ (ks.map f) acc x = .val (acc ++ (ks.filter p).map g) x
  | [], acc, _, _ => by
    show (R.val acc x : R (List D)) = .val (acc ++ []) x
    rw [List.append_nil]
  | k :: ks, acc, h, hl => by
    rw [List.length_cons] at hl
    obtain ⟨ρ1, h1, h2, h3⟩ := h k (List.mem_cons_self ..)
    have hr : ∀ q ∈ ks, ∃ ρ1, tg.asg (f q) ρ = some ρ1 ∧ cond ρ1 x = .val (p q) x ∧ (p q = true → elt ρ1 x = .val (g q) x) := fun q hq => h q (List.mem_cons_of_mem _ hq)
    rw [List.map_cons]
    unfold lcRun
    rw [h1]
    dsimp only
    rw [h2]
    cases e : p k with
    | true =>
      dsimp only
      rw [h3 e]
      dsimp only
      rw [if_pos (bg1 (by omega)), lc_gen ks (acc ++ [g k]) hr (by rw [List.length_append]; show acc.length + 1 + _ < _; omega), List.filter_cons_of_pos e, List.append_assoc]
      rfl
    | false =>
      dsimp only
      rw [lc_gen ks acc hr (by omega), List.filter_cons_of_neg (by rw [e]; exact Bool.false_ne_true)]
theorem filter_all {α : Type} (ks : List α) : ks.filter (fun _ => true) = ks := by simp
theorem lc_map {α : Type} {tg : Tg} {elt : MM D} {f g : α → D} {ρ : En} {x : Bx} (ks : List α) (h : ∀ k ∈ ks, ∃ ρ1, tg.asg (f k) ρ = some ρ1 ∧ elt ρ1 x = .val (g k) x) (hl : ks.length < 100000) :
    lcRun tg mYes elt ρ (ks.map f) [] x = .val (ks.map g) x := by
  have r := lc_gen (cond := mYes) (p := fun _ => true) ks [] (fun k hk => by
    obtain ⟨ρ1, h1, h2⟩ := h k hk
    exact ⟨ρ1, h1, rfl, fun _ => h2⟩) (by simpa using hl)
  rw [filter_all, List.nil_append] at r
  exact r
theorem pairsP_dk (f : Str → D) : ∀ K : List Str, pairsP (K.map fun k => .tup [.str k, f k]) = some (dk K f)
  | [] => rfl
  | k :: K => by
    show pairsP (.tup [.str k, f k] :: K.map _) = _
    unfold pairsP
    rw [pairsP_dk f K]
    rfl
theorem merge_dk {f : Str → D} : ∀ (M K : List Str), (K ++ M).Nodup → mergeA (dk K f) (dk M f) = dk (K ++ M) f
  | [], K, _ => by
    rw [List.append_nil]
    rfl
  | m :: M, K, h => by
    have hm : m ∉ K := fun z => (List.nodup_append.mp h).2.2 m z m (List.mem_cons_self ..) rfl
    have e : putA (dk K f) (.inr m) (f m) = dk (K ++ [m]) f := by
      rw [dk_new hm, dk_app]
      rfl
    refine (show mergeA (putA (dk K f) (.inr m) (f m)) (dk M f) = _ from ?_)
    rw [e, merge_dk M (K ++ [m]) (by rw [List.append_assoc]; exact h), List.append_assoc]
    rfl
/-! ### the first rows of the law's turn -/
def NA : MS := (mPar 3 4 (mCons (mMake "Net" 1 F_Net___init__ (mCons (mVar 0) mNil)) (mCons (mTup (mCons (mC (.int 0)) (mCons (mC (.int 1)) mNil))) mNil)))
def NI : MM (List D) := (mIter (mDef 2 F_flow (mCons (mVar 3) (mCons (mVar 1) mNil))))
def NS : MS := (mAsg (.nm 4) (mDef 2 F_l_add (mCons (mVar 4) (mCons (mVar 6) mNil))))
def NC : MM Bool := (mTst (mOp (fun a b => o1 (gNe a b)) (mVar 4) (mVar 1)))
def ND : MM D := (mCall gDictX (mCons (mDef 2 F_walked_x (mCons (mVar 3) (mCons (mDef 2 F_l_add (mCons (mVar 1) (mCons (mVar 2) mNil))) mNil))) mNil))
def NW : MM (List D) := (mIter (mDef 2 F_walked (mCons (mVar 3) (mCons (mVar 1) mNil))))
def NEC : MM Bool := (mTru (mDef 2 F_l_low (mCons (mOp (fun a b => o1 (gSubA a b)) (mVar 7) (mVar 5)) (mCons (mVar 6) mNil))))
def NEL : MM D := (mLc NW (.tp [5, 6]) NEC (mVar 5) [5, 6])
def NE : MM Bool := (mTst (mOp (fun a b => o1 (gNe a b)) NEL (mLst mNil)))
def NFE : MM D := (mIf (mTst (mOp (fun a b => o1 (gEq a b)) (mOp (fun a b => o1 (gIx a b)) (mVar 14) (mC (.int 0))) (mC (.str "weir")))) (mOp (fun a b => o1 (gAdd a b)) (mOp (fun a b => o1 (gAdd a b)) (mSlice (mVar 14) mNoPart (mPart (mC (.int 2)))) (mTup (mCons (mDef 2 F_l_mul (mCons (mOp (fun a b => o1 (gIx a b)) (mVar 14) (mC (.int 2))) (mCons (mTup (mCons (mC (.int 2)) (mCons (mC (.int 1)) mNil))) mNil))) mNil))) (mSlice (mVar 14) (mPart (mC (.int 3))) mNoPart)) (mVar 14))
def NF : MM D := (mLc (mIter (mVar 0)) (.nm 14) mYes NFE [14])
def NGE : MM D := (mTup (mCons (mVar 5) (mCons (mDef 2 F_l_mul (mCons (mVar 6) (mCons (mTup (mCons (mC (.int 2)) (mCons (mC (.int 1)) mNil))) mNil))) mNil)))
def NG : MM D := (mCall gTuple (mCons (mLc NW (.tp [5, 6]) mYes NGE [5, 6]) mNil))
def NHW : MM D := (mDef 2 F_walked (mCons (mMake "Net" 1 F_Net___init__ (mCons (mCall gTuple (mCons (mVar 8) mNil)) mNil)) (mCons (mDef 2 F_l_mul (mCons (mVar 1) (mCons (mTup (mCons (mC (.int 2)) (mCons (mC (.int 1)) mNil))) mNil))) mNil)))
def NH : MM Bool := (mTNot (mTru (mDef 2 (F_l_same 12) (mCons NHW (mCons (mVar 9) mNil)))))
def NO : MS := mRet (mC (.bl false))
def NR : MM (List D) := (mBind (mCons (mOp (fun a b => o1 (gSub a b)) (mCall gLen (mCons (mVar 0) mNil)) (mC (.int 1))) mNil) fun ds => oB (gRng ds))
def NP : MS := (mPar 11 12 (mCons (mOp (fun a b => o1 (gIx a b)) (mVar 0) (mVar 10)) (mCons (mOp (fun a b => o1 (gIx a b)) (mVar 0) (mOp (fun a b => o1 (gAdd a b)) (mVar 10) (mC (.int 1)))) mNil)))
def NQ1 : MM Bool := (mTst (mOp (fun a b => o1 (gIn true a b)) (mOp (fun a b => o1 (gIx a b)) (mVar 12) (mC (.int 1))) (mSlice (mVar 11) (mPart (mC (.int 3))) mNoPart)))
def NQ2 : MM Bool := (mTst (mOp (fun a b => o1 (gInT true a b)) (mOp (fun a b => o1 (gIx a b)) (mVar 12) (mC (.int 2))) (mSlice (mVar 11) (mPart (mC (.int 3))) mNoPart)))
def NT : MM D := (mOp (fun a b => o1 (gAdd a b)) (mOp (fun a b => o1 (gAdd a b)) (mSlice (mVar 0) mNoPart (mPart (mVar 10))) (mTup (mCons (mVar 12) (mCons (mVar 11) mNil)))) (mSlice (mVar 0) (mPart (mOp (fun a b => o1 (gAdd a b)) (mVar 10) (mC (.int 2)))) mNoPart))
def NK : MM Bool := (mTNot (mTru (mDef 2 (F_l_same 12) (mCons (mDef 2 F_walked (mCons (mMake "Net" 1 F_Net___init__ (mCons (mVar 13) mNil)) (mCons (mVar 1) mNil))) (mCons (mDef 2 F_walked (mCons (mVar 3) (mCons (mVar 1) mNil))) mNil)))))
def NB2 : MS := (mSeq NP (mIfS (mTAnd NQ1 NQ2) (mSeq (mAsg (.nm 13) NT) (mIfS NK NO mNext)) mNext))
theorem M_nr_is : F_l_net_right = mirror 15 (mSeq NA (mSeq (mFor NI (.tp [5, 6]) NS) (mSeq (mIfS NC NO mNext) (mSeq (mAsg (.nm 7) ND) (mSeq (mIfS NE NO mNext) (mSeq (mAsg (.nm 8) NF) (mSeq (mAsg (.nm 9) NG) (mSeq (mIfS NH NO mNext) (mSeq (mFor NR (.nm 10) NB2) (mRet (mC (.bl true)))))))))))) := rfl
theorem two_fr : D.tup [.int 2, .int 1] = frR 2 := rfl
theorem zero_fr : D.tup [.int 0, .int 1] = frR 0 := rfl
theorem two_bd : Bq 110 2 := ⟨by decide, by decide⟩
section
variable {P Q R2 H1 : D} {s4 s5 s6 s7 s8 s9 s10 s11 s12 s13 s14 : Slot} {x : Bx}
theorem na_ok {f1 : Fl} (e : F_Net___init__ [P] x = .val f1 x) (hH : H1 = .obj "Net" f1) : NA [.fz P, .fz Q, .fz R2, .un, .un, .un, .un, .un, .un, .un, .un, .un, .un, .un, .un] x = .nx [.fz P, .fz Q, .fz R2, .fz H1, .fz (frR 0), .un, .un, .un, .un, .un, .un, .un, .un, .un, .un] x := by
  subst hH
  rw [← zero_fr]
  unfold NA
  revert e
  generalize F_Net___init__ = Y
  intro e
  simp [mPar, mE, mBind, R.bind, mCons, mNil, mMake, mVar, e, mTup, mC, bl]
theorem ns_step {S K V : D} {T : D} (e : F_l_add [S, V] x = .val T x) : NS [.fz P, .fz Q, .fz R2, .fz H1, .fz S, .fz K, .fz V, s7, s8, s9, s10, s11, s12, s13, s14] x = .nx [.fz P, .fz Q, .fz R2, .fz H1, .fz T, .fz K, .fz V, s7, s8, s9, s10, s11, s12, s13, s14] x := by
  unfold NS
  revert e
  generalize F_l_add = Y
  intro e
  simp [mAsg, mE, mDef, mCons, mNil, mBind, R.bind, mVar, e, Tg.asg]
theorem ns_loop {f : Str → Rat} {L B : Nat} (hL : 0 < L) (hk : L < 2 ^ 110) : ∀ (K : List Str) (s : Rat) (n : Nat) (s5 s6 : Slot), (∀ k ∈ K, Fq L B (f k)) → Fq L (B * n) s → B * (n + K.length) * L < 2 ^ 110 → ∃ t5 t6, loopS (.tp [5, 6]) NS (K.map (wpD f)) [.fz P, .fz Q, .fz R2, .fz H1, .fz (frR s), s5, s6, s7, s8, s9, s10, s11, s12, s13, s14] x =
    .nx [.fz P, .fz Q, .fz R2, .fz H1, .fz (frR (s + rsum (K.map f))), t5, t6, s7, s8, s9, s10, s11, s12, s13, s14] x
  | [], s, n, s5, s6, _, _, _ => ⟨s5, s6, by
    show _ = RS.nx [_, _, _, _, .fz (frR (s + 0)), _, _, _, _, _, _, _, _, _, _] x
    rw [Rat.add_zero]
    rfl⟩
  | k :: K, s, n, s5, s6, hf, hs, hb => by
    rw [List.length_cons] at hb
    have h1 := hf k (List.mem_cons_self ..)
    have le1 : B * n * L ≤ B * (n + (K.length + 1)) * L := Nat.mul_le_mul_right _ (Nat.mul_le_mul_left _ (by omega))
    have le2 : B * L ≤ B * (n + (K.length + 1)) * L := Nat.mul_le_mul_right _ (Nat.le_mul_of_pos_right _ (by omega))
    have b1 : Bq 110 s := Fq.bd hs hL hk (Nat.lt_of_le_of_lt le1 hb)
    have b2 : Bq 110 (f k) := Fq.bd h1 hL hk (Nat.lt_of_le_of_lt le2 hb)
    have o := (ops b1 b2 (by decide) (by decide) x).2.1
    have st := ns_step (P := P) (Q := Q) (R2 := R2) (H1 := H1) (s7 := s7) (s8 := s8) (s9 := s9) (s10 := s10) (s11 := s11) (s12 := s12) (s13 := s13) (s14 := s14) (K := .str k) o
    have hs2 : Fq L (B * (n + 1)) (s + f k) := by
      have := hs.add h1
      rw [show B * n + B = B * (n + 1) by rw [Nat.mul_succ]] at this
      exact this
    obtain ⟨t5, t6, ih⟩ := ns_loop hL hk K (s + f k) (n + 1) (.fz (.str k)) (.fz (frR (f k))) (fun j hj => hf j (List.mem_cons_of_mem _ hj)) hs2 (by rw [show n + 1 + K.length = n + (K.length + 1) by omega]; exact hb)
    refine ⟨t5, t6, ?_⟩
    show (match NS [.fz P, .fz Q, .fz R2, .fz H1, .fz (frR s), .fz (.str k), .fz (frR (f k)), s7, s8, s9, s10, s11, s12, s13, s14] x with
      | .nx ρ2 x2 => loopS (.tp [5, 6]) NS (K.map (wpD f)) ρ2 x2
      | .cnt ρ2 x2 => loopS (.tp [5, 6]) NS (K.map (wpD f)) ρ2 x2
      | .brk ρ2 x2 => .nx ρ2 x2
      | r => r) = RS.nx [_, _, _, _, .fz (frR (s + (f k + rsum (K.map f)))), _, _, _, _, _, _, _, _, _, _] x
    rw [st, ← Rat.add_assoc]
    exact ih
theorem nc_ok {q : Rat} : NC [.fz P, .fz (frR q), .fz R2, .fz H1, .fz (frR q), s5, s6, s7, s8, s9, s10, s11, s12, s13, s14] x = .val false x := by
  have e := eq_fr q q
  rw [decide_eq_true rfl] at e
  revert e
  generalize frR q = Q
  intro e
  simp [NC, mTst, mOp, mBind, R.bind, mVar, gNe, e, o1, gTst, oB]
theorem ni_ok {L : List D} (e : F_flow [H1, Q] x = .val (.tup L) x) : NI [.fz P, .fz Q, .fz R2, .fz H1, s4, s5, s6, s7, s8, s9, s10, s11, s12, s13, s14] x = .val L x := by
  unfold NI
  revert e
  generalize F_flow = Y
  intro e
  simp [mIter, mDef, mCons, mNil, mBind, R.bind, mVar, e, itemsD, oB]
theorem nw_ok {L : List D} (e : F_walked [H1, Q] x = .val (.tup L) x) : NW [.fz P, .fz Q, .fz R2, .fz H1, s4, s5, s6, s7, s8, s9, s10, s11, s12, s13, s14] x = .val L x := by
  unfold NW
  revert e
  generalize F_walked = Y
  intro e
  simp [mIter, mDef, mCons, mNil, mBind, R.bind, mVar, e, itemsD, oB]
theorem nd_ok {A L M : D} (e1 : F_l_add [Q, R2] x = .val A x) (e2 : F_walked_x [H1, A] x = .val L x) (e3 : gDictX [L] = some M) : ND [.fz P, .fz Q, .fz R2, .fz H1, s4, s5, s6, s7, s8, s9, s10, s11, s12, s13, s14] x = .val M x := by
  unfold ND
  revert e1 e2
  generalize F_l_add = Y1
  generalize F_walked_x = Y2
  intro e1 e2
  simp [mCall, mDef, mCons, mNil, mBind, R.bind, mVar, e1, e2, e3, o1]
theorem dict_of {K : List Str} {f : Str → Rat} (h : K.Nodup) : gDictX [.xt .tp (K.map (wpD f))] = some (.dcb (dk K (amD f))) := by
  have a := pairsP_dk (amD f) K
  have b := merge_dk (f := amD f) K [] (by simpa using h)
  rw [List.nil_append] at b
  show (pairsP (K.map fun k => .tup [.str k, amD f k])).map (fun kds => D.dcb (mergeA [] kds)) = _
  rw [a]
  show some (D.dcb (mergeA (dk [] (amD f)) (dk K (amD f)))) = _
  rw [b]
/-- no channel has less -/
theorem ne_ok {K : List Str} {f g : Str → Rat} (hk : K.length < 1000) (e : F_walked [H1, Q] x = .val (.tup (K.map (wpD f))) x) (hf : ∀ k ∈ K, Bq 110 (f k)) (hg : ∀ k ∈ K, Bq 110 (g k)) (hm : ∀ k ∈ K, f k ≤ g k) : NE [.fz P, .fz Q, .fz R2, .fz H1, s4, s5, s6, .fz (.dcb (dk K (amD g))), .un, .un, .un, .un, .un, .un, .un] x = .val false x := by
  have it := nw_ok (P := P) (R2 := R2) (s4 := s4) (s5 := s5) (s6 := s6) (s7 := .fz (.dcb (dk K (amD g)))) (s8 := .un) (s9 := .un) (s10 := .un) (s11 := .un) (s12 := .un) (s13 := .un) (s14 := .un) e
  obtain ⟨u4, w⟩ : ∃ u4, wipeE (shut [.fz P, .fz Q, .fz R2, .fz H1, s4, s5, s6, .fz (.dcb (dk K (amD g))), .un, .un, .un, .un, .un, .un, .un]) [5, 6] = [.fz P, .fz Q, .fz R2, .fz H1, u4, .un, .un, .fz (.dcb (dk K (amD g))), .un, .un, .un, .un, .un, .un, .un] := ⟨_, rfl⟩
  have lc : NEL [.fz P, .fz Q, .fz R2, .fz H1, s4, s5, s6, .fz (.dcb (dk K (amD g))), .un, .un, .un, .un, .un, .un, .un] x = .val (.lst []) x := by
    refine lc_of it ?_
    rw [w]
    have r := lc_gen (tg := .tp [5, 6]) (cond := NEC) (elt := mVar 5) (f := wpD f) (g := fun k => .str k) (p := fun _ => false) (ρ := [.fz P, .fz Q, .fz R2, .fz H1, u4, .un, .un, .fz (.dcb (dk K (amD g))), .un, .un, .un, .un, .un, .un, .un]) (x := x) K [] (fun k hk => ⟨[.fz P, .fz Q, .fz R2, .fz H1, u4, .fz (.str k), .fz (frR (f k)), .fz (.dcb (dk K (amD g))), .un, .un, .un, .un, .un, .un, .un], rfl, by
      have v : gSubA (.dcb (dk K (amD g))) (.str k) = some (frR (g k)) := (show valA (dk K (amD g)) (.inr k) = some (amD g k) from dk_val hk)
      have o := (ops (hg k hk) (hf k hk) (by decide) (by decide) x).2.2.2.2.2.2
      rw [decide_eq_false (by have := hm k hk; grind)] at o
      revert v o
      unfold NEC
      generalize D.dcb (dk K (amD g)) = M
      generalize frR (g k) = A
      generalize frR (f k) = B
      generalize F_l_low = Y
      intro v o
      simp [mTru, mDef, mCons, mNil, mBind, R.bind, mVar, mOp, v, o1, o, gTru, oB], fun z => nomatch z⟩) (by simp; omega)
    have z : K.filter (fun _ => false) = [] := List.filter_eq_nil_iff.mpr fun _ _ h => nomatch h
    rw [List.nil_append, z] at r
    exact r
  have e0 : gEqB (.lst []) (.lst []) = some true := rfl
  unfold NE
  revert lc
  generalize NEL = Y
  intro lc
  simp [mTst, mOp, mBind, R.bind, lc, mLst, mNil, bl, gNe, e0, o1, gTst, oB]
end
end GG

namespace GG
open PySem PySem.Spec L2 Mi
/-! ### limits and the inflow times two -/
theorem cut_lo {a b c d e : D} : gCut none (some 2) (.tup [a, b, c, d, e]) = some (.tup [a, b]) := by simp [gCut, cutD, HT.sIx]
theorem cut_hi {a b c d e : D} : gCut (some 3) none (.tup [a, b, c, d, e]) = some (.tup [d, e]) := by simp [gCut, cutD, HT.sIx]
theorem gAdd_tup {a b : List D} (h : a.length + b.length ≤ big) : gAdd (.tup a) (.tup b) = some (.tup (a ++ b)) := by
  have e : gT fCatT (.tup a) (.tup b) = some (.tup (a ++ b)) := by
    show (if a.length + b.length ≤ big then some (D.tup (a ++ b)) else none) = _
    rw [if_pos h]
  unfold gAdd
  rw [e]
  rfl
section
variable {x : Bx} {ρ : En}
theorem nfe_no {w : Str} {ds : List D} (h : ρ[14]? = some (.fz (.tup ds))) (h0 : atI ds 0 = some (.str w)) (hw : gEqB (.str w) (.str "weir") = some false) : NFE ρ x = .val (.tup ds) x := by
  simp [NFE, mIf, mTst, mOp, mBind, R.bind, mVar, h, mC, gIx, h0, o1, gEq, hw, gTst, oB]
theorem nfe_yes {a c e : Str} {q : Rat} (h : ρ[14]? = some (.fz (.tup [.str "weir", .str a, frR q, .str c, .str e]))) (hq : Bq 110 q) : NFE ρ x = .val (.tup [.str "weir", .str a, frR (q * 2), .str c, .str e]) x := by
  have o := (ops hq two_bd (by decide) (by decide) x).2.2.2.2.1
  have w0 : gIx (.tup [.str "weir", .str a, frR q, .str c, .str e]) (.int 0) = some (.str "weir") := rfl
  have w2 : gIx (.tup [.str "weir", .str a, frR q, .str c, .str e]) (.int 2) = some (frR q) := rfl
  have c1 := cut_lo (a := .str "weir") (b := .str a) (c := frR q) (d := .str c) (e := .str e)
  have c2 := cut_hi (a := .str "weir") (b := .str a) (c := frR q) (d := .str c) (e := .str e)
  have a1 : gAdd (.tup [.str "weir", .str a]) (.tup [frR (q * 2)]) = some (.tup [.str "weir", .str a, frR (q * 2)]) := gAdd_tup (bl 3 (by decide))
  have a2 : gAdd (.tup [.str "weir", .str a, frR (q * 2)]) (.tup [.str c, .str e]) = some (.tup [.str "weir", .str a, frR (q * 2), .str c, .str e]) := gAdd_tup (bl 5 (by decide))
  unfold NFE
  rw [← two_fr] at o
  revert h o w0 w2 c1 c2 a1 a2
  generalize D.tup [.str "weir", .str a, frR q, .str c, .str e] = T
  generalize D.tup [.str "weir", .str a, frR (q * 2), .str c, .str e] = T2
  generalize D.tup [.str "weir", .str a, frR (q * 2)] = T3
  generalize frR (q * 2) = Z
  generalize frR q = Q
  generalize F_l_mul = Y
  intro h o w0 w2 c1 c2 a1 a2
  simp [mIf, mTst, mOp, mBind, R.bind, mVar, h, mC, w0, o1, gEq, q4, gTst, oB, mSlice, mNoPart, mPart, c1, c2, mTup, mCons, mNil, bl, mDef, w2, o, a1, a2]
end
theorem q8 : gEqB (.str "join") (.str "weir") = some false := by rw [gEqB_str _ _ (by decide +kernel) (by decide +kernel)]; decide +kernel
section
variable {x : Bx} {ps : List Pa} (lim : Lim ps)
include lim
theorem nfe_ok {p : Pa} (hp : p ∈ ps) {ρ : En} (h : ρ[14]? = some (.fz p.d)) : NFE ρ x = .val (dbl p).d x := by
  cases p with
  | jn a b c => exact nfe_no h rfl q8
  | dv a q c e => exact nfe_no h rfl q5
  | wr a q c e => exact nfe_yes h (Fq.bd (lim a q c e hp) (by decide) (by decide) (by decide))
theorem nf_ok {Q R2 H1 : D} {s4 s5 s6 s7 : Slot} (hl : ps.length ≤ 5) : NF [.fz (.tup (ps.map Pa.d)), .fz Q, .fz R2, .fz H1, s4, s5, s6, s7, .un, .un, .un, .un, .un, .un, .un] x = .val (.lst ((ps.map dbl).map Pa.d)) x := by
  have it : mIter (mVar 0) [.fz (.tup (ps.map Pa.d)), .fz Q, .fz R2, .fz H1, s4, s5, s6, s7, .un, .un, .un, .un, .un, .un, .un] x = .val (ps.map Pa.d) x := rfl
  refine lc_of it ?_
  obtain ⟨u4, u5, u6, u7, w⟩ : ∃ u4 u5 u6 u7, wipeE (shut [.fz (.tup (ps.map Pa.d)), .fz Q, .fz R2, .fz H1, s4, s5, s6, s7, .un, .un, .un, .un, .un, .un, .un]) [14] = [.fz (.tup (ps.map Pa.d)), .fz Q, .fz R2, .fz H1, u4, u5, u6, u7, .un, .un, .un, .un, .un, .un, .un] := ⟨_, _, _, _, rfl⟩
  rw [w, List.map_map]
  exact lc_map ps (fun p hp => ⟨_, rfl, nfe_ok lim hp rfl⟩) (by omega)
end
section
variable {P Q R2 H1 : D} {s4 s5 s6 s7 s8 : Slot} {x : Bx}
/-- all amounts times two -/
theorem ng_ok {K : List Str} {f : Str → Rat} (hk : K.length < 1000) (e : F_walked [H1, Q] x = .val (.tup (K.map (wpD f))) x) (hf : ∀ k ∈ K, Bq 110 (f k)) : NG [.fz P, .fz Q, .fz R2, .fz H1, s4, s5, s6, s7, s8, .un, .un, .un, .un, .un, .un] x = .val (.tup (K.map (wpD fun k => f k * 2))) x := by
  have it := nw_ok (P := P) (R2 := R2) (s4 := s4) (s5 := s5) (s6 := s6) (s7 := s7) (s8 := s8) (s9 := .un) (s10 := .un) (s11 := .un) (s12 := .un) (s13 := .un) (s14 := .un) e
  obtain ⟨u4, u7, u8, w⟩ : ∃ u4 u7 u8, wipeE (shut [.fz P, .fz Q, .fz R2, .fz H1, s4, s5, s6, s7, s8, .un, .un, .un, .un, .un, .un]) [5, 6] = [.fz P, .fz Q, .fz R2, .fz H1, u4, .un, .un, u7, u8, .un, .un, .un, .un, .un, .un] := ⟨_, _, _, rfl⟩
  have lc : mLc NW (.tp [5, 6]) mYes NGE [5, 6] [.fz P, .fz Q, .fz R2, .fz H1, s4, s5, s6, s7, s8, .un, .un, .un, .un, .un, .un] x = .val (.lst (K.map (wpD fun k => f k * 2))) x := by
    refine lc_of it ?_
    rw [w]
    refine lc_map K (fun k hk => ⟨[.fz P, .fz Q, .fz R2, .fz H1, u4, .fz (.str k), .fz (frR (f k)), u7, u8, .un, .un, .un, .un, .un, .un], rfl, ?_⟩) (by omega)
    have o := (ops (hf k hk) two_bd (by decide) (by decide) x).2.2.2.2.1
    rw [← two_fr] at o
    show _ = R.val (D.tup [.str k, frR (f k * 2)]) x
    revert o
    unfold NGE
    generalize frR (f k * 2) = A
    generalize frR (f k) = B
    generalize F_l_mul = Y
    intro o
    simp [mTup, mDef, mCons, mNil, mBind, R.bind, mVar, mC, o, bl]
  unfold NG
  revert lc
  generalize mLc NW (.tp [5, 6]) mYes NGE [5, 6] = Y
  intro lc
  simp [mCall, mCons, mNil, mBind, R.bind, lc, gTuple, o1]
theorem nhw_ok {L : List D} {f1 : Fl} {T W : D} (ei : F_Net___init__ [.tup L] x = .val f1 x) (e2 : F_l_mul [Q, frR 2] x = .val T x) (e3 : F_walked [.obj "Net" f1, T] x = .val W x) {s9 : Slot} : NHW [.fz P, .fz Q, .fz R2, .fz H1, s4, s5, s6, s7, .fz (.lst L), s9, .un, .un, .un, .un, .un] x = .val W x := by
  rw [← two_fr] at e2
  have g : gTuple [.lst L] = some (.tup L) := rfl
  unfold NHW
  revert ei e2 e3 g
  generalize D.lst L = L1
  generalize D.tup L = L2
  generalize F_Net___init__ = Y1
  generalize F_l_mul = Y2
  generalize F_walked = Y3
  intro ei e2 e3 g
  simp [mDef, mCons, mNil, mBind, R.bind, mMake, mCall, mVar, g, o1, ei, mTup, mC, bl, e2, e3]
theorem nh_ok {W : D} {s10 s11 s12 s13 s14 : Slot} (e : NHW [.fz P, .fz Q, .fz R2, .fz H1, s4, s5, s6, s7, s8, .fz W, s10, s11, s12, s13, s14] x = .val W x) (p : plain 12 W = true) : NH [.fz P, .fz Q, .fz R2, .fz H1, s4, s5, s6, s7, s8, .fz W, s10, s11, s12, s13, s14] x = .val false x := by
  have s := same_refl 12 W p x
  unfold NH
  revert e s
  generalize NHW = Y
  generalize F_l_same 12 = Z
  intro e s
  simp [mTNot, mTru, mDef, mCons, mNil, mBind, R.bind, mVar, e, s, gTru, oB]
end
end GG

namespace GG
open PySem PySem.Spec L2 Mi
theorem cut_take {ds : List D} {i : Nat} (h : i ≤ ds.length) : gCut none (some (i : Int)) (.tup ds) = some (.tup (ds.take i)) := by
  have e : min i ds.length = i := by omega
  have n : ¬ (i : Int) < 0 := by omega
  simp [gCut, cutD, HT.sIx, e, n]
theorem cut_drop {ds : List D} {i : Nat} (h : i ≤ ds.length) : gCut (some (i : Int)) none (.tup ds) = some (.tup (ds.drop i)) := by
  have e : min i ds.length = i := by omega
  have n : ¬ (i : Int) < 0 := by omega
  simp [gCut, cutD, HT.sIx, e, n]
  exact List.take_of_length_le (by rw [List.length_drop]; exact Nat.le_refl _)
theorem drawn_len {ps : List Pa} {F N : List Str} (h : Drawn ps F N) : 1 ≤ F.length ∧ F.length ≤ 1 + ps.length ∧ 12 ≤ N.length + 2 * ps.length ∧ N.length ≤ 12 := by
  induction h with
  | nil => decide
  | @step ps F N F' N' f n p _ hF hN hF' hN' _ ih =>
    have l1 := hF.length_eq
    have l2 := hN.length_eq
    have l3 := hF'.length_eq
    have l4 := hN'.length_eq
    rw [List.length_append] at l1 l2 l3 ⊢
    have e1 : ([p] : List Pa).length = 1 := rfl
    cases p <;> simp only [Pa.takes, Pa.makes, List.length_cons, List.length_nil] at l1 l2 l3 <;> omega
theorem ok19 : (("in" :: N18 : List Str).all PyData.strOk) = true := by decide +kernel
theorem key_ok {ps : List Pa} {F N : List Str} (h : Drawn ps F N) {a : Str} (ha : a ∈ keys ps) : PyData.strOk a = true := List.all_eq_true.mp ok19 a ((keysN h).mem_iff.mp (List.mem_append_left _ ha))
theorem plain_lst {k : Nat} {ds : List D} (h : ∀ d ∈ ds, plain k d = true) (hl : ds.length ≤ 100) : plain (k + 1) (.lst ds) = true := by
  unfold plain
  rw [Bool.and_eq_true, List.all_eq_true]
  exact ⟨h, decide_eq_true hl⟩
theorem plain_fr (k : Nat) (q : Rat) : plain (k + 2) (frR q) = true := by simp [frR, fr, plain]
theorem atI_nat' {ds : List D} {i : Nat} (h : i < ds.length) : atI ds (i : Int) = some ds[i] := atI_nat (List.getElem?_eq_getElem h)
theorem gRng_r {n : Nat} (h : n ≤ 9) : gRng [.int n] = some ((List.range n).map fun k => .int ((k : Nat) : Int)) := by
  have h4 : n = 0 ∨ n = 1 ∨ n = 2 ∨ n = 3 ∨ n = 4 ∨ n = 5 ∨ n = 6 ∨ n = 7 ∨ n = 8 ∨ n = 9 := by omega
  rcases h4 with rfl | rfl | rfl | rfl | rfl | rfl | rfl | rfl | rfl | rfl <;> rfl
theorem rng_of {M : MM D} {ρ : En} {GR : List D → Option (List D)} {n : Int} {ds : List D} {x x' : Bx} (hM : M ρ x = .val (.int n) x') (hg : GR [.int n] = some ds) : (mBind (mCons M mNil) fun ds => oB (GR ds)) ρ x = .val ds x' := by
  simp [mBind, mCons, mNil, R.bind, hM, oB, hg]
/-! ### neighbours that are turned -/
def tk1 : Pa → Str
  | .jn a _ _ => a
  | .dv a _ _ _ => a
  | .wr a _ _ _ => a
def tk2 : Pa → D
  | .jn _ b _ => .str b
  | .dv _ q _ _ => frR q
  | .wr _ q _ _ => frR q
theorem d_1 (p : Pa) : gIx p.d (.int 1) = some (.str (tk1 p)) := by cases p <;> rfl
theorem d_2 (p : Pa) : gIx p.d (.int 2) = some (tk2 p) := by cases p <;> rfl
theorem d_3 (p : Pa) : gCut (some 3) none p.d = some (.tup (p.makes.map .str)) := by
  cases p <;> simp [Pa.d, Pa.makes, gCut, cutD, HT.sIx]
theorem pys_str : ∀ l : List Str, D.pys (l.map .str) = some (l.map PyData.str)
  | [] => rfl
  | a :: l => by
    rw [List.map_cons]
    unfold D.pys
    rw [pys_str l]
    rfl
theorem lay_str : ∀ l : List Str, (∀ o ∈ l, PyData.strOk o = true) → PyData.canLayAll0 (l.map .str) = true ∧ PyData.depthAll (l.map .str) ≤ 2
  | [], _ => ⟨by simp [PyData.canLayAll0], by simp [PyData.depthAll]⟩
  | a :: l, h => by
    obtain ⟨h1, h2⟩ := lay_str l fun k hk => h k (List.mem_cons_of_mem _ hk)
    have h3 := h a (List.mem_cons_self ..)
    refine ⟨by simp [PyData.canLayAll0, PyData.canLay0, h1, h3], ?_⟩
    simp only [List.map_cons,
      PyData.depthAll, PyData.depth]
    omega
theorem shp {k : Nat} {p : PyData} (h : p.canLay0 = true) (d : p.depth ≤ k) (hk : k ≤ 64) : SeqAt.shaped p = true := by
  unfold SeqAt.shaped
  rw [h, decide_eq_true (Nat.le_trans d hk)]
  rfl
theorem tup_shp {l : List Str} (h : ∀ o ∈ l, PyData.strOk o = true) : SeqAt.shaped (.tuple (l.map .str)) = true := by
  obtain ⟨a1, a2⟩ := lay_str l h
  exact shp (k := 5) (by simp [PyData.canLay0, a1]) (by simp only [PyData.depth]; omega) (by decide)
theorem inT_str {l : List Str} {k : Str} (h : ∀ o ∈ l, PyData.strOk o = true) (hk : PyData.strOk k = true) : gInT true (.str k) (.tup (l.map .str)) = some (.bl (!decide (k ∈ l))) := by
  have e1 : (D.tup (l.map .str)).py = some (.tuple (l.map .str)) := by unfold D.py; rw [pys_str]; rfl
  have e2 : (D.str k).py = some (.str k) := rfl
  have s2 : SeqAt.shaped (.str k) = true := shp (k := 5) (by simp [PyData.canLay0, hk]) (by simp [PyData.depth]) (by decide)
  have e3 : ((l.map PyData.str).any fun z => PyData.eqv z (.str k)) = decide (k ∈ l) := by
    rw [List.any_map]
    induction l with
    | nil => rfl
    | cons a l ih =>
      have ih := ih (fun o ho => h o (List.mem_cons_of_mem _ ho)) (by unfold D.py; rw [pys_str]; rfl)
      rw [List.any_cons, ih]
      have : PyData.eqv (.str a) (.str k) = decide (k = a) := by
        simp only [PyData.eqv]
        by_cases z : a = k
        · simp [z]
        · have z2 : ¬ k = a := fun y => z y.symm
          simp [z, z2]
      show (PyData.eqv (.str a) (.str k) || decide (k ∈ l)) = _
      rw [this]
      by_cases z : k = a <;> simp [z]
  unfold gInT gInTB
  rw [e1, e2]
  dsimp only
  rw [tup_shp h, s2, e3]
  rfl
theorem inT_fr {l : List Str} {q : Rat} (h : ∀ o ∈ l, PyData.strOk o = true) : gInT true (frR q) (.tup (l.map .str)) = some (.bl true) := by
  have e1 : (D.tup (l.map .str)).py = some (.tuple (l.map .str)) := by unfold D.py; rw [pys_str]; rfl
  have e2 : (frR q).py = some (.tuple [.int q.num, .int q.den]) := rfl
  have s2 : SeqAt.shaped (.tuple [.int q.num, .int q.den]) = true := shp (k := 5) (by simp [PyData.canLay0, PyData.canLayAll0]) (by simp [PyData.depth, PyData.depthAll]) (by decide)
  have e3 : ((l.map PyData.str).any fun z => PyData.eqv z (.tuple [.int q.num, .int q.den])) = false := by
    rw [List.any_map]
    refine List.any_eq_false.mpr fun a _ => ?_
    simp [PyData.eqv]
  unfold gInT gInTB
  rw [e1, e2]
  dsimp only
  rw [tup_shp h, s2, e3]
  rfl
section
variable {x : Bx} {ρ : En} {p q : Pa}
theorem nq1_ok (h11 : ρ[11]? = some (.fz p.d)) (h12 : ρ[12]? = some (.fz q.d)) : NQ1 ρ x = .val (!decide (tk1 q ∈ p.makes)) x := by
  have e1 := d_1 q
  have e3 := d_3 p
  have i := in_tup true (tk1 q) p.makes
  simp only [if_true] at i
  revert h11 h12 e1 e3 i
  generalize q.d = Q
  generalize p.d = P
  intro h11 h12 e1 e3 i
  simp [NQ1, mTst, mOp, mBind, R.bind, mVar, h12, mC, e1, o1, mSlice, h11, mPart, mNoPart, e3, i, gTst, oB]
theorem nq2_ok {c : Bool} (h11 : ρ[11]? = some (.fz p.d)) (h12 : ρ[12]? = some (.fz q.d)) (i : gInT true (tk2 q) (.tup (p.makes.map .str)) = some (.bl c)) : NQ2 ρ x = .val c x := by
  have e1 := d_2 q
  have e3 := d_3 p
  revert h11 h12 e1 e3 i
  generalize q.d = Q
  generalize p.d = P
  intro h11 h12 i e1 e3
  simp [NQ2, mTst, mOp, mBind, R.bind, mVar, h12, mC, e1, o1, mSlice, h11, mPart, mNoPart, e3, i, gTst, oB]
/-- both tests are held only where the second takes nothing of the first -/
theorem both_q {c : Bool} (hm : ∀ o ∈ p.makes, PyData.strOk o = true) (ht : ∀ o ∈ q.takes, PyData.strOk o = true) : ∃ c, gInT true (tk2 q) (.tup (p.makes.map .str)) = some (.bl c) ∧ ((!decide (tk1 q ∈ p.makes) && c) = true → ∀ a ∈ q.takes, a ∉ p.makes) := by
  cases q with
  | jn a b c =>
    refine ⟨_, inT_str hm (ht b (by simp [Pa.takes])), fun z i hi => ?_⟩
    have z : (!decide (a ∈ p.makes) && !decide (b ∈ p.makes)) = true := z
    simp only [Bool.and_eq_true, Bool.not_eq_true', decide_eq_false_iff_not] at z
    simp only [Pa.takes, List.mem_cons, List.not_mem_nil, or_false] at hi
    rcases hi with rfl | rfl
    · exact z.1
    · exact z.2
  | dv a q c e =>
    refine ⟨_, inT_fr hm, fun z i hi => ?_⟩
    have z : (!decide (a ∈ p.makes) && true) = true := z
    simp only [Bool.and_true, Bool.not_eq_true', decide_eq_false_iff_not] at z
    simp only [Pa.takes, List.mem_cons, List.not_mem_nil, or_false] at hi
    rw [hi]
    exact z
  | wr a q c e =>
    refine ⟨_, inT_fr hm, fun z i hi => ?_⟩
    have z : (!decide (a ∈ p.makes) && true) = true := z
    simp only [Bool.and_true, Bool.not_eq_true', decide_eq_false_iff_not] at z
    simp only [Pa.takes, List.mem_cons, List.not_mem_nil, or_false] at hi
    rw [hi]
    exact z
end
section
variable {Q R2 H1 : D} {s4 s5 s6 s7 s8 s9 s11 s12 s13 s14 : Slot} {x : Bx}
theorem np_ok {ds : List D} {k : Nat} {A B : D} (hA : atI ds (k : Int) = some A) (hB : atI ds ((k + 1 : Nat) : Int) = some B) : NP [.fz (.tup ds), .fz Q, .fz R2, .fz H1, s4, s5, s6, s7, s8, s9, .fz (.int (k : Nat)), s11, s12, s13, s14] x =
    .nx [.fz (.tup ds), .fz Q, .fz R2, .fz H1, s4, s5, s6, s7, s8, s9, .fz (.int (k : Nat)), .fz A, .fz B, s13, s14] x := by
  have e1 : gIx (.tup ds) (.int (k : Nat)) = some A := hA
  have e2 : gIx (.tup ds) (.int ((k : Int) + 1)) = some B := by
    have : ((k + 1 : Nat) : Int) = (k : Int) + 1 := by omega
    rw [← this]
    exact hB
  revert e1 e2
  generalize D.tup ds = T
  intro e1 e2
  simp [NP, mPar, mE, mBind, R.bind, mCons, mNil, mOp, mVar, e1, o1, mC, gAdd, gI, e2]
theorem nt_ok {l r : List D} {A B : D} (hl : (l ++ [A] ++ [B] ++ r).length ≤ 20) {T : D} (hT : T = .tup (l ++ [A] ++ [B] ++ r)) : NT [.fz T, .fz Q, .fz R2, .fz H1, s4, s5, s6, s7, s8, s9, .fz (.int (l.length : Nat)), .fz A, .fz B, s13, s14] x = .val (.tup (l ++ [B] ++ [A] ++ r)) x := by
  have c1 : gCut none (some ((l.length : Nat) : Int)) T = some (.tup l) := by
    rw [hT, cut_take (by simp only [List.length_append]; omega)]
    simp
  have c2 : gCut (some ((l.length : Int) + 2)) none T = some (.tup r) := by
    have : (l.length : Int) + 2 = ((l.length + 2 : Nat) : Int) := by omega
    rw [hT, this, cut_drop (by simp only [List.length_append, List.length_cons, List.length_nil]; omega)]
    simp
  have a1 : gAdd (.tup l) (.tup [B, A]) = some (.tup (l ++ [B, A])) := gAdd_tup (bl _ (by simp only [List.length_append, List.length_cons, List.length_nil] at *; omega))
  have a2 : gAdd (.tup (l ++ [B, A])) (.tup r) = some (.tup (l ++ [B] ++ [A] ++ r)) := by
    rw [gAdd_tup (bl _ (by simp only [List.length_append, List.length_cons, List.length_nil] at *; omega))]
    simp
  have g2 : gAdd (.int (l.length : Nat)) (.int 2) = some (.int ((l.length : Int) + 2)) := by simp [gAdd, gI]
  clear hT hl
  revert c1 c2 a1 a2
  generalize D.tup (l ++ [B] ++ [A] ++ r) = T4
  generalize D.tup (l ++ [B, A]) = T3
  generalize D.tup l = T1
  generalize D.tup r = T2
  intro c1 c2 a1 a2
  simp [NT, mOp, mBind, R.bind, mSlice, mVar, mNoPart, mPart, c1, mTup, mCons, mNil, bl, o1, a1, mC, g2, c2, a2]
theorem nk_ok {P T : D} {f1 : Fl} {W : D} {s10 : Slot} (ei : F_Net___init__ [T] x = .val f1 x) (e1 : F_walked [.obj "Net" f1, Q] x = .val W x) (e2 : F_walked [H1, Q] x = .val W x) (p : plain 12 W = true) : NK [.fz P, .fz Q, .fz R2, .fz H1, s4, s5, s6, s7, s8, s9, s10, s11, s12, .fz T, s14] x = .val false x := by
  have s := same_refl 12 W p x
  unfold NK
  revert ei e1 e2 s
  generalize F_Net___init__ = Y1
  generalize F_walked = Y2
  generalize F_l_same 12 = Y3
  intro ei e1 e2 s
  simp [mTNot, mTru, mDef, mCons, mNil, mBind, R.bind, mMake, mVar, ei, e1, e2, s, gTru, oB]
end
end GG

namespace GG
open PySem PySem.Spec L2 Mi
/-! ### the loop over neighbours -/
section
variable {P Q R2 H1 : D} {s4 s5 s6 s7 s8 s9 s10 s11 s12 s13 s14 t11 t12 : Slot} {x : Bx} {K : D}
theorem nb2_no {c d : Bool} (e1 : NP [.fz P, .fz Q, .fz R2, .fz H1, s4, s5, s6, s7, s8, s9, .fz K, s11, s12, s13, s14] x = .nx [.fz P, .fz Q, .fz R2, .fz H1, s4, s5, s6, s7, s8, s9, .fz K, t11, t12, s13, s14] x) (e2 : NQ1 [.fz P, .fz Q, .fz R2, .fz H1, s4, s5, s6, s7, s8, s9, .fz K, t11, t12, s13, s14] x = .val c x)
    (e3 : NQ2 [.fz P, .fz Q, .fz R2, .fz H1, s4, s5, s6, s7, s8, s9, .fz K, t11, t12, s13, s14] x = .val d x) (z : (c && d) = false) : NB2 [.fz P, .fz Q, .fz R2, .fz H1, s4, s5, s6, s7, s8, s9, .fz K, s11, s12, s13, s14] x = .nx [.fz P, .fz Q, .fz R2, .fz H1, s4, s5, s6, s7, s8, s9, .fz K, t11, t12, s13, s14] x := by
  unfold NB2
  revert e1 e2 e3
  generalize NP = Y1
  generalize NQ1 = Y2
  generalize NQ2 = Y3
  generalize NT = Y4
  generalize NK = Y5
  intro e1 e2 e3
  cases c
  · simp [mSeq, e1, mIfS, mE, mTAnd, mBind, R.bind, e2, mNext]
  · cases d
    · simp [mSeq, e1, mIfS, mE, mTAnd, mBind, R.bind, e2, e3, mNext]
    · cases z
theorem nb2_yes {T : D} (e1 : NP [.fz P, .fz Q, .fz R2, .fz H1, s4, s5, s6, s7, s8, s9, .fz K, s11, s12, s13, s14] x = .nx [.fz P, .fz Q, .fz R2, .fz H1, s4, s5, s6, s7, s8, s9, .fz K, t11, t12, s13, s14] x) (e2 : NQ1 [.fz P, .fz Q, .fz R2, .fz H1, s4, s5, s6, s7, s8, s9, .fz K, t11, t12, s13, s14] x = .val true x)
    (e3 : NQ2 [.fz P, .fz Q, .fz R2, .fz H1, s4, s5, s6, s7, s8, s9, .fz K, t11, t12, s13, s14] x = .val true x) (e4 : NT [.fz P, .fz Q, .fz R2, .fz H1, s4, s5, s6, s7, s8, s9, .fz K, t11, t12, s13, s14] x = .val T x) (e5 : NK [.fz P, .fz Q, .fz R2, .fz H1, s4, s5, s6, s7, s8, s9, .fz K, t11, t12, .fz T, s14] x = .val false x) :
    NB2 [.fz P, .fz Q, .fz R2, .fz H1, s4, s5, s6, s7, s8, s9, .fz K, s11, s12, s13, s14] x = .nx [.fz P, .fz Q, .fz R2, .fz H1, s4, s5, s6, s7, s8, s9, .fz K, t11, t12, .fz T, s14] x := by
  unfold NB2
  revert e1 e2 e3 e4 e5
  generalize NP = Y1
  generalize NQ1 = Y2
  generalize NQ2 = Y3
  generalize NT = Y4
  generalize NK = Y5
  intro e1 e2 e3 e4 e5
  simp [mSeq, e1, mIfS, mE, mTAnd, mBind, R.bind, e2, e3, mAsg, e4, Tg.asg, e5, mNext]
end
theorem split_at2 {ps : List Pa} {k : Nat} (h : k + 1 < ps.length) : ∃ l p q r, ps = l ++ [p] ++ [q] ++ r ∧ l.length = k := by
  refine ⟨ps.take k, ps[k], ps[k + 1], ps.drop (k + 2), ?_, by rw [List.length_take]; omega⟩
  have e1 : ps.drop k = ps[k] :: ps.drop (k + 1) := List.drop_eq_getElem_cons (by omega)
  have e2 : ps.drop (k + 1) = ps[k + 1] :: ps.drop (k + 2) := List.drop_eq_getElem_cons h
  have e3 := List.take_append_drop k ps
  rw [e1, e2] at e3
  simpa using e3.symm
theorem plain_wk {K : List Str} {f : Str → Rat} (hs : ∀ k ∈ K, PyData.strOk k = true) (hk : K.length ≤ 100) : plain 12 (.tup (K.map (wpD f))) = true := by
  have tu : ∀ {k : Nat} {ds : List D}, (∀ d ∈ ds, plain k d = true) → ds.length ≤ 100 → plain (k + 1) (.tup ds) = true := fun h hl => by
    unfold plain
    rw [Bool.and_eq_true, List.all_eq_true]
    exact ⟨h, decide_eq_true hl⟩
  refine tu (fun d hd => ?_) (by rw [List.length_map]; exact hk)
  obtain ⟨k, mk, rfl⟩ := List.mem_map.mp hd
  refine tu (fun d hd => ?_) (by show 2 ≤ 100; decide)
  simp only [List.mem_cons, List.not_mem_nil, or_false] at hd
  rcases hd with rfl | rfl
  · exact hs k mk
  · exact plain_fr 8 _
section
variable {ps : List Pa} {F N : List Str} (h : Drawn ps F N) (hl : ps.length ≤ 5) (lim : Lim ps) {q0 : Rat} (hq : Fq 12 80 q0)
include h
theorem keys_len : (srtS (keys ps)).length ≤ 13 := by
  rw [(srtS_perm _).length_eq]
  exact h.len
include hl lim hq
theorem plain_w : plain 12 (.tup (wkD ps q0)) = true := plain_wk (fun k hk => key_ok h ((srtS_perm _).mem_iff.mp hk)) (by have := keys_len h; omega)
theorem nb2_ok {R2 : D} {s4 s5 s6 s7 s8 s9 s11 s12 s13 s14 : Slot} {x : Bx} {k : Nat} (hk : k + 1 < ps.length) : ∃ t11 t12 t13, NB2 [.fz (.tup (ps.map Pa.d)), .fz (frR q0), .fz R2, .fz (host ps F), s4, s5, s6, s7, s8, s9, .fz (.int (k : Nat)), s11, s12, s13, s14] x =
    .nx [.fz (.tup (ps.map Pa.d)), .fz (frR q0), .fz R2, .fz (host ps F), s4, s5, s6, s7, s8, s9, .fz (.int (k : Nat)), t11, t12, t13, s14] x := by
  obtain ⟨l, p, q, r, rfl, rfl⟩ := split_at2 hk
  have eA : atI ((l ++ [p] ++ [q] ++ r).map Pa.d) ((l.length : Nat) : Int) = some p.d := atI_nat (by simp)
  have eB : atI ((l ++ [p] ++ [q] ++ r).map Pa.d) ((l.length + 1 : Nat) : Int) = some q.d := atI_nat (by simp)
  have np := np_ok (Q := frR q0) (R2 := R2) (H1 := host (l ++ [p] ++ [q] ++ r) F) (s4 := s4) (s5 := s5) (s6 := s6) (s7 := s7) (s8 := s8) (s9 := s9) (s11 := s11) (s12 := s12) (s13 := s13) (s14 := s14) (x := x) eA eB
  obtain ⟨F2, N2, h2⟩ := drawn_pre r.length (l ++ [p] ++ [q]) r F N rfl h
  have km : ∀ o ∈ p.makes, PyData.strOk o = true := fun o ho => key_ok h (by
    have : p ∈ l ++ [p] ++ [q] ++ r := by simp
    show o ∈ ("in" : Str) :: (l ++ [p] ++ [q] ++ r).flatMap Pa.makes
    exact List.mem_cons_of_mem _ (List.mem_flatMap.mpr ⟨p, this, ho⟩))
  have kt : ∀ o ∈ q.takes, PyData.strOk o = true := fun o ho => key_ok h (takes_key h q (by simp) o ho)
  obtain ⟨c, ec, imp⟩ := both_q (c := true) km kt
  have q1' := nq1_ok (x := x) (ρ := [.fz (.tup ((l ++ [p] ++ [q] ++ r).map Pa.d)), .fz (frR q0), .fz R2, .fz (host (l ++ [p] ++ [q] ++ r) F), s4, s5, s6, s7, s8, s9, .fz (.int (l.length : Nat)), .fz p.d, .fz q.d, s13, s14]) (p := p) (q := q) rfl rfl
  have q2' := nq2_ok (x := x) (ρ := [.fz (.tup ((l ++ [p] ++ [q] ++ r).map Pa.d)), .fz (frR q0), .fz R2, .fz (host (l ++ [p] ++ [q] ++ r) F), s4, s5, s6, s7, s8, s9, .fz (.int (l.length : Nat)), .fz p.d, .fz q.d, s13, s14]) (p := p) (q := q) rfl rfl ec
  by_cases z : (!decide (tk1 q ∈ p.makes) && c) = true
  · have dis := imp z
    obtain ⟨z1, z2⟩ := Bool.and_eq_true_iff.mp z
    rw [z1] at q1'
    rw [z2] at q2'
    have h3 := drawn_exch dis r.length r F N rfl h
    have lim3 : Lim (l ++ [q] ++ [p] ++ r) := fun a b c e hm => lim a b c e (by
      simp only [List.mem_append, List.mem_singleton] at hm ⊢
      rcases hm with ((y | y) | y) | y
      · exact .inl (.inl (.inl y))
      · exact .inl (.inr y)
      · exact .inl (.inl (.inr y))
      · exact .inr y)
    have hl3 : (l ++ [q] ++ [p] ++ r).length ≤ 5 := by
      simp only [List.length_append, List.length_cons, List.length_nil] at hl ⊢
      omega
    have w1 := walked_ok h3 hl3 lim3 hq x
    have w2 := walked_ok h hl lim hq x
    have same : wkD (l ++ [q] ++ [p] ++ r) q0 = wkD (l ++ [p] ++ [q] ++ r) q0 := by
      unfold wkD
      rw [valV_exch h2 dis]
      congr 1
      refine srt_congr ?_
      unfold keys
      refine List.Perm.cons _ ?_
      simp only [List.flatMap_append]
      refine List.Perm.append_right _ ?_
      rw [List.append_assoc,
        List.append_assoc]
      exact List.Perm.append_left _ List.perm_append_comm
    rw [same] at w1
    have nt := nt_ok (Q := frR q0) (R2 := R2) (H1 := host (l ++ [p] ++ [q] ++ r) F) (s4 := s4) (s5 := s5) (s6 := s6) (s7 := s7) (s8 := s8) (s9 := s9) (s13 := s13) (s14 := s14) (x := x) (l := l.map Pa.d) (r := r.map Pa.d) (A := p.d) (B := q.d) (by
      simp only [List.length_append, List.length_cons, List.length_nil, List.length_map] at hl ⊢
      omega) (T := .tup ((l ++ [p] ++ [q] ++ r).map Pa.d)) (by simp)
    rw [List.length_map] at nt
    have et : D.tup (l.map Pa.d ++ [q.d] ++ [p.d] ++ r.map Pa.d) = .tup ((l ++ [q] ++ [p] ++ r).map Pa.d) := by simp
    rw [et] at nt
    have nk := nk_ok (R2 := R2) (s4 := s4) (s5 := s5) (s6 := s6) (s7 := s7) (s8 := s8) (s9 := s9) (s10 := .fz (.int (l.length : Nat))) (s11 := .fz p.d) (s12 := .fz q.d) (s14 := s14) (P := .tup ((l ++ [p] ++ [q] ++ r).map Pa.d)) (init_ok (x := x) h3 (by omega)) w1 w2 (plain_w h hl lim hq)
    exact ⟨_, _, _, nb2_yes np q1' q2' nt nk⟩
  · exact ⟨_, _, _, nb2_no np q1' q2' (by simpa using z)⟩
theorem n_loop {R2 : D} {s4 s5 s6 s7 s8 s9 s14 : Slot} {x : Bx} : ∀ (ks : List Nat) (s10 s11 s12 s13 : Slot), (∀ k ∈ ks, k + 1 < ps.length) → ∃ ρ', loopS (.nm 10) NB2 (ks.map fun k => .int ((k : Nat) : Int)) [.fz (.tup (ps.map Pa.d)), .fz (frR q0), .fz R2, .fz (host ps F), s4, s5, s6, s7, s8, s9, s10, s11, s12, s13, s14] x = .nx ρ' x
  | [], s10, s11, s12, s13, _ => ⟨_, rfl⟩
  | k :: ks, s10, s11, s12, s13, hk => by
    obtain ⟨t11, t12, t13, e⟩ := nb2_ok h hl lim hq (R2 := R2) (s4 := s4) (s5 := s5) (s6 := s6) (s7 := s7) (s8 := s8) (s9 := s9) (s11 := s11) (s12 := s12) (s13 := s13) (s14 := s14) (x := x) (hk k (List.mem_cons_self ..))
    obtain ⟨ρ', ih⟩ := n_loop ks (.fz (.int (k : Nat))) t11 t12 t13 fun j hj => hk j (List.mem_cons_of_mem _ hj)
    refine ⟨ρ', ?_⟩
    show (match NB2 [.fz (.tup (ps.map Pa.d)), .fz (frR q0), .fz R2, .fz (host ps F), s4, s5, s6, s7, s8, s9, .fz (.int (k : Nat)), s11, s12, s13, s14] x with
      | .nx ρ2 x2 => loopS (.nm 10) NB2 (ks.map fun k => .int ((k : Nat) : Int)) ρ2 x2
      | .cnt ρ2 x2 => loopS (.nm 10) NB2 (ks.map fun k => .int ((k : Nat) : Int)) ρ2 x2
      | .brk ρ2 x2 => .nx ρ2 x2
      | r => r) = _
    rw [e]
    exact ih
end
theorem nr_ok {ds : List D} {s1 s2 s3 s4 s5 s6 s7 s8 s9 s10 s11 s12 s13 s14 : Slot} {x : Bx} (hl : ds.length ≤ 5) : ∃ ks : List Nat, NR [.fz (.tup ds), s1, s2, s3, s4, s5, s6, s7, s8, s9, s10, s11, s12, s13, s14] x = .val (ks.map fun k => .int ((k : Nat) : Int)) x ∧ ∀ k ∈ ks, k + 1 < ds.length := by
  have g : (mOp (fun a b => o1 (Mi.gSub a b)) (mCall gLen (mCons (mVar 0) mNil)) (mC (.int 1))) [.fz (.tup ds), s1, s2, s3, s4, s5, s6, s7, s8, s9, s10, s11, s12, s13, s14] x = .val (.int ((ds.length : Int) - 1)) x := by
    simp [mOp, mCall, mCons, mNil, mBind, R.bind, mVar, gLen, o1, mC, Mi.gSub, gI]
  by_cases z : ds.length = 0
  · refine ⟨[], ?_, fun k hk => nomatch hk⟩
    rw [show (ds.length : Int) - 1 = -1 by omega] at g
    exact rng_of (n := -1) (GR := gRng) g rfl
  · refine ⟨List.range (ds.length - 1), ?_, fun k hk => by have := List.mem_range.mp hk; omega⟩
    have e : (ds.length : Int) - 1 = ((ds.length - 1 : Nat) : Int) := by omega
    rw [e] at g
    exact rng_of (GR := gRng) g (gRng_r (by omega))
theorem nr_gen {P Q R2 H1 S M W8 W9 : D} {LF LR : List D} {t5 t6 : Slot} {x : Bx} {ρ' : En} (e1 : NA [.fz P, .fz Q, .fz R2, .un, .un, .un, .un, .un, .un, .un, .un, .un, .un, .un, .un] x = .nx [.fz P, .fz Q, .fz R2, .fz H1, .fz (frR 0), .un, .un, .un, .un, .un, .un, .un, .un, .un, .un] x)
    (e2 : NI [.fz P, .fz Q, .fz R2, .fz H1, .fz (frR 0), .un, .un, .un, .un, .un, .un, .un, .un, .un, .un] x = .val LF x) (e3 : loopS (.tp [5, 6]) NS LF [.fz P, .fz Q, .fz R2, .fz H1, .fz (frR 0), .un, .un, .un, .un, .un, .un, .un, .un, .un, .un] x = .nx [.fz P, .fz Q, .fz R2, .fz H1, .fz S, t5, t6, .un, .un, .un, .un, .un, .un, .un, .un] x)
    (e4 : NC [.fz P, .fz Q, .fz R2, .fz H1, .fz S, t5, t6, .un, .un, .un, .un, .un, .un, .un, .un] x = .val false x) (e5 : ND [.fz P, .fz Q, .fz R2, .fz H1, .fz S, t5, t6, .un, .un, .un, .un, .un, .un, .un, .un] x = .val M x) (e6 : NE [.fz P, .fz Q, .fz R2, .fz H1, .fz S, t5, t6, .fz M, .un, .un, .un, .un, .un, .un, .un] x = .val false x)
    (e7 : NF [.fz P, .fz Q, .fz R2, .fz H1, .fz S, t5, t6, .fz M, .un, .un, .un, .un, .un, .un, .un] x = .val W8 x) (e8 : NG [.fz P, .fz Q, .fz R2, .fz H1, .fz S, t5, t6, .fz M, .fz W8, .un, .un, .un, .un, .un, .un] x = .val W9 x) (e9 : NH [.fz P, .fz Q, .fz R2, .fz H1, .fz S, t5, t6, .fz M, .fz W8, .fz W9, .un, .un, .un, .un, .un] x = .val false x)
    (e10 : NR [.fz P, .fz Q, .fz R2, .fz H1, .fz S, t5, t6, .fz M, .fz W8, .fz W9, .un, .un, .un, .un, .un] x = .val LR x) (e11 : loopS (.nm 10) NB2 LR [.fz P, .fz Q, .fz R2, .fz H1, .fz S, t5, t6, .fz M, .fz W8, .fz W9, .un, .un, .un, .un, .un] x = .nx ρ' x) : F_l_net_right [P, Q, R2] x = .val (.bl true) x := by
  have es : startE 15 [P, Q, R2] = [.fz P, .fz Q, .fz R2, .un, .un, .un, .un, .un, .un, .un, .un, .un, .un, .un, .un] := rfl
  rw [M_nr_is]
  unfold mirror
  rw [es]
  revert e1 e2 e3 e4 e5 e6 e7 e8 e9 e10 e11
  generalize NA = Y1
  generalize NI = Y2
  generalize NS = Y3
  generalize NC = Y4
  generalize ND = Y5
  generalize NE = Y6
  generalize NF = Y7
  generalize NG = Y8
  generalize NH = Y9
  generalize NR = Y10
  generalize NB2 = Y11
  generalize NO = Y12
  intro e1 e2 e3 e4 e5 e6 e7 e8 e9 e10 e11
  simp [mSeq, e1, mFor, mE, e2, e3, mIfS, e4, mNext, mAsg, e5, Tg.asg, e6, e7, e8, e9, e10, e11, mRet, mC]
/-- limits of drawn weirs -/
def Lim2 (ps : List Pa) : Prop := ∀ a q c e, Pa.wr a q c e ∈ ps → Fq 12 20 q
theorem net_right {ps : List Pa} {F N : List Str} (h : Drawn ps F N) (hl : ps.length ≤ 5) (lim2 : Lim2 ps) {q g : Rat} (hq : Fq 12 40 q) (hg : Fq 12 40 g) (g0 : 0 ≤ g) (x : Bx) : F_l_net_right [.tup (ps.map Pa.d), frR q, frR g] x = .val (.bl true) x := by
  have lim : Lim ps := fun a r c e m => (lim2 a r c e m).mono (Nat.dvd_refl _) (by decide)
  have limd : Lim (ps.map dbl) := fun a r c e m => by
    obtain ⟨p, hp, e1⟩ := List.mem_map.mp m
    cases p with
    | jn => cases e1
    | dv => cases e1
    | wr a' q' c' e' =>
      have e1 : Pa.wr a' (q' * 2) c' e' = Pa.wr a r c e := e1
      cases e1
      have f := lim2 _ _ _ _ hp
      have := f.add f
      rw [show q' * 2 = q' + q' by grind]
      exact this.mono (Nat.dvd_refl _) (by decide)
  have hq8 : Fq 12 80 q := hq.mono (Nat.dvd_refl _) (by decide)
  have hs : Fq 12 80 (q + g) := hq.add hg
  have hd : Fq 12 80 (q * 2) := by
    rw [show q * 2 = q + q by grind]
    exact hq.add hq
  have bq : Bq 110 q := Fq.bd hq (by decide) (by decide) (by decide)
  have bg : Bq 110 g := Fq.bd hg (by decide) (by decide) (by decide)
  have kl := keys_len h
  have km : ∀ {k}, k ∈ srtS (keys ps) → k ∈ keys ps := fun hk => (srtS_perm _).mem_iff.mp hk
  have f0 := flow_ok h hl lim hq8 x
  have w0 := walked_ok h hl lim hq8 x
  have wx := walkedx_ok h hl lim hs x
  have wd := walked_ok (drawn_dbl h) (by rw [List.length_map]; exact hl) limd hd x
  have ed : wkD (ps.map dbl) (q * 2) = (srtS (keys ps)).map (wpD fun k => valV ps q k * 2) := by
    unfold wkD
    rw [keys_dbl]
    refine List.map_congr_left fun k _ =>
      ?_
    show D.tup [.str k, frR (valV (ps.map dbl) (q * 2) k)] = D.tup [.str k, frR (valV ps q k * 2)]
    rw [valV_two]
  rw [ed] at wd
  have i0 := init_ok (x := x) h (show ps.length ≤ 50 by omega)
  have id := init_ok (x := x) (drawn_dbl h) (show (ps.map dbl).length ≤ 50 by rw [List.length_map]; omega)
  have na := na_ok (Q := frR q) (R2 := frR g) (H1 := host ps F) i0 rfl
  have dl := drawn_len h
  obtain ⟨t5, t6, ns⟩ := ns_loop (P := .tup (ps.map Pa.d)) (Q := frR q) (R2 := frR g) (H1 := host ps F) (s7 := .un) (s8 := .un) (s9 := .un) (s10 := .un) (s11 := .un) (s12 := .un) (s13 := .un) (s14 := .un) (x := x) (f := valV ps q) (L := LL 5) (B := BB 5) (by decide) (by decide) (srtS F) 0 0 .un .un (fun k hk => by
    have := (wk h hl lim hq8).am.fj k (h.free_key ((srtS_perm F).mem_iff.mp hk))
    exact bs53.up this (by omega)) ⟨by show 1 ∣ _; exact Nat.one_dvd _, by show (0 : Int).natAbs ≤ _; simp⟩ (by
    have : (srtS F).length ≤ 6 := by rw [(srtS_perm F).length_eq]; omega
    refine Nat.lt_of_le_of_lt (Nat.mul_le_mul_right _ (Nat.mul_le_mul_left _ (show 0 + (srtS F).length ≤ 6 by omega))) (by decide))
  have sum : (0 : Rat) + rsum ((srtS F).map (valV ps q)) = q := by
    rw [Rat.zero_add, rsum_perm ((srtS_perm F).map _), val_sum h hl lim hq8]
  rw [sum] at ns
  have nd := nd_ok (P := .tup (ps.map Pa.d)) (H1 := host ps F) (s4 := .fz (frR q)) (s5 := t5) (s6 := t6) (s7 := .un) (s8 := .un) (s9 := .un) (s10 := .un) (s11 := .un) (s12 := .un) (s13 := .un) (s14 := .un) (ops bq bg (by decide) (by decide) x).2.1 wx (dict_of ((srtS_perm _).nodup_iff.mpr h.keysNd))
  have ne := ne_ok (P := .tup (ps.map Pa.d)) (R2 := frR g) (s4 := .fz (frR q)) (s5 := t5) (s6 := t6) (K := srtS (keys ps)) (g := valV ps (q + g)) (by omega) w0 (fun k hk => val_bd h hl lim hq8 (km hk)) (fun k hk => val_bd h hl lim hs (km hk)) fun k _ => valV_mono h (by grind) k
  have nf := nf_ok lim (Q := frR q) (R2 := frR g) (H1 := host ps F) (s4 := .fz (frR q)) (s5 := t5) (s6 := t6) (s7 := .fz (.dcb (dk (srtS (keys ps)) (amD (valV ps (q + g)))))) (x := x) hl
  have ng := ng_ok (P := .tup (ps.map Pa.d)) (R2 := frR g) (s4 := .fz (frR q)) (s5 := t5) (s6 := t6) (s7 := .fz (.dcb (dk (srtS (keys ps)) (amD (valV ps (q + g)))))) (s8 := .fz (.lst ((ps.map dbl).map Pa.d))) (K := srtS (keys ps)) (by omega) w0 fun k hk => val_bd h hl lim hq8 (km hk)
  have nh := nh_ok (nhw_ok (P := .tup (ps.map Pa.d)) (R2 := frR g) (H1 := host ps F) (s4 := .fz (frR q)) (s5 := t5) (s6 := t6) (s7 := .fz (.dcb (dk (srtS (keys ps)) (amD (valV ps (q + g)))))) (s9 := .fz (.tup ((srtS (keys ps)).map (wpD fun k => valV ps q k * 2)))) id (ops bq two_bd (by decide) (by decide) x).2.2.2.2.1 wd) (plain_wk (fun k hk => key_ok h (km hk)) (by omega))
  obtain ⟨ks, nr, hk⟩ := nr_ok (ds := ps.map Pa.d) (s1 := .fz (frR q)) (s2 := .fz (frR g)) (s3 := .fz (host ps F)) (s4 := .fz (frR q)) (s5 := t5) (s6 := t6) (s7 := .fz (.dcb (dk (srtS (keys ps)) (amD (valV ps (q + g)))))) (s8 := .fz (.lst ((ps.map dbl).map Pa.d))) (s9 := .fz (.tup ((srtS (keys ps)).map (wpD fun k => valV ps q k * 2)))) (s10 := .un) (s11 := .un) (s12 := .un) (s13 := .un) (s14 := .un) (x := x) (by rw [List.length_map]; exact hl)
  obtain ⟨ρ', nl⟩ := n_loop h hl lim hq8 (R2 := frR g) (s4 := .fz (frR q)) (s5 := t5) (s6 := t6) (s7 := .fz (.dcb (dk (srtS (keys ps)) (amD (valV ps (q + g)))))) (s8 := .fz (.lst ((ps.map dbl).map Pa.d))) (s9 := .fz (.tup ((srtS (keys ps)).map (wpD fun k => valV ps q k * 2)))) (s14 := .un) (x := x) ks .un .un .un .un fun k hk' => by
    have := hk k hk'
    rw [List.length_map] at this
    exact this
  exact nr_gen na (ni_ok f0) ns nc_ok nd ne nf ng nh nr nl
end GG

namespace GG
open PySem PySem.Spec L2 Mi
theorem okMul_r {i j : Int} (h : -(2 ^ 64) < j ∧ j < 2 ^ 64) : okMul i j = true := by
  unfold okMul
  rw [Bool.or_eq_true]
  exact .inl (decide_eq_true (.inr h))
theorem okMul_l {i j : Int} (h : -(2 ^ 64) < i ∧ i < 2 ^ 64) : okMul i j = true := by
  unfold okMul
  rw [Bool.or_eq_true]
  exact .inl (decide_eq_true (.inl h))
theorem lg_lt {j : Int} (h : 0 ≤ j) (h' : j < 2 ^ 64) : lg j < 9000 := by
  unfold lg
  by_cases hz : j.natAbs = 0
  · rw [hz]
    decide
  · have := (Nat.log2_lt hz (k := 64)).mpr (by omega)
    omega
def Inv (k : Int) (x : Bx) : Prop := 0 ≤ x.2.1 ∧ x.2.1 < 2 ^ 62 ∧ 0 ≤ x.2.2 ∧ x.2.2 ≤ k
theorem take_ok (b0 b1 b2 n : Int) (h1 : 0 ≤ b1) (hb1 : b1 < 2 ^ 62) (h2 : 0 ≤ b2) (h2' : b2 < 1000000) (hn : 0 < n) (hn' : n < 100) : ∃ r b0' b2', F_l_take [.box, .int n] (b0, b1, b2) = .val (.int r) (b0', b1, b2') ∧ 0 ≤ r ∧ r < n ∧ b2 ≤ b2' ∧ b2' ≤ b2 + 1 := by
  have k1 : lg n < 9000 := lg_lt (by omega) (by omega)
  have k2 : okMul 48271 (b2 + 1) = true := okMul_l (by decide)
  have k3 : ∀ i, okMul i (39373 + (b2 + 1)) = true := fun i => okMul_r (by omega)
  have k4 : ∀ i j, okMul i (j % 40009 + 7) = true := fun i j => okMul_r (by omega)
  have k5 : ∀ i, okMul i 48271 = true := fun i => okMul_r (by decide)
  have k6 : lg 1000003 < 9000 := lg_lt (by decide) (by decide)
  have k7 : lg 64 < 9000 := lg_lt (by decide) (by decide)
  unfold F_l_take M_l_take mirror
  by_cases hb : 0 < b0
  · simp [startE, mSeq, mIfS, mE, mTst, mOp, mBind, R.bind, mVar, gItem, bxAt, mC, o1, gGt, gI, gTst, oB, mAsg, Tg.asg, mSetB, mRet, mCall, mCons, mNil, gInt, gMod, gDiv, gAdd, gMulI, bxSet, mNext, hn, hb, k1]
    exact ⟨_, _, _, ⟨rfl, rfl, rfl⟩, Int.emod_nonneg _ (by omega), Int.emod_lt_of_pos _ hn, by omega, by omega⟩
  · simp [startE, mSeq, mIfS, mE, mTst, mOp, mBind, R.bind, mVar, gItem, bxAt, mC, o1, gGt, gI, gTst, oB, mAsg, Tg.asg, mSetB, mRet, mCall, mCons, mNil, gInt, gMod, gDiv, gAdd, gMulI, bxSet, mNext, hn, hb, k1, k2, k3, k4, k5, k6, k7]
    exact ⟨_, _, _, ⟨rfl, rfl, rfl⟩, Int.emod_nonneg _ (by omega), Int.emod_lt_of_pos _ hn, by omega, by omega⟩
theorem take' {k : Int} {x : Bx} (hi : Inv k x) (hk : k < 900000) (n : Nat) (hn : 0 < n) (hn' : n < 100) : ∃ (r : Nat) (x' : Bx), r < n ∧ F_l_take [.box, .int n] x = .val (.int r) x' ∧ Inv (k + 1) x' := by
  obtain ⟨b0, b1, b2⟩ := x
  obtain ⟨h1, h2, h3, h4⟩ := hi
  dsimp only at h1 h2 h3 h4
  obtain ⟨r, c0, c2, e, r0, r1, q0, q1⟩ := take_ok b0 b1 b2 n h1 h2 h3 (by omega) (by omega) (by omega)
  refine ⟨r.toNat, (c0, b1, c2), by omega, ?_, h1, h2, by dsimp only; omega, by dsimp only; omega⟩
  rw [e, Int.toNat_of_nonneg r0]
theorem of_ok {k : Int} {x : Bx} (hi : Inv k x) (hk : k < 900000) (ds : List D) (hn : 0 < ds.length) (hn' : ds.length < 100) : ∃ d ∈ ds, ∃ (x' : Bx), F_l_of [.box, .lst ds] x = .val d x' ∧ Inv (k + 1) x' := by
  obtain ⟨r, x', hr, e, h'⟩ := take' hi hk ds.length hn hn'
  refine ⟨ds[r], List.getElem_mem hr, x', ?_, h'⟩
  have ha : atI ds (r : Int) = some ds[r] := atI_nat (List.getElem?_eq_getElem hr)
  simp [F_l_of, M_l_of, mirror, startE, mRet, mE, mOp, mBind, R.bind, mVar, mCons, mNil, mCall, gLen, o1, mDef, e, gItem, gIx, ha]
theorem ixN_nat {n r : Nat} (h : r < n) : ixN n (r : Int) = some r := by
  unfold ixN
  simp [h]
  try omega
end GG

namespace GG
open PySem PySem.Spec L2 Mi
/-! ### texts and no texts -/
theorem strs_py : ∀ {L : List Str}, (∀ a ∈ L, PyData.strOk a = true) → ∃ ps, D.pys (L.map .str) = some ps ∧ PyData.canLayAll0 ps = true ∧ PyData.depthAll ps ≤ 2
  | [], _ => ⟨[], rfl, by simp [PyData.canLayAll0], by simp [PyData.depthAll]⟩
  | a :: L, h => by
    obtain ⟨ps, f1, f2, f3⟩ := strs_py fun b hb => h b (List.mem_cons_of_mem _ hb)
    have e1 : (D.str a).py = some (.str a) := rfl
    refine ⟨.str a :: ps, ?_, by simp [PyData.canLayAll0, PyData.canLay0, h a (List.mem_cons_self ..), f2], ?_⟩
    · show D.pys (.str a :: L.map .str) = _
      unfold D.pys
      rw [e1, f1]
    · simp only [PyData.depthAll, PyData.depth]
      omega
theorem eq_nil {L : List Str} (h : ∀ a ∈ L, PyData.strOk a = true) : gEqB (.lst (L.map .str)) (.lst []) = some L.isEmpty := by
  cases L with
  | nil => rfl
  | cons a L =>
    obtain ⟨ps, f1, f2, f3⟩ := strs_py h
    have g : (D.lst ((a :: L).map .str)).py = some (.list ps) := by
      unfold D.py
      rw [f1]
      rfl
    have s : SeqAt.shaped (.list ps) = true := by
      have d : PyData.depth (.list ps) ≤ 64 := by
        simp only [PyData.depth]
        omega
      unfold SeqAt.shaped
      rw [decide_eq_true d]
      simp [PyData.canLay0, f2]
    have g0 : (D.lst []).py = some (.list []) := rfl
    have s0 : SeqAt.shaped (.list []) = true := by decide
    have hne : ps ≠ [] := by
      rintro rfl
      have e1 : (D.str a).py = some (.str a) := rfl
      unfold List.map D.pys at f1
      rw [e1] at f1
      cases e : D.pys (L.map .str) <;> rw [e] at f1 <;> cases f1
    show gEqB (.lst ((a :: L).map .str)) (.lst []) = some false
    unfold gEqB
    rw [g, g0]
    dsimp only
    rw [s, s0]
    cases ps with
    | nil => exact (hne rfl).elim
    | cons p ps => rfl
/-! ### one out of a list -/
theorem erase_map {α β : Type} (f : α → β) : ∀ (l : List α) (r : Nat), (l.map f).eraseIdx r = (l.eraseIdx r).map f
  | [], _ => rfl
  | _ :: _, 0 => rfl
  | a :: l, r + 1 => by
    show f a :: (l.map f).eraseIdx r = f a :: (l.eraseIdx r).map f
    rw [erase_map f l r]
theorem erase_perm {α : Type} : ∀ (l : List α) (r : Nat) (h : r < l.length), l.Perm (l[r] :: l.eraseIdx r)
  | a :: l, 0, _ => List.Perm.refl _
  | a :: l, r + 1, h => by
    have ih := erase_perm l r (by simpa using h)
    show (a :: l).Perm (l[r]'(by simpa using h) :: a :: l.eraseIdx r)
    exact (ih.cons a).trans (List.Perm.swap _ _ _)
def PT (j : Nat) : MM D := (mDef 2 F_l_take (mCons (mVar 0) (mCons (mBor (mCall gLen (mCons (mVar j) mNil))) mNil)))
theorem pt_val {j : Nat} {ρ : En} {x x' : Bx} {L : List Str} {r : Nat} (h0 : ρ[0]? = some (.fz .box)) (hj : ρ[j]? = some (.ol (L.map .str))) (e : F_l_take [.box, .int L.length] x = .val (.int r) x') : PT j ρ x = .val (.int r) x' := by
  have hz : (frzS allS ρ)[j]? = some (.fz (.lst (L.map .str))) := by
    unfold frzS
    rw [List.getElem?_mapIdx, hj]
    rfl
  simp [PT, mDef, mBind, R.bind, mCons, mNil, mVar, h0, mBor, mCall, hz, gLen, o1, isSca, e]
theorem pop_val {j : Nat} {ρ : En} {x x' : Bx} {L : List Str} {r : Nat} (hr : r < L.length) (hl : L.length < 100) (h0 : ρ[0]? = some (.fz .box)) (hj : ρ[j]? = some (.ol (L.map .str))) (e : F_l_take [.box, .int L.length] x = .val (.int r) x') :
    pPop j (pLift (PT j)) ρ x = .val (.str L[r]) (ρ.set j (.ol ((L.eraseIdx r).map .str))) x' := by
  have h := pt_val h0 hj e
  have i : ixN (L.map D.str).length (r : Int) = some r := ixN_nat (by rw [List.length_map]; exact hr)
  have i2 : (L.map D.str)[r]? = some (.str L[r]) := by rw [List.getElem?_map, List.getElem?_eq_getElem hr]; rfl
  have c : (-(2 ^ 63) ≤ (r : Int) ∧ (r : Int) < 2 ^ 63) := by omega
  unfold pPop
  rw [hj]
  dsimp only
  unfold pBind pLift
  rw [h]
  dsimp only
  rw [hj]
  dsimp only
  rw [i]
  dsimp only
  rw [i2]
  dsimp only
  rw [if_pos c, erase_map]
end GG

namespace GG
open PySem PySem.Spec L2 Mi
def T3 : MM D := (mDef 2 F_l_take (mCons (mVar 0) (mCons (mC (.int 3)) mNil)))
def A1 : MS := (mParP 7 8 (pCons (pPop 3 (pLift (PT 3))) (pCons (pLift T3) pNil)))
def A2 : MS := (mAsgP (.nm 9) (pPop 4 (pLift (PT 4))))
def CO : MM Bool := (mTAnd (mTst (mOp (fun a b => o1 (gEq a b)) (mVar 8) (mC (.int 2)))) (mBorT (mTst (mOp (fun a b => o1 (gNe a b)) (mVar 3) (mLst mNil)))))
def J1 : MS := (mAppP 5 (pTup (pCons (pLift (mC (.str "join"))) (pCons (pLift (mVar 7)) (pCons (pPop 3 (pLift (PT 3))) (pCons (pLift (mVar 9)) pNil))))))
def J2 : MS := (mApp 3 (mVar 9))
def A3 : MS := (mAsgP (.nm 10) (pPop 4 (pLift (PT 4))))
def FR : MM D := (mIf (mTst (mOp (fun a b => o1 (gEq a b)) (mVar 8) (mC (.int 1)))) (mDef 2 F_l_frac (mCons (mDef 2 F_l_take (mCons (mVar 0) (mCons (mC (.int 7)) mNil))) (mCons (mC (.int 6)) mNil))) (mDef 2 F_l_frac (mCons (mDef 2 F_l_of (mCons (mVar 0) (mCons (mVar 2) mNil))) (mCons (mOp (fun a b => o1 (gAdd a b)) (mC (.int 1)) (mDef 2 F_l_take (mCons (mVar 0) (mCons (mC (.int 2)) mNil)))) mNil))))
def A5 : MS := (mApp 5 (mTup (mCons (mOp (fun a b => o1 (gIx a b)) (mLst (mCons (mC (.str "weir")) (mCons (mC (.str "divide")) (mCons (mC (.str "weir")) mNil)))) (mVar 8)) (mCons (mVar 7) (mCons (mVar 11) (mCons (mVar 9) (mCons (mVar 10) mNil)))))))
def A6 : MS := (fun ρ x => (mE (mBind (mVar 3) fun a => mBind (mLst (mCons (mVar 9) (mCons (mVar 10) mNil))) fun b => oB (gCatN a b)) fun ds ρ x => .nx (ρ.set 3 (.ol ds)) x) (frzS (fun i => i == 3) ρ) x)
def DB : MS := (mSeq A1 (mSeq A2 (mIfS CO (mSeq J1 J2) (mSeq A3 (mSeq (mAsg (.nm 11) FR) (mSeq A5 A6))))))
theorem M_net_eq : M_l_net = (mSeq (mParG (.l (mLstN (mCons (mC (.str "in")) mNil))) [.l (mLstN (mCons (mC (.str "b")) (mCons (mC (.str "a")) (mCons (mC (.str "pond")) (mCons (mC (.str "c")) (mCons (mC (.str "ditch")) (mCons (mC (.str "x")) (mCons (mC (.str "y")) (mCons (mC (.str "z")) (mCons (mC (.str "well")) (mCons (mC (.str "e")) (mCons (mC (.str "f")) (mCons (mC (.str "g")) mNil))))))))))))), .l (mLstN mNil)] [3, 4, 5])
    (mSeq (mFor (mBind (mCons (mDef 2 F_l_take (mCons (mVar 0) (mCons (mOp (fun a b => o1 (gAdd a b)) (mVar 1) (mC (.int 1))) mNil))) mNil) fun ds => oB (gRng ds)) (.nm 6) DB)
    (fun ρ x => (mRet (mTup (mCons (mCall gTuple (mCons (mVar 5) mNil)) (mCons (mCall gTuple (mCons (mCall gSrtA (mCons (mVar 3) mNil)) mNil)) mNil)))) (frzS allS ρ) x))) := rfl
section
variable {s1 s2 s6 s7 s8 s9 s10 s11 : Slot} {F N : List Str} {P : List D} {x x1 x2 : Bx} {r r2 : Nat}
theorem a1_ok (hr : r < F.length) (hl : F.length < 100) (e1 : F_l_take [.box, .int F.length] x = .val (.int r) x1) (e2 : F_l_take [.box, .int 3] x1 = .val (.int r2) x2) :
    A1 [.fz .box, s1, s2, .ol (F.map .str), .ol (N.map .str), .ol P, s6, s7, s8, s9, s10, s11] x = .nx [.fz .box, s1, s2, .ol ((F.eraseIdx r).map .str), .ol (N.map .str), .ol P, s6, .fz (.str F[r]), .fz (.int r2), s9, s10, s11] x2 := by
  have h := pop_val (j := 3) (ρ := [.fz .box, s1, s2, .ol (F.map .str), .ol (N.map .str), .ol P, s6, s7, s8, s9, s10, s11]) hr hl rfl rfl e1
  have t : T3 [.fz .box, s1, s2, .ol ((F.eraseIdx r).map .str), .ol (N.map .str), .ol P, s6, s7, s8, s9, s10, s11] x1 = .val (.int r2) x2 := by
    simp [T3, mDef, mBind, R.bind, mCons, mNil, mVar, mC, e2]
  unfold A1
  revert h t
  generalize PT 3 = Z
  generalize T3 = Y
  intro h t
  simp only [mParP, mP, pCons, pBind, h]
  simp [pLift, t, pNil]
theorem a2_ok (hr : r < N.length) (hl : N.length < 100) (e1 : F_l_take [.box, .int N.length] x = .val (.int r) x1) :
    A2 [.fz .box, s1, s2, .ol (F.map .str), .ol (N.map .str), .ol P, s6, s7, s8, s9, s10, s11] x = .nx [.fz .box, s1, s2, .ol (F.map .str), .ol ((N.eraseIdx r).map .str), .ol P, s6, s7, s8, .fz (.str N[r]), s10, s11] x1 := by
  have h := pop_val (j := 4) (ρ := [.fz .box, s1, s2, .ol (F.map .str), .ol (N.map .str), .ol P, s6, s7, s8, s9, s10, s11]) hr hl rfl rfl e1
  unfold A2
  simp only [mAsgP, mP, h]
  rfl
theorem a3_ok (hr : r < N.length) (hl : N.length < 100) (e1 : F_l_take [.box, .int N.length] x = .val (.int r) x1) :
    A3 [.fz .box, s1, s2, .ol (F.map .str), .ol (N.map .str), .ol P, s6, s7, s8, s9, s10, s11] x = .nx [.fz .box, s1, s2, .ol (F.map .str), .ol ((N.eraseIdx r).map .str), .ol P, s6, s7, s8, s9, .fz (.str N[r]), s11] x1 := by
  have h := pop_val (j := 4) (ρ := [.fz .box, s1, s2, .ol (F.map .str), .ol (N.map .str), .ol P, s6, s7, s8, s9, s10, s11]) hr hl rfl rfl e1
  unfold A3
  simp only [mAsgP, mP, h]
  rfl
theorem co_ok (hF : ∀ a ∈ F, PyData.strOk a = true) : CO [.fz .box, s1, s2, .ol (F.map .str), .ol (N.map .str), .ol P, s6, s7, .fz (.int r2), s9, s10, s11] x = .val (decide (r2 = 2) && !F.isEmpty) x := by
  have e := eq_nil hF
  have e2 : ((r2 : Int) == 2) = decide (r2 = 2) := by
    by_cases c : r2 = 2
    · subst c
      rfl
    · rw [decide_eq_false c, beq_eq_false_iff_ne]
      omega
  by_cases c : r2 = 2
  · simp [CO, mTAnd, mTst, mOp, mBind, R.bind, mVar, mC, gEq, gEqB_int, c, o1, gTst, oB, mBorT, frzS, allS, Slot.fzd, mLst, mNil, gNe, e]
  · rw [decide_eq_false c] at e2
    simp [CO, mTAnd, mTst, mOp, mBind, R.bind, mVar, mC, gEq, gEqB_int, e2, o1, gTst, oB, c]
theorem j1_ok {a c : Str} (hr : r < F.length) (hl : F.length < 100) (hP : P.length < 100) (e1 : F_l_take [.box, .int F.length] x = .val (.int r) x1) :
    J1 [.fz .box, s1, s2, .ol (F.map .str), .ol (N.map .str), .ol P, s6, .fz (.str a), s8, .fz (.str c), s10, s11] x = .nx [.fz .box, s1, s2, .ol ((F.eraseIdx r).map .str), .ol (N.map .str), .ol (P ++ [(Pa.jn a F[r] c).d]), s6, .fz (.str a), s8, .fz (.str c), s10, s11] x1 := by
  have h := pop_val (j := 3) (ρ := [.fz .box, s1, s2, .ol (F.map .str), .ol (N.map .str), .ol P, s6, .fz (.str a), s8, .fz (.str c), s10, s11]) hr hl rfl rfl e1
  unfold J1
  revert h
  generalize PT 3 = Z
  intro h
  have h5 : ([.fz .box, s1, s2, .ol (F.map .str), .ol (N.map .str), .ol P, s6, .fz (.str a), s8, .fz (.str c), s10, s11] : En)[5]? = some (.ol P) := rfl
  unfold mAppP
  rw [h5]
  simp only [mP, pTup, pCons, pBind, pLift, mC, mVar]
  simp [h, pNil, bl, bg _ (show P.length < 200 by omega), Pa.d]
theorem j2_ok {c : Str} (hl : F.length < 100) : J2 [.fz .box, s1, s2, .ol (F.map .str), .ol (N.map .str), .ol P, s6, s7, s8, .fz (.str c), s10, s11] x = .nx [.fz .box, s1, s2, .ol ((F ++ [c]).map .str), .ol (N.map .str), .ol P, s6, s7, s8, .fz (.str c), s10, s11] x := by
  simp [J2, mApp, mE, mVar, bg _ (show F.length < 200 by omega)]
theorem a6_ok {c e : Str} (hl : F.length < 15) : A6 [.fz .box, s1, s2, .ol (F.map .str), .ol (N.map .str), .ol P, s6, s7, s8, .fz (.str c), .fz (.str e), s11] x = .nx [.fz .box, s1, s2, .ol ((F ++ [c, e]).map .str), .ol (N.map .str), .ol P, s6, s7, s8, .fz (.str c), .fz (.str e), s11] x := by
  have b : F.length + 2 ≤ big := bl _ (by omega)
  simp [A6, mE, mBind, R.bind, frzS, Slot.fzd, mVar, mLst, mCons, mNil, bl, gCatN, b, oB]
theorem a5_ok {a c e : Str} {q : Rat} (hP : P.length < 100) (h2 : r2 < 3) : A5 [.fz .box, s1, s2, .ol (F.map .str), .ol (N.map .str), .ol P, s6, .fz (.str a), .fz (.int r2), .fz (.str c), .fz (.str e), .fz (frR q)] x =
    .nx [.fz .box, s1, s2, .ol (F.map .str), .ol (N.map .str), .ol (P ++ [if r2 = 1 then (Pa.dv a q c e).d else (Pa.wr a q c e).d]), s6, .fz (.str a), .fz (.int r2), .fz (.str c), .fz (.str e), .fz (frR q)] x := by
  have b := bg _ (show P.length < 200 by omega)
  have c3 : r2 = 0 ∨ r2 = 1 ∨ r2 = 2 := by omega
  have z0 : ∀ {a b c : D}, atI [a, b, c] 0 = some a := fun {a b c} => rfl
  have z1 : ∀ {a b c : D}, atI [a, b, c] 1 = some b := fun {a b c} => rfl
  have z2 : ∀ {a b c : D}, atI [a, b, c] 2 = some c := fun {a b c} => rfl
  rcases c3 with rfl | rfl | rfl <;> simp [A5, mApp, mE, mTup, mBind, R.bind, mCons, mNil, mOp, mLst, mC, mVar, bl, gIx, z0, z1, z2, o1, b, Pa.d]
end
/-! ### drawn FRACTIONS -/
theorem Inv.mono {k l : Int} {x : Bx} (h : Inv k x) (e : k ≤ l) : Inv l x := ⟨h.1, h.2.1, h.2.2.1, Int.le_trans h.2.2.2 e⟩
theorem low_qg {M t l : Nat} {r : Nat} (h0 : 0 < l) (hl : l ∣ M) (hr : r ≤ t * l) : Fq M t (Rat.divInt r l) := by
  refine fq_divInt (by omega) ?_ ?_
  · exact Nat.dvd_trans hl (Nat.dvd_mul_left _ _)
  · show (r : Int).natAbs ≤ t * (l : Int).natAbs
    simpa using hr
theorem divInt_nn {r l : Nat} (h : 0 < l) : 0 ≤ Rat.divInt (r : Int) (l : Int) := by
  refine Rat.num_nonneg.mp ?_
  rw [divInt_num (by omega)]
  unfold lowN
  exact Int.ediv_nonneg (by omega) (by omega)
theorem sixth {r : Nat} (h : r < 7) : Fq 12 1 (Rat.divInt r 6) ∧ 0 ≤ Rat.divInt (r : Int) 6 ∧ Rat.divInt (r : Int) 6 ≤ 1 := by
  have c : r = 0 ∨ r = 1 ∨ r = 2 ∨ r = 3 ∨ r = 4 ∨ r = 5 ∨ r = 6 := by omega
  rcases c with rfl | rfl | rfl | rfl | rfl | rfl | rfl <;> exact ⟨by constructor <;> decide +kernel, by decide +kernel, by decide +kernel⟩
/-- sizes to draw from -/
def Szs (ds : List D) : Prop := 0 < ds.length ∧ ds.length < 100 ∧ ∀ d ∈ ds, ∃ n : Nat, d = .int n ∧ n ≤ 20
theorem fr_ok {k : Int} {x : Bx} (hi : Inv k x) (hk : k < 800000) {ds : List D} (hd : Szs ds) {s1 s3 s4 s5 s6 s7 s9 s10 s11 : Slot} (r2 : Nat) : ∃ q x', FR [.fz .box, s1, .fz (.lst ds), s3, s4, s5, s6, s7, .fz (.int r2), s9, s10, s11] x = .val (frR q) x' ∧ Inv (k + 2) x' ∧ (r2 = 1 → Fq 12 1 q ∧ 0 ≤ q ∧ q ≤ 1) ∧ (r2 ≠ 1 → Fq 12 20 q) := by
  by_cases c : r2 = 1
  · subst c
    obtain ⟨r, x1, hr, e1, i1⟩ := take' hi (by omega) 7 (by decide) (by decide)
    have e1 : F_l_take [.box, .int 7] x = .val (.int r) x1 := e1
    have e2 := frac_ok (n := r) (d := 6) (by decide) (by decide) x1
    refine ⟨Rat.divInt r 6, x1, ?_, i1.mono (by omega), fun _ => sixth hr, fun z => (z rfl).elim⟩
    simp [FR, mIf, mTst, mOp, mBind, R.bind, mVar, mC, gEq, gEqB_int, o1, gTst, oB, mDef, mCons, mNil, e1, e2]
  · obtain ⟨d, hd1, x1, e1, i1⟩ := of_ok hi (by omega) ds hd.1 hd.2.1
    obtain ⟨n, rfl, hn⟩ := hd.2.2 d hd1
    obtain ⟨r, x2, hr, e2, i2⟩ := take' i1 (by omega) 2 (by decide) (by decide)
    have e2 : F_l_take [.box, .int 2] x1 = .val (.int r) x2 := e2
    have e3 := frac_ok (n := n) (d := 1 + r) (by omega) (by omega) x2
    have e4 : ((r2 : Int) == 1) = false := by
      rw [beq_eq_false_iff_ne]
      omega
    have e5 : ¬ (r2 : Int) = 1 := by omega
    have cr : r = 0 ∨ r = 1 := by omega
    refine ⟨Rat.divInt n (1 + r), x2, ?_, i2.mono (by omega), fun z => (c z).elim, fun _ => ?_⟩
    · simp [FR, mIf, mTst, mOp, mBind, R.bind, mVar, mC, gEq, gEqB_int, e5, o1, gTst, oB, mDef, mCons, mNil, e1, e2, gAdd, gI, e3]
    · rcases cr with rfl | rfl
      · exact low_qg (r := n) (l := 1) (by decide) (by decide) (by omega)
      · exact low_qg (r := n) (l := 2) (by decide) (by decide) (by omega)
end GG

namespace GG
open PySem PySem.Spec L2 Mi
section
variable {s1 : Slot} {ds : List D}
theorem db_ok (hd : Szs ds) {ps : List Pa} {F N : List Str} (h : Drawn ps F N) (lm : Lim2 ps) (hl : ps.length ≤ 4) {k : Int} {x : Bx} (hi : Inv k x) (hk : k < 700000) (s6 s7 s8 s9 s10 s11 : Slot) :
    ∃ (p : Pa) (F' N' : List Str) (t7 t8 t9 t10 t11 : Slot) (x' : Bx), DB [.fz .box, s1, .fz (.lst ds), .ol (F.map .str), .ol (N.map .str), .ol (ps.map Pa.d), s6, s7, s8, s9, s10, s11] x = .nx [.fz .box, s1, .fz (.lst ds), .ol (F'.map .str), .ol (N'.map .str), .ol ((ps ++ [p]).map Pa.d), s6, t7, t8, t9, t10, t11] x' ∧ Drawn (ps ++ [p]) F' N' ∧ Lim2 (ps ++ [p]) ∧ Inv (k + 6) x' := by
  have grow : ∀ {p : Pa}, (∀ a q c e, p = .wr a q c e → Fq 12 20 q) → Lim2 (ps ++ [p]) := fun hp a q c e m => (List.mem_append.mp m).elim (lm a q c e) fun z => hp a q c e (List.mem_singleton.mp z).symm
  obtain ⟨g1, g2, g3, g4⟩ := drawn_len h
  have okF : ∀ a ∈ F, PyData.strOk a = true := fun a ha => key_ok h (h.free_key ha)
  obtain ⟨r1, x1, hr1, e1, i1⟩ := take' hi (by omega) F.length (by omega) (by omega)
  obtain ⟨r2, x2, hr2, e2, i2⟩ := take' i1 (by omega) 3 (by decide) (by decide)
  obtain ⟨r3, x3, hr3, e3, i3⟩ := take' i2 (by omega) N.length (by omega) (by omega)
  have e2 : F_l_take [.box, .int 3] x1 = .val (.int r2) x2 := e2
  have b1 := a1_ok (s1 := s1) (s2 := .fz (.lst ds)) (N := N) (P := ps.map Pa.d) (s6 := s6) (s7 := s7) (s8 := s8) (s9 := s9) (s10 := s10) (s11 := s11) hr1 (by omega) e1 e2
  have b2 := a2_ok (s1 := s1) (s2 := .fz (.lst ds)) (F := F.eraseIdx r1) (P := ps.map Pa.d) (s6 := s6) (s7 := .fz (.str F[r1])) (s8 := .fz (.int r2)) (s9 := s9) (s10 := s10) (s11 := s11) hr3 (by omega) e3
  have b3 := co_ok (s1 := s1) (s2 := .fz (.lst ds)) (N := N.eraseIdx r3) (P := ps.map Pa.d) (s6 := s6) (s7 := .fz (.str F[r1])) (s9 := .fz (.str N[r3])) (s10 := s10) (s11 := s11) (x := x3) (r2 := r2) (F := F.eraseIdx r1) (fun a ha => okF a (List.mem_of_mem_eraseIdx ha))
  have pF := erase_perm F r1 hr1
  have pN := erase_perm N r3 hr3
  have lF : (F.eraseIdx r1).length = F.length - 1 := List.length_eraseIdx_of_lt hr1
  have lN : (N.eraseIdx r3).length = N.length - 1 := List.length_eraseIdx_of_lt hr3
  have lP : (ps.map Pa.d).length < 100 := by rw [List.length_map]; omega
  by_cases cc : (decide (r2 = 2) && !(F.eraseIdx r1).isEmpty) = true
  · rw [cc] at b3
    rw [Bool.and_eq_true, Bool.not_eq_true', List.isEmpty_eq_false_iff] at cc
    have ne : 0 < (F.eraseIdx r1).length := List.length_pos_iff.mpr cc.2
    obtain ⟨r4, x4, hr4, e4, i4⟩ := take' i3 (by omega) (F.eraseIdx r1).length ne (by omega)
    have b4 := j1_ok (s1 := s1) (s2 := .fz (.lst ds)) (N := N.eraseIdx r3) (P := ps.map Pa.d) (s6 := s6) (a := F[r1]) (s8 := .fz (.int r2)) (c := N[r3]) (s10 := s10) (s11 := s11) hr4 (by omega) lP e4
    have lF2 : ((F.eraseIdx r1).eraseIdx r4).length = (F.eraseIdx r1).length - 1 := List.length_eraseIdx_of_lt hr4
    have b5 := j2_ok (s1 := s1) (s2 := .fz (.lst ds)) (N := N.eraseIdx r3) (P := ps.map Pa.d ++ [(Pa.jn F[r1] (F.eraseIdx r1)[r4] N[r3]).d]) (s6 := s6) (s7 := .fz (.str F[r1])) (s8 := .fz (.int r2)) (c := N[r3]) (s10 := s10) (s11 := s11) (x := x4) (F := (F.eraseIdx r1).eraseIdx r4) (by omega)
    have pF2 := erase_perm (F.eraseIdx r1) r4 hr4
    refine ⟨.jn F[r1] (F.eraseIdx r1)[r4] N[r3], (F.eraseIdx r1).eraseIdx r4 ++ [N[r3]], N.eraseIdx r3, .fz (.str F[r1]), .fz (.int r2), .fz (.str N[r3]), s10, s11, x4, ?_, ?_, grow (fun _ _ _ _ z => nomatch z), i4.mono (by omega)⟩
    · rw [List.map_append (l₁ := ps)]
      unfold DB
      revert b1 b2 b3 b4 b5
      generalize A1 = Y1
      generalize A2 = Y2
      generalize CO = Y3
      generalize J1 = Y4
      generalize J2 = Y5
      intro b1 b2 b3 b4 b5
      simp only [mSeq, b1, b2, mIfS, mE, b3, if_true, b4, b5, List.map_cons, List.map_nil]
    · exact .step h (pF.trans (pF2.cons _)) pN List.perm_append_comm (.refl _) trivial
  · rw [Bool.not_eq_true] at cc
    rw [cc] at b3
    obtain ⟨r5, x5, hr5, e5, i5⟩ := take' i3 (by omega) (N.eraseIdx r3).length (by omega) (by omega)
    have b4 := a3_ok (s1 := s1) (s2 := .fz (.lst ds)) (F := F.eraseIdx r1) (P := ps.map Pa.d) (s6 := s6) (s7 := .fz (.str F[r1])) (s8 := .fz (.int r2)) (s9 := .fz (.str N[r3])) (s10 := s10) (s11 := s11) hr5 (by omega) e5
    obtain ⟨q, x6, b5, i6, q1, q2⟩ := fr_ok i5 (by omega) hd (s1 := s1) (s3 := .ol ((F.eraseIdx r1).map .str)) (s4 := .ol (((N.eraseIdx r3).eraseIdx r5).map .str)) (s5 := .ol (ps.map Pa.d)) (s6 := s6) (s7 := .fz (.str F[r1])) (s9 := .fz (.str N[r3])) (s10 := .fz (.str (N.eraseIdx r3)[r5])) (s11 := s11) r2
    have b6 := a5_ok (s1 := s1) (s2 := .fz (.lst ds)) (F := F.eraseIdx r1) (N := (N.eraseIdx r3).eraseIdx r5) (P := ps.map Pa.d) (s6 := s6) (a := F[r1]) (c := N[r3]) (e := (N.eraseIdx r3)[r5]) (q := q) (x := x6) lP hr2
    have b7 := a6_ok (s1 := s1) (s2 := .fz (.lst ds)) (F := F.eraseIdx r1) (N := (N.eraseIdx r3).eraseIdx r5) (P := ps.map Pa.d ++ [if r2 = 1 then (Pa.dv F[r1] q N[r3] (N.eraseIdx r3)[r5]).d else (Pa.wr F[r1] q N[r3] (N.eraseIdx r3)[r5]).d]) (s6 := s6) (s7 := .fz (.str F[r1])) (s8 := .fz (.int r2)) (c := N[r3]) (e := (N.eraseIdx r3)[r5]) (s11 := .fz (frR q)) (x := x6) (by omega)
    have pN2 := erase_perm (N.eraseIdx r3) r5 hr5
    have all : DB [.fz .box, s1, .fz (.lst ds), .ol (F.map .str), .ol (N.map .str), .ol (ps.map Pa.d), s6, s7, s8, s9, s10, s11] x = .nx [.fz .box, s1, .fz (.lst ds), .ol ((F.eraseIdx r1 ++ [N[r3], (N.eraseIdx r3)[r5]]).map .str), .ol (((N.eraseIdx r3).eraseIdx r5).map .str), .ol (ps.map Pa.d ++ [if r2 = 1 then (Pa.dv F[r1] q N[r3] (N.eraseIdx r3)[r5]).d else (Pa.wr F[r1] q N[r3] (N.eraseIdx r3)[r5]).d]), s6, .fz (.str F[r1]), .fz (.int r2), .fz (.str N[r3]), .fz (.str (N.eraseIdx r3)[r5]), .fz (frR q)] x6 := by
      unfold DB
      revert b1 b2 b3 b4 b5 b6 b7
      generalize (if r2 = 1 then (Pa.dv F[r1] q N[r3] (N.eraseIdx r3)[r5]).d else (Pa.wr F[r1] q N[r3] (N.eraseIdx r3)[r5]).d) = pd
      generalize A1 = Y1
      generalize A2 = Y2
      generalize CO = Y3
      generalize A3 = Y4
      generalize FR = Y5
      generalize A5 = Y6
      generalize A6 = Y7
      intro b1 b2 b3 b4 b5 b6 b7
      simp only [mSeq, b1, b2, mIfS, mE, b3, Bool.false_eq_true, if_false, b4, mAsg, b5, Tg.asg, List.set_cons_succ, List.set_cons_zero, b6, b7]
    have st : ∀ p : Pa, p.takes = [F[r1]] → p.makes = [N[r3], (N.eraseIdx r3)[r5]] → p.bd → Drawn (ps ++ [p]) (F.eraseIdx r1 ++ [N[r3], (N.eraseIdx r3)[r5]]) ((N.eraseIdx r3).eraseIdx r5) := fun p h1 h2 hb => by
      refine .step (f := F.eraseIdx r1) (n := (N.eraseIdx r3).eraseIdx r5) h ?_ ?_ ?_ (.refl _) hb
      · rw [h1]
        exact pF
      · rw [h2]
        exact pN.trans (pN2.cons _)
      · rw [h2]
        exact List.perm_append_comm
    by_cases c1 : r2 = 1
    · rw [if_pos c1] at all
      refine ⟨.dv F[r1] q N[r3] (N.eraseIdx r3)[r5], _, _, .fz (.str F[r1]), .fz (.int r2), .fz (.str N[r3]), .fz (.str (N.eraseIdx r3)[r5]), .fz (frR q), x6, ?_, st _ rfl rfl (q1 c1), grow (fun _ _ _ _ z => nomatch z), i6.mono (by omega)⟩
      rw [List.map_append (l₁ := ps)]
      exact all
    · rw [if_neg c1] at all
      refine ⟨.wr F[r1] q N[r3] (N.eraseIdx r3)[r5], _, _, .fz (.str F[r1]), .fz (.int r2), .fz (.str N[r3]), .fz (.str (N.eraseIdx r3)[r5]), .fz (frR q), x6, ?_, st _ rfl rfl trivial, grow (fun _ _ _ _ z => by cases z; exact q2 c1), i6.mono (by omega)⟩
      rw [List.map_append (l₁ := ps)]
      exact all
theorem db_loop (hd : Szs ds) : ∀ (ks : List D) {ps : List Pa} {F N : List Str}, Drawn ps F N → Lim2 ps → ps.length + ks.length ≤ 5 → ∀ {k : Int} {x : Bx}, Inv k x → k + 6 * ks.length < 700000 → ∀ (s6 s7 s8 s9 s10 s11 : Slot),
    ∃ (ps' : List Pa) (F' N' : List Str) (t6 t7 t8 t9 t10 t11 : Slot) (x' : Bx), loopS (.nm 6) DB ks [.fz .box, s1, .fz (.lst ds), .ol (F.map .str), .ol (N.map .str), .ol (ps.map Pa.d), s6, s7, s8, s9, s10, s11] x = .nx [.fz .box, s1, .fz (.lst ds), .ol (F'.map .str), .ol (N'.map .str), .ol (ps'.map Pa.d), t6, t7, t8, t9, t10, t11] x' ∧ Drawn ps' F' N' ∧ Lim2 ps' ∧ ps'.length ≤ 5 ∧ Inv (k + 6 * ks.length) x'
  | [], ps, F, N, h, lm, hl, k, x, hi, hk, s6, s7, s8, s9, s10, s11 => ⟨ps, F, N, s6, s7, s8, s9, s10, s11, x, rfl, h, lm, by simpa using hl, by simpa using hi⟩
  | d :: ks, ps, F, N, h, lm, hl, k, x, hi, hk, s6, s7, s8, s9, s10, s11 => by
    rw [List.length_cons] at hl hk
    obtain ⟨p, F1, N1, t7, t8, t9, t10, t11, x1, e1, h1, lm1, i1⟩ := db_ok (s1 := s1) hd h lm (by omega) hi (by omega) (.fz d) s7 s8 s9 s10 s11
    obtain ⟨ps', F', N', u6, u7, u8, u9, u10, u11, x2, e2, h2, lm2, l2, i2⟩ := db_loop hd ks h1 lm1 (by rw [List.length_append]; show _ + 1 + _ ≤ 5; omega) i1 (by omega) (.fz d) t7 t8 t9 t10 t11
    refine ⟨ps', F', N', u6, u7, u8, u9, u10, u11, x2, ?_, h2, lm2, l2, i2.mono (by rw [List.length_cons]; omega)⟩
    show (match DB [.fz .box, s1, .fz (.lst ds), .ol (F.map .str), .ol (N.map .str), .ol (ps.map Pa.d), .fz d, s7, s8, s9, s10, s11] x with
        | .nx ρ2 x2 => loopS (.nm 6) DB ks ρ2 x2
        | .cnt ρ2 x2 => loopS (.nm 6) DB ks ρ2 x2
        | .brk ρ2 x2 => .nx ρ2 x2
        | r => r) = _
    rw [e1]
    exact e2
end
end GG

namespace GG
open PySem PySem.Spec L2 Mi
theorem gRng_m {m : Nat} (h : m ≤ 9) : ∃ ks, gRng [.int m] = some ks ∧ ks.length = m := by
  have h4 : m = 0 ∨ m = 1 ∨ m = 2 ∨ m = 3 ∨ m = 4 ∨ m = 5 ∨ m = 6 ∨ m = 7 ∨ m = 8 ∨ m = 9 := by omega
  rcases h4 with rfl | rfl | rfl | rfl | rfl | rfl | rfl | rfl | rfl | rfl <;> exact ⟨_, rfl, rfl⟩
def RT : MS := (fun ρ x => (mRet (mTup (mCons (mCall gTuple (mCons (mVar 5) mNil)) (mCons (mCall gTuple (mCons (mCall gSrtA (mCons (mVar 3) mNil)) mNil)) mNil)))) (frzS allS ρ) x)
def ST : MS := (mParG (.l (mLstN (mCons (mC (.str "in")) mNil))) [.l (mLstN (mCons (mC (.str "b")) (mCons (mC (.str "a")) (mCons (mC (.str "pond")) (mCons (mC (.str "c")) (mCons (mC (.str "ditch")) (mCons (mC (.str "x")) (mCons (mC (.str "y")) (mCons (mC (.str "z")) (mCons (mC (.str "well")) (mCons (mC (.str "e")) (mCons (mC (.str "f")) (mCons (mC (.str "g")) mNil))))))))))))), .l (mLstN mNil)] [3, 4, 5])
theorem net_draw {ds : List D} (hd : Szs ds) {k : Int} {x : Bx} (hi : Inv k x) (hk : k < 600000) : ∃ (ps : List Pa) (F N : List Str) (x' : Bx), F_l_net [.box, .int 5, .lst ds] x = .val (.tup [.tup (ps.map Pa.d), .tup ((srtS F).map .str)]) x' ∧ Drawn ps F N ∧ Lim2 ps ∧ ps.length ≤ 5 ∧ Inv (k + 40) x' := by
  obtain ⟨r, x1, hr, e1, i1⟩ := take' hi (by omega) 6 (by decide) (by decide)
  have e1 : F_l_take [.box, .int 6] x = .val (.int r) x1 := e1
  obtain ⟨ks, ek, hks⟩ := gRng_m (m := r) (by omega)
  obtain ⟨ps, F, N, t6, t7, t8, t9, t10, t11, x2, e2, h, lm, hl, i2⟩ := db_loop (s1 := .fz (.int 5)) hd ks .nil (fun _ _ _ _ z => nomatch z) (by show 0 + _ ≤ 5; omega) i1 (by omega) .un .un .un .un .un .un
  refine ⟨ps, F, N, x2, ?_, h, lm, hl, i2.mono (by omega)⟩
  have b0 : ST [.fz .box, .fz (.int 5), .fz (.lst ds), .un, .un, .un, .un, .un, .un, .un, .un, .un] x = .nx [.fz .box, .fz (.int 5), .fz (.lst ds), .ol ([("in" : Str)].map .str), .ol (N18.map .str), .ol [], .un, .un, .un, .un, .un, .un] x := by
    simp [ST, mParG, mE, Pt.run, mBind, R.bind, mLstN, mCons, mNil, mC, bl, pars, shut, okIx, putS, N18]
  have b1 : (mBind (mCons (mDef 2 F_l_take (mCons (mVar 0) (mCons (mOp (fun a b => o1 (gAdd a b)) (mVar 1) (mC (.int 1))) mNil))) mNil) fun ds => oB (gRng ds)) [.fz .box, .fz (.int 5), .fz (.lst ds), .ol ([("in" : Str)].map .str), .ol (N18.map .str), .ol [], .un, .un, .un, .un, .un, .un] x = .val ks x1 := rng_of (n := r) (by
    simp [mBind, R.bind, mCons, mNil, mDef, mVar, mOp, mC, gAdd, gI, o1, e1]) ek
  have len := (drawn_len h).2.1
  have b3 : RT [.fz .box, .fz (.int 5), .fz (.lst ds), .ol (F.map .str), .ol (N.map .str), .ol (ps.map Pa.d), t6, t7, t8, t9, t10, t11] x2 = .ret (.tup [.tup (ps.map Pa.d), .tup ((srtS F).map .str)]) x2 := by
    have e := srtA_str (l := F) (by omega)
    simp [RT, mRet, mE, mTup, mBind, R.bind, mCons, mNil, mCall, mVar, frzS, allS, Slot.fzd, gTuple, o1, e, bl]
  have e0 : F_l_net [.box, .int 5, .lst ds] x = (match (mSeq ST (mSeq (mFor (mBind (mCons (mDef 2 F_l_take (mCons (mVar 0) (mCons (mOp (fun a b => o1 (gAdd a b)) (mVar 1) (mC (.int 1))) mNil))) mNil) fun ds => oB (gRng ds)) (.nm 6) DB) RT)) [.fz .box, .fz (.int 5), .fz (.lst ds), .un, .un, .un, .un, .un, .un, .un, .un, .un] x with
    | .nx _ x' => R.val D.non x'
    | .ret d x' => .val d x'
    | .exc c fs _ x' => .exc c fs x'
    | _ => .out) := rfl
  rw [e0]
  have e2 : loopS (.nm 6) DB ks [.fz .box, .fz (.int 5), .fz (.lst ds), .ol ([("in" : Str)].map .str), .ol (N18.map .str), .ol [], .un, .un, .un, .un, .un, .un] x1 = _ := e2
  revert b0 b1 e2 b3
  generalize ST = Y0
  generalize DB = Y1
  generalize RT = Y2
  generalize (mBind (mCons (mDef 2 F_l_take (mCons (mVar 0) (mCons (mOp (fun a b => o1 (gAdd a b)) (mVar 1) (mC (.int 1))) mNil))) mNil) fun ds => oB (gRng ds)) = Y3
  intro e2 b0 b1 b3
  simp only [mSeq, b0, mFor, mE, b1, e2, b3]
end GG

namespace GG
open PySem PySem.Spec L2 Mi
def SZ : List D := [.lst [.int 0, .int 1, .int 2, .int 3], .lst [.int 3, .int 8, .int 20]]
theorem sz_ok : ∀ d ∈ SZ, ∃ ds, d = .lst ds ∧ Szs ds := by
  intro d hd
  unfold SZ at hd
  simp only [List.mem_cons, List.not_mem_nil, or_false] at hd
  rcases hd with rfl | rfl
  · refine ⟨_, rfl, by show 0 < 4; decide, by show 4 < 100; decide, fun d hd => ?_⟩
    simp only [List.mem_cons, List.not_mem_nil, or_false] at hd
    rcases hd with rfl | rfl | rfl | rfl
    · exact ⟨0, rfl, by decide⟩
    · exact ⟨1, rfl, by decide⟩
    · exact ⟨2, rfl, by decide⟩
    · exact ⟨3, rfl, by decide⟩
  · refine ⟨_, rfl, by show 0 < 3; decide, by show 3 < 100; decide, fun d hd => ?_⟩
    simp only [List.mem_cons, List.not_mem_nil, or_false] at hd
    rcases hd with rfl | rfl | rfl
    · exact ⟨3, rfl, by decide⟩
    · exact ⟨8, rfl, by decide⟩
    · exact ⟨20, rfl, by decide⟩
/-! ### one turn -/
def QN : MM D := (mOp (fun a b => o1 (gIx a b)) (mDef 3 F_l_net (mCons (mVar 0) (mCons (mC (.int 5)) (mCons (mDef 2 F_l_of (mCons (mVar 0) (mCons (mLst (mCons (mLst (mCons (mC (.int 0)) (mCons (mC (.int 1)) (mCons (mC (.int 2)) (mCons (mC (.int 3)) mNil))))) (mCons (mLst (mCons (mC (.int 3)) (mCons (mC (.int 8)) (mCons (mC (.int 20)) mNil)))) mNil))) mNil))) mNil)))) (mC (.int 0)))
def QE : MM D := (mDef 2 F_l_frac (mCons (mDef 2 F_l_take (mCons (mVar 0) (mCons (mC (.int 40)) mNil))) (mCons (mOp (fun a b => o1 (gAdd a b)) (mC (.int 1)) (mDef 2 F_l_take (mCons (mVar 0) (mCons (mC (.int 4)) mNil)))) mNil)))
def R2 : MM (List D) := (mBind (mCons (mC (.int 2)) mNil) fun ds => oB (gRng ds))
def QF : MM D := (mLc R2 (.nm 6) mYes QE [6])
def QI : MS := (mIfS (mTNot (mTru (mDef 3 F_l_net_right (mCons (mVar 2) (mCons (mVar 4) (mCons (mVar 5) mNil)))))) (mRet (mC (.bl false))) mNext)
def LPB : MS := (mSeq (mAsg (.tp [4, 5]) QF) QI)
def RB : MS := (mSeq (mAsg (.nm 2) QN) (mFor R2 (.nm 3) LPB))
theorem M_right_eq : F_l_right = mirror 7 (mSeq (mFor (mBind (mCons (mC (.int 8)) mNil) fun ds => oB (gRng ds)) (.nm 1) RB) (mRet (mC (.bl true)))) := rfl
section
variable {s1 s2 s3 s4 s5 s6 : Slot} {x : Bx} {k : Int}
theorem qn_ok (hi : Inv k x) (hk : k < 500000) : ∃ (ps : List Pa) (F N : List Str) (x' : Bx), QN [.fz .box, s1, s2, s3, s4, s5, s6] x = .val (.tup (ps.map Pa.d)) x' ∧ Drawn ps F N ∧ Lim2 ps ∧ ps.length ≤ 5 ∧ Inv (k + 41) x' := by
  obtain ⟨d, hd, x1, e1, i1⟩ := of_ok hi (by omega) SZ (by show 0 < 2; decide) (by show 2 < 100; decide)
  obtain ⟨ds, rfl, hz⟩ := sz_ok d hd
  obtain ⟨ps, F, N, x2, e2, h, lm, hl, i2⟩ := net_draw hz i1 (by omega)
  refine ⟨ps, F, N, x2, ?_, h, lm, hl, i2.mono (by omega)⟩
  have g : gIx (.tup [.tup (ps.map Pa.d), .tup ((srtS F).map .str)]) (.int 0) = some (.tup (ps.map Pa.d)) := rfl
  unfold SZ at e1
  revert e1 e2 g
  generalize D.tup [.tup (ps.map Pa.d), .tup ((srtS F).map .str)] = T
  generalize D.tup (ps.map Pa.d) = P
  unfold QN
  generalize F_l_of = Y1
  generalize F_l_net = Y2
  intro e1 e2 g
  simp [mOp, mDef, mBind, R.bind, mCons, mNil, mVar, mC, mLst, bl, e1, e2, g, o1]
theorem qe_ok {ρ : En} (h0 : ρ[0]? = some (.fz .box)) (hi : Inv k x) (hk : k < 500000) : ∃ (q : Rat) (x' : Bx), QE ρ x = .val (frR q) x' ∧ Fq 12 40 q ∧ 0 ≤ q ∧ Inv (k + 2) x' := by
  obtain ⟨r, x1, hr, e1, i1⟩ := take' hi (by omega) 40 (by decide) (by decide)
  obtain ⟨u, x2, hu, e2, i2⟩ := take' i1 (by omega) 4 (by decide) (by decide)
  have e1 : F_l_take [.box, .int 40] x = .val (.int r) x1 := e1
  have e2 : F_l_take [.box, .int 4] x1 = .val (.int u) x2 := e2
  have e3 := frac_ok (n := r) (d := 1 + u) (by omega) (by omega) x2
  have c : u = 0 ∨ u = 1 ∨ u = 2 ∨ u = 3 := by omega
  have z : (1 : Int) + (u : Int) = ((1 + u : Nat) : Int) := by omega
  refine ⟨Rat.divInt r (1 + u), x2, ?_, ?_, ?_, i2.mono (by omega)⟩
  · revert e1 e2 e3
    unfold QE
    generalize F_l_take = Y1
    generalize F_l_frac = Y2
    intro e1 e2 e3
    simp [mDef, mBind, R.bind, mCons, mNil, mVar, h0, mC, e1, mOp, e2, gAdd, gI, o1, e3]
  · rw [z]
    exact low_qg (by omega) (by rcases c with rfl | rfl | rfl | rfl <;> decide) (by omega)
  · rw [z]
    exact divInt_nn (by omega)
theorem r2_ok {ρ : En} : R2 ρ x = .val [.int 0, .int 1] x := rng_of (n := 2) (GR := gRng) rfl rfl
theorem qf_ok {P : D} (hi : Inv k x) (hk : k < 400000) : ∃ (q g : Rat) (x' : Bx), QF [.fz .box, s1, .fz P, s3, s4, s5, s6] x = .val (.lst [frR q, frR g]) x' ∧ Fq 12 40 q ∧ Fq 12 40 g ∧ 0 ≤ g ∧ Inv (k + 4) x' := by
  obtain ⟨u1, u3, u4, u5, w⟩ : ∃ u1 u3 u4 u5, wipeE (shut [.fz .box, s1, .fz P, s3, s4, s5, s6]) [6] = [.fz .box, u1, .fz P, u3, u4, u5, .un] := ⟨_, _, _, _, rfl⟩
  obtain ⟨q, x1, e1, fq, q0, i1⟩ := qe_ok (ρ := [.fz .box, u1, .fz P, u3, u4, u5, .fz (.int 0)]) rfl hi (by omega)
  obtain ⟨g, x2, e2, fg, g0, i2⟩ := qe_ok (ρ := [.fz .box, u1, .fz P, u3, u4, u5, .fz (.int 1)]) rfl i1 (by omega)
  refine ⟨q, g, x2, lc_of r2_ok ?_, fq, fg, g0, i2.mono (by omega)⟩
  rw [w]
  show (match QE [.fz .box, u1, .fz P, u3, u4, u5, .fz (.int 0)] x with
    | .val e x2 => if (0 : Nat) < big then lcRun (.nm 6) mYes QE [.fz .box, u1, .fz P, u3, u4, u5, .un] [.int 1] ([] ++ [e]) x2 else .out
    | _ => .out) = _
  rw [e1]
  dsimp only
  rw [if_pos (bg 0 (by decide))]
  show (match QE [.fz .box, u1, .fz P, u3, u4, u5, .fz (.int 1)] x1 with
    | .val e x2 => if (1 : Nat) < big then R.val (([] ++ [frR q]) ++ [e]) x2 else .out
    | _ => .out) = _
  rw [e2]
  dsimp only
  rw [if_pos (bg 1 (by decide))]
  rfl
theorem lpb_gen {P A B : D} {x1 : Bx} (e1 : QF [.fz .box, s1, .fz P, s3, s4, s5, s6] x = .val (.lst [A, B]) x1) (e2 : F_l_net_right [P, A, B] x1 = .val (.bl true) x1) : LPB [.fz .box, s1, .fz P, s3, s4, s5, s6] x = .nx [.fz .box, s1, .fz P, s3, .fz A, .fz B, s6] x1 := by
  unfold LPB QI
  revert e1 e2
  generalize QF = Y
  generalize F_l_net_right = Z
  intro e1 e2
  simp [mSeq, mAsg, mE, e1, Tg.asg, putE, mIfS, mTNot, mTru, mDef, mBind, R.bind, mCons, mNil, mVar, e2, gTru, oB, mNext]
theorem lap_loop {ps : List Pa} {F N : List Str} (h : Drawn ps F N) (lm : Lim2 ps) (hl : ps.length ≤ 5) : ∀ (ks : List D) {s1 s3 s4 s5 s6 : Slot} {x : Bx} {k : Int}, Inv k x → k + 4 * ks.length < 400000 → ∃ (t3 t4 t5 : Slot) (x' : Bx), loopS (.nm 3) LPB ks [.fz .box, s1, .fz (.tup (ps.map Pa.d)), s3, s4, s5, s6] x = .nx [.fz .box, s1, .fz (.tup (ps.map Pa.d)), t3, t4, t5, s6] x' ∧ Inv (k + 4 * ks.length) x'
  | [], s1, s3, s4, s5, s6, x, k, hi, _ => ⟨s3, s4, s5, x, rfl, by simpa using hi⟩
  | d :: ks, s1, s3, s4, s5, s6, x, k, hi, hk => by
    rw [List.length_cons] at hk
    obtain ⟨q, g, x1, e1, fq, fg, g0, i1⟩ := qf_ok (s1 := s1) (s3 := .fz d) (s4 := s4) (s5 := s5) (s6 := s6) (P := .tup (ps.map Pa.d)) hi (by omega)
    have e2 := lpb_gen e1 (net_right h hl lm fq fg g0 x1)
    obtain ⟨t3, t4, t5, x2, e3, i2⟩ := lap_loop h lm hl ks (s1 := s1) (s3 := .fz d) (s4 := .fz (frR q)) (s5 := .fz (frR g)) (s6 := s6) i1 (by omega)
    refine ⟨t3, t4, t5, x2, ?_, i2.mono (by rw [List.length_cons]; omega)⟩
    show (match LPB [.fz .box, s1, .fz (.tup (ps.map Pa.d)), .fz d, s4, s5, s6] x with
        | .nx ρ2 x2 => loopS (.nm 3) LPB ks ρ2 x2
        | .cnt ρ2 x2 => loopS (.nm 3) LPB ks ρ2 x2
        | .brk ρ2 x2 => .nx ρ2 x2
        | r => r) = _
    rw [e2]
    exact e3
theorem rb_ok (hi : Inv k x) (hk : k < 300000) : ∃ (t2 t3 t4 t5 t6 : Slot) (x' : Bx), RB [.fz .box, s1, s2, s3, s4, s5, s6] x = .nx [.fz .box, s1, t2, t3, t4, t5, t6] x' ∧ Inv (k + 50) x' := by
  obtain ⟨ps, F, N, x1, e1, h, lm, hl, i1⟩ := qn_ok (s1 := s1) (s2 := s2) (s3 := s3) (s4 := s4) (s5 := s5) (s6 := s6) hi (by omega)
  obtain ⟨t3, t4, t5, x2, e2, i2⟩ := lap_loop h lm hl [.int 0, .int 1] (s1 := s1) (s3 := s3) (s4 := s4) (s5 := s5) (s6 := s6) i1 (by simp; omega)
  have b := r2_ok (ρ := [.fz .box, s1, .fz (.tup (ps.map Pa.d)), s3, s4, s5, s6]) (x := x1)
  refine ⟨.fz (.tup (ps.map Pa.d)), t3, t4, t5, s6, x2, ?_, i2.mono (by simp; omega)⟩
  unfold RB
  revert e1 e2 b
  generalize QN = Y
  generalize LPB = Z
  generalize R2 = W
  generalize D.tup (ps.map Pa.d) = P
  intro e1 e2 b
  simp [mSeq, mAsg, mE, e1, Tg.asg, mFor, b, e2]
theorem r_loop : ∀ (ks : List D) {s1 s2 s3 s4 s5 s6 : Slot} {x : Bx} {k : Int}, Inv k x → k + 50 * ks.length < 300000 → ∃ (ρ' : En) (x' : Bx), loopS (.nm 1) RB ks [.fz .box, s1, s2, s3, s4, s5, s6] x = .nx ρ' x'
  | [], s1, s2, s3, s4, s5, s6, x, k, _, _ => ⟨_, x, rfl⟩
  | d :: ks, s1, s2, s3, s4, s5, s6, x, k, hi, hk => by
    rw [List.length_cons] at hk
    obtain ⟨t2, t3, t4, t5, t6, x1, e1, i1⟩ := rb_ok (s1 := .fz d) (s2 := s2) (s3 := s3) (s4 := s4) (s5 := s5) (s6 := s6) hi (by omega)
    obtain ⟨ρ', x2, e2⟩ := r_loop ks (s1 := .fz d) (s2 := t2) (s3 := t3) (s4 := t4) (s5 := t5) (s6 := t6) i1 (by omega)
    refine ⟨ρ', x2, ?_⟩
    show (match RB [.fz .box, .fz d, s2, s3, s4, s5, s6] x with
        | .nx ρ2 x2 => loopS (.nm 1) RB ks ρ2 x2
        | .cnt ρ2 x2 => loopS (.nm 1) RB ks ρ2 x2
        | .brk ρ2 x2 => .nx ρ2 x2
        | r => r) = _
    rw [e1]
    exact e2
theorem right_gen {Y1 : MM (List D)} {Y2 : MS} {ks : List D} {x2 : Bx} {q : En} (e1 : Y1 [.fz .box, .un, .un, .un, .un, .un, .un] x = .val ks x) (e2 : loopS (.nm 1) Y2 ks [.fz .box, .un, .un, .un, .un, .un, .un] x = .nx q x2) : mirror 7 (mSeq (mFor Y1 (.nm 1) Y2) (mRet (mC (.bl true)))) [.box] x = .val (.bl true) x2 := by
  have es : startE 7 [.box] = [.fz .box, .un, .un, .un, .un, .un, .un] := rfl
  unfold mirror
  rw [es]
  simp [mSeq, mFor, mE, e1, e2, mRet, mC]
end
theorem right_ok {x : Bx} (hi : Inv 0 x) : ∃ x', F_l_right [.box] x = .val (.bl true) x' := by
  obtain ⟨q, x2, e2⟩ := r_loop ((List.range 8).map fun k => .int ((k : Nat) : Int)) (s1 := .un) (s2 := .un) (s3 := .un) (s4 := .un) (s5 := .un) (s6 := .un) hi (by simp)
  have e1 : (mBind (mCons (mC (.int 8)) mNil) fun ds => oB (gRng ds)) [.fz .box, .un, .un, .un, .un, .un, .un] x = .val ((List.range 8).map fun k => .int ((k : Nat) : Int)) x := rng_of (n := 8) (GR := gRng) rfl (gRng_r (n := 8) (by decide))
  refine ⟨x2, ?_⟩
  rw [M_right_eq]
  exact right_gen e1 e2
end GG

namespace GG
open PySem PySem.Spec L2 Mi
/-! ### the law's own cases -/
def okx (r : R D) : Bool := match r with
  | .val e y => eqD (.bl true) e && decide (y = (0, 0, 0))
  | _ => false
theorem okx_ok {r : R D} (h : okx r = true) : r = .val (.bl true) (0, 0, 0) := by
  cases r with
  | val e y =>
    unfold okx at h
    rw [Bool.and_eq_true] at h
    rw [← eqD_ok _ _ h.1, of_decide_eq_true h.2]
  | exc _ _ _ => cases h
  | out => cases h
def f2 (n d : Int) : D := .tup [.int n, .int d]
def hA : D := .tup []
def hB : D := .tup [.tup [.str "weir", .str "in", f2 3 1, .str "a", .str "r"], .tup [.str "divide", .str "r", f2 1 2, .str "s", .str "t"], .tup [.str "join", .str "a", .str "s", .str "j"], .tup [.str "weir", .str "j", f2 5 1, .str "p", .str "u"], .tup [.str "join", .str "u", .str "t", .str "q"]]
def hC : D := .tup [.tup [.str "weir", .str "in", f2 0 1, .str "a", .str "b"], .tup [.str "divide", .str "a", f2 1 3, .str "c", .str "d"], .tup [.str "weir", .str "b", f2 5 2, .str "e", .str "f"]]
theorem nA1 : okx (F_l_net_right [hA, f2 0 1, f2 1 1] (0, 0, 0)) = true := by decide +kernel
theorem nA2 : okx (F_l_net_right [hA, f2 7 1, f2 1 7] (0, 0, 0)) = true := by decide +kernel
theorem nA3 : okx (F_l_net_right [hA, f2 499999999999 1, f2 1 2] (0, 0, 0)) = true := by decide +kernel
theorem nA4 : okx (F_l_net_right [hA, f2 5 2, f2 0 1] (0, 0, 0)) = true := by decide +kernel
theorem nB1 : okx (F_l_net_right [hB, f2 0 1, f2 1 1] (0, 0, 0)) = true := by decide +kernel
theorem nB2 : okx (F_l_net_right [hB, f2 7 1, f2 1 7] (0, 0, 0)) = true := by decide +kernel
theorem nB3 : okx (F_l_net_right [hB, f2 499999999999 1, f2 1 2] (0, 0, 0)) = true := by decide +kernel
theorem nB4 : okx (F_l_net_right [hB, f2 5 2, f2 0 1] (0, 0, 0)) = true := by decide +kernel
theorem nC1 : okx (F_l_net_right [hC, f2 0 1, f2 1 1] (0, 0, 0)) = true := by decide +kernel
theorem nC2 : okx (F_l_net_right [hC, f2 7 1, f2 1 7] (0, 0, 0)) = true := by decide +kernel
theorem nC3 : okx (F_l_net_right [hC, f2 499999999999 1, f2 1 2] (0, 0, 0)) = true := by decide +kernel
theorem nC4 : okx (F_l_net_right [hC, f2 5 2, f2 0 1] (0, 0, 0)) = true := by decide +kernel
def HL : MM D := (mLst (mCons (mTup mNil) (mCons (mDef0 0 F_l_sample mNil) (mCons (mTup (mCons (mTup (mCons (mC (.str "weir")) (mCons (mC (.str "in")) (mCons (mTup (mCons (mC (.int 0)) (mCons (mC (.int 1)) mNil))) (mCons (mC (.str "a")) (mCons (mC (.str "b")) mNil)))))) (mCons (mTup (mCons (mC (.str "divide")) (mCons (mC (.str "a")) (mCons (mTup (mCons (mC (.int 1)) (mCons (mC (.int 3)) mNil))) (mCons (mC (.str "c")) (mCons (mC (.str "d")) mNil)))))) (mCons (mTup (mCons (mC (.str "weir")) (mCons (mC (.str "b")) (mCons (mTup (mCons (mC (.int 5)) (mCons (mC (.int 2)) mNil))) (mCons (mC (.str "e")) (mCons (mC (.str "f")) mNil)))))) mNil)))) mNil))))
def PI : MM (List D) := (mIter (mTup (mCons (mTup (mCons (mTup (mCons (mC (.int 0)) (mCons (mC (.int 1)) mNil))) (mCons (mTup (mCons (mC (.int 1)) (mCons (mC (.int 1)) mNil))) mNil))) (mCons (mTup (mCons (mTup (mCons (mC (.int 7)) (mCons (mC (.int 1)) mNil))) (mCons (mTup (mCons (mC (.int 1)) (mCons (mC (.int 7)) mNil))) mNil))) (mCons (mTup (mCons (mTup (mCons (mOp (fun a b => o1 (gSub a b)) (mOp (fun a b => o1 (gMulI a b)) (mC (.int 5)) (mOp (fun a b => o1 (gPow a b)) (mC (.int 10)) (mC (.int 11)))) (mC (.int 1))) (mCons (mC (.int 1)) mNil))) (mCons (mTup (mCons (mC (.int 1)) (mCons (mC (.int 2)) mNil))) mNil))) (mCons (mTup (mCons (mTup (mCons (mC (.int 5)) (mCons (mC (.int 2)) mNil))) (mCons (mTup (mCons (mC (.int 0)) (mCons (mC (.int 1)) mNil))) mNil))) mNil))))))
def HB : MS := (mIfS (mTNot (mTru (mDef 3 F_l_net_right (mCons (mVar 1) (mCons (mVar 2) (mCons (mVar 3) mNil)))))) (mRet (mC (.bl false))) mNext)
theorem M_bh_eq : F_l_by_hand_right = mirror 4 (mSeq (mAsg (.nm 0) HL) (mSeq (mFor (mIter (mVar 0)) (.nm 1) (mFor PI (.tp [2, 3]) HB)) (mRet (mC (.bl true))))) := rfl
def b3 : Bx := (0, 0, 0)
def PL : List D := [.tup [f2 0 1, f2 1 1], .tup [f2 7 1, f2 1 7], .tup [f2 499999999999 1, f2 1 2], .tup [f2 5 2, f2 0 1]]
theorem smp : F_l_sample [] b3 = .val hB b3 := rfl
theorem hl_ok : HL [.un, .un, .un, .un] b3 = .val (.lst [hA, hB, hC]) b3 := by
  have e := smp
  unfold HL
  revert e
  generalize F_l_sample = Y
  intro e
  simp [mLst, mCons, mNil, mTup, mBind, R.bind, mDef0, mC, e, bl, hA, hC, f2]
theorem pi_ok {ρ : En} : PI ρ b3 = .val PL b3 := by
  have e : gPow (.int 10) (.int 11) = some (.int 100000000000) := rfl
  have e2 : gMulI (.int 5) (.int 100000000000) = some (.int 500000000000) := by
    have k : okMul 5 100000000000 = true := by decide +kernel
    show (if okMul 5 100000000000 = true then some (D.int (5 * 100000000000)) else none) = _
    rw [if_pos k]
    rfl
  have e3 : Mi.gSub (.int 500000000000) (.int 1) = some (.int 499999999999) := rfl
  unfold PI
  simp [mIter, mTup, mCons, mNil, mBind, R.bind, mC, bl, mOp, e, e2, e3, o1, itemsD, oB, PL, f2]
section
variable {s0 s2 s3 : Slot} {d A B : D}
theorem hb_ok (e : okx (F_l_net_right [d, A, B] (0, 0, 0)) = true) : HB [s0, .fz d, .fz A, .fz B] b3 = .nx [s0, .fz d, .fz A, .fz B] b3 := by
  have e : F_l_net_right [d, A, B] b3 = .val (.bl true) b3 := okx_ok e
  unfold HB
  revert e
  generalize F_l_net_right = Y
  intro e
  simp [mIfS, mE, mTNot, mTru, mDef, mCons, mNil, mBind, R.bind, mVar, e, gTru, oB, mNext]
theorem hb_step {L : List D} {ρ : En} (e : okx (F_l_net_right [d, A, B] (0, 0, 0)) = true) (h : ∀ s2 s3, loopS (.tp [2, 3]) HB L [s0, .fz d, s2, s3] b3 = .nx ρ b3) : ∀ s2 s3, loopS (.tp [2, 3]) HB (.tup [A, B] :: L) [s0, .fz d, s2, s3] b3 = .nx ρ b3 := fun s2 s3 => by
  show (match HB [s0, .fz d, .fz A, .fz B] b3 with
    | .nx ρ2 x2 => loopS (.tp [2, 3]) HB L ρ2 x2
    | .cnt ρ2 x2 => loopS (.tp [2, 3]) HB L ρ2 x2
    | .brk ρ2 x2 => .nx ρ2 x2
    | r => r) = _
  rw [hb_ok e]
  exact h _ _
theorem in_ok (e1 : okx (F_l_net_right [d, f2 0 1, f2 1 1] (0, 0, 0)) = true) (e2 : okx (F_l_net_right [d, f2 7 1, f2 1 7] (0, 0, 0)) = true) (e3 : okx (F_l_net_right [d, f2 499999999999 1, f2 1 2] (0, 0, 0)) = true) (e4 : okx (F_l_net_right [d, f2 5 2, f2 0 1] (0, 0, 0)) = true) :
    mFor PI (.tp [2, 3]) HB [s0, .fz d, s2, s3] b3 = .nx [s0, .fz d, .fz (f2 5 2), .fz (f2 0 1)] b3 := by
  have last : ∀ s2 s3, loopS (.tp [2, 3]) HB [.tup [f2 5 2, f2 0 1]] [s0, .fz d, s2, s3] b3 = .nx [s0, .fz d, .fz (f2 5 2), .fz (f2 0 1)] b3 := fun s2 s3 => by
    show (match HB [s0, .fz d, .fz (f2 5 2), .fz (f2 0 1)] b3 with
      | .nx ρ2 x2 => RS.nx ρ2 x2
      | .cnt ρ2 x2 => .nx ρ2 x2
      | .brk ρ2 x2 => .nx ρ2 x2
      | r => r) = _
    rw [hb_ok e4]
  have l := hb_step e1 (hb_step e2 (hb_step e3 last)) s2 s3
  have i := pi_ok (ρ := [s0, .fz d, s2, s3])
  unfold mFor mE
  rw [i]
  exact l
end
theorem hand_gen {L : D} {ds : List D} {Y1 : MM D} {Y2 : MS} {ρ' : En} (e1 : Y1 [.un, .un, .un, .un] b3 = .val (.lst ds) b3) (e2 : loopS (.nm 1) Y2 ds [.fz (.lst ds), .un, .un, .un] b3 = .nx ρ' b3) : mirror 4 (mSeq (mAsg (.nm 0) Y1) (mSeq (mFor (mIter (mVar 0)) (.nm 1) Y2) (mRet (mC (.bl true))))) [] b3 = .val (.bl true) b3 := by
  simp [mirror, startE, mSeq, mAsg, mE, e1, Tg.asg, mFor, mIter, mBind, R.bind, mVar, itemsD, oB, e2, mRet, mC]
theorem hand_at : F_l_by_hand_right [] (0, 0, 0) = .val (.bl true) (0, 0, 0) := by
  rw [M_bh_eq]
  have st : ∀ (d : D) (L : List D) (s0 s1 s2 s3 : Slot) (ρ : En), mFor PI (.tp [2, 3]) HB [s0, .fz d, s2, s3] b3 = .nx [s0, .fz d, .fz (f2 5 2), .fz (f2 0 1)] b3 → loopS (.nm 1) (mFor PI (.tp [2, 3]) HB) L [s0, .fz d, .fz (f2 5 2), .fz (f2 0 1)] b3 = .nx ρ b3 → loopS (.nm 1) (mFor PI (.tp [2, 3]) HB) (d :: L) [s0, s1, s2, s3] b3 = .nx ρ b3 := fun d L s0 s1 s2 s3 ρ h1 h2 => by
    show (match mFor PI (.tp [2, 3]) HB [s0, .fz d, s2, s3] b3 with
      | .nx ρ2 x2 => loopS (.nm 1) (mFor PI (.tp [2, 3]) HB) L ρ2 x2
      | .cnt ρ2 x2 => loopS (.nm 1) (mFor PI (.tp [2, 3]) HB) L ρ2 x2
      | .brk ρ2 x2 => .nx ρ2 x2
      | r => r) = _
    rw [h1]
    exact h2
  exact hand_gen (L := .non) hl_ok (st hA _ _ _ _ _ _ (in_ok nA1 nA2 nA3 nA4) (st hB _ _ _ _ _ _ (in_ok nB1 nB2 nB3 nB4) (st hC _ _ _ _ _ _ (in_ok nC1 nC2 nC3 nC4) rfl)))
end GG

namespace GG
open PySem PySem.Spec L2 Mi
theorem at3_0 {a b c : D} : atI [a, b, c] 0 = some a := rfl
theorem at3_1 {a b c : D} : atI [a, b, c] 1 = some b := rfl
theorem at3_2 {a b c : D} : atI [a, b, c] 2 = some c := rfl
theorem box_ok {cs : List Int} {k : Nat} (hk : k < cs.length) (hl : cs.length ≤ 3) (x : Bx) : ∃ a b, F_l_box [.lst (cs.map .int), .int k] x = .val [.int a, .int b, .int 0] x ∧ Inv 0 (a, b, 0) := by
  have ha : atI (cs.map D.int) (k : Int) = some (.int cs[k]) := atI_nat (by rw [List.getElem?_map, List.getElem?_eq_getElem hk]; rfl)
  have hm : ∀ i : Int, okMul i 1 = true := fun i => okMul_r (by decide)
  have hm0 : ∀ i : Int, okMul i 0 = true := fun i => okMul_r (by decide)
  have hm1 : ∀ i : Int, okMul 39373 i = true := fun i => okMul_l (by decide)
  generalize cs[k] = z at ha
  have hI : ∀ a, Inv 0 (a, z % 2305843009213693951 + 39373 * k + 81853, 0) := by
    intro a
    have := Int.emod_nonneg z (b := 2305843009213693951) (by decide)
    have := Int.emod_lt_of_pos z (b := 2305843009213693951) (by decide)
    refine ⟨?_, ?_, Int.le_refl _, Int.le_refl _⟩
    · dsimp only
      omega
    · dsimp only
      omega
  suffices h : ∃ a, F_l_box [.lst (cs.map .int), .int k] x = .val [.int a, .int (z % 2305843009213693951 + 39373 * k + 81853), .int 0] x from h.elim fun a h => ⟨a, _, h, hI a⟩
  by_cases hz : (1000000000000000000 : Int) ≤ if z < 0 then -z else z
  · simp [F_l_box, M_l_box, mirrorN, startE, mSeq, mAsg, Tg.asg, mE, mIf, mTst, mOp, mBind, R.bind, mVar, mCall, mCons, mNil, gLen, o1, gLt, gI, gTst, oB, hk, gIx, ha, mC, mLstN, gAbs, gInt, gGe, gPow, gMulI, gMod, gAdd, hm1, bl, hz, hm, hm0]
  · simp [F_l_box, M_l_box, mirrorN, startE, mSeq, mAsg, Tg.asg, mE, mIf, mTst, mOp, mBind, R.bind, mVar, mCall, mCons, mNil, gLen, o1, gLt, gI, gTst, oB, hk, gIx, ha, mC, mLstN, gAbs, gInt, gGe, gPow, gMulI, gMod, gAdd, hm1, bl, hz, hm, hm0]
theorem cells_step {c0 c1 c2 : Int} {ns : D} {s3 s4 s5 : Slot} {i : Nat} {c : Int} {x : Bx} (hi : i < 100) : ∃ d0 d1 d2 s5', (mSeq (mAsg (.nm 5) (mOp (fun a b => o1 (gMod a b)) (mCall gInt (mCons (mVar 3) mNil)) (mVar 1)))
    (mSetI 2 (mVar 5) (mOp (fun a b => o1 (gAdd a b)) (mIxO 2 (mVar 5)) (mOp (fun a b => o1 (gMulI a b)) (mVar 4) (mOp (fun a b => o1 (gAdd a b)) (mVar 3) (mC (.int 2)))))))
    [.fz ns, .fz (.int 3), .ol [.int c0, .int c1, .int c2], .fz (.int i), .fz (.int c), s5] x = .nx [.fz ns, .fz (.int 3), .ol [.int d0, .int d1, .int d2], .fz (.int i), .fz (.int c), s5'] x := by
  have hm : okMul c (i + 2) = true := okMul_r (by omega)
  have h3 : (i : Int) % 3 = 0 ∨ (i : Int) % 3 = 1 ∨ (i : Int) % 3 = 2 := by omega
  rcases h3 with h | h | h <;>
  simp [mSeq, mAsg, Tg.asg, mE, mOp, mBind, R.bind, mVar, mCall, mCons, mNil, o1, gMod, gI, gInt, h, mSetI, mIxO, mBor, frzS, allS, Slot.fzd, gIx, at3_0, at3_1, at3_2, isSca, gMulI, gAdd, mC, hm, ixN]
theorem cells_loop {ns : D} {x : Bx} : ∀ (zs : List Int) (j : Nat) (c0 c1 c2 : Int) (s3 s4 s5 : Slot), j + zs.length < 100 → ∃ d0 d1 d2 t3 t4 t5, loopS (.tp [3, 4]) (mSeq (mAsg (.nm 5) (mOp (fun a b => o1 (gMod a b)) (mCall gInt (mCons (mVar 3) mNil)) (mVar 1)))
    (mSetI 2 (mVar 5) (mOp (fun a b => o1 (gAdd a b)) (mIxO 2 (mVar 5)) (mOp (fun a b => o1 (gMulI a b)) (mVar 4) (mOp (fun a b => o1 (gAdd a b)) (mVar 3) (mC (.int 2)))))))
    (zs.mapIdx fun i z => .tup [.int ((i + j : Nat) : Int), .int z]) [.fz ns, .fz (.int 3), .ol [.int c0, .int c1, .int c2], s3, s4, s5] x = .nx [.fz ns, .fz (.int 3), .ol [.int d0, .int d1, .int d2], t3, t4, t5] x
  | [], j, c0, c1, c2, s3, s4, s5, _ => ⟨c0, c1, c2, s3, s4, s5, rfl⟩
  | z :: zs, j, c0, c1, c2, s3, s4, s5, hl => by
    rw [List.length_cons] at hl
    obtain ⟨d0, d1, d2, t5, e⟩ := cells_step (c0 := c0) (c1 := c1) (c2 := c2) (ns := ns) (s3 := s3) (s4 := s4) (s5 := s5) (i := j) (c := z) (x := x) (by omega)
    obtain ⟨f0, f1, f2, u3, u4, u5, e2⟩ := cells_loop (ns := ns) (x := x) zs (j + 1) d0 d1 d2 (.fz (.int j)) (.fz (.int z)) t5 (by omega)
    refine ⟨f0, f1, f2, u3, u4, u5, ?_⟩
    rw [← e2, List.mapIdx_cons]
    have ei : (fun (i : Nat) (z : Int) => D.tup [.int ((i + 1 + j : Nat) : Int), .int z]) = fun (i : Nat) (z : Int) => D.tup [.int ((i + (j + 1) : Nat) : Int), .int z] := by
      funext i z
      rw [Nat.add_assoc, Nat.add_comm 1 j]
    revert e
    generalize (mSeq (mAsg (.nm 5) (mOp (fun a b => o1 (gMod a b)) (mCall gInt (mCons (mVar 3) mNil)) (mVar 1)))
      (mSetI 2 (mVar 5) (mOp (fun a b => o1 (gAdd a b)) (mIxO 2 (mVar 5)) (mOp (fun a b => o1 (gMulI a b)) (mVar 4) (mOp (fun a b => o1 (gAdd a b)) (mVar 3) (mC (.int 2))))))) = B
    intro e
    rw [← ei]
    simp [loopS, Tg.asg, putE, e]
theorem cells_ok (ns : List Int) (hl : ns.length ≤ 63) (x : Bx) : ∃ cs : List Int, 1 ≤ cs.length ∧ cs.length ≤ 3 ∧ F_l_cells [.scr ns, .int 3] x = .val (.lst (cs.map .int)) x := by
  match ns, hl with
  | [], _ => 
    refine ⟨[0], by decide, by decide, ?_⟩
    simp [F_l_cells, M_l_cells, mirror, startE, mSeq, mE, mOrN, mBind, R.bind, mCons, mNil, mSlice, mVar, mNoPart, mPart, gCut, cutD, HT.sIx, o1, oB, gListN, mLstN, mC, bl, mFor, gEnumA, enumD, loopS, mRet, frzS, allS, Slot.fzd]
  | [a], _ =>
    refine ⟨[a], by simp, by simp, ?_⟩
    simp [F_l_cells, M_l_cells, mirror, startE, mSeq, mE, mOrN, mBind, R.bind, mCons, mNil, mSlice, mVar, mNoPart, mPart, gCut, cutD, HT.sIx, o1, oB, gListN, mLstN, mC, bl, mFor, gEnumA, enumD, loopS, mRet, frzS, allS, Slot.fzd]
  | [a, b], _ =>
    refine ⟨[a, b], by simp, by simp, ?_⟩
    simp [F_l_cells, M_l_cells, mirror, startE, mSeq, mE, mOrN, mBind, R.bind, mCons, mNil, mSlice, mVar, mNoPart, mPart, gCut, cutD, HT.sIx, o1, oB, gListN, mLstN, mC, bl, mFor, gEnumA, enumD, loopS, mRet, frzS, allS, Slot.fzd]
  | a :: b :: c :: rest, hl =>
    have hr : rest.length ≤ 60 := by
      simp only [List.length_cons] at hl
      omega
    obtain ⟨d0, d1, d2, t3, t4, t5, e⟩ := cells_loop (ns := .scr (a :: b :: c :: rest)) (x := x) rest 0 a b c .un .un .un (by omega)
    refine ⟨[d0, d1, d2], by simp, by simp, ?_⟩
    have q1 : gCut none (some 3) (.scr (a :: b :: c :: rest)) = some (.lst [.int a, .int b, .int c]) := by
      have hz : min 3 (rest.length + 1 + 1 + 1) = 3 := by omega
      simp [gCut, cutD, HT.sIx, hz]
    have q2 : gCut (some 3) (some 63) (.scr (a :: b :: c :: rest)) = some (.lst (rest.map .int)) := by
      have hz : min 3 (rest.length + 1 + 1 + 1) = 3 := by omega
      have hy : min 63 (rest.length + 1 + 1 + 1) - 3 = rest.length := by omega
      have ht : List.take rest.length (List.map D.int rest) = List.map D.int rest := List.take_of_length_le (by rw [List.length_map]; exact Nat.le_refl _)
      simp [gCut, cutD, HT.sIx, hz, hy, ht]
    have q3 : enumD (rest.map .int) = rest.mapIdx fun i z => .tup [.int ((i + 0 : Nat) : Int), .int z] := by
      unfold enumD
      apply List.ext_getElem?
      intro i
      rw [List.getElem?_mapIdx, List.getElem?_mapIdx, List.getElem?_map]
      cases rest[i]? <;> rfl
    show mirror 6 M_l_cells _ _ = _
    unfold M_l_cells mirror
    revert e
    generalize (mSeq (mAsg (.nm 5) (mOp (fun a b => o1 (gMod a b)) (mCall gInt (mCons (mVar 3) mNil)) (mVar 1)))
      (mSetI 2 (mVar 5) (mOp (fun a b => o1 (gAdd a b)) (mIxO 2 (mVar 5)) (mOp (fun a b => o1 (gMulI a b)) (mVar 4) (mOp (fun a b => o1 (gAdd a b)) (mVar 3) (mC (.int 2))))))) = B
    intro e
    simp only [Nat.add_zero] at e q3
    simp [startE, mSeq, mE, mOrN, mBind, R.bind, mCons, mNil, mSlice, mVar, mNoPart, mPart, q1, q2, q3, o1, oB, gListN, mLstN, mC, bl, mFor, gEnumA, mRet, e, frzS, allS, Slot.fzd]
theorem all_cells {cs : List Int} (h1 : 1 ≤ cs.length) (h3 : cs.length ≤ 3) {ρ : En} (hρ : ρ[1]? = some (.fz (.lst (cs.map .int)))) (hn : 2 < ρ.length) (x : Bx) : ∀ (ks : List Nat) (acc : List D), (∀ k ∈ ks, k < cs.length) → acc.length + ks.length ≤ 100 →
    lcRun (.nm 2) mYes (mDefB F_l_right (mDefN 2 F_l_box (mCons (mVar 1) (mCons (mVar 2) mNil)))) ρ (ks.map fun k => .int ((k : Nat) : Int)) acc x = .val (acc ++ List.replicate ks.length (.bl true)) x
  | [], acc, _, _ => by
    show (R.val acc x : R (List D)) = .val (acc ++ []) x
    rw [List.append_nil]
  | k :: ks, acc, h, hl => by
    rw [List.length_cons] at hl
    have hb : acc.length < big := by
      unfold big
      omega
    obtain ⟨a, b, eb, iv⟩ := box_ok (h k (List.mem_cons_self ..)) h3 x
    obtain ⟨x', er⟩ := right_ok iv
    have ih := all_cells h1 h3 hρ hn x ks (acc ++ [.bl true]) (fun k hk => h k (List.mem_cons_of_mem _ hk)) (by rw [List.length_append]; show acc.length + 1 + _ ≤ _; omega)
    have h1' : (ρ.set 2 (.fz (.int k)))[1]? = some (.fz (.lst (cs.map .int))) := by rw [List.getElem?_set_ne (by decide)]; exact hρ
    have h2' : (ρ.set 2 (.fz (.int k)))[2]? = some (.fz (.int k)) := List.getElem?_set_self hn
    have em : mDefB F_l_right (mDefN 2 F_l_box (mCons (mVar 1) (mCons (mVar 2) mNil))) (ρ.set 2 (.fz (.int k))) x = .val (.bl true) x := by
      simp [mDefB, mDefN, mBind, R.bind, mCons, mVar, mNil, h1', hn, eb, ints3, er, isSca]
    show (match mDefB F_l_right (mDefN 2 F_l_box (mCons (mVar 1) (mCons (mVar 2) mNil))) (ρ.set 2 (.fz (.int k))) x with
        | .val e x2 => if acc.length < big then lcRun (.nm 2) mYes (mDefB F_l_right (mDefN 2 F_l_box (mCons (mVar 1) (mCons (mVar 2) mNil)))) ρ (ks.map fun k => .int ((k : Nat) : Int)) (acc ++ [e]) x2 else .out
        | _ => .out) = _
    rw [em]
    show (if acc.length < big then lcRun (.nm 2) mYes (mDefB F_l_right (mDefN 2 F_l_box (mCons (mVar 1) (mCons (mVar 2) mNil)))) ρ (ks.map fun k => .int ((k : Nat) : Int)) (acc ++ [.bl true]) x else .out) = _
    rw [if_pos hb, ih, List.append_assoc]
    rfl
theorem gRng_len {n : Nat} (h : n ≤ 3) : gRng [.int n] = some ((List.range n).map fun k => .int ((k : Nat) : Int)) := by
  have h4 : n = 0 ∨ n = 1 ∨ n = 2 ∨ n = 3 := by omega
  rcases h4 with rfl | rfl | rfl | rfl <;> rfl
theorem x0 {ns cs : List Int} {x : Bx} : (mCall gLen (mCons (mVar 1) mNil)) [.fz (.scr ns), .fz (.lst (cs.map .int)), .un] x = .val (.int cs.length) x := by
  have hl : gLen [.lst (cs.map .int)] = some (.int cs.length) := by
    show some (D.int ((cs.map D.int).length : Nat)) = _
    rw [List.length_map]
  show o1 (gLen [.lst (cs.map .int)]) [.fz (.scr ns), .fz (.lst (cs.map .int)), .un] x = _
  rw [hl]
  rfl
theorem x1 {M : MM D} {ρ : En} {GR : List D → Option (List D)} {n : Int} {ds : List D} {x : Bx} (hM : M ρ x = .val (.int n) x) (hg : GR [.int n] = some ds) : (mBind (mCons M mNil) fun ds => oB (GR ds)) ρ x = .val ds x := by
  simp [mBind, mCons, mNil, R.bind, hM, oB, hg]
theorem x2 {B : MM D} {ns cs : List Int} {I : MM (List D)} (e1 : I [.fz (.scr ns), .fz (.lst (cs.map .int)), .un] (0, 0, 0) = .val ((List.range cs.length).map fun k => .int ((k : Nat) : Int)) (0, 0, 0))
    (run : lcRun (.nm 2) mYes B [.fz (.scr ns), .fz (.lst (cs.map .int)), .un] ((List.range cs.length).map fun k => .int ((k : Nat) : Int)) [] (0, 0, 0) = .val (List.replicate cs.length (.bl true)) (0, 0, 0)) : (mLc I (.nm 2) mYes B [2]) [.fz (.scr ns), .fz (.lst (cs.map .int)), .un] (0, 0, 0) = .val (.lst (List.replicate cs.length (.bl true))) (0, 0, 0) := by
  unfold mLc mLcL
  simp [mBind, e1, wipeE, shut, run, R.bind]
theorem x3 {L : MM D} {ρ : En} {n : Nat} {x : Bx} (e2 : L ρ x = .val (.lst (List.replicate n (.bl true))) x) : mCall gAll (mCons L mNil) ρ x = .val (.bl true) x := by
  simp [mCall, mBind, mCons, mNil, R.bind, e2, gAll, asBs_rep, o1]
theorem law_gen {FC FH : Mr} {G : MM D} {ns cs : List Int} (ec : FC [.scr ns, .int 3] (0, 0, 0) = .val (.lst (cs.map .int)) (0, 0, 0)) (hh : FH [] (0, 0, 0) = .val (.bl true) (0, 0, 0))
    (hG : G [.fz (.scr ns), .fz (.lst (cs.map .int)), .un] (0, 0, 0) = .val (.bl true) (0, 0, 0)) :
    mirror 3 (mSeq (mAsg (.nm 1) (mDef 2 FC (mCons (mVar 0) (mCons (mC (.int 3)) mNil)))) (mRet (mAndV (mDef0 0 FH mNil) G))) [.scr ns] (0, 0, 0) = .val (.bl true) (0, 0, 0) := by
  simp [mirror, startE, mSeq, mE, mAsg, Tg.asg, mDef, mBind, R.bind, mCons, mVar, mNil, mC, ec, mRet, mAndV, asB, gTru, oB, mDef0, hh, hG]
theorem law_eq : F_law = mirror 3 (mSeq (mAsg (.nm 1) (mDef 2 F_l_cells (mCons (mVar 0) (mCons (mC (.int 3)) mNil)))) (mRet (mAndV (mDef0 0 F_l_by_hand_right mNil) (mCall gAll (mCons (mLc (mBind (mCons (mCall gLen (mCons (mVar 1) mNil)) mNil) fun ds => oB (gRng ds)) (.nm 2) mYes (mDefB F_l_right (mDefN 2 F_l_box (mCons (mVar 1) (mCons (mVar 2) mNil)))) [2]) mNil))))) := rfl
theorem law_val (ns : List Int) (hl : ns.length ≤ 63) : ∃ x', F_law [.scr ns] (0, 0, 0) = .val (.bl true) x' := by
  obtain ⟨cs, h1, h3, ec⟩ := cells_ok ns hl (0, 0, 0)
  have run := all_cells (ρ := [.fz (.scr ns), .fz (.lst (cs.map .int)), .un]) h1 h3 rfl (by simp) (0, 0, 0) (List.range cs.length) [] (fun k hk => List.mem_range.mp hk) (by rw [List.length_range]; show 0 + _ ≤ _; omega)
  rw [List.length_range, List.nil_append] at run
  exact ⟨(0, 0, 0), law_eq ▸ law_gen ec hand_at (x3 (x2 (x1 x0 (gRng_len h3)) run))⟩
end GG

namespace GG
open PySem PySem.Spec L2 Mi
theorem all_mk {l : PySem.W.OpenLaw} {w : World} {K : PySem.W.Frag} {h : Heap} {mg : Str → Option Value} {fa : Addr} (X : K.In h) (G : h.Ns mainGlobals mg) (hfa : mg "law" = some (.ref fa))
    {oC_Net : Addr}
    {od0 an0 : Option Addr} {sl0 : Array (Option Value)} {oc0 kV0 dc0 pm0 cd0 ct0 : Value} {f0 : Addr}
    {od1 an1 : Option Addr} {sl1 : Array (Option Value)} {oc1 kV1 dc1 pm1 cd1 ct1 : Value} {f1 : Addr}
    {od2 an2 : Option Addr} {sl2 : Array (Option Value)} {oc2 kV2 dc2 pm2 cd2 ct2 : Value} {f2 : Addr}
    {od3 an3 : Option Addr} {sl3 : Array (Option Value)} {oc3 kV3 dc3 pm3 cd3 ct3 : Value} {f3 : Addr}
    {od4 an4 : Option Addr} {sl4 : Array (Option Value)} {oc4 kV4 dc4 pm4 cd4 ct4 : Value} {f4 : Addr}
    {od5 an5 : Option Addr} {sl5 : Array (Option Value)} {oc5 kV5 dc5 pm5 cd5 ct5 : Value} {f5 : Addr}
    {dT5 d05 : Addr} {dcl5 : Value} {do5 td5 : Option Addr} {dn5 tn5 : Nat} {dsl5 tsl5 : Array (Option Value)}
    {od6 an6 : Option Addr} {sl6 : Array (Option Value)} {oc6 kV6 dc6 pm6 cd6 ct6 : Value} {f6 : Addr}
    {od7 an7 : Option Addr} {sl7 : Array (Option Value)} {oc7 kV7 dc7 pm7 cd7 ct7 : Value} {f7 : Addr}
    {od8 an8 : Option Addr} {sl8 : Array (Option Value)} {oc8 kV8 dc8 pm8 cd8 ct8 : Value} {f8 : Addr}
    {od9 an9 : Option Addr} {sl9 : Array (Option Value)} {oc9 kV9 dc9 pm9 cd9 ct9 : Value} {f9 : Addr}
    {od10 an10 : Option Addr} {sl10 : Array (Option Value)} {oc10 kV10 dc10 pm10 cd10 ct10 : Value} {f10 : Addr}
    {od11 an11 : Option Addr} {sl11 : Array (Option Value)} {oc11 kV11 dc11 pm11 cd11 ct11 : Value} {f11 : Addr}
    {pp11 : Addr} {pr11 : List Value}
    {od12 an12 : Option Addr} {sl12 : Array (Option Value)} {oc12 kV12 dc12 pm12 cd12 ct12 : Value} {f12 : Addr}
    {pp12 : Addr} {pr12 : List Value}
    {od13 an13 : Option Addr} {sl13 : Array (Option Value)} {oc13 kV13 dc13 pm13 cd13 ct13 : Value} {f13 : Addr}
    {od14 an14 : Option Addr} {sl14 : Array (Option Value)} {oc14 kV14 dc14 pm14 cd14 ct14 : Value} {f14 : Addr}
    {od15 an15 : Option Addr} {sl15 : Array (Option Value)} {oc15 kV15 dc15 pm15 cd15 ct15 : Value} {f15 : Addr}
    {od16 an16 : Option Addr} {sl16 : Array (Option Value)} {oc16 kV16 dc16 pm16 cd16 ct16 : Value} {f16 : Addr}
    {od17 an17 : Option Addr} {sl17 : Array (Option Value)} {oc17 kV17 dc17 pm17 cd17 ct17 : Value} {f17 : Addr}
    {od18 an18 : Option Addr} {sl18 : Array (Option Value)} {oc18 kV18 dc18 pm18 cd18 ct18 : Value} {f18 : Addr}
    {od19 an19 : Option Addr} {sl19 : Array (Option Value)} {oc19 kV19 dc19 pm19 cd19 ct19 : Value} {f19 : Addr}
    {od20 an20 : Option Addr} {sl20 : Array (Option Value)} {oc20 kV20 dc20 pm20 cd20 ct20 : Value} {f20 : Addr}
    {od21 an21 : Option Addr} {sl21 : Array (Option Value)} {oc21 kV21 dc21 pm21 cd21 ct21 : Value} {f21 : Addr}
    {od22 an22 : Option Addr} {sl22 : Array (Option Value)} {oc22 kV22 dc22 pm22 cd22 ct22 : Value} {f22 : Addr}
    {od23 an23 : Option Addr} {sl23 : Array (Option Value)} {oc23 kV23 dc23 pm23 cd23 ct23 : Value} {f23 : Addr}
    {od24 an24 : Option Addr} {sl24 : Array (Option Value)} {oc24 kV24 dc24 pm24 cd24 ct24 : Value} {f24 : Addr}
    {od25 an25 : Option Addr} {sl25 : Array (Option Value)} {oc25 kV25 dc25 pm25 cd25 ct25 : Value} {f25 : Addr}
    {od26 an26 : Option Addr} {sl26 : Array (Option Value)} {oc26 kV26 dc26 pm26 cd26 ct26 : Value} {f26 : Addr}
    {od27 an27 : Option Addr} {sl27 : Array (Option Value)} {oc27 kV27 dc27 pm27 cd27 ct27 : Value} {f27 : Addr}
    {od28 an28 : Option Addr} {sl28 : Array (Option Value)} {oc28 kV28 dc28 pm28 cd28 ct28 : Value} {f28 : Addr}
    {od29 an29 : Option Addr} {sl29 : Array (Option Value)} {oc29 kV29 dc29 pm29 cd29 ct29 : Value} {f29 : Addr}
    {od30 an30 : Option Addr} {sl30 : Array (Option Value)} {oc30 kV30 dc30 pm30 cd30 ct30 : Value} {f30 : Addr}
    {od31 an31 : Option Addr} {sl31 : Array (Option Value)} {oc31 kV31 dc31 pm31 cd31 ct31 : Value} {f31 : Addr}
    {eC0 eB0 eF0 eN0 : Addr} {en0 eq0 : Str} {ebs0 : List Value} {esn0 : List Str} {esu0 : List Value} {eab0 : Bool} {eco0 : Option Bool} {edd0 : Option Addr} {em00 em10 em20 em30 em50 : Option Value} {eod0 ean0 : Option Addr} {esl0 : Array (Option Value)} {eoc0 ekV0 edc0 epm0 ecd0 ect0 : Value}
    (oa_Net : PySem.W.nsIn K mainGlobals "Net" = some (some (.ref oC_Net))) (op_Net : PySem.W.plainGet K oC_Net Str.empty = true) (oh_Net : PySem.W.hasDictIn K oC_Net = true) (oo_Net : PySem.W.plainOver K oC_Net = true) (os_Net : PySem.W.findIn K (.ref oC_Net) "__setattr__" = some (some (.builtin "object.__setattr__")))
    (on_Net__parts : PySem.W.findIn K (.ref oC_Net) "_parts" = some none)
    (on_Net__channels : PySem.W.findIn K (.ref oC_Net) "_channels" = some none)
    (on_Net__outlets : PySem.W.findIn K (.ref oC_Net) "_outlets" = some none)
    (a0 : PySem.W.nsIn K mainGlobals "_law_box" = some (some (.ref f0))) (l0 : K.lookup f0 = some ⟨oc0, od0, .func (PySem.W.fnOf "_law_box" "_law_box" (defArgs s_l_box) (defBody s_l_box) (defScope s_l_box) .none kV0 dc0 pm0 an0 cd0 ct0), sl0⟩) (c0 : PySem.W.codeIn K cd0 "_law_box" = true) (k0 : PySem.W.keepIn K (.ref f0) = true)
    (a1 : PySem.W.nsIn K mainGlobals "channels_made" = some (some (.ref f1))) (l1 : K.lookup f1 = some ⟨oc1, od1, .func (PySem.W.fnOf "channels_made" "channels_made" (defArgs s_channels_made) (defBody s_channels_made) (defScope s_channels_made) .none kV1 dc1 pm1 an1 cd1 ct1), sl1⟩) (c1 : PySem.W.codeIn K cd1 "channels_made" = true) (k1 : PySem.W.keepIn K (.ref f1) = true)
    (a2 : PySem.W.nsIn K mainGlobals "channels_taken" = some (some (.ref f2))) (l2 : K.lookup f2 = some ⟨oc2, od2, .func (PySem.W.fnOf "channels_taken" "channels_taken" (defArgs s_channels_taken) (defBody s_channels_taken) (defScope s_channels_taken) .none kV2 dc2 pm2 an2 cd2 ct2), sl2⟩) (c2 : PySem.W.codeIn K cd2 "channels_taken" = true) (k2 : PySem.W.keepIn K (.ref f2) = true)
    (a3 : PySem.W.nsIn K mainGlobals "_fits" = some (some (.ref f3))) (l3 : K.lookup f3 = some ⟨oc3, od3, .func (PySem.W.fnOf "_fits" "_fits" (defArgs s_p_fits) (defBody s_p_fits) (defScope s_p_fits) .none kV3 dc3 pm3 an3 cd3 ct3), sl3⟩) (c3 : PySem.W.codeIn K cd3 "_fits" = true) (k3 : PySem.W.keepIn K (.ref f3) = true)
    (a4 : PySem.W.nsIn K mainGlobals "as_tuples" = some (some (.ref f4))) (l4 : K.lookup f4 = some ⟨oc4, od4, .func (PySem.W.fnOf "as_tuples" "as_tuples" (defArgs s_as_tuples) (defBody s_as_tuples) (defScope s_as_tuples) .none kV4 dc4 pm4 an4 cd4 ct4), sl4⟩) (c4 : PySem.W.codeIn K cd4 "as_tuples" = true) (k4 : PySem.W.keepIn K (.ref f4) = true)
    (mm5 : PySem.W.makesIn K oC_Net = true) (mi5 : PySem.W.findIn K (.ref oC_Net) "__init__" = some (some (.ref f5))) (mf5 : PySem.W.isFn K (.ref f5) = true) (mk5 : PySem.W.keepIn K (.ref oC_Net) = true)
    (l5 : K.lookup f5 = some ⟨oc5, od5, .func (PySem.W.fnOf "__init__" "Net.__init__" (defArgs s_Net___init__) (defBody s_Net___init__) (defScope s_Net___init__) (.ref dT5) kV5 dc5 pm5 an5 cd5 ct5), sl5⟩) (c5 : PySem.W.codeIn K cd5 "Net.__init__" = true) (k5 : PySem.W.keepIn K (.ref f5) = true)
    (lT5 : K.lookup dT5 = some ⟨dcl5, do5, .seq #[.ref d05] dn5, dsl5⟩) (l05 : K.lookup d05 = some ⟨.type "tuple", td5, .seq #[] tn5, tsl5⟩)
    (a6 : PySem.W.nsIn K mainGlobals "_law_frac" = some (some (.ref f6))) (l6 : K.lookup f6 = some ⟨oc6, od6, .func (PySem.W.fnOf "_law_frac" "_law_frac" (defArgs s_l_frac) (defBody s_l_frac) (defScope s_l_frac) .none kV6 dc6 pm6 an6 cd6 ct6), sl6⟩) (c6 : PySem.W.codeIn K cd6 "_law_frac" = true) (k6 : PySem.W.keepIn K (.ref f6) = true)
    (a7 : PySem.W.nsIn K mainGlobals "_law_add" = some (some (.ref f7))) (l7 : K.lookup f7 = some ⟨oc7, od7, .func (PySem.W.fnOf "_law_add" "_law_add" (defArgs s_l_add) (defBody s_l_add) (defScope s_l_add) .none kV7 dc7 pm7 an7 cd7 ct7), sl7⟩) (c7 : PySem.W.codeIn K cd7 "_law_add" = true) (k7 : PySem.W.keepIn K (.ref f7) = true)
    (a8 : PySem.W.nsIn K mainGlobals "_law_low" = some (some (.ref f8))) (l8 : K.lookup f8 = some ⟨oc8, od8, .func (PySem.W.fnOf "_law_low" "_law_low" (defArgs s_l_low) (defBody s_l_low) (defScope s_l_low) .none kV8 dc8 pm8 an8 cd8 ct8), sl8⟩) (c8 : PySem.W.codeIn K cd8 "_law_low" = true) (k8 : PySem.W.keepIn K (.ref f8) = true)
    (a9 : PySem.W.nsIn K mainGlobals "_law_mul" = some (some (.ref f9))) (l9 : K.lookup f9 = some ⟨oc9, od9, .func (PySem.W.fnOf "_law_mul" "_law_mul" (defArgs s_l_mul) (defBody s_l_mul) (defScope s_l_mul) .none kV9 dc9 pm9 an9 cd9 ct9), sl9⟩) (c9 : PySem.W.codeIn K cd9 "_law_mul" = true) (k9 : PySem.W.keepIn K (.ref f9) = true)
    (a10 : PySem.W.nsIn K mainGlobals "_law_same" = some (some (.ref f10))) (l10 : K.lookup f10 = some ⟨oc10, od10, .func (PySem.W.fnOf "_law_same" "_law_same" (defArgs s_l_same) (defBody s_l_same) (defScope s_l_same) .none kV10 dc10 pm10 an10 cd10 ct10), sl10⟩) (c10 : PySem.W.codeIn K cd10 "_law_same" = true) (k10 : PySem.W.keepIn K (.ref f10) = true)
    (pa11 : PySem.W.findIn K (.ref oC_Net) "outlets" = some (some (.ref pp11))) (pg11 : PySem.W.specialIn K (.ref pp11) "__get__" = some (some (.builtin "property.__get__"))) (pt11 : PySem.W.takesIn K (.ref pp11) = some true) (pv11 : PySem.W.recIn K pp11 "property" = some (.ref f11 :: pr11))
    (l11 : K.lookup f11 = some ⟨oc11, od11, .func (PySem.W.fnOf "outlets" "Net.outlets" (defArgs s_Net_outlets) (defBody s_Net_outlets) (defScope s_Net_outlets) .none kV11 dc11 pm11 an11 cd11 ct11), sl11⟩) (c11 : PySem.W.codeIn K cd11 "Net.outlets" = true) (k11 : PySem.W.keepIn K (.ref f11) = true)
    (pa12 : PySem.W.findIn K (.ref oC_Net) "parts" = some (some (.ref pp12))) (pg12 : PySem.W.specialIn K (.ref pp12) "__get__" = some (some (.builtin "property.__get__"))) (pt12 : PySem.W.takesIn K (.ref pp12) = some true) (pv12 : PySem.W.recIn K pp12 "property" = some (.ref f12 :: pr12))
    (l12 : K.lookup f12 = some ⟨oc12, od12, .func (PySem.W.fnOf "parts" "Net.parts" (defArgs s_Net_parts) (defBody s_Net_parts) (defScope s_Net_parts) .none kV12 dc12 pm12 an12 cd12 ct12), sl12⟩) (c12 : PySem.W.codeIn K cd12 "Net.parts" = true) (k12 : PySem.W.keepIn K (.ref f12) = true)
    (a13 : PySem.W.nsIn K mainGlobals "is_less" = some (some (.ref f13))) (l13 : K.lookup f13 = some ⟨oc13, od13, .func (PySem.W.fnOf "is_less" "is_less" (defArgs s_is_less) (defBody s_is_less) (defScope s_is_less) .none kV13 dc13 pm13 an13 cd13 ct13), sl13⟩) (c13 : PySem.W.codeIn K cd13 "is_less" = true) (k13 : PySem.W.keepIn K (.ref f13) = true)
    (a14 : PySem.W.nsIn K mainGlobals "lesser" = some (some (.ref f14))) (l14 : K.lookup f14 = some ⟨oc14, od14, .func (PySem.W.fnOf "lesser" "lesser" (defArgs s_lesser) (defBody s_lesser) (defScope s_lesser) .none kV14 dc14 pm14 an14 cd14 ct14), sl14⟩) (c14 : PySem.W.codeIn K cd14 "lesser" = true) (k14 : PySem.W.keepIn K (.ref f14) = true)
    (a15 : PySem.W.nsIn K mainGlobals "_lowest" = some (some (.ref f15))) (l15 : K.lookup f15 = some ⟨oc15, od15, .func (PySem.W.fnOf "_lowest" "_lowest" (defArgs s_p_lowest) (defBody s_p_lowest) (defScope s_p_lowest) .none kV15 dc15 pm15 an15 cd15 ct15), sl15⟩) (c15 : PySem.W.codeIn K cd15 "_lowest" = true) (k15 : PySem.W.keepIn K (.ref f15) = true)
    (a16 : PySem.W.nsIn K mainGlobals "minus" = some (some (.ref f16))) (l16 : K.lookup f16 = some ⟨oc16, od16, .func (PySem.W.fnOf "minus" "minus" (defArgs s_minus) (defBody s_minus) (defScope s_minus) .none kV16 dc16 pm16 an16 cd16 ct16), sl16⟩) (c16 : PySem.W.codeIn K cd16 "minus" = true) (k16 : PySem.W.keepIn K (.ref f16) = true)
    (a17 : PySem.W.nsIn K mainGlobals "plus" = some (some (.ref f17))) (l17 : K.lookup f17 = some ⟨oc17, od17, .func (PySem.W.fnOf "plus" "plus" (defArgs s_plus) (defBody s_plus) (defScope s_plus) .none kV17 dc17 pm17 an17 cd17 ct17), sl17⟩) (c17 : PySem.W.codeIn K cd17 "plus" = true) (k17 : PySem.W.keepIn K (.ref f17) = true)
    (a18 : PySem.W.nsIn K mainGlobals "times" = some (some (.ref f18))) (l18 : K.lookup f18 = some ⟨oc18, od18, .func (PySem.W.fnOf "times" "times" (defArgs s_times) (defBody s_times) (defScope s_times) .none kV18 dc18 pm18 an18 cd18 ct18), sl18⟩) (c18 : PySem.W.codeIn K cd18 "times" = true) (k18 : PySem.W.keepIn K (.ref f18) = true)
    (a19 : PySem.W.nsIn K mainGlobals "_amounts" = some (some (.ref f19))) (l19 : K.lookup f19 = some ⟨oc19, od19, .func (PySem.W.fnOf "_amounts" "_amounts" (defArgs s_p_amounts) (defBody s_p_amounts) (defScope s_p_amounts) .none kV19 dc19 pm19 an19 cd19 ct19), sl19⟩) (c19 : PySem.W.codeIn K cd19 "_amounts" = true) (k19 : PySem.W.keepIn K (.ref f19) = true)
    (a20 : PySem.W.nsIn K mainGlobals "flow" = some (some (.ref f20))) (l20 : K.lookup f20 = some ⟨oc20, od20, .func (PySem.W.fnOf "flow" "flow" (defArgs s_flow) (defBody s_flow) (defScope s_flow) .none kV20 dc20 pm20 an20 cd20 ct20), sl20⟩) (c20 : PySem.W.codeIn K cd20 "flow" = true) (k20 : PySem.W.keepIn K (.ref f20) = true)
    (a21 : PySem.W.nsIn K mainGlobals "walked" = some (some (.ref f21))) (l21 : K.lookup f21 = some ⟨oc21, od21, .func (PySem.W.fnOf "walked" "walked" (defArgs s_walked) (defBody s_walked) (defScope s_walked) .none kV21 dc21 pm21 an21 cd21 ct21), sl21⟩) (c21 : PySem.W.codeIn K cd21 "walked" = true) (k21 : PySem.W.keepIn K (.ref f21) = true)
    (a22 : PySem.W.nsIn K mainGlobals "walked" = some (some (.ref f22))) (l22 : K.lookup f22 = some ⟨oc22, od22, .func (PySem.W.fnOf "walked" "walked" (defArgs s_walked_x) (defBody s_walked_x) (defScope s_walked_x) .none kV22 dc22 pm22 an22 cd22 ct22), sl22⟩) (c22 : PySem.W.codeIn K cd22 "walked" = true) (k22 : PySem.W.keepIn K (.ref f22) = true)
    (a23 : PySem.W.nsIn K mainGlobals "_law_net_right" = some (some (.ref f23))) (l23 : K.lookup f23 = some ⟨oc23, od23, .func (PySem.W.fnOf "_law_net_right" "_law_net_right" (defArgs s_l_net_right) (defBody s_l_net_right) (defScope s_l_net_right) .none kV23 dc23 pm23 an23 cd23 ct23), sl23⟩) (c23 : PySem.W.codeIn K cd23 "_law_net_right" = true) (k23 : PySem.W.keepIn K (.ref f23) = true)
    (a24 : PySem.W.nsIn K mainGlobals "_law_sample" = some (some (.ref f24))) (l24 : K.lookup f24 = some ⟨oc24, od24, .func (PySem.W.fnOf "_law_sample" "_law_sample" (defArgs s_l_sample) (defBody s_l_sample) (defScope s_l_sample) .none kV24 dc24 pm24 an24 cd24 ct24), sl24⟩) (c24 : PySem.W.codeIn K cd24 "_law_sample" = true) (k24 : PySem.W.keepIn K (.ref f24) = true)
    (a25 : PySem.W.nsIn K mainGlobals "_law_by_hand_right" = some (some (.ref f25))) (l25 : K.lookup f25 = some ⟨oc25, od25, .func (PySem.W.fnOf "_law_by_hand_right" "_law_by_hand_right" (defArgs s_l_by_hand_right) (defBody s_l_by_hand_right) (defScope s_l_by_hand_right) .none kV25 dc25 pm25 an25 cd25 ct25), sl25⟩) (c25 : PySem.W.codeIn K cd25 "_law_by_hand_right" = true) (k25 : PySem.W.keepIn K (.ref f25) = true)
    (a26 : PySem.W.nsIn K mainGlobals "_law_cells" = some (some (.ref f26))) (l26 : K.lookup f26 = some ⟨oc26, od26, .func (PySem.W.fnOf "_law_cells" "_law_cells" (defArgs s_l_cells) (defBody s_l_cells) (defScope s_l_cells) .none kV26 dc26 pm26 an26 cd26 ct26), sl26⟩) (c26 : PySem.W.codeIn K cd26 "_law_cells" = true) (k26 : PySem.W.keepIn K (.ref f26) = true)
    (a27 : PySem.W.nsIn K mainGlobals "_law_take" = some (some (.ref f27))) (l27 : K.lookup f27 = some ⟨oc27, od27, .func (PySem.W.fnOf "_law_take" "_law_take" (defArgs s_l_take) (defBody s_l_take) (defScope s_l_take) .none kV27 dc27 pm27 an27 cd27 ct27), sl27⟩) (c27 : PySem.W.codeIn K cd27 "_law_take" = true) (k27 : PySem.W.keepIn K (.ref f27) = true)
    (a28 : PySem.W.nsIn K mainGlobals "_law_of" = some (some (.ref f28))) (l28 : K.lookup f28 = some ⟨oc28, od28, .func (PySem.W.fnOf "_law_of" "_law_of" (defArgs s_l_of) (defBody s_l_of) (defScope s_l_of) .none kV28 dc28 pm28 an28 cd28 ct28), sl28⟩) (c28 : PySem.W.codeIn K cd28 "_law_of" = true) (k28 : PySem.W.keepIn K (.ref f28) = true)
    (a29 : PySem.W.nsIn K mainGlobals "_law_net" = some (some (.ref f29))) (l29 : K.lookup f29 = some ⟨oc29, od29, .func (PySem.W.fnOf "_law_net" "_law_net" (defArgs s_l_net) (defBody s_l_net) (defScope s_l_net) .none kV29 dc29 pm29 an29 cd29 ct29), sl29⟩) (c29 : PySem.W.codeIn K cd29 "_law_net" = true) (k29 : PySem.W.keepIn K (.ref f29) = true)
    (a30 : PySem.W.nsIn K mainGlobals "_law_right" = some (some (.ref f30))) (l30 : K.lookup f30 = some ⟨oc30, od30, .func (PySem.W.fnOf "_law_right" "_law_right" (defArgs s_l_right) (defBody s_l_right) (defScope s_l_right) .none kV30 dc30 pm30 an30 cd30 ct30), sl30⟩) (c30 : PySem.W.codeIn K cd30 "_law_right" = true) (k30 : PySem.W.keepIn K (.ref f30) = true)
    (a31 : PySem.W.nsIn K mainGlobals "law" = some (some (.ref f31))) (l31 : K.lookup f31 = some ⟨oc31, od31, .func (PySem.W.fnOf "law" "law" (defArgs s_law) (defBody s_law) (defScope s_law) .none kV31 dc31 pm31 an31 cd31 ct31), sl31⟩) (c31 : PySem.W.codeIn K cd31 "law" = true) (k31 : PySem.W.keepIn K (.ref f31) = true)
    (ea0 : PySem.W.nsIn K mainGlobals "BadPart" = some (some (.ref eC0))) (ex0 : K.lookup eC0 = some (PySem.excClassObj en0 eq0 eC0 eN0 ebs0 [.ref eB0, .type "ValueError", .type "Exception", .type "BaseException", .type "object"] true esn0 esu0 eab0 eco0 edd0 em00 em10 em20 em30 em50 "ValueError.__new__"))
    (es0 : PySem.W.findIn K (.ref eC0) "__setattr__" = some (some (.builtin "object.__setattr__"))) (ee0 : PySem.W.subIn K (.ref eC0) (.type "BaseException") = some true) (et0 : PySem.W.typeIn K (.ref eC0) = some (.type "type")) (ek0 : PySem.W.keepIn K (.ref eC0) = true)
    (ei0 : PySem.W.findIn K (.ref eC0) "__init__" = some (some (.ref eF0))) (ety0 : PySem.W.typeIn K (.ref eF0) = some (.type "function")) (enf0 : PySem.W.findIn K (.ref eC0) "place" = some none)
    (elk0 : K.lookup eF0 = some ⟨eoc0, eod0, .func (PySem.W.fnOf "__init__" "BadPart.__init__" (defArgs s_BadPart) (defBody s_BadPart) (defScope s_BadPart) .none ekV0 edc0 epm0 ean0 ecd0 ect0), esl0⟩) (eco_0 : PySem.W.codeIn K ecd0 "BadPart.__init__" = true) (eke0 : PySem.W.keepIn K (.ref eF0) = true)
    (z_abs : PySem.W.nsIn K mainGlobals "abs" = some none)
    (z_all : PySem.W.nsIn K mainGlobals "all" = some none)
    (z_any : PySem.W.nsIn K mainGlobals "any" = some none)
    (z_bool : PySem.W.nsIn K mainGlobals "bool" = some none)
    (z_dict : PySem.W.nsIn K mainGlobals "dict" = some none)
    (z_enumerate : PySem.W.nsIn K mainGlobals "enumerate" = some none)
    (z_int : PySem.W.nsIn K mainGlobals "int" = some none)
    (z_isinstance : PySem.W.nsIn K mainGlobals "isinstance" = some none)
    (z_len : PySem.W.nsIn K mainGlobals "len" = some none)
    (z_list : PySem.W.nsIn K mainGlobals "list" = some none)
    (z_range : PySem.W.nsIn K mainGlobals "range" = some none)
    (z_set : PySem.W.nsIn K mainGlobals "set" = some none)
    (z_sorted : PySem.W.nsIn K mainGlobals "sorted" = some none)
    (z_str : PySem.W.nsIn K mainGlobals "str" = some none)
    (z_tuple : PySem.W.nsIn K mainGlobals "tuple" = some none)
    (z_zip : PySem.W.nsIn K mainGlobals "zip" = some none)
    (z_gcd : PySem.W.nsIn K mainGlobals "gcd" = some (some (.builtin "math.gcd")))
    : ∃ fd : FuncData, (∀ (s : Shared) (v : Value), BindsTo s fd ⟨[v], []⟩ [("_law_script", v)]) ∧ ∀ base : Heap, K.In base → base.Ns mainGlobals mg → FnOk l.prog w K mg base (L2.CX l.prog w) 18 fa fd ["_law_script"] (spM K 1 F_law) := by
  have T : TF K mg := ⟨PySem.W.mg_none_of X G z_abs, PySem.W.mg_none_of X G z_all, PySem.W.mg_none_of X G z_any, PySem.W.mg_none_of X G z_bool, PySem.W.mg_none_of X G z_dict, PySem.W.mg_none_of X G z_enumerate, PySem.W.mg_none_of X G z_int, PySem.W.mg_none_of X G z_isinstance, PySem.W.mg_none_of X G z_len, PySem.W.mg_none_of X G z_list, PySem.W.mg_none_of X G z_range, PySem.W.mg_none_of X G z_set, PySem.W.mg_none_of X G z_sorted, PySem.W.mg_none_of X G z_str, PySem.W.mg_none_of X G z_tuple, PySem.W.mg_none_of X G z_zip, PySem.W.mg_of X G z_gcd⟩
  have og_Net := ga_eq oa_Net
  have CL_Net : Cls K (He.ga K "Net") := by rw [og_Net]; exact ⟨op_Net, oh_Net, oo_Net, os_Net⟩
  have NA_Net__parts : NoAttr K (He.ga K "Net") "_parts" := by rw [og_Net]; exact on_Net__parts
  have NA_Net__channels : NoAttr K (He.ga K "Net") "_channels" := by rw [og_Net]; exact on_Net__channels
  have NA_Net__outlets : NoAttr K (He.ga K "Net") "_outlets" := by rw [og_Net]; exact on_Net__outlets
  have R_l_box : RawD K mg "_law_box" s_l_box ["_law_script", "_law_k"] := rawD_mk X G a0 l0 c0 k0 (fun _ _ _ _ _ _ us hl => match us, hl with | [_, _], _ => rfl) (fun _ _ _ _ _ _ us hl => match us, hl with | [_, _], _ => rfl)
  have R_channels_made : RawD K mg "channels_made" s_channels_made ["part"] := rawD_mk X G a1 l1 c1 k1 (fun _ _ _ _ _ _ us hl => match us, hl with | [_], _ => rfl) (fun _ _ _ _ _ _ us hl => match us, hl with | [_], _ => rfl)
  have R_channels_taken : RawD K mg "channels_taken" s_channels_taken ["part"] := rawD_mk X G a2 l2 c2 k2 (fun _ _ _ _ _ _ us hl => match us, hl with | [_], _ => rfl) (fun _ _ _ _ _ _ us hl => match us, hl with | [_], _ => rfl)
  have R_p_fits : RawD K mg "_fits" s_p_fits ["part", "free"] := rawD_mk X G a3 l3 c3 k3 (fun _ _ _ _ _ _ us hl => match us, hl with | [_, _], _ => rfl) (fun _ _ _ _ _ _ us hl => match us, hl with | [_, _], _ => rfl)
  have R_as_tuples : RawD K mg "as_tuples" s_as_tuples ["value"] := rawD_mk X G a4 l4 c4 k4 (fun _ _ _ _ _ _ us hl => match us, hl with | [_], _ => rfl) (fun _ _ _ _ _ _ us hl => match us, hl with | [_], _ => rfl)
  have R_Net___init__ : RawI K mg "Net" "Net.__init__" s_Net___init__ ["self", "parts"] [.tup []] := rawI_tup0 (by rw [og_Net]; exact ⟨mm5, mi5, mf5, mk5⟩) (by rw [og_Net]; exact PySem.W.mg_of X G oa_Net) l5 c5 k5 lT5 l05 rfl (fun _ _ _ _ _ _ _ _ _ _ => ⟨_, rfl, rfl⟩) (fun _ _ _ _ _ _ _ _ _ => ⟨_, rfl, rfl⟩)
  have R_l_frac : RawD K mg "_law_frac" s_l_frac ["_law_top_so", "_law_low_so"] := rawD_mk X G a6 l6 c6 k6 (fun _ _ _ _ _ _ us hl => match us, hl with | [_, _], _ => rfl) (fun _ _ _ _ _ _ us hl => match us, hl with | [_, _], _ => rfl)
  have R_l_add : RawD K mg "_law_add" s_l_add ["_law_one", "_law_two"] := rawD_mk X G a7 l7 c7 k7 (fun _ _ _ _ _ _ us hl => match us, hl with | [_, _], _ => rfl) (fun _ _ _ _ _ _ us hl => match us, hl with | [_, _], _ => rfl)
  have R_l_low : RawD K mg "_law_low" s_l_low ["_law_one", "_law_two"] := rawD_mk X G a8 l8 c8 k8 (fun _ _ _ _ _ _ us hl => match us, hl with | [_, _], _ => rfl) (fun _ _ _ _ _ _ us hl => match us, hl with | [_, _], _ => rfl)
  have R_l_mul : RawD K mg "_law_mul" s_l_mul ["_law_one", "_law_two"] := rawD_mk X G a9 l9 c9 k9 (fun _ _ _ _ _ _ us hl => match us, hl with | [_, _], _ => rfl) (fun _ _ _ _ _ _ us hl => match us, hl with | [_, _], _ => rfl)
  have R_l_same : RawD K mg "_law_same" s_l_same ["_law_got", "_law_due"] := rawD_mk X G a10 l10 c10 k10 (fun _ _ _ _ _ _ us hl => match us, hl with | [_, _], _ => rfl) (fun _ _ _ _ _ _ us hl => match us, hl with | [_, _], _ => rfl)
  have R_Net_outlets : RawM K "outlets" "Net.outlets" "Net" s_Net_outlets := ⟨⟨pp11, f11, _, by rw [og_Net]; exact ⟨pa11, pg11, pt11, _, pv11⟩, fun_mk (st := s_Net_outlets) l11 c11 k11, (fun_mk (st := s_Net_outlets) l11 c11 k11).binds fun _ _ _ _ _ _ us hl => match us, hl with | [_], _ => rfl⟩⟩
  have R_Net_parts : RawM K "parts" "Net.parts" "Net" s_Net_parts := ⟨⟨pp12, f12, _, by rw [og_Net]; exact ⟨pa12, pg12, pt12, _, pv12⟩, fun_mk (st := s_Net_parts) l12 c12 k12, (fun_mk (st := s_Net_parts) l12 c12 k12).binds fun _ _ _ _ _ _ us hl => match us, hl with | [_], _ => rfl⟩⟩
  have R_is_less : RawD K mg "is_less" s_is_less ["one", "other"] := rawD_mk X G a13 l13 c13 k13 (fun _ _ _ _ _ _ us hl => match us, hl with | [_, _], _ => rfl) (fun _ _ _ _ _ _ us hl => match us, hl with | [_, _], _ => rfl)
  have R_lesser : RawD K mg "lesser" s_lesser ["one", "other"] := rawD_mk X G a14 l14 c14 k14 (fun _ _ _ _ _ _ us hl => match us, hl with | [_, _], _ => rfl) (fun _ _ _ _ _ _ us hl => match us, hl with | [_, _], _ => rfl)
  have R_p_lowest : RawD K mg "_lowest" s_p_lowest ["top", "bottom"] := rawD_mk X G a15 l15 c15 k15 (fun _ _ _ _ _ _ us hl => match us, hl with | [_, _], _ => rfl) (fun _ _ _ _ _ _ us hl => match us, hl with | [_, _], _ => rfl)
  have R_minus : RawD K mg "minus" s_minus ["one", "other"] := rawD_mk X G a16 l16 c16 k16 (fun _ _ _ _ _ _ us hl => match us, hl with | [_, _], _ => rfl) (fun _ _ _ _ _ _ us hl => match us, hl with | [_, _], _ => rfl)
  have R_plus : RawD K mg "plus" s_plus ["one", "other"] := rawD_mk X G a17 l17 c17 k17 (fun _ _ _ _ _ _ us hl => match us, hl with | [_, _], _ => rfl) (fun _ _ _ _ _ _ us hl => match us, hl with | [_, _], _ => rfl)
  have R_times : RawD K mg "times" s_times ["one", "other"] := rawD_mk X G a18 l18 c18 k18 (fun _ _ _ _ _ _ us hl => match us, hl with | [_, _], _ => rfl) (fun _ _ _ _ _ _ us hl => match us, hl with | [_, _], _ => rfl)
  have R_p_amounts : RawD K mg "_amounts" s_p_amounts ["net", "inflow"] := rawD_mk X G a19 l19 c19 k19 (fun _ _ _ _ _ _ us hl => match us, hl with | [_, _], _ => rfl) (fun _ _ _ _ _ _ us hl => match us, hl with | [_, _], _ => rfl)
  have R_flow : RawD K mg "flow" s_flow ["net", "inflow"] := rawD_mk X G a20 l20 c20 k20 (fun _ _ _ _ _ _ us hl => match us, hl with | [_, _], _ => rfl) (fun _ _ _ _ _ _ us hl => match us, hl with | [_, _], _ => rfl)
  have R_walked : RawD K mg "walked" s_walked ["net", "inflow"] := rawD_mk X G a21 l21 c21 k21 (fun _ _ _ _ _ _ us hl => match us, hl with | [_, _], _ => rfl) (fun _ _ _ _ _ _ us hl => match us, hl with | [_, _], _ => rfl)
  have R_walked_x : RawD K mg "walked" s_walked_x ["net", "inflow"] := rawD_mk X G a22 l22 c22 k22 (fun _ _ _ _ _ _ us hl => match us, hl with | [_, _], _ => rfl) (fun _ _ _ _ _ _ us hl => match us, hl with | [_, _], _ => rfl)
  have R_l_net_right : RawD K mg "_law_net_right" s_l_net_right ["_law_parts_so", "_law_near", "_law_far"] := rawD_mk X G a23 l23 c23 k23 (fun _ _ _ _ _ _ us hl => match us, hl with | [_, _, _], _ => rfl) (fun _ _ _ _ _ _ us hl => match us, hl with | [_, _, _], _ => rfl)
  have R_l_sample : RawD K mg "_law_sample" s_l_sample [] := rawD_mk X G a24 l24 c24 k24 (fun _ _ _ _ _ _ us hl => match us, hl with | [], _ => rfl) (fun _ _ _ _ _ _ us hl => match us, hl with | [], _ => rfl)
  have R_l_by_hand_right : RawD K mg "_law_by_hand_right" s_l_by_hand_right [] := rawD_mk X G a25 l25 c25 k25 (fun _ _ _ _ _ _ us hl => match us, hl with | [], _ => rfl) (fun _ _ _ _ _ _ us hl => match us, hl with | [], _ => rfl)
  have R_l_cells : RawD K mg "_law_cells" s_l_cells ["_law_script", "_law_top_so"] := rawD_mk X G a26 l26 c26 k26 (fun _ _ _ _ _ _ us hl => match us, hl with | [_, _], _ => rfl) (fun _ _ _ _ _ _ us hl => match us, hl with | [_, _], _ => rfl)
  have R_l_take : RawD K mg "_law_take" s_l_take ["_law_box_here", "_law_size_so"] := rawD_mk X G a27 l27 c27 k27 (fun _ _ _ _ _ _ us hl => match us, hl with | [_, _], _ => rfl) (fun _ _ _ _ _ _ us hl => match us, hl with | [_, _], _ => rfl)
  have R_l_of : RawD K mg "_law_of" s_l_of ["_law_box_here", "_law_goods_so"] := rawD_mk X G a28 l28 c28 k28 (fun _ _ _ _ _ _ us hl => match us, hl with | [_, _], _ => rfl) (fun _ _ _ _ _ _ us hl => match us, hl with | [_, _], _ => rfl)
  have R_l_net : RawD K mg "_law_net" s_l_net ["_law_box_here", "_law_many_so", "_law_sizes_so"] := rawD_mk X G a29 l29 c29 k29 (fun _ _ _ _ _ _ us hl => match us, hl with | [_, _, _], _ => rfl) (fun _ _ _ _ _ _ us hl => match us, hl with | [_, _, _], _ => rfl)
  have R_l_right : RawD K mg "_law_right" s_l_right ["_law_box_here"] := rawD_mk X G a30 l30 c30 k30 (fun _ _ _ _ _ _ us hl => match us, hl with | [_], _ => rfl) (fun _ _ _ _ _ _ us hl => match us, hl with | [_], _ => rfl)
  have F_lw := fun_mk (st := s_law) l31 c31 k31
  have eg0 := ga_eq ea0
  have em0 := ma_eq ei0
  have B_BadPart : ∀ base : Heap, ErrO l.prog w K mg base "BadPart" "place" ∧ ErrK l.prog w K mg base "BadPart" "place" := fun base => by
    have TT : OexC K (He.ga K "BadPart") := by
      rw [eg0]
      exact ⟨⟨_, _, _, _, _, _, _, _, _, _, _, _, _, _, _, ex0, by rfl⟩, es0, ee0, et0, ek0⟩
    have FF : Fun K "__init__" "BadPart.__init__" s_BadPart (He.ma K (He.ga K "BadPart") "__init__") (PySem.W.fnOf "__init__" "BadPart.__init__" (defArgs s_BadPart) (defBody s_BadPart) (defScope s_BadPart) .none ekV0 edc0 epm0 ean0 ecd0 ect0) := by
      rw [eg0, em0]
      exact fun_mk (st := s_BadPart) elk0 eco_0 eke0
    have EC : ∀ fd, ErrC K "BadPart" "place" fd := fun _ => ⟨TT, by rw [eg0, em0]; exact ei0, by rw [eg0, em0]; exact ety0, by rw [eg0]; exact enf0⟩
    have gm : mg "BadPart" = some (.ref (He.ga K "BadPart")) := by
      rw [eg0]
      exact PySem.W.mg_of X G ea0
    have FI := fun base => ok_BadPart (P := l.prog) (w := w) (mg := mg) (base := base) FF TT (by rw [eg0]; exact enf0)
    exact ⟨⟨⟨_, EC _, FI base, FF.binds (ps := ["self", "place"]) fun _ _ _ _ _ _ us hl => match us, hl with | [_, _], _ => rfl⟩, gm⟩, ⟨_, EC _, FI base, fun s u v => .of_eq rfl, fun s u v => .of_eq rfl⟩, gm⟩
  have e := hfa.symm.trans (PySem.W.mg_of X G a31)
  cases e
  refine ⟨PySem.W.fnOf "law" "law" (defArgs s_law) (defBody s_law) (defScope s_law) .none kV31 dc31 pm31 an31 cd31 ct31, fun s v => .of_eq rfl, fun base _ _ => ?_⟩
  have el : He.ga K "law" = fa := ga_eq a31
  have O := ok_all (P := l.prog) (w := w) (base := base) T R_l_box R_channels_made R_channels_taken R_p_fits R_as_tuples R_Net___init__ R_l_frac R_l_add R_l_low R_l_mul R_l_same R_Net_outlets R_Net_parts R_is_less R_lesser R_p_lowest R_minus R_plus R_times R_p_amounts R_flow R_walked R_walked_x R_l_net_right R_l_sample R_l_by_hand_right R_l_cells R_l_take R_l_of R_l_net R_l_right (el.symm ▸ F_lw) (B_BadPart base).1 CL_Net NA_Net__parts NA_Net__channels NA_Net__outlets
  rw [el] at O
  exact O
end GG

open PySem
open PySem.W PyProof.Rows
set_option maxHeartbeats 0 in
theorem PySem.Challenge.cw_layernets_k53_nothing_is_lost_holds : PySem.Challenge.rw_layernets_k53_nothing_is_lost.Holds := by
  w_on
  o_law
  k_head
  (case hw => w_witness2)
  k_fill
  refine L2.walk_of (l := PySem.Challenge.rw_layernets_k53_nothing_is_lost) (n := 63) (k := 18) (x := "_law_script") (CX := fun w => L2.CX PySem.Challenge.rw_layernets_k53_nothing_is_lost.prog w) (sp := fun w => Mi.spM _ 1 GG.F_law) rfl (by decide) rfl ⟨rfl, by decide, by decide⟩ (fun w h Y => PySem.W.kIn_of Y) ?F (fun w H a ns hl hO hS => Mi.law_sp hS (GG.law_val ns hl)) (fun _ _ _ _ _ h => Mi.cx_none h)
  case F =>
    intro w mg fa h KX G hmg
    refine' GG.all_mk KX G hmg ?oa_Net ?op_Net ?oh_Net ?oo_Net ?os_Net ?on_Net__parts ?on_Net__channels ?on_Net__outlets ?a0 ?l0 ?c0 ?k0 ?a1 ?l1 ?c1 ?k1 ?a2 ?l2 ?c2 ?k2 ?a3 ?l3 ?c3 ?k3 ?a4 ?l4 ?c4 ?k4 ?mm5 ?mi5 ?mf5 ?mk5 ?l5 ?c5 ?k5 ?lT5 ?l05 ?a6 ?l6 ?c6 ?k6 ?a7 ?l7 ?c7 ?k7 ?a8 ?l8 ?c8 ?k8 ?a9 ?l9 ?c9 ?k9 ?a10 ?l10 ?c10 ?k10 ?pa11 ?pg11 ?pt11 ?pv11 ?l11 ?c11 ?k11 ?pa12 ?pg12 ?pt12 ?pv12 ?l12 ?c12 ?k12 ?a13 ?l13 ?c13 ?k13 ?a14 ?l14 ?c14 ?k14 ?a15 ?l15 ?c15 ?k15 ?a16 ?l16 ?c16 ?k16 ?a17 ?l17 ?c17 ?k17 ?a18 ?l18 ?c18 ?k18 ?a19 ?l19 ?c19 ?k19 ?a20 ?l20 ?c20 ?k20 ?a21 ?l21 ?c21 ?k21 ?a22 ?l22 ?c22 ?k22 ?a23 ?l23 ?c23 ?k23 ?a24 ?l24 ?c24 ?k24 ?a25 ?l25 ?c25 ?k25 ?a26 ?l26 ?c26 ?k26 ?a27 ?l27 ?c27 ?k27 ?a28 ?l28 ?c28 ?k28 ?a29 ?l29 ?c29 ?k29 ?a30 ?l30 ?c30 ?k30 ?a31 ?l31 ?c31 ?k31 ?ea0 ?ex0 ?es0 ?ee0 ?et0 ?ek0 ?ei0 ?ety0 ?enf0 ?elk0 ?eco_0 ?eke0 ?z_abs ?z_all ?z_any ?z_bool ?z_dict ?z_enumerate ?z_int ?z_isinstance ?z_len ?z_list ?z_range ?z_set ?z_sorted ?z_str ?z_tuple ?z_zip ?z_gcd
    (case oa_Net => k_is); (case op_Net => k_is); (case oh_Net => k_is); (case oo_Net => k_is); (case os_Net => k_is); (case on_Net__parts => k_is); (case on_Net__channels => k_is); (case on_Net__outlets => k_is); (case a0 => k_is); (case l0 => k_is); (case c0 => k_is); (case k0 => k_is); (case a1 => k_is); (case l1 => k_is); (case c1 => k_is); (case k1 => k_is); (case a2 => k_is); (case l2 => k_is); (case c2 => k_is); (case k2 => k_is); (case a3 => k_is); (case l3 => k_is); (case c3 => k_is); (case k3 => k_is); (case a4 => k_is); (case l4 => k_is); (case c4 => k_is); (case k4 => k_is); (case mm5 => k_is); (case mi5 => k_is); (case mf5 => k_is); (case mk5 => k_is); (case l5 => k_is); (case c5 => k_is); (case k5 => k_is); (case lT5 => k_is); (case l05 => k_is); (case a6 => k_is); (case l6 => k_is); (case c6 => k_is); (case k6 => k_is); (case a7 => k_is); (case l7 => k_is); (case c7 => k_is); (case k7 => k_is); (case a8 => k_is); (case l8 => k_is); (case c8 => k_is); (case k8 => k_is); (case a9 => k_is); (case l9 => k_is); (case c9 => k_is); (case k9 => k_is); (case a10 => k_is); (case l10 => k_is); (case c10 => k_is); (case k10 => k_is); (case pa11 => k_is); (case pg11 => k_is); (case pt11 => k_is); (case pv11 => k_is); (case l11 => k_is); (case c11 => k_is); (case k11 => k_is); (case pa12 => k_is); (case pg12 => k_is); (case pt12 => k_is); (case pv12 => k_is); (case l12 => k_is); (case c12 => k_is); (case k12 => k_is); (case a13 => k_is); (case l13 => k_is); (case c13 => k_is); (case k13 => k_is); (case a14 => k_is); (case l14 => k_is); (case c14 => k_is); (case k14 => k_is); (case a15 => k_is); (case l15 => k_is); (case c15 => k_is); (case k15 => k_is); (case a16 => k_is); (case l16 => k_is); (case c16 => k_is); (case k16 => k_is); (case a17 => k_is); (case l17 => k_is); (case c17 => k_is); (case k17 => k_is); (case a18 => k_is); (case l18 => k_is); (case c18 => k_is); (case k18 => k_is); (case a19 => k_is); (case l19 => k_is); (case c19 => k_is); (case k19 => k_is); (case a20 => k_is); (case l20 => k_is); (case c20 => k_is); (case k20 => k_is); (case a21 => k_is); (case l21 => k_is); (case c21 => k_is); (case k21 => k_is); (case a22 => k_is); (case l22 => k_is); (case c22 => k_is); (case k22 => k_is); (case a23 => k_is); (case l23 => k_is); (case c23 => k_is); (case k23 => k_is); (case a24 => k_is); (case l24 => k_is); (case c24 => k_is); (case k24 => k_is); (case a25 => k_is); (case l25 => k_is); (case c25 => k_is); (case k25 => k_is); (case a26 => k_is); (case l26 => k_is); (case c26 => k_is); (case k26 => k_is); (case a27 => k_is); (case l27 => k_is); (case c27 => k_is); (case k27 => k_is); (case a28 => k_is); (case l28 => k_is); (case c28 => k_is); (case k28 => k_is); (case a29 => k_is); (case l29 => k_is); (case c29 => k_is); (case k29 => k_is); (case a30 => k_is); (case l30 => k_is); (case c30 => k_is); (case k30 => k_is); (case a31 => k_is); (case l31 => k_is); (case c31 => k_is); (case k31 => k_is); (case ea0 => k_is); (case ex0 => k_is); (case es0 => k_is); (case ee0 => k_is); (case et0 => k_is); (case ek0 => k_is); (case ei0 => k_is); (case ety0 => k_is); (case enf0 => k_is); (case elk0 => k_is); (case eco_0 => k_is); (case eke0 => k_is); (case z_abs => k_is); (case z_all => k_is); (case z_any => k_is); (case z_bool => k_is); (case z_dict => k_is); (case z_enumerate => k_is); (case z_int => k_is); (case z_isinstance => k_is); (case z_len => k_is); (case z_list => k_is); (case z_range => k_is); (case z_set => k_is); (case z_sorted => k_is); (case z_str => k_is); (case z_tuple => k_is); (case z_zip => k_is); (case z_gcd => k_is)

