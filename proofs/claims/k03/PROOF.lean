import PyProof.Rows.All
import Wide.All
import OpenK.AllK
import Wide.FinOn
import HandS.ForMost
import HandS.ForExc
import HandS.Property
import HandS.FStr
import HandS.Defaults
import HandS.MakeKw
import HandS.Conv
import HandS.IsInst
import HandS.OwnEq
import HandS.Flow
import HandS.Strs
import HandS.SetKeys
import HandS.Wide
import HandS.Walk
import HandS.Zip
import HandS.Evl
import HandS.Rev
import KE.GoesMore
import HandS.Style
import HandS.TupAny
import HandS.Set
import HandS.SetFor
import HandS.MakeKwOnly
import HandS.ExcIs
import HandS.ExcValue
import HandS.StrMore
import HandS.Text
import HandS.RevRange
import HandS.DictComp
import KE.GoesEnum
import HandS.WideBits
import PySem.Challenge.RW_deepcuts_k03_forests_as_texts
import HandS.ReplaceLit
import HandS.ReplaceList
import KE.KDictZip
import KE.GoesZip
import KE.DatumOrd
import HandS.SortKw
import PyProof.MaxThree
import HandS.ListEq
import HandS.Exc
import HandS.Replace
import HandS.EndBits
set_option linter.all false
set_option Elab.async false
set_option maxRecDepth 100000
namespace Dv
open PySem PySem.Spec PyProof.Rows L2

/-- data: what a value is, wherever its parts lie -/
inductive D where
  | non | bl (b : Bool) | int (i : Int) | str (s : Str) | ty (n : String)
  | tup (ds : List D) | lst (ds : List D) | ins (c : Nat) (fs : List (Str × D)) | cls (c : Nat)
  /-- a list that may stand in the written part, or be held fast -/
  | seq (ds : List D)
  /-- an exception of an own class without fields, caught -/
  | exc (c : Nat)
  /-- a dict whose keys are texts, held fast -/
  | dic (kvs : List (Str × D))
  /-- a tuple whose object is known to have no dict -/
  | ptup (ds : List D)

/-- the written part, and where the classes stand -/
structure Gc where
  K : PySem.W.Frag
  cl : Nat → Addr

/-- such an exception, at a -/
def ExK (C a : Addr) : HO := .ext fun h => ∃ (oe : Obj) (vs : Array Value), h.get? a = some oe ∧ Zc (.ref C) none oe ∧ oe.data = .fields vs
/-- a dict's content: its keys are texts -/
def dks (gs : List (Str × V)) : List (Key × V) := gs.map fun p => (.inr p.1, p.2)
mutual
def rep (G : Gc) (F : Hp) : D → V → Prop
  | .non, v => v = .non
  | .bl b, v => v = .bl b
  | .int i, v => v = .int i
  | .str s, v => v = .str s
  | .ty n, v => v = .ty n
  | .cls c, v => v = .ref (G.cl c)
  | .tup ds, v => ∃ a vs, v = .ref a ∧ SqT G.K F a vs ∧ reps G F ds vs
  | .lst ds, v => ∃ a vs, v = .ref a ∧ F a = some (.lst vs) ∧ reps G F ds vs
  | .ins c fs, v => ∃ a dx gs, v = .ref a ∧ F a = some (.ins (G.cl c) dx gs) ∧ repf G F fs gs
  | .seq ds, v => ∃ a vs, v = .ref a ∧ SqL G.K F a vs ∧ reps G F ds vs
  | .exc c, v => ∃ a, v = .ref a ∧ F a = some (ExK (G.cl c) a)
  | .dic fs, v => ∃ a o gs, v = .ref a ∧ F a = some (.frz o (.dK (dks gs))) ∧ repf G F fs gs
  | .ptup ds, v => ∃ a o vs, v = .ref a ∧ F a = some (.frz o (.tup vs)) ∧ o.dict = none ∧ reps G F ds vs
def reps (G : Gc) (F : Hp) : List D → List V → Prop
  | [], vs => vs = []
  | d :: r, vs => ∃ v t, vs = v :: t ∧ rep G F d v ∧ reps G F r t
def repf (G : Gc) (F : Hp) : List (Str × D) → List (Str × V) → Prop
  | [], vs => vs = []
  | (x, d) :: r, vs => ∃ v t, vs = (x, v) :: t ∧ rep G F d v ∧ repf G F r t
end

open Evl (Ex ex_l ex_t)
section
variable {G : Gc} {F F' : Hp}
mutual
theorem rep_mono (e : Ex F F') : ∀ (d : D) (v : V), rep G F d v → rep G F' d v
  | .non, v, h => h
  | .bl b, v, h => h
  | .int i, v, h => h
  | .str s, v, h => h
  | .ty n, v, h => h
  | .cls c, v, h => h
  | .tup ds, v, h => by
    unfold rep at h ⊢
    obtain ⟨a, vs, h1, h2, h3⟩ := h
    exact ⟨a, vs, h1, ex_t e h2, reps_mono e ds vs h3⟩
  | .lst ds, v, h => by
    unfold rep at h ⊢
    obtain ⟨a, vs, h1, h2, h3⟩ := h
    exact ⟨a, vs, h1, e _ _ h2, reps_mono e ds vs h3⟩
  | .ins c fs, v, h => by
    unfold rep at h ⊢
    obtain ⟨a, dx, gs, h1, h2, h3⟩ := h
    exact ⟨a, dx, gs, h1, e _ _ h2, repf_mono e fs gs h3⟩
  | .seq ds, v, h => by
    unfold rep at h ⊢
    obtain ⟨a, vs, h1, h2, h3⟩ := h
    exact ⟨a, vs, h1, ex_l e h2, reps_mono e ds vs h3⟩
  | .exc c, v, h => by
    unfold rep at h ⊢
    obtain ⟨a, h1, h2⟩ := h
    exact ⟨a, h1, e _ _ h2⟩
  | .dic fs, v, h => by
    unfold rep at h ⊢
    obtain ⟨a, o, gs, h1, h2, h3⟩ := h
    exact ⟨a, o, gs, h1, e _ _ h2, repf_mono e fs gs h3⟩
  | .ptup ds, v, h => by
    unfold rep at h ⊢
    obtain ⟨a, o, vs, h1, h2, h3, h4⟩ := h
    exact ⟨a, o, vs, h1, e _ _ h2, h3, reps_mono e ds vs h4⟩
theorem reps_mono (e : Ex F F') : ∀ (ds : List D) (vs : List V), reps G F ds vs → reps G F' ds vs
  | [], vs, h => h
  | d :: r, vs, h => by
    unfold reps at h ⊢
    obtain ⟨v, t, h1, h2, h3⟩ := h
    exact ⟨v, t, h1, rep_mono e d v h2, reps_mono e r t h3⟩
theorem repf_mono (e : Ex F F') : ∀ (ds : List (Str × D)) (vs : List (Str × V)), repf G F ds vs → repf G F' ds vs
  | [], vs, h => h
  | (x, d) :: r, vs, h => by
    unfold repf at h ⊢
    obtain ⟨v, t, h1, h2, h3⟩ := h
    exact ⟨v, t, h1, rep_mono e d v h2, repf_mono e r t h3⟩
end

theorem reps_nil : reps G F [] [] := by unfold reps; rfl
theorem reps_cons {d : D} {v : V} {ds : List D} {vs : List V} (h : rep G F d v) (r : reps G F ds vs) : reps G F (d :: ds) (v :: vs) := by
  unfold reps; exact ⟨v, vs, rfl, h, r⟩
theorem reps_nil_inv {vs : List V} (h : reps G F [] vs) : vs = [] := by unfold reps at h; exact h
theorem reps_cons_inv {d : D} {ds : List D} {vs : List V} (h : reps G F (d :: ds) vs) : ∃ v t, vs = v :: t ∧ rep G F d v ∧ reps G F ds t := by unfold reps at h; exact h
theorem reps_len : ∀ {ds : List D} {vs : List V}, reps G F ds vs → vs.length = ds.length
  | [], vs, h => by rw [reps_nil_inv h] <;> rfl
  | d :: r, vs, h => by
    obtain ⟨v, t, rfl, _, h3⟩ := reps_cons_inv h
    rw [List.length_cons, List.length_cons, reps_len h3]
theorem reps_get : ∀ {ds : List D} {vs : List V} {i : Nat} {d : D}, reps G F ds vs → ds[i]? = some d → ∃ v, vs[i]? = some v ∧ rep G F d v
  | [], _, _, _, _, e => by simp at e
  | d :: r, vs, 0, d', h, e => by
    obtain ⟨v, t, rfl, h2, _⟩ := reps_cons_inv h
    simp at e; subst e
    exact ⟨v, rfl, h2⟩
  | d :: r, vs, i + 1, d', h, e => by
    obtain ⟨v, t, rfl, _, h3⟩ := reps_cons_inv h
    obtain ⟨u, h1, h2⟩ := reps_get (i := i) h3 (by simpa using e)
    exact ⟨u, by simpa using h1, h2⟩
theorem reps_get' : ∀ {ds : List D} {vs : List V} {i : Nat} {v : V}, reps G F ds vs → vs[i]? = some v → ∃ d, ds[i]? = some d ∧ rep G F d v
  | [], vs, _, _, h, e => by rw [reps_nil_inv h] at e; simp at e
  | d :: r, vs, 0, v', h, e => by
    obtain ⟨v, t, rfl, h2, _⟩ := reps_cons_inv h
    simp at e; subst e
    exact ⟨d, rfl, h2⟩
  | d :: r, vs, i + 1, v', h, e => by
    obtain ⟨v, t, rfl, _, h3⟩ := reps_cons_inv h
    obtain ⟨u, h1, h2⟩ := reps_get' (i := i) h3 (by simpa using e)
    exact ⟨u, by simpa using h1, h2⟩
theorem reps_app : ∀ {ds es : List D} {vs us : List V}, reps G F ds vs → reps G F es us → reps G F (ds ++ es) (vs ++ us)
  | [], es, vs, us, h, h' => by rw [reps_nil_inv h]; exact h'
  | d :: r, es, vs, us, h, h' => by
    obtain ⟨v, t, rfl, h2, h3⟩ := reps_cons_inv h
    exact reps_cons h2 (reps_app h3 h')
theorem reps_take : ∀ {ds : List D} {vs : List V} (n : Nat), reps G F ds vs → reps G F (ds.take n) (vs.take n)
  | _, _, 0, _ => by simp; exact reps_nil
  | [], vs, n + 1, h => by rw [reps_nil_inv h]; exact reps_nil
  | d :: r, vs, n + 1, h => by
    obtain ⟨v, t, rfl, h2, h3⟩ := reps_cons_inv h
    exact reps_cons h2 (reps_take n h3)
theorem reps_drop : ∀ {ds : List D} {vs : List V} (n : Nat), reps G F ds vs → reps G F (ds.drop n) (vs.drop n)
  | _, _, 0, h => h
  | [], vs, n + 1, h => by rw [reps_nil_inv h]; exact reps_nil
  | d :: r, vs, n + 1, h => by
    obtain ⟨v, t, rfl, h2, h3⟩ := reps_cons_inv h
    exact reps_drop n h3
theorem reps_rev {ds : List D} {vs : List V} (h : reps G F ds vs) : reps G F ds.reverse vs.reverse := by
  induction ds generalizing vs with
  | nil => rw [reps_nil_inv h]; exact reps_nil
  | cons d r ih =>
    obtain ⟨v, t, rfl, h2, h3⟩ := reps_cons_inv h
    rw [List.reverse_cons, List.reverse_cons]
    exact reps_app (ih h3) (reps_cons h2 reps_nil)
theorem reps_set : ∀ {ds : List D} {vs : List V} {d : D} {v : V} (i : Nat), reps G F ds vs → rep G F d v → reps G F (ds.set i d) (vs.set i v)
  | [], vs, _, _, _, h, _ => by rw [reps_nil_inv h]; exact reps_nil
  | d :: r, vs, _, _, 0, h, h' => by
    obtain ⟨v, t, rfl, h2, h3⟩ := reps_cons_inv h
    exact reps_cons h' h3
  | d :: r, vs, _, _, i + 1, h, h' => by
    obtain ⟨v, t, rfl, h2, h3⟩ := reps_cons_inv h
    exact reps_cons h2 (reps_set i h3 h')
theorem repf_len : ∀ {ds : List (Str × D)} {vs : List (Str × V)}, repf G F ds vs → vs.length = ds.length
  | [], vs, h => by unfold repf at h; rw [h] <;> rfl
  | (x, d) :: r, vs, h => by
    unfold repf at h
    obtain ⟨v, t, rfl, _, h3⟩ := h
    rw [List.length_cons, List.length_cons, repf_len h3]
theorem repf_look : ∀ {ds : List (Str × D)} {vs : List (Str × V)} {x : Str} {d : D}, repf G F ds vs → ds.lookup x = some d → ∃ v, vs.lookup x = some v ∧ rep G F d v
  | [], _, _, _, _, e => by simp at e
  | (y, c) :: r, vs, x, d, h, e => by
    unfold repf at h
    obtain ⟨v, t, rfl, h2, h3⟩ := h
    rw [List.lookup_cons] at e
    by_cases q : (x == y) = true
    · rw [q] at e
      cases e
      exact ⟨v, by rw [List.lookup_cons, q], h2⟩
    · have q' : (x == y) = false := by simpa using q
      rw [q'] at e
      obtain ⟨u, h4, h5⟩ := repf_look h3 e
      exact ⟨u, by rw [List.lookup_cons, q']; exact h4, h5⟩
theorem repf_none : ∀ {ds : List (Str × D)} {vs : List (Str × V)} {x : Str}, repf G F ds vs → ds.lookup x = none → vs.lookup x = none
  | [], vs, _, h, _ => by unfold repf at h; rw [h] <;> rfl
  | (y, c) :: r, vs, x, h, e => by
    unfold repf at h
    obtain ⟨v, t, rfl, h2, h3⟩ := h
    rw [List.lookup_cons] at e ⊢
    by_cases q : (x == y) = true
    · rw [q] at e; cases e
    · have q' : (x == y) = false := by simpa using q
      rw [q'] at e ⊢
      exact repf_none h3 e
end

/-! ### slots -/
/-- what an own thing holds: a list, an object -/
inductive Cn where
  | lst (ds : List D) | ob (c : Nat) (fs : List (Str × D))
def Cn.d : Cn → D
  | .lst ds => .lst ds
  | .ob c fs => .ins c fs
def holds (G : Gc) (F H : Hp) (a : Addr) : Cn → Prop
  | .lst ds => ∃ vs, H a = some (.lst vs) ∧ reps G F ds vs
  | .ob c fs => ∃ dx gs, H a = some (.ins (G.cl c) dx gs) ∧ repf G F fs gs
theorem holds_some {G : Gc} {F H : Hp} {a : Addr} : ∀ {c : Cn}, holds G F H a c → ∃ o, H a = some o
  | .lst ds, h => let ⟨_, h, _⟩ := h; ⟨_, h⟩
  | .ob c fs, h => let ⟨_, _, h, _⟩ := h; ⟨_, h⟩
theorem holds_step {G : Gc} {F H F' H' : Hp} {a : Addr} (e : Ex F F') (k : ∀ o, H a = some o → H' a = some o) : ∀ {c : Cn}, holds G F H a c → holds G F' H' a c
  | .lst ds, h => let ⟨vs, h, r⟩ := h; ⟨vs, k _ h, reps_mono e _ _ r⟩
  | .ob c fs, h => let ⟨dx, gs, h, r⟩ := h; ⟨dx, gs, k _ h, repf_mono e _ _ r⟩
theorem holds_rep {G : Gc} {F H F' : Hp} {a : Addr} (e : Ex F F') (k : ∀ o, H a = some o → F' a = some o) : ∀ {c : Cn}, holds G F H a c → rep G F' c.d (.ref a)
  | .lst ds, h => by
    obtain ⟨vs, h, r⟩ := h
    show Dv.rep G F' (.lst ds) (.ref a)
    unfold Dv.rep
    exact ⟨a, vs, rfl, k _ h, reps_mono e _ _ r⟩
  | .ob c fs, h => by
    obtain ⟨dx, gs, h, r⟩ := h
    show Dv.rep G F' (.ins c fs) (.ref a)
    unfold Dv.rep
    exact ⟨a, dx, gs, rfl, k _ h, repf_mono e _ _ r⟩
inductive Sl where
  | un | val (d : D) | own (c : Cn) | bor (a : Addr) (c : Cn)
/-- an own or lent thing at a -/
def Sl.at (s : Sl) (a : Addr) : Prop := ∃ c, s = .own c ∨ s = .bor a c
abbrev En := List (Str × Sl)

inductive Lk : En → Str → Sl → Prop
  | hd {x : Str} {s : Sl} {Γ : En} : Lk ((x, s) :: Γ) x s
  | tl {p : Str × Sl} {x : Str} {s : Sl} {Γ : En} : Lk Γ x s → Lk (p :: Γ) x s
theorem Lk.ix {Γ : En} {x : Str} {s : Sl} (h : Lk Γ x s) : ∃ i : Nat, Γ[i]? = some (x, s) := by
  induction h with
  | hd => exact ⟨0, rfl⟩
  | tl _ ih => obtain ⟨i, e⟩ := ih; exact ⟨i + 1, by simpa using e⟩
/-- the slot of x holds s now, s0 before -/
inductive Put : En → Str → Sl → Sl → En → Prop
  | hd {x : Str} {s0 s : Sl} {Γ : En} : Put ((x, s0) :: Γ) x s0 s ((x, s) :: Γ)
  | tl {p : Str × Sl} {x : Str} {s0 s : Sl} {Γ Γ' : En} : Put Γ x s0 s Γ' → Put (p :: Γ) x s0 s (p :: Γ')
theorem Put.ix {Γ Γ' : En} {x : Str} {s0 s : Sl} (h : Put Γ x s0 s Γ') : ∃ i : Nat, Γ[i]? = some (x, s0) ∧ Γ' = Γ.set i (x, s) := by
  induction h with
  | hd => exact ⟨0, rfl, rfl⟩
  | tl _ ih => obtain ⟨i, e, e2⟩ := ih; exact ⟨i + 1, by simpa using e, by rw [e2]; rfl⟩

/-- what a run may do to the heap: O may change, F is frozen, new frozen things are new -/
structure Step (O : Addr → Prop) (F H F' H' : Hp) : Prop where
  ex : Ex F F'
  sub : Ex F' H'
  keep : ∀ a o, ¬ O a → H a = some o → H' a = some o
  new : ∀ a o, F' a = some o → F a = some o ∨ H a = none ∨ O a
  dom : ∀ a, H a ≠ none → H' a ≠ none
abbrev No : Addr → Prop := fun _ => False
theorem Step.refl {O : Addr → Prop} {F H : Hp} (e : Ex F H) : Step O F H F H := ⟨Ex.refl F, e, fun _ _ _ h => h, fun _ _ h => .inl h, fun _ h => h⟩
theorem Step.mono {O O' : Addr → Prop} {F H F' H' : Hp} (s : Step O F H F' H') (h : ∀ a, O a → O' a) : Step O' F H F' H' :=
  ⟨s.ex, s.sub, fun a o n => s.keep a o fun q => n (h a q), fun a o e => (s.new a o e).imp_right fun z => z.imp_right (h a), s.dom⟩
theorem Step.back {O : Addr → Prop} {F H F1 H1 : Hp} (a : Step O F H F1 H1) {x : Addr} (q : H1 x = none) : H x = none := by
  cases z : H x with
  | none => rfl
  | some u => exact absurd q (a.dom x (by rw [z]; simp))
theorem Step.trans {O O1 : Addr → Prop} {F H F1 H1 F2 H2 : Hp} (a : Step O F H F1 H1) (b : Step O1 F1 H1 F2 H2) (h : ∀ x, O1 x → O x ∨ H x = none) : Step O F H F2 H2 where
  ex := a.ex.trans b.ex
  sub := b.sub
  keep := fun x o n e => b.keep x o (fun q => (h x q).elim n fun z => by rw [e] at z; cases z) (a.keep x o n e)
  new := fun x o e => by
    rcases b.new x o e with q | q | q
    · exact a.new x o q
    · exact .inr (.inl (a.back q))
    · rcases h x q with z | z
      · exact .inr (.inr z)
      · exact .inr (.inl z)
  dom := fun x e => b.dom x (a.dom x e)

/-- the address of an own or lent thing -/
def Ow (σ : L2.St) (Γ : En) (a : Addr) : Prop := ∃ (i : Nat) (x : Str) (s : Sl), σ[i]? = some (some (.ref a)) ∧ Γ[i]? = some (x, s) ∧ s.at a

structure Envs (G : Gc) (N : List Str) (F H : Hp) (σ : L2.St) (Γ : En) : Prop where
  al : N = Γ.map (·.1)
  len : σ.length = Γ.length
  ex : Ex F H
  val : ∀ (i : Nat) (x : Str) (d : D), Γ[i]? = some (x, .val d) → ∃ v, σ[i]? = some (some v) ∧ rep G F d v
  own : ∀ (i : Nat) (x : Str) (c : Cn), Γ[i]? = some (x, .own c) → ∃ a, σ[i]? = some (some (.ref a)) ∧ F a = none ∧ holds G F H a c
  bor : ∀ (i : Nat) (x : Str) (a : Addr) (c : Cn), Γ[i]? = some (x, .bor a c) → σ[i]? = some (some (.ref a)) ∧ F a = none ∧ holds G F H a c
  dis : ∀ (i j : Nat) (x y : Str) (s t : Sl) (a : Addr), Γ[i]? = some (x, s) → Γ[j]? = some (y, t) → σ[i]? = some (some (.ref a)) → σ[j]? = some (some (.ref a)) → s.at a → t.at a → i = j

section
variable {G : Gc} {N : List Str} {F H F' H' : Hp} {σ : L2.St} {Γ Γ' : En}
theorem Envs.name {X : Cx} (E : Envs G X.N F H σ Γ) {i : Nat} {x : Str} {s : Sl} (h : Γ[i]? = some (x, s)) : X.N[i]? = some x := by
  rw [E.al, List.getElem?_map, h] <;> rfl
theorem Envs.owF (E : Envs G N F H σ Γ) {a : Addr} (h : Ow σ Γ a) : F a = none ∧ ∃ o, H a = some o := by
  obtain ⟨i, x, s, e, h, c, q | q⟩ := h
  · subst q
    obtain ⟨b, e1, e3, e2⟩ := E.own i x c h
    rw [e] at e1; cases e1
    exact ⟨e3, holds_some e2⟩
  · subst q
    obtain ⟨e1, e3, e2⟩ := E.bor i x a c h
    exact ⟨e3, holds_some e2⟩
theorem Envs.fresh (E : Envs G N F H σ Γ) {p : Addr} (hp : H p = none) : ¬ Ow σ Γ p := fun o => by
  obtain ⟨_, u, e⟩ := E.owF o
  rw [hp] at e
  cases e
/-- a move of heaps that leaves the own ones as they are -/
theorem Envs.move (E : Envs G N F H σ Γ) (e : Ex F F') (sub : Ex F' H') (keep : ∀ a o, Ow σ Γ a → H a = some o → H' a = some o) (nf : ∀ a, Ow σ Γ a → F' a = none) : Envs G N F' H' σ Γ where
  al := E.al
  len := E.len
  ex := sub
  val := fun i x d h => by
    obtain ⟨v, e1, r⟩ := E.val i x d h
    exact ⟨v, e1, rep_mono e _ _ r⟩
  own := fun i x c h => by
    obtain ⟨a, e1, e3, r⟩ := E.own i x c h
    have o : Ow σ Γ a := ⟨i, x, _, e1, h, c, .inl rfl⟩
    exact ⟨a, e1, nf a o, holds_step e (fun u => keep a u o) r⟩
  bor := fun i x a c h => by
    obtain ⟨e1, e3, r⟩ := E.bor i x a c h
    have o : Ow σ Γ a := ⟨i, x, _, e1, h, c, .inr rfl⟩
    exact ⟨e1, nf a o, holds_step e (fun u => keep a u o) r⟩
  dis := E.dis
theorem Envs.step (E : Envs G N F H σ Γ) (s : Step No F H F' H') : Envs G N F' H' σ Γ := E.move s.ex s.sub (fun a o _ => s.keep a o fun z => z) fun a o => by
  obtain ⟨e3, u, e2⟩ := E.owF o
  cases q : F' a with
  | none => rfl
  | some o =>
    rcases s.new a o q with z | z | z
    · rw [e3] at z; cases z
    · rw [e2] at z; cases z
    · exact z.elim
theorem set_at {i j : Nat} {x y : Str} {s t : Sl} (hi : i < Γ.length) (e : (Γ.set i (x, s))[j]? = some (y, t)) : (j = i ∧ y = x ∧ t = s) ∨ (j ≠ i ∧ Γ[j]? = some (y, t)) := by
  by_cases hj : j = i
  · subst hj
    rw [List.getElem?_set_self hi] at e
    cases e
    exact .inl ⟨rfl, rfl, rfl⟩
  · rw [List.getElem?_set_ne (Ne.symm hj)] at e
    exact .inr ⟨hj, e⟩
theorem set_al {i : Nat} {x : Str} {s0 s : Sl} (h : Γ[i]? = some (x, s0)) : (Γ.set i (x, s)).map (·.1) = Γ.map (·.1) := by
  have hi : i < Γ.length := (List.getElem?_eq_some_iff.mp h).1
  refine List.ext_getElem? fun j => ?_
  rw [List.getElem?_map, List.getElem?_map]
  by_cases hj : j = i
  · subst hj; rw [List.getElem?_set_self hi, h] <;> rfl
  · rw [List.getElem?_set_ne (Ne.symm hj)]
/-- a slot is set anew: to a value, or to a new thing of one's own -/
theorem Envs.put (E : Envs G N F H σ Γ) {i : Nat} {x : Str} {s0 s : Sl} {v : V} (h : Γ[i]? = some (x, s0))
    (hs : (∃ d, s = .val d ∧ rep G F d v) ∨ (∃ p c, s = .own c ∧ v = .ref p ∧ F p = none ∧ holds G F H p c ∧ ¬ Ow σ Γ p)) : Envs G N F H (σ.set i (some v)) (Γ.set i (x, s)) := by
  have hi : i < Γ.length := (List.getElem?_eq_some_iff.mp h).1
  have hz : i < σ.length := by rw [E.len]; exact hi
  refine ⟨by rw [set_al h]; exact E.al, by rw [List.length_set, List.length_set]; exact E.len, E.ex, fun j y c e => ?_, fun j y c e => ?_, fun j y b c e => ?_, fun j k y z s1 t1 b e1 e2 e3 e4 h1 h2 => ?_⟩
  · rcases set_at hi e with ⟨q0, _, q⟩ | ⟨hj, e⟩
    · subst q0
      rcases hs with ⟨d, hs, r⟩ | ⟨p, c', hs, _⟩
      · rw [hs] at q; cases q
        exact ⟨v, List.getElem?_set_self hz, r⟩
      · rw [hs] at q; cases q
    · obtain ⟨u, g1, r1⟩ := E.val j y c e
      exact ⟨u, by rw [List.getElem?_set_ne (Ne.symm hj)]; exact g1, r1⟩
  · rcases set_at hi e with ⟨q0, _, q⟩ | ⟨hj, e⟩
    · subst q0
      rcases hs with ⟨d, hs, r⟩ | ⟨p, c', hs, hv, hf, r, _⟩
      · rw [hs] at q; cases q
      · rw [hs] at q; cases q
        exact ⟨p, by rw [hv]; exact List.getElem?_set_self hz, hf, r⟩
    · obtain ⟨a, g1, r1⟩ := E.own j y c e
      exact ⟨a, by rw [List.getElem?_set_ne (Ne.symm hj)]; exact g1, r1⟩
  · rcases set_at hi e with ⟨q0, _, q⟩ | ⟨hj, e⟩
    · rcases hs with ⟨d, hs, r⟩ | ⟨p, c', hs, hv, hf, r, _⟩ <;> (rw [hs] at q; cases q)
    · obtain ⟨g1, r1⟩ := E.bor j y b c e
      exact ⟨by rw [List.getElem?_set_ne (Ne.symm hj)]; exact g1, r1⟩
  · have one : ∀ (j k : Nat) (y z : Str) (s1 t1 : Sl), (Γ.set i (x, s))[j]? = some (y, s1) → (Γ.set i (x, s))[k]? = some (z, t1) → (σ.set i (some v))[j]? = some (some (.ref b)) → (σ.set i (some v))[k]? = some (some (.ref b)) → s1.at b → t1.at b → j = i → k = i := fun j k y z s1 t1 e1 e2 e3 e4 h1 h2 hj => by
      subst hj
      rcases set_at hi e1 with ⟨_, _, q⟩ | ⟨hj, _⟩
      · rcases set_at hi e2 with ⟨hk, _, _⟩ | ⟨hk, f2⟩
        · exact hk
        · subst q
          rcases hs with ⟨d, hs, r⟩ | ⟨p, c', hs, hv, hf, r, hn⟩
          · obtain ⟨c, h1 | h1⟩ := h1 <;> (rw [hs] at h1; cases h1)
          · rw [List.getElem?_set_self hz, hv] at e3
            cases e3
            rw [List.getElem?_set_ne (Ne.symm hk)] at e4
            exact absurd ⟨k, z, t1, e4, f2, h2⟩ hn
      · exact absurd rfl hj
    by_cases hj : j = i
    · rw [hj, one j k y z s1 t1 e1 e2 e3 e4 h1 h2 hj]
    · by_cases hk : k = i
      · exact absurd (one k j z y t1 s1 e2 e1 e4 e3 h2 h1 hk) hj
      · rcases set_at hi e1 with ⟨q, _, _⟩ | ⟨_, f1⟩
        · exact absurd q hj
        · rcases set_at hi e2 with ⟨q, _, _⟩ | ⟨_, f2⟩
          · exact absurd q hk
          · rw [List.getElem?_set_ne (Ne.symm hj)] at e3
            rw [List.getElem?_set_ne (Ne.symm hk)] at e4
            exact E.dis j k y z s1 t1 b f1 f2 e3 e4 h1 h2
theorem Ow.put {i : Nat} {x : Str} {s0 s : Sl} {v : V} {a : Addr} (h : Γ[i]? = some (x, s0)) (hz : σ.length = Γ.length) (o : Ow (σ.set i (some v)) (Γ.set i (x, s)) a) : Ow σ Γ a ∨ (v = .ref a ∧ s.at a) := by
  have hi : i < Γ.length := (List.getElem?_eq_some_iff.mp h).1
  obtain ⟨j, y, t, e, q, c⟩ := o
  rcases set_at hi q with ⟨hj, _, ht⟩ | ⟨hj, q⟩
  · subst hj
    rw [List.getElem?_set_self (by rw [hz]; exact hi)] at e
    cases e
    exact .inr ⟨rfl, ht ▸ c⟩
  · rw [List.getElem?_set_ne (Ne.symm hj)] at e
    exact .inl ⟨j, y, t, e, q, c⟩
theorem set_self {α : Type} {l : List α} {i : Nat} {x : α} (h : l[i]? = some x) : l.set i x = l := by
  refine List.ext_getElem? fun j => ?_
  by_cases hj : j = i
  · subst hj
    rw [List.getElem?_set_self (List.getElem?_eq_some_iff.mp h).1, h]
  · rw [List.getElem?_set_ne (Ne.symm hj)]
/-- an own or lent thing holds something else now (o at its address) -/
theorem Envs.write (E : Envs G N F H σ Γ) {i : Nat} {x : Str} {s s' : Sl} {c c' : Cn} {p : Addr} {o : HO} (h : Γ[i]? = some (x, s)) (hp : σ[i]? = some (some (.ref p))) (hs : (s = .own c ∧ s' = .own c') ∨ (s = .bor p c ∧ s' = .bor p c')) (r : holds G F (upd H p o) p c') :
    Envs G N F (upd H p o) σ (Γ.set i (x, s')) ∧ Step (Ow σ Γ) F H F (upd H p o) ∧ ∀ a, Ow σ (Γ.set i (x, s')) a → Ow σ Γ a := by
  have hi : i < Γ.length := (List.getElem?_eq_some_iff.mp h).1
  have hiv : s.at p := ⟨c, hs.imp (fun z => z.1) fun z => z.1⟩
  have ho : Ow σ Γ p := ⟨i, x, s, hp, h, hiv⟩
  obtain ⟨hf, u0, hv0⟩ := E.owF ho
  have hex : Ex F (upd H p o) := fun a u e => by
    by_cases ha : a = p
    · subst ha; rw [hf] at e; cases e
    · rw [upd_ne ha]; exact E.ex a u e
  have oth : ∀ (j : Nat) (y : Str) (t : Sl) (a : Addr), j ≠ i → Γ[j]? = some (y, t) → σ[j]? = some (some (.ref a)) → t.at a → a ≠ p := fun j y t a hj e q z za => hj (E.dis j i y x t s p e h (za ▸ q) hp (za ▸ z) hiv)
  refine ⟨⟨by rw [set_al h]; exact E.al, by rw [List.length_set]; exact E.len, hex, fun j y d e => ?_, fun j y d e => ?_, fun j y b d e => ?_, fun j k y z t u b e1 e2 e3 e4 h1 h2 => ?_⟩, ⟨Ex.refl F, hex, fun a u n e => ?_, fun a u e => .inl e, fun a e => ?_⟩, fun a q => ?_⟩
  · rcases set_at hi e with ⟨_, _, q⟩ | ⟨hj, e⟩
    · rcases hs with ⟨_, z⟩ | ⟨_, z⟩ <;> (rw [z] at q; cases q)
    · exact E.val j y d e
  · rcases set_at hi e with ⟨hj, _, q⟩ | ⟨hj, e⟩
    · subst hj
      rcases hs with ⟨_, z⟩ | ⟨_, z⟩
      · rw [z] at q; cases q
        exact ⟨p, hp, hf, r⟩
      · rw [z] at q; cases q
    · obtain ⟨a, e1, e3, r1⟩ := E.own j y d e
      have ha := oth j y _ a hj e e1 ⟨d, .inl rfl⟩
      exact ⟨a, e1, e3, holds_step (Ex.refl F) (fun u z => by rw [upd_ne ha]; exact z) r1⟩
  · rcases set_at hi e with ⟨hj, _, q⟩ | ⟨hj, e⟩
    · subst hj
      rcases hs with ⟨_, z⟩ | ⟨_, z⟩
      · rw [z] at q; cases q
      · rw [z] at q; cases q
        exact ⟨hp, hf, r⟩
    · obtain ⟨e1, e3, r1⟩ := E.bor j y b d e
      have ha := oth j y _ b hj e e1 ⟨d, .inr rfl⟩
      exact ⟨e1, e3, holds_step (Ex.refl F) (fun u z => by rw [upd_ne ha]; exact z) r1⟩
  · have fit : ∀ (j : Nat) (y : Str) (t : Sl), (Γ.set i (x, s'))[j]? = some (y, t) → σ[j]? = some (some (.ref b)) → t.at b → ∃ t0, Γ[j]? = some (y, t0) ∧ t0.at b := fun j y t e q z => by
      rcases set_at hi e with ⟨hj, hy, ht⟩ | ⟨hj, e⟩
      · subst hj; subst hy
        rw [hp] at q
        cases q
        exact ⟨s, h, hiv⟩
      · exact ⟨t, e, z⟩
    obtain ⟨t0, f1, g1⟩ := fit j y t e1 e3 h1
    obtain ⟨u0, f2, g2⟩ := fit k z u e2 e4 h2
    exact E.dis j k y z t0 u0 b f1 f2 e3 e4 g1 g2
  · have ha : a ≠ p := fun z => n (z ▸ ho)
    rw [upd_ne ha]; exact e
  · by_cases ha : a = p
    · subst ha; rw [upd_same]; simp
    · rw [upd_ne ha]; exact e
  · obtain ⟨j, y, t, e, q, z⟩ := q
    rcases set_at hi q with ⟨hj, _, _⟩ | ⟨hj, q⟩
    · subst hj
      rw [hp] at e
      cases e
      exact ho
    · exact ⟨j, y, t, e, q, z⟩
/-- an own thing becomes a value -/
theorem Envs.freeze (E : Envs G N F H σ Γ) {i : Nat} {x : Str} {c : Cn} (h : Γ[i]? = some (x, .own c)) :
    ∃ p F', σ[i]? = some (some (.ref p)) ∧ Step (Ow σ Γ) F H F' H ∧ Envs G N F' H σ (Γ.set i (x, .val c.d)) ∧ rep G F' c.d (.ref p) ∧ ∀ a, Ow σ (Γ.set i (x, .val c.d)) a → Ow σ Γ a := by
  obtain ⟨p, e1, e3, r⟩ := E.own i x c h
  obtain ⟨o, ho⟩ := holds_some r
  have hp : Ow σ Γ p := ⟨i, x, _, e1, h, c, .inl rfl⟩
  have hi : i < Γ.length := (List.getElem?_eq_some_iff.mp h).1
  have hx : Ex F (upd F p o) := Ex.new e3
  have sub : Ex (upd F p o) H := fun a u z => by
    by_cases ha : a = p
    · subst ha; rw [upd_same] at z; cases z; exact ho
    · rw [upd_ne ha] at z; exact E.ex a u z
  have hr : rep G (upd F p o) c.d (.ref p) := holds_rep hx (fun u z => by
    rw [ho] at z; cases z; exact upd_same) r
  have back : ∀ a, Ow σ (Γ.set i (x, .val c.d)) a → Ow σ Γ a ∧ a ≠ p := fun a q => by
    obtain ⟨j, y, t, e, q, z⟩ := q
    rcases set_at hi q with ⟨hj, _, ht⟩ | ⟨hj, q⟩
    · subst ht
      obtain ⟨c, z | z⟩ := z <;> cases z
    · exact ⟨⟨j, y, t, e, q, z⟩, fun za => hj (E.dis j i y x t _ p q h (za ▸ e) e1 (za ▸ z) ⟨c, .inl rfl⟩)⟩
  refine ⟨p, upd F p o, e1, ⟨hx, sub, fun _ _ _ z => z, fun a u z => ?_, fun _ z => z⟩, ?_, hr, fun a q => (back a q).1⟩
  · by_cases ha : a = p
    · subst ha; exact .inr (.inr hp)
    · rw [upd_ne ha] at z; exact .inl z
  · refine ⟨by rw [set_al h]; exact E.al, by rw [List.length_set]; exact E.len, sub, fun j y d e => ?_, fun j y d e => ?_, fun j y b d e => ?_, fun j k y z s t b f1 f2 f3 f4 h1 h2 => ?_⟩
    · rcases set_at hi e with ⟨hj, _, q⟩ | ⟨hj, e⟩
      · subst hj
        cases q
        exact ⟨_, e1, hr⟩
      · obtain ⟨u, g1, r1⟩ := E.val j y d e
        exact ⟨u, g1, rep_mono hx _ _ r1⟩
    · rcases set_at hi e with ⟨hj, _, q⟩ | ⟨hj, f⟩
      · cases q
      · obtain ⟨a, g1, g3, r1⟩ := E.own j y d f
        have ha := (back a ⟨j, y, _, g1, e, d, .inl rfl⟩).2
        exact ⟨a, g1, by rw [upd_ne ha]; exact g3, holds_step hx (fun u z => z) r1⟩
    · rcases set_at hi e with ⟨hj, _, q⟩ | ⟨hj, f⟩
      · cases q
      · obtain ⟨g1, g3, r1⟩ := E.bor j y b d f
        have ha := (back b ⟨j, y, _, g1, e, d, .inr rfl⟩).2
        exact ⟨g1, by rw [upd_ne ha]; exact g3, holds_step hx (fun u z => z) r1⟩
    · rcases set_at hi f1 with ⟨_, _, q⟩ | ⟨hj, g1⟩
      · subst q
        obtain ⟨c, h1 | h1⟩ := h1 <;> cases h1
      · rcases set_at hi f2 with ⟨_, _, q⟩ | ⟨hk, g2⟩
        · subst q
          obtain ⟨c, h2 | h2⟩ := h2 <;> cases h2
        · exact E.dis j k y z s t b g1 g2 f3 f4 h1 h2
/-- a thing that no slot owns becomes a value -/
theorem Envs.frz (E : Envs G N F H σ Γ) {p : Addr} {o : HO} (hp : H p = some o) (hf : F p = none) (hn : ¬ Ow σ Γ p) : Envs G N (upd F p o) H σ Γ := by
  have hx : Ex F (upd F p o) := Ex.new hf
  refine E.move hx (fun a u z => ?_) (fun _ _ _ z => z) fun a q => ?_
  · by_cases ha : a = p
    · subst ha; rw [upd_same] at z; cases z; exact hp
    · rw [upd_ne ha] at z; exact E.ex a u z
  · have ha : a ≠ p := fun z => hn (z ▸ q)
    rw [upd_ne ha]
    exact (E.owF q).1
end
end Dv

set_option Elab.async false
set_option maxRecDepth 100000
namespace Dv
open PySem PySem.Spec PyProof.Rows L2
open Evl (Ex ex_l ex_t)

/-! ### readings by meaning -/
def SE (X : Cx) (e : Expr) : TE := fun σ H Q => ∀ (pins : List (Addr × Obj)) (s : Shared), Inv X pins σ H s → wpAny (model X.prog X.w) X.A (eval e X.env) (EP X pins σ Q) X.xe s
def ST (X : Cx) (e : Expr) : TT := fun σ H Q => ∀ (pins : List (Addr × Obj)) (s : Shared), Inv X pins σ H s → wpAny (model X.prog X.w) X.A (isTrue e X.env (eval e X.env)) (TP X pins σ Q) X.xe s
def SW (X : Cx) (e : Expr) : TT := fun σ H Q => ∀ (whole : Sem Value) (pins : List (Addr × Obj)) (s : Shared), Inv X pins σ H s → wpAny (model X.prog X.w) X.A (isTrue e X.env whole) (TP X pins σ Q) X.xe s
def SA (X : Cx) (es : List Expr) : TA := fun σ H Q => ∀ (pos : Pos) (pins : List (Addr × Obj)) (s : Shared), Inv X pins σ H s → wpAny (model X.prog X.w) X.A (spliced (backTo pos (starEach es X.env))) (AP X pins σ Q) X.xe s
def SS (X : Cx) (st : Stmt) : TS := fun D σ H => ∀ (pins : List (Addr × Obj)) (s : Shared), Inv X pins σ H s → wpAny (model X.prog X.w) X.A (exec st X.env) (SP X pins D) X.xe s
def SSs (X : Cx) (st : List Stmt) : TS := fun D σ H => ∀ (pins : List (Addr × Obj)) (s : Shared), Inv X pins σ H s → wpAny (model X.prog X.w) X.A (execs st X.env) (SP X pins D) X.xe s
def SOp (X : Cx) (f : Value → Value → Sem Value) : R2 := fun x y H Q => ∀ (pins : List (Addr × Obj)) (s : Shared) (σ : L2.St) (v u : Value), Inv X pins σ H s → RelV x v → RelV y u → wpAny (model X.prog X.w) X.A (f v u) (EP X pins σ Q) X.xe s
section
variable {X : Cx} {e : Expr} {es : List Expr} {stm : Stmt} {sts : List Stmt}
theorem pe_S : PE X e (SE X e) := ⟨fun pins s _ _ _ I h => h pins s I⟩
theorem pt_S : PT X e (ST X e) := ⟨fun pins s _ _ _ I h => h pins s I⟩
theorem pw_S : PW X e (SW X e) := ⟨fun wh pins s _ _ _ I h => h wh pins s I⟩
theorem pa_S : PA X es (SA X es) := ⟨fun pos pins s _ _ _ I h => h pos pins s I⟩
theorem ps_S : PS X stm (SS X stm) := ⟨fun pins s _ _ _ I h => h pins s I⟩
theorem pss_S : PSs X sts (SSs X sts) := ⟨fun pins s _ _ _ I h => h pins s I⟩
theorem op_S {f : Value → Value → Sem Value} : OpR X f (SOp X f) := fun pins s σ _ _ _ v u _ I rx ry h => h pins s σ v u I rx ry
theorem PE.se {t : TE} {σ : L2.St} {H : Hp} {Q : VK} (h : PE X e t) (q : t σ H Q) : SE X e σ H Q := fun pins s I => h.run pins s σ H Q I q
theorem PT.st {t : TT} {σ : L2.St} {H : Hp} {Q : Bool → Hp → Prop} (h : PT X e t) (q : t σ H Q) : ST X e σ H Q := fun pins s I => h.run pins s σ H Q I q
theorem PW.sw {t : TT} {σ : L2.St} {H : Hp} {Q : Bool → Hp → Prop} (h : PW X e t) (q : t σ H Q) : SW X e σ H Q := fun wh pins s I => h.run wh pins s σ H Q I q
theorem PA.sa {t : TA} {σ : L2.St} {H : Hp} {Q : List V → Hp → Prop} (h : PA X es t) (q : t σ H Q) : SA X es σ H Q := fun pos pins s I => h.run pos pins s σ H Q I q
theorem PS.ss {t : TS} {σ : L2.St} {H : Hp} {D : Ends} (h : PS X stm t) (q : t D σ H) : SS X stm D σ H := fun pins s I => h.run pins s σ H D I q
theorem PSs.ss {t : TS} {σ : L2.St} {H : Hp} {D : Ends} (h : PSs X sts t) (q : t D σ H) : SSs X sts D σ H := fun pins s I => h.run pins s σ H D I q
theorem OpR.so {f : Value → Value → Sem Value} {r : R2} {x y : V} {H : Hp} {Q : VK} (h : OpR X f r) (q : r x y H Q) : SOp X f x y H Q := fun pins s σ v u I rx ry => h pins s σ H x y v u Q I rx ry q
end

/-! ### the judgements over data -/
/-- e, from Γ, gives a d and leaves Γ', of which K says what it says -/
structure WE (X : Cx) (G : Gc) (Γ : En) (e : Expr) (K : D → En → Prop) : Prop where
  of ::
  run :  ∀ (σ : L2.St) (F H : Hp) (Q : VK), Envs G X.N F H σ Γ → (∀ (d : D) (Γ' : En) (v : V) (F' H' : Hp), Step (Ow σ Γ) F H F' H' → Envs G X.N F' H' σ Γ' → (∀ a, Ow σ Γ' a → Ow σ Γ a) → rep G F' d v → K d Γ' → Q v H') → SE X e σ H Q
instance (X : Cx) (G : Gc) (Γ : En) (e : Expr) (K : D → En → Prop) : CoeFun (WE X G Γ e K) (fun _ =>  ∀ (σ : L2.St) (F H : Hp) (Q : VK), Envs G X.N F H σ Γ → (∀ (d : D) (Γ' : En) (v : V) (F' H' : Hp), Step (Ow σ Γ) F H F' H' → Envs G X.N F' H' σ Γ' → (∀ a, Ow σ Γ' a → Ow σ Γ a) → rep G F' d v → K d Γ' → Q v H') → SE X e σ H Q) := ⟨fun h => h.run⟩
structure WT (X : Cx) (G : Gc) (Γ : En) (e : Expr) (K : Bool → En → Prop) : Prop where
  of ::
  run :  ∀ (σ : L2.St) (F H : Hp) (Q : Bool → Hp → Prop), Envs G X.N F H σ Γ → (∀ (b : Bool) (Γ' : En) (F' H' : Hp), Step (Ow σ Γ) F H F' H' → Envs G X.N F' H' σ Γ' → (∀ a, Ow σ Γ' a → Ow σ Γ a) → K b Γ' → Q b H') → ST X e σ H Q
instance (X : Cx) (G : Gc) (Γ : En) (e : Expr) (K : Bool → En → Prop) : CoeFun (WT X G Γ e K) (fun _ =>  ∀ (σ : L2.St) (F H : Hp) (Q : Bool → Hp → Prop), Envs G X.N F H σ Γ → (∀ (b : Bool) (Γ' : En) (F' H' : Hp), Step (Ow σ Γ) F H F' H' → Envs G X.N F' H' σ Γ' → (∀ a, Ow σ Γ' a → Ow σ Γ a) → K b Γ' → Q b H') → ST X e σ H Q) := ⟨fun h => h.run⟩
structure WW (X : Cx) (G : Gc) (Γ : En) (e : Expr) (K : Bool → En → Prop) : Prop where
  of ::
  run :  ∀ (σ : L2.St) (F H : Hp) (Q : Bool → Hp → Prop), Envs G X.N F H σ Γ → (∀ (b : Bool) (Γ' : En) (F' H' : Hp), Step (Ow σ Γ) F H F' H' → Envs G X.N F' H' σ Γ' → (∀ a, Ow σ Γ' a → Ow σ Γ a) → K b Γ' → Q b H') → SW X e σ H Q
instance (X : Cx) (G : Gc) (Γ : En) (e : Expr) (K : Bool → En → Prop) : CoeFun (WW X G Γ e K) (fun _ =>  ∀ (σ : L2.St) (F H : Hp) (Q : Bool → Hp → Prop), Envs G X.N F H σ Γ → (∀ (b : Bool) (Γ' : En) (F' H' : Hp), Step (Ow σ Γ) F H F' H' → Envs G X.N F' H' σ Γ' → (∀ a, Ow σ Γ' a → Ow σ Γ a) → K b Γ' → Q b H') → SW X e σ H Q) := ⟨fun h => h.run⟩
structure WA (X : Cx) (G : Gc) (Γ : En) (es : List Expr) (K : List D → En → Prop) : Prop where
  of ::
  run :  ∀ (σ : L2.St) (F H : Hp) (Q : List V → Hp → Prop), Envs G X.N F H σ Γ → (∀ (ds : List D) (Γ' : En) (vs : List V) (F' H' : Hp), Step (Ow σ Γ) F H F' H' → Envs G X.N F' H' σ Γ' → (∀ a, Ow σ Γ' a → Ow σ Γ a) → reps G F' ds vs → K ds Γ' → Q vs H') → SA X es σ H Q
instance (X : Cx) (G : Gc) (Γ : En) (es : List Expr) (K : List D → En → Prop) : CoeFun (WA X G Γ es K) (fun _ =>  ∀ (σ : L2.St) (F H : Hp) (Q : List V → Hp → Prop), Envs G X.N F H σ Γ → (∀ (ds : List D) (Γ' : En) (vs : List V) (F' H' : Hp), Step (Ow σ Γ) F H F' H' → Envs G X.N F' H' σ Γ' → (∀ a, Ow σ Γ' a → Ow σ Γ a) → reps G F' ds vs → K ds Γ' → Q vs H') → SA X es σ H Q) := ⟨fun h => h.run⟩
/-- a new list that nobody else holds -/
structure WL (X : Cx) (G : Gc) (Γ : En) (e : Expr) (K : List D → En → Prop) : Prop where
  of ::
  run :  ∀ (σ : L2.St) (F H : Hp) (Q : VK), Envs G X.N F H σ Γ → (∀ (ds : List D) (Γ' : En) (p : Addr) (vs : List V) (F' H' : Hp), Step (Ow σ Γ) F H F' H' → Envs G X.N F' H' σ Γ' → (∀ a, Ow σ Γ' a → Ow σ Γ a) → H p = none → F' p = none → H' p = some (.lst vs) → reps G F' ds vs → K ds Γ' → Q (.ref p) H') → SE X e σ H Q
instance (X : Cx) (G : Gc) (Γ : En) (e : Expr) (K : List D → En → Prop) : CoeFun (WL X G Γ e K) (fun _ =>  ∀ (σ : L2.St) (F H : Hp) (Q : VK), Envs G X.N F H σ Γ → (∀ (ds : List D) (Γ' : En) (p : Addr) (vs : List V) (F' H' : Hp), Step (Ow σ Γ) F H F' H' → Envs G X.N F' H' σ Γ' → (∀ a, Ow σ Γ' a → Ow σ Γ a) → H p = none → F' p = none → H' p = some (.lst vs) → reps G F' ds vs → K ds Γ' → Q (.ref p) H') → SE X e σ H Q) := ⟨fun h => h.run⟩
/-- an operation on data -/
structure BO (X : Cx) (G : Gc) (f : Value → Value → Sem Value) (x y : D) (K : D → Prop) : Prop where
  of ::
  run :  ∀ (F H : Hp) (u v : V) (Q : VK), Ex F H → rep G F x u → rep G F y v → (∀ (z : D) (w : V) (F' H' : Hp), Step No F H F' H' → rep G F' z w → K z → Q w H') → SOp X f u v H Q
instance (X : Cx) (G : Gc) (f : Value → Value → Sem Value) (x y : D) (K : D → Prop) : CoeFun (BO X G f x y K) (fun _ =>  ∀ (F H : Hp) (u v : V) (Q : VK), Ex F H → rep G F x u → rep G F y v → (∀ (z : D) (w : V) (F' H' : Hp), Step No F H F' H' → rep G F' z w → K z → Q w H') → SOp X f u v H Q) := ⟨fun h => h.run⟩

section
variable {X : Cx} {G : Gc} {Γ Γ' : En} {e a b c : Expr} {es : List Expr} {pos : Pos} {K : D → En → Prop}
theorem no_any {O : Addr → Prop} {F H F' H' : Hp} (s : Step No F H F' H') : Step O F H F' H' := s.mono fun _ z => z.elim
theorem stp {σ : L2.St} {Γ1 : En} {F H F1 H1 F2 H2 : Hp} (s : Step (Ow σ Γ) F H F1 H1) (o : ∀ a, Ow σ Γ1 a → Ow σ Γ a) (t : Step (Ow σ Γ1) F1 H1 F2 H2) : Step (Ow σ Γ) F H F2 H2 := s.trans t fun x h => .inl (o x h)
theorem stpN {σ : L2.St} {F H F1 H1 F2 H2 : Hp} (s : Step (Ow σ Γ) F H F1 H1) (t : Step No F1 H1 F2 H2) : Step (Ow σ Γ) F H F2 H2 := s.trans t fun x h => h.elim

theorem we_mono {K' : D → En → Prop} (h : WE X G Γ e K) (k : ∀ d Γ', K d Γ' → K' d Γ') : WE X G Γ e K' := .of fun σ F H Q E q => h σ F H Q E fun d Γ' v F' H' s E' o r z => q d Γ' v F' H' s E' o r (k d Γ' z)
theorem we_int {i : Int} {j} (k : K (.int i) Γ) : WE X G Γ (.Constant (.int i) j pos) K := .of fun σ F H Q E q => PE.se pe_int (q (.int i) Γ _ F H (.refl E.ex) E (fun _ h => h) (by unfold rep; rfl) k)
theorem we_bl {i : Bool} {j} (k : K (.bl i) Γ) : WE X G Γ (.Constant (.bool i) j pos) K := .of fun σ F H Q E q => PE.se pe_bl (q (.bl i) Γ _ F H (.refl E.ex) E (fun _ h => h) (by unfold rep; rfl) k)
theorem we_non {j} (k : K .non Γ) : WE X G Γ (.Constant .none j pos) K := .of fun σ F H Q E q => PE.se pe_non (q .non Γ _ F H (.refl E.ex) E (fun _ h => h) (by unfold rep; rfl) k)
theorem we_str {i : Str} {j} (k : K (.str i) Γ) : WE X G Γ (.Constant (.str i) j pos) K := .of fun σ F H Q E q => PE.se pe_str (q (.str i) Γ _ F H (.refl E.ex) E (fun _ h => h) (by unfold rep; rfl) k)
theorem we_name {x : Str} {d : D} (h : Lk Γ x (.val d)) (k : K d Γ) (hv : Vis X.env.scope x := by first | exact Or.inl rfl | exact Or.inr (Or.inl rfl) | exact Or.inr (Or.inr rfl)) (hd : (x == ("__debug__" : Str)) = false := by decide)
    (hcd : (x == ("__classdict__" : Str)) = false := by decide) : WE X G Γ (.Name x pos) K := .of fun σ F H Q E q => by
  obtain ⟨i, e⟩ := h.ix
  obtain ⟨v, e2, r⟩ := E.val i x d e
  exact PE.se (pe_var (E.name e) hv hd hcd) ⟨v, e2, q d Γ v F H (.refl E.ex) E (fun _ h => h) r k⟩
/-- an own list read as a value: from now on it stays as it is -/
theorem we_freeze {x : Str} {n : Cn} (h : Put Γ x (.own n) (.val n.d) Γ') (k : K n.d Γ') (hv : Vis X.env.scope x := by first | exact Or.inl rfl | exact Or.inr (Or.inl rfl) | exact Or.inr (Or.inr rfl)) (hd : (x == ("__debug__" : Str)) = false := by decide)
    (hcd : (x == ("__classdict__" : Str)) = false := by decide) : WE X G Γ (.Name x pos) K := .of fun σ F H Q E q => by
  obtain ⟨i, e, e'⟩ := h.ix
  subst e'
  obtain ⟨p, F', e1, s, E', r, o⟩ := E.freeze e
  exact PE.se (pe_var (E.name e) hv hd hcd) ⟨.ref p, e1, q n.d _ _ F' H s E' o r k⟩
/-- a new list as a value -/
theorem we_new (h : WL X G Γ e fun ds Γ' => K (.lst ds) Γ') : WE X G Γ e K := .of fun σ F H Q E q => by
  refine h σ F H Q E fun ds Γ' p vs F' H' s E' o hp hf hp' r k => ?_
  have hx : Ex F' (upd F' p (.lst vs)) := Ex.new hf
  have hn : ¬ Ow σ Γ' p := fun z => E.fresh hp (o p z)
  have E2 := E'.frz hp' hf hn
  refine q (.lst ds) Γ' (.ref p) (upd F' p (.lst vs)) H' ⟨s.ex.trans hx, E2.ex, s.keep, fun a u z => ?_, s.dom⟩ E2 o ?_ k
  · by_cases ha : a = p
    · subst ha; exact .inr (.inl hp)
    · rw [upd_ne ha] at z; exact s.new a u z
  · unfold rep
    exact ⟨p, vs, rfl, upd_same, reps_mono hx _ _ r⟩

/-! ### operations -/
theorem we_op2 {f : Value → Value → Sem Value} (hpe : PE X e (tOp (SOp X f) (SE X a) (SE X b))) (h : WE X G Γ a fun x Γ1 => WE X G Γ1 b fun y Γ2 => BO X G f x y fun z => K z Γ2) : WE X G Γ e K := .of fun σ F H Q E q => by
  refine PE.se hpe ?_
  refine h σ F H _ E fun x Γ1 u F1 H1 s1 E1 o1 r1 k1 => ?_
  refine k1 σ F1 H1 _ E1 fun y Γ2 v F2 H2 s2 E2 o2 r2 k2 => ?_
  refine k2 F2 H2 u v Q E2.ex (rep_mono s2.ex _ _ r1) r2 fun z w F3 H3 s3 r3 k3 => ?_
  exact q z Γ2 w F3 H3 (stpN (stp s1 o1 s2) s3) (E2.step s3) (fun a h => o1 a (o2 a h)) r3 k3
theorem we_bin {op : Operator} (h : WE X G Γ a fun x Γ1 => WE X G Γ1 b fun y Γ2 => BO X G (binaryOp op) x y fun z => K z Γ2) : WE X G Γ (.BinOp a op b pos) K := we_op2 (pe_op op_S pe_S pe_S) h
theorem we_cmp {op : CmpOp} (h : WE X G Γ a fun x Γ1 => WE X G Γ1 b fun y Γ2 => BO X G (compareOp op) x y fun z => K z Γ2) (hm : behindInMarks op b = false := by first | exact nomark _ | with_unfolding_all rfl) : WE X G Γ (.Compare a [op] [b] pos) K := we_op2 (pe_cmpR op_S pe_S pe_S hm) h
theorem BO.mono {f : Value → Value → Sem Value} {x y : D} {K K' : D → Prop} (h : BO X G f x y K) (k : ∀ z, K z → K' z) : BO X G f x y K' := .of fun F H u v Q e r1 r2 q => h F H u v Q e r1 r2 fun z w F' H' s r kz => q z w F' H' s r (k z kz)
/-- an operation that leaves the heap -/
theorem bo_of {f : Value → Value → Sem Value} {r : R2} {x y z : D} {K : D → Prop} (ho : OpR X f r) (hr : ∀ (F H : Hp) (u v : V) (Q : VK), Ex F H → rep G F x u → rep G F y v → (∀ w, rep G F z w → Q w H) → r u v H Q) (k : K z) : BO X G f x y K := .of fun F H u v Q e r1 r2 q =>
  OpR.so ho (hr F H u v Q e r1 r2 fun w rw => q z w F H (.refl e) rw k)
theorem rep_int {F : Hp} {i : Int} {v : V} (h : rep G F (.int i) v) : v = .int i := by unfold rep at h; exact h
theorem rep_bl {F : Hp} {i : Bool} {v : V} (h : rep G F (.bl i) v) : v = .bl i := by unfold rep at h; exact h
theorem rep_str {F : Hp} {i : Str} {v : V} (h : rep G F (.str i) v) : v = .str i := by unfold rep at h; exact h
theorem rep_non {F : Hp} {v : V} (h : rep G F .non v) : v = .non := by unfold rep at h; exact h
theorem rep_ty {F : Hp} {n : String} {v : V} (h : rep G F (.ty n) v) : v = .ty n := by unfold rep at h; exact h
theorem rep_tup {F : Hp} {ds : List D} {v : V} (h : rep G F (.tup ds) v) : ∃ a vs, v = .ref a ∧ SqT G.K F a vs ∧ reps G F ds vs := by unfold rep at h; exact h
theorem rep_lstX {F : Hp} {ds : List D} {v : V} (h : rep G F (.lst ds) v) : ∃ a vs, v = .ref a ∧ F a = some (.lst vs) ∧ reps G F ds vs := by unfold rep at h; exact h
theorem r_lst {F : Hp} {p : Addr} {ds : List D} {vs : List V} (h : F p = some (.lst vs)) (r : reps G F ds vs) : rep G F (.lst ds) (.ref p) := by unfold rep; exact ⟨p, vs, rfl, h, r⟩
theorem rep_lst {F : Hp} {ds : List D} {v : V} (h : rep G F (.lst ds) v) : ∃ a vs, v = .ref a ∧ SqL G.K F a vs ∧ reps G F ds vs :=
  let ⟨a, vs, h1, h2, h3⟩ := rep_lstX h
  ⟨a, vs, h1, SqL.of h2, h3⟩
theorem rep_ins {F : Hp} {c : Nat} {fs : List (Str × D)} {v : V} (h : rep G F (.ins c fs) v) : ∃ a dx gs, v = .ref a ∧ F a = some (.ins (G.cl c) dx gs) ∧ repf G F fs gs := by unfold rep at h; exact h
theorem r_int {F : Hp} {i : Int} : rep G F (.int i) (.int i) := by unfold rep; rfl
theorem r_bl {F : Hp} {i : Bool} : rep G F (.bl i) (.bl i) := by unfold rep; rfl
theorem r_str {F : Hp} {i : Str} : rep G F (.str i) (.str i) := by unfold rep; rfl
theorem r_non {F : Hp} : rep G F .non .non := by unfold rep; rfl
theorem bo_II {f : Value → Value → Sem Value} {C : Int → Int → Prop} {g : Int → Int → Int} {i j : Int} {K : D → Prop} (ho : OpR X f (rI C fun i j => .int (g i j))) (hc : C i j) (k : K (.int (g i j))) : BO X G f (.int i) (.int j) K :=
  bo_of ho (fun F H u v Q e r1 r2 q => by rw [rep_int r1, rep_int r2]; exact ⟨i, j, rfl, rfl, hc, q _ r_int⟩) k
theorem bo_I0 {f : Value → Value → Sem Value} {g : Int → Int → Int} {i j : Int} {K : D → Prop} (ho : OpR X f (rI0 fun i j => .int (g i j))) (k : K (.int (g i j))) : BO X G f (.int i) (.int j) K :=
  bo_of ho (fun F H u v Q e r1 r2 q => by rw [rep_int r1, rep_int r2]; exact ⟨i, j, rfl, rfl, q _ r_int⟩) k
theorem bo_IB {f : Value → Value → Sem Value} {g : Int → Int → Bool} {i j : Int} {K : D → Prop} (ho : OpR X f (rI0 fun i j => .bl (g i j))) (k : K (.bl (g i j))) : BO X G f (.int i) (.int j) K :=
  bo_of ho (fun F H u v Q e r1 r2 q => by rw [rep_int r1, rep_int r2]; exact ⟨i, j, rfl, rfl, q _ r_bl⟩) k
theorem bo_add {i j : Int} {K : D → Prop} (k : K (.int (i + j))) : BO X G (binaryOp .Add) (.int i) (.int j) K := bo_I0 op_add k
theorem bo_sub {i j : Int} {K : D → Prop} (k : K (.int (i - j))) : BO X G (binaryOp .Sub) (.int i) (.int j) K := bo_I0 op_sub k
theorem bo_lt {i j : Int} {K : D → Prop} (k : K (.bl (decide (i < j)))) : BO X G (compareOp .Lt) (.int i) (.int j) K := bo_IB op_lt k
theorem bo_le {i j : Int} {K : D → Prop} (k : K (.bl (decide (i ≤ j)))) : BO X G (compareOp .LtE) (.int i) (.int j) K := bo_IB op_le k
theorem bo_gt {i j : Int} {K : D → Prop} (k : K (.bl (decide (j < i)))) : BO X G (compareOp .Gt) (.int i) (.int j) K := bo_IB op_gt k
theorem bo_ge {i j : Int} {K : D → Prop} (k : K (.bl (decide (j ≤ i)))) : BO X G (compareOp .GtE) (.int i) (.int j) K := bo_IB op_ge k
theorem bo_addS {i j : Str} {K : D → Prop} (h : i.length + j.length ≤ sizeLine) (k : K (.str (i ++ j))) : BO X G (binaryOp .Add) (.str i) (.str j) K :=
  bo_of op_add_str (fun F H u v Q e r1 r2 q => by rw [rep_str r1, rep_str r2]; exact ⟨i, j, rfl, rfl, h, q _ r_str⟩) k
/-- == of plain things -/
def flat : D → Option V
  | .non => some .non | .bl b => some (.bl b) | .int i => some (.int i) | .str s => some (.str s) | _ => none
theorem rep_flat {F : Hp} : ∀ {d : D} {v u : V}, flat d = some v → rep G F d u → u = v
  | .non, v, u, h, r => by cases h; exact rep_non r
  | .bl b, v, u, h, r => by cases h; exact rep_bl r
  | .int i, v, u, h, r => by cases h; exact rep_int r
  | .str s, v, u, h, r => by cases h; exact rep_str r
theorem bo_eq {x y : D} {u v : V} {K : D → Prop} (hx : flat x = some u) (hy : flat y = some v) (hs : scal u v = true) (k : K (.bl (decide (u = v)))) : BO X G (compareOp .Eq) x y K :=
  bo_of op_eq (fun F H a b Q e r1 r2 q => by rw [rep_flat hx r1, rep_flat hy r2]; exact ⟨hs, q _ r_bl⟩) k
theorem bo_ne {x y : D} {u v : V} {K : D → Prop} (hx : flat x = some u) (hy : flat y = some v) (hs : scal u v = true) (k : K (.bl (!decide (u = v)))) : BO X G (compareOp .NotEq) x y K :=
  bo_of op_ne (fun F H a b Q e r1 r2 q => by rw [rep_flat hx r1, rep_flat hy r2]; exact ⟨hs, q _ r_bl⟩) k
theorem bo_isN {x : D} {u : V} {K : D → Prop} (hx : ∀ (F : Hp) v, rep G F x v → decide (v = V.non) = decide (u = V.non)) (k : K (.bl (decide (u = .non)))) : BO X G (compareOp .Is) x .non K :=
  bo_of op_isN (fun F H a b Q e r1 r2 q => by rw [rep_non r2]; exact ⟨rfl, by rw [hx F a r1]; exact q _ r_bl⟩) k

/-! ### and, or, not, a choice -/
variable {KT : Bool → En → Prop} {rest : List Expr}
theorem we_one {op} (h : WE X G Γ a K) : WE X G Γ (.BoolOp op [a] pos) K := .of fun σ F H Q E q => PE.se (pe_one pe_S) (h σ F H Q E q)
theorem we_and (h : WE X G Γ a fun x Γ1 => ∃ c, x = .bl c ∧ (c = true → WE X G Γ1 (.BoolOp .And (b :: rest) pos) K) ∧ (c = false → K (.bl false) Γ1)) : WE X G Γ (.BoolOp .And (a :: b :: rest) pos) K := .of fun σ F H Q E q => by
  refine PE.se (pe_and pe_S pe_S) ?_
  refine h σ F H _ E fun x Γ1 u F1 H1 s1 E1 o1 r1 k1 => ?_
  obtain ⟨c, rfl, k2, k3⟩ := k1
  refine ⟨c, rep_bl r1, ?_⟩
  cases c with
  | true => exact iteT (k2 rfl σ F1 H1 Q E1 fun d Γ' v F' H' s E' o r k => q d Γ' v F' H' (stp s1 o1 s) E' (fun a z => o1 a (o a z)) r k)
  | false => exact iteF (q (.bl false) Γ1 _ F1 H1 s1 E1 o1 r_bl (k3 rfl))
theorem we_or (h : WE X G Γ a fun x Γ1 => ∃ c, x = .bl c ∧ (c = true → K (.bl true) Γ1) ∧ (c = false → WE X G Γ1 (.BoolOp .Or (b :: rest) pos) K)) : WE X G Γ (.BoolOp .Or (a :: b :: rest) pos) K := .of fun σ F H Q E q => by
  refine PE.se (pe_or pe_S pe_S) ?_
  refine h σ F H _ E fun x Γ1 u F1 H1 s1 E1 o1 r1 k1 => ?_
  obtain ⟨c, rfl, k2, k3⟩ := k1
  refine ⟨c, rep_bl r1, ?_⟩
  cases c with
  | true => exact iteT (q (.bl true) Γ1 _ F1 H1 s1 E1 o1 r_bl (k2 rfl))
  | false => exact iteF (k3 rfl σ F1 H1 Q E1 fun d Γ' v F' H' s E' o r k => q d Γ' v F' H' (stp s1 o1 s) E' (fun a z => o1 a (o a z)) r k)
theorem we_not (h : WE X G Γ a fun x Γ1 => ∃ c, x = .bl c ∧ K (.bl (!c)) Γ1) : WE X G Γ (.UnaryOp .Not a pos) K := .of fun σ F H Q E q => by
  refine PE.se (pe_not pe_S) ?_
  refine h σ F H _ E fun x Γ1 u F1 H1 s1 E1 o1 r1 k1 => ?_
  obtain ⟨c, rfl, k2⟩ := k1
  exact ⟨c, rep_bl r1, q _ Γ1 _ F1 H1 s1 E1 o1 r_bl k2⟩
theorem we_if (h : WT X G Γ c fun d Γ1 => (d = true → WE X G Γ1 a K) ∧ (d = false → WE X G Γ1 b K)) : WE X G Γ (.IfExp c a b pos) K := .of fun σ F H Q E q => by
  refine PE.se (pe_ifExp pt_S pe_S pe_S) ?_
  refine h σ F H _ E fun d Γ1 F1 H1 s1 E1 o1 k1 => ?_
  cases d with
  | true => exact iteT (k1.1 rfl σ F1 H1 Q E1 fun d Γ' v F' H' s E' o r k => q d Γ' v F' H' (stp s1 o1 s) E' (fun a z => o1 a (o a z)) r k)
  | false => exact iteF (k1.2 rfl σ F1 H1 Q E1 fun d Γ' v F' H' s E' o r k => q d Γ' v F' H' (stp s1 o1 s) E' (fun a z => o1 a (o a z)) r k)
/-- a test that is a value -/
theorem wt_val (h : WE X G Γ e fun x Γ1 => ∃ c, x = .bl c ∧ KT c Γ1) (he : ∀ whole, isTrue e X.env whole = (do let v ← whole; standAt e.pos; holding [v] (truthy v)) := by intro _; rfl) : WT X G Γ e KT := .of fun σ F H Q E q => by
  refine PT.st (pt_val pe_S he) ?_
  refine h σ F H _ E fun x Γ1 u F1 H1 s1 E1 o1 r1 k1 => ?_
  obtain ⟨c, rfl, k2⟩ := k1
  exact ⟨c, rep_bl r1, q c Γ1 F1 H1 s1 E1 o1 k2⟩
theorem wt_cmp {op : CmpOp} (h : WE X G Γ a fun x Γ1 => WE X G Γ1 b fun y Γ2 => BO X G (compareOp op) x y fun z => ∃ c, z = .bl c ∧ KT c Γ2) (hm : behindInMarks op b = false := by first | exact nomark _ | with_unfolding_all rfl) : WT X G Γ (.Compare a [op] [b] pos) KT := .of fun σ F H Q E q => by
  refine PT.st (pt_cmpR op_S pe_S pe_S hm) ?_
  refine h σ F H _ E fun x Γ1 u F1 H1 s1 E1 o1 r1 k1 => ?_
  refine k1 σ F1 H1 _ E1 fun y Γ2 v F2 H2 s2 E2 o2 r2 k2 => ?_
  refine k2 F2 H2 u v _ E2.ex (rep_mono s2.ex _ _ r1) r2 fun z w F3 H3 s3 r3 k3 => ?_
  obtain ⟨c, rfl, k4⟩ := k3
  exact ⟨c, rep_bl r3, q c Γ2 F3 H3 (stpN (stp s1 o1 s2) s3) (E2.step s3) (fun a h => o1 a (o2 a h)) k4⟩
/-- a test by a value's truth -/
def tru : D → Option Bool
  | .non => some false | .bl b => some b | .int i => some (i != 0) | .tup ds => some (!ds.isEmpty) | .lst ds => some (!ds.isEmpty) | _ => none
theorem reps_emp {F : Hp} : ∀ {ds : List D} {vs : List V}, reps G F ds vs → (!vs.isEmpty) = !ds.isEmpty
  | [], vs, h => by rw [reps_nil_inv h] <;> rfl
  | d :: r, vs, h => by
    obtain ⟨v, t, rfl, _, _⟩ := reps_cons_inv h
    rfl
theorem truV {K0 : PySem.W.Frag} {F H : Hp} (hK : G.K = K0) (e : Ex F H) : ∀ {d : D} {v : V} {b : Bool}, tru d = some b → rep G F d v → TruV K0 v H b
  | .non, v, b, h, r => by cases h; rw [rep_non r] <;> rfl
  | .bl c, v, b, h, r => by cases h; rw [rep_bl r] <;> rfl
  | .int i, v, b, h, r => by cases h; rw [rep_int r] <;> rfl
  | .tup ds, v, b, h, r => by
    cases h
    obtain ⟨a, vs, rfl, h1, h2⟩ := rep_tup r
    exact .inr (.inl ⟨vs, hK ▸ ex_t e h1, (reps_emp h2).symm⟩)
  | .lst ds, v, b, h, r => by
    cases h
    obtain ⟨a, vs, rfl, h1, h2⟩ := rep_lst r
    exact .inl ⟨vs, hK ▸ ex_l e h1, (reps_emp h2).symm⟩
theorem wt_tru (hK : G.K = X.K) (h : WE X G Γ e fun x Γ1 => ∃ c, tru x = some c ∧ KT c Γ1) (he : ∀ whole, isTrue e X.env whole = (do let v ← whole; standAt e.pos; holding [v] (truthy v)) := by intro _; rfl) : WT X G Γ e KT := .of fun σ F H Q E q => by
  refine PT.st (pt_truth pe_S he) ?_
  refine h σ F H _ E fun x Γ1 u F1 H1 s1 E1 o1 r1 k1 => ?_
  obtain ⟨c, e, k2⟩ := k1
  exact ⟨c, truV hK E1.ex e r1, q c Γ1 F1 H1 s1 E1 o1 k2⟩
theorem wt_not (h : WT X G Γ a fun c Γ1 => KT (!c) Γ1) : WT X G Γ (.UnaryOp .Not a pos) KT := .of fun σ F H Q E q => by
  refine PT.st (pt_not pt_S) ?_
  exact h σ F H _ E fun c Γ1 F1 H1 s1 E1 o1 k1 => q (!c) Γ1 F1 H1 s1 E1 o1 k1
theorem ww_and1 (h : WT X G Γ a KT) : WW X G Γ (.BoolOp .And [a] pos) KT := .of fun σ F H Q E q => PW.sw (pw_and1 pt_S) (h σ F H Q E q)
theorem ww_or1 (h : WT X G Γ a KT) : WW X G Γ (.BoolOp .Or [a] pos) KT := .of fun σ F H Q E q => PW.sw (pw_or1 pt_S) (h σ F H Q E q)
theorem ww_and (h : WT X G Γ a fun c Γ1 => (c = true → WW X G Γ1 (.BoolOp .And (b :: rest) pos) KT) ∧ (c = false → KT false Γ1)) : WW X G Γ (.BoolOp .And (a :: b :: rest) pos) KT := .of fun σ F H Q E q => by
  refine PW.sw (pw_and pt_S pw_S) ?_
  refine h σ F H _ E fun c Γ1 F1 H1 s1 E1 o1 k1 => ?_
  cases c with
  | true => exact iteT (k1.1 rfl σ F1 H1 Q E1 fun d Γ' F' H' s E' o k => q d Γ' F' H' (stp s1 o1 s) E' (fun a z => o1 a (o a z)) k)
  | false => exact iteF (q false Γ1 F1 H1 s1 E1 o1 (k1.2 rfl))
theorem ww_or (h : WT X G Γ a fun c Γ1 => (c = true → KT true Γ1) ∧ (c = false → WW X G Γ1 (.BoolOp .Or (b :: rest) pos) KT)) : WW X G Γ (.BoolOp .Or (a :: b :: rest) pos) KT := .of fun σ F H Q E q => by
  refine PW.sw (pw_or pt_S pw_S) ?_
  refine h σ F H _ E fun c Γ1 F1 H1 s1 E1 o1 k1 => ?_
  cases c with
  | true => exact iteT (q true Γ1 F1 H1 s1 E1 o1 (k1.1 rfl))
  | false => exact iteF (k1.2 rfl σ F1 H1 Q E1 fun d Γ' F' H' s E' o k => q d Γ' F' H' (stp s1 o1 s) E' (fun a z => o1 a (o a z)) k)
theorem wt_w (h : WW X G Γ e KT) : WT X G Γ e KT := .of fun σ F H Q E q => PT.st (PW.pt pw_S) (h σ F H Q E q)

/-! ### lists of arguments, tuples, lists -/
variable {KA : List D → En → Prop}
theorem wa_nil (k : KA [] Γ) : WA X G Γ [] KA := .of fun σ F H Q E q => PA.sa pa_nil (q [] Γ [] F H (.refl E.ex) E (fun _ h => h) reps_nil k)
theorem wa_cons (h : WE X G Γ e fun x Γ1 => WA X G Γ1 es fun xs Γ2 => KA (x :: xs) Γ2) (hs : starEach (e :: es) X.env = (false, eval e X.env) :: starEach es X.env := by rfl) : WA X G Γ (e :: es) KA := .of fun σ F H Q E q => by
  refine PA.sa (pa_cons pe_S pa_S hs) ?_
  refine h σ F H _ E fun x Γ1 u F1 H1 s1 E1 o1 r1 k1 => ?_
  refine k1 σ F1 H1 _ E1 fun xs Γ2 vs F2 H2 s2 E2 o2 r2 k2 => ?_
  exact q (x :: xs) Γ2 (u :: vs) F2 H2 (stp s1 o1 s2) E2 (fun a z => o1 a (o2 a z)) (reps_cons (rep_mono s2.ex _ _ r1) r2) k2
theorem Step.lay {O : Addr → Prop} {F H : Hp} {p : Addr} {o : HO} (e : Ex F H) (hp : H p = none) : Step O F H (upd F p o) (upd H p o) := by
  have hf : F p = none := by
    cases q : F p with
    | none => rfl
    | some u => rw [e p u q] at hp; cases hp
  refine ⟨Ex.new hf, fun a u z => ?_, fun a u _ z => by rw [upd_ne (ne_of_none z hp)]; exact z, fun a u z => ?_, fun a z => ?_⟩
  · by_cases ha : a = p
    · subst ha; rw [upd_same] at z ⊢; exact z
    · rw [upd_ne ha] at z ⊢; exact e a u z
  · by_cases ha : a = p
    · subst ha; exact .inr (.inl hp)
    · rw [upd_ne ha] at z; exact .inl z
  · by_cases ha : a = p
    · subst ha; rw [upd_same]; simp
    · rw [upd_ne ha]; exact z
/-- an own thing that is new -/
theorem Step.lay0 {O : Addr → Prop} {F H : Hp} {p : Addr} {o : HO} (e : Ex F H) (hp : H p = none) : Step O F H F (upd H p o) :=
  ⟨Ex.refl F, fun a u z => by rw [upd_ne (ne_of_none (e a u z) hp)]; exact e a u z, fun a u _ z => by rw [upd_ne (ne_of_none z hp)]; exact z, fun a u z => .inl z, fun a z => by
    by_cases ha : a = p
    · subst ha; rw [upd_same]; simp
    · rw [upd_ne ha]; exact z⟩
theorem ex_none {F H : Hp} {p : Addr} (e : Ex F H) (hp : H p = Option.none) : F p = Option.none := by
  cases q : F p with
  | none => rfl
  | some u => rw [e p u q] at hp; cases hp
theorem r_tup {F : Hp} {p : Addr} {ds : List D} {vs : List V} (h : F p = some (.tup vs)) (r : reps G F ds vs) : rep G F (.tup ds) (.ref p) := by
  unfold rep
  exact ⟨p, vs, rfl, .inl (.inl h), r⟩
theorem we_tup {k pos} (h : WA X G Γ es fun ds Γ1 => ds.length ≤ 100000 ∧ K (.tup ds) Γ1) : WE X G Γ (.Tuple es k pos) K := .of fun σ F H Q E q => by
  refine PE.se (pe_tup pa_S) ?_
  refine h σ F H _ E fun ds Γ1 vs F1 H1 s1 E1 o1 r1 k1 => ?_
  refine ⟨by rw [reps_len r1]; exact Nat.le_trans k1.1 (by decide), fun p hp => ?_⟩
  have s2 : Step No F1 H1 (upd F1 p (.tup vs)) (upd H1 p (.tup vs)) := Step.lay E1.ex hp
  exact q (.tup ds) Γ1 (.ref p) _ _ (stpN s1 s2) (E1.step s2) o1 (r_tup upd_same (reps_mono s2.ex _ _ r1)) k1.2
theorem wl_lst {pos} (h : WA X G Γ es fun ds Γ1 => ds.length ≤ 100000 ∧ KA ds Γ1) : WL X G Γ (.List es pos) KA := .of fun σ F H Q E q => by
  refine PE.se (pe_lst pa_S) ?_
  refine h σ F H _ E fun ds Γ1 vs F1 H1 s1 E1 o1 r1 k1 => ?_
  refine ⟨by rw [reps_len r1]; exact Nat.le_trans k1.1 (by decide), fun p hp => ?_⟩
  have s2 : Step No F1 H1 F1 (upd H1 p (.lst vs)) := Step.lay0 E1.ex hp
  have hH : H p = Option.none := by
    cases z : H p with
    | none => rfl
    | some u => exact absurd hp (s1.dom p (by rw [z]; simp))
  exact q ds Γ1 p vs _ _ (stpN s1 s2) (E1.step s2) o1 hH (ex_none E1.ex hp) upd_same r1 k1.2
end
end Dv

set_option Elab.async false
set_option maxRecDepth 100000
namespace Dv
open PySem PySem.Spec PyProof.Rows L2
open Evl (Ex ex_l ex_t)

/-! ### statements -/
inductive Ot where
  | nx (Γ : En) | rt (d : D) (Γ : En) | bk (Γ : En) | ct (Γ : En)
/-- how a run of statements has gone -/
structure Went (G : Gc) (N : List Str) (Γ : En) (σ : L2.St) (F H : Hp) (Γ' : En) (σ' : L2.St) (F' H' : Hp) : Prop where
  st : Step (Ow σ Γ) F H F' H'
  en : Envs G N F' H' σ' Γ'
  ow : ∀ a, Ow σ' Γ' a → Ow σ Γ a ∨ H a = none
theorem Went.refl {G : Gc} {N : List Str} {Γ : En} {σ : L2.St} {F H : Hp} (E : Envs G N F H σ Γ) : Went G N Γ σ F H Γ σ F H := ⟨.refl E.ex, E, fun _ h => .inl h⟩
theorem Went.trans {G : Gc} {N : List Str} {Γ Γ1 Γ2 : En} {σ σ1 σ2 : L2.St} {F H F1 H1 F2 H2 : Hp} (a : Went G N Γ σ F H Γ1 σ1 F1 H1) (b : Went G N Γ1 σ1 F1 H1 Γ2 σ2 F2 H2) : Went G N Γ σ F H Γ2 σ2 F2 H2 :=
  ⟨a.st.trans b.st a.ow, b.en, fun x h => (b.ow x h).elim (a.ow x) fun z => .inr (a.st.back z)⟩
theorem Went.of {G : Gc} {N : List Str} {Γ Γ1 : En} {σ : L2.St} {F H F1 H1 : Hp} (s : Step (Ow σ Γ) F H F1 H1) (E : Envs G N F1 H1 σ Γ1) (o : ∀ a, Ow σ Γ1 a → Ow σ Γ a) : Went G N Γ σ F H Γ1 σ F1 H1 := ⟨s, E, fun a h => .inl (o a h)⟩
/-- the ends of a run reach what is wanted -/
structure Ends' (G : Gc) (N : List Str) (Γ : En) (σ : L2.St) (F H : Hp) (K : Ot → Prop) (D : Ends) : Prop where
  nx : ∀ Γ' σ' F' H', Went G N Γ σ F H Γ' σ' F' H' → K (.nx Γ') → D.nx σ' H'
  rt : ∀ d v Γ' σ' F' H', Went G N Γ σ F H Γ' σ' F' H' → rep G F' d v → K (.rt d Γ') → D.rt v H'
  bk : ∀ Γ' σ' F' H', Went G N Γ σ F H Γ' σ' F' H' → K (.bk Γ') → D.bk σ' H'
  ct : ∀ Γ' σ' F' H', Went G N Γ σ F H Γ' σ' F' H' → K (.ct Γ') → D.ct σ' H'
theorem Ends'.go {G : Gc} {N : List Str} {Γ Γ1 : En} {σ σ1 : L2.St} {F H F1 H1 : Hp} {K : Ot → Prop} {D : Ends} (e : Ends' G N Γ σ F H K D) (a : Went G N Γ σ F H Γ1 σ1 F1 H1) : Ends' G N Γ1 σ1 F1 H1 K D :=
  ⟨fun Γ' σ' F' H' w => e.nx _ _ _ _ (a.trans w), fun d v Γ' σ' F' H' w => e.rt d v _ _ _ _ (a.trans w), fun Γ' σ' F' H' w => e.bk _ _ _ _ (a.trans w), fun Γ' σ' F' H' w => e.ct _ _ _ _ (a.trans w)⟩
structure WS (X : Cx) (G : Gc) (Γ : En) (st : Stmt) (K : Ot → Prop) : Prop where
  of ::
  run : ∀ (σ : L2.St) (F H : Hp) (D : Ends), Envs G X.N F H σ Γ → Ends' G X.N Γ σ F H K D → SS X st D σ H
instance (X : Cx) (G : Gc) (Γ : En) (st : Stmt) (K : Ot → Prop) : CoeFun (WS X G Γ st K) (fun _ => ∀ (σ : L2.St) (F H : Hp) (D : Ends), Envs G X.N F H σ Γ → Ends' G X.N Γ σ F H K D → SS X st D σ H) := ⟨fun h => h.run⟩
structure WB (X : Cx) (G : Gc) (Γ : En) (sts : List Stmt) (K : Ot → Prop) : Prop where
  of ::
  run : ∀ (σ : L2.St) (F H : Hp) (D : Ends), Envs G X.N F H σ Γ → Ends' G X.N Γ σ F H K D → SSs X sts D σ H
instance (X : Cx) (G : Gc) (Γ : En) (sts : List Stmt) (K : Ot → Prop) : CoeFun (WB X G Γ sts K) (fun _ => ∀ (σ : L2.St) (F H : Hp) (D : Ends), Envs G X.N F H σ Γ → Ends' G X.N Γ σ F H K D → SSs X sts D σ H) := ⟨fun h => h.run⟩
/-- what follows a statement -/
def Then (X : Cx) (G : Gc) (sts : List Stmt) (K : Ot → Prop) : Ot → Prop
  | .nx Γ => WB X G Γ sts K
  | o => K o

def putD (f : Str) (v : D) : List (Str × D) → List (Str × D)
  | [] => [(f, v)]
  | (g, x) :: r => if g = f then (g, v) :: r else (g, x) :: putD f v r
theorem repf_put {G : Gc} {F : Hp} {f : Str} {d : D} {v : V} (r : rep G F d v) : ∀ {fs : List (Str × D)} {gs : List (Str × V)}, repf G F fs gs → repf G F (putD f d fs) (putF f v gs)
  | [], gs, h => by
    unfold repf at h
    subst h
    show repf G F [(f, d)] [(f, v)]
    unfold repf
    exact ⟨v, [], rfl, r, by unfold repf; rfl⟩
  | (g, x) :: t, gs, h => by
    unfold repf at h
    obtain ⟨u, t', rfl, h2, h3⟩ := h
    unfold putD putF
    by_cases q : g = f
    · rw [if_pos q, if_pos q]
      unfold repf
      exact ⟨v, t', rfl, r, h3⟩
    · rw [if_neg q, if_neg q]
      unfold repf
      exact ⟨u, _, rfl, h2, repf_put r h3⟩
section
variable {X : Cx} {G : Gc} {Γ Γ' : En} {e a b c : Expr} {es : List Expr} {pos : Pos} {K : Ot → Prop} {stm : Stmt} {sts : List Stmt}
theorem wb_nil (k : K (.nx Γ)) : WB X G Γ [] K := .of fun σ F H D E q => PSs.ss pss_nil (q.nx Γ σ F H (.refl E) k)
theorem wb_one (h : WS X G Γ stm K) : WB X G Γ [stm] K := .of fun σ F H D E q => PSs.ss (pss_one ps_S) (h σ F H D E q)
theorem wb_cons (h : WS X G Γ stm (Then X G sts K)) : WB X G Γ (stm :: sts) K := .of fun σ F H D E q => by
  refine PSs.ss (pss_cons ps_S pss_S) ?_
  refine h σ F H _ E ⟨fun Γ' σ' F' H' w k => ?_, q.rt, q.bk, q.ct⟩
  exact WB.run k σ' F' H' D w.en (q.go w)
theorem ws_ret (h : WE X G Γ e fun d Γ1 => K (.rt d Γ1)) : WS X G Γ (.Return (some e) pos) K := .of fun σ F H D E q => by
  refine PS.ss (ps_ret pe_S) ?_
  exact h σ F H _ E fun d Γ' v F' H' s E' o r k => q.rt d v Γ' σ F' H' (.of s E' o) r k
theorem ws_retN (k : K (.rt .non Γ)) : WS X G Γ (.Return none pos) K := .of fun σ F H D E q => PS.ss ps_retN (q.rt .non .non Γ σ F H (.refl E) r_non k)
theorem ws_pass (k : K (.nx Γ)) : WS X G Γ (.Pass pos) K := .of fun σ F H D E q => PS.ss ps_pass (q.nx Γ σ F H (.refl E) k)
theorem ws_break (k : K (.bk Γ)) : WS X G Γ (.Break pos) K := .of fun σ F H D E q => PS.ss ps_break (q.bk Γ σ F H (.refl E) k)
theorem ws_cont (k : K (.ct Γ)) : WS X G Γ (.Continue pos) K := .of fun σ F H D E q => PS.ss ps_continue (q.ct Γ σ F H (.refl E) k)
theorem ws_doc {x j pos'} (k : K (.nx Γ)) : WS X G Γ (.Expr (.Constant (.str x) j pos) pos') K := .of fun σ F H D E q => PS.ss ps_doc (q.nx Γ σ F H (.refl E) k)
theorem ws_expr (h : WE X G Γ e fun _ Γ1 => K (.nx Γ1)) (hs : swapsWith e none pos.line X.env = pure false := by rfl) : WS X G Γ (.Expr e pos) K := .of fun σ F H D E q => by
  refine PS.ss (ps_expr pe_S hs) ?_
  exact h σ F H _ E fun d Γ' v F' H' s E' o r k => q.nx Γ' σ F' H' (.of s E' o) k
theorem ws_if {xs ys : List Stmt} (h : WT X G Γ c fun d Γ1 => (d = true → WB X G Γ1 xs K) ∧ (d = false → WB X G Γ1 ys K)) : WS X G Γ (.If c xs ys pos) K := .of fun σ F H D E q => by
  refine PS.ss (ps_if pt_S pss_S pss_S) ?_
  refine h σ F H _ E fun d Γ1 F1 H1 s1 E1 o1 k1 => ?_
  cases d with
  | true => exact iteT (k1.1 rfl σ F1 H1 D E1 (q.go (.of s1 E1 o1)))
  | false => exact iteF (k1.2 rfl σ F1 H1 D E1 (q.go (.of s1 E1 o1)))
/-- x = e -/
theorem ws_set {x : Str} {pos' : Pos} (hN : X.N.Nodup) (h : WE X G Γ e fun d Γ1 => ∃ s0 Γ2, Put Γ1 x s0 (.val d) Γ2 ∧ K (.nx Γ2)) (hx : Loc X.env.scope x := by first | exact Or.inl rfl | exact Or.inr rfl) (hs : swapsWith e (some (.Name x pos')) pos.line X.env = pure false := by rfl)
    (hf : X.fn x = true ∨ X.env.scope.names.lookup x = some .local := by first | exact .inl rfl | exact .inr rfl) : WS X G Γ (.Assign [.Name x pos'] e pos) K := .of fun σ F H D E q pins s I => by
  refine wpAny_Assign_Name (thn (h σ F H (fun v H' => ∃ i Γ' F', X.N[i]? = some x ∧ Went G X.N Γ σ F H Γ' (σ.set i (some v)) F' H' ∧ K (.nx Γ')) E (fun d Γ1 v F' H' s1 E' o r k => ?_) pins s I) fun v s1 ⟨y, H1, I1, r1, i, Γ', F', hi, w, k⟩ => ?_) hs
  · obtain ⟨s0, Γ2, hp, k⟩ := k
    obtain ⟨i, e, e2⟩ := hp.ix
    subst e2
    refine ⟨i, _, F', E'.name e, ⟨s1, E'.put e (.inl ⟨d, rfl, r⟩), fun a z => ?_⟩, k⟩
    rcases Ow.put e E'.len z with z | ⟨_, c, z | z⟩
    · exact .inl (o a z)
    · cases z
    · cases z
  · exact store_ok I1 hN hi hx r1 (fun s2 I2 => ⟨_, H1, I2, q.nx _ _ _ _ w k⟩) hf
/-- x = e, a new list of one's own -/
theorem ws_own {x : Str} {pos' : Pos} (hN : X.N.Nodup) (h : WL X G Γ e fun ds Γ1 => ∃ s0 Γ2, Put Γ1 x s0 (.own (.lst ds)) Γ2 ∧ K (.nx Γ2)) (hx : Loc X.env.scope x := by first | exact Or.inl rfl | exact Or.inr rfl) (hs : swapsWith e (some (.Name x pos')) pos.line X.env = pure false := by rfl)
    (hf : X.fn x = true ∨ X.env.scope.names.lookup x = some .local := by first | exact .inl rfl | exact .inr rfl) : WS X G Γ (.Assign [.Name x pos'] e pos) K := .of fun σ F H D E q pins s I => by
  refine wpAny_Assign_Name (thn (h σ F H (fun v H' => ∃ i Γ' F', X.N[i]? = some x ∧ Went G X.N Γ σ F H Γ' (σ.set i (some v)) F' H' ∧ K (.nx Γ')) E (fun ds Γ1 p vs F' H' s1 E' o hp0 hf0 hp1 r k => ?_) pins s I) fun v s1 ⟨y, H1, I1, r1, i, Γ', F', hi, w, k⟩ => ?_) hs
  · obtain ⟨s0, Γ2, hp, k⟩ := k
    obtain ⟨i, e, e2⟩ := hp.ix
    subst e2
    refine ⟨i, _, F', E'.name e, ⟨s1, E'.put e (.inr ⟨p, .lst ds, rfl, rfl, hf0, (show ∃ vs, _ ∧ _ from ⟨vs, hp1, r⟩), fun z => E.fresh hp0 (o p z)⟩), fun a z => ?_⟩, k⟩
    rcases Ow.put e E'.len z with z | ⟨z, _⟩
    · exact .inl (o a z)
    · cases z; exact .inr hp0
  · exact store_ok I1 hN hi hx r1 (fun s2 I2 => ⟨_, H1, I2, q.nx _ _ _ _ w k⟩) hf
/-- x.f = e, x an object that is one's own or lent -/
theorem ws_fld {x f : Str} {p1 pos' : Pos} {n : Nat} (hc : Cls X.K (G.cl n)) (hn : NoAttr X.K (G.cl n) f)
    (h : WE X G Γ e fun d Γ1 => ∃ s0 s1 fs Γ2, Put Γ1 x s0 s1 Γ2 ∧ ((s0 = .own (.ob n fs) ∧ s1 = .own (.ob n (putD f d fs))) ∨ ∃ p, s0 = .bor p (.ob n fs) ∧ s1 = .bor p (.ob n (putD f d fs))) ∧ fs.length < 1000 ∧ K (.nx Γ2))
    (hv : Vis X.env.scope x := by first | exact Or.inl rfl | exact Or.inr (Or.inl rfl) | exact Or.inr (Or.inr rfl)) (hs : swapsWith e (some (.Attribute (.Name x p1) f pos')) pos.line X.env = pure false := by rfl)
    (hd : (x == ("__debug__" : Str)) = false := by decide) (hcd : (x == ("__classdict__" : Str)) = false := by decide) (hi : ∀ i : Nat, X.N[i]? = some x → PE X (.Name x p1) (tVar i) := by intro i hi; exact pe_var hi (by first | exact Or.inl rfl | exact Or.inr (Or.inl rfl) | exact Or.inr (Or.inr rfl)) (by decide) (by decide)) : WS X G Γ (.Assign [.Attribute (.Name x p1) f pos'] e pos) K := .of fun σ F H D E q => by
  intro pins s I
  refine plainObj_wpAny_Assign_Attribute (thn (h σ F H (fun v H' => ∃ (i : Nat) (p dx : Addr) (gs : List (Str × V)) (Γ' : En) (F' : Hp), X.N[i]? = some x ∧ σ[i]? = some (some (.ref p)) ∧ H' p = some (.ins (G.cl n) dx gs) ∧ gs.length < 1000 ∧ Went G X.N Γ σ F H Γ' σ F' (upd H' p (.ins (G.cl n) dx (putF f v gs))) ∧ K (.nx Γ')) E (fun d Γ1 v F' H' s1 E' o r k => ?_) pins s I) fun u s1 ⟨y, H1, I1, ry, i, p, dx, gs, Γ', F', hi', hp, ho, hl, w, k⟩ => ?_) hs
  · obtain ⟨s0, s1', fs, Γ2, hput, hs0, hl, k⟩ := k
    obtain ⟨i, e, e2⟩ := hput.ix
    subst e2
    have key : ∃ p dx gs, σ[i]? = some (some (.ref p)) ∧ H' p = some (.ins (G.cl n) dx gs) ∧ repf G F' fs gs ∧ ((s0 = .own (.ob n fs) ∧ s1' = .own (.ob n (putD f d fs))) ∨ (s0 = .bor p (.ob n fs) ∧ s1' = .bor p (.ob n (putD f d fs)))) := by
      rcases hs0 with ⟨z1, z2⟩ | ⟨p, z1, z2⟩
      · rw [z1] at e
        obtain ⟨p, g1, g2, dx, gs, g3, g4⟩ := E'.own i x _ e
        exact ⟨p, dx, gs, g1, g3, g4, .inl ⟨z1, z2⟩⟩
      · rw [z1] at e
        obtain ⟨g1, g2, dx, gs, g3, g4⟩ := E'.bor i x p _ e
        exact ⟨p, dx, gs, g1, g3, g4, .inr ⟨z1, z2⟩⟩
    obtain ⟨p, dx, gs, g1, g3, g4, z⟩ := key
    have wr := E'.write (o := .ins (G.cl n) dx (putF f v gs)) e g1 z (show ∃ dx gs, _ ∧ _ from ⟨dx, _, upd_same, repf_put r g4⟩)
    exact ⟨i, p, dx, gs, _, _, E'.name e, g1, g3, by rw [repf_len g4]; exact hl, ⟨stp s1 o wr.2.1, wr.1, fun a z => .inl (o a (wr.2.2 a z))⟩, k⟩
  · refine thn ((hi i hi').run pins s1 σ H1 (fun x' H2 => x' = .ref p ∧ H2 = H1) I1 ⟨_, hp, rfl, rfl⟩) fun ov s2 ⟨x', H2, I2, rx, ex, eh⟩ => ?_
    subst ex; subst eh
    obtain rfl : ov = Value.ref p := rx
    exact setattr_ok I2 ho hc hn hl ry fun s3 I3 => ⟨σ, _, I3, q.nx _ _ _ _ w k⟩
end
end Dv

set_option Elab.async false
set_option maxRecDepth 100000
namespace Dv
open PySem PySem.Spec PyProof.Rows L2
open Evl (Ex ex_l ex_t)

/-! ### promises over data -/
/-- of values alone -/
def spP (G : Gc) (con : List D → (D → Prop) → Prop) : Sp := fun vs H Q _ => ∃ F ds Kd, Ex F H ∧ reps G F ds vs ∧ con ds Kd ∧ ∀ d v F' H', Kd d → Step No F H F' H' → rep G F' d v → Q v H'
/-- the first argument is lent -/
def spU (G : Gc) (con : Cn → List D → (D → Cn → Prop) → Prop) : Sp := fun vs H Q _ => ∃ F a us c ds Kd, vs = .ref a :: us ∧ Ex F H ∧ F a = none ∧ holds G F H a c ∧ reps G F ds us ∧
  con c ds Kd ∧ ∀ d c' v F' H', Kd d c' → Step (fun b => b = a) F H F' H' → F' a = none → holds G F' H' a c' → rep G F' d v → Q v H'

/-- the slots at the start -/
def En0 : List Str → List Sl → En
  | [], _ => []
  | x :: N, [] => (x, .un) :: En0 N []
  | x :: N, s :: r => (x, s) :: En0 N r
def Ret (K : D → Prop) : Ot → Prop
  | .rt d _ => K d
  | .nx _ => K .non
  | _ => False
def RetU (x : Str) (p : Addr) (K : D → Cn → Prop) : Ot → Prop
  | .rt d Γ => ∃ c, Lk Γ x (.bor p c) ∧ K d c
  | .nx Γ => ∃ c, Lk Γ x (.bor p c) ∧ K .non c
  | _ => False

section
variable {G : Gc}
theorem en0_al : ∀ (N : List Str) (ss : List Sl), N = (En0 N ss).map (·.1)
  | [], _ => rfl
  | x :: N, [] => by
    show x :: N = x :: (En0 N []).map (·.1)
    rw [← en0_al N []]
  | x :: N, s :: r => by
    show x :: N = x :: (En0 N r).map (·.1)
    rw [← en0_al N r]
theorem en0_at : ∀ {N : List Str} {ss : List Sl} {i : Nat} {x : Str} {s : Sl}, (En0 N ss)[i]? = some (x, s) → ss[i]? = some s ∨ (s = .un ∧ ss[i]? = none)
  | [], _, _, _, _, h => by simp [En0] at h
  | y :: N, [], 0, x, s, h => by
    simp [En0] at h
    exact .inr ⟨h.2.symm, rfl⟩
  | y :: N, [], i + 1, x, s, h => by
    have h' : (En0 N [])[i]? = some (x, s) := by simpa [En0] using h
    rcases en0_at h' with q | q
    · simp at q
    · exact .inr ⟨q.1, by simp⟩
  | y :: N, t :: r, 0, x, s, h => by
    simp [En0] at h
    exact .inl (by simp [h.2])
  | y :: N, t :: r, i + 1, x, s, h => by
    have h' : (En0 N r)[i]? = some (x, s) := by simpa [En0] using h
    rcases en0_at h' with q | q
    · exact .inl (by simpa using q)
    · exact .inr ⟨q.1, by simpa using q.2⟩
theorem start_at {N : List Str} {vs : List V} {i : Nat} {v : V} (h : vs[i]? = some v) : (L2.start N vs)[i]? = some (some v) := by
  unfold L2.start
  have hi : i < vs.length := (List.getElem?_eq_some_iff.mp h).1
  rw [List.getElem?_append_left (by rw [List.length_map]; exact hi), List.getElem?_map, h] <;> rfl
theorem start_len {N : List Str} {vs : List V} (h : vs.length ≤ N.length) : (L2.start N vs).length = N.length := by
  unfold L2.start
  rw [List.length_append, List.length_map, List.length_replicate]
  omega
theorem en0_len (N : List Str) (ss : List Sl) : (En0 N ss).length = N.length := by
  have h := congrArg List.length (en0_al N ss)
  rw [List.length_map] at h
  exact h.symm
theorem envs_p {N : List Str} {F H : Hp} {ds : List D} {vs : List V} (e : Ex F H) (r : reps G F ds vs) (hl : vs.length ≤ N.length) : Envs G N F H (L2.start N vs) (En0 N (ds.map .val)) := by
  refine ⟨en0_al _ _, by rw [start_len hl, en0_len], e, fun i x d h => ?_, fun i x c h => ?_, fun i x a c h => ?_, fun i j x y s t a h1 h2 _ _ h3 _ => ?_⟩
  · rcases en0_at h with q | q
    · rw [List.getElem?_map] at q
      cases q' : ds[i]? with
      | none => rw [q'] at q; cases q
      | some d' =>
        rw [q'] at q
        cases q
        obtain ⟨v, hv, hr⟩ := reps_get r q'
        exact ⟨v, start_at hv, hr⟩
    · cases q.1
  · rcases en0_at h with q | q
    · rw [List.getElem?_map] at q
      cases q' : ds[i]? with
      | none => rw [q'] at q; cases q
      | some d' => rw [q'] at q; cases q
    · cases q.1
  · rcases en0_at h with q | q
    · rw [List.getElem?_map] at q
      cases q' : ds[i]? with
      | none => rw [q'] at q; cases q
      | some d' => rw [q'] at q; cases q
    · cases q.1
  · obtain ⟨c, h3⟩ := h3
    rcases en0_at h1 with q | q
    · rw [List.getElem?_map] at q
      cases q' : ds[i]? with
      | none => rw [q'] at q; cases q
      | some d' =>
        rw [q'] at q
        cases q
        rcases h3 with z | z <;> cases z
    · rcases h3 with z | z <;> (rw [z] at q; cases q.1)
theorem no_own {N : List Str} {ds : List D} {σ : L2.St} {a : Addr} (o : Ow σ (En0 N (ds.map .val)) a) : False := by
  obtain ⟨i, x, s, _, h, c, z⟩ := o
  rcases en0_at h with q | q
  · rw [List.getElem?_map] at q
    cases q' : ds[i]? with
    | none => rw [q'] at q; cases q
    | some d' =>
      rw [q'] at q
      cases q
      rcases z with z | z <;> cases z
  · rcases z with z | z <;> (rw [z] at q; cases q.1)
theorem envs_u {N : List Str} {F H : Hp} {p : Addr} {c : Cn} {ds : List D} {us : List V} (e : Ex F H) (hf : F p = none) (ho : holds G F H p c) (r : reps G F ds us) (hl : us.length + 1 ≤ N.length) : Envs G N F H (L2.start N (.ref p :: us)) (En0 N (.bor p c :: ds.map .val)) := by
  have at_ : ∀ {i : Nat} {x : Str} {s : Sl}, (En0 N (.bor p c :: ds.map .val))[i]? = some (x, s) → (i = 0 ∧ s = .bor p c) ∨ (∃ d v, s = .val d ∧ (L2.start N (.ref p :: us))[i]? = some (some v) ∧ rep G F d v) ∨ s = .un := fun {i x s} h => by
    rcases en0_at h with q | q
    · cases i with
      | zero => cases q; exact .inl ⟨rfl, rfl⟩
      | succ i =>
        rw [List.getElem?_cons_succ, List.getElem?_map] at q
        cases q' : ds[i]? with
        | none => rw [q'] at q; cases q
        | some d' =>
          rw [q'] at q
          cases q
          obtain ⟨v, hv, hr⟩ := reps_get r q'
          exact .inr (.inl ⟨d', v, rfl, start_at (by rw [List.getElem?_cons_succ]; exact hv), hr⟩)
    · exact .inr (.inr q.1)
  refine ⟨en0_al _ _, by rw [start_len (by simpa using hl), en0_len], e, fun i x d h => ?_, fun i x c h => ?_, fun i x a c h => ?_, fun i j x y s t a h1 h2 _ _ h3 h4 => ?_⟩
  · rcases at_ h with ⟨_, q⟩ | ⟨d', v, q, h1, h2⟩ | q
    · cases q
    · cases q; exact ⟨v, h1, h2⟩
    · cases q
  · rcases at_ h with ⟨_, q⟩ | ⟨d', v, q, h1, h2⟩ | q <;> cases q
  · rcases at_ h with ⟨hi, q⟩ | ⟨d', v, q, h1, h2⟩ | q
    · cases q
      subst hi
      exact ⟨start_at rfl, hf, ho⟩
    · cases q
    · cases q
  · have z : ∀ {i : Nat} {x : Str} {s : Sl}, (En0 N (.bor p c :: ds.map .val))[i]? = some (x, s) → s.at a → i = 0 := fun {i x s} h z => by
      obtain ⟨c', z⟩ := z
      rcases at_ h with ⟨hi, q⟩ | ⟨d', v, q, h1, h2⟩ | q
      · exact hi
      · rcases z with z | z <;> (rw [z] at q; cases q)
      · rcases z with z | z <;> (rw [z] at q; cases q)
    rw [z h1 h3, z h2 h4]
theorem u_own {N : List Str} {p : Addr} {c : Cn} {ds : List D} {us : List V} {a : Addr} (o : Ow (L2.start N (.ref p :: us)) (En0 N (.bor p c :: ds.map .val)) a) : a = p := by
  obtain ⟨i, x, s, h0, h, c, z⟩ := o
  rcases en0_at h with q | q
  · cases i with
    | zero =>
      rw [start_at (v := .ref p) rfl] at h0
      cases h0
      rfl
    | succ i =>
      rw [List.getElem?_cons_succ, List.getElem?_map] at q
      cases q' : ds[i]? with
      | none => rw [q'] at q; cases q
      | some d' =>
        rw [q'] at q
        cases q
        rcases z with z | z <;> cases z
  · rcases z with z | z <;> (rw [z] at q; cases q.1)
end

section
variable {P : Program} {w : World} {K : PySem.W.Frag} {mg : Str → Option Value} {base : Heap} {G : Gc} {x qual : Str} {st : Stmt} {f : Addr} {fd : FuncData} {N ps : List Str} {k : Nat}
/-- a def of values -/
theorem def_p {con : List D → (D → Prop) → Prop} (F : Fun K x qual st f fd) (S : FnScope N ps (defScope st)) (len : ∀ ds Kd, con ds Kd → ds.length = ps.length)
    (body : ∀ (cdv : Value) (A : Around) (outer : List Env) (s : Shared) (H : Hp) (E : XK) (ds : List D) (Kd : D → Prop), Room k (A.deeper (envOfC qual (defScope st) s.heap.objs.size f cdv)) → con ds Kd →
      WB (cxOf CX0 P w K mg base N qual (defScope st) f cdv A outer s H E).nox G (En0 N (ds.map .val)) (defBody st) (Ret Kd)) : FnOk P w K mg base CX0 (k + 1) f fd ps (spP G con) := by
  refine F.ok S (fun vs H Q E h => ?_) (fun cdv A outer s H vs Q E hr h => ?_)
  · obtain ⟨F0, ds, Kd, _, r, h, _⟩ := h
    rw [reps_len r]
    exact len _ _ h
  · obtain ⟨F0, ds, Kd, e, r, h, hq⟩ := h
    have hl : vs.length ≤ N.length := by
      have q := congrArg List.length S.pre
      rw [List.length_take] at q
      rw [reps_len r, len _ _ h]
      omega
    have ee := envs_p (N := N) e r hl
    refine ⟨_, pss_S, ?_⟩
    refine body cdv A outer s H E ds Kd hr h (L2.start N vs) F0 H _ ee ⟨fun Γ' σ' F' H' w k => ?_, fun d v Γ' σ' F' H' w r k => ?_, fun _ _ _ _ _ k => k.elim, fun _ _ _ _ _ k => k.elim⟩
    · exact hq .non .non F' H' k (w.st.mono fun a o => no_own o) r_non
    · exact hq d v F' H' k (w.st.mono fun a o => no_own o) r
/-- a def whose first argument is lent -/
theorem def_u {y : Str} {ps' : List Str} {con : Cn → List D → (D → Cn → Prop) → Prop} (F : Fun K x qual st f fd) (S : FnScope N (y :: ps') (defScope st)) (len : ∀ c ds Kd, con c ds Kd → ds.length = ps'.length)
    (body : ∀ (cdv : Value) (A : Around) (outer : List Env) (s : Shared) (H : Hp) (E : XK) (p : Addr) (c : Cn) (ds : List D) (Kd : D → Cn → Prop), Room k (A.deeper (envOfC qual (defScope st) s.heap.objs.size f cdv)) → con c ds Kd →
      WB (cxOf CX0 P w K mg base N qual (defScope st) f cdv A outer s H E).nox G (En0 N (.bor p c :: ds.map .val)) (defBody st) (RetU y p Kd)) : FnOk P w K mg base CX0 (k + 1) f fd (y :: ps') (spU G con) := by
  refine F.ok S (fun vs H Q E h => ?_) (fun cdv A outer s H vs Q E hr h => ?_)
  · obtain ⟨F0, a, us, c, ds, Kd, rfl, _, _, _, r, h, _⟩ := h
    rw [List.length_cons, List.length_cons, reps_len r, len _ _ _ h]
  · obtain ⟨F0, p, us, c, ds, Kd, rfl, e, hf, ho, r, h, hq⟩ := h
    have hl : us.length + 1 ≤ N.length := by
      have q := congrArg List.length S.pre
      rw [List.length_take, List.length_cons] at q
      rw [reps_len r, len _ _ _ h]
      omega
    have ee := envs_u (N := N) e hf ho r hl
    refine ⟨_, pss_S, ?_⟩
    have fin : ∀ {Γ' : En} {σ' : L2.St} {F' H' : Hp} {c' : Cn}, Went G N (En0 N (.bor p c :: ds.map .val)) (L2.start N (.ref p :: us)) F0 H Γ' σ' F' H' → Lk Γ' y (.bor p c') → Step (fun b => b = p) F0 H F' H' ∧ F' p = none ∧ holds G F' H' p c' := fun w l => by
      obtain ⟨i, e⟩ := l.ix
      obtain ⟨_, g1, g2⟩ := w.en.bor i _ p _ e
      exact ⟨w.st.mono fun a o => u_own o, g1, g2⟩
    refine body cdv A outer s H E p c ds Kd hr h (L2.start N (.ref p :: us)) F0 H _ ee ⟨fun Γ' σ' F' H' w k => ?_, fun d v Γ' σ' F' H' w r k => ?_, fun _ _ _ _ _ k => k.elim, fun _ _ _ _ _ k => k.elim⟩
    · obtain ⟨c', l, k⟩ := k
      obtain ⟨g1, g2, g3⟩ := fin w l
      exact hq .non c' .non F' H' k g1 g2 g3 r_non
    · obtain ⟨c', l, k⟩ := k
      obtain ⟨g1, g2, g3⟩ := fin w l
      exact hq d c' v F' H' k g1 g2 g3 r
end

/-! ### calls -/
section
variable {X : Cx} {G : Gc} {Γ : En} {e : Expr} {es : List Expr} {p pos apos : Pos} {K : D → En → Prop} {k : Nat} {f : Addr} {fd : FuncData} {ps : List Str} {x m : Str} {ds0 : List Value} {dd : List D}
/-- the defaults' values, as data -/
def Dfl (G : Gc) (dd : List D) (ds0 : List Value) : Prop := ∃ vs, Vals vs ds0 ∧ ∀ F, reps G F dd vs
theorem dfl_nil : Dfl G [] [] := ⟨[], .nil, fun _ => reps_nil⟩
/-- f(e, ..) -/
theorem we_call {con : List D → (D → Prop) → Prop} (C : FnOk X.prog X.w X.K X.mg X.base CX0 k f fd ps (spP G con)) (hr : Room k X.A) (hm : X.mg x = some (.ref f)) (hk : PySem.W.keepIn X.K (.ref f) = true) (hb : Binds X.K fd ps ds0) (hd : Dfl G dd ds0)
    (h : WA X G Γ (e :: es) fun ds Γ1 => con (ds ++ dd) fun d => K d Γ1) (hg : Gl X x := by rfl) (hdb : (x == ("__debug__" : Str)) = false := by decide)
    (he : starEach (e :: es) X.env = (false, eval e X.env) :: starEach es X.env := by rfl) (hpl : (backTo pos (starEach es X.env)).any (·.1) = false := by rfl) : WE X G Γ (.Call (.Name x p) (e :: es) [] pos) K := .of fun σ F H Q E q => by
  obtain ⟨dv, hv, hdr⟩ := hd
  refine PE.se (pe_call C hr hg hm hk hb hv pass0 pa_S hdb he hpl) ?_
  refine h σ F H _ E fun ds Γ1 vs F1 H1 s1 E1 o1 r1 k1 => ?_
  refine ⟨F1, ds ++ dd, _, E1.ex, reps_app r1 (hdr F1), k1, fun d v F' H' kd s' r' => ?_⟩
  exact q d Γ1 v F' H' (stpN s1 s') (E1.step s') o1 r' kd
theorem we_call0 {con : List D → (D → Prop) → Prop} (C : FnOk X.prog X.w X.K X.mg X.base CX0 k f fd ps (spP G con)) (hr : Room k X.A) (hm : X.mg x = some (.ref f)) (hk : PySem.W.keepIn X.K (.ref f) = true) (hb : Binds X.K fd ps ds0) (hd : Dfl G dd ds0)
    (h : con dd fun d => K d Γ) (hg : Gl X x := by rfl) (hdb : (x == ("__debug__" : Str)) = false := by decide) : WE X G Γ (.Call (.Name x p) [] [] pos) K := .of fun σ F H Q E q => by
  obtain ⟨dv, hv, hdr⟩ := hd
  refine PE.se (pe_call0 C hr hg hm hk hb hv pass0 hdb) ?_
  refine ⟨F, dd, _, E.ex, by rw [List.nil_append]; exact hdr F, h, fun d v F' H' kd s' r' => ?_⟩
  exact q d Γ v F' H' (no_any s') (E.step s') (fun _ h => h) r' kd
/-- what a lent thing is behind a call: the slot changes with it -/
theorem Envs.lent {N : List Str} {F H F' H' : Hp} {σ : L2.St} (E : Envs G N F H σ Γ) {i : Nat} {x : Str} {s s' : Sl} {c c' : Cn} {p : Addr} (h : Γ[i]? = some (x, s)) (hp : σ[i]? = some (some (.ref p))) (hs : (s = .own c ∧ s' = .own c') ∨ (s = .bor p c ∧ s' = .bor p c'))
    (st : Step (fun b => b = p) F H F' H') (hf' : F' p = none) (ho : holds G F' H' p c') :
    Envs G N F' H' σ (Γ.set i (x, s')) ∧ Step (Ow σ Γ) F H F' H' ∧ ∀ a, Ow σ (Γ.set i (x, s')) a → Ow σ Γ a := by
  have hi : i < Γ.length := (List.getElem?_eq_some_iff.mp h).1
  have hiv : s.at p := ⟨c, hs.imp (fun z => z.1) fun z => z.1⟩
  have hop : Ow σ Γ p := ⟨i, x, s, hp, h, hiv⟩
  have oth : ∀ (j : Nat) (y : Str) (t : Sl) (a : Addr), j ≠ i → Γ[j]? = some (y, t) → σ[j]? = some (some (.ref a)) → t.at a → a ≠ p := fun j y t a hj e q z za => hj (E.dis j i y x t s p e h (za ▸ q) hp (za ▸ z) hiv)
  have nf : ∀ a, Ow σ Γ a → F' a = none := fun a o => by
    by_cases ha : a = p
    · rw [ha]; exact hf'
    · obtain ⟨e3, u, e2⟩ := E.owF o
      cases q : F' a with
      | none => rfl
      | some o =>
        rcases st.new a o q with z | z | z
        · rw [e3] at z; cases z
        · rw [e2] at z; cases z
        · exact absurd z ha
  refine ⟨⟨by rw [set_al h]; exact E.al, by rw [List.length_set]; exact E.len, st.sub, fun j y d e => ?_, fun j y d e => ?_, fun j y b d e => ?_, fun j k y z t u b e1 e2 e3 e4 h1 h2 => ?_⟩, st.mono fun a z => z ▸ hop, fun a q => ?_⟩
  · rcases set_at hi e with ⟨_, _, q⟩ | ⟨hj, e⟩
    · rcases hs with ⟨_, z⟩ | ⟨_, z⟩ <;> (rw [z] at q; cases q)
    · obtain ⟨v, g1, g2⟩ := E.val j y d e
      exact ⟨v, g1, rep_mono st.ex _ _ g2⟩
  · rcases set_at hi e with ⟨hj, _, q⟩ | ⟨hj, e⟩
    · subst hj
      rcases hs with ⟨_, z⟩ | ⟨_, z⟩
      · rw [z] at q; cases q
        exact ⟨p, hp, hf', ho⟩
      · rw [z] at q; cases q
    · obtain ⟨a, e1, e3, r1⟩ := E.own j y d e
      have ha := oth j y _ a hj e e1 ⟨d, .inl rfl⟩
      exact ⟨a, e1, nf a ⟨j, y, _, e1, e, d, .inl rfl⟩, holds_step st.ex (fun u z => st.keep a u ha z) r1⟩
  · rcases set_at hi e with ⟨hj, _, q⟩ | ⟨hj, e⟩
    · subst hj
      rcases hs with ⟨_, z⟩ | ⟨_, z⟩
      · rw [z] at q; cases q
      · rw [z] at q; cases q
        exact ⟨hp, hf', ho⟩
    · obtain ⟨e1, e3, r1⟩ := E.bor j y b d e
      have ha := oth j y _ b hj e e1 ⟨d, .inr rfl⟩
      exact ⟨e1, nf b ⟨j, y, _, e1, e, d, .inr rfl⟩, holds_step st.ex (fun u z => st.keep b u ha z) r1⟩
  · have fit : ∀ (j : Nat) (y : Str) (t : Sl), (Γ.set i (x, s'))[j]? = some (y, t) → σ[j]? = some (some (.ref b)) → t.at b → ∃ t0, Γ[j]? = some (y, t0) ∧ t0.at b := fun j y t e q z => by
      rcases set_at hi e with ⟨hj, hy, ht⟩ | ⟨hj, e⟩
      · subst hj; subst hy
        rw [hp] at q
        cases q
        exact ⟨s, h, hiv⟩
      · exact ⟨t, e, z⟩
    obtain ⟨t0, f1, g1⟩ := fit j y t e1 e3 h1
    obtain ⟨u0, f2, g2⟩ := fit k z u e2 e4 h2
    exact E.dis j k y z t0 u0 b f1 f2 e3 e4 g1 g2
  · obtain ⟨j, y, t, e, q, z⟩ := q
    rcases set_at hi q with ⟨hj, _, _⟩ | ⟨hj, q⟩
    · subst hj
      rw [hp] at e
      cases e
      exact hop
    · exact ⟨j, y, t, e, q, z⟩
/-- the lent slot's change -/
inductive Lend : Sl → Cn → Cn → Sl → Prop
  | own {c c' : Cn} : Lend (.own c) c c' (.own c')
  | bor {p : Addr} {c c' : Cn} : Lend (.bor p c) c c' (.bor p c')
theorem Envs.lentAt {N : List Str} {F H : Hp} {σ : L2.St} (E : Envs G N F H σ Γ) {i : Nat} {x : Str} {s s' : Sl} {c c' : Cn} (h : Γ[i]? = some (x, s)) (l : Lend s c c' s') :
    ∃ p, σ[i]? = some (some (.ref p)) ∧ ((s = .own c ∧ s' = .own c') ∨ (s = .bor p c ∧ s' = .bor p c')) ∧ F p = none ∧ holds G F H p c := by
  cases l with
  | own =>
    obtain ⟨p, g1, g2, g3⟩ := E.own i x _ h
    exact ⟨p, g1, .inl ⟨rfl, rfl⟩, g2, g3⟩
  | bor =>
    obtain ⟨g1, g2, g3⟩ := E.bor i x _ _ h
    exact ⟨_, g1, .inr ⟨rfl, rfl⟩, g2, g3⟩
theorem Put.at {Γ Γ' : En} {x : Str} {s0 s : Sl} (h : Put Γ x s0 s Γ') : Lk Γ x s0 := by
  induction h with
  | hd => exact .hd
  | tl _ ih => exact .tl ih
/-- f(u, e, ..), u a name that is lent -/
theorem we_callU {con : Cn → List D → (D → Cn → Prop) → Prop} {u : Str} {pu : Pos} {s0 : Sl} {c0 : Cn} (hN : X.N.Nodup) (C : FnOk X.prog X.w X.K X.mg X.base CX0 k f fd ps (spU G con)) (hr : Room k X.A) (hm : X.mg x = some (.ref f)) (hk : PySem.W.keepIn X.K (.ref f) = true) (hb : Binds X.K fd ps ds0) (hd : Dfl G dd ds0)
    (h0 : Lk Γ u s0) (l0 : Lend s0 c0 c0 s0)
    (h : WA X G Γ es fun ds Γ1 => ∃ s c, Lk Γ1 u s ∧ Lend s c c s ∧ con c (ds ++ dd) fun d c' => ∃ s' Γ2, Lend s c c' s' ∧ Put Γ1 u s s' Γ2 ∧ K d Γ2) (hv : Vis X.env.scope u := by first | exact Or.inl rfl | exact Or.inr (Or.inl rfl) | exact Or.inr (Or.inr rfl)) (hg : Gl X x := by rfl) (hdb : (x == ("__debug__" : Str)) = false := by decide)
    (hdu : (u == ("__debug__" : Str)) = false := by decide) (hcu : (u == ("__classdict__" : Str)) = false := by decide) (hsn : starEach (.Name u pu :: es) X.env = (false, eval (.Name u pu) X.env) :: starEach es X.env := by rfl)
    (hpl : (backTo pos (starEach es X.env)).any (·.1) = false := by rfl) : WE X G Γ (.Call (.Name x p) (.Name u pu :: es) [] pos) K := .of fun σ F H Q E q => by
  obtain ⟨dv, hdv, hdr⟩ := hd
  obtain ⟨i, e0⟩ := h0.ix
  obtain ⟨p0, hp0, _, _, _⟩ := E.lentAt e0 l0
  have nm := E.name e0
  refine PE.se (pe_call C hr hg hm hk hb hdv pass0 (pa_cons (pe_var nm hv hdu hcu) pa_S hsn) hdb hsn hpl) ?_
  refine ⟨.ref p0, hp0, ?_⟩
  refine h σ F H _ E fun ds Γ1 vs F1 H1 s1 E1 o1 r1 k1 => ?_
  obtain ⟨s, c, l1, l2, k1⟩ := k1
  obtain ⟨i1, e1⟩ := l1.ix
  have hi : i1 = i := nodup_ix hN (E1.name e1) nm
  subst hi
  obtain ⟨p1, hp1, hs, hf, ho⟩ := E1.lentAt e1 l2
  rw [hp0] at hp1
  cases hp1
  refine ⟨F1, p0, vs ++ dv, c, ds ++ dd, _, rfl, E1.ex, hf, ho, reps_app r1 (hdr F1), k1, fun d c' v F' H' kd s' hf' ho' r' => ?_⟩
  obtain ⟨s2, Γ2, l3, hput, kd⟩ := kd
  obtain ⟨i2, e2, e3⟩ := hput.ix
  have hi : i2 = i1 := nodup_ix hN (E1.name e2) nm
  subst hi
  subst e3
  have hs2 : (s = .own c ∧ s2 = .own c') ∨ (s = .bor p0 c ∧ s2 = .bor p0 c') := by
    cases l3 with
    | own => exact .inl ⟨rfl, rfl⟩
    | bor =>
      rcases hs with ⟨z, _⟩ | ⟨z, _⟩ <;> cases z
      exact .inr ⟨rfl, rfl⟩
  obtain ⟨g1, g2, g3⟩ := E1.lent e1 hp0 hs2 s' hf' ho'
  exact q d _ v F' H' (stp s1 o1 g2) g1 (fun a z => o1 a (g3 a z)) r' kd
/-- o.m(e, ..), a method of values -/
theorem we_meth {con : List D → (D → Prop) → Prop} {o : Expr} {n : Nat} {pl : Sem Bool} (c : Cls X.K (G.cl n)) (hm : Meth X.K (G.cl n) m f) (C : FnOk X.prog X.w X.K X.mg X.base CX0 k f fd ps (spP G con)) (hr : Room k X.A) (hb : Binds X.K fd ps ds0) (hd : Dfl G dd ds0)
    (h : WE X G Γ o fun d Γ1 => ∃ fs, d = .ins n fs ∧ fs.lookup m = none ∧ WA X G Γ1 (e :: es) fun ds Γ2 => con (d :: (ds ++ dd)) fun z => K z Γ2)
    (hst : starEach (e :: es) X.env = (false, eval e X.env) :: starEach es X.env := by rfl) (hpl : (backTo pos (starEach es X.env)).any (·.1) = false := by rfl)
    (ht : eval (.Call (.Attribute o m apos) (e :: es) [] pos) X.env = (do
      let ov ← eval o X.env
      standAt apos.atName
      let (f, first) ← holding [ov] (getMethod ov m pl)
      callWith pos f first (backTo pos (starEach (e :: es) X.env)) (backToKw pos (keywordEach [] X.env))) := by rfl) : WE X G Γ (.Call (.Attribute o m apos) (e :: es) [] pos) K := .of fun σ F H Q E q => by
  obtain ⟨dv, hdv, hdr⟩ := hd
  refine PE.se (pe_meth pe_S c hm C hr hb hdv pass0 pa_S hst hpl ht) ?_
  refine h σ F H _ E fun d Γ1 v F1 H1 s1 E1 o1 r1 k1 => ?_
  obtain ⟨fs, rfl, hl, k1⟩ := k1
  obtain ⟨a, dx, gs, rfl, ha, rf⟩ := rep_ins r1
  refine ⟨a, dx, gs, rfl, E1.ex _ _ ha, repf_none rf hl, ?_⟩
  refine k1 σ F1 H1 _ E1 fun ds Γ2 vs F2 H2 s2 E2 o2 r2 k2 => ?_
  refine ⟨F2, _, _, E2.ex, reps_cons (rep_mono s2.ex _ _ r1) (reps_app r2 (hdr F2)), k2, fun z v F' H' kd s' r' => ?_⟩
  exact q z Γ2 v F' H' (stpN (stp s1 o1 s2) s') (E2.step s') (fun a h => o1 a (o2 a h)) r' kd
/-- o.f, a property -/
theorem we_prop {con : List D → (D → Prop) → Prop} {g pa : Addr} {n : Nat} (c : Cls X.K (G.cl n)) (hp : PropOf X.K (G.cl n) m pa g) (C : FnOk X.prog X.w X.K X.mg X.base CX0 k g fd ps (spP G con)) (hr : Room (k + 1) X.A) (hb : Binds X.K fd ps ds0) (hd : Dfl G dd ds0)
    (h : WE X G Γ e fun d Γ1 => ∃ fs, d = .ins n fs ∧ con (d :: dd) fun z => K z Γ1) (hab : attributeBase e m X.env (eval e X.env) = eval e X.env := by rfl) : WE X G Γ (.Attribute e m pos) K := .of fun σ F H Q E q => by
  obtain ⟨dv, hdv, hdr⟩ := hd
  refine PE.se (pe_prop pe_S c hp C hr hb hdv pass0 hab) ?_
  refine h σ F H _ E fun d Γ1 v F1 H1 s1 E1 o1 r1 k1 => ?_
  obtain ⟨fs, rfl, k1⟩ := k1
  obtain ⟨a, dx, gs, rfl, ha, rf⟩ := rep_ins r1
  refine ⟨a, dx, gs, rfl, E1.ex _ _ ha, F1, _, _, E1.ex, reps_cons r1 (hdr F1), k1, fun z v F' H' kd s' r' => ?_⟩
  exact q z Γ1 v F' H' (stpN s1 s') (E1.step s') o1 r' kd
/-- o.f, an attribute -/
theorem we_fld {n : Nat} (c : Cls X.K (G.cl n)) (hn : NoAttr X.K (G.cl n) m) (h : WE X G Γ e fun d Γ1 => ∃ fs z, d = .ins n fs ∧ fs.lookup m = some z ∧ K z Γ1) (hab : attributeBase e m X.env (eval e X.env) = eval e X.env := by rfl) : WE X G Γ (.Attribute e m pos) K := .of fun σ F H Q E q => by
  refine PE.se (pe_fld pe_S hab) ?_
  refine h σ F H _ E fun d Γ1 v F1 H1 s1 E1 o1 r1 k1 => ?_
  obtain ⟨fs, z, rfl, hl, k1⟩ := k1
  obtain ⟨a, dx, gs, rfl, ha, rf⟩ := rep_ins r1
  obtain ⟨u, hu, ru⟩ := repf_look rf hl
  exact ⟨a, _, dx, gs, u, rfl, E1.ex _ _ ha, c, hn, hu, q z Γ1 u F1 H1 s1 E1 o1 ru k1⟩
/-- C(e, ..) -/
theorem make_ok {con : Cn → List D → (D → Cn → Prop) → Prop} {n : Nat} {F1 H1 : Hp} {vs : List V} {ds : List D} {dv : List V} {Q : VK} {KD : D → Prop} (E1 : Ex F1 H1) (r1 : reps G F1 ds vs) (hdr : reps G F1 dd dv)
    (hq : ∀ z v F' H', KD z → Step No F1 H1 F' H' → rep G F' z v → Q v H')
    (k1 : con (.ob n []) (ds ++ dd) fun d c' => d = .non ∧ ∃ fs, c' = .ob n fs ∧ KD (.ins n fs)) {x dx : Addr} (hx : H1 x = Option.none) (hdx : H1 dx = Option.none) (hne : dx ≠ x) :
    spU G con (.ref x :: (vs ++ dv)) (upd (upd H1 dx (.own x)) x (.ins (G.cl n) dx [])) (fun v H2 => v = .non ∧ Q (.ref x) H2) E0 := by
  have sub : Ex F1 (upd (upd H1 dx (.own x)) x (.ins (G.cl n) dx [])) := fun a o z => by
    have z' := E1 a o z
    rw [upd_ne (ne_of_none z' hx), upd_ne (ne_of_none z' hdx)]
    exact z'
  refine ⟨F1, x, vs ++ dv, .ob n [], ds ++ dd, _, rfl, sub, ex_none E1 hx, (show ∃ dx gs, _ ∧ _ from ⟨dx, [], upd_same, by unfold repf; rfl⟩), reps_app r1 hdr, k1, fun d c' v F' H' kd s' hf' ho' r' => ?_⟩
  obtain ⟨rfl, fs, rfl, kd⟩ := kd
  refine ⟨rep_non r', ?_⟩
  obtain ⟨o, hoo⟩ := holds_some ho'
  have hx2 : Ex F' (upd F' x o) := Ex.new hf'
  have hr : rep G (upd F' x o) (.ins n fs) (.ref x) := holds_rep (c := .ob n fs) hx2 (fun u z => by
    rw [hoo] at z; cases z; exact upd_same) ho'
  refine hq _ _ (upd F' x o) H' kd ⟨s'.ex.trans hx2, fun a u z => ?_, fun a u _ z => ?_, fun a u z => ?_, fun a z => ?_⟩ hr
  · by_cases ha : a = x
    · subst ha; rw [upd_same] at z; cases z; exact hoo
    · rw [upd_ne ha] at z; exact s'.sub a u z
  · have h1 := ne_of_none z hx
    have h2 := ne_of_none z hdx
    exact s'.keep a u h1 (by rw [upd_ne h1, upd_ne h2]; exact z)
  · by_cases ha : a = x
    · subst ha; exact .inr (.inl hx)
    · rw [upd_ne ha] at z
      rcases s'.new a u z with z | z | z
      · exact .inl z
      · by_cases hb : a = dx
        · subst hb; exact .inr (.inl hdx)
        · rw [upd_ne ha, upd_ne hb] at z
          exact .inr (.inl z)
      · exact absurd z ha
  · refine s'.dom a ?_
    by_cases ha : a = x
    · subst ha; rw [upd_same]; simp
    · by_cases hb : a = dx
      · subst hb; rw [upd_ne ha, upd_same]; simp
      · rw [upd_ne ha, upd_ne hb]; exact z
theorem we_make {con : Cn → List D → (D → Cn → Prop) → Prop} {n : Nat} (M : Mk X.K (G.cl n) f) (C : FnOk X.prog X.w X.K X.mg X.base CX0 k f fd ps (spU G con)) (hr : Room (k + 1) X.A) (hm : X.mg x = some (.ref (G.cl n))) (hb : Binds X.K fd ps ds0) (hd : Dfl G dd ds0)
    (h : WA X G Γ (e :: es) fun ds Γ1 => con (.ob n []) (ds ++ dd) fun d c' => d = .non ∧ ∃ fs, c' = .ob n fs ∧ K (.ins n fs) Γ1) (hg : Gl X x := by rfl) (hdb : (x == ("__debug__" : Str)) = false := by decide)
    (he : starEach (e :: es) X.env = (false, eval e X.env) :: starEach es X.env := by rfl) (hpl : (backTo pos (starEach es X.env)).any (·.1) = false := by rfl) : WE X G Γ (.Call (.Name x p) (e :: es) [] pos) K := .of fun σ F H Q E q => by
  obtain ⟨dv, hdv, hdr⟩ := hd
  refine PE.se (pe_make M C hr hg hm hb hdv pass0 pa_S hdb he hpl) ?_
  refine h σ F H _ E fun ds Γ1 vs F1 H1 s1 E1 o1 r1 k1 => ?_
  intro x dx hx hdx hne
  exact make_ok (KD := fun z => K z Γ1) E1.ex r1 (hdr F1) (fun z v F' H' kd s' r' => q z Γ1 v F' H' (stpN s1 s') (E1.step s') o1 r' kd) k1 hx hdx hne
theorem we_make0 {con : Cn → List D → (D → Cn → Prop) → Prop} {n : Nat} (M : Mk X.K (G.cl n) f) (C : FnOk X.prog X.w X.K X.mg X.base CX0 k f fd ps (spU G con)) (hr : Room (k + 1) X.A) (hm : X.mg x = some (.ref (G.cl n))) (hb : Binds X.K fd ps ds0) (hd : Dfl G dd ds0)
    (h : con (.ob n []) dd fun d c' => d = .non ∧ ∃ fs, c' = .ob n fs ∧ K (.ins n fs) Γ) (hg : Gl X x := by rfl) (hdb : (x == ("__debug__" : Str)) = false := by decide) : WE X G Γ (.Call (.Name x p) [] [] pos) K := .of fun σ F H Q E q => by
  obtain ⟨dv, hdv, hdr⟩ := hd
  refine PE.se (pe_make0 M C hr hg hm hb hdv pass0 hdb) ?_
  intro x dx hx hdx hne
  exact make_ok (vs := []) (ds := []) (KD := fun z => K z Γ) E.ex reps_nil (hdr F) (fun z v F' H' kd s' r' => q z Γ v F' H' (no_any s') (E.step s') (fun _ h => h) r' kd) h hx hdx hne
end
end Dv

set_option Elab.async false
set_option maxRecDepth 100000
set_option maxHeartbeats 4000000
namespace Dv
open PySem PySem.Spec PyProof.Rows L2
open Evl (Ex ex_l ex_t)

/-! ### operators of own classes -/
section
variable {X : Cx} {G : Gc} {k n : Nat} {f : Addr} {fd : FuncData} {ps : List Str} {ds0 : List Value} {dd : List D} {con : List D → (D → Prop) → Prop} {K : D → Prop} {fs gs : List (Str × D)}
theorem back_of {Q : Value → Shared → Prop} {v : V} {u : Value} {s : Shared} (r : RelV v u) (q : Q u s) : PySem.W.CmpBack Q u s := by
  cases v <;> first
    | (obtain ⟨t, rfl⟩ := r; exact q)
    | (cases r; exact q)
theorem ins_at {pins : List (Addr × Obj)} {σ : L2.St} {H : Hp} {s : Shared} {a C dx : Addr} {hs : List (Str × V)} (I : Inv X pins σ H s) (ha : H a = some (.ins C dx hs)) : ∃ ox od, PySem.W.InstAt s.heap a ox C od := by
  obtain ⟨mA, J, _⟩ := ins_get I.hok ha
  obtain ⟨od, J, _⟩ := J.look
  exact ⟨_, _, J⟩
/-- the call of an own def on two values -/
theorem own_run {F H : Hp} {x y : D} {u v : V} {Q : VK} (C : FnOk X.prog X.w X.K X.mg X.base CX0 k f fd ps (spP G con)) (hr : Room k X.A) (hb : Binds X.K fd ps ds0) (hd : Dfl G dd ds0) (e : Ex F H) (r1 : rep G F x u) (r2 : rep G F y v)
    (h : con ([x, y] ++ dd) K) (q : ∀ z w F' H', Step No F H F' H' → rep G F' z w → K z → Q w H') {pins : List (Addr × Obj)} {s : Shared} {σ : L2.St} {uu vv : Value} (I : Inv X pins σ H s) (ru : RelV u uu) (rv : RelV v vv) :
    wpAny (model X.prog X.w) X.A (call (.ref f) [uu, vv]) (EP X pins σ Q) X.xe s := by
  obtain ⟨dv, hdv, hdr⟩ := hd
  refine run_fn C hr hb hdv pass0 I (vs := [u, v]) (.cons ru (.cons rv .nil)) ?_
  exact ⟨F, [x, y] ++ dd, _, e, reps_app (reps_cons r1 (reps_cons r2 reps_nil)) (hdr F), h, fun d w F' H' kd s' r' => q d w F' H' s' r' kd⟩
theorem bo_ownBin {op : Operator} (C : FnOk X.prog X.w X.K X.mg X.base CX0 k f fd ps (spP G con)) (hr : Room k X.A) (hb : Binds X.K fd ps ds0) (hd : Dfl G dd ds0) (hs : PySem.W.findIn X.K (.ref (G.cl n)) (PySem.dunder op.info.2) = some (some (.ref f)))
    (hf : PySem.W.isFn X.K (.ref f) = true) (hc : PySem.W.selfFirst X.K (G.cl n) = true) (h : con ([.ins n fs, .ins n gs] ++ dd) K) : BO X G (binaryOp op) (.ins n fs) (.ins n gs) K := .of fun F H u v Q e r1 r2 q pins s σ uu vv I ru rv => by
  obtain ⟨a, dx, hs1, rfl, ha, _⟩ := rep_ins r1
  obtain ⟨b, dy, hs2, rfl, hb', _⟩ := rep_ins r2
  obtain rfl : uu = Value.ref a := ru
  obtain rfl : vv = Value.ref b := rv
  obtain ⟨_, _, J⟩ := ins_at I (e _ _ ha)
  obtain ⟨_, _, J'⟩ := ins_at I (e _ _ hb')
  obtain ⟨m, hF⟩ := I.fr
  refine PySem.W.binop_K hF I.ok.mod.kin J J'.type hc hs hf ?_
  exact thn (own_run C hr hb hd e r1 r2 h q I rfl rfl) fun u' s' ⟨w, H', I', rw', q'⟩ => back_of rw' ⟨w, H', I', rw', q'⟩
theorem bo_ownIn {x : D} (C : FnOk X.prog X.w X.K X.mg X.base CX0 k f fd ps (spP G con)) (hr : Room k X.A) (hb : Binds X.K fd ps ds0) (hd : Dfl G dd ds0) (hs : PySem.W.findIn X.K (.ref (G.cl n)) "__contains__" = some (some (.ref f)))
    (hf : PySem.W.isFn X.K (.ref f) = true) (h : con ([.ins n fs, x] ++ dd) fun z => ∃ b, z = .bl b ∧ K (.bl b)) : BO X G (compareOp .In) x (.ins n fs) K := .of fun F H u v Q e r1 r2 q pins s σ uu vv I ru rv => by
  obtain ⟨a, dx, hs1, rfl, ha, _⟩ := rep_ins r2
  obtain rfl : vv = Value.ref a := rv
  obtain ⟨_, _, J⟩ := ins_at I (e _ _ ha)
  obtain ⟨m, hF⟩ := I.fr
  refine PySem.W.in_K hF I.ok.mod.kin J hs hf ?_
  refine thn (own_run (Q := fun w H' => ∃ b, w = .bl b ∧ Q (.bl b) H') C hr hb hd e r2 r1 h (fun z w F' H' s' r' kz => ?_) I rfl ru) fun u' s' ⟨w, H', I', rw', b, ew, q'⟩ => ?_
  · obtain ⟨b, rfl, kz⟩ := kz
    exact ⟨b, rep_bl r', q (.bl b) _ F' H' s' r_bl kz⟩
  · subst ew
    cases rw'
    exact wpAny_truthy_bool ⟨.bl b, H', I', rfl, q'⟩
theorem bo_ownNotIn {x : D} (C : FnOk X.prog X.w X.K X.mg X.base CX0 k f fd ps (spP G con)) (hr : Room k X.A) (hb : Binds X.K fd ps ds0) (hd : Dfl G dd ds0) (hs : PySem.W.findIn X.K (.ref (G.cl n)) "__contains__" = some (some (.ref f)))
    (hf : PySem.W.isFn X.K (.ref f) = true) (h : con ([.ins n fs, x] ++ dd) fun z => ∃ b, z = .bl b ∧ K (.bl (!b))) : BO X G (compareOp .NotIn) x (.ins n fs) K := .of fun F H u v Q e r1 r2 q pins s σ uu vv I ru rv => by
  obtain ⟨a, dx, hs1, rfl, ha, _⟩ := rep_ins r2
  obtain rfl : vv = Value.ref a := rv
  obtain ⟨_, _, J⟩ := ins_at I (e _ _ ha)
  obtain ⟨m, hF⟩ := I.fr
  refine PySem.W.notIn_K hF I.ok.mod.kin J hs hf ?_
  refine thn (own_run (Q := fun w H' => ∃ b, w = .bl b ∧ Q (.bl (!b)) H') C hr hb hd e r2 r1 h (fun z w F' H' s' r' kz => ?_) I rfl ru) fun u' s' ⟨w, H', I', rw', b, ew, q'⟩ => ?_
  · obtain ⟨b, rfl, kz⟩ := kz
    exact ⟨b, rep_bl r', q (.bl (!b)) _ F' H' s' r_bl kz⟩
  · subst ew
    cases rw'
    exact wpAny_truthy_bool ⟨.bl (!b), H', I', rfl, q'⟩
/-- the built-in class of a datum -/
def tyD : D → Option String
  | .non => some "NoneType" | .bl _ => some "bool" | .int _ => some "int" | .str _ => some "str" | .tup _ => some "tuple" | .lst _ => some "list" | _ => none
theorem ty_looks {pins : List (Addr × Obj)} {σ : L2.St} {F H : Hp} {s : Shared} (hK : G.K = X.K) (I : Inv X pins σ H s) (e : Ex F H) : ∀ {d : D} {v : V} {u : Value} {n : String}, tyD d = some n → rep G F d v → RelV v u → PySem.W.Looks (model X.prog X.w) s.heap (typeOf u) (.type n)
  | .non, v, u, n, h, r, ru => by cases h; rw [rep_non r] at ru; cases ru; exact PySem.W.Looks.of_pure rfl
  | .bl b, v, u, n, h, r, ru => by cases h; rw [rep_bl r] at ru; cases ru; exact PySem.W.Looks.of_pure rfl
  | .int i, v, u, n, h, r, ru => by cases h; rw [rep_int r] at ru; obtain ⟨t, rfl⟩ := ru; exact PySem.W.Looks.of_pure rfl
  | .str i, v, u, n, h, r, ru => by cases h; rw [rep_str r] at ru; obtain ⟨t, rfl⟩ := ru; exact PySem.W.Looks.of_pure rfl
  | .tup ds, v, u, n, h, r, ru => by
    cases h
    obtain ⟨a, vs, rfl, h1, _⟩ := rep_tup r
    obtain rfl : u = Value.ref a := ru
    obtain ⟨its, r, ⟨o, ho, hc, _⟩, z⟩ := I.tuple (hK ▸ ex_t e h1)
    exact fun A Q E s k q => wpAny_typeOf_ref (k _ _ ho) (by rw [hc]; exact q)
  | .lst ds, v, u, n, h, r, ru => by
    cases h
    obtain ⟨a, vs, rfl, h1, _⟩ := rep_lst r
    obtain rfl : u = Value.ref a := ru
    obtain ⟨its, rv, p, hz⟩ := I.list (hK ▸ ex_l e h1)
    obtain ⟨o, ho, hc, _⟩ := p.isList
    exact fun A Q E s k q => wpAny_typeOf_ref (k _ _ ho) (by rw [hc]; exact q)
/-- == by an own __eq__ -/
theorem bo_ownEq {y : D} {tb : Value} (C : FnOk X.prog X.w X.K X.mg X.base CX0 k f fd ps (spP G con)) (hr : Room k X.A) (hb : Binds X.K fd ps ds0) (hd : Dfl G dd ds0) (hs : PySem.W.findIn X.K (.ref (G.cl n)) "__eq__" = some (some (.ref f)))
    (hf : PySem.W.isFn X.K (.ref f) = true) (ht : (tb = .ref (G.cl n) ∧ ∃ gs, y = .ins n gs) ∨ (G.K = X.K ∧ ∃ t, tyD y = some t ∧ tb = .type t ∧ PySem.W.notFirst X.K (G.cl n) (.type t) = true)) (h : con ([.ins n fs, y] ++ dd) K) : BO X G (compareOp .Eq) (.ins n fs) y K := .of fun F H u v Q e r1 r2 q pins s σ uu vv I ru rv => by
  obtain ⟨a, dx, hs1, rfl, ha, _⟩ := rep_ins r1
  obtain rfl : uu = Value.ref a := ru
  obtain ⟨_, _, J⟩ := ins_at I (e _ _ ha)
  obtain ⟨m, hF⟩ := I.fr
  have two : PySem.W.Looks (model X.prog X.w) s.heap (typeOf vv) tb ∧ PySem.W.notFirst X.K (G.cl n) tb = true := by
    rcases ht with ⟨rfl, gs, rfl⟩ | ⟨hK, t, ht, rfl, hn⟩
    · obtain ⟨b, dy, hs2, rfl, hb', _⟩ := rep_ins r2
      obtain rfl : vv = Value.ref b := rv
      obtain ⟨_, _, J'⟩ := ins_at I (e _ _ hb')
      exact ⟨J'.type, by simp [PySem.W.notFirst]⟩
    · exact ⟨ty_looks hK I e ht r2 rv, hn⟩
  refine PySem.W.cmp_K (op := .Eq) hr.units0 hF I.ok.mod.kin J two.1 two.2 hs hf ?_
  exact thn (own_run C hr hb hd e r1 r2 h q I rfl rv) fun u' s' ⟨w, H', I', rw', q'⟩ => back_of rw' ⟨w, H', I', rw', q'⟩
end
end Dv

set_option Elab.async false
set_option maxRecDepth 100000
set_option maxHeartbeats 4000000
namespace Dv
open PySem PySem.Spec PyProof.Rows L2
open Evl (Ex ex_l ex_t)

/-! ### what is walked -/
structure Wlk (G : Gc) (F0 : Hp) (J : It) (ds : List D) : Prop where
  goes : ∀ i H, i < ds.length → Ex F0 H → J.go i H
  stops : ∀ H, Ex F0 H → J.stop ds.length H
  yields : ∀ i F H x H', Ex F0 F → Ex F H → i < ds.length → J.yld i H x H' → ∃ d F', ds[i]? = some d ∧ Step No F H F' H' ∧ rep G F' d x
def SI (X : Cx) (tg iter : Expr) : TI := fun σ H R => ∀ (pins : List (Addr × Obj)) (s : Shared), Inv X pins σ H s → wpAny (model X.prog X.w) X.A (eval iter X.env) (fun v s1 => wpAny (model X.prog X.w) X.A (pyIter v) (PIE X pins σ tg R) X.xe s1) X.xe s
theorem pi_S {X : Cx} {tg iter : Expr} : PI X tg iter (SI X tg iter) := ⟨fun pins s _ _ _ I h => h pins s I⟩
theorem PI.si {X : Cx} {tg iter : Expr} {wi : TI} {σ : L2.St} {H : Hp} {R : It → Hp → Prop} (h : PI X tg iter wi) (q : wi σ H R) : SI X tg iter σ H R := fun pins s I => h.run pins s σ H R I q
structure WI (X : Cx) (G : Gc) (Γ : En) (tg it : Expr) (K : List D → En → Prop) : Prop where
  of ::
  run :  ∀ (σ : L2.St) (F H : Hp) (R : It → Hp → Prop), Envs G X.N F H σ Γ → (∀ (ds : List D) (Γ' : En) (J : It) (F' H' : Hp), Step (Ow σ Γ) F H F' H' → Envs G X.N F' H' σ Γ' → (∀ a, Ow σ Γ' a → Ow σ Γ a) → Wlk G F' J ds → K ds Γ' → R J H') → SI X tg it σ H R
instance (X : Cx) (G : Gc) (Γ : En) (tg it : Expr) (K : List D → En → Prop) : CoeFun (WI X G Γ tg it K) (fun _ =>  ∀ (σ : L2.St) (F H : Hp) (R : It → Hp → Prop), Envs G X.N F H σ Γ → (∀ (ds : List D) (Γ' : En) (J : It) (F' H' : Hp), Step (Ow σ Γ) F H F' H' → Envs G X.N F' H' σ Γ' → (∀ a, Ow σ Γ' a → Ow σ Γ a) → Wlk G F' J ds → K ds Γ' → R J H') → SI X tg it σ H R) := ⟨fun h => h.run⟩
section
variable {X : Cx} {G : Gc} {Γ : En} {tg e e2 : Expr} {K : List D → En → Prop} {p pos tpos : Pos}
theorem wlk_at {F0 : Hp} {J : It} {xs : List V} {Gd : Hp → Prop} {ds : List D} (w : Walk J xs.length Gd (YAt xs)) (hg : ∀ H, Ex F0 H → Gd H) (r : reps G F0 ds xs) : Wlk G F0 J ds := by
  have hl := reps_len r
  refine ⟨fun i H hi e => w.goes i H (by omega) (hg H e), fun H e => hl ▸ w.stops H (hg H e), fun i F H x H' e1 e2 hi y => ?_⟩
  obtain ⟨rfl, hx⟩ := w.yields i H x H' (by omega) (hg H (e1.trans e2)) y
  obtain ⟨d, hd, hr⟩ := reps_get' r hx
  exact ⟨d, F, hd, .refl e2, rep_mono e1 _ _ hr⟩
/-- a list or a tuple -/
theorem wi_seq (hK : G.K = X.K) (h : WE X G Γ e fun d Γ1 => ∃ ds, (d = .lst ds) ∧ K ds Γ1) : WI X G Γ tg e K := .of fun σ F H R E q => by
  refine PI.si (pi_list pe_S) ?_
  refine h σ F H _ E fun d Γ1 v F1 H1 s1 E1 o1 r1 k1 => ?_
  obtain ⟨ds, rfl, k⟩ := k1
  obtain ⟨a, vs, rfl, hs, r⟩ := rep_lst r1
  rw [hK] at hs
  exact ⟨a, rfl, ⟨vs, ex_l E1.ex hs⟩, q ds Γ1 _ F1 H1 s1 E1 o1 (wlk_at walk_list (fun H e => ex_l e hs) r) k⟩
theorem wi_tup (hK : G.K = X.K) (h : WE X G Γ e fun d Γ1 => ∃ ds, (d = .tup ds) ∧ K ds Γ1) : WI X G Γ tg e K := .of fun σ F H R E q => by
  refine PI.si (pi_tup pe_S) ?_
  refine h σ F H _ E fun d Γ1 v F1 H1 s1 E1 o1 r1 k1 => ?_
  obtain ⟨ds, rfl, k⟩ := k1
  obtain ⟨a, vs, rfl, hs, r⟩ := rep_tup r1
  rw [hK] at hs
  exact ⟨a, rfl, ⟨vs, ex_t E1.ex hs⟩, q ds Γ1 _ F1 H1 s1 E1 o1 (wlk_at walk_tup (fun H e => ex_t e hs) r) k⟩
/-- range(n) -/
theorem wi_range (hm : X.mg "range" = none) (h : WE X G Γ e fun d Γ1 => ∃ n : Int, d = .int n ∧ -(2 ^ 62) ≤ n ∧ n < 2 ^ 62 ∧ K ((List.range n.toNat).map fun i => .int (i : Nat)) Γ1) (hg : Gl X "range" := by rfl) (hs : starEach [e] X.env = [(false, eval e X.env)] := by rfl) :
    WI X G Γ tg (.Call (.Name "range" p) [e] [] pos) K := .of fun σ F H R E q => by
  refine PI.si (pi_range1 hg hm (pa_cons pe_S pa_nil (by rw [hs]; rfl)) hs) ?_
  refine h σ F H _ E fun d Γ1 v F1 H1 s1 E1 o1 r1 k1 => ?_
  obtain ⟨n, rfl, h1, h2, k⟩ := k1
  refine ⟨n, by rw [rep_int r1], h1, h2, q _ Γ1 _ F1 H1 s1 E1 o1 ⟨fun i H hi _ => (by show i < n.toNat; simpa using hi), fun H _ => (by show n.toNat ≤ _; simp), fun i F H x H' e1 e2 hi y => ?_⟩ k⟩
  obtain ⟨rfl, rfl⟩ := y
  refine ⟨.int (i : Nat), F, ?_, .refl e2, by rw [Int.zero_add]; exact r_int⟩
  have hi' : i < n.toNat := by simpa using hi
  rw [List.getElem?_map, List.getElem?_range hi'] <;> rfl
/-- zip(a, b) of two lists -/
theorem wi_zip {elts : List Expr} {kk : Nat} (hK : G.K = X.K) (hm : X.mg "zip" = none) (h : WA X G Γ [e, e2] fun zs Γ1 => ∃ xs ys, ((zs = [.lst xs, .lst ys]) ∨ zs = [.tup xs, .tup ys]) ∧ K (xs.zipWith (fun x y => .tup [x, y]) ys) Γ1) (hg : Gl X "zip" := by rfl)
    (hs : starEach [e, e2] X.env = (false, eval e X.env) :: starEach [e2] X.env := by rfl) (hpl : (backTo pos (starEach [e2] X.env)).any (·.1) = false := by rfl) : WI X G Γ (.Tuple elts kk tpos) (.Call (.Name "zip" p) [e, e2] [] pos) K := .of fun σ F H R E q => by
  refine PI.si (RZ.pi_zipA hg hm pa_S hs hpl) ?_
  refine h σ F H _ E fun zs Γ1 vs F1 H1 s1 E1 o1 r1 k1 => ?_
  obtain ⟨xs, ys, hz, k⟩ := k1
  have fin : ∀ {J : It} {us ws : List V} {Gd : Hp → Prop}, reps G F1 xs us → reps G F1 ys ws → (∀ H, Ex F1 H → Gd H) → Walk J (min us.length ws.length) Gd (YPair (fun i => us[i]?) (fun i => ws[i]?)) → Wlk G F1 J (xs.zipWith (fun x y => .tup [x, y]) ys) := fun {J us ws Gd} ru rw' hgd w => by
    have l1 := reps_len ru
    have l2 := reps_len rw'
    have hl : (xs.zipWith (fun x y => D.tup [x, y]) ys).length = min us.length ws.length := by rw [List.length_zipWith, l1, l2]
    refine ⟨fun i H hi e => w.goes i H (hl ▸ hi) (hgd H e), fun H e => hl ▸ w.stops H (hgd H e), fun i F H x H' e1 e2 hi y => ?_⟩
    obtain ⟨T, u, z, rfl, hT, rfl, hu, hz⟩ := w.yields i H x H' (hl ▸ hi) (hgd H (e1.trans e2)) y
    obtain ⟨d1, g1, r1⟩ := reps_get' ru hu
    obtain ⟨d2, g2, r2⟩ := reps_get' rw' hz
    have st : Step No F H (upd F T (.tup [u, z])) (upd H T (.tup [u, z])) := Step.lay e2 hT
    exact ⟨.tup [d1, d2], _, by rw [List.getElem?_zipWith, g1, g2], st, r_tup upd_same (reps_cons (rep_mono (e1.trans st.ex) _ _ r1) (reps_cons (rep_mono (e1.trans st.ex) _ _ r2) reps_nil))⟩
  rcases hz with rfl | rfl
  · obtain ⟨u1, t1, rfl, h1, h2⟩ := reps_cons_inv r1
    obtain ⟨u2, t2, rfl, h3, h4⟩ := reps_cons_inv h2
    rw [reps_nil_inv h4]
    obtain ⟨a, us, rfl, hs1, g1⟩ := rep_lst h1
    obtain ⟨b, ws, rfl, hs2, g2⟩ := rep_lst h3
    rw [hK] at hs1 hs2
    exact ⟨a, b, us, ws, rfl, .inl ⟨ex_l E1.ex hs1, ex_l E1.ex hs2, q _ Γ1 _ F1 H1 s1 E1 o1 (fin g1 g2 (fun H e => ⟨ex_l e hs1, ex_l e hs2⟩) (walk_zip rfl)) k⟩⟩
  · obtain ⟨u1, t1, rfl, h1, h2⟩ := reps_cons_inv r1
    obtain ⟨u2, t2, rfl, h3, h4⟩ := reps_cons_inv h2
    rw [reps_nil_inv h4]
    obtain ⟨a, us, rfl, hs1, g1⟩ := rep_tup h1
    obtain ⟨b, ws, rfl, hs2, g2⟩ := rep_tup h3
    rw [hK] at hs1 hs2
    refine ⟨a, b, us, ws, rfl, .inr ⟨ex_t E1.ex hs1, ex_t E1.ex hs2, q _ Γ1 _ F1 H1 s1 E1 o1 (fin g1 g2 (Gd := fun H => SqT X.K H a us ∧ SqT X.K H b ws) (fun H e => ⟨ex_t e hs1, ex_t e hs2⟩) ⟨fun i H hi q => ?_, fun H q => ⟨us, ws, q.1, q.2, by omega⟩, fun i H v H' _ q y => ?_⟩) k⟩⟩
    · have a1 : i < us.length := by omega
      have a2 : i < ws.length := by omega
      exact ⟨us, ws, us[i], ws[i], q.1, q.2, by simp [a1], by simp [a2]⟩
    · obtain ⟨T, x, z, h1, h2, h3, h4, h5⟩ := y
      exact ⟨T, x, z, h1, h2, h3, h4 us q.1, h5 ws q.2⟩
/-- enumerate(list) -/
theorem wi_enum {elts : List Expr} {kk : Nat} (hK : G.K = X.K) (hm : X.mg "enumerate" = none) (h : WE X G Γ e fun d Γ1 => ∃ xs, d = .lst xs ∧ K (xs.zipIdx.map fun q => .tup [.int (q.2 : Nat), q.1]) Γ1) (hg : Gl X "enumerate" := by rfl) (hs : starEach [e] X.env = [(false, eval e X.env)] := by rfl) :
    WI X G Γ (.Tuple elts kk tpos) (.Call (.Name "enumerate" p) [e] [] pos) K := .of fun σ F H R E q => by
  refine PI.si (pi_enum hg hm (pa_cons pe_S pa_nil (by rw [hs]; rfl)) hs) ?_
  refine h σ F H _ E fun d Γ1 v F1 H1 s1 E1 o1 r1 k1 => ?_
  obtain ⟨xs, rfl, k⟩ := k1
  obtain ⟨a, us, rfl, hs1, ru⟩ := rep_lst r1
  rw [hK] at hs1
  have l1 := reps_len ru
  have w := walk_enum (K := X.K) (a := a) (xs := us)
  refine ⟨a, us, rfl, ex_l E1.ex hs1, q _ Γ1 _ F1 H1 s1 E1 o1 ⟨fun i H hi e => w.goes i H (by simpa [l1] using hi) (ex_l e hs1), fun H e => ?_, fun i F H x H' e1 e2 hi y => ?_⟩ k⟩
  · have := w.stops H (ex_l e hs1)
    simpa [l1] using this
  · obtain ⟨T, u, z, rfl, hT, rfl, hu, hz⟩ := w.yields i H x H' (by simpa [l1] using hi) (ex_l (e1.trans e2) hs1) y
    cases hu
    obtain ⟨d2, g2, r2⟩ := reps_get' ru hz
    have st : Step No F H (upd F T (.tup [.int (i : Nat), z])) (upd H T (.tup [.int (i : Nat), z])) := Step.lay e2 hT
    refine ⟨.tup [.int (i : Nat), d2], _, ?_, st, r_tup upd_same (reps_cons r_int (reps_cons (rep_mono (e1.trans st.ex) _ _ r2) reps_nil))⟩
    rw [List.getElem?_map, List.getElem?_zipIdx, g2]
    simp
end
end Dv

set_option Elab.async false
set_option maxRecDepth 100000
set_option maxHeartbeats 4000000
/-! a list unpacked to names -/
namespace PySem
open Sem (wp)
open PyProof.Rows
section
variable {prog : Program} {w : World} {A : Around} {E : Value → Shared → Prop} {s : Shared}
theorem draw_listU {it t : Addr} {items : Array Value} (hne : t ≠ it) : ∀ (n i : Nat) (s : Shared) (Q : List Value → Shared → Prop), s.heap.IsListIter it t i → s.heap.IsList t items → i + n ≤ items.size →
    (∀ h', h'.IsListIter it t (i + n) → Heap.SameBut it s.heap h' → Q ((items.toList.drop i).take n) { s with heap := h' }) → wpAny (model prog w) A (draw (.ref it) n) Q E s
  | 0, i, s, Q, hit, _, _, hQ => by
    show wpAny _ _ (pure []) Q E s
    exact wpAny_pure (by simpa using hQ s.heap hit (Heap.SameBut.refl ..))
  | n + 1, i, s, Q, hit, ht, hle, hQ => by
    have hlt : i < items.size := by omega
    show wpAny _ _ (pyNext (.ref it) >>= _) Q E s
    refine wpAny_bind (wpAny_pyNext_list_item hit ht (x := items[i]) (by simp [hlt]) fun h₁ hit₁ hs₁ => ?_)
    refine wpAny_bind (wpAny_holding (draw_listU hne n (i + 1) _ _ hit₁ (ht.at fun o e => hs₁.extBut _ o hne e) (by omega) fun h₂ hit₂ hs₂ => wpAny_pure ?_))
    have hd : items.toList.drop i = items[i] :: items.toList.drop (i + 1) := by simp [List.drop_eq_getElem_cons, hlt]
    have := hQ h₂ (by rw [show i + (n + 1) = i + 1 + n by omega]; exact hit₂) (hs₁.trans hs₂)
    rw [hd, List.take_succ_cons] at this
    exact this
theorem unpackItems_listU {t : Addr} {items : Array Value} {Q : List Value → Shared → Prop} (hh : A.handled = none) (ht : s.heap.IsList t items)
    (hQ : ∀ h', Heap.ExtBut s.heap.objs.size s.heap h' → Q items.toList { s with heap := h' }) : wpAny (model prog w) A (unpackItems (.ref t) items.size none) Q E s := by
  have hlt : t ≠ s.heap.objs.size := by obtain ⟨o, ho, _⟩ := ht; exact Nat.ne_of_lt (Heap.lt_size ho)
  have hT : s.TypeIs (.ref t) "list" := let ⟨o, ho, hc, _⟩ := ht; ⟨o, ho, hc⟩
  unfold unpackItems
  refine wpAny_bind ?_
  · unfold notIterableAtAll
    refine wpAny_bind (wpAny_specialOf hT slot_list_iter.lookup ?_)
    refine wpAny_pure ?_
    simp only [Bool.false_eq_true, if_false]
    refine wpAny_bind (wpAny_holding (wpAny_pyIter_list ht ?_))
    refine wpAny_bind (wpAny_holding (draw_listU hlt items.size 0 _ _ ⟨_, Heap.get?_push_size _ rfl, rfl, rfl⟩ (ht.at fun o e => Heap.get?_push_of_some _ e) (by omega) fun h₁ hit₁ hs₁ => ?_))
    have hall : List.take items.size (List.drop 0 items.toList) = items.toList := by
      rw [List.drop_zero]; exact List.take_of_length_le (by simp)
    rw [hall]
    rw [if_neg (by simp)]
    have ht₁ : h₁.IsList t items := (ht.at fun o e => Heap.get?_push_of_some _ e : Heap.IsList _ t items).at fun o e => hs₁.extBut _ o hlt e
    refine wpAny_bind (wpAny_holding (wpAny_pyNext_list_end hh hit₁ ht₁ (by simp) fun h₂ he₂ => ?_))
    simp only [Option.isSome_none, Bool.false_eq_true, if_false]
    refine wpAny_pure (hQ h₂ fun b o hb e => he₂ b o hb (hs₁.extBut b o hb (Heap.get?_push_of_some _ e)))
theorem assign_Tuple_listU {env : Env} {elts : List Expr} {x1} {pos : Pos} {t : Addr} {items : Array Value} {Q : Unit → Shared → Prop} (hh : A.handled = none) (ht : s.heap.IsList t items)
    (hn : (assignEach elts env).length = items.size) (hstar : (assignEach elts env).findIdx? (·.1) = none)
    (h : ∀ h', Heap.ExtBut s.heap.objs.size s.heap h' → wpAny (model prog w) A (assignInOrder ((assignEach elts env).map (·.2)) items.toList) Q E { s with heap := h' }) :
    wpAny (model prog w) A (assign (.Tuple elts x1 pos) env (.ref t)) Q E s := by
  rw [PyProof.Rows.assign_Tuple]
  refine wpAny_bind (wpAny_standAt ?_)
  unfold unpack
  rw [hn, hstar]
  exact wpAny_bind (wpAny_holding (unpackItems_listU hh ht h))
end
end PySem
namespace L2
open PySem PySem.Spec PyProof.Rows
section
variable {X : Cx} {pos : Pos}
/-- (a, b, ..) = a tuple or a list of that length -/
def gSeq (K : PySem.W.Frag) (n : Nat) (t : TGs) : TG := fun v σ H Q => ∃ a xs, v = .ref a ∧ (SqT K H a xs ∨ SqL K H a xs) ∧ xs.length = n ∧ t xs σ H Q
theorem pg_seq {es : List Expr} {k : Nat} {t : TGs} {n : Nat} (hc : X.calm = true) (h : PGs X es t)
    (hn : (assignEach es X.env).length = n := by rfl) (hst : (assignEach es X.env).findIdx? (·.1) = none := by rfl) : PG X (.Tuple es k pos) (gSeq X.K n t) := by
  refine ⟨fun pins s σ H v u Q I r hw => ?_⟩
  obtain ⟨a, xs, e1, hq, hl, hw⟩ := hw
  subst e1
  cases r
  rcases hq with hq | hq
  · obtain ⟨its, rv, ht, hz⟩ := I.tuple hq
    refine assign_Tuple_tuple (I.ok.hd hc) ht (by simp [hn, ← hl, rv.length]) hst fun h' hx => ?_
    have I1 : Inv X pins σ H { s with heap := h' } := I.kept (t' := s.toks) fun b o e => hx b o (Nat.ne_of_lt (Heap.lt_size e)) e
    exact h.run pins _ σ H xs _ Q I1 (by simpa using rv) hw
  · obtain ⟨its, rv, ht, hz⟩ := I.list hq
    refine assign_Tuple_listU (I.ok.hd hc) ht.isList (by simp [hn, ← hl, rv.length]) hst fun h' hx => ?_
    have I1 : Inv X pins σ H { s with heap := h' } := I.kept (t' := s.toks) fun b o e => hx b o (Nat.ne_of_lt (Heap.lt_size e)) e
    exact h.run pins _ σ H xs _ Q I1 (by simpa using rv) hw
end
end L2

set_option Elab.async false
set_option maxRecDepth 100000
set_option maxHeartbeats 4000000
namespace Dv
open PySem PySem.Spec PyProof.Rows L2
open Evl (Ex ex_l ex_t)

/-! ### targets -/
def SG (X : Cx) (tg : Expr) : TG := fun v σ H Q => ∀ (pins : List (Addr × Obj)) (s : Shared) (u : Value), Inv X pins σ H s → RelV v u → wpAny (model X.prog X.w) X.A (assign tg X.env u) (fun _ s' => ∃ σ' H', Inv X pins σ' H' s' ∧ Q σ' H') X.xe s
theorem pg_S {X : Cx} {tg : Expr} : PG X tg (SG X tg) := ⟨fun pins s _ _ _ u _ I r h => h pins s u I r⟩
theorem PG.sg {X : Cx} {tg : Expr} {t : TG} {v : V} {σ : L2.St} {H : Hp} {Q : L2.St → Hp → Prop} (h : PG X tg t) (q : t v σ H Q) : SG X tg v σ H Q := fun pins s u I r => h.run pins s σ H v u Q I r q
/-- the names that are set, each to a datum; slots that own nothing -/
inductive Puts : En → List (Str × D) → En → Prop
  | nil {Γ : En} : Puts Γ [] Γ
  | cons {Γ Γ1 Γ2 : En} {x : Str} {d : D} {s : Sl} {r : List (Str × D)} (h : Put Γ x s (.val d) Γ1) (t : Puts Γ1 r Γ2) : Puts Γ ((x, d) :: r) Γ2
/-- a target takes a datum apart: which name gets what -/
inductive Tgt : Expr → D → List (Str × D) → Prop
  | name {x : Str} {d : D} {pos : Pos} : Tgt (.Name x pos) d [(x, d)]
  | two {x y : Str} {d e : D} {px py pos : Pos} {k : Nat} : Tgt (.Tuple [.Name x px, .Name y py] k pos) (.tup [d, e]) [(x, d), (y, e)]
  | three {x y z : Str} {d e f : D} {px py pz pos : Pos} {k : Nat} : Tgt (.Tuple [.Name x px, .Name y py, .Name z pz] k pos) (.tup [d, e, f]) [(x, d), (y, e), (z, f)]
  | threeL {x y z : Str} {d e f : D} {px py pz pos : Pos} {k : Nat} : Tgt (.Tuple [.Name x px, .Name y py, .Name z pz] k pos) (.lst [d, e, f]) [(x, d), (y, e), (z, f)]

/-- σ' is σ but at vs -/
def But (vs : List Nat) (σ σ' : L2.St) : Prop := wipe σ' vs = wipe σ vs
theorem wipe_at : ∀ (vs : List Nat) (σ : L2.St) (j : Nat), (wipe σ vs)[j]? = if j ∈ vs ∧ j < σ.length then some none else σ[j]?
  | [], σ, j => by simp [wipe]
  | v :: vs, σ, j => by
    unfold wipe
    have ih := wipe_at vs σ j
    have hl := wipe_length σ vs
    by_cases hv : j = v
    · subst hv
      by_cases hj : j < σ.length
      · rw [List.getElem?_set_self (by rw [hl]; exact hj), if_pos ⟨List.mem_cons_self, hj⟩]
      · rw [if_neg (fun z => hj z.2), List.getElem?_eq_none (by rw [List.length_set, hl]; omega), List.getElem?_eq_none (by omega)]
    · rw [List.getElem?_set_ne (Ne.symm hv), ih]
      by_cases hm : j ∈ vs ∧ j < σ.length
      · rw [if_pos hm, if_pos ⟨List.mem_cons_of_mem _ hm.1, hm.2⟩]
      · rw [if_neg hm, if_neg (fun z => hm ⟨(List.mem_cons.mp z.1).resolve_left hv, z.2⟩)]
theorem but_set {vs : List Nat} {σ : L2.St} {i : Nat} {v : Option V} (h : i ∈ vs) : wipe (σ.set i v) vs = wipe σ vs := by
  refine List.ext_getElem? fun j => ?_
  rw [wipe_at, wipe_at, List.length_set]
  by_cases hj : j ∈ vs ∧ j < σ.length
  · rw [if_pos hj, if_pos hj]
  · rw [if_neg hj, if_neg hj]
    by_cases hi : i = j
    · subst hi
      have : ¬ i < σ.length := fun z => hj ⟨h, z⟩
      rw [List.getElem?_eq_none (by rw [List.length_set]; omega), List.getElem?_eq_none (by omega)]
    · rw [List.getElem?_set_ne hi]
section
variable {X : Cx} {G : Gc} {Γ Γ' : En}
/-- the names of a target may be stored to -/
structure TgOk (X : Cx) (tg : Expr) (xs : List Str) : Prop where
  name : ∀ x pos, tg = .Name x pos → (∀ i : Nat, X.N[i]? = some x → PG X (.Name x pos) (gName i))
  two : ∀ x y px py k pos, tg = .Tuple [.Name x px, .Name y py] k pos → (∀ i j : Nat, X.N[i]? = some x → X.N[j]? = some y → PG X (.Tuple [.Name x px, .Name y py] k pos) (gTup X.K 2 (gCons (gName i) (gCons (gName j) gNil))))
  three : ∀ x y z px py pz k pos, tg = .Tuple [.Name x px, .Name y py, .Name z pz] k pos → (∀ i j l : Nat, X.N[i]? = some x → X.N[j]? = some y → X.N[l]? = some z → PG X (.Tuple [.Name x px, .Name y py, .Name z pz] k pos) (gSeq X.K 3 (gCons (gName i) (gCons (gName j) (gCons (gName l) gNil)))))
theorem tgOk_name {x : Str} {pos : Pos} (hN : X.N.Nodup) (hx : Loc X.env.scope x := by first | exact Or.inl rfl | exact Or.inr rfl) (hf : X.fn x = true ∨ X.env.scope.names.lookup x = some .local := by first | exact .inl rfl | exact .inr rfl) : TgOk X (.Name x pos) [x] :=
  ⟨fun y p e i hi => (by cases e; exact pg_name hN hi hx hf), fun x y px py k pos e => (by cases e), fun x y z px py pz k pos e => (by cases e)⟩
theorem tgOk_two {x y : Str} {px py pos : Pos} {k : Nat} (hN : X.N.Nodup) (hc : X.calm = true) (hx : Loc X.env.scope x := by first | exact Or.inl rfl | exact Or.inr rfl) (hf : X.fn x = true ∨ X.env.scope.names.lookup x = some .local := by first | exact .inl rfl | exact .inr rfl)
    (hy : Loc X.env.scope y := by first | exact Or.inl rfl | exact Or.inr rfl) (hfy : X.fn y = true ∨ X.env.scope.names.lookup y = some .local := by first | exact .inl rfl | exact .inr rfl)
    (h2 : ∀ i j : Nat, X.N[i]? = some x → X.N[j]? = some y → PG X (.Tuple [.Name x px, .Name y py] k pos) (gTup X.K 2 (gCons (gName i) (gCons (gName j) gNil))) := by
      intro i j hi hj
      exact pg_tup (by assumption) (pgs_cons (pg_name (by assumption) hi (by assumption) (by assumption)) (pgs_cons (pg_name (by assumption) hj (by assumption) (by assumption)) pgs_nil))) : TgOk X (.Tuple [.Name x px, .Name y py] k pos) [x, y] :=
  ⟨fun x p e => (by cases e), fun x' y' px py k pos e => (by cases e; exact h2), fun x y z px py pz k pos e => (by cases e)⟩
/-- three names, of a tuple or a list -/
theorem tgOk_three {x y z : Str} {px py pz pos : Pos} {k : Nat} (h3 : ∀ i j l : Nat, X.N[i]? = some x → X.N[j]? = some y → X.N[l]? = some z → PG X (.Tuple [.Name x px, .Name y py, .Name z pz] k pos) (gSeq X.K 3 (gCons (gName i) (gCons (gName j) (gCons (gName l) gNil))))) :
    TgOk X (.Tuple [.Name x px, .Name y py, .Name z pz] k pos) [x, y, z] :=
  ⟨fun x p e => (by cases e), fun x' y' px py k pos e => (by cases e), fun x' y' z' px py pz k pos e => (by cases e; exact h3)⟩
/-- a target is set -/
theorem tgt_run {tg : Expr} {d : D} {ps : List (Str × D)} {σ : L2.St} {F H : Hp} {v : V} {Q : L2.St → Hp → Prop} (hK : G.K = X.K) (ok : TgOk X tg (ps.map (·.1))) (E : Envs G X.N F H σ Γ) (ht : Tgt tg d ps) (hp : Puts Γ ps Γ') (r : rep G F d v)
    (q : ∀ σ', Envs G X.N F H σ' Γ' → (∀ a, Ow σ' Γ' a → Ow σ Γ a) → (∀ vs : List Nat, (∀ x ∈ ps.map (·.1), ∀ i : Nat, X.N[i]? = some x → i ∈ vs) → wipe σ' vs = wipe σ vs) → Q σ' H) : SG X tg v σ H Q := by
  have one : ∀ {σ : L2.St} {Γ Γ1 : En} {x : Str} {d : D} {s : Sl} {v : V}, Envs G X.N F H σ Γ → Put Γ x s (.val d) Γ1 → rep G F d v → ∃ i : Nat, X.N[i]? = some x ∧ Envs G X.N F H (σ.set i (some v)) Γ1 ∧ ∀ a, Ow (σ.set i (some v)) Γ1 a → Ow σ Γ a := fun {σ Γ Γ1 x d s v} E hp r => by
    obtain ⟨i, e, e2⟩ := hp.ix
    subst e2
    refine ⟨i, E.name e, E.put e (.inl ⟨d, rfl, r⟩), fun a o => ?_⟩
    rcases Ow.put e E.len o with z | ⟨_, c, z | z⟩
    · exact z
    · cases z
    · cases z
  have thr : ∀ {x y z : Str} {d e f : D} {px py pz pos : Pos} {k : Nat} (a : Addr) (us : List V), (SqT X.K H a us ∨ SqL X.K H a us) → reps G F [d, e, f] us → TgOk X (.Tuple [.Name x px, .Name y py, .Name z pz] k pos) ([(x, d), (y, e), (z, f)].map (·.1)) → Puts Γ [(x, d), (y, e), (z, f)] Γ' →
      (∀ σ', Envs G X.N F H σ' Γ' → (∀ a, Ow σ' Γ' a → Ow σ Γ a) → (∀ vs : List Nat, (∀ w ∈ [(x, d), (y, e), (z, f)].map (·.1), ∀ i : Nat, X.N[i]? = some w → i ∈ vs) → wipe σ' vs = wipe σ vs) → Q σ' H) → SG X (.Tuple [.Name x px, .Name y py, .Name z pz] k pos) (.ref a) σ H Q := fun {x y z d e f px py pz pos k} a us hs ru ok hp q => by
    cases hp with
    | cons h t =>
      cases t with
      | cons h2 t =>
        cases t with
        | cons h3 t =>
          cases t
          obtain ⟨u1, t1, rfl, r1, r2⟩ := reps_cons_inv ru
          obtain ⟨u2, t2, rfl, r3, r4⟩ := reps_cons_inv r2
          obtain ⟨u3, t3, rfl, r5, r6⟩ := reps_cons_inv r4
          obtain rfl := reps_nil_inv r6
          obtain ⟨i, hi, E1, o1⟩ := one E h r1
          obtain ⟨j, hj, E2, o2⟩ := one E1 h2 r3
          obtain ⟨l, hl, E3, o3⟩ := one E2 h3 r5
          refine PG.sg (ok.three _ _ _ _ _ _ _ _ rfl i j l hi hj hl) ⟨a, _, rfl, hs, rfl, u1, _, rfl, u2, _, rfl, u3, _, rfl, rfl, q _ E3 (fun a z => o1 a (o2 a (o3 a z))) fun vs hv => ?_⟩
          rw [but_set (hv _ (by simp) l hl), but_set (hv _ (by simp) j hj), but_set (hv _ (by simp) i hi)]
  cases ht with
  | name =>
    cases hp with
    | cons h t =>
      cases t
      obtain ⟨i, hi, E1, o1⟩ := one E h r
      refine PG.sg (ok.name _ _ rfl i hi) (q _ E1 o1 fun vs hv => ?_)
      exact but_set (hv _ (by simp) i hi)
  | two =>
    cases hp with
    | cons h t =>
      cases t with
      | cons h2 t =>
        cases t
        obtain ⟨a, us, rfl, hs, ru⟩ := rep_tup r
        obtain ⟨u1, t1, rfl, r1, r2⟩ := reps_cons_inv ru
        obtain ⟨u2, t2, rfl, r3, r4⟩ := reps_cons_inv r2
        obtain rfl := reps_nil_inv r4
        obtain ⟨i, hi, E1, o1⟩ := one E h r1
        obtain ⟨j, hj, E2, o2⟩ := one E1 h2 r3
        refine PG.sg (ok.two _ _ _ _ _ _ rfl i j hi hj) ⟨a, _, rfl, hK ▸ ex_t E.ex hs, rfl, u1, _, rfl, u2, _, rfl, rfl, q _ E2 (fun a z => o1 a (o2 a z)) fun vs hv => ?_⟩
        rw [but_set (hv _ (by simp) j hj), but_set (hv _ (by simp) i hi)]
  | three =>
    obtain ⟨a, us, rfl, hs, ru⟩ := rep_tup r
    exact thr a us (.inl (hK ▸ ex_t E.ex hs)) ru ok hp q
  | threeL =>
    obtain ⟨a, us, rfl, hs, ru⟩ := rep_lst r
    exact thr a us (.inr (hK ▸ ex_l E.ex hs)) ru ok hp q

/-! ### comprehensions -/
def BE (X : Cx) (scope : Scope) (e : Expr) : TE := fun σ H Q => ∀ (s : Shared) (H0 : Hp) (C : Addr) (cl : List (Str × Addr)) (fp : List Addr), SE (X.blk s H0 scope (compEnvC scope cl C X.env) fp) e σ H Q
def BT (X : Cx) (scope : Scope) (e : Expr) : TT := fun σ H Q => ∀ (s : Shared) (H0 : Hp) (C : Addr) (cl : List (Str × Addr)) (fp : List Addr), ST (X.blk s H0 scope (compEnvC scope cl C X.env) fp) e σ H Q
def BG (X : Cx) (scope : Scope) (e : Expr) : TG := fun v σ H Q => ∀ (s : Shared) (H0 : Hp) (C : Addr) (cl : List (Str × Addr)) (fp : List Addr), SG (X.blk s H0 scope (compEnvC scope cl C X.env) fp) e v σ H Q
theorem Envs.wiped {F H : Hp} {σ : L2.St} {N : List Str} (E : Envs G N F H σ Γ) {vs : List Nat} (h : ∀ i ∈ vs, ∀ x s, Γ[i]? = some (x, s) → s = .un) : Envs G N F H (wipe σ vs) Γ ∧ ∀ a, Ow (wipe σ vs) Γ a → Ow σ Γ a := by
  have keep : ∀ {i : Nat} {x : Str} {s : Sl}, Γ[i]? = some (x, s) → s ≠ .un → (wipe σ vs)[i]? = σ[i]? := fun {i x s} e hs => by
    rw [wipe_at, if_neg (fun z => hs (h i z.1 x s e))]
  have back : ∀ {i : Nat} {v : V}, (wipe σ vs)[i]? = some (some v) → σ[i]? = some (some v) := fun {i v} e => (wipe_some e).1
  refine ⟨⟨E.al, by rw [wipe_length]; exact E.len, E.ex, fun i x d e => ?_, fun i x c e => ?_, fun i x a c e => ?_, fun i j x y s t a e1 e2 e3 e4 h1 h2 => E.dis i j x y s t a e1 e2 (back e3) (back e4) h1 h2⟩, fun a o => ?_⟩
  · rw [keep e (fun z => nomatch z)]; exact E.val i x d e
  · rw [keep e (fun z => nomatch z)]; exact E.own i x c e
  · rw [keep e (fun z => nomatch z)]; exact E.bor i x a c e
  · obtain ⟨i, x, s, e, q, z⟩ := o
    exact ⟨i, x, s, back e, q, z⟩
end
end Dv
set_option Elab.async false
set_option maxRecDepth 100000
set_option maxHeartbeats 4000000
namespace Dv
open PySem PySem.Spec PyProof.Rows L2
open Evl (Ex ex_l ex_t)
section
variable {X : Cx} {G : Gc} {Γ Γ' : En}
theorem nun_of {s : Sl} {a : Addr} (z : s.at a) : s ≠ .un := fun q => by
  obtain ⟨c, z | z⟩ := z <;> (rw [q] at z; cases z)
theorem Envs.unwiped {F H : Hp} {σ : L2.St} {N : List Str} {vs : List Nat} (E : Envs G N F H (wipe σ vs) Γ) (h : ∀ i ∈ vs, ∀ x s, Γ[i]? = some (x, s) → s = .un) : Envs G N F H σ Γ ∧ ∀ a, Ow σ Γ a → Ow (wipe σ vs) Γ a := by
  have keep : ∀ {i : Nat} {x : Str} {s : Sl}, Γ[i]? = some (x, s) → s ≠ .un → σ[i]? = (wipe σ vs)[i]? := fun {i x s} e hs => by
    rw [wipe_at, if_neg (fun z => hs (h i z.1 x s e))]
  refine ⟨⟨E.al, by rw [← E.len, wipe_length], E.ex, fun i x d e => ?_, fun i x c e => ?_, fun i x a c e => ?_, fun i j x y s t a e1 e2 e3 e4 h1 h2 => E.dis i j x y s t a e1 e2 (by rw [← keep e1 (nun_of h1)]; exact e3) (by rw [← keep e2 (nun_of h2)]; exact e4) h1 h2⟩, fun a o => ?_⟩
  · rw [keep e (fun z => nomatch z)]; exact E.val i x d e
  · rw [keep e (fun z => nomatch z)]; exact E.own i x c e
  · rw [keep e (fun z => nomatch z)]; exact E.bor i x a c e
  · obtain ⟨i, x, s, e, q, z⟩ := o
    exact ⟨i, x, s, by rw [← keep q (nun_of z)]; exact e, q, z⟩
inductive Forget : En → List Str → En → Prop
  | nil {Γ : En} : Forget Γ [] Γ
  | cons {Γ Γ1 Γ2 : En} {x : Str} {s : Sl} {r : List Str} (h : Put Γ x s .un Γ1) (t : Forget Γ1 r Γ2) : Forget Γ (x :: r) Γ2
theorem Envs.forget1 {F H : Hp} {σ : L2.St} {N : List Str} (E : Envs G N F H σ Γ) {x : Str} {s : Sl} (h : Put Γ x s .un Γ') : Envs G N F H σ Γ' ∧ ∀ a, Ow σ Γ' a → Ow σ Γ a := by
  obtain ⟨i, e, e2⟩ := h.ix
  subst e2
  have hi : i < Γ.length := (List.getElem?_eq_some_iff.mp e).1
  have at_ : ∀ {j : Nat} {y : Str} {t : Sl}, (Γ.set i (x, .un))[j]? = some (y, t) → t ≠ .un → Γ[j]? = some (y, t) := fun {j y t} q hn => by
    rcases set_at hi q with ⟨_, _, z⟩ | ⟨_, z⟩
    · exact absurd z hn
    · exact z
  refine ⟨⟨by rw [set_al e]; exact E.al, by rw [List.length_set]; exact E.len, E.ex, fun i x d e => E.val i x d (at_ e (fun z => nomatch z)), fun i x c e => E.own i x c (at_ e (fun z => nomatch z)), fun i x a c e => E.bor i x a c (at_ e (fun z => nomatch z)),
    fun i j x y s t a e1 e2 e3 e4 h1 h2 => E.dis i j x y s t a (at_ e1 (nun_of h1)) (at_ e2 (nun_of h2)) e3 e4 h1 h2⟩, fun a o => ?_⟩
  obtain ⟨j, y, t, q, q2, z⟩ := o
  exact ⟨j, y, t, q, at_ q2 (nun_of z), z⟩
theorem Envs.forget {F H : Hp} {σ : L2.St} {N xs : List Str} (h : Forget Γ xs Γ') : Envs G N F H σ Γ → Envs G N F H σ Γ' ∧ ∀ a, Ow σ Γ' a → Ow σ Γ a := by
  induction h with
  | nil => exact fun E => ⟨E, fun _ o => o⟩
  | cons h t ih => exact fun E =>
      let ⟨E1, o1⟩ := E.forget1 h
      let ⟨E2, o2⟩ := ih E1
      ⟨E2, fun a o => o1 a (o2 a o)⟩
theorem Forget.keep {xs : List Str} (h : Forget Γ xs Γ') {i : Nat} {x : Str} : Γ[i]? = some (x, .un) → Γ'[i]? = some (x, .un) := by
  induction h with
  | nil => exact fun e => e
  | cons h t ih =>
    intro e
    refine ih ?_
    obtain ⟨j, e1, e2⟩ := h.ix
    subst e2
    by_cases hj : i = j
    · subst hj
      rw [e] at e1
      cases e1
      rw [List.getElem?_set_self (List.getElem?_eq_some_iff.mp e).1]
    · rw [List.getElem?_set_ne (Ne.symm hj)]; exact e
theorem Forget.un {xs : List Str} (h : Forget Γ xs Γ') : ∀ x ∈ xs, ∃ i : Nat, Γ'[i]? = some (x, .un) := by
  induction h with
  | nil => intro x hx; cases hx
  | cons h t ih =>
    intro x hx
    rcases List.mem_cons.mp hx with rfl | hx
    · obtain ⟨j, e1, e2⟩ := h.ix
      subst e2
      exact ⟨j, t.keep (by rw [List.getElem?_set_self (List.getElem?_eq_some_iff.mp e1).1])⟩
    · exact ih x hx
theorem wipe_wipe (σ : L2.St) (vs : List Nat) : wipe (wipe σ vs) vs = wipe σ vs := by
  refine List.ext_getElem? fun j => ?_
  rw [wipe_at, wipe_length]
  by_cases h : j ∈ vs ∧ j < σ.length
  · rw [if_pos h, wipe_at, if_pos h]
  · rw [if_neg h]
theorem Step.grow {O : Addr → Prop} {F H F' H' : Hp} {p : Addr} {o : HO} (s : Step O F H F' H') (hp : H p = none) (hf : F' p = none) : Step O F H F' (upd H' p o) :=
  ⟨s.ex, fun a u z => by rw [upd_ne (ne_of_none z hf)]; exact s.sub a u z, fun a u n z => by rw [upd_ne (ne_of_none z hp)]; exact s.keep a u n z, s.new, fun a z => by
    by_cases ha : a = p
    · subst ha; rw [upd_same]; simp
    · rw [upd_ne ha]; exact s.dom a z⟩
/-- a word over the turns: what is made so far, and the slots -/
abbrev Wd := Nat → List D → En → Prop
/-- a new list by a reading -/
structure WR (X : Cx) (G : Gc) (Γ : En) (te : TE) (K : List D → En → Prop) : Prop where
  of ::
  run :  ∀ (σ : L2.St) (F H : Hp) (Q : VK), Envs G X.N F H σ Γ → (∀ (ds : List D) (Γ' : En) (p : Addr) (vs : List V) (F' H' : Hp), Step (Ow σ Γ) F H F' H' → Envs G X.N F' H' σ Γ' → (∀ a, Ow σ Γ' a → Ow σ Γ a) → H p = none → F' p = none → H' p = some (.lst vs) → reps G F' ds vs → K ds Γ' → Q (.ref p) H') → te σ H Q
instance (X : Cx) (G : Gc) (Γ : En) (te : TE) (K : List D → En → Prop) : CoeFun (WR X G Γ te K) (fun _ =>  ∀ (σ : L2.St) (F H : Hp) (Q : VK), Envs G X.N F H σ Γ → (∀ (ds : List D) (Γ' : En) (p : Addr) (vs : List V) (F' H' : Hp), Step (Ow σ Γ) F H F' H' → Envs G X.N F' H' σ Γ' → (∀ a, Ow σ Γ' a → Ow σ Γ a) → H p = none → F' p = none → H' p = some (.lst vs) → reps G F' ds vs → K ds Γ' → Q (.ref p) H') → te σ H Q) := ⟨fun h => h.run⟩
/-- the reading of [elt for tg in iter ..] -/
abbrev LcR (X : Cx) (tg iter : Expr) (scope : Scope) (elt : Expr) (tt : TT) (own : List (Str × Nat)) : TE := tLc (SI X tg iter) (BG X scope tg) tt (BE X scope elt) (own.map (·.2))
/-- the core: the tests' reading tt, what it asks of data -/
theorem wr_core {tg elt iter : Expr} {scope : Scope} {own : List (Str × Nat)} {tt : TT} {TT' : En → (Bool → En → Prop) → Prop} {KA : List D → En → Prop} (hK : G.K = X.K) (hN : X.N.Nodup) (ok : BlkOk X.N X.env.scope scope own)
    (hT : ∀ (Γ3 : En) (KT : Bool → En → Prop) (σ : L2.St) (F H : Hp) (Q : Bool → Hp → Prop), TT' Γ3 KT → Envs G X.N F H σ Γ3 → (∀ (b : Bool) (Γ' : En) (F' H' : Hp), Step (Ow σ Γ3) F H F' H' → Envs G X.N F' H' σ Γ' → (∀ a, Ow σ Γ' a → Ow σ Γ3 a) → KT b Γ' → Q b H') → tt σ H Q)
    (hg : ∀ (s : Shared) (H : Hp) (C : Addr) (cl : List (Str × Addr)) (fp : List Addr), TgOk (X.blk s H scope (compEnvC scope cl C X.env) fp) tg (own.map (·.1)))
    (h : WI X G Γ tg iter fun ds Γ1 => ∃ (Γb : En) (Pv : Wd), Forget Γ1 (own.map (·.1)) Γb ∧ Pv 0 [] Γb ∧ (∀ i acc Γ2, i ≤ ds.length → Pv i acc Γ2 → acc.length ≤ 100000) ∧
      (∀ i d acc Γ2, ds[i]? = some d → Pv i acc Γ2 → ∃ ps Γ3, Tgt tg d ps ∧ ps.map (·.1) = own.map (·.1) ∧ Puts Γ2 ps Γ3 ∧ TT' Γ3 fun b Γ4 => if b = true then
          (∀ (s : Shared) (H : Hp) (C : Addr) (cl : List (Str × Addr)) (fp : List Addr), WE (X.blk s H scope (compEnvC scope cl C X.env) fp) G Γ4 elt fun z Γ5 => ∃ Γ6, Forget Γ5 (own.map (·.1)) Γ6 ∧ Pv (i + 1) (acc ++ [z]) Γ6)
        else ∃ Γ6, Forget Γ4 (own.map (·.1)) Γ6 ∧ Pv (i + 1) acc Γ6) ∧
      (∀ acc Γ2, Pv ds.length acc Γ2 → KA acc Γ2)) : WR X G Γ (LcR X tg iter scope elt tt own) KA := .of fun σ F H Q E q => by
  refine h σ F H _ E fun ds Γ1 J F1 H1 s1 E1 o1 wk k1 => ?_
  obtain ⟨Γb, Pv, hfg, hp0, hlen, hturn, hend⟩ := k1
  intro Dl hD
  have idx : ∀ {Γ2 : En}, (∀ x ∈ own.map (·.1), ∃ i : Nat, Γ2[i]? = some (x, .un)) → X.N = Γ2.map (·.1) → ∀ i ∈ own.map (·.2), ∀ x s, Γ2[i]? = some (x, s) → s = .un := fun {Γ2} hu al i hi x s e => by
    obtain ⟨p, hp, rfl⟩ := List.mem_map.mp hi
    have hx : X.N[p.2]? = some x := by rw [al, List.getElem?_map, e] <;> rfl
    have hx2 := ok.ix p hp
    rw [hx2] at hx
    cases hx
    obtain ⟨j, ej⟩ := hu p.1 (List.mem_map.mpr ⟨p, hp, rfl⟩)
    have hj : X.N[j]? = some p.1 := by rw [al, List.getElem?_map, ej] <;> rfl
    have hij := nodup_ix hN hx2 hj
    rw [← hij, e] at ej
    cases ej
    rfl
  obtain ⟨Eb, ob⟩ := Envs.forget hfg E1
  obtain ⟨Ew, ow⟩ := Eb.wiped (idx hfg.un Eb.al)
  have hDF : F1 Dl = none := ex_none E1.ex hD
  have hDO : ¬ Ow (wipe σ (own.map (·.2))) Γb Dl := Ew.fresh hD
  refine lc_it (n := ds.length) (G := fun H => Ex F1 H) (Y := fun i H x H' => J.yld i H x H') ⟨fun i H hi g => wk.goes i H hi g, fun H g => wk.stops H g, fun i H x H' hi g y => y⟩
    (fun i H' => ∃ (F' : Hp) (acc : List D) (vs : List V) (Γ2 : En), Envs G X.N F' H' (wipe σ (own.map (·.2))) Γ2 ∧ Pv i acc Γ2 ∧ (∀ x ∈ own.map (·.1), ∃ i : Nat, Γ2[i]? = some (x, .un)) ∧ H' Dl = some (.lst vs) ∧ F' Dl = none ∧ reps G F' acc vs ∧
      Step (Ow (wipe σ (own.map (·.2))) Γb) F1 H1 F' H' ∧ (∀ a, Ow (wipe σ (own.map (·.2))) Γ2 a → Ow (wipe σ (own.map (·.2))) Γb a)) ?_ ?_ ?_ ?_
  · exact ⟨F1, [], [], Γb, Ew.step (Step.lay0 E1.ex hD), hp0, hfg.un, upd_same, hDF, reps_nil, (Step.lay0 (O := No) E1.ex hD).mono fun _ z => z.elim, fun _ o => o⟩
  · rintro i H' _ ⟨F', acc, vs, Γ2, E2, _, _, _, _, _, st, _⟩
    exact st.ex.trans E2.ex
  · rintro i x H' H'' hi ⟨F', acc, vs, Γ2, E2, hp, hun, hDl, hDf, hr, st, hO⟩ hy
    obtain ⟨d, F2, hd, st2, rx⟩ := wk.yields i F' H' x H'' st.ex E2.ex hi hy
    obtain ⟨ps, Γ3, htg, hps, hput, hT3⟩ := hturn i d acc Γ2 hd hp
    have E3 := E2.step st2
    have kD : H'' Dl = some (.lst vs) := st2.keep Dl _ (fun z => z) hDl
    have nfD : ∀ {O : Addr → Prop} {Fa Ha Fb Hb : Hp}, Step O Fa Ha Fb Hb → ¬ O Dl → Fa Dl = none → Ha Dl = some (.lst vs) → Fb Dl = none := fun {O Fa Ha Fb Hb} st hn h1 h2 => by
      cases z : Fb Dl with
      | none => rfl
      | some u =>
        rcases st.new Dl u z with y | y | y
        · rw [h1] at y; cases y
        · rw [h2] at y; cases y
        · exact absurd y hn
    have fD : F2 Dl = none := nfD st2 (fun z => z) hDf hDl
    have hl := hlen i acc Γ2 (Nat.le_of_lt hi) hp
    intro sb Hb Cb clb fpb
    refine tgt_run (X := X.blk sb Hb scope (compEnvC scope clb Cb X.env) fpb) hK (by rw [hps]; exact hg sb Hb Cb clb fpb) E3 htg hput rx fun σ2 E4 o4 hw => ?_
    have hw2 : wipe σ2 (own.map (·.2)) = wipe σ (own.map (·.2)) := by
      rw [hw (own.map (·.2)) (fun x hx i hi => ?_), wipe_wipe]
      rw [hps] at hx
      obtain ⟨p, hp, rfl⟩ := List.mem_map.mp hx
      have := nodup_ix hN (ok.ix p hp) hi
      exact this ▸ List.mem_map.mpr ⟨p, hp, rfl⟩
    refine ⟨hw2, ?_⟩
    have O4 : ∀ a, Ow σ2 Γ3 a → Ow (wipe σ (own.map (·.2))) Γb a := fun a z => hO a (o4 a z)
    have st3 : Step (Ow (wipe σ (own.map (·.2))) Γb) F1 H1 F2 H'' := st.trans st2 fun _ z => z.elim
    refine hT Γ3 _ σ2 F2 H'' _ hT3 E4 fun b Γ4 F4 H4 s4 E5 o5 k4 => ?_
    have kD4 : H4 Dl = some (.lst vs) := s4.keep Dl _ (fun z => hDO (O4 _ z)) kD
    have fD4 : F4 Dl = none := nfD s4 (fun z => hDO (O4 _ z)) fD kD
    have st4 : Step (Ow (wipe σ (own.map (·.2))) Γb) F1 H1 F4 H4 := st3.trans s4 fun a z => .inl (O4 a z)
    have r4 : reps G F4 acc vs := reps_mono (st2.ex.trans s4.ex) _ _ hr
    cases b with
    | true =>
      rw [if_pos rfl] at k4
      refine iteT ?_
      intro se He Ce cle fpe
      refine k4 se He Ce cle fpe σ2 F4 H4 _ E5 fun z Γ5 v F5 H5 s5 E6 o6 rz k5 => ?_
      obtain ⟨Γ6, hf6, hp6⟩ := k5
      have O5 : ∀ a, Ow σ2 Γ4 a → Ow (wipe σ (own.map (·.2))) Γb a := fun a z => O4 a (o5 a z)
      have kD5 : H5 Dl = some (.lst vs) := s5.keep Dl _ (fun z => hDO (O5 _ z)) kD4
      have fD5 : F5 Dl = none := nfD s5 (fun z => hDO (O5 _ z)) fD4 kD4
      refine ⟨vs, kD5, by rw [reps_len r4]; exact Nat.lt_of_le_of_lt hl (by decide), ?_⟩
      have st5 : Step (Ow (wipe σ (own.map (·.2))) Γb) F1 H1 F5 H5 := st4.trans s5 fun a z => .inl (O5 a z)
      have O6 : ∀ a, Ow σ2 Γ5 a → Ow (wipe σ (own.map (·.2))) Γb a := fun a z => O5 a (o6 a z)
      have E7 : Envs G X.N F5 (upd H5 Dl (.lst (vs ++ [v]))) σ2 Γ5 := E6.move (Ex.refl F5) (fun a u z => by rw [upd_ne (ne_of_none z fD5)]; exact E6.ex a u z) (fun a u o z => by
        have ha : a ≠ Dl := fun za => hDO (by rw [← za]; exact O6 a o)
        rw [upd_ne ha]; exact z) (fun a o => (E6.owF o).1)
      obtain ⟨E8, o8⟩ := Envs.forget hf6 E7
      obtain ⟨E9, o9⟩ := E8.wiped (idx hf6.un E8.al)
      rw [hw2] at E9 o9
      exact ⟨F5, acc ++ [z], vs ++ [v], Γ6, E9, hp6, hf6.un, upd_same, fD5, reps_app (reps_mono s5.ex _ _ r4) (reps_cons rz reps_nil), st5.grow hD fD5, fun a z => O6 a (o8 a (o9 a z))⟩
    | false =>
      rw [if_neg Bool.false_ne_true] at k4
      refine iteF ?_
      obtain ⟨Γ6, hf6, hp6⟩ := k4
      obtain ⟨E8, o8⟩ := Envs.forget hf6 E5
      obtain ⟨E9, o9⟩ := E8.wiped (idx hf6.un E8.al)
      rw [hw2] at E9 o9
      exact ⟨F4, acc, vs, Γ6, E9, hp6, hf6.un, kD4, fD4, r4, st4, fun a z => O4 a (o5 a (o8 a (o9 a z)))⟩
  · rintro H' ⟨F', acc, vs, Γ2, E2, hp, hun, hDl, hDf, hr, st, hO⟩
    obtain ⟨E3, o3⟩ := E2.unwiped (idx hun E2.al)
    have O3 : ∀ a, Ow σ Γ2 a → Ow σ Γ1 a := fun a z => ob a (ow a (hO a (o3 a z)))
    exact q acc Γ2 Dl vs F' H' (s1.trans (st.mono fun a z => ob a (ow a z)) fun a z => .inl (o1 a z)) E3 (fun a z => o1 a (O3 a z)) (s1.back hD) hDf hDl hr (hend acc Γ2 hp)
/-- as a value -/
theorem wl_of {tg elt iter : Expr} {ifs : List Expr} {scope : Scope} {own : List (Str × Nat)} {pos : Pos} {tt : TT} {KA : List D → En → Prop} (hc : X.calm = true) (hN : X.N.Nodup) (ok : BlkOk X.N X.env.scope scope own)
    (ht : ∀ (s : Shared) (H : Hp) (C : Addr) (cl : List (Str × Addr)) (fp : List Addr), PTs (X.blk s H scope (compEnvC scope cl C X.env) fp) ifs tt) (h : WR X G Γ (LcR X tg iter scope elt tt own) KA)
    (hs : ∀ x, foldedSetIterable iter X.env x = pure x := by intro _; rfl) : WL X G Γ (.ListComp elt [⟨tg, iter, ifs, 0⟩] scope pos) KA := .of fun σ F H Q E q =>
  PE.se (pe_lc (g := BG X scope tg) (te := BE X scope elt) hc hN pi_S ok (fun s H C cl fp => ⟨fun pins s' σ H' v u Q I r z => z s H C cl fp pins s' u I r⟩) ht (fun s H C cl fp => ⟨fun pins s' σ H' Q I z => z s H C cl fp pins s' I⟩) hs) (h σ F H Q E q)
/-- y = [..] on one line -/
theorem ws_of {y : Str} {py spos : Pos} {tg elt iter : Expr} {ifs : List Expr} {scope : Scope} {own : List (Str × Nat)} {pos : Pos} {tt : TT} {K : Ot → Prop} (hc : X.calm = true) (hN : X.N.Nodup) (hyl : X.env.scope.names.lookup y = some .local) (ok : BlkOk X.N X.env.scope scope own)
    (ht : ∀ (s : Shared) (H : Hp) (C : Addr) (cl : List (Str × Addr)) (fp : List Addr), PTs (X.blk s H scope (compEnvC scope cl C X.env) fp) ifs tt) (h : WR X G Γ (LcR X tg iter scope elt tt own) fun ds Γ1 => ∃ s0 Γ2, Put Γ1 y s0 (.own (.lst ds)) Γ2 ∧ K (.nx Γ2))
    (hy : ∃ i : Nat, X.N[i]? = some y) (hsw : swapsWith (.ListComp elt [⟨tg, iter, ifs, 0⟩] scope pos) (some (.Name y py)) spos.line X.env = pure true) (hs : ∀ x, foldedSetIterable iter X.env x = pure x := by intro _; rfl) :
    WS X G Γ (.Assign [.Name y py] (.ListComp elt [⟨tg, iter, ifs, 0⟩] scope pos) spos) K := .of fun σ F H D E q => by
  obtain ⟨i, hi⟩ := hy
  refine PS.ss (ps_setLc (i := i) (g := BG X scope tg) (te := BE X scope elt) hc hN hi hyl hsw pi_S ok (fun s H C cl fp => ⟨fun pins s' σ H' v u Q I r z => z s H C cl fp pins s' u I r⟩) ht (fun s H C cl fp => ⟨fun pins s' σ H' Q I z => z s H C cl fp pins s' I⟩) hs) ?_
  refine h σ F H (fun v H' => gName i v σ H' D.nx) E fun ds Γ1 p vs F' H' s1 E' o hp0 hf0 hp1 r k => ?_
  obtain ⟨s0, Γ2, hp, k⟩ := k
  obtain ⟨j, e, e2⟩ := hp.ix
  subst e2
  obtain rfl := nodup_ix hN hi (E'.name e)
  refine q.nx _ _ F' H' ⟨s1, E'.put e (.inr ⟨p, .lst ds, rfl, rfl, hf0, (show ∃ vs, _ ∧ _ from ⟨vs, hp1, r⟩), fun z => E.fresh hp0 (o p z)⟩), fun a z => ?_⟩ k
  rcases Ow.put e E'.len z with z | ⟨z, _⟩
  · exact .inl (o a z)
  · cases z
    exact .inr hp0
end
end Dv

set_option Elab.async false
set_option maxRecDepth 100000
set_option maxHeartbeats 4000000
namespace Dv
open PySem PySem.Spec PyProof.Rows L2
open Evl (Ex ex_l ex_t)

/-! ### comprehensions, the usual ones -/
section
variable {X : Cx} {G : Gc} {Γ Γ' : En} {tg elt iter c : Expr} {scope : Scope} {own : List (Str × Nat)} {pos : Pos} {KA : List D → En → Prop}
/-- [elt for tg in iter], each item by itself -/
theorem wr_map (g : D → D) (hK : G.K = X.K) (hN : X.N.Nodup) (ok : BlkOk X.N X.env.scope scope own)
    (hg : ∀ (s : Shared) (H : Hp) (C : Addr) (cl : List (Str × Addr)) (fp : List Addr), TgOk (X.blk s H scope (compEnvC scope cl C X.env) fp) tg (own.map (·.1)))
    (h : WI X G Γ tg iter fun ds Γ1 => ∃ Γb, Forget Γ1 (own.map (·.1)) Γb ∧ ds.length ≤ 100000 ∧
      (∀ d ∈ ds, ∃ ps Γ3, Tgt tg d ps ∧ ps.map (·.1) = own.map (·.1) ∧ Puts Γb ps Γ3 ∧ ∀ (s : Shared) (H : Hp) (C : Addr) (cl : List (Str × Addr)) (fp : List Addr), WE (X.blk s H scope (compEnvC scope cl C X.env) fp) G Γ3 elt fun z Γ5 => z = g d ∧ Forget Γ5 (own.map (·.1)) Γb) ∧
      KA (ds.map g) Γb) : WR X G Γ (LcR X tg iter scope elt tYes own) KA := by
  refine wr_core (tt := tYes) (TT' := fun Γ3 K => K true Γ3) hK hN ok (fun Γ3 KT σ F H Q k E q => q true Γ3 F H (.refl E.ex) E (fun _ h => h) k) hg (.of fun σ F H R E q => h σ F H R E fun ds Γ1 J F' H' s E' o w k => q ds Γ1 J F' H' s E' o w ?_)
  obtain ⟨Γb, hf, hl, ht, k⟩ := k
  refine ⟨Γb, fun i acc Γ2 => i ≤ ds.length ∧ acc = (ds.take i).map g ∧ Γ2 = Γb, hf, ⟨Nat.zero_le _, rfl, rfl⟩, fun i acc Γ2 hi p => ?_, fun i d acc Γ2 hd p => ?_, fun acc Γ2 p => ?_⟩
  · rw [p.2.1, List.length_map, List.length_take]; omega
  · obtain ⟨hi, rfl, rfl⟩ := p
    obtain ⟨ps, Γ3, t1, t2, t3, t4⟩ := ht d (List.mem_of_getElem? hd)
    refine ⟨ps, Γ3, t1, t2, t3, ?_⟩
    refine iteT ?_
    intro s H C cl fp
    refine we_mono (t4 s H C cl fp) fun z Γ5 hz => ?_
    obtain ⟨rfl, hz⟩ := hz
    have hlt := (List.getElem?_eq_some_iff.mp hd).1
    refine ⟨Γ2, hz, hlt, ?_, rfl⟩
    rw [List.take_succ, hd, List.map_append] <;> rfl
  · obtain ⟨_, rfl, rfl⟩ := p
    rw [List.take_length]
    exact k
/-- [elt for tg in iter if c] -/
theorem wr_filter (t : D → Bool) (g : D → D) (hK : G.K = X.K) (hN : X.N.Nodup) (ok : BlkOk X.N X.env.scope scope own)
    (hg : ∀ (s : Shared) (H : Hp) (C : Addr) (cl : List (Str × Addr)) (fp : List Addr), TgOk (X.blk s H scope (compEnvC scope cl C X.env) fp) tg (own.map (·.1)))
    (h : WI X G Γ tg iter fun ds Γ1 => ∃ Γb, Forget Γ1 (own.map (·.1)) Γb ∧ ds.length ≤ 100000 ∧
      (∀ d ∈ ds, ∃ ps Γ3, Tgt tg d ps ∧ ps.map (·.1) = own.map (·.1) ∧ Puts Γb ps Γ3 ∧ (∀ (s : Shared) (H : Hp) (C : Addr) (cl : List (Str × Addr)) (fp : List Addr), WT (X.blk s H scope (compEnvC scope cl C X.env) fp) G Γ3 c fun b Γ4 => b = t d ∧ Γ4 = Γ3) ∧ Forget Γ3 (own.map (·.1)) Γb ∧
        (t d = true → ∀ (s : Shared) (H : Hp) (C : Addr) (cl : List (Str × Addr)) (fp : List Addr), WE (X.blk s H scope (compEnvC scope cl C X.env) fp) G Γ3 elt fun z Γ5 => z = g d ∧ Forget Γ5 (own.map (·.1)) Γb)) ∧
      KA ((ds.filter t).map g) Γb) : WR X G Γ (LcR X tg iter scope elt (BT X scope c) own) KA := by
  refine wr_core (tt := BT X scope c) (TT' := fun Γ3 K => ∀ (s : Shared) (H : Hp) (C : Addr) (cl : List (Str × Addr)) (fp : List Addr), WT (X.blk s H scope (compEnvC scope cl C X.env) fp) G Γ3 c K) hK hN ok
    (fun Γ3 KT σ F H Q k E q s0 H0 C cl fp => k s0 H0 C cl fp σ F H Q E q) hg (.of fun σ F H R E q => h σ F H R E fun ds Γ1 J F' H' s E' o w k => q ds Γ1 J F' H' s E' o w ?_)
  obtain ⟨Γb, hf, hl, ht, k⟩ := k
  refine ⟨Γb, fun i acc Γ2 => i ≤ ds.length ∧ acc = ((ds.take i).filter t).map g ∧ Γ2 = Γb, hf, ⟨Nat.zero_le _, rfl, rfl⟩, fun i acc Γ2 hi p => ?_, fun i d acc Γ2 hd p => ?_, fun acc Γ2 p => ?_⟩
  · rw [p.2.1, List.length_map]
    have := List.length_filter_le t (ds.take i)
    rw [List.length_take] at this
    omega
  · obtain ⟨hi, rfl, rfl⟩ := p
    obtain ⟨ps, Γ3, t1, t2, t3, t4, t5, t6⟩ := ht d (List.mem_of_getElem? hd)
    have hlt := (List.getElem?_eq_some_iff.mp hd).1
    refine ⟨ps, Γ3, t1, t2, t3, fun s H C cl fp => ?_⟩
    have tk : ds.take (i + 1) = ds.take i ++ [d] := by rw [List.take_succ, hd] <;> rfl
    refine .of fun σ F H Q E q => t4 s _ C cl fp σ F H Q E fun b Γ' F' H' s' E' o kb => q b Γ' F' H' s' E' o ?_
    obtain ⟨rfl, rfl⟩ := kb
    cases htd : t d with
    | true =>
      refine iteT ?_
      intro s H C cl fp
      refine we_mono (t6 htd s H C cl fp) fun z Γ5 hz => ?_
      obtain ⟨rfl, hz⟩ := hz
      refine ⟨Γ2, hz, hlt, ?_, rfl⟩
      rw [tk, List.filter_append, List.map_append, List.filter_cons, if_pos htd] <;> rfl
    | false =>
      refine iteF ?_
      refine ⟨Γ2, t5, hlt, ?_, rfl⟩
      rw [tk, List.filter_append, List.map_append, List.filter_cons, if_neg (by rw [htd]; exact Bool.false_ne_true)]
      simp
  · obtain ⟨_, rfl, rfl⟩ := p
    rw [List.take_length]
    exact k
theorem wl_map (g : D → D) (hK : G.K = X.K) (hc : X.calm = true) (hN : X.N.Nodup) (ok : BlkOk X.N X.env.scope scope own)
    (hg : ∀ (s : Shared) (H : Hp) (C : Addr) (cl : List (Str × Addr)) (fp : List Addr), TgOk (X.blk s H scope (compEnvC scope cl C X.env) fp) tg (own.map (·.1)))
    (h : WI X G Γ tg iter fun ds Γ1 => ∃ Γb, Forget Γ1 (own.map (·.1)) Γb ∧ ds.length ≤ 100000 ∧
      (∀ d ∈ ds, ∃ ps Γ3, Tgt tg d ps ∧ ps.map (·.1) = own.map (·.1) ∧ Puts Γb ps Γ3 ∧ ∀ (s : Shared) (H : Hp) (C : Addr) (cl : List (Str × Addr)) (fp : List Addr), WE (X.blk s H scope (compEnvC scope cl C X.env) fp) G Γ3 elt fun z Γ5 => z = g d ∧ Forget Γ5 (own.map (·.1)) Γb) ∧
      KA (ds.map g) Γb) (hs : ∀ x, foldedSetIterable iter X.env x = pure x := by intro _; rfl) : WL X G Γ (.ListComp elt [⟨tg, iter, [], 0⟩] scope pos) KA := wl_of hc hN ok (fun s H C cl fp => pts_nil) (wr_map g hK hN ok hg h) hs
theorem wl_filter (t : D → Bool) (g : D → D) (hK : G.K = X.K) (hc : X.calm = true) (hN : X.N.Nodup) (ok : BlkOk X.N X.env.scope scope own)
    (hg : ∀ (s : Shared) (H : Hp) (C : Addr) (cl : List (Str × Addr)) (fp : List Addr), TgOk (X.blk s H scope (compEnvC scope cl C X.env) fp) tg (own.map (·.1)))
    (h : WI X G Γ tg iter fun ds Γ1 => ∃ Γb, Forget Γ1 (own.map (·.1)) Γb ∧ ds.length ≤ 100000 ∧
      (∀ d ∈ ds, ∃ ps Γ3, Tgt tg d ps ∧ ps.map (·.1) = own.map (·.1) ∧ Puts Γb ps Γ3 ∧ (∀ (s : Shared) (H : Hp) (C : Addr) (cl : List (Str × Addr)) (fp : List Addr), WT (X.blk s H scope (compEnvC scope cl C X.env) fp) G Γ3 c fun b Γ4 => b = t d ∧ Γ4 = Γ3) ∧ Forget Γ3 (own.map (·.1)) Γb ∧
        (t d = true → ∀ (s : Shared) (H : Hp) (C : Addr) (cl : List (Str × Addr)) (fp : List Addr), WE (X.blk s H scope (compEnvC scope cl C X.env) fp) G Γ3 elt fun z Γ5 => z = g d ∧ Forget Γ5 (own.map (·.1)) Γb)) ∧
      KA ((ds.filter t).map g) Γb) (hs : ∀ x, foldedSetIterable iter X.env x = pure x := by intro _; rfl) : WL X G Γ (.ListComp elt [⟨tg, iter, [c], 0⟩] scope pos) KA := wl_of hc hN ok (fun s H C cl fp => pts_one ⟨fun pins s' σ H' Q I z => z s H C cl fp pins s' I⟩) (wr_filter t g hK hN ok hg h) hs
/-- y = [elt for tg in iter], y = [elt for tg in iter if c], on one line -/
theorem ws_map {y : Str} {py spos : Pos} {K : Ot → Prop} (g : D → D) (hK : G.K = X.K) (hc : X.calm = true) (hN : X.N.Nodup) (hyl : X.env.scope.names.lookup y = some .local) (ok : BlkOk X.N X.env.scope scope own)
    (hg : ∀ (s : Shared) (H : Hp) (C : Addr) (cl : List (Str × Addr)) (fp : List Addr), TgOk (X.blk s H scope (compEnvC scope cl C X.env) fp) tg (own.map (·.1)))
    (h : WI X G Γ tg iter fun ds Γ1 => ∃ Γb, Forget Γ1 (own.map (·.1)) Γb ∧ ds.length ≤ 100000 ∧
      (∀ d ∈ ds, ∃ ps Γ3, Tgt tg d ps ∧ ps.map (·.1) = own.map (·.1) ∧ Puts Γb ps Γ3 ∧ ∀ (s : Shared) (H : Hp) (C : Addr) (cl : List (Str × Addr)) (fp : List Addr), WE (X.blk s H scope (compEnvC scope cl C X.env) fp) G Γ3 elt fun z Γ5 => z = g d ∧ Forget Γ5 (own.map (·.1)) Γb) ∧
      ∃ s0 Γ2, Put Γb y s0 (.own (.lst (ds.map g))) Γ2 ∧ K (.nx Γ2))
    (hy : ∃ i : Nat, X.N[i]? = some y) (hsw : swapsWith (.ListComp elt [⟨tg, iter, [], 0⟩] scope pos) (some (.Name y py)) spos.line X.env = pure true) (hs : ∀ x, foldedSetIterable iter X.env x = pure x := by intro _; rfl) :
    WS X G Γ (.Assign [.Name y py] (.ListComp elt [⟨tg, iter, [], 0⟩] scope pos) spos) K := ws_of hc hN hyl ok (fun s H C cl fp => pts_nil) (wr_map g hK hN ok hg h) hy hsw hs
theorem ws_filter {y : Str} {py spos : Pos} {K : Ot → Prop} (t : D → Bool) (g : D → D) (hK : G.K = X.K) (hc : X.calm = true) (hN : X.N.Nodup) (hyl : X.env.scope.names.lookup y = some .local) (ok : BlkOk X.N X.env.scope scope own)
    (hg : ∀ (s : Shared) (H : Hp) (C : Addr) (cl : List (Str × Addr)) (fp : List Addr), TgOk (X.blk s H scope (compEnvC scope cl C X.env) fp) tg (own.map (·.1)))
    (h : WI X G Γ tg iter fun ds Γ1 => ∃ Γb, Forget Γ1 (own.map (·.1)) Γb ∧ ds.length ≤ 100000 ∧
      (∀ d ∈ ds, ∃ ps Γ3, Tgt tg d ps ∧ ps.map (·.1) = own.map (·.1) ∧ Puts Γb ps Γ3 ∧ (∀ (s : Shared) (H : Hp) (C : Addr) (cl : List (Str × Addr)) (fp : List Addr), WT (X.blk s H scope (compEnvC scope cl C X.env) fp) G Γ3 c fun b Γ4 => b = t d ∧ Γ4 = Γ3) ∧ Forget Γ3 (own.map (·.1)) Γb ∧
        (t d = true → ∀ (s : Shared) (H : Hp) (C : Addr) (cl : List (Str × Addr)) (fp : List Addr), WE (X.blk s H scope (compEnvC scope cl C X.env) fp) G Γ3 elt fun z Γ5 => z = g d ∧ Forget Γ5 (own.map (·.1)) Γb)) ∧
      ∃ s0 Γ2, Put Γb y s0 (.own (.lst ((ds.filter t).map g))) Γ2 ∧ K (.nx Γ2))
    (hy : ∃ i : Nat, X.N[i]? = some y) (hsw : swapsWith (.ListComp elt [⟨tg, iter, [c], 0⟩] scope pos) (some (.Name y py)) spos.line X.env = pure true) (hs : ∀ x, foldedSetIterable iter X.env x = pure x := by intro _; rfl) :
    WS X G Γ (.Assign [.Name y py] (.ListComp elt [⟨tg, iter, [c], 0⟩] scope pos) spos) K := ws_of hc hN hyl ok (fun s H C cl fp => pts_one ⟨fun pins s' σ H' Q I z => z s H C cl fp pins s' I⟩) (wr_filter t g hK hN ok hg h) hy hsw hs
end

/-! ### built-in functions and types -/
def SC (X : Cx) (f : Value) : List V → Hp → VK → Prop := fun xs H Q => ∀ (pins : List (Addr × Obj)) (s : Shared) (σ : L2.St) (us : List Value), Inv X pins σ H s → Vals xs us → wpAny (model X.prog X.w) X.A (call f us) (EP X pins σ Q) X.xe s
theorem cr_S {X : Cx} {f : Value} : CallR X f (SC X f) := fun pins s σ _ _ us _ I r h => h pins s σ us I r
theorem CallR.sc {X : Cx} {f : Value} {r : List V → Hp → VK → Prop} {vs : List V} {H : Hp} {Q : VK} (h : CallR X f r) (q : r vs H Q) : SC X f vs H Q := fun pins s σ us I rv => h pins s σ H vs us Q I rv q
structure CD (X : Cx) (G : Gc) (f : Value) (ds : List D) (K : D → Prop) : Prop where
  of ::
  run :  ∀ (F H : Hp) (vs : List V) (Q : VK), Ex F H → reps G F ds vs → (∀ (z : D) (w : V) (F' H' : Hp), Step No F H F' H' → rep G F' z w → K z → Q w H') → SC X f vs H Q
instance (X : Cx) (G : Gc) (f : Value) (ds : List D) (K : D → Prop) : CoeFun (CD X G f ds K) (fun _ =>  ∀ (F H : Hp) (vs : List V) (Q : VK), Ex F H → reps G F ds vs → (∀ (z : D) (w : V) (F' H' : Hp), Step No F H F' H' → rep G F' z w → K z → Q w H') → SC X f vs H Q) := ⟨fun h => h.run⟩
structure CL (X : Cx) (G : Gc) (f : Value) (ds : List D) (K : List D → Prop) : Prop where
  of ::
  run :  ∀ (F H : Hp) (vs : List V) (Q : VK), Ex F H → reps G F ds vs → (∀ (zs : List D) (p : Addr) (ws : List V), H p = none → reps G F zs ws → K zs → Q (.ref p) (upd H p (.lst ws))) → SC X f vs H Q
instance (X : Cx) (G : Gc) (f : Value) (ds : List D) (K : List D → Prop) : CoeFun (CL X G f ds K) (fun _ =>  ∀ (F H : Hp) (vs : List V) (Q : VK), Ex F H → reps G F ds vs → (∀ (zs : List D) (p : Addr) (ws : List V), H p = none → reps G F zs ws → K zs → Q (.ref p) (upd H p (.lst ws))) → SC X f vs H Q) := ⟨fun h => h.run⟩
section
variable {X : Cx} {G : Gc} {Γ : En} {e : Expr} {es : List Expr} {p pos : Pos} {K : D → En → Prop} {KA : List D → En → Prop} {x : Str} {id T : String}
theorem we_cc {f : Value} {ex : Expr} (hpe : PE X ex (tCB (SC X f) (SA X (e :: es)))) (h : WA X G Γ (e :: es) fun ds Γ1 => CD X G f ds fun z => K z Γ1) : WE X G Γ ex K := .of fun σ F H Q E q => by
  refine PE.se hpe ?_
  refine h σ F H _ E fun ds Γ1 vs F1 H1 s1 E1 o1 r1 k1 => ?_
  exact k1 F1 H1 vs Q E1.ex r1 fun z w F' H' s' r' kz => q z Γ1 w F' H' (stpN s1 s') (E1.step s') o1 r' kz
theorem wl_cc {f : Value} {ex : Expr} (hpe : PE X ex (tCB (SC X f) (SA X (e :: es)))) (h : WA X G Γ (e :: es) fun ds Γ1 => CL X G f ds fun z => KA z Γ1) : WL X G Γ ex KA := .of fun σ F H Q E q => by
  refine PE.se hpe ?_
  refine h σ F H _ E fun ds Γ1 vs F1 H1 s1 E1 o1 r1 k1 => ?_
  refine k1 F1 H1 vs Q E1.ex r1 fun zs p ws hp rz kz => ?_
  have st : Step No F1 H1 F1 (upd H1 p (.lst ws)) := Step.lay0 E1.ex hp
  exact q zs Γ1 p ws F1 _ (stpN s1 st) (E1.step st) o1 (s1.back hp) (ex_none E1.ex hp) upd_same rz kz
theorem we_callB (hv : bootBuiltins x = some (.builtin id)) (hm : X.mg x = none) (h : WA X G Γ (e :: es) fun ds Γ1 => CD X G (.builtin id) ds fun z => K z Γ1) (hg : Gl X x := by rfl) (hn : x ≠ "__name__" := by decide) (hdb : (x == ("__debug__" : Str)) = false := by decide)
    (he : starEach (e :: es) X.env = (false, eval e X.env) :: starEach es X.env := by rfl) (hpl : (backTo pos (starEach es X.env)).any (·.1) = false := by rfl) : WE X G Γ (.Call (.Name x p) (e :: es) [] pos) K := we_cc (pe_callB cr_S hg hm hv pa_S hn hdb he hpl) h
theorem wl_callB (hv : bootBuiltins x = some (.builtin id)) (hm : X.mg x = none) (h : WA X G Γ (e :: es) fun ds Γ1 => CL X G (.builtin id) ds fun z => KA z Γ1) (hg : Gl X x := by rfl) (hn : x ≠ "__name__" := by decide) (hdb : (x == ("__debug__" : Str)) = false := by decide)
    (he : starEach (e :: es) X.env = (false, eval e X.env) :: starEach es X.env := by rfl) (hpl : (backTo pos (starEach es X.env)).any (·.1) = false := by rfl) : WL X G Γ (.Call (.Name x p) (e :: es) [] pos) KA := wl_cc (pe_callB cr_S hg hm hv pa_S hn hdb he hpl) h
theorem we_callT (hv : bootBuiltins x = some (.type T)) (hm : X.mg x = none) (h : WA X G Γ (e :: es) fun ds Γ1 => CD X G (.type T) ds fun z => K z Γ1) (hg : Gl X x := by rfl) (hn : x ≠ "__name__" := by decide) (hdb : (x == ("__debug__" : Str)) = false := by decide)
    (he : starEach (e :: es) X.env = (false, eval e X.env) :: starEach es X.env := by rfl) (hpl : (backTo pos (starEach es X.env)).any (·.1) = false := by rfl) : WE X G Γ (.Call (.Name x p) (e :: es) [] pos) K := we_cc (pe_callTy cr_S hg hm hv pa_S hn hdb he hpl) h
theorem wl_callT (hv : bootBuiltins x = some (.type T)) (hm : X.mg x = none) (h : WA X G Γ (e :: es) fun ds Γ1 => CL X G (.type T) ds fun z => KA z Γ1) (hg : Gl X x := by rfl) (hn : x ≠ "__name__" := by decide) (hdb : (x == ("__debug__" : Str)) = false := by decide)
    (he : starEach (e :: es) X.env = (false, eval e X.env) :: starEach es X.env := by rfl) (hpl : (backTo pos (starEach es X.env)).any (·.1) = false := by rfl) : WL X G Γ (.Call (.Name x p) (e :: es) [] pos) KA := wl_cc (pe_callTy cr_S hg hm hv pa_S hn hdb he hpl) h
/-- a built-in class's name, an own class's -/
theorem we_ty {n : String} (hv : bootBuiltins x = some (.type n)) (hm : X.mg x = none) (k : K (.ty n) Γ) (hg : Gl X x := by rfl) (hn : x ≠ "__name__" := by decide) (hdb : (x == ("__debug__" : Str)) = false := by decide) : WE X G Γ (.Name x pos) K := .of fun σ F H Q E q =>
  PE.se (pe_bltn (v := .ty n) hg hm hv rfl hn hdb) (q (.ty n) Γ _ F H (.refl E.ex) E (fun _ h => h) (by unfold rep; rfl) k)
theorem we_cls {n : Nat} (hm : X.mg x = some (.ref (G.cl n))) (k : K (.cls n) Γ) (hg : Gl X x := by rfl) (hdb : (x == ("__debug__" : Str)) = false := by decide) : WE X G Γ (.Name x pos) K := .of fun σ F H Q E q =>
  PE.se (pe_glob (v := .ref (G.cl n)) hg hm rfl hdb) (q (.cls n) Γ _ F H (.refl E.ex) E (fun _ h => h) (by unfold rep; rfl) k)

variable {KD : D → Prop} {KL : List D → Prop}
theorem reps1 {F : Hp} {d : D} {vs : List V} (h : reps G F [d] vs) : ∃ v, vs = [v] ∧ rep G F d v := by
  obtain ⟨v, t, rfl, h1, h2⟩ := reps_cons_inv h
  rw [reps_nil_inv h2]
  exact ⟨v, rfl, h1⟩
theorem reps2 {F : Hp} {d e : D} {vs : List V} (h : reps G F [d, e] vs) : ∃ v w, vs = [v, w] ∧ rep G F d v ∧ rep G F e w := by
  obtain ⟨v, t, rfl, h1, h2⟩ := reps_cons_inv h
  obtain ⟨w, rfl, h3⟩ := reps1 h2
  exact ⟨v, w, rfl, h1, h3⟩
theorem reps_strs {F : Hp} : ∀ {xs : List Str} {vs : List V}, reps G F (xs.map .str) vs → vs = xs.map .str
  | [], vs, h => reps_nil_inv h
  | x :: r, vs, h => by
    obtain ⟨v, t, rfl, h1, h2⟩ := reps_cons_inv h
    rw [rep_str h1, reps_strs h2] <;> rfl
theorem strs_reps {F : Hp} : ∀ (xs : List Str), reps G F (xs.map .str) (xs.map .str)
  | [] => reps_nil
  | x :: r => reps_cons r_str (strs_reps r)
theorem reps_bls {F : Hp} : ∀ {xs : List Bool} {vs : List V}, reps G F (xs.map .bl) vs → vs = xs.map .bl
  | [], vs, h => reps_nil_inv h
  | x :: r, vs, h => by
    obtain ⟨v, t, rfl, h1, h2⟩ := reps_cons_inv h
    rw [rep_bl h1, reps_bls h2] <;> rfl
theorem cd_len {xs : List D} {d : D} (hK : G.K = X.K) (hd : d = .lst xs ∨ d = .tup xs) (k : KD (.int xs.length)) : CD X G (.builtin "len") [d] KD := .of fun F H vs Q e r q => by
  obtain ⟨v, rfl, r1⟩ := reps1 r
  refine CallR.sc call_len_seq ?_
  rcases hd with rfl | rfl
  · obtain ⟨a, us, rfl, hs, ru⟩ := rep_lst r1
    rw [hK] at hs
    exact ⟨a, us, rfl, .inl (ex_l e hs), by rw [reps_len ru]; exact q _ _ F H (.refl e) r_int k⟩
  · obtain ⟨a, us, rfl, hs, ru⟩ := rep_tup r1
    rw [hK] at hs
    exact ⟨a, us, rfl, .inr (ex_t e hs), by rw [reps_len ru]; exact q _ _ F H (.refl e) r_int k⟩
theorem cd_lenS {z : Str} (hz : z.length ≤ sizeLine) (k : KD (.int z.length)) : CD X G (.builtin "len") [.str z] KD := .of fun F H vs Q e r q => by
  obtain ⟨v, rfl, r1⟩ := reps1 r
  rw [rep_str r1]
  exact CallR.sc call_len_str ⟨z, rfl, hz, q _ _ F H (.refl e) r_int k⟩
theorem cl_list {xs : List D} {d : D} (hK : G.K = X.K) (hd : d = .lst xs ∨ d = .tup xs) (k : KL xs) : CL X G (.type "list") [d] KL := .of fun F H vs Q e r q => by
  obtain ⟨v, rfl, r1⟩ := reps1 r
  refine CallR.sc call_list_of ?_
  rcases hd with rfl | rfl
  · obtain ⟨a, us, rfl, hs, ru⟩ := rep_lst r1
    rw [hK] at hs
    exact ⟨a, us, rfl, .inl (ex_l e hs), fun l hl => q xs l us hl ru k⟩
  · obtain ⟨a, us, rfl, hs, ru⟩ := rep_tup r1
    rw [hK] at hs
    exact ⟨a, us, rfl, .inr (ex_t e hs), fun l hl => q xs l us hl ru k⟩
theorem cd_tuple {xs : List D} {d : D} (hK : G.K = X.K) (hd : d = .lst xs ∨ d = .tup xs) (k : KD (.tup xs)) : CD X G (.type "tuple") [d] KD := .of fun F H vs Q e r q => by
  obtain ⟨v, rfl, r1⟩ := reps1 r
  refine CallR.sc call_tuple_of ?_
  rcases hd with rfl | rfl
  · obtain ⟨a, us, rfl, hs, ru⟩ := rep_lst r1
    rw [hK] at hs
    refine ⟨a, us, rfl, .inl ⟨ex_l e hs, fun l hl => ?_⟩⟩
    have st : Step No F H (upd F l (.tup us)) (upd H l (.tup us)) := Step.lay e hl
    exact q _ _ _ _ st (r_tup upd_same (reps_mono st.ex _ _ ru)) k
  · obtain ⟨a, us, rfl, hs, ru⟩ := rep_tup r1
    have hs' := hs
    rw [hK] at hs
    exact ⟨a, us, rfl, .inr ⟨ex_t e hs, q _ _ F H (.refl e) r1 k⟩⟩
theorem cl_sortedS {xs : List Str} (hK : G.K = X.K) (h64 : xs.length < 64) (k : ∀ ys : List Str, ys.Perm xs → sortedS ys = true → KL (ys.map .str)) : CL X G (.builtin "sorted") [.lst (xs.map .str)] KL := .of fun F H vs Q e r q => by
  obtain ⟨v, rfl, r1⟩ := reps1 r
  obtain ⟨a, us, rfl, hs, ru⟩ := rep_lst r1
  rw [hK] at hs
  rw [reps_strs ru] at hs
  exact CallR.sc cr_sortedS ⟨a, xs, rfl, ex_l e hs, h64, fun ys p hp hsrt hn => q _ p _ hn (strs_reps ys) (k ys hp hsrt)⟩
theorem cd_int {i : Int} (k : KD (.int i)) : CD X G (.type "int") [.int i] KD := .of fun F H vs Q e r q => by
  obtain ⟨v, rfl, r1⟩ := reps1 r
  rw [rep_int r1]
  exact CallR.sc call_int1 (.inl ⟨i, rfl, q _ _ F H (.refl e) r_int k⟩)
theorem cd_intB {b : Bool} (k : KD (.int (if b then 1 else 0))) : CD X G (.type "int") [.bl b] KD := .of fun F H vs Q e r q => by
  obtain ⟨v, rfl, r1⟩ := reps1 r
  rw [rep_bl r1]
  exact CallR.sc call_int1 (.inr ⟨b, rfl, q _ _ F H (.refl e) r_int k⟩)
theorem cd_abs {i : Int} (k : KD (.int (if i < 0 then -i else i))) : CD X G (.builtin "abs") [.int i] KD := .of fun F H vs Q e r q => by
  obtain ⟨v, rfl, r1⟩ := reps1 r
  rw [rep_int r1]
  exact CallR.sc call_abs ⟨i, rfl, q _ _ F H (.refl e) r_int k⟩
theorem cd_all {bs : List Bool} (hK : G.K = X.K) (hc : X.calm = true) (k : KD (.bl (bs.all _root_.id))) : CD X G (.builtin "all") [.lst (bs.map .bl)] KD := .of fun F H vs Q e r q => by
  obtain ⟨v, rfl, r1⟩ := reps1 r
  obtain ⟨a, us, rfl, hs, ru⟩ := rep_lst r1
  rw [hK] at hs
  rw [reps_bls ru] at hs
  exact CallR.sc (cr_all hc) ⟨a, bs, rfl, ex_l e hs, q _ _ F H (.refl e) r_bl k⟩
end
end Dv

set_option Elab.async false
set_option maxRecDepth 100000
set_option maxHeartbeats 4000000
namespace Dv
open PySem PySem.Spec PyProof.Rows L2
open Evl (Ex ex_l ex_t)

/-! ### == of plain data -/
mutual
def pd : D → Option PyData
  | .non => some .none
  | .bl b => some (.bool b)
  | .int i => some (.int i)
  | .str s => some (.str s)
  | .tup ds => (pds ds).map .tuple
  | .lst ds => (pds ds).map .list
  | .ty _ => none
  | .ins _ _ => none
  | .cls _ => none
  | .seq _ => none
  | .exc _ => none
  | .dic _ => none
  | .ptup _ => none
def pds : List D → Option (List PyData)
  | [] => some []
  | d :: r => match pd d, pds r with
    | some p, some ps => some (p :: ps)
    | _, _ => none
end
section
variable {X : Cx} {G : Gc}
mutual
theorem pd_dp {F H : Hp} {K : PySem.W.Frag} (hK : G.K = K) (e : Ex F H) : ∀ (d : D) (v : V) (p : PyData), pd d = some p → rep G F d v → Dp K H v p
  | .non, v, p, h, r => by cases h; rw [rep_non r]; exact .non
  | .bl b, v, p, h, r => by cases h; rw [rep_bl r]; exact .bl b
  | .int i, v, p, h, r => by cases h; rw [rep_int r]; exact .int i
  | .str s, v, p, h, r => by cases h; rw [rep_str r]; exact .str s
  | .tup ds, v, p, h, r => by
    obtain ⟨a, vs, rfl, hs, ru⟩ := rep_tup r
    unfold pd at h
    cases q : pds ds with
    | none => rw [q] at h; cases h
    | some ps =>
      rw [q] at h
      cases h
      exact .tup (hK ▸ ex_t e hs) (pds_dp hK e ds vs ps q ru)
  | .lst ds, v, p, h, r => by
    obtain ⟨a, vs, rfl, hs, ru⟩ := rep_lst r
    unfold pd at h
    cases q : pds ds with
    | none => rw [q] at h; cases h
    | some ps =>
      rw [q] at h
      cases h
      exact .lst (hK ▸ ex_l e hs) (pds_dp hK e ds vs ps q ru)
  | .ty _, v, p, h, r => by cases h
  | .ins _ _, v, p, h, r => by cases h
  | .cls _, v, p, h, r => by cases h
  | .seq _, v, p, h, r => by cases h
  | .exc _, v, p, h, r => by cases h
  | .dic _, v, p, h, r => by cases h
  | .ptup _, v, p, h, r => by cases h
theorem pds_dp {F H : Hp} {K : PySem.W.Frag} (hK : G.K = K) (e : Ex F H) : ∀ (ds : List D) (vs : List V) (ps : List PyData), pds ds = some ps → reps G F ds vs → DpAll K H vs ps
  | [], vs, ps, h, r => by cases h; rw [reps_nil_inv r]; exact .nil
  | d :: t, vs, ps, h, r => by
    obtain ⟨v, us, rfl, r1, r2⟩ := reps_cons_inv r
    unfold pds at h
    cases q : pd d with
    | none => rw [q] at h; cases h
    | some p =>
      cases q2 : pds t with
      | none => rw [q, q2] at h; cases h
      | some ps' =>
        rw [q, q2] at h
        cases h
        exact .cons (pd_dp hK e d v p q r1) (pds_dp hK e t us ps' q2 r2)
end
theorem bo_eqD {x y : D} {p q : PyData} {K : D → Prop} (hK : G.K = X.K) (hu : X.A.units + 64 < cLine) (hx : pd x = some p) (hy : pd y = some q) (s1 : SeqAt.shaped p = true) (s2 : SeqAt.shaped q = true) (k : K (.bl (PyData.eqv p q))) : BO X G (compareOp .Eq) x y K :=
  bo_of (op_eqD hu) (fun F H u v Q e r1 r2 qk => ⟨p, q, pd_dp hK e _ _ _ hx r1, pd_dp hK e _ _ _ hy r2, s1, s2, qk _ r_bl⟩) k
theorem bo_neD {x y : D} {p q : PyData} {K : D → Prop} (hK : G.K = X.K) (hu : X.A.units + 64 < cLine) (hx : pd x = some p) (hy : pd y = some q) (s1 : SeqAt.shaped p = true) (s2 : SeqAt.shaped q = true) (k : K (.bl (!PyData.eqv p q))) : BO X G (compareOp .NotEq) x y K :=
  bo_of (op_neD hu) (fun F H u v Q e r1 r2 qk => ⟨p, q, pd_dp hK e _ _ _ hx r1, pd_dp hK e _ _ _ hy r2, s1, s2, qk _ r_bl⟩) k
/-- t + u -/
theorem bo_catT {xs ys : List D} {K : D → Prop} (hK : G.K = X.K) (hz : xs.length + ys.length ≤ sizeLine) (k : K (.tup (xs ++ ys))) : BO X G (binaryOp .Add) (.tup xs) (.tup ys) K := .of fun F H u v Q e r1 r2 q => by
  obtain ⟨a, us, rfl, hs, ru⟩ := rep_tup r1
  obtain ⟨b, ws, rfl, hs2, rw'⟩ := rep_tup r2
  have hs' := hs
  have hs2' := hs2
  rw [hK] at hs hs2
  have hsum := reps_app ru rw'
  refine OpR.so op_catA ⟨a, b, us, ws, rfl, rfl, ex_t e hs, ex_t e hs2, by rw [reps_len ru, reps_len rw']; exact hz, fun h => ?_, fun _ h => ?_, fun _ _ p hp => ?_⟩
  · subst h
    exact q _ _ F H (.refl e) (by unfold rep; exact ⟨b, ws, rfl, hs2', hsum⟩) k
  · subst h
    rw [List.append_nil] at hsum
    exact q _ _ F H (.refl e) (by unfold rep; exact ⟨a, us, rfl, hs', hsum⟩) k
  · have st : Step No F H (upd F p (.tup (us ++ ws))) (upd H p (.tup (us ++ ws))) := Step.lay e hp
    exact q _ _ _ _ st (r_tup upd_same (reps_mono st.ex _ _ hsum)) k
theorem inV_strs (x : Str) : ∀ ys : List Str, inV (.str x) (ys.map V.str) = decide (x ∈ ys)
  | [] => rfl
  | y :: t => by
    have ih := inV_strs x t
    show (eqV (.str y) (.str x) || inV (.str x) (t.map V.str)) = decide (x ∈ y :: t)
    rw [ih, show eqV (.str y) (.str x) = (y == x) from rfl]
    by_cases h : y = x
    · subst h
      rw [beq_self_eq_true, Bool.true_or]
      exact (decide_eq_true (List.mem_cons_self)).symm
    · have hb : (y == x) = false := beq_eq_false_iff_ne.mpr h
      rw [hb, Bool.false_or]
      by_cases m : x ∈ t
      · rw [decide_eq_true m, decide_eq_true (List.mem_cons_of_mem _ m)]
      · rw [decide_eq_false m, decide_eq_false (fun z => (List.mem_cons.mp z).elim (fun e => h e.symm) m)]
theorem flatV_strs : ∀ ys : List Str, (ys.map V.str).all flatV = true
  | [] => rfl
  | y :: t => by
    show (flatV (.str y) && (t.map V.str).all flatV) = true
    rw [flatV_strs t] <;> rfl
/-- x in t, x in l, of texts -/
theorem bo_inS {x : Str} {ys : List Str} {d : D} {K : D → Prop} (hK : G.K = X.K) (hd : d = .lst (ys.map .str) ∨ d = .tup (ys.map .str)) (k : K (.bl (decide (x ∈ ys)))) : BO X G (compareOp .In) (.str x) d K := by
  refine bo_of op_in_seq (fun F H u v Q e r1 r2 q => ?_) k
  rw [rep_str r1]
  rcases hd with rfl | rfl
  · obtain ⟨a, us, rfl, hs, ru⟩ := rep_lst r2
    rw [hK] at hs
    rw [reps_strs ru] at hs
    refine ⟨a, _, rfl, .inl (ex_l e hs), rfl, flatV_strs ys, ?_⟩
    rw [if_neg Bool.false_ne_true, inV_strs]
    exact q _ r_bl
  · obtain ⟨a, us, rfl, hs, ru⟩ := rep_tup r2
    rw [hK] at hs
    rw [reps_strs ru] at hs
    refine ⟨a, _, rfl, .inr (ex_t e hs), rfl, flatV_strs ys, ?_⟩
    rw [if_neg Bool.false_ne_true, inV_strs]
    exact q _ r_bl
theorem bo_catL {xs ys : List D} {K : D → Prop} (hz : xs.length + ys.length ≤ 100000) (k : K (.lst (xs ++ ys))) : BO X G (binaryOp .Add) (.lst xs) (.lst ys) K := .of fun F H u v Q e r1 r2 q => by
  obtain ⟨a, us, rfl, hs, ru⟩ := rep_lstX r1
  obtain ⟨b, ws, rfl, hs2, rw'⟩ := rep_lstX r2
  refine OpR.so op_cat ⟨a, b, us, ws, rfl, rfl, e _ _ hs, e _ _ hs2, by rw [reps_len ru, reps_len rw']; exact Nat.le_trans hz (by decide), fun p hp => ?_⟩
  have st : Step No F H (upd F p (.lst (us ++ ws))) (upd H p (.lst (us ++ ws))) := Step.lay e hp
  exact q _ _ _ _ st (r_lst upd_same (reps_mono st.ex _ _ (reps_app ru rw'))) k
end

/-! ### subscripts, slices -/
section
variable {X : Cx} {G : Gc} {Γ : En} {a b e : Expr} {p2 pos : Pos} {K : D → En → Prop} {KA : List D → En → Prop}
theorem atI_reps {F : Hp} {ds : List D} {vs : List V} {i : Int} {z : D} (r : reps G F ds vs) (h : atI ds i = some z) : ∃ v, atI vs i = some v ∧ rep G F z v := by
  unfold atI at h ⊢
  rw [reps_len r]
  cases q : ixN ds.length i with
  | none => rw [q] at h; cases h
  | some j =>
    rw [q] at h
    exact reps_get r h
/-- xs[i], t[i] -/
theorem we_ix (hK : G.K = X.K) (h : WE X G Γ a fun x Γ1 => WE X G Γ1 b fun y Γ2 => ∃ xs i z, (x = .lst xs ∨ x = .tup xs) ∧ y = .int i ∧ atI xs i = some z ∧ K z Γ2) (hs : PlainIx b := by exact fun _ _ => rfl) : WE X G Γ (.Subscript a b pos) K := .of fun σ F H Q E q => by
  refine PE.se (pe_ix (IxR.or ix_list ix_tup) pe_S pe_S hs) ?_
  refine h σ F H _ E fun x Γ1 u F1 H1 s1 E1 o1 r1 k1 => ?_
  refine k1 σ F1 H1 _ E1 fun y Γ2 v F2 H2 s2 E2 o2 r2 k2 => ?_
  obtain ⟨xs, i, z, hx, rfl, hi, k⟩ := k2
  have r1' := rep_mono s2.ex _ _ r1
  rw [rep_int r2]
  rcases hx with rfl | rfl
  · obtain ⟨a, us, rfl, hs, ru⟩ := rep_lst r1'
    rw [hK] at hs
    obtain ⟨w, hw, rw'⟩ := atI_reps ru hi
    exact .inl ⟨a, us, i, w, rfl, rfl, ex_l E2.ex hs, hw, q z Γ2 w F2 H2 (stp s1 o1 s2) E2 (fun a h => o1 a (o2 a h)) rw' k⟩
  · obtain ⟨a, us, rfl, hs, ru⟩ := rep_tup r1'
    rw [hK] at hs
    obtain ⟨w, hw, rw'⟩ := atI_reps ru hi
    exact .inr ⟨a, us, i, w, rfl, rfl, ex_t E2.ex hs, hw, q z Γ2 w F2 H2 (stp s1 o1 s2) E2 (fun a h => o1 a (o2 a h)) rw' k⟩
/-- the bounds of a slice -/
inductive Bd (X : Cx) (G : Gc) : En → Option Expr → (Option Int → En → Prop) → Prop
  | none {Γ : En} {K : Option Int → En → Prop} (k : K none Γ) : Bd X G Γ none K
  | some {Γ : En} {e : Expr} {K : Option Int → En → Prop} (h : WE X G Γ e fun d Γ1 => ∃ i, d = .int i ∧ K (some i) Γ1) : Bd X G Γ (some e) K
def SO (X : Cx) (e : Option Expr) : TO := fun σ H Q => ∀ (pins : List (Addr × Obj)) (s : Shared), Inv X pins σ H s → wpAny (model X.prog X.w) X.A (evalPart e X.env) (fun u s' => ∃ o H', Inv X pins σ H' s' ∧ IsPart u o ∧ Q o H') X.xe s
theorem po_S {e : Option Expr} : PO X e (SO X e) := ⟨fun pins s _ _ _ I h => h pins s I⟩
theorem PO.so {e : Option Expr} {t : TO} {σ : L2.St} {H : Hp} {Q : Option Int → Hp → Prop} (h : PO X e t) (q : t σ H Q) : SO X e σ H Q := fun pins s I => h.run pins s σ H Q I q
theorem Bd.run {e : Option Expr} {KO : Option Int → En → Prop} (h : Bd X G Γ e KO) {σ : L2.St} {F H : Hp} {Q : Option Int → Hp → Prop} (E : Envs G X.N F H σ Γ)
    (q : ∀ (o : Option Int) (Γ' : En) (F' H' : Hp), Step (Ow σ Γ) F H F' H' → Envs G X.N F' H' σ Γ' → (∀ a, Ow σ Γ' a → Ow σ Γ a) → KO o Γ' → Q o H') : SO X e σ H Q := by
  cases h with
  | none k => exact PO.so po_none (q Option.none Γ F H (.refl E.ex) E (fun _ h => h) k)
  | some h =>
    refine PO.so (po_some pe_S) ?_
    refine h σ F H _ E fun d Γ1 v F1 H1 s1 E1 o1 r1 k1 => ?_
    obtain ⟨i, rfl, k1⟩ := k1
    exact ⟨i, rep_int r1, q (Option.some i) Γ1 F1 H1 s1 E1 o1 k1⟩
/-- the items from lo to hi -/
def cutD (xs : List D) (lo hi : Option Int) : List D := (xs.drop (HT.sIx xs.length 0 lo)).take (HT.sIx xs.length xs.length hi - HT.sIx xs.length 0 lo)
theorem cut_reps {F : Hp} {ds : List D} {vs : List V} {lo hi : Option Int} (r : reps G F ds vs) : reps G F (cutD ds lo hi) (cutV vs lo hi) := by
  unfold cutD cutV
  rw [reps_len r]
  exact reps_take _ (reps_drop _ r)
theorem cut_whole {ds : List D} {lo hi : Option Int} (h : HT.sIx ds.length 0 lo = 0 ∧ HT.sIx ds.length ds.length hi = ds.length) : cutD ds lo hi = ds := by
  unfold cutD
  rw [h.1, h.2]
  simp
theorem wl_slice {lo hi : Option Expr} (hK : G.K = X.K) (h : WE X G Γ e fun d Γ1 => ∃ xs, d = .lst xs ∧ Bd X G Γ1 lo fun l Γ2 => Bd X G Γ2 hi fun u Γ3 => KA (cutD xs l u) Γ3) : WL X G Γ (.Subscript e (.Slice lo hi none p2) pos) KA := .of fun σ F H Q E q => by
  refine PE.se (pe_slice sl_list pe_S po_S po_S) ?_
  refine h σ F H _ E fun d Γ1 v F1 H1 s1 E1 o1 r1 k1 => ?_
  obtain ⟨xs, rfl, k1⟩ := k1
  refine k1.run E1 fun l Γ2 F2 H2 s2 E2 o2 k2 => ?_
  refine k2.run E2 fun u Γ3 F3 H3 s3 E3 o3 k3 => ?_
  obtain ⟨a, us, rfl, hs, ru⟩ := rep_lst (rep_mono (s2.ex.trans s3.ex) _ _ r1)
  rw [hK] at hs
  have s23 := stp (stp s1 o1 s2) (fun a h => o1 a (o2 a h)) s3
  refine ⟨a, us, rfl, ex_l E3.ex hs, fun p hp => ?_⟩
  have st : Step No F3 H3 F3 (upd H3 p (.lst (cutV us l u))) := Step.lay0 E3.ex hp
  exact q _ Γ3 p _ F3 _ (stpN s23 st) (E3.step st) (fun a h => o1 a (o2 a (o3 a h))) (s23.back hp) (ex_none E3.ex hp) upd_same (cut_reps ru) k3
theorem we_slice {lo hi : Option Expr} (hK : G.K = X.K) (h : WE X G Γ e fun d Γ1 => ∃ xs, d = .tup xs ∧ Bd X G Γ1 lo fun l Γ2 => Bd X G Γ2 hi fun u Γ3 => K (.tup (cutD xs l u)) Γ3) : WE X G Γ (.Subscript e (.Slice lo hi none p2) pos) K := .of fun σ F H Q E q => by
  refine PE.se (pe_slice sl_tupA pe_S po_S po_S) ?_
  refine h σ F H _ E fun d Γ1 v F1 H1 s1 E1 o1 r1 k1 => ?_
  obtain ⟨xs, rfl, k1⟩ := k1
  refine k1.run E1 fun l Γ2 F2 H2 s2 E2 o2 k2 => ?_
  refine k2.run E2 fun u Γ3 F3 H3 s3 E3 o3 k3 => ?_
  obtain ⟨a, us, rfl, hs, ru⟩ := rep_tup (rep_mono (s2.ex.trans s3.ex) _ _ r1)
  have hs' := hs
  rw [hK] at hs
  have s23 := stp (stp s1 o1 s2) (fun a h => o1 a (o2 a h)) s3
  have hl := reps_len ru
  refine ⟨a, us, rfl, ex_t E3.ex hs, fun hw => ?_, fun hw p hp => ?_⟩
  · rw [hl] at hw
    refine q _ Γ3 _ F3 H3 s23 E3 (fun a h => o1 a (o2 a (o3 a h))) ?_ k3
    rw [cut_whole hw]
    unfold rep
    exact ⟨a, us, rfl, hs', ru⟩
  · have st : Step No F3 H3 (upd F3 p (.tup (cutV us l u))) (upd H3 p (.tup (cutV us l u))) := Step.lay E3.ex hp
    exact q _ Γ3 _ _ _ (stpN s23 st) (E3.step st) (fun a h => o1 a (o2 a (o3 a h))) (r_tup upd_same (reps_mono st.ex _ _ (cut_reps ru))) k3
/-- sep.join(xs) -/
theorem we_join {o e : Expr} {apos : Pos} (hK : G.K = X.K) (h : WE X G Γ o fun d Γ1 => ∃ s, d = .str s ∧ WA X G Γ1 [e] fun ds Γ2 => ∃ xs : List Str, (ds = [.lst (xs.map .str)] ∨ ds = [.tup (xs.map .str)]) ∧ (xs.map (·.length)).sum + xs.length * s.length ≤ 16777216 ∧ K (.str (Txt.join s xs)) Γ2)
    (hbase : attributeBase o "join" X.env (eval o X.env) = eval o X.env := by rfl)
    (hfew : ((backTo pos (starEach [e] X.env)).all (fun x => !x.1) && (backToKw pos (keywordEach [] X.env)).all (fun x => x.1.isSome) && decide (([e] : List Expr).length + ([] : List Keyword).length + (if ([] : List Keyword).isEmpty then 0 else 1) < 30)) = true := by rfl)
    (hline : (apos.endLine == pos.line) = true := by rfl) (hs : starEach [e] X.env = (false, eval e X.env) :: starEach [] X.env := by rfl) (hplain : (backTo pos (starEach [] X.env)).any (·.1) = false := by rfl) : WE X G Γ (.Call (.Attribute o "join" apos) [e] [] pos) K := .of fun σ F H Q E q => by
  refine PE.se (pe_bm PySem.F.plainAttrs_str PySem.F.slot_str_join PySem.F.type_str_join mt_join pe_S pa_S hbase hfew hline hs hplain) ?_
  refine h σ F H _ E fun d Γ1 v F1 H1 s1 E1 o1 r1 k1 => ?_
  obtain ⟨s, rfl, k1⟩ := k1
  rw [rep_str r1]
  refine ⟨rfl, ?_⟩
  refine k1 σ F1 H1 _ E1 fun ds Γ2 vs F2 H2 s2 E2 o2 r2 k2 => ?_
  obtain ⟨xs, hd, hl, k⟩ := k2
  have fin := q _ Γ2 (.str (Txt.join s xs)) F2 H2 (stp s1 o1 s2) E2 (fun a h => o1 a (o2 a h)) r_str k
  rcases hd with rfl | rfl
  · obtain ⟨v, rfl, r3⟩ := reps1 r2
    obtain ⟨a, us, rfl, hs, ru⟩ := rep_lst r3
    rw [hK] at hs
    rw [reps_strs ru] at hs
    exact ⟨s, a, xs, rfl, rfl, .inl (ex_l E2.ex hs), hl, fin⟩
  · obtain ⟨v, rfl, r3⟩ := reps1 r2
    obtain ⟨a, us, rfl, hs, ru⟩ := rep_tup r3
    rw [hK] at hs
    rw [reps_strs ru] at hs
    exact ⟨s, a, xs, rfl, rfl, .inr (ex_t E2.ex hs), hl, fin⟩
end
end Dv

set_option Elab.async false
set_option maxRecDepth 100000
set_option maxHeartbeats 4000000
namespace Dv
open PySem PySem.Spec PyProof.Rows L2
open Evl (Ex ex_l ex_t)

/-! ### lists of one's own (or lent), by their names -/
section
variable {X : Cx} {G : Gc} {Γ : En} {e b : Expr} {x : Str} {pn apos p2 pos : Pos} {K : D → En → Prop} {KS : Ot → Prop}
/-- the thing under a name -/
theorem own_at {F H : Hp} {σ : L2.St} (E : Envs G X.N F H σ Γ) {s : Sl} {c : Cn} (h : Lk Γ x s) (l : Lend s c c s) : ∃ (i : Nat) (p : Addr), X.N[i]? = some x ∧ Γ[i]? = some (x, s) ∧ σ[i]? = some (some (.ref p)) ∧ F p = none ∧ holds G F H p c := by
  obtain ⟨i, e⟩ := h.ix
  obtain ⟨p, h1, _, h2, h3⟩ := E.lentAt e l
  exact ⟨i, p, E.name e, e, h1, h2, h3⟩
theorem own_at2 {F H : Hp} {σ : L2.St} {i : Nat} {p : Addr} (hN : X.N.Nodup) (E : Envs G X.N F H σ Γ) {s : Sl} {c : Cn} (h : Lk Γ x s) (l : Lend s c c s) (hi : X.N[i]? = some x) (hp : σ[i]? = some (some (.ref p))) : Γ[i]? = some (x, s) ∧ F p = none ∧ holds G F H p c := by
  obtain ⟨j, q, h1, h2, h3, h4, h5⟩ := own_at E h l
  have := nodup_ix hN hi h1
  subst this
  rw [hp] at h3
  cases h3
  exact ⟨h2, h4, h5⟩
/-- a new content -/
theorem own_put {F H : Hp} {σ : L2.St} {i : Nat} {p : Addr} {o : HO} {Γ' : En} (hN : X.N.Nodup) (E : Envs G X.N F H σ Γ) {s s' : Sl} {c c' : Cn} (h : Put Γ x s s' Γ') (l : Lend s c c' s') (hi : X.N[i]? = some x) (hp : σ[i]? = some (some (.ref p))) (r : holds G F (upd H p o) p c') :
    Envs G X.N F (upd H p o) σ Γ' ∧ Step (Ow σ Γ) F H F (upd H p o) ∧ ∀ a, Ow σ Γ' a → Ow σ Γ a := by
  obtain ⟨j, e1, e2⟩ := h.ix
  subst e2
  have := nodup_ix hN hi (E.name e1)
  subst this
  refine E.write (c := c) e1 hp ?_ r
  cases l with
  | own => exact .inl ⟨rfl, rfl⟩
  | bor =>
    obtain ⟨g, _, _⟩ := E.bor i x _ _ e1
    rw [hp] at g
    cases g
    exact .inr ⟨rfl, rfl⟩
theorem lend_same {s s' : Sl} {c c' : Cn} (l : Lend s c c' s') : Lend s c c s := by
  cases l with
  | own => exact .own
  | bor => exact .bor
/-- x.append(e) -/
theorem we_append {s0 : Sl} {ds0 : List D} (hN : X.N.Nodup) (h0 : Lk Γ x s0) (l0 : Lend s0 (.lst ds0) (.lst ds0) s0)
    (h : WA X G Γ [e] fun ds Γ1 => ∃ z s cs s' Γ2, ds = [z] ∧ Put Γ1 x s s' Γ2 ∧ Lend s (.lst cs) (.lst (cs ++ [z])) s' ∧ cs.length < 100000 ∧ K .non Γ2)
    (hv : Vis X.env.scope x := by first | exact Or.inl rfl | exact Or.inr (Or.inl rfl) | exact Or.inr (Or.inr rfl)) (hd : (x == ("__debug__" : Str)) = false := by decide) (hcd : (x == ("__classdict__" : Str)) = false := by decide)
    (hbase : attributeBase (.Name x pn) "append" X.env (eval (.Name x pn) X.env) = eval (.Name x pn) X.env := by rfl)
    (hfew : ((backTo pos (starEach [e] X.env)).all (fun x => !x.1) && (backToKw pos (keywordEach [] X.env)).all (fun x => x.1.isSome) && decide (([e] : List Expr).length + ([] : List Keyword).length + (if ([] : List Keyword).isEmpty then 0 else 1) < 30)) = true := by rfl)
    (hline : (apos.endLine == pos.line) = true := by rfl) (hs : starEach [e] X.env = (false, eval e X.env) :: starEach [] X.env := by rfl) (hplain : (backTo pos (starEach [] X.env)).any (·.1) = false := by rfl) :
    WE X G Γ (.Call (.Attribute (.Name x pn) "append" apos) [e] [] pos) K := .of fun σ F H Q E q => by
  obtain ⟨i, p, hi, _, hp, hf, vs0, hv0, _⟩ := own_at E h0 l0
  refine PE.se (pe_bm PySem.F.plainAttrs_list PySem.F.slot_list_append PySem.F.type_list_append mt_append (pe_var hi hv hd hcd) pa_S hbase hfew hline hs hplain) ?_
  refine ⟨.ref p, hp, .inl ⟨rfl, _, SqL.of hv0⟩, ?_⟩
  refine h σ F H _ E fun ds Γ1 us F1 H1 s1 E1 o1 r1 k1 => ?_
  obtain ⟨z, s, cs, s', Γ2, rfl, hput, l, hl, k⟩ := k1
  obtain ⟨v, rfl, rz⟩ := reps1 r1
  obtain ⟨_, _, vs, hvs, rv⟩ := own_at2 hN E1 hput.at (lend_same l) hi hp
  obtain ⟨E2, st, o2⟩ := own_put (o := .lst (vs ++ [v])) hN E1 hput l hi hp (show ∃ us, _ ∧ _ from ⟨_, upd_same, reps_app rv (reps_cons rz reps_nil)⟩)
  exact ⟨p, vs, v, rfl, rfl, hvs, by rw [reps_len rv]; exact Nat.lt_of_lt_of_le hl (by decide), q .non Γ2 .non F1 _ (stp s1 o1 st) E2 (fun a z => o1 a (o2 a z)) r_non k⟩
/-- x.pop(e) -/
theorem we_popAt {s0 : Sl} {ds0 : List D} (hN : X.N.Nodup) (h0 : Lk Γ x s0) (l0 : Lend s0 (.lst ds0) (.lst ds0) s0)
    (h : WA X G Γ [e] fun ds Γ1 => ∃ (k : Nat) (z : D) (s : Sl) (cs : List D) (s' : Sl) (Γ2 : En), ds = [.int (k : Int)] ∧ cs[k]? = some z ∧ cs.length ≤ 100000 ∧ Put Γ1 x s s' Γ2 ∧ Lend s (.lst cs) (.lst (cs.eraseIdx k)) s' ∧ K z Γ2)
    (hv : Vis X.env.scope x := by first | exact Or.inl rfl | exact Or.inr (Or.inl rfl) | exact Or.inr (Or.inr rfl)) (hd : (x == ("__debug__" : Str)) = false := by decide) (hcd : (x == ("__classdict__" : Str)) = false := by decide)
    (hbase : attributeBase (.Name x pn) "pop" X.env (eval (.Name x pn) X.env) = eval (.Name x pn) X.env := by rfl)
    (hfew : ((backTo pos (starEach [e] X.env)).all (fun x => !x.1) && (backToKw pos (keywordEach [] X.env)).all (fun x => x.1.isSome) && decide (([e] : List Expr).length + ([] : List Keyword).length + (if ([] : List Keyword).isEmpty then 0 else 1) < 30)) = true := by rfl)
    (hline : (apos.endLine == pos.line) = true := by rfl) (hs : starEach [e] X.env = (false, eval e X.env) :: starEach [] X.env := by rfl) (hplain : (backTo pos (starEach [] X.env)).any (·.1) = false := by rfl) :
    WE X G Γ (.Call (.Attribute (.Name x pn) "pop" apos) [e] [] pos) K := .of fun σ F H Q E q => by
  obtain ⟨i, p, hi, _, hp, hf, vs0, hv0, _⟩ := own_at E h0 l0
  refine PE.se (pe_bm PySem.F.plainAttrs_list PySem.F.slot_list_pop PySem.F.type_list_pop mt_popAt (pe_var hi hv hd hcd) pa_S hbase hfew hline hs hplain) ?_
  refine ⟨.ref p, hp, .inl ⟨rfl, _, SqL.of hv0⟩, ?_⟩
  refine h σ F H _ E fun ds Γ1 us F1 H1 s1 E1 o1 r1 k1 => ?_
  obtain ⟨kk, z, s, cs, s', Γ2, rfl, hz, hl, hput, l, k⟩ := k1
  obtain ⟨v, rfl, rk⟩ := reps1 r1
  obtain ⟨_, _, vs, hvs, rv⟩ := own_at2 hN E1 hput.at (lend_same l) hi hp
  obtain ⟨y, hy, ry⟩ := reps_get rv hz
  have hlen := reps_len rv
  have hlt : kk < cs.length := (List.getElem?_eq_some_iff.mp hz).1
  have er : ∀ (n : Nat) {ds : List D} {us : List V}, reps G F1 ds us → reps G F1 (ds.eraseIdx n) (us.eraseIdx n) := by
    intro n
    induction n with
    | zero =>
      intro ds us r
      cases ds with
      | nil => rw [reps_nil_inv r]; exact reps_nil
      | cons d t => obtain ⟨v, us', rfl, _, r2⟩ := reps_cons_inv r; exact r2
    | succ n ih =>
      intro ds us r
      cases ds with
      | nil => rw [reps_nil_inv r]; exact reps_nil
      | cons d t => obtain ⟨v, us', rfl, r1, r2⟩ := reps_cons_inv r; exact reps_cons r1 (ih r2)
  obtain ⟨E2, st, o2⟩ := own_put (o := .lst (vs.eraseIdx kk)) hN E1 hput l hi hp (show ∃ us, _ ∧ _ from ⟨_, upd_same, er kk rv⟩)
  refine ⟨p, vs, (kk : Int), kk, y, rfl, by rw [rep_int rk], hvs, by omega, by omega, ?_, hy, q z Γ2 y F1 _ (stp s1 o1 st) E2 (fun a z => o1 a (o2 a z)) ry k⟩
  exact (ixN_seq (i := (kk : Int)) (by unfold ixN; rw [if_pos (by omega), if_pos (by rw [hlen]; omega)]; simp)).1
/-- x[i] -/
theorem we_ixOwn {s0 : Sl} {ds0 : List D} (hN : X.N.Nodup) (h0 : Lk Γ x s0) (l0 : Lend s0 (.lst ds0) (.lst ds0) s0)
    (h : WE X G Γ b fun y Γ1 => ∃ s cs i z, Lk Γ1 x s ∧ Lend s (.lst cs) (.lst cs) s ∧ y = .int i ∧ atI cs i = some z ∧ K z Γ1)
    (hv : Vis X.env.scope x := by first | exact Or.inl rfl | exact Or.inr (Or.inl rfl) | exact Or.inr (Or.inr rfl)) (hd : (x == ("__debug__" : Str)) = false := by decide) (hcd : (x == ("__classdict__" : Str)) = false := by decide) (hs : PlainIx b := by exact fun _ _ => rfl) :
    WE X G Γ (.Subscript (.Name x pn) b pos) K := .of fun σ F H Q E q => by
  obtain ⟨i, p, hi, _, hp, hf, vs0, hv0, _⟩ := own_at E h0 l0
  refine PE.se (pe_ix ix_list (pe_var hi hv hd hcd) pe_S hs) ⟨.ref p, hp, ?_⟩
  refine h σ F H _ E fun y Γ1 u F1 H1 s1 E1 o1 r1 k1 => ?_
  obtain ⟨s, cs, j, z, lk, l, rfl, hz, k⟩ := k1
  obtain ⟨_, _, vs, hvs, rv⟩ := own_at2 hN E1 lk l hi hp
  obtain ⟨w, hw, rw'⟩ := atI_reps rv hz
  exact ⟨p, vs, j, w, rfl, rep_int r1, SqL.of hvs, hw, q z Γ1 w F1 H1 s1 E1 o1 rw' k⟩
/-- len(x) -/
theorem we_lenOwn {s : Sl} {cs : List D} {p1 : Pos} (hm : X.mg "len" = none) (h0 : Lk Γ x s) (l0 : Lend s (.lst cs) (.lst cs) s) (k : K (.int cs.length) Γ) (hg : Gl X "len" := by rfl)
    (hv : Vis X.env.scope x := by first | exact Or.inl rfl | exact Or.inr (Or.inl rfl) | exact Or.inr (Or.inr rfl)) (hd : (x == ("__debug__" : Str)) = false := by decide) (hcd : (x == ("__classdict__" : Str)) = false := by decide)
    (he : starEach [.Name x pn] X.env = (false, eval (.Name x pn) X.env) :: starEach [] X.env := by rfl) (hpl : (backTo pos (starEach [] X.env)).any (·.1) = false := by rfl) : WE X G Γ (.Call (.Name "len" p1) [.Name x pn] [] pos) K := .of fun σ F H Q E q => by
  obtain ⟨i, p, hi, _, hp, hf, vs, hvs, rv⟩ := own_at E h0 l0
  refine PE.se (pe_callB call_len_seq hg hm PySem.boot_len (pa_cons (pe_var hi hv hd hcd) pa_nil he) (by decide) (by decide) he hpl) ⟨.ref p, hp, p, vs, rfl, .inl (SqL.of hvs), ?_⟩
  rw [reps_len rv]
  exact q _ Γ _ F H (.refl E.ex) E (fun _ h => h) r_int k
/-- x[i] = e -/
theorem ws_setOwn {s0 : Sl} {ds0 : List D} (hN : X.N.Nodup)
    (h : WE X G Γ e fun z Γ1 => ∃ s c, Lk Γ1 x s ∧ Lend s (.lst c) (.lst c) s ∧ WE X G Γ1 b fun y Γ2 => ∃ i j s1 cs s' Γ3, y = .int i ∧ ixN cs.length i = some j ∧ Put Γ2 x s1 s' Γ3 ∧ Lend s1 (.lst cs) (.lst (cs.set j z)) s' ∧ KS (.nx Γ3))
    (hv : Vis X.env.scope x := by first | exact Or.inl rfl | exact Or.inr (Or.inl rfl) | exact Or.inr (Or.inr rfl)) (hd : (x == ("__debug__" : Str)) = false := by decide) (hcd : (x == ("__classdict__" : Str)) = false := by decide)
    (hsw : swapsWithSole [.Subscript (.Name x pn) b p2] e pos.line X.env = pure false := by rfl) (hw : swappedStores [.Subscript (.Name x pn) b p2] e X.env = pure none := by rfl)
    (h1 : (assignEach [.Subscript (.Name x pn) b p2] X.env).map (·.2) = [assign (.Subscript (.Name x pn) b p2) X.env] := by rfl)
    (hpg : ∀ i : Nat, X.N[i]? = some x → PG X (.Subscript (.Name x pn) b p2) (gSub (tVar i) (SE X b) rSetL) := by intro i hi; exact pg_sub (pe_var hi (by first | exact Or.inl rfl | exact Or.inr (Or.inl rfl) | exact Or.inr (Or.inr rfl)) (by decide) (by decide)) pe_S set_list) : WS X G Γ (.Assign [.Subscript (.Name x pn) b p2] e pos) KS := .of fun σ F H D E q => by
  intro pins sh I
  refine wpAny_Assign_stores (thn (h σ F H (fun v H' => ∃ i, X.N[i]? = some x ∧ gSub (tVar i) (SE X b) rSetL v σ H' D.nx) E (fun z Γ1 v F1 H1 s1 E1 o1 r1 k1 => ?_) pins sh I) fun v s1 ⟨y, H1, I1, r1, i, hi, q1⟩ => ?_) hsw hw
  · obtain ⟨s, c, lk, l, k1⟩ := k1
    obtain ⟨i, p, hi, _, hp, _, vs0, hv0, _⟩ := own_at E1 lk l
    refine ⟨i, hi, ⟨.ref p, hp, ?_⟩⟩
    refine k1 σ F1 H1 _ E1 fun y Γ2 u F2 H2 s2 E2 o2 r2 k2 => ?_
    obtain ⟨n, j, s1', cs, s', Γ3, rfl, hj, hput, l, k⟩ := k2
    obtain ⟨_, _, vs, hvs, rv⟩ := own_at2 hN E2 hput.at (lend_same l) hi hp
    obtain ⟨E3, st, o3⟩ := own_put (o := .lst (vs.set j v)) hN E2 hput l hi hp (show ∃ us, _ ∧ _ from ⟨_, upd_same, reps_set j rv (rep_mono s2.ex _ _ r1)⟩)
    exact ⟨p, vs, n, j, rfl, rep_int r2, hvs, by rw [reps_len rv]; exact hj, q.nx Γ3 σ F2 _ (.of (stp (stp s1 o1 s2) (fun a z => o1 a (o2 a z)) st) E3 (fun a z => o1 a (o2 a (o3 a z)))) k⟩
  · rw [h1]
    exact thn ((hpg i hi).run pins s1 σ H1 y v _ I1 r1 q1) fun _ s2 q => q
end
end Dv

set_option Elab.async false
set_option maxRecDepth 100000
set_option maxHeartbeats 4000000
namespace Dv
open PySem PySem.Spec PyProof.Rows L2
open Evl (Ex ex_l ex_t)

/-! ### for -/
/-- the word of a loop: by the turn and the slots -/
abbrev Wf := Nat → En → Prop
section
variable {X : Cx} {G : Gc} {Γ : En} {tg iter : Expr} {body : List Stmt} {pos : Pos} {K : Ot → Prop}
theorem ws_for (names : List Str) (hK : G.K = X.K) (hc : X.calm = true) (hp : PassesOwn (model X.prog X.w) X.A X.env X.xe) (hg : TgOk X tg names)
    (h : WI X G Γ tg iter fun ds Γ1 => ∃ Pv : Wf, Pv 0 Γ1 ∧ (∀ i d Γ2, ds[i]? = some d → Pv i Γ2 → ∃ ps Γ3, Tgt tg d ps ∧ ps.map (·.1) = names ∧ Puts Γ2 ps Γ3 ∧ WB X G Γ3 body fun o => match o with
        | .nx Γ4 => Pv (i + 1) Γ4
        | .ct Γ4 => Pv (i + 1) Γ4
        | .bk Γ4 => K (.nx Γ4)
        | .rt z Γ4 => K (.rt z Γ4)) ∧ (∀ Γ2, Pv ds.length Γ2 → K (.nx Γ2))) (hs : ∀ x, foldedSetIterable iter X.env x = pure x := by intro _; rfl) : WS X G Γ (.For tg iter body [] pos) K := .of fun σ F H D E q => by
  refine PS.ss (ps_for hp hc pi_S pg_S pss_S hs) ?_
  refine h σ F H _ E fun ds Γ1 J F1 H1 s1 E1 o1 wk k1 => ?_
  obtain ⟨Pv, hp0, hturn, hend⟩ := k1
  refine for_it (n := ds.length) (G := fun H => Ex F1 H) (Y := fun i H x H' => J.yld i H x H') ⟨fun i H hi g => wk.goes i H hi g, fun H g => wk.stops H g, fun i H x H' hi g y => y⟩
    (fun i σ' H' => ∃ (F' : Hp) (Γ2 : En), Went G X.N Γ σ F H Γ2 σ' F' H' ∧ Ex F1 F' ∧ Pv i Γ2) ⟨F1, Γ1, .of s1 E1 o1, Ex.refl F1, hp0⟩ ?_ ?_ ?_
  · rintro i σ' H' _ ⟨F', Γ2, w, e, _⟩
    exact e.trans w.en.ex
  · rintro i x σ' H' H'' hi ⟨F', Γ2, w, e, hpv⟩ hy
    obtain ⟨d, F2, hd, st2, rx⟩ := wk.yields i F' H' x H'' e w.en.ex hi hy
    obtain ⟨ps, Γ3, htg, hps, hput, hb⟩ := hturn i d Γ2 hd hpv
    have w2 : Went G X.N Γ σ F H Γ2 σ' F2 H'' := w.trans ⟨no_any st2, w.en.step st2, fun a h => .inl h⟩
    refine tgt_run hK (by rw [hps]; exact hg) w2.en htg hput rx fun σ2 E4 o4 _ => ?_
    have w3 : Went G X.N Γ σ F H Γ3 σ2 F2 H'' := w2.trans ⟨.refl E4.ex, E4, fun a h => .inl (o4 a h)⟩
    have ex2 : Ex F1 F2 := e.trans st2.ex
    refine hb σ2 F2 H'' _ E4 ⟨fun Γ' σ3 F' H' w' k => ?_, fun z v Γ' σ3 F' H' w' r k => ?_, fun Γ' σ3 F' H' w' k => ?_, fun Γ' σ3 F' H' w' k => ?_⟩
    · exact ⟨F', Γ', w3.trans w', ex2.trans w'.st.ex, k⟩
    · exact q.rt z v Γ' σ3 F' H' (w3.trans w') r k
    · exact q.nx Γ' σ3 F' H' (w3.trans w') k
    · exact ⟨F', Γ', w3.trans w', ex2.trans w'.st.ex, k⟩
  · rintro σ' H' ⟨F', Γ2, w, e, hpv⟩
    exact q.nx Γ2 σ' F' H' w (hend Γ2 hpv)
end

/-! ### several names at once -/
section
variable {X : Cx} {G : Gc} {Γ : En} {a b c : Expr} {px py pz pt pt2 pos : Pos} {kt k2 : Nat} {x y z : Str} {K : Ot → Prop}
theorem put_run {F H : Hp} {σ : L2.St} {Γ Γ1 : En} {x : Str} {d : D} {s : Sl} {v : V} (E : Envs G X.N F H σ Γ) (hp : Put Γ x s (.val d) Γ1) (r : rep G F d v) : ∃ i : Nat, X.N[i]? = some x ∧ Envs G X.N F H (σ.set i (some v)) Γ1 ∧ ∀ a, Ow (σ.set i (some v)) Γ1 a → Ow σ Γ a := by
  obtain ⟨i, e, e2⟩ := hp.ix
  subst e2
  refine ⟨i, E.name e, E.put e (.inl ⟨d, rfl, r⟩), fun a o => ?_⟩
  rcases Ow.put e E.len o with z | ⟨_, c, z | z⟩
  · exact z
  · cases z
  · cases z
theorem ws_par {i j : Nat} (hc : X.calm = true) (hN : X.N.Nodup) (hi : X.N[i]? = some x) (hj : X.N[j]? = some y) (hij : i ≠ j) (hx : X.env.scope.names.lookup x = some .local) (hy : X.env.scope.names.lookup y = some .local)
    (h : WA X G Γ [a, b] fun ds Γ1 => ∃ d e s1 s2 Γ2 Γ3, ds = [d, e] ∧ Put Γ1 x s1 (.val d) Γ2 ∧ Put Γ2 y s2 (.val e) Γ3 ∧ K (.nx Γ3))
    (hw : swappedStores [.Tuple [.Name x px, .Name y py] kt pt] (.Tuple [a, b] k2 pt2) X.env = pure (some [x, y]) := by rfl) (hs : swapsWithSole [.Tuple [.Name x px, .Name y py] kt pt] (.Tuple [a, b] k2 pt2) pos.line X.env = pure false := by rfl) :
    WS X G Γ (.Assign [.Tuple [.Name x px, .Name y py] kt pt] (.Tuple [a, b] k2 pt2) pos) K := .of fun σ F H D E q => by
  refine PS.ss (ps_par hc hN hi hj hij hx hy pa_S hw hs) ?_
  refine h σ F H _ E fun ds Γ1 vs F1 H1 s1 E1 o1 r1 k1 => ?_
  obtain ⟨d, e, t1, t2, Γ2, Γ3, rfl, p1, p2, k⟩ := k1
  obtain ⟨v, w, rfl, rv, rw'⟩ := reps2 r1
  obtain ⟨i', hi', E2, o2⟩ := put_run E1 p1 rv
  obtain rfl := nodup_ix hN hi hi'
  obtain ⟨j', hj', E3, o3⟩ := put_run E2 p2 rw'
  obtain rfl := nodup_ix hN hj hj'
  exact ⟨v, w, rfl, q.nx Γ3 _ F1 H1 ⟨s1, E3, fun a z => .inl (o1 a (o2 a (o3 a z)))⟩ k⟩
end

/-! ### or, and by truth; texts in braces -/
section
variable {X : Cx} {G : Gc} {Γ : En} {a b e : Expr} {rest : List Expr} {pos : Pos} {K : D → En → Prop}
/-- the truth of a datum, texts too -/
def truS (d : D) (b : Bool) : Prop := tru d = some b ∨ ∃ s : Str, d = .str s ∧ s.length ≤ sizeLine ∧ b = ((s.length : Int) != 0)
theorem truSV {K0 : PySem.W.Frag} {F H : Hp} (hK : G.K = K0) (e : Ex F H) {d : D} {v : V} {b : Bool} (h : truS d b) (r : rep G F d v) : TruV K0 v H b := by
  rcases h with h | ⟨s, rfl, h1, rfl⟩
  · exact truV hK e h r
  · rw [rep_str r]
    exact ⟨h1, rfl⟩
theorem we_orT (hK : G.K = X.K) (h : WE X G Γ a fun x Γ1 => ∃ c, truS x c ∧ (c = true → K x Γ1) ∧ (c = false → WE X G Γ1 (.BoolOp .Or (b :: rest) pos) K)) : WE X G Γ (.BoolOp .Or (a :: b :: rest) pos) K := .of fun σ F H Q E q => by
  refine PE.se (pe_orT pe_S pe_S) ?_
  refine h σ F H _ E fun x Γ1 u F1 H1 s1 E1 o1 r1 k1 => ?_
  obtain ⟨c, ht, k2, k3⟩ := k1
  refine ⟨c, truSV hK E1.ex ht r1, ?_⟩
  cases c with
  | true => exact iteT (q x Γ1 _ F1 H1 s1 E1 o1 r1 (k2 rfl))
  | false => exact iteF (k3 rfl σ F1 H1 Q E1 fun d Γ' v F' H' s E' o r k => q d Γ' v F' H' (stp s1 o1 s) E' (fun a z => o1 a (o a z)) r k)
theorem wt_truS {KT : Bool → En → Prop} (hK : G.K = X.K) (h : WE X G Γ e fun x Γ1 => ∃ c, truS x c ∧ KT c Γ1) (he : ∀ whole, isTrue e X.env whole = (do let v ← whole; standAt e.pos; holding [v] (truthy v)) := by intro _; rfl) : WT X G Γ e KT := .of fun σ F H Q E q => by
  refine PT.st (pt_truth pe_S he) ?_
  refine h σ F H _ E fun x Γ1 u F1 H1 s1 E1 o1 r1 k1 => ?_
  obtain ⟨c, e, k2⟩ := k1
  exact ⟨c, truSV hK E1.ex e r1, q c Γ1 F1 H1 s1 E1 o1 k2⟩
/-- {e}: a text -/
theorem we_fmt (h : WE X G Γ e fun d Γ1 => ∃ s, d = .str s ∧ s.length ≤ sizeLine ∧ K (.str s) Γ1) : WE X G Γ (.FormattedValue e (-1) none pos) K := .of fun σ F H Q E q => by
  refine PE.se (pe_fmt pe_S) ?_
  refine h σ F H _ E fun d Γ1 v F1 H1 s1 E1 o1 r1 k1 => ?_
  obtain ⟨s, rfl, hl, k⟩ := k1
  exact .inl ⟨s, rep_str r1, hl, q _ Γ1 _ F1 H1 s1 E1 o1 r_str k⟩
/-- the parts of an f-string, the text so far -/
def WJ (X : Cx) (G : Gc) : En → List Expr → Str → (Str → En → Prop) → Prop
  | Γ, [], acc, K => K acc Γ
  | Γ, e :: es, acc, K => WE X G Γ e fun d Γ1 => ∃ s, d = .str s ∧ (acc ++ s).length ≤ sizeLine ∧ WJ X G Γ1 es (acc ++ s) K
theorem wj_run : ∀ (es : List Expr) {Γ : En} {acc : Str} {KJ : Str → En → Prop} {σ : L2.St} {F H : Hp} {Q : Str → Hp → Prop}, WJ X G Γ es acc KJ → Envs G X.N F H σ Γ →
    (∀ (s : Str) (Γ' : En) (F' H' : Hp), Step (Ow σ Γ) F H F' H' → Envs G X.N F' H' σ Γ' → (∀ a, Ow σ Γ' a → Ow σ Γ a) → KJ s Γ' → Q s H') → tJs (es.map (SE X)) acc σ H Q
  | [], Γ, acc, KJ, σ, F, H, Q, h, E, q => q acc Γ F H (.refl E.ex) E (fun _ h => h) h
  | e :: es, Γ, acc, KJ, σ, F, H, Q, h, E, q => by
    have h' : WE X G Γ e fun d Γ1 => ∃ s, d = .str s ∧ (acc ++ s).length ≤ sizeLine ∧ WJ X G Γ1 es (acc ++ s) KJ := h
    refine h' σ F H _ E fun d Γ1 v F1 H1 s1 E1 o1 r1 k1 => ?_
    obtain ⟨s, rfl, hl, k⟩ := k1
    exact ⟨s, rep_str r1, hl, wj_run es k E1 fun t Γ' F' H' st E' o kk => q t Γ' F' H' (stp s1 o1 st) E' (fun a z => o1 a (o a z)) kk⟩
theorem pj_S : ∀ es : List Expr, PJ X es (es.map (SE X))
  | [] => .nil
  | e :: es => .cons pe_S (pj_S es)
theorem we_joined {v1 v2 : Expr} (h : WJ X G Γ (v1 :: v2 :: rest) Str.empty fun s Γ1 => K (.str s) Γ1) : WE X G Γ (.JoinedStr (v1 :: v2 :: rest) pos) K := .of fun σ F H Q E q => by
  refine PE.se (pe_joined (pj_S _)) ?_
  exact wj_run _ h E fun s Γ' F' H' st E' o k => q (.str s) Γ' _ F' H' st E' o r_str k
theorem we_joined1 (h : WE X G Γ e K) : WE X G Γ (.JoinedStr [e] pos) K := .of fun σ F H Q E q => PE.se (pe_joined1 pe_S) (h σ F H Q E q)
end
end Dv

set_option Elab.async false
set_option maxRecDepth 100000
/-! Sets of texts: made from a list or a tuple, and sorted. -/
namespace Dz
open PySem PySem.Spec PyProof.Rows L2

def nameOf (e : Int × Value) : Str := match e.2 with
  | .str x _ => x
  | _ => Str.empty
/-- what stands at a: a set of the texts of L, its rows es, its table t -/
structure Box (w : World) (h : Heap) (a : Addr) (o : Obj) (es : Array (Int × Value)) (ep : Nat) (t : SetTable) (L : List Str) : Prop where
  here : h.get? a = some o
  plain : o.ExactSet
  data : o.data = .set es ep t
  txts : ∀ e ∈ es.toList, ∃ x tk, e.2 = Value.str x tk ∧ e.1 = hashStr w x
  uniq : (es.toList.map nameOf).Nodup
  mem : ∀ x, x ∈ es.toList.map nameOf ↔ x ∈ L
  few : es.size < scanBound
  fits : t.fits es.size = true
  rise : Ris t.place.toList
  led : w.params.followText "set-order" = true ∨ t.led = true
/-- the same, without the rows: at most n of them -/
def Bag (w : World) (h : Heap) (a : Addr) (L : List Str) (n : Nat) : Prop := ∃ o es ep t, Box w h a o es ep t L ∧ es.size ≤ n

section
variable {P : Program} {w : World} {h h' : Heap} {a : Addr} {o : Obj} {es : Array (Int × Value)} {ep n : Nat} {t : SetTable} {L : List Str}
theorem Bag.moved (B : Bag w h a L n) (k : ∀ u, h.get? a = some u → h'.get? a = some u) : Bag w h' a L n :=
  let ⟨o, es, ep, t, b, l⟩ := B
  ⟨o, es, ep, t, { b with here := k o b.here }, l⟩
theorem Bag.same (B : Bag w h a L n) {L' : List Str} (e : ∀ x, x ∈ L ↔ x ∈ L') {m : Nat} (hm : n ≤ m) : Bag w h a L' m :=
  let ⟨o, es, ep, t, b, l⟩ := B
  ⟨o, es, ep, t, { b with mem := fun x => (b.mem x).trans (e x) }, Nat.le_trans l hm⟩
theorem Box.rows (B : Box w h a o es ep t L) : ElemsOf (strKind P w) es.toList := fun e he => by
  obtain ⟨x, tk, h1, h2⟩ := B.txts e he
  refine ⟨⟨x, ?_, h2⟩, ?_⟩
  · rw [h1]; exact strKind_is P w x tk
  · rw [h1] <;> rfl
theorem Box.isOf (B : Box w h a o es ep t L) {e : Int × Value} (he : e ∈ es.toList) (x : Str) : (strKind P w).is x e.2 = true ↔ nameOf e = x := by
  obtain ⟨y, tk, h1, _⟩ := B.txts e he
  unfold nameOf
  rw [h1]
  constructor
  · intro q
    obtain ⟨tk', q⟩ := Value.isStrOf_shape (show Value.isStrOf x (.str y tk) = true from q)
    injection q
  · rintro rfl
    exact strKind_is P w _ tk
end

section
variable {P : Program} {w : World} {A : Around} {E : Value → Shared → Prop} {s : Shared} {a : Addr}
/-- once the new row is laid: the set is stored, and laid out anew if it is full -/
theorem stored {g : Bool → Sem Unit} (hg : ∀ (b : Bool) (s' : Shared) (Q' : Unit → Shared → Prop), Q' () s' → wpAny (model P w) A (g b) Q' E s') {o : Obj} {es : Array (Int × Value)} {ep : Nat} {t : SetTable} {L : List Str} {m : Nat} {L0 : List Str}
    {es0 : Array (Int × Value)} {t0 : SetTable} (B : Box w s.heap a o es0 ep t0 L0) (txts : ∀ e ∈ es.toList, ∃ x tk, e.2 = Value.str x tk ∧ e.1 = hashStr w x) (uniq : (es.toList.map nameOf).Nodup) (mem : ∀ x, x ∈ es.toList.map nameOf ↔ x ∈ L)
    (few : es.size < scanBound) (hm : es.size ≤ m) (fits : t.fits es.size = true) (rise : Ris t.place.toList) (led : w.params.followText "set-order" = true ∨ t.led = true) {dum : Bool} {R : Option Bool → Shared → Prop}
    (hR : ∀ h', Heap.SameBut a s.heap h' → Bag w h' a L m → R (some true) { s with heap := h' }) :
    wpAny (model P w) A (do
        storeSet a es t
        if (!dum && t.tooFull) = true then do
            g (relayAll t es (SetTable.grown es.size)).2.2
            storeSet a (relayAll t es (SetTable.grown es.size)).1 (relayAll t es (SetTable.grown es.size)).2.1
            pure (some true)
          else pure (some true)) R E s := by
  have one := wpAny_storeSet_of (prog := P) (w := w) (A := A) (E := E) (Q := fun _ s' => s' = { s with heap := s.heap.update a (Obj.putSet es t) }) B.here B.data rfl (fits_of_scanBound few)
  have h1 := store_at (es' := es) (t' := t) B.here B.data
  have sb := Heap.SameBut.update s.heap a (Obj.putSet es t)
  refine wpAny_bind (thn one fun _ s' e => ?_)
  subst e
  by_cases full : (!dum && t.tooFull) = true
  · rw [if_pos full]
    refine wpAny_bind (hg _ _ _ ?_)
    have few2 : (relayAll t es (SetTable.grown es.size)).1.size < scanBound ∧ (relayAll t es (SetTable.grown es.size)).1.size = es.size := by
      have e : (relayAll t es (SetTable.grown es.size)).1.size = es.size := by
        have := (relayAll_perm t es (SetTable.grown es.size)).length_eq
        simpa using this
      exact ⟨by rw [e]; exact few, e⟩
    refine wpAny_bind (wpAny_storeSet_of h1 rfl (wpAny_pure ?_) (fits_of_scanBound few2.1))
    have pm := relayAll_perm t es (SetTable.grown es.size)
    refine hR _ (sb.trans (Heap.SameBut.update _ a _)) ⟨_, _, _, _, ⟨store_at h1 rfl, B.plain, rfl, fun e he => txts e (pm.mem_iff.mp he), (pm.map nameOf).nodup_iff.mpr uniq, fun x => (pm.map nameOf).mem_iff.trans (mem x), few2.1, relayAll_fits t es _, relayAll_ris t es _, ?_⟩, by rw [few2.2]; exact hm⟩
    exact led.imp (fun z => z) fun z => (relayAll_led t es _).trans z
  · rw [if_neg full]
    exact wpAny_pure (hR _ sb ⟨_, _, _, _, ⟨h1, B.plain, rfl, txts, uniq, mem, few, fits, rise, led⟩, hm⟩)
/-- a text is added -/
theorem added {x : Str} {tk : Tok} {L : List Str} {n : Nat} {Q : Bool → Shared → Prop} (B : Bag w s.heap a L n) (hn : n + 1 < scanBound)
    (hQ : ∀ h' b, Heap.SameBut a s.heap h' → Bag w h' a (x :: L) (n + 1) → Q b { s with heap := h' }) : wpAny (model P w) A (setAddHashed a (.str x tk) (hashStr w x)) Q E s := by
  obtain ⟨o, es, ep, t, B, hle⟩ := B
  have rows : ElemsOf (strKind P w) es.toList := B.rows
  have key : (strKind P w).is x (.str x tk) = true := strKind_is P w x tk
  have hush : ∀ (b : Bool) (s' : Shared) (Q' : Unit → Shared → Prop), Q' () s' → wpAny (model P w) A (match b with | true => rule "set.scan.the-table-gave-way" | false => pure ()) Q' E s' := fun b s' Q' q => by
    cases b
    · exact wpAny_pure q
    · exact wpAny_rule q
  unfold setAddHashed setAddHashedIn
  refine wpAny_holding (wpAny_bind (wpAny_setState_of B.here B.data B.fits ?_))
  dsimp only
  rw [byScan_of (x := .str x tk) rfl B.few rows]
  simp only [↓reduceIte]
  unfold setAddByScan
  refine wpAny_bind (wpAny_bind (wpAny_rule (wpAny_bind (wpAny_setScan_of (knd := strKind P w) (k := x) key B.here B.data B.fits rows ?_))))
  by_cases old : x ∈ es.toList.map nameOf
  · -- it is there
    obtain ⟨e, he, hx⟩ := List.mem_map.mp old
    have some_ : ∃ j, List.findIdx? (fun e => (strKind P w).is x e.2) es.toList = some j := by
      cases q : List.findIdx? (fun e => (strKind P w).is x e.2) es.toList with
      | some j => exact ⟨j, rfl⟩
      | none =>
        have c := List.findIdx?_eq_none_iff.mp q e he
        rw [(B.isOf he x).mpr hx] at c
        cases c
    obtain ⟨j, hj⟩ := some_
    rw [hj]
    dsimp only
    refine wpAny_pure (wpAny_pure (hQ s.heap false (Heap.SameBut.refl a s.heap) ⟨o, es, ep, t, { B with mem := fun y => ?_ }, by omega⟩))
    rw [B.mem y, List.mem_cons]
    exact ⟨.inr, fun z => z.elim (fun e => e ▸ (B.mem x).mp old) id⟩
  · have none_ : List.findIdx? (fun e => (strKind P w).is x e.2) es.toList = none := by
      refine List.findIdx?_eq_none_iff.mpr fun e he => ?_
      cases q : (strKind P w).is x e.2 with
      | false => rfl
      | true => exact absurd (List.mem_map.mpr ⟨e, he, (B.isOf he x).mp q⟩) old
    rw [none_]
    dsimp only
    have pm := layNew_perm t es (hashStr w x) (.str x tk)
    have f1 := layNew_fits t es (hashStr w x) (.str x tk)
    have f2 := layNew_ris t es (hashStr w x) (.str x tk) B.rise
    have f3 := layNew_led t es (hashStr w x) (.str x tk)
    show wpAny _ _ (have Z := layNew t es (hashStr w x) (.str x tk); _) _ _ _
    generalize layNew t es (hashStr w x) (.str x tk) = Z at pm f1 f2 f3 ⊢
    obtain ⟨es1, t1, dum, gave⟩ := Z
    dsimp only at pm f1 f2 f3 ⊢
    rw [Array.toList_push] at pm
    have pc := pm.trans (List.perm_append_singleton _ _)
    have pn := pc.map nameOf
    have sz : es1.size = es.size + 1 := by
      have := pc.length_eq
      simpa using this
    have txts : ∀ e ∈ es1.toList, ∃ x tk, e.2 = Value.str x tk ∧ e.1 = hashStr w x := fun e he => (List.mem_cons.mp (pc.mem_iff.mp he)).elim (fun z => ⟨x, tk, by rw [z], by rw [z]⟩) (B.txts e)
    have uniq : (es1.toList.map nameOf).Nodup := pn.nodup_iff.mpr (List.nodup_cons.mpr ⟨old, B.uniq⟩)
    have mem : ∀ y, y ∈ es1.toList.map nameOf ↔ y ∈ x :: L := fun y => by
      rw [pn.mem_iff, List.map_cons, List.mem_cons, List.mem_cons, B.mem y]
      rfl
    have led : w.params.followText "set-order" = true ∨ t1.led = true := B.led.imp (fun z => z) fun z => f3.trans z
    refine wpAny_bind (hush _ _ _ ?_)
    split
    · refine wpAny_bind ?_
      rw [hashByValue_scannable 8 (show (Value.str x tk).scannable = true from rfl)]
      refine wpAny_pure ?_
      refine stored hush B txts uniq mem (by omega) (by omega : es1.size ≤ n + 1) ?_ ?_ ?_ fun h' sb r => ?_
      · first | exact f1 | (split <;> first | exact f1 | exact SetTable.fits_plain_off f1)
      · first | exact f2 | (split <;> exact f2)
      · first | exact led | (split <;> exact led)
      · exact wpAny_pure (hQ h' true sb r)
    · refine wpAny_bind (wpAny_pure ?_)
      simp only [↓reduceIte]
      exact stored hush B txts uniq mem (by omega) (by omega : es1.size ≤ n + 1) f1 f2 led fun h' sb r => wpAny_pure (hQ h' true sb r)
end
end Dz

set_option Elab.async false
set_option maxRecDepth 100000
set_option maxHeartbeats 4000000
/-! set(list or tuple of texts), sorted(set of texts). -/
namespace Dz
open PySem PySem.Spec PyProof.Rows L2

/-- an empty set as it is made -/
abbrev none0 (w : World) : Obj := { cls := .type "set", dict := none, data := .set #[] 0 (.fresh 0 0 (!w.params.followText "set-order")) }
theorem bag_none {w : World} {h : Heap} {a : Addr} (ho : h.get? a = some (none0 w)) : Bag w h a [] 0 :=
  ⟨_, #[], 0, _, ⟨ho, ⟨rfl, rfl, rfl⟩, rfl, (fun e he => by simp at he), (by simp), (fun x => by simp), (by decide), (by rfl), List.Pairwise.nil, (by
    show _ ∨ (!w.params.followText "set-order") = true
    cases w.params.followText "set-order" <;> simp)⟩, Nat.le_refl 0⟩

section
variable {P : Program} {w : World} {A : Around} {E : Value → Shared → Prop}
theorem strs_get : ∀ {us : List Value} {xs : List Str}, StrsAre us xs → ∀ (i : Nat) (v : Value), us[i]? = some v → ∃ x t, xs[i]? = some x ∧ v = Value.str x t
  | _, _, .nil, i, v, e => by simp at e
  | _, _, .cons x t h, 0, v, e => ⟨x, t, rfl, (Option.some.inj e).symm⟩
  | _, _, .cons x t h, i + 1, v, e => strs_get h i v (by simpa using e)
/-- a walk over texts, each of them put into the set at S -/
theorem updated {I : Addr} {fp wr : List Addr} {G : Array GenState → Array GenState → Prop} {Pv : Nat → Value → Prop} {St : Nat → Shared → Prop} {R : Result → Shared → Prop} {S : Addr} {xs : List Str}
    (W : WalksS P w A.in1 I fp wr G xs.length Pv St) (off : S ∉ fp) (room : xs.length + 1 < scanBound) (val : ∀ i v, Pv i v → ∃ x t, xs[i]? = some x ∧ v = .str x t) :
    ∀ (ys zs : List Str) (s : Shared), ys ++ zs = xs → St ys.length s → Bag w s.heap S ys ys.length →
      (∀ s', Moved (S :: wr) G s s' → Bag w s'.heap S xs xs.length → R (.ok (.ret .none)) s') →
      codeAny (model P w) A (.builtin "set.update.loop" ⟨[.ref S, .ref I], []⟩) R s := by
  have offw : S ∉ wr := fun h => off (W.sub _ h)
  have wide : ∀ b ∈ wr, b ∈ S :: wr := fun b hb => List.mem_cons_of_mem _ hb
  intro ys zs
  induction zs generalizing ys with
  | nil =>
    intro s e st B k
    have e' : ys = xs := by rw [← e, List.append_nil]
    subst e'
    refine codeAny_builtin F.entry_set_update_loop ?_
    rw [Around.under_plainId F.plain_set_update_loop _]
    show wpAny _ A.in1 (pyNext (.ref I) >>= _) _ _ s
    refine wpAny_bind (W.done s _ _ st fun s' hm => ?_)
    show wpAny _ A.in1 (ret Value.none) _ _ s'
    exact wpAny_pure (k s' (hm.mono wide) (B.moved fun o => hm.heap S o offw))
  | cons z zs ih =>
    intro s e st B k
    have hlt : ys.length < xs.length := by rw [← e, List.length_append, List.length_cons]; omega
    have hz : xs[ys.length]? = some z := by rw [← e]; simp
    refine codeAny_builtin F.entry_set_update_loop ?_
    rw [Around.under_plainId F.plain_set_update_loop _]
    show wpAny _ A.in1 (pyNext (.ref I) >>= _) _ _ s
    refine wpAny_bind (W.item ys.length s _ _ hlt st fun v s' hv st' hm => ?_)
    obtain ⟨x, t, hx, rfl⟩ := val _ v hv
    have ex : x = z := by rw [hz] at hx; exact (Option.some.inj hx).symm
    subst ex
    have B1 : Bag w s'.heap S ys ys.length := B.moved fun o => hm.heap S o offw
    show wpAny _ A.in1 (holding [Value.str x t] (setAdd S (.str x t)) >>= _) _ _ s'
    refine wpAny_bind (wpAny_holding ?_)
    unfold setAdd
    refine wpAny_holding (wpAny_bind ((strKind P w).pyHash (k := x) (strKind_is _ _ _ _) ?_))
    refine added (s := { s' with toks := s'.toks + 1 }) B1 (by omega) fun h' b sb B2 => ?_
    have len : (ys ++ [x]).length = ys.length + 1 := by simp
    refine wpAny_pure ⟨plainId_quiet F.plain_set_update_loop _, ih (ys ++ [x]) _ (by rw [List.append_assoc]; exact e) ?_ ?_ fun s'' hm2 B3 => ?_⟩
    · rw [len]
      exact W.frame _ s' _ _ st' (Nat.le_succ _) fun b hb o eo => (sb.2 b fun q : b = S => off (q ▸ hb)).trans eo
    · rw [len]
      exact B2.same (fun y => by simp [or_comm]) (Nat.le_refl _)
    · refine k s'' (Moved.trans W.gtrans ((hm.mono wide).then_heap (Nat.le_succ _) fun b o hb eo => ?_) hm2) B3
      exact (sb.2 b fun q : b = S => hb (q ▸ List.mem_cons_self)).trans eo

/-- what an argument of set must be to be walked: a list or a tuple of texts -/
structure Row (h : Heap) (l : Addr) (T : String) (it : String) (items : Array Value) (xs : List Str) : Prop where
  isA : ∃ o, h.get? l = some o ∧ o.cls = .type T ∧ ∃ n, o.data = .seq items n
  txt : StrsAre items.toList xs
  noSet : isSubtype (.type T) (.type "set") = pure false
  noFro : isSubtype (.type T) (.type "frozenset") = pure false
  noDict : (Value.type T == Value.type "dict") = false

variable {s : Shared}
theorem made {l : Addr} {T it : String} {items : Array Value} {xs : List Str} {Q : Value → Shared → Prop} (r : Row s.heap l T it items xs) (room : xs.length + 1 < scanBound)
    (iter : ∀ (A' : Around) (s' : Shared) (Q' : Value → Shared → Prop), A'.handled = A.handled → (∀ u, s.heap.get? l = some u → s'.heap.get? l = some u) → (∀ s2 I, s2 = { s' with heap := s'.heap.push { cls := .type it, data := .fields #[.ref l, .int 0 0] } } → I = s'.heap.objs.size →
        (∀ A2 : Around, A2.handled = A.handled → ∃ (St : Nat → Heap → Prop), Walks P w A2 I [I, l] [I] items.size (fun i v => items[i]? = some v) St ∧ St 0 s2.heap) → Q' (.ref I) s2) →
      wpAny (model P w) A' (pyIter (.ref l)) Q' E s')
    (k : ∀ h' tk, Bag w h' s.heap.objs.size xs xs.length → (∀ b o, s.heap.get? b = some o → h'.get? b = some o) → Q (.ref s.heap.objs.size) { s with heap := h', toks := tk }) :
    wpAny (model P w) A (call (.type "set") [.ref l]) Q E s := by
  obtain ⟨c, tl, hmro⟩ := F.called_set.mro
  have f1 := F.called_set.made
  have f2 := F.called_set.sub
  have f3 := F.called_set.notType
  have f4 := F.called_set.canCreate
  have f5 := F.typeCall_set_1 (.ref l)
  refine wpAny_call (codeAny_of_tree ?_)
  show wpAny _ _ (callAny (.type "set") _) _ _ _
  refine wpAny_pure ⟨Code.quiet_builtin _ (by decide +kernel), codeAny_builtin F.entry_type_call ?_⟩
  rw [Around.under_plain (weight_type_call_type "set" [.ref l] []) rfl]
  repeat (any_goals (first | assumption | wp_step))
  refine codeAny_mono (code_set_led1 (.ref l) (E := E) (Q₁ := fun v s1 => v = .ref s.heap.objs.size ∧ s1 = { s with heap := s.heap.push (none0 w) }) ⟨rfl, rfl⟩) fun r1 s1 q1 => ?_
  cases r1 with
  | error e => exact q1
  | ok fl =>
    cases fl with
    | ret v =>
      obtain ⟨rfl, rfl⟩ := q1
      have g1 : (s.heap.push (none0 w)).get? s.heap.objs.size = some (none0 w) := Heap.get?_push_size _ rfl
      have g2 : Shared.TypeIs { s with heap := s.heap.push (none0 w) } (.ref s.heap.objs.size) "set" := ⟨_, g1, rfl⟩
      have g3 := F.called_set.init.lookup
      have g4 := F.called_set.init.bind (.ref s.heap.objs.size)
      repeat (any_goals (first | assumption | wp_step))
      refine codeAny_mono (codeAny_call_builtin (R := wants (fun v s2 => v = .none ∧ ∃ h' tk, s2 = { s with heap := h', toks := tk } ∧ Bag w h' s.heap.objs.size xs xs.length ∧ (∀ b o, s.heap.get? b = some o → h'.get? b = some o)) E)
        F.called_set.init.plain F.entry_set_init (check_set_init_1 g2 ?_)) fun r2 s2 q2 => ?_
      · obtain ⟨⟨⟨oc, od, oa, os⟩, ho, hc, n, hd⟩, txt, n1, n2, n3⟩ := r
        simp only at hc hd
        subst hc
        subst hd
        have ho1 : (s.heap.push (none0 w)).get? l = some { cls := .type T, dict := od, data := .seq items n, slots := os } := Heap.get?_push_of_some _ ho
        unfold Builtin.«set.__init__» noKeywords Builtin.Frozenset.updateFrom
        generalize hPI : pyIter = PI
        wp_walk
        subst hPI
        refine iter _ _ _ rfl (fun u eu => Heap.get?_push_of_some _ eu) fun s3 I e3 eI hW => ?_
        subst e3
        subst eI
        refine wpAny_bind (wpAny_runValue ?_)
        have len : xs.length = items.size := by rw [← StrsAre.len_eq txt, Array.length_toList]
        have lt : l < s.heap.objs.size := Heap.lt_size ho
        have sz : (s.heap.push (none0 w)).objs.size = s.heap.objs.size + 1 := Heap.size_push ..
        obtain ⟨St, W, st0⟩ := hW A.in1.in1.in1 rfl
        refine updated (xs := xs) (by rw [len]; exact W.toS) (S := s.heap.objs.size) ?_ room (fun i v hv => ?_) [] xs _ rfl st0 (bag_none (Heap.get?_push_of_some _ g1)) fun s4 hm B => ?_
        · rw [sz]
          simp only [List.mem_cons, List.not_mem_nil, or_false, not_or]
          exact ⟨Nat.ne_of_lt (Nat.lt_succ_self _), Nat.ne_of_gt lt⟩
        · obtain ⟨x, t, h1, h2⟩ := strs_get txt i v (by rw [Array.getElem?_toList]; exact hv)
          exact ⟨x, t, h1, h2⟩
        · obtain ⟨h4, p4, d4, t4, o4⟩ := s4
          have z1 : p4 = s.gens := hm.gens
          have z2 : d4 = s.drawn := hm.drawn
          have z3 : o4 = s.os := hm.os
          subst z1
          subst z2
          subst z3
          show wpAny _ _ _ _ _ _
          refine wpAny_pure ?_
          show wpAny _ _ (ret Value.none) _ _ _
          refine wpAny_pure ⟨rfl, h4, t4, rfl, B, fun b o eb => ?_⟩
          have lb : b < s.heap.objs.size := Heap.lt_size eb
          refine hm.heap b o ?_ (Heap.get?_push_of_some _ (Heap.get?_push_of_some _ eb))
          rw [sz]
          simp only [List.mem_cons, List.not_mem_nil, or_false, not_or]
          exact ⟨Nat.ne_of_lt lb, Nat.ne_of_lt (Nat.lt_succ_of_lt lb)⟩
      · cases r2 with
        | error e => exact q2
        | ok fl2 =>
          cases fl2 with
          | ret r =>
            obtain ⟨rfl, h', tk, rfl, B, kk⟩ := q2
            repeat (any_goals (first | assumption | wp_step))
            exact k _ _ B kk
          | _ => exact q2.elim
    | _ => exact q1.elim
end
end Dz

set_option Elab.async false
set_option maxRecDepth 100000
set_option maxHeartbeats 4000000
/-! The rules for set(...) of texts and sorted(...) of such a set. -/
namespace Dz
open PySem PySem.Spec PyProof.Rows L2

section
variable {P : Program} {w : World} {A : Around} {E : Value → Shared → Prop} {s : Shared} {l : Addr} {items : Array Value} {xs : List Str} {Q : Value → Shared → Prop}
theorem set_ofList (hh : A.handled = none) (hl : s.heap.IsList l items) (txt : StrsAre items.toList xs) (room : xs.length + 1 < scanBound)
    (k : ∀ h' tk, Bag w h' s.heap.objs.size xs xs.length → (∀ b o, s.heap.get? b = some o → h'.get? b = some o) → Q (.ref s.heap.objs.size) { s with heap := h', toks := tk }) :
    wpAny (model P w) A (call (.type "set") [.ref l]) Q E s := by
  obtain ⟨o, ho, hc, n, hd⟩ := id hl
  refine made (T := "list") (it := "list_iterator") ⟨⟨o, ho, hc, n, hd⟩, txt, F.sub_list_set, F.sub_list_frozenset, by decide⟩ room (fun A' s' Q' e1 e2 q => ?_) k
  have hl2 : s'.heap.IsList l items := ⟨o, e2 o ho, hc, n, hd⟩
  refine wpAny_pyIter_list hl2 (q _ _ rfl rfl fun A2 e3 => ⟨_, Walks.list (by rw [e3, hh]) _ l (Nat.ne_of_lt (Heap.lt_size (e2 o ho))) items, ⟨_, Heap.get?_push_size _ rfl, rfl, rfl⟩, hl2.push _⟩)
theorem set_ofTuple (hh : A.handled = none) (hl : s.heap.IsTuple l items) (txt : StrsAre items.toList xs) (room : xs.length + 1 < scanBound)
    (k : ∀ h' tk, Bag w h' s.heap.objs.size xs xs.length → (∀ b o, s.heap.get? b = some o → h'.get? b = some o) → Q (.ref s.heap.objs.size) { s with heap := h', toks := tk }) :
    wpAny (model P w) A (call (.type "set") [.ref l]) Q E s := by
  obtain ⟨o, ho, hc, n, hd⟩ := id hl
  refine made (T := "tuple") (it := "tuple_iterator") ⟨⟨o, ho, hc, n, hd⟩, txt, F.sub_tuple_set, F.sub_tuple_frozenset, by decide⟩ room (fun A' s' Q' e1 e2 q => ?_) k
  have hl2 : s'.heap.IsTuple l items := ⟨o, e2 o ho, hc, n, hd⟩
  refine wpAny_pyIter_tuple hl2 (q _ _ rfl rfl fun A2 e3 => ⟨_, Walks.tuple (by rw [e3, hh]) _ l (Nat.ne_of_lt (Heap.lt_size (e2 o ho))) items, ⟨_, Heap.get?_push_size _ rfl, rfl, rfl⟩, hl2.push _⟩)
end

/-- a list of values that are texts -/
def unStr (v : Value) : Str := match v with
  | .str x _ => x
  | _ => Str.empty
theorem strs_are : ∀ {l : List Value}, (∀ v ∈ l, ∃ x t, v = Value.str x t) → StrsAre l (l.map unStr)
  | [], _ => .nil
  | v :: l, h => by
    obtain ⟨x, t, rfl⟩ := h v List.mem_cons_self
    exact .cons x t (strs_are fun u hu => h u (List.mem_cons_of_mem _ hu))

section
variable {P : Program} {w : World} {A : Around} {E : Value → Shared → Prop} {s : Shared} {a : Addr} {L : List Str} {n : Nat} {Q : Value → Shared → Prop}
theorem bag_sorted (B : Bag w s.heap a L n) (hh : A.handled = none) (few : n < 64)
    (k : ∀ s' p out c (ys : List Str), (∀ b o, s.heap.get? b = some o → s'.heap.get? b = some o) → s'.gens = s.gens → s'.os = s.os → s.heap.objs.size ≤ p → s'.heap.get? p = some (seqObj "list" out c) → StrsAre out.toList ys →
      sortedS ys = true → ys.Nodup → (∀ x, x ∈ ys ↔ x ∈ L) → ys.length ≤ n → Q (.ref p) s') :
    wpAny (model P w) A (call (.builtin "sorted") [.ref a]) Q E s := by
  obtain ⟨o, es, ep, t, b, le⟩ := B
  refine Calls.call_function_entry kind_sorted plain_sorted entry_sorted (args_sorted1 _) ?_
  unfold Builtin.«sorted»
  refine wpAny_bind (m := checkCount "sorted" 1 1 _) (wpAny_pure ?_)
  refine wpAny_bind (collect_set (A := A.in1) hh ⟨o, b.here, b.plain.1, b.data⟩ b.fits b.few b.rise b.led fun s1 vs old big g1 o1 pm => ?_)
  have isS : ∀ v ∈ vs, ∃ x t, v = Value.str x t := fun v hv => by
    obtain ⟨e, he, q⟩ := List.mem_map.mp (pm.mem_iff.mp hv)
    obtain ⟨x, t, h1, _⟩ := b.txts e he
    exact ⟨x, t, by rw [← q]; exact h1⟩
  have are := strs_are isS
  have pn : (vs.map unStr).Perm (es.toList.map nameOf) := by
    have q := pm.map unStr
    rw [List.map_map] at q
    exact q
  have len : vs.length = es.size := by rw [pm.length_eq, List.length_map, Array.length_toList]
  refine wpAny_bind (wpAny_newList ?_ (by rw [sizeLine_eq]; omega))
  have new : (s1.heap.push (seqObj "list" vs.toArray 0)).get? s1.heap.objs.size = some (seqObj "list" vs.toArray 0) := Heap.get?_push_size _ rfl
  refine wpAny_bind (wpAny_holding (wpAny_call_entry slot_list_sort ⟨_, new, rfl⟩ entry_list_sort
    (list_sort_treeK strKind_oneLt new are.keysOf (fun v₁ v₂ rest e => keyKind_strs (by rw [← e]; exact are)) (by omega) fun st' hp hs => ⟨_, rfl, ?_⟩) (args_list_sort _)))
  obtain ⟨ys, q1, q2, q3⟩ := sorted_out_str are hp hs
  obtain ⟨c, hc⟩ := sortedHeap_at (vs := vs) (out := (arrOf st').map (·.2)) new
  have py := q2.trans pn
  refine wpAny_pure ⟨_, rfl, k _ s1.heap.objs.size _ c ys (fun d u e => ?_) g1 o1 big hc q1 q3 (py.nodup_iff.mpr b.uniq) (fun x => py.mem_iff.trans (b.mem x)) ?_⟩
  · have e1 := old d u e
    have lt := Heap.lt_size e1
    show (sortedHeap (s1.heap.push (seqObj "list" vs.toArray 0)) s1.heap.objs.size vs _).get? d = some u
    rw [sortedHeap_old (Nat.ne_of_lt lt) (by rw [size_push']; exact Nat.lt_succ_of_lt lt)]
    exact Heap.get?_push_of_some _ e1
  · rw [py.length_eq, List.length_map, Array.length_toList]
    exact le
end

/-- in the heap of contents: the set of the texts L at a -/
def BagO (w : World) (a : Addr) (L : List Str) (n : Nat) : HO := .ext fun h => Bag w h a L n
section
variable {X : Cx}
theorem bagO {P : Program} {w : World} {H : Hp} {h : Heap} {a : Addr} {L : List Str} {n : Nat} (B : Bag w h a L n) : ObjOk P w H h a (BagO w a L n) := by
  have ⟨o, _, _, _, b, _⟩ := B
  exact ⟨B, ⟨o, b.here⟩, fun h1 h2 p k => p.moved k⟩
theorem cr_setS (hc : X.calm = true) : CallR X (.type "set") fun vs H Q => ∃ (p : Addr) (xs : List Str), vs = [V.ref p] ∧ (SqL X.K H p (xs.map V.str) ∨ SqT X.K H p (xs.map V.str)) ∧ xs.length ≤ 1000 ∧
    ∀ q, H q = none → Q (.ref q) (upd H q (BagO X.w q xs xs.length)) := by
  intro pins s σ H vs us Q I r h
  obtain ⟨p, xs, rfl, hs, few, q⟩ := h
  rw [Vals.ref1 r]
  have hh := I.ok.hd hc
  have room : xs.length + 1 < scanBound := by unfold scanBound; omega
  have go : ∀ h' tk, Bag X.w h' s.heap.objs.size xs xs.length → (∀ b o, s.heap.get? b = some o → h'.get? b = some o) → EP X pins σ Q (.ref s.heap.objs.size) { s with heap := h', toks := tk } :=
    fun h' tk B old => ⟨.ref s.heap.objs.size, upd H s.heap.objs.size (BagO X.w _ xs xs.length), I.laid (t' := tk) old (Nat.le_refl _) (bagO B), rfl, q _ (I.hok.fresh (Nat.le_refl _))⟩
  rcases hs with hs | hs
  · obtain ⟨its, rv, at_, _⟩ := I.list hs
    exact set_ofList (items := its.toArray) hh at_.isList rv.strs room go
  · obtain ⟨its, rv, at_, _⟩ := I.tuple hs
    exact set_ofTuple (items := its.toArray) hh at_ rv.strs room go
theorem cr_sortedBag (hc : X.calm = true) : CallR X (.builtin "sorted") fun vs H Q => ∃ (a : Addr) (L : List Str) (n : Nat), vs = [V.ref a] ∧ H a = some (BagO X.w a L n) ∧ n < 64 ∧
    ∀ (p : Addr) (ys : List Str), sortedS ys = true → ys.Nodup → (∀ x, x ∈ ys ↔ x ∈ L) → H p = none → Q (.ref p) (upd H p (.lst (ys.map V.str))) := by
  intro pins s σ H vs us Q I r h
  obtain ⟨a, L, n, rfl, ha, few, q⟩ := h
  rw [Vals.ref1 r]
  have B : Bag X.w s.heap a L n := (I.hok a _ ha).1
  refine bag_sorted B (I.ok.hd hc) few fun s' p out c ys old g o big at_ are srt nd mem len => ?_
  have hlen : (ys.map V.str).length ≤ sizeLine := by rw [List.length_map, sizeLine_eq]; omega
  have hn : H p = none := I.hok.fresh big
  have J : Inv X pins σ (upd H p (.lst (ys.map V.str))) { s with heap := s'.heap, gens := s'.gens, drawn := s'.drawn, toks := s'.toks } :=
    I.call (ch := []) (Un.laid old big hn) (I.hok.laid old big ⟨hlen, out.toList, c, vals_of_strs are, at_⟩) (by rw [g]; exact I.bare) (fun _ z => nomatch z)
  have e : s' = { s with heap := s'.heap, gens := s'.gens, drawn := s'.drawn, toks := s'.toks } := by
    cases s'
    cases s
    cases o
    rfl
  rw [e]
  exact ⟨.ref p, _, J, rfl, q p ys srt nd mem hn⟩
end
end Dz

set_option Elab.async false
set_option maxRecDepth 100000
set_option maxHeartbeats 4000000
namespace Dv
open PySem PySem.Spec PyProof.Rows L2
open Evl (Ex ex_l ex_t)

section
variable {X : Cx} {G : Gc} {Γ : En} {e : Expr} {p p2 q2 pos pos2 : Pos} {KA : List D → En → Prop}
/-- sorted(set(e)): the texts of e, each one once, in their order -/
theorem wl_sortedSet (hc : X.calm = true) (hK : G.K = X.K)
    (h : WE X G Γ e fun d Γ1 => ∃ xs : List Str, (d = .lst (xs.map .str) ∨ d = .tup (xs.map .str)) ∧ xs.length < 64 ∧ ∀ ys : List Str, sortedS ys = true → ys.Nodup → (∀ x, x ∈ ys ↔ x ∈ xs) → KA (ys.map .str) Γ1)
    (hm : X.mg "sorted" = none := by rfl) (hm2 : X.mg "set" = none := by rfl) (hg : Gl X "sorted" := by rfl) (hg2 : Gl X "set" := by rfl)
    (hs : starEach [e] X.env = (false, eval e X.env) :: starEach [] X.env := by rfl) : WL X G Γ (.Call (.Name "sorted" p) [.Call (.Name "set" q2) [e] [] pos] [] pos2) KA := .of fun σ F H Q E q => by
  refine PE.se (pe_callB (id := "sorted") (Dz.cr_sortedBag hc) hg hm (by rfl) (pa_cons (pe_callTy (T := "set") (Dz.cr_setS hc) hg2 hm2 (by rfl) (pa_cons pe_S pa_nil hs) (he := hs)) pa_nil)) ?_
  refine h σ F H _ E fun d Γ1 v F1 H1 s1 E1 o1 r1 k1 => ?_
  obtain ⟨xs, hd, few, k2⟩ := k1
  obtain ⟨a, ha, hq⟩ : ∃ a, v = .ref a ∧ (SqL X.K H1 a (xs.map V.str) ∨ SqT X.K H1 a (xs.map V.str)) := by
    rcases hd with rfl | rfl
    · obtain ⟨a, us, rfl, hs, ru⟩ := rep_lst r1
      rw [hK] at hs
      rw [reps_strs ru] at hs
      exact ⟨a, rfl, .inl (ex_l E1.ex hs)⟩
    · obtain ⟨a, us, rfl, hs, ru⟩ := rep_tup r1
      rw [hK] at hs
      rw [reps_strs ru] at hs
      exact ⟨a, rfl, .inr (ex_t E1.ex hs)⟩
  subst ha
  refine ⟨a, xs, rfl, hq, by omega, fun b hb => ?_⟩
  refine ⟨b, xs, xs.length, rfl, upd_same, few, fun p ys srt nd mem hp => ?_⟩
  have t1 : Step No F1 H1 F1 (upd H1 b (Dz.BagO X.w b xs xs.length)) := Step.lay0 E1.ex hb
  have E2 := E1.step t1
  have t2 : Step No F1 (upd H1 b (Dz.BagO X.w b xs xs.length)) F1 (upd (upd H1 b (Dz.BagO X.w b xs xs.length)) p (.lst (ys.map V.str))) := Step.lay0 E2.ex hp
  have st := stpN s1 t1
  exact q (ys.map .str) Γ1 p (ys.map V.str) F1 _ (stpN st t2) (E2.step t2) o1 (st.back hp) (ex_none E2.ex hp) upd_same (strs_reps ys) (k2 ys srt nd mem)
end
end Dv

set_option Elab.async false
set_option maxRecDepth 100000
set_option maxHeartbeats 4000000
namespace Dv
open PySem PySem.Spec PyProof.Rows L2
open Evl (Ex ex_l ex_t)

/-! ### isinstance -/
/-- the type of a thing -/
def D.cl (G : Gc) : D → Option Value
  | .non => some (.type "NoneType") | .bl _ => some (.type "bool") | .int _ => some (.type "int") | .str _ => some (.type "str")
  | .tup _ => some (.type "tuple") | .lst _ => some (.type "list") | .ins c _ => some (.ref (G.cl c)) | _ => none
/-- a class as data -/
def D.asCl (G : Gc) : D → Option Value
  | .ty n => some (.type n) | .cls c => some (.ref (G.cl c)) | _ => none
/-- what the written part must say of an own class, for isinstance of its instances -/
structure Own (K : PySem.W.Frag) (C : Addr) : Prop where
  cl : Cls K C
  ha : PySem.W.findIn K (.ref C) "__class__" = some (some (.builtin "object.__class__"))
  hn : PySem.W.specialIn K (.builtin "object.__class__") "__get__" = some (some (.builtin "getset_descriptor.__get__"))
  ht : PySem.W.takesIn K (.builtin "object.__class__") = some true
  hm : PySem.W.mroIn K C (.type "object") = some true
section
variable {X : Cx} {G : Gc} {KD : D → Prop}
theorem rep_cl {F H : Hp} {v : V} {t : Value} (hx : Ex F H) : ∀ {d : D}, rep G F d v → d.cl G = some t → (∀ c fs, d = .ins c fs → Own G.K (G.cl c)) → TyX G.K H v t
  | .non, r, e, _ => by cases e; rw [rep_non r]; exact .base .non
  | .bl b, r, e, _ => by cases e; rw [rep_bl r]; exact .base (.bl b)
  | .int i, r, e, _ => by cases e; rw [rep_int r]; exact .base (.int i)
  | .str i, r, e, _ => by cases e; rw [rep_str r]; exact .base (.str i)
  | .lst ds, r, e, _ => by
    cases e
    obtain ⟨a, vs, rfl, h, _⟩ := rep_lstX r
    exact .base (.lst (hx a _ h))
  | .tup ds, r, e, _ => by
    cases e
    obtain ⟨a, vs, rfl, h, _⟩ := rep_tup r
    rcases h with (h | ⟨o, h⟩) | ⟨o, its, n, h, c, _⟩
    · exact .base (.tup (hx a _ h))
    · exact .fTuple (hx a _ h)
    · exact .kTuple h c
  | .ins c fs, r, e, w => by
    cases e
    obtain ⟨a, dx, gs, rfl, h, _⟩ := rep_ins r
    have o := w c fs rfl
    exact .base (.ins (hx a _ h) o.cl o.ha o.hn o.ht o.hm)
  | .ty n, r, e, _ => by cases e
  | .cls n, r, e, _ => by cases e
  | .seq n, r, e, _ => by cases e
  | .exc n, r, e, _ => by cases e
  | .dic n, r, e, _ => by cases e
  | .ptup n, r, e, _ => by cases e
theorem rep_asCl {F : Hp} {v : V} {u : Value} : ∀ {d : D}, rep G F d v → d.asCl G = some u → ClsV v u
  | .ty n, r, e => by cases e; rw [rep_ty r]; exact .ty n
  | .cls n, r, e => by
    cases e
    have h : v = .ref (G.cl n) := by unfold rep at r; exact r
    rw [h]
    exact .own _
  | .non, r, e => by cases e
  | .bl b, r, e => by cases e
  | .int i, r, e => by cases e
  | .str i, r, e => by cases e
  | .lst ds, r, e => by cases e
  | .tup ds, r, e => by cases e
  | .ins c fs, r, e => by cases e
  | .seq ds, r, e => by cases e
  | .exc n, r, e => by cases e
  | .dic n, r, e => by cases e
  | .ptup n, r, e => by cases e
theorem cd_isi {d c : D} {t u : Value} {b : Bool} (hK : G.K = X.K) (ht : d.cl G = some t) (hu : c.asCl G = some u) (hb : PySem.W.kitOne G.K t u = some b) (k : KD (.bl b)) (ho : ∀ c fs, d = .ins c fs → Own G.K (G.cl c) := by intro _ _ h; cases h) :
    CD X G (.builtin "isinstance") [d, c] KD := .of fun F H vs Q e r q => by
  obtain ⟨v, w, rfl, r1, r2⟩ := reps2 r
  have ty := rep_cl e r1 ht ho
  rw [hK] at ty hb
  exact CallR.sc call_isi ⟨v, w, t, u, b, rfl, rep_asCl r2 hu, ty, hb, q _ _ F H (.refl e) r_bl k⟩
/-- a tuple of classes, wherever it lies -/
theorem reps_asCl {F : Hp} : ∀ {ds : List D} {vs : List V} {us : List Value}, reps G F ds vs → ds.map (D.asCl G) = us.map some → Paired ClsV vs us
  | [], vs, us, r, e => by
    rw [reps_nil_inv r]
    cases us with
    | nil => exact .nil
    | cons u us => cases e
  | d :: ds, vs, us, r, e => by
    obtain ⟨v, t, rfl, r1, r2⟩ := reps_cons_inv r
    cases us with
    | nil => cases e
    | cons u us =>
      injection e with e1 e2
      exact .cons (rep_asCl r1 e1) (reps_asCl r2 e2)
theorem cd_isiT {d : D} {cs : List D} {t : Value} {us : List Value} {b : Bool} (hK : G.K = X.K) (ht : d.cl G = some t) (hu : cs.map (D.asCl G) = us.map some) (hb : PySem.W.kitAny G.K t us = some b) (k : KD (.bl b)) (ho : ∀ c fs, d = .ins c fs → Own G.K (G.cl c) := by intro _ _ h; cases h) :
    CD X G (.builtin "isinstance") [d, .tup cs] KD := .of fun F H vs Q e r q => by
  obtain ⟨v, w, rfl, r1, r2⟩ := reps2 r
  have ty := rep_cl e r1 ht ho
  obtain ⟨a, ws, rfl, hs, rc⟩ := rep_tup r2
  have pc := reps_asCl rc hu
  have done : ∀ tk (s : Shared) (σ : L2.St) pins, Inv X pins σ H s → EP X pins σ Q (.bool b) { s with toks := tk } := fun tk s σ pins I => ⟨.bl b, H, I.tok tk, rfl, q _ _ F H (.refl e) r_bl k⟩
  rw [hK] at ty hb hs
  intro pins s σ us' I rv
  obtain ⟨u1, u2, rfl, q1, q2⟩ := vals2 rv
  cases (show u2 = Value.ref a from q2)
  obtain ⟨P, Z, p, hx⟩ := kit_of I q1 ty
  obtain ⟨o, its, n, h1, h2, h3, rv⟩ : ∃ (o : Obj) (its : List Value) (n : Nat), s.heap.get? a = some o ∧ o.cls = .type "tuple" ∧ o.data = .seq its.toArray n ∧ Vals ws its := by
    rcases hs with hs | ⟨o, its, n, h1, h2, h3, _, rv⟩
    · obtain ⟨_, its, rv, o, h1, h2, n, h3⟩ := Rd.ok (P := X.prog) (w := X.w) (show Rd H a (.tup ws) from hs.elim (fun z => .inl (e a _ z)) fun ⟨o, z⟩ => .inr ⟨o, e a _ z⟩) I.hok
      exact ⟨o, its, n, h1, h2, h3, rv⟩
    · exact ⟨o, its.toList, n, I.kIn _ _ h1, h2, h3, rv⟩
  have eu := ClsV.all pc rv
  subst eu
  obtain ⟨oc, od, dt, sl⟩ := o
  simp only at h2 h3
  subst h2 h3
  exact PySem.W.kia_tup Z I.kIn p h1 hb hx fun tk => done tk s σ pins I
end
end Dv

set_option Elab.async false
set_option maxRecDepth 100000
set_option maxHeartbeats 4000000
namespace Dv
open PySem PySem.Spec PyProof.Rows L2
open Evl (Ex ex_l ex_t)

/-! ### calls with keywords -/
def SK (X : Cx) (kws : List Keyword) : TA := fun σ H Q => ∀ (pos : Pos) (pins : List (Addr × Obj)) (s : Shared), Inv X pins σ H s → wpAny (model X.prog X.w) X.A (evalAll ((backToKw pos (keywordEach kws X.env)).map (·.2))) (AP X pins σ Q) X.xe s
theorem pk_S {X : Cx} {kws : List Keyword} : PK X kws (SK X kws) := ⟨fun pos pins s _ _ _ I h => h pos pins s I⟩
theorem PK.sk {X : Cx} {kws : List Keyword} {t : TA} {σ : L2.St} {H : Hp} {Q : List V → Hp → Prop} (h : PK X kws t) (q : t σ H Q) : SK X kws σ H Q := fun pos pins s I => h.run pos pins s σ H Q I q
/-- the values of the keywords, as data -/
structure WK (X : Cx) (G : Gc) (Γ : En) (kws : List Keyword) (K : List D → En → Prop) : Prop where
  of ::
  run :  ∀ (σ : L2.St) (F H : Hp) (Q : List V → Hp → Prop), Envs G X.N F H σ Γ → (∀ (ds : List D) (Γ' : En) (vs : List V) (F' H' : Hp), Step (Ow σ Γ) F H F' H' → Envs G X.N F' H' σ Γ' → (∀ a, Ow σ Γ' a → Ow σ Γ a) → reps G F' ds vs → K ds Γ' → Q vs H') → SK X kws σ H Q
instance (X : Cx) (G : Gc) (Γ : En) (kws : List Keyword) (K : List D → En → Prop) : CoeFun (WK X G Γ kws K) (fun _ =>  ∀ (σ : L2.St) (F H : Hp) (Q : List V → Hp → Prop), Envs G X.N F H σ Γ → (∀ (ds : List D) (Γ' : En) (vs : List V) (F' H' : Hp), Step (Ow σ Γ) F H F' H' → Envs G X.N F' H' σ Γ' → (∀ a, Ow σ Γ' a → Ow σ Γ a) → reps G F' ds vs → K ds Γ' → Q vs H') → SK X kws σ H Q) := ⟨fun h => h.run⟩
section
variable {X : Cx} {G : Gc} {Γ : En} {e : Expr} {es : List Expr} {kws : List Keyword} {p pos apos kpos : Pos} {K : D → En → Prop} {KA : List D → En → Prop} {k n j : Nat} {f : Addr} {fd : FuncData} {ps ks : List Str} {x m : Str} {nm : Option Str}
  {g : List Value → List Value → List Value} {πV : List V → List V} {πD : List D → List D}
theorem wk_nil (k : KA [] Γ) : WK X G Γ [] KA := .of fun σ F H Q E q => PK.sk pk_nil (q [] Γ [] F H (.refl E.ex) E (fun _ h => h) reps_nil k)
theorem wk_cons (h : WE X G Γ e fun x Γ1 => WK X G Γ1 kws fun xs Γ2 => KA (x :: xs) Γ2) : WK X G Γ (⟨nm, e, kpos⟩ :: kws) KA := .of fun σ F H Q E q => by
  refine PK.sk (pk_cons pe_S pk_S) ?_
  refine h σ F H _ E fun x Γ1 u F1 H1 s1 E1 o1 r1 k1 => ?_
  refine k1 σ F1 H1 _ E1 fun xs Γ2 vs F2 H2 s2 E2 o2 r2 k2 => ?_
  exact q (x :: xs) Γ2 (u :: vs) F2 H2 (stp s1 o1 s2) E2 (fun a z => o1 a (o2 a z)) (reps_cons (rep_mono s2.ex _ _ r1) r2) k2
/-- how the keywords' values come to stand behind the others -/
def Lay (G : Gc) (m : Nat) (πD : List D → List D) (πV : List V → List V) : Prop := ∀ (F : Hp) (ds : List D) (vs : List V), ds.length = m → reps G F ds vs → reps G F (πD ds) (πV vs)
theorem lay_id {m : Nat} : Lay G m (fun ds => ds) (fun vs => vs) := fun _ _ _ _ h => h
/-- two keywords, told the other way about -/
def swp {α : Type} : List α → List α
  | [a, b] => [b, a]
  | l => l
theorem lay_swp : Lay G 2 swp swp := fun F ds vs hl h => by
  match ds, hl with
  | [a, b], _ =>
    obtain ⟨u, v, rfl, h1, h2⟩ := reps2 h
    exact reps_cons h2 (reps_cons h1 reps_nil)
/-- C(k = v, ..) -/
theorem we_makeK0 {con : Cn → List D → (D → Cn → Prop) → Prop} (M : Mk X.K (G.cl n) f) (C : FnOk X.prog X.w X.K X.mg X.base CX0 k f fd ps (spU G con)) (hr : Room (k + 1) X.A) (hm : X.mg x = some (.ref (G.cl n))) (hb : KBn X.K fd ps 1 ks g (fun vs zs => vs ++ πV zs)) (hl : Lay G ks.length πD πV)
    (h : WK X G Γ kws fun ds Γ1 => ds.length = ks.length ∧ con (.ob n []) (πD ds) fun d c' => d = .non ∧ ∃ fs, c' = .ob n fs ∧ K (.ins n fs) Γ1) (hg : Gl X x := by rfl)
    (hall : (backToKw pos (keywordEach kws X.env)).all (·.1.isSome) = true := by rfl) (hks : (backToKw pos (keywordEach kws X.env)).filterMap (·.1) = ks := by rfl) (hdb : (x == ("__debug__" : Str)) = false := by decide)
    (hpl : ((backTo pos (starEach [] X.env)).any (·.1) || (backToKw pos (keywordEach kws X.env)).any (·.1.isNone)) = false := by rfl) : WE X G Γ (.Call (.Name x p) [] kws pos) K := .of fun σ F H Q E q => by
  refine PE.se (pe_makeK0 M C hr hg hm hb pass0 pk_S hall hks hdb hpl) ?_
  refine h σ F H _ E fun ds Γ1 vs F1 H1 s1 E1 o1 r1 k1 => ?_
  obtain ⟨hlen, k2⟩ := k1
  have hlv : vs.length = ks.length := (reps_len r1).trans hlen
  refine ⟨rfl, hlv, fun y dx hy hdx hne => ?_⟩
  have rp := hl F1 ds vs hlen r1
  have z := make_ok (G := G) (ds := πD ds) (dd := []) (dv := []) (KD := fun z => K z Γ1) E1.ex rp reps_nil (fun z v F' H' kd s' r' => q z Γ1 v F' H' (stpN s1 s') (E1.step s') o1 r' kd) (by rw [List.append_nil]; exact k2) hy hdx hne
  rw [List.append_nil] at z
  exact z
/-- C(e, .., k = v, ..) -/
theorem we_makeK {con : Cn → List D → (D → Cn → Prop) → Prop} (M : Mk X.K (G.cl n) f) (C : FnOk X.prog X.w X.K X.mg X.base CX0 k f fd ps (spU G con)) (hr : Room (k + 1) X.A) (hm : X.mg x = some (.ref (G.cl n))) (hb : KBn X.K fd ps (j + 1) ks g (fun vs zs => vs ++ πV zs)) (hl : Lay G ks.length πD πV)
    (h : WA X G Γ (e :: es) fun as Γ1 => WK X G Γ1 kws fun ds Γ2 => as.length = j ∧ ds.length = ks.length ∧ con (.ob n []) (as ++ πD ds) fun d c' => d = .non ∧ ∃ fs, c' = .ob n fs ∧ K (.ins n fs) Γ2) (hg : Gl X x := by rfl)
    (hall : (backToKw pos (keywordEach kws X.env)).all (·.1.isSome) = true := by rfl) (hks : (backToKw pos (keywordEach kws X.env)).filterMap (·.1) = ks := by rfl) (hdb : (x == ("__debug__" : Str)) = false := by decide)
    (he : starEach (e :: es) X.env = (false, eval e X.env) :: starEach es X.env := by rfl)
    (hpl : ((backTo pos (starEach (e :: es) X.env)).any (·.1) || (backToKw pos (keywordEach kws X.env)).any (·.1.isNone)) = false := by rfl) : WE X G Γ (.Call (.Name x p) (e :: es) kws pos) K := .of fun σ F H Q E q => by
  refine PE.se (pe_makeK M C hr hg hm hb pass0 pa_S pk_S hall hks hdb he hpl) ?_
  refine h σ F H _ E fun as Γ1 us F1 H1 s1 E1 o1 r1 k1 => ?_
  refine k1 σ F1 H1 _ E1 fun ds Γ2 vs F2 H2 s2 E2 o2 r2 k2 => ?_
  obtain ⟨hla, hlen, k2⟩ := k2
  refine ⟨(reps_len r1).trans hla, (reps_len r2).trans hlen, fun y dx hy hdx hne => ?_⟩
  have rp := reps_app (reps_mono s2.ex _ _ r1) (hl F2 ds vs hlen r2)
  have z := make_ok (G := G) (ds := as ++ πD ds) (dd := []) (dv := []) (KD := fun z => K z Γ2) E2.ex rp reps_nil (fun z v F' H' kd s' r' => q z Γ2 v F' H' (stpN (stp s1 o1 s2) s') (E2.step s') (fun a h => o1 a (o2 a h)) r' kd) (by rw [List.append_nil]; exact k2) hy hdx hne
  rw [List.append_nil] at z
  exact z
/-- f(k = v, ..) -/
theorem we_callK0 {con : List D → (D → Prop) → Prop} (C : FnOk X.prog X.w X.K X.mg X.base CX0 k f fd ps (spP G con)) (hr : Room k X.A) (hm : X.mg x = some (.ref f)) (hk : PySem.W.keepIn X.K (.ref f) = true) (hb : KBn X.K fd ps 0 ks g (fun vs zs => vs ++ πV zs)) (hl : Lay G ks.length πD πV)
    (h : WK X G Γ kws fun ds Γ1 => ds.length = ks.length ∧ con (πD ds) fun d => K d Γ1) (hg : Gl X x := by rfl)
    (hall : (backToKw pos (keywordEach kws X.env)).all (·.1.isSome) = true := by rfl) (hks : (backToKw pos (keywordEach kws X.env)).filterMap (·.1) = ks := by rfl) (hdb : (x == ("__debug__" : Str)) = false := by decide)
    (hpl : ((backTo pos (starEach [] X.env)).any (·.1) || (backToKw pos (keywordEach kws X.env)).any (·.1.isNone)) = false := by rfl) : WE X G Γ (.Call (.Name x p) [] kws pos) K := .of fun σ F H Q E q => by
  refine PE.se (t := fun σ H Q => SK X kws σ H fun zs H2 => zs.length = ks.length ∧ spP G con ([] ++ πV zs) H2 Q E0) ⟨fun pins s σ H Q I h => ?_⟩ ?_
  · refine wpAny_Call_Name_kw (ld_glob I hg hm ?_ hdb)
    refine PySem.W.callWith_KW0 (h₀ := X.base) I.ok.mod.kin hk hall ?_ hpl
    refine thn (pk_S.run pos pins s σ H _ I h) fun ws s2 ⟨zs, H2, I2, rz, l2, q2⟩ => ⟨I2.kIn, ?_⟩
    rw [hks]
    exact run_fnN (us := []) (vs := []) C hr hb pass0 I2 .nil rz rfl l2 q2
  · refine h σ F H _ E fun ds Γ1 vs F1 H1 s1 E1 o1 r1 k1 => ?_
    obtain ⟨hlen, k2⟩ := k1
    exact ⟨(reps_len r1).trans hlen, F1, πD ds, _, E1.ex, hl F1 ds vs hlen r1, k2, fun d v F' H' kd s' r' => q d Γ1 v F' H' (stpN s1 s') (E1.step s') o1 r' kd⟩
/-- f(e, .., k = v, ..) -/
theorem we_callK {con : List D → (D → Prop) → Prop} (C : FnOk X.prog X.w X.K X.mg X.base CX0 k f fd ps (spP G con)) (hr : Room k X.A) (hm : X.mg x = some (.ref f)) (hk : PySem.W.keepIn X.K (.ref f) = true) (hb : KBn X.K fd ps j ks g (fun vs zs => vs ++ πV zs)) (hl : Lay G ks.length πD πV)
    (h : WA X G Γ (e :: es) fun as Γ1 => WK X G Γ1 kws fun ds Γ2 => as.length = j ∧ ds.length = ks.length ∧ con (as ++ πD ds) fun d => K d Γ2) (hg : Gl X x := by rfl)
    (hall : (backToKw pos (keywordEach kws X.env)).all (·.1.isSome) = true := by rfl) (hks : (backToKw pos (keywordEach kws X.env)).filterMap (·.1) = ks := by rfl) (hdb : (x == ("__debug__" : Str)) = false := by decide)
    (he : starEach (e :: es) X.env = (false, eval e X.env) :: starEach es X.env := by rfl)
    (hpl : ((backTo pos (starEach (e :: es) X.env)).any (·.1) || (backToKw pos (keywordEach kws X.env)).any (·.1.isNone)) = false := by rfl) : WE X G Γ (.Call (.Name x p) (e :: es) kws pos) K := .of fun σ F H Q E q => by
  refine PE.se (pe_callN C hr hg hm hk hb pass0 pa_S pk_S hall hks hdb he hpl) ?_
  refine h σ F H _ E fun as Γ1 us F1 H1 s1 E1 o1 r1 k1 => ?_
  refine k1 σ F1 H1 _ E1 fun ds Γ2 vs F2 H2 s2 E2 o2 r2 k2 => ?_
  obtain ⟨hla, hlen, k2⟩ := k2
  exact ⟨(reps_len r1).trans hla, (reps_len r2).trans hlen, F2, as ++ πD ds, _, E2.ex, reps_app (reps_mono s2.ex _ _ r1) (hl F2 ds vs hlen r2), k2, fun d v F' H' kd s' r' => q d Γ2 v F' H' (stpN (stp s1 o1 s2) s') (E2.step s') (fun a h => o1 a (o2 a h)) r' kd⟩
/-- o.m(k = v, ..) -/
theorem we_methK0 {con : List D → (D → Prop) → Prop} {o : Expr} {pl : Sem Bool} (c : Cls X.K (G.cl n)) (hm : Meth X.K (G.cl n) m f) (C : FnOk X.prog X.w X.K X.mg X.base CX0 k f fd ps (spP G con)) (hr : Room k X.A) (hb : KBn X.K fd ps 1 ks g (fun vs zs => vs ++ πV zs)) (hl : Lay G ks.length πD πV)
    (h : WE X G Γ o fun d Γ1 => ∃ fs, d = .ins n fs ∧ fs.lookup m = none ∧ WK X G Γ1 kws fun ds Γ2 => ds.length = ks.length ∧ con (d :: πD ds) fun z => K z Γ2)
    (hall : (backToKw pos (keywordEach kws X.env)).all (·.1.isSome) = true := by rfl) (hks : (backToKw pos (keywordEach kws X.env)).filterMap (·.1) = ks := by rfl)
    (hpl : ((backTo pos (starEach [] X.env)).any (·.1) || (backToKw pos (keywordEach kws X.env)).any (·.1.isNone)) = false := by rfl)
    (ht : eval (.Call (.Attribute o m apos) [] kws pos) X.env = (do
      let ov ← eval o X.env
      standAt apos.atName
      let (f, first) ← holding [ov] (getMethod ov m pl)
      callWith pos f first (backTo pos (starEach [] X.env)) (backToKw pos (keywordEach kws X.env))) := by rfl) : WE X G Γ (.Call (.Attribute o m apos) [] kws pos) K := .of fun σ F H Q E q => by
  refine PE.se (t := fun σ H Q => SE X o σ H fun y H1 => ∃ a dx fs, y = .ref a ∧ H1 a = some (.ins (G.cl n) dx fs) ∧ fs.lookup m = none ∧ SK X kws σ H1 fun zs H2 => zs.length = ks.length ∧ spP G con ([.ref a] ++ πV zs) H2 Q E0) ⟨fun pins s σ H Q I h => ?_⟩ ?_
  · refine PySem.W.methodCall_KW (pl := pl) (thn (pe_S.run pins s σ H _ I h) fun u s1 ⟨x, H1, I1, rx, a, dx, fs, ex, ea, l, q⟩ => ?_) ht
    subst ex
    obtain rfl : u = Value.ref a := rx
    refine getmeth_ok I1 ea c hm l ?_
    refine PySem.W.callWith_KW0 (first := [.ref a]) (h₀ := X.base) I.ok.mod.kin hm.kp hall ?_ hpl
    refine thn (pk_S.run pos pins s1 σ H1 _ I1 q) fun ws s2 ⟨zs, H2, I2, rz, l2, q2⟩ => ⟨I2.kIn, ?_⟩
    rw [hks]
    exact run_fnN (us := [.ref a]) (vs := [.ref a]) C hr hb pass0 I2 (.cons rfl .nil) rz rfl l2 q2
  · refine h σ F H _ E fun d Γ1 v F1 H1 s1 E1 o1 r1 k1 => ?_
    obtain ⟨fs, rfl, hlk, k1⟩ := k1
    obtain ⟨a, dx, gs, rfl, ha, rf⟩ := rep_ins r1
    refine ⟨a, dx, gs, rfl, E1.ex _ _ ha, repf_none rf hlk, ?_⟩
    refine k1 σ F1 H1 _ E1 fun ds Γ2 vs F2 H2 s2 E2 o2 r2 k2 => ?_
    obtain ⟨hlen, k2⟩ := k2
    exact ⟨(reps_len r2).trans hlen, F2, _, _, E2.ex, reps_cons (rep_mono s2.ex _ _ r1) (hl F2 ds vs hlen r2), k2, fun z v F' H' kd s' r' => q z Γ2 v F' H' (stpN (stp s1 o1 s2) s') (E2.step s') (fun a h => o1 a (o2 a h)) r' kd⟩
/-- o.m(e, .., k = v, ..) -/
theorem we_methK {con : List D → (D → Prop) → Prop} {o : Expr} {pl : Sem Bool} (c : Cls X.K (G.cl n)) (hm : Meth X.K (G.cl n) m f) (C : FnOk X.prog X.w X.K X.mg X.base CX0 k f fd ps (spP G con)) (hr : Room k X.A) (hb : KBn X.K fd ps (j + 1) ks g (fun vs zs => vs ++ πV zs)) (hl : Lay G ks.length πD πV)
    (h : WE X G Γ o fun d Γ1 => ∃ fs, d = .ins n fs ∧ fs.lookup m = none ∧ WA X G Γ1 (e :: es) fun as Γ2 => WK X G Γ2 kws fun ds Γ3 => as.length = j ∧ ds.length = ks.length ∧ con (d :: (as ++ πD ds)) fun z => K z Γ3)
    (hall : (backToKw pos (keywordEach kws X.env)).all (·.1.isSome) = true := by rfl) (hks : (backToKw pos (keywordEach kws X.env)).filterMap (·.1) = ks := by rfl)
    (he : starEach (e :: es) X.env = (false, eval e X.env) :: starEach es X.env := by rfl)
    (hpl : ((backTo pos (starEach (e :: es) X.env)).any (·.1) || (backToKw pos (keywordEach kws X.env)).any (·.1.isNone)) = false := by rfl)
    (ht : eval (.Call (.Attribute o m apos) (e :: es) kws pos) X.env = (do
      let ov ← eval o X.env
      standAt apos.atName
      let (f, first) ← holding [ov] (getMethod ov m pl)
      callWith pos f first (backTo pos (starEach (e :: es) X.env)) (backToKw pos (keywordEach kws X.env))) := by rfl) : WE X G Γ (.Call (.Attribute o m apos) (e :: es) kws pos) K := .of fun σ F H Q E q => by
  refine PE.se (t := fun σ H Q => SE X o σ H fun y H1 => ∃ a dx fs, y = .ref a ∧ H1 a = some (.ins (G.cl n) dx fs) ∧ fs.lookup m = none ∧ SA X (e :: es) σ H1 fun us H2 => SK X kws σ H2 fun zs H3 => us.length = j ∧ zs.length = ks.length ∧ spP G con ((.ref a :: us) ++ πV zs) H3 Q E0) ⟨fun pins s σ H Q I h => ?_⟩ ?_
  · refine PySem.W.methodCall_KW (pl := pl) (thn (pe_S.run pins s σ H _ I h) fun u s1 ⟨x, H1, I1, rx, a, dx, fs, ex, ea, l, q⟩ => ?_) ht
    subst ex
    obtain rfl : u = Value.ref a := rx
    refine getmeth_ok I1 ea c hm l ?_
    refine PySem.W.callWith_KW (first := [.ref a]) (h₀ := X.base) I.ok.mod.kin hm.kp hall (thn (pa_S.run pos pins s1 σ H1 _ I1 q) fun us s2 ⟨vs, H2, I2, r, q2⟩ => ?_) hpl he
    refine thn (pk_S.run pos pins s2 σ H2 _ I2 q2) fun ws s3 ⟨zs, H3, I3, rz, l1, l2, q3⟩ => ⟨I3.kIn, ?_⟩
    rw [hks]
    exact run_fnN (us := .ref a :: us) (vs := .ref a :: vs) C hr hb pass0 I3 (.cons rfl r) rz (congrArg Nat.succ l1) l2 q3
  · refine h σ F H _ E fun d Γ1 v F1 H1 s1 E1 o1 r1 k1 => ?_
    obtain ⟨fs, rfl, hlk, k1⟩ := k1
    obtain ⟨a, dx, gs, rfl, ha, rf⟩ := rep_ins r1
    refine ⟨a, dx, gs, rfl, E1.ex _ _ ha, repf_none rf hlk, ?_⟩
    refine k1 σ F1 H1 _ E1 fun as Γ2 us F2 H2 s2 E2 o2 r2 k2 => ?_
    refine k2 σ F2 H2 _ E2 fun ds Γ3 vs F3 H3 s3 E3 o3 r3 k3 => ?_
    obtain ⟨hla, hlen, k4⟩ := k3
    refine ⟨(reps_len r2).trans hla, (reps_len r3).trans hlen, F3, _, _, E3.ex, reps_cons (rep_mono (s2.ex.trans s3.ex) _ _ r1) (reps_app (reps_mono s3.ex _ _ r2) (hl F3 ds vs hlen r3)), k4, fun z v F' H' kd s' r' => ?_⟩
    exact q z Γ3 v F' H' (stpN (stp (stp s1 o1 s2) (fun a h => o1 a (o2 a h)) s3) s') (E3.step s') (fun a h => o1 a (o2 a (o3 a h))) r' kd
end
end Dv

set_option Elab.async false
set_option maxRecDepth 100000
set_option maxHeartbeats 4000000
namespace Dv
open PySem PySem.Spec PyProof.Rows L2
open Evl (Ex ex_l ex_t)

/-! ### != by an own __eq__ -/
section
variable {X : Cx} {G : Gc} {k n : Nat} {f : Addr} {fd : FuncData} {ps : List Str} {ds0 : List Value} {dd : List D} {con : List D → (D → Prop) → Prop} {K : D → Prop} {fs gs : List (Str × D)}
/-- the call of an own def on two values, from a place within a built-in -/
theorem own_runAt {A : Around} {F H : Hp} {x y : D} {u v : V} {Q : VK} (C : FnOk X.prog X.w X.K X.mg X.base CX0 k f fd ps (spP G con)) (sb : Sub X k A) (hb : Binds X.K fd ps ds0) (hd : Dfl G dd ds0) (e : Ex F H) (r1 : rep G F x u) (r2 : rep G F y v)
    (h : con ([x, y] ++ dd) K) (q : ∀ z w F' H', Step No F H F' H' → rep G F' z w → K z → Q w H') {pins : List (Addr × Obj)} {s : Shared} {σ : L2.St} {uu vv : Value} (I : Inv X pins σ H s) (ru : RelV u uu) (rv : RelV v vv) :
    wpAny (model X.prog X.w) A (call (.ref f) [uu, vv]) (EP X pins σ Q) X.xe s := by
  obtain ⟨dv, hdv, hdr⟩ := hd
  have e0 : Env0 X.prog X.w X.K X.mg X.base A X.stack s H := by
    have z := I.env0
    exact ⟨by rw [sb.fr]; exact z.frames, z.mod, z.bs, z.bsz, z.funs, z.frf, z.hok, z.bare⟩
  have rv2 : Vals ([u, v] ++ dv) ([uu, vv] ++ ds0) := (show Vals [u, v] [uu, vv] from .cons ru (.cons rv .nil)).append hdv
  have sp : spP G con ([u, v] ++ dv) H Q E0 := ⟨F, [x, y] ++ dd, _, e, reps_app (reps_cons r1 (reps_cons r2 reps_nil)) (hdr F), h, fun d w F' H' kd s' r' => q d w F' H' s' r' kd⟩
  have hl : ([uu, vv] ++ ds0).length = ps.length := by rw [← rv2.length]; exact C.len _ _ _ _ sp
  refine wpAny_call (codeAny_mono (C.run A X.stack s H ⟨[uu, vv], []⟩ _ _ Q E0 sb.room e0 (hb s [uu, vv] I.kIn hl) rv2 sp) fun r s' hq => ?_)
  cases r with
  | error e => exact pass0 pins σ H s e s' I hq
  | ok fl =>
    cases fl with
    | ret w => exact I.after hq
    | next => exact False.elim hq
    | brk => exact False.elim hq
    | cont => exact False.elim hq
theorem bo_ownNe (C : FnOk X.prog X.w X.K X.mg X.base CX0 k f fd ps (spP G con)) (hr : Room (k + 2) X.A) (hb : Binds X.K fd ps ds0) (hd : Dfl G dd ds0) (hs : PySem.W.findIn X.K (.ref (G.cl n)) "__eq__" = some (some (.ref f)))
    (hf : PySem.W.isFn X.K (.ref f) = true) (hne : PySem.W.findIn X.K (.ref (G.cl n)) "__ne__" = some (some (.builtin "object.__ne__"))) (hob : PySem.W.subIn X.K (.ref (G.cl n)) (.type "object") = some true)
    (h : con ([.ins n fs, .ins n gs] ++ dd) fun z => ∃ b, z = .bl b ∧ K (.bl (!b))) : BO X G (compareOp .NotEq) (.ins n fs) (.ins n gs) K := .of fun F H u v Q e r1 r2 q pins s σ uu vv I ru rv => by
  obtain ⟨a, dx, hs1, rfl, ha, _⟩ := rep_ins r1
  obtain ⟨b, dy, hs2, rfl, hb', _⟩ := rep_ins r2
  obtain rfl : uu = Value.ref a := ru
  obtain rfl : vv = Value.ref b := rv
  obtain ⟨_, _, J⟩ := ins_at I (e _ _ ha)
  obtain ⟨_, _, J'⟩ := ins_at I (e _ _ hb')
  obtain ⟨m, hF⟩ := I.fr
  have kin := I.kIn
  have sb : Sub X (k + 2) X.A := ⟨hr, rfl⟩
  have inner : ∀ A : Around, Sub X (k + 1) A → wpAny (model X.prog X.w) A (Builtin.«object.__ne__» ⟨[.ref a, .ref b], []⟩) (fun r s' => ∃ c, r = .done (.ret (.bool c)) ∧ EP X pins σ Q (.bool c) s') X.xe s := fun A sa => by
    unfold Builtin.«object.__ne__»
    refine wpAny_bind (m := PySem.slotArgs "__ne__" 1 _) (wpAny_of_eq (a := ((.ref a, [.ref b]) : Value × List Value)) (by rfl) ?_)
    dsimp only
    refine wpAny_bind (wpAny_cRoomFor sa.room.units0 ?_)
    refine wpAny_bind (PySem.W.ifBound_K kin J hs hf ?_)
    refine thn (own_runAt (Q := fun w H' => ∃ c, w = .bl c ∧ Q (.bl (!c)) H') C (sa.mono (Nat.le_succ _)) hb hd e r1 r2 h (fun z w F' H' s' r' kz => ?_) I rfl rfl) fun u' s' ⟨w, H', I', rw', c, ew, q'⟩ => ?_
    · obtain ⟨c, rfl, kz⟩ := kz
      exact ⟨c, rep_bl r', q (.bl (!c)) _ F' H' s' r_bl kz⟩
    · subst ew
      cases rw'
      dsimp only
      refine wpAny_bind (wpAny_truthy_bool ?_)
      exact wpAny_pure ⟨!c, rfl, .bl (!c), H', I', rfl, q'⟩
  have call_ : wpAny (model X.prog X.w) X.A (call (.builtin "object.__ne__") [.ref a, .ref b]) (fun r s' => ∃ c, r = .bool c ∧ EP X pins σ Q (.bool c) s') X.xe s := by
    refine wpAny_call (codeAny_call_builtin PySem.F.cmp_object.ne.plain PySem.F.cmpEntry_ne (PySem.W.check_slot PySem.F.cmpKind_ne PySem.F.cmpSplit_ne (J.type.andThen (PySem.W.looks_subIn kin hob)) (PySem.F.cmpArgs_ne _ _) ?_))
    refine wpAny_mono (inner _ sb.in1) (fun r s' hq => ?_) fun _ _ z => z
    obtain ⟨c, rfl, hq⟩ := hq
    exact ⟨c, rfl, hq⟩
  have step : wpAny (model X.prog X.w) X.A (callSpecialIfBound? (.ref a) "__ne__" [.ref b]) (fun r s' => ∃ c, r = some (.bool c) ∧ EP X pins σ Q (.bool c) s') X.xe s := by
    simp only [callSpecialIfBound?, bindSpecialIfBound?]
    refine wpAny_holding (wpAny_bind (wpAny_bind (wpAny_bind (J.type.here ((PySem.W.looks_findIn kin hne).here ?_)))))
    have bnd := PySem.F.cmp_object.ne.bind (.ref a)
    have fin : wpAny (model X.prog X.w) X.A (call (.builtin "object.__ne__") ([.ref a] ++ [.ref b]) >>= fun v => pure (some v)) (fun r s' => ∃ c, r = some (.bool c) ∧ EP X pins σ Q (.bool c) s') X.xe s :=
      wpAny_bind (wpAny_mono call_ (fun v s' ⟨c, ev, hq⟩ => wpAny_pure ⟨c, by rw [ev], hq⟩) fun _ _ z => z)
    refine wpAny_bind (wpAny_askSetting (wpAny_ite ?_))
    split
    · exact wpAny_bind (wpAny_of_eq bnd (wpAny_pure fin))
    · exact wpAny_tryCatch (wpAny_bind (wpAny_of_eq bnd (wpAny_pure fin)))
  unfold compareOp richCompare
  simp only [oneThing_ref]
  refine wpAny_holding (wpAny_bind (wpAny_cRoomFor hr.units0 ?_))
  rw [cmpInfo_NotEq]
  dsimp only
  refine wpAny_bind (J.type.here (wpAny_bind (J'.type.here ?_)))
  rw [show (Value.ref (G.cl n) != Value.ref (G.cl n)) = false from by simp]
  simp only [Bool.false_eq_true, if_false]
  refine wpAny_bind (wpAny_pure ?_)
  simp only [Bool.false_eq_true, if_false]
  unfold tryCompare
  refine wpAny_bind (wpAny_bind (wpAny_mono step (fun r s' hq => ?_) fun _ _ z => z))
  obtain ⟨c, rfl, hq⟩ := hq
  first | exact wpAny_pure (wpAny_pure hq) | exact wpAny_pure hq
end
end Dv

set_option Elab.async false
set_option maxRecDepth 100000
set_option maxHeartbeats 4000000
namespace Dv
open PySem PySem.Spec PyProof.Rows L2
open Evl (Ex ex_l ex_t)

/-! ### values and new lists, side by side -/
/-- what v is, for a slot: a value, or a new thing of one's own (H: the heap ahead) -/
def Good (G : Gc) (H F' H' : Hp) : Sl → V → Prop
  | .val d, v => rep G F' d v
  | .own c, v => ∃ p, v = .ref p ∧ H p = none ∧ F' p = none ∧ holds G F' H' p c
  | _, _ => False
inductive Goods (G : Gc) (H F' H' : Hp) : List Sl → List V → Prop
  | nil : Goods G H F' H' [] []
  | cons {s : Sl} {v : V} {ss : List Sl} {vs : List V} (h : Good G H F' H' s v) (d : ∀ a t w, s.at a → v = .ref a → (t, w) ∈ ss.zip vs → t.at a → w ≠ .ref a) (r : Goods G H F' H' ss vs) : Goods G H F' H' (s :: ss) (v :: vs)
theorem good_some {G : Gc} {H F' H' : Hp} {s : Sl} {v : V} {a : Addr} (h : Good G H F' H' s v) (e : s.at a) (ev : v = .ref a) : H a = none ∧ F' a = none ∧ ∃ o, H' a = some o := by
  obtain ⟨c, rfl | rfl⟩ := e
  · obtain ⟨p, ep, h1, h2, h3⟩ := h
    rw [ev] at ep
    cases ep
    exact ⟨h1, h2, holds_some h3⟩
  · exact h.elim
theorem goods_some {G : Gc} {H F' H' : Hp} : ∀ {ss : List Sl} {vs : List V}, Goods G H F' H' ss vs → ∀ t w a, (t, w) ∈ ss.zip vs → t.at a → w = .ref a → H a = none ∧ F' a = none ∧ ∃ o, H' a = some o
  | _, _, .nil, t, w, a, h, _, _ => by simp at h
  | _, _, .cons h d r, t, w, a, hm, e, ev => by
    rw [List.zip_cons_cons] at hm
    rcases List.mem_cons.mp hm with z | z
    · cases z
      exact good_some h e ev
    · exact goods_some r t w a z e ev
/-- the new things are new for an earlier heap, too -/
theorem goods_back {G : Gc} {O : Addr → Prop} {F H F1 H1 F' H' : Hp} (st : Step O F H F1 H1) : ∀ {ss : List Sl} {vs : List V}, Goods G H1 F' H' ss vs → Goods G H F' H' ss vs
  | _, _, .nil => .nil
  | _, _, .cons (s := s) (v := v) h d r => by
    refine .cons ?_ d (goods_back st r)
    cases s with
    | val d => exact h
    | own c =>
      obtain ⟨p, e, h1, h2⟩ := h
      exact ⟨p, e, st.back h1, h2⟩
    | un => exact h.elim
    | bor a c => exact h.elim
structure WO (X : Cx) (G : Gc) (Γ : En) (es : List Expr) (K : List Sl → En → Prop) : Prop where
  of ::
  run :  ∀ (σ : L2.St) (F H : Hp) (Q : List V → Hp → Prop), Envs G X.N F H σ Γ → (∀ (ss : List Sl) (Γ' : En) (vs : List V) (F' H' : Hp), Step (Ow σ Γ) F H F' H' → Envs G X.N F' H' σ Γ' → (∀ a, Ow σ Γ' a → Ow σ Γ a) → Goods G H F' H' ss vs → K ss Γ' → Q vs H') → SA X es σ H Q
instance (X : Cx) (G : Gc) (Γ : En) (es : List Expr) (K : List Sl → En → Prop) : CoeFun (WO X G Γ es K) (fun _ =>  ∀ (σ : L2.St) (F H : Hp) (Q : List V → Hp → Prop), Envs G X.N F H σ Γ → (∀ (ss : List Sl) (Γ' : En) (vs : List V) (F' H' : Hp), Step (Ow σ Γ) F H F' H' → Envs G X.N F' H' σ Γ' → (∀ a, Ow σ Γ' a → Ow σ Γ a) → Goods G H F' H' ss vs → K ss Γ' → Q vs H') → SA X es σ H Q) := ⟨fun h => h.run⟩
section
variable {X : Cx} {G : Gc} {Γ : En} {e : Expr} {es : List Expr} {KO : List Sl → En → Prop}
theorem wo_nil (k : KO [] Γ) : WO X G Γ [] KO := .of fun σ F H Q E q => PA.sa pa_nil (q [] Γ [] F H (.refl E.ex) E (fun _ h => h) .nil k)
theorem wo_val (h : WE X G Γ e fun d Γ1 => WO X G Γ1 es fun ss Γ2 => KO (.val d :: ss) Γ2) (hs : starEach (e :: es) X.env = (false, eval e X.env) :: starEach es X.env := by rfl) : WO X G Γ (e :: es) KO := .of fun σ F H Q E q => by
  refine PA.sa (pa_cons pe_S pa_S hs) ?_
  refine h σ F H _ E fun d Γ1 v F1 H1 s1 E1 o1 r1 k1 => ?_
  refine k1 σ F1 H1 _ E1 fun ss Γ2 vs F2 H2 s2 E2 o2 g2 k2 => ?_
  refine q (.val d :: ss) Γ2 (v :: vs) F2 H2 (stp s1 o1 s2) E2 (fun a z => o1 a (o2 a z)) (.cons (rep_mono s2.ex _ _ r1) (fun a t w z => ?_) (goods_back s1 g2)) k2
  obtain ⟨c, z | z⟩ := z <;> cases z
theorem wo_own (h : WL X G Γ e fun ds Γ1 => WO X G Γ1 es fun ss Γ2 => KO (.own (.lst ds) :: ss) Γ2) (hs : starEach (e :: es) X.env = (false, eval e X.env) :: starEach es X.env := by rfl) : WO X G Γ (e :: es) KO := .of fun σ F H Q E q => by
  refine PA.sa (pa_cons pe_S pa_S hs) ?_
  refine h σ F H _ E fun ds Γ1 p ws F1 H1 s1 E1 o1 hp hf hp1 r1 k1 => ?_
  refine k1 σ F1 H1 _ E1 fun ss Γ2 vs F2 H2 s2 E2 o2 g2 k2 => ?_
  have off : ¬ Ow σ Γ1 p := fun z => E.fresh hp (o1 p z)
  have hp2 : H2 p = some (.lst ws) := s2.keep p _ off hp1
  have hf2 : F2 p = none := by
    cases z : F2 p with
    | none => rfl
    | some o =>
      rcases s2.new p o z with y | y | y
      · rw [hf] at y; cases y
      · rw [hp1] at y; cases y
      · exact absurd y off
  refine q (.own (.lst ds) :: ss) Γ2 (.ref p :: vs) F2 H2 (stp s1 o1 s2) E2 (fun a z => o1 a (o2 a z)) (.cons ⟨p, rfl, hp, hf2, ws, hp2, reps_mono s2.ex _ _ r1⟩ (fun a t w z ea hm ht ew => ?_) (goods_back s1 g2)) k2
  cases ea
  have y := (goods_some g2 t w p hm ht ew).1
  rw [hp1] at y
  cases y
/-- names set, one after another -/
inductive PutsS : En → List (Str × Sl) → En → Prop
  | nil {Γ : En} : PutsS Γ [] Γ
  | cons {Γ Γ1 Γ2 : En} {x : Str} {s0 s : Sl} {r : List (Str × Sl)} (h : Put Γ x s0 s Γ1) (t : PutsS Γ1 r Γ2) : PutsS Γ ((x, s) :: r) Γ2
def setAll (σ : L2.St) : List (Nat × V) → L2.St
  | [] => σ
  | (i, v) :: r => setAll (σ.set i (some v)) r
theorem putsS_run {H0 F H : Hp} : ∀ {xs : List Str} {ss : List Sl} {vs : List V} {σ : L2.St} {Γ Γ' : En}, xs.length = ss.length → Envs G X.N F H σ Γ → (∀ t w a, (t, w) ∈ ss.zip vs → t.at a → w = .ref a → ¬ Ow σ Γ a) → Goods G H0 F H ss vs → PutsS Γ (xs.zip ss) Γ' →
    ∃ is : List Nat, is.length = xs.length ∧ (∀ (j i : Nat) (x : Str), is[j]? = some i → xs[j]? = some x → X.N[i]? = some x) ∧ Envs G X.N F H (setAll σ (is.zip vs)) Γ' ∧ ∀ a, Ow (setAll σ (is.zip vs)) Γ' a → Ow σ Γ a ∨ ∃ t w, (t, w) ∈ ss.zip vs ∧ t.at a ∧ w = .ref a
  | [], _, vs, σ, Γ, Γ', hl, E, off, g, p => by
    cases g with
    | nil =>
      cases p
      exact ⟨[], rfl, fun j i x h => by simp at h, E, fun a o => .inl o⟩
    | cons => simp at hl
  | x :: xs, _, vs, σ, Γ, Γ', hl, E, off, g, p => by
    cases g with
    | nil => simp at hl
    | cons h d r =>
      rename_i s v ss vs
      rw [List.zip_cons_cons] at p
      cases p with
      | cons hp t =>
        obtain ⟨i, e, e2⟩ := hp.ix
        subst e2
        have hs : (∃ d, s = .val d ∧ rep G F d v) ∨ (∃ p c, s = .own c ∧ v = .ref p ∧ F p = none ∧ holds G F H p c ∧ ¬ Ow σ Γ p) := by
          cases s with
          | val dd => exact .inl ⟨dd, rfl, h⟩
          | own c =>
            obtain ⟨p, rfl, _, h2, h3⟩ := h
            exact .inr ⟨p, c, rfl, rfl, h2, h3, off _ _ p (by rw [List.zip_cons_cons]; exact List.mem_cons_self) ⟨c, .inl rfl⟩ rfl⟩
          | un => exact h.elim
          | bor a c => exact h.elim
        have E1 := E.put e hs
        have off1 : ∀ t w a, (t, w) ∈ ss.zip vs → t.at a → w = .ref a → ¬ Ow (σ.set i (some v)) (Γ.set i (x, s)) a := fun t w a hm ht ew o => by
          rcases Ow.put e E.len o with z | ⟨z1, z2⟩
          · exact off t w a (by rw [List.zip_cons_cons]; exact List.mem_cons_of_mem _ hm) ht ew z
          · exact d a t w z2 z1 hm ht ew
        obtain ⟨is, l, nm, E2, ow⟩ := putsS_run (by simpa using hl) E1 off1 r t
        refine ⟨i :: is, by simp [l], fun j k y h1 h2 => ?_, E2, fun a o => ?_⟩
        · cases j with
          | zero =>
            cases h1
            cases h2
            exact E.name e
          | succ j => exact nm j k y (by simpa using h1) (by simpa using h2)
        · rcases ow a o with z | ⟨t, w, hm, ht, ew⟩
          · rcases Ow.put e E.len z with z | ⟨z1, z2⟩
            · exact .inl z
            · exact .inr ⟨s, v, by rw [List.zip_cons_cons]; exact List.mem_cons_self, z2, z1⟩
          · exact .inr ⟨t, w, by rw [List.zip_cons_cons]; exact List.mem_cons_of_mem _ hm, ht, ew⟩
variable {a b c : Expr} {px py pz pt pt2 pos : Pos} {kt k2 : Nat} {x y z : Str} {K : Ot → Prop}
/-- the ends behind new slots -/
theorem went_of {σ : L2.St} {F H F1 H1 : Hp} {Γ1 Γ2 : En} {ss : List Sl} {vs : List V} {xs : List Str} (E : Envs G X.N F H σ Γ) (s1 : Step (Ow σ Γ) F H F1 H1) (E1 : Envs G X.N F1 H1 σ Γ1) (o1 : ∀ a, Ow σ Γ1 a → Ow σ Γ a) (g : Goods G H F1 H1 ss vs)
    (hl : xs.length = ss.length) (p : PutsS Γ1 (xs.zip ss) Γ2) : ∃ is : List Nat, is.length = xs.length ∧ (∀ (j i : Nat) (x : Str), is[j]? = some i → xs[j]? = some x → X.N[i]? = some x) ∧ Went G X.N Γ σ F H Γ2 (setAll σ (is.zip vs)) F1 H1 := by
  obtain ⟨is, l, nm, E2, ow⟩ := putsS_run hl E1 (fun t w a hm ht ew o => E.fresh (goods_some g t w a hm ht ew).1 (o1 a o)) g p
  refine ⟨is, l, nm, s1, E2, fun a o => ?_⟩
  rcases ow a o with z | ⟨t, w, hm, ht, ew⟩
  · exact .inl (o1 a z)
  · exact .inr (goods_some g t w a hm ht ew).1
theorem goods_len {H F' H' : Hp} {ss : List Sl} {vs : List V} (g : Goods G H F' H' ss vs) : ss.length = vs.length := by
  induction g with
  | nil => rfl
  | cons _ _ _ ih => simp [ih]
/-- x, y = a, b: plain local names; values or new lists -/
theorem ws_parO {i j : Nat} (hc : X.calm = true) (hN : X.N.Nodup) (hi : X.N[i]? = some x) (hj : X.N[j]? = some y) (hij : i ≠ j) (hx : X.env.scope.names.lookup x = some .local) (hy : X.env.scope.names.lookup y = some .local)
    (h : WO X G Γ [a, b] fun ss Γ1 => ss.length = 2 ∧ ∃ Γ2, PutsS Γ1 ([x, y].zip ss) Γ2 ∧ K (.nx Γ2))
    (hw : swappedStores [.Tuple [.Name x px, .Name y py] kt pt] (.Tuple [a, b] k2 pt2) X.env = pure (some [x, y]) := by rfl) (hs : swapsWithSole [.Tuple [.Name x px, .Name y py] kt pt] (.Tuple [a, b] k2 pt2) pos.line X.env = pure false := by rfl) :
    WS X G Γ (.Assign [.Tuple [.Name x px, .Name y py] kt pt] (.Tuple [a, b] k2 pt2) pos) K := .of fun σ F H D E q => by
  refine PS.ss (ps_par hc hN hi hj hij hx hy pa_S hw hs) ?_
  refine h σ F H _ E fun ss Γ1 vs F1 H1 s1 E1 o1 g k1 => ?_
  obtain ⟨hl, Γ2, p, k⟩ := k1
  obtain ⟨is, l, nm, w⟩ := went_of (xs := [x, y]) E s1 E1 o1 g (by rw [hl] <;> rfl) p
  have hv := goods_len g
  rw [hl] at hv
  match vs, is, hv, l with
  | [u, v], [i', j'], _, _ =>
    obtain rfl := nodup_ix hN hi (nm 0 i' x rfl rfl)
    obtain rfl := nodup_ix hN hj (nm 1 j' y rfl rfl)
    exact ⟨u, v, rfl, q.nx Γ2 _ F1 H1 w k⟩
theorem ws_par3O {i j m : Nat} (hc : X.calm = true) (hN : X.N.Nodup) (hi : X.N[i]? = some x) (hj : X.N[j]? = some y) (hm : X.N[m]? = some z) (hij : i ≠ j) (him : i ≠ m) (hjm : j ≠ m) (hx : X.env.scope.names.lookup x = some .local) (hy : X.env.scope.names.lookup y = some .local) (hz : X.env.scope.names.lookup z = some .local)
    (h : WO X G Γ [a, b, c] fun ss Γ1 => ss.length = 3 ∧ ∃ Γ2, PutsS Γ1 ([x, y, z].zip ss) Γ2 ∧ K (.nx Γ2))
    (hw : swappedStores [.Tuple [.Name x px, .Name y py, .Name z pz] kt pt] (.Tuple [a, b, c] k2 pt2) X.env = pure (some [x, y, z]) := by rfl) (hs : swapsWithSole [.Tuple [.Name x px, .Name y py, .Name z pz] kt pt] (.Tuple [a, b, c] k2 pt2) pos.line X.env = pure false := by rfl) :
    WS X G Γ (.Assign [.Tuple [.Name x px, .Name y py, .Name z pz] kt pt] (.Tuple [a, b, c] k2 pt2) pos) K := .of fun σ F H D E q => by
  refine PS.ss (ps_par3 hc hN hi hj hm hij him hjm hx hy hz pa_S hw hs) ?_
  refine h σ F H _ E fun ss Γ1 vs F1 H1 s1 E1 o1 g k1 => ?_
  obtain ⟨hl, Γ2, p, k⟩ := k1
  obtain ⟨is, l, nm, w⟩ := went_of (xs := [x, y, z]) E s1 E1 o1 g (by rw [hl] <;> rfl) p
  have hv := goods_len g
  rw [hl] at hv
  match vs, is, hv, l with
  | [u, v, t], [i', j', m'], _, _ =>
    obtain rfl := nodup_ix hN hi (nm 0 i' x rfl rfl)
    obtain rfl := nodup_ix hN hj (nm 1 j' y rfl rfl)
    obtain rfl := nodup_ix hN hm (nm 2 m' z rfl rfl)
    exact ⟨u, v, t, rfl, q.nx Γ2 _ F1 H1 w k⟩
end

/-! ### several names, cells among them: by the tuple -/
inductive NamesOf : List Expr → List Str → Prop
  | nil : NamesOf [] []
  | cons {x : Str} {p : Pos} {es : List Expr} {xs : List Str} (r : NamesOf es xs) : NamesOf (.Name x p :: es) (x :: xs)
def gNames : List Nat → TGs
  | [] => gNil
  | i :: r => gCons (gName i) (gNames r)
section
variable {X : Cx} {G : Gc} {Γ : En} {e : Expr} {es : List Expr} {pos pt : Pos} {k : Nat} {xs : List Str} {K : Ot → Prop}
theorem pgs_names (hN : X.N.Nodup) : ∀ {es : List Expr} {xs : List Str}, NamesOf es xs → (∀ x ∈ xs, Loc X.env.scope x ∧ (X.fn x = true ∨ X.env.scope.names.lookup x = some .local)) → ∀ is : List Nat, is.length = xs.length → (∀ (j i : Nat) (x : Str), is[j]? = some i → xs[j]? = some x → X.N[i]? = some x) → PGs X es (gNames is)
  | _, _, .nil, _, is, hl, _ => by
    cases is with
    | nil => exact pgs_nil
    | cons => simp at hl
  | _, _, .cons (x := x) r, ok, is, hl, nm => by
    cases is with
    | nil => simp at hl
    | cons i is =>
      obtain ⟨o1, o2⟩ := ok x List.mem_cons_self
      exact pgs_cons (pg_name hN (nm 0 i x rfl rfl) o1 o2) (pgs_names hN r (fun y hy => ok y (List.mem_cons_of_mem _ hy)) is (by simpa using hl) fun j i x h1 h2 => nm (j + 1) i x (by simpa using h1) (by simpa using h2))
theorem gNames_run {H : Hp} {Q : L2.St → Hp → Prop} : ∀ (is : List Nat) (vs : List V) (σ : L2.St), is.length = vs.length → Q (setAll σ (is.zip vs)) H → gNames is vs σ H Q
  | [], [], σ, _, q => ⟨rfl, q⟩
  | [], _ :: _, σ, h, _ => by simp at h
  | _ :: _, [], σ, h, _ => by simp at h
  | i :: is, v :: vs, σ, h, q => ⟨v, vs, rfl, gNames_run is vs _ (by simpa using h) q⟩
theorem goods_vals {H F' H' : Hp} : ∀ {ds : List D} {vs : List V}, reps G F' ds vs → Goods G H F' H' (ds.map .val) vs
  | [], vs, r => by rw [reps_nil_inv r]; exact .nil
  | d :: ds, vs, r => by
    obtain ⟨v, t, rfl, h1, h2⟩ := reps_cons_inv r
    refine .cons h1 (fun a t w z => ?_) (goods_vals h2)
    obtain ⟨c, z | z⟩ := z <;> cases z
/-- x, y, .. = e -/
theorem ws_tup (hK : G.K = X.K) (hc : X.calm = true) (hN : X.N.Nodup) (hn : NamesOf es xs) (ok : ∀ x ∈ xs, Loc X.env.scope x ∧ (X.fn x = true ∨ X.env.scope.names.lookup x = some .local))
    (h : WE X G Γ e fun d Γ1 => ∃ ds Γ2, d = .tup ds ∧ ds.length = xs.length ∧ PutsS Γ1 (xs.zip (ds.map .val)) Γ2 ∧ K (.nx Γ2))
    (hs : swapsWithSole [.Tuple es k pt] e pos.line X.env = pure false := by rfl) (hw : swappedStores [.Tuple es k pt] e X.env = pure none := by rfl) (h1 : (assignEach [.Tuple es k pt] X.env).map (·.2) = [assign (.Tuple es k pt) X.env] := by rfl)
    (hz : (assignEach es X.env).length = xs.length := by rfl) (hst : (assignEach es X.env).findIdx? (·.1) = none := by rfl) : WS X G Γ (.Assign [.Tuple es k pt] e pos) K := .of fun σ F H D E q => by
  refine PS.ss (ps_asg pe_S (pg_S (X := X) (tg := .Tuple es k pt)) hs hw h1) ?_
  refine h σ F H _ E fun d Γ1 v F1 H1 s1 E1 o1 r1 k1 => ?_
  obtain ⟨ds, Γ2, rfl, hl, p, k2⟩ := k1
  obtain ⟨a, us, rfl, hsq, ru⟩ := rep_tup r1
  rw [hK] at hsq
  have hul := reps_len ru
  obtain ⟨is, l, nm, w⟩ := went_of (xs := xs) E s1 E1 o1 (goods_vals (H := H) ru) (by rw [List.length_map, hl]) p
  refine PG.sg (pg_tup hc (pgs_names hN hn ok is l nm) hz hst) ⟨a, us, rfl, ex_t E1.ex hsq, by omega, ?_⟩
  exact gNames_run is us σ (by omega) (q.nx Γ2 _ F1 H1 w k2)
end
end Dv

set_option Elab.async false
set_option maxRecDepth 100000
set_option maxHeartbeats 4000000
/-! A tuple from its end to its beginning. -/
namespace Dw
open PySem PySem.Spec PyProof.Rows L2 HT
section
variable {P : Program} {w : World} {A : Around} {E : Value → Shared → Prop} {s : Shared}
theorem adjust_rev (n : Nat) : Builtin.Slice.sliceAdjust none none (-1) (n : Int) = ((n : Int) - 1, -1) := by
  unfold Builtin.Slice.sliceAdjust
  simp
theorem places_rev (n : Nat) : Builtin.Slice.slicePlaces ((n : Int) - 1) (-1) (-1) = n := by
  unfold Builtin.Slice.slicePlaces
  simp
  omega
theorem applied_rev {sl : Addr} {vl vu vs : Value} {n : Nat} {Q : Int × Int × Nat → Shared → Prop} (hs : s.heap.IsSliceOf sl vl vu vs) (pl : IsPart vl none) (pu : IsPart vu none) (ps : IsPart vs (some (-1)))
    (h : Q ((n : Int) - 1, -1, n) s) : wpAny (model P w) A (Builtin.Slice.sliceApplied (.ref sl) (pure (n : Int))) Q E s := by
  obtain ⟨os, hos, hcs, hds⟩ := id hs
  unfold Builtin.Slice.sliceApplied Builtin.Slice.sliceFields
  refine wpAny_bind (wpAny_bind (wpAny_field hos hds (x := vl) rfl (wpAny_bind (wpAny_field hos hds (x := vu) rfl (wpAny_bind (wpAny_field hos hds (x := vs) rfl (wpAny_pure ?_)))))))
  refine wpAny_bind (slicePart_ ps ?_)
  show wpAny _ _ (if ((-1 : Int) == 0) = true then _ else _) _ _ s
  rw [if_neg (by decide)]
  refine wpAny_bind (slicePart_ pl (wpAny_bind (slicePart_ pu (wpAny_bind (wpAny_pure ?_)))))
  show wpAny _ _ (match Builtin.Slice.sliceAdjust none none (-1) (n : Int) with | (lo, hi) => pure (lo, (-1 : Int), Builtin.Slice.slicePlaces lo hi (-1))) _ _ s
  rw [adjust_rev n]
  show wpAny _ _ (pure ((n : Int) - 1, (-1 : Int), Builtin.Slice.slicePlaces ((n : Int) - 1) (-1) (-1))) _ _ s
  rw [places_rev]
  exact wpAny_pure h
theorem fm_same {α β : Type} {f g : α → Option β} : ∀ {l : List α}, (∀ x ∈ l, f x = g x) → l.filterMap f = l.filterMap g
  | [], _ => rfl
  | a :: l, h => by
    rw [List.filterMap_cons, List.filterMap_cons, h a List.mem_cons_self, fm_same fun x hx => h x (List.mem_cons_of_mem _ hx)]
theorem picked_rev (xs : Array Value) : ((List.range xs.size).filterMap fun (m : Nat) => xs[((xs.size : Int) - 1 + (m : Int) * (-1)).toNat]?).toArray = xs.toList.reverse.toArray := by
  congr 1
  refine List.ext_getElem? fun j => ?_
  have e : ((List.range xs.size).filterMap fun (m : Nat) => xs[((xs.size : Int) - 1 + (m : Int) * (-1)).toNat]?) = (List.range xs.size).filterMap fun m => if h : m < xs.size then some (xs[xs.size - 1 - m]'(by omega)) else none := by
    refine fm_same fun m hm => ?_
    have h := List.mem_range.mp hm
    have e1 : ((xs.size : Int) - 1 + (m : Int) * (-1)).toNat = xs.size - 1 - m := by omega
    rw [e1, dif_pos h, Array.getElem?_eq_getElem (by omega)]
  rw [e]
  have e2 : ((List.range xs.size).filterMap fun m => if h : m < xs.size then some (xs[xs.size - 1 - m]'(by omega)) else none) = (List.range xs.size).map fun m => xs.toList.reverse.getD m .none := by
    rw [← List.filterMap_eq_map]
    refine fm_same fun m hm => ?_
    have h := List.mem_range.mp hm
    rw [dif_pos h]
    simp only [Function.comp]
    rw [List.getD_eq_getElem?_getD, List.getElem?_reverse (by simpa using h), Array.length_toList, Array.getElem?_toList, Array.getElem?_eq_getElem (by omega)]
    rfl
  rw [e2, List.getElem?_map]
  by_cases h : j < xs.size
  · rw [List.getElem?_range h, List.getElem?_eq_getElem (by simpa using h)]
    simp [List.getD_eq_getElem?_getD, h]
  · rw [List.getElem?_eq_none (by simpa using h), List.getElem?_eq_none (by simpa using h)]
    rfl
theorem item_rev {t sl : Addr} {items : Array Value} {vl vu vs : Value} {Q : Value → Shared → Prop} (ht : IsTup s.heap t items) (hs : s.heap.IsSliceOf sl vl vu vs) (pl : IsPart vl none) (pu : IsPart vu none) (ps : IsPart vs (some (-1)))
    (h : Q (.ref s.heap.objs.size) { s with heap := s.heap.push { cls := .type "tuple", data := .seq items.toList.reverse.toArray } })
    (hsz : items.size ≤ sizeLine) : wpAny (model P w) A (getItem (.ref t) (.ref sl)) Q E s := by
  have fits : sizeOk (.seq items.toList.reverse.toArray) := by
    show items.toList.reverse.toArray.size ≤ sizeLine
    rw [List.size_toArray, List.length_reverse, Array.length_toList]
    exact hsz
  obtain ⟨os, hos, hcs, hds⟩ := id hs
  have ty : s.TypeIs (.ref sl) "slice" := ⟨os, hos, hcs⟩
  unfold getItem
  try with_reducible refine wpAny_holding ?_
  first | refine wpAny_bind (wpAny_pure ?_) | skip
  refine wpAny_bind (wpAny_sequenceKey ht.typeIs (by decide) ?_)
  refine wpAny_bind (wpAny_callSpecial?_slot (name := Str.ofString "__getitem__") ht.typeIs slot_tuple_getitem (wpAny_call_entry slot_tuple_getitem ht.typeIs entry_tuple_getitem ?_ (args_tuple_getitem _ _)))
  show wpAny _ _ (Builtin.Tuple.tupleItemsOf (.ref t) >>= _) _ _ s
  refine wpAny_bind (tupleItemsOf_ ht ?_)
  refine wpAny_bind (wpAny_typeOf ty ?_)
  rw [if_pos (by decide)]
  refine wpAny_bind (applied_rev hs pl pu ps ?_)
  have no : ¬ ((((items.size : Int) - 1) == 0 && (-1 : Int) == 1 && items.size == items.size) = true) := by
    intro q
    rw [Bool.and_eq_true, Bool.and_eq_true] at q
    exact absurd q.1.2 (by decide)
  show wpAny _ _ (if (((items.size : Int) - 1) == 0 && (-1 : Int) == 1 && items.size == items.size) = true then _ else _) _ _ s
  rw [if_neg no, picked_rev]
  first
    | exact wpAny_bind (m := Builtin.Tuple.tupleExact _) (wpAny_newObj_type (wpAny_pure ⟨_, rfl, wpAny_pure h⟩) fits)
    | exact wpAny_bind (m := Builtin.Tuple.tupleExact _) (wpAny_newObj_type (wpAny_bind (wpAny_pure (wpAny_pure ⟨_, rfl, wpAny_pure h⟩))) fits)
    | exact wpAny_bind (wpAny_bind (m := Builtin.Tuple.tupleExact _) (wpAny_newObj_type (wpAny_pure (wpAny_pure ⟨_, rfl, wpAny_pure h⟩)) fits))
    | exact wpAny_bind (wpAny_bind (m := Builtin.Tuple.tupleExact _) (wpAny_newObj_type (wpAny_pure ⟨_, rfl, wpAny_pure h⟩) fits))
end
section
variable {X : Cx} {e : Expr} {te : TE} {k : Nat} {p1 p2 p3 pos : Pos}
def rvT (K : PySem.W.Frag) (te : TE) : TE := fun σ H Q => te σ H fun x H1 => ∃ a xs, x = .ref a ∧ SqT K H1 a xs ∧ ∀ p, H1 p = none → Q (.ref p) (upd H1 p (.tup xs.reverse))
theorem pe_rvT (he : PE X e te) : PE X (.Subscript e (.Slice none none (some (.UnaryOp .USub (.Constant (.int 1) k p1) p2)) p3) pos) (rvT X.K te) := by
  refine ⟨fun pins s σ H Q I h => ?_⟩
  refine Subscript_ (thn (he.run pins s σ H _ I h) fun v s1 ⟨x, H1, I1, r1, a, xs, ex, hx, q⟩ => ?_)
  subst ex
  cases r1
  have hst : PO X (some (.UnaryOp .USub (.Constant (.int 1) k p1) p2)) (tPart (tUn (rU fun i => .int (-i)) (tC (.int 1)))) := po_some (pe_un un_neg pe_int)
  refine wpAny_Slice (thn (po_none.run pins s1 σ H1 (fun o H2 => o = none ∧ H2 = H1) I1 ⟨rfl, rfl⟩) fun vl s2 ⟨l, H2, I2, pl, el, e2⟩ => ?_)
  subst el e2
  refine thn (po_none.run pins s2 σ H2 (fun o H3 => o = none ∧ H3 = H2) I2 ⟨rfl, rfl⟩) fun vu s3 ⟨u, H3, I3, pu, eu, e3⟩ => ?_
  subst eu e3
  refine thn (hst.run pins s3 σ H3 (fun o H4 => o = some (-1) ∧ H4 = H3) I3 ⟨1, rfl, -1, rfl, rfl, rfl⟩) fun vs s4 ⟨o, H4, I4, ps, eo, e4⟩ => ?_
  subst eo e4
  have I5 : Inv X pins σ H4 { s4 with heap := s4.heap.push { cls := .type "slice", data := .fields #[vl, vu, vs] } } := I4.kept (t' := s4.toks) fun b ob q => Heap.get?_push_of_some _ q
  obtain ⟨its, r, ht, hz⟩ := I5.tuple hx
  show wpAny (model X.prog X.w) X.A (subscriptTail e (.Slice none none (some (.UnaryOp .USub (.Constant (.int 1) k p1) p2)) p3) (.ref a) (.ref s4.heap.objs.size)) (EP X pins σ Q) X.xe { s4 with heap := s4.heap.push { cls := .type "slice", data := .fields #[vl, vu, vs] } }
  refine tail_any (ops := [.ref a, .ref s4.heap.objs.size]) ht.typeIs slot_tuple_getitem.lookup ?_ (by with_unfolding_all rfl)
  refine item_rev ht (Heap.IsSliceOf.new _ vl vu vs) pl pu ps ?_ (by rw [List.size_toArray, ← r.length]; exact hz)
  refine ⟨.ref _, _, I5.laid (t' := s4.toks) (o := .tup xs.reverse) (fun b ob q => Heap.get?_push_of_some _ q) (Nat.le_refl _) ?_, rfl, q _ (I5.hok.fresh (Nat.le_refl _))⟩
  refine ⟨by rw [List.length_reverse]; exact hz, its.reverse, r.reverse, ?_⟩
  exact ⟨_, Heap.get?_push_size _ rfl, rfl, 0, rfl⟩
end
end Dw

set_option Elab.async false
set_option maxRecDepth 100000
set_option maxHeartbeats 4000000
namespace Dv
open PySem PySem.Spec PyProof.Rows L2
open Evl (Ex ex_l ex_t)

section
variable {X : Cx} {G : Gc} {Γ : En} {e : Expr} {k : Nat} {p1 p2 p3 pos : Pos} {K : D → En → Prop} {KA : List D → En → Prop} {KD : D → Prop} {i j : Int}
/-- t[::-1] -/
theorem we_rev (hK : G.K = X.K) (h : WE X G Γ e fun d Γ1 => ∃ xs, d = .tup xs ∧ K (.tup xs.reverse) Γ1) : WE X G Γ (.Subscript e (.Slice none none (some (.UnaryOp .USub (.Constant (.int 1) k p1) p2)) p3) pos) K := .of fun σ F H Q E q => by
  refine PE.se (Dw.pe_rvT pe_S) ?_
  refine h σ F H _ E fun d Γ1 v F1 H1 s1 E1 o1 r1 k1 => ?_
  obtain ⟨xs, rfl, k1⟩ := k1
  obtain ⟨a, us, rfl, hs, ru⟩ := rep_tup r1
  rw [hK] at hs
  refine ⟨a, us, rfl, ex_t E1.ex hs, fun p hp => ?_⟩
  have st : Step No F1 H1 (upd F1 p (.tup us.reverse)) (upd H1 p (.tup us.reverse)) := Step.lay E1.ex hp
  exact q _ Γ1 _ _ _ (stpN s1 st) (E1.step st) o1 (r_tup upd_same (reps_mono st.ex _ _ (reps_rev ru))) k1
/-- xs[::-1] -/
theorem wl_rev (hK : G.K = X.K) (h : WE X G Γ e fun d Γ1 => ∃ xs, d = .lst xs ∧ KA xs.reverse Γ1) : WL X G Γ (.Subscript e (.Slice none none (some (.UnaryOp .USub (.Constant (.int 1) k p1) p2)) p3) pos) KA := .of fun σ F H Q E q => by
  refine PE.se (pe_revL pe_S) ?_
  refine h σ F H _ E fun d Γ1 v F1 H1 s1 E1 o1 r1 k1 => ?_
  obtain ⟨xs, rfl, k1⟩ := k1
  obtain ⟨a, us, rfl, hs, ru⟩ := rep_lst r1
  rw [hK] at hs
  refine ⟨a, us, rfl, ex_l E1.ex hs, fun p hp => ?_⟩
  have st : Step No F1 H1 F1 (upd H1 p (.lst us.reverse)) := Step.lay0 E1.ex hp
  exact q _ Γ1 p _ F1 _ (stpN s1 st) (E1.step st) o1 (s1.back hp) (ex_none E1.ex hp) upd_same (reps_rev ru) k1

/-! ### numbers of any size -/
theorem bo_mul {a b : Nat} (ha : i.natAbs < 2 ^ a) (hb : j.natAbs < 2 ^ b) (h : a + b ≤ 1000000) (h0 : 0 < a) (h1 : 0 < b) (k : KD (.int (i * j))) : BO X G (binaryOp .Mult) (.int i) (.int j) KD := bo_II op_mulW (wide_mul ha hb h0 h1 h) k
theorem bo_fdiv {b : Nat} (hj : 0 < j) (hb : j.natAbs < 2 ^ b) (h0 : 0 < b) (h9 : b ≤ 9000) (k : KD (.int (i / j))) : BO X G (binaryOp .FloorDiv) (.int i) (.int j) KD := bo_II op_fdivW (wide_div hj hb h0 h9) k
theorem bo_mod (hj : 0 < j) (k : KD (.int (i % j))) : BO X G (binaryOp .Mod) (.int i) (.int j) KD := bo_II op_mod hj k
theorem bo_pow (hj : 0 ≤ j) (h1 : j ≤ 1000000) (hi : i.natAbs < 2 ^ 64) (k : KD (.int (i ^ j.toNat))) : BO X G (binaryOp .Pow) (.int i) (.int j) KD := bo_II op_pow ⟨hj, h1, hi⟩ k
theorem we_neg (h : WE X G Γ e fun d Γ1 => ∃ i, d = .int i ∧ K (.int (-i)) Γ1) : WE X G Γ (.UnaryOp .USub e pos) K := .of fun σ F H Q E q => by
  refine PE.se (pe_un un_neg pe_S) ?_
  refine h σ F H _ E fun d Γ1 v F1 H1 s1 E1 o1 r1 k1 => ?_
  obtain ⟨i, rfl, k1⟩ := k1
  exact ⟨i, rep_int r1, q _ Γ1 _ F1 H1 s1 E1 o1 r_int k1⟩
end
end Dv

set_option Elab.async false
set_option maxRecDepth 100000
set_option maxHeartbeats 4000000
/-! Texts in their order: rows of texts that rise, each one once. -/
namespace Dm
open PySem PySem.Spec PyProof.Rows L2

def lt (x y : Str) : Bool := ltCps x.cps.toList y.cps.toList
theorem cps_irr : ∀ a : List Nat, ltCps a a = false
  | [] => rfl
  | x :: r => by
    unfold ltCps
    simp [cps_irr r]
theorem cps_tr : ∀ a b c : List Nat, ltCps a b = true → ltCps b c = true → ltCps a c = true
  | [], [], _, h, _ => by cases h
  | [], _ :: _, [], _, h => by cases h
  | [], _ :: _, _ :: _, _, _ => rfl
  | _ :: _, [], _, h, _ => by cases h
  | _ :: _, _ :: _, [], _, h => by cases h
  | x :: a, y :: b, z :: c, h, g => by
    unfold ltCps at h g ⊢
    rcases Bool.or_eq_true_iff.mp h with h | h
    · rcases Bool.or_eq_true_iff.mp g with g | g
      · have h1 := of_decide_eq_true h
        have g1 := of_decide_eq_true g
        simp [Nat.lt_trans h1 g1]
      · obtain ⟨g1, g2⟩ := Bool.and_eq_true_iff.mp g
        have e := eq_of_beq g1
        subst e
        simp [of_decide_eq_true h]
    · obtain ⟨h1, h2⟩ := Bool.and_eq_true_iff.mp h
      have e := eq_of_beq h1
      subst e
      rcases Bool.or_eq_true_iff.mp g with g | g
      · simp [of_decide_eq_true g]
      · obtain ⟨g1, g2⟩ := Bool.and_eq_true_iff.mp g
        have e := eq_of_beq g1
        subst e
        simp [cps_tr a b c h2 g2]
theorem cps_tot : ∀ a b : List Nat, ltCps a b = false → ltCps b a = false → a = b
  | [], [], _, _ => rfl
  | [], _ :: _, h, _ => by cases h
  | _ :: _, [], _, h => by cases h
  | x :: a, y :: b, h, g => by
    unfold ltCps at h g
    obtain ⟨h1, h2⟩ := Bool.or_eq_false_iff.mp h
    obtain ⟨g1, g2⟩ := Bool.or_eq_false_iff.mp g
    have e : x = y := by
      have a1 := of_decide_eq_false h1
      have a2 := of_decide_eq_false g1
      omega
    subst e
    simp only [beq_self_eq_true, Bool.true_and] at h2 g2
    rw [cps_tot a b h2 g2]
theorem irr (x : Str) : lt x x = false := cps_irr _
theorem tr {x y z : Str} (h : lt x y = true) (g : lt y z = true) : lt x z = true := cps_tr _ _ _ h g
theorem tot {x y : Str} (h : lt x y = false) (g : lt y x = false) : x = y := by
  have e := cps_tot _ _ h g
  cases x
  cases y
  congr 1
  exact Array.toList_inj.mp e
theorem asym {x y : Str} (h : lt x y = true) : lt y x = false := by
  cases q : lt y x with
  | false => rfl
  | true =>
    have := tr h q
    rw [irr] at this
    cases this
theorem le_tr {x y z : Str} (h : lt y x = false) (g : lt z y = false) : lt z x = false := by
  cases q : lt z x with
  | false => rfl
  | true =>
    cases p : lt x y with
    | true =>
      rw [tr q p] at g
      cases g
    | false =>
      rw [tot p h] at q
      rw [q] at g
      cases g

/-- rising, each one once -/
abbrev Up (l : List Str) : Prop := l.Pairwise fun a b => lt a b = true
theorem rising_pw : ∀ (p : Str) (l : List Str), risingS p l = true → (p :: l).Pairwise fun a b => lt b a = false
  | p, [], _ => by simp
  | p, x :: r, h => by
    unfold risingS at h
    obtain ⟨h1, h2⟩ := Bool.and_eq_true_iff.mp h
    have h1 : lt x p = false := by simpa [lt] using h1
    have ih := rising_pw x r h2
    refine List.pairwise_cons.mpr ⟨fun y hy => ?_, ih⟩
    rcases List.mem_cons.mp hy with e | hy
    · rw [e]; exact h1
    · exact le_tr h1 ((List.pairwise_cons.mp ih).1 y hy)
theorem sorted_pw {l : List Str} (h : sortedS l = true) : l.Pairwise fun a b => lt b a = false := by
  cases l with
  | nil => exact List.Pairwise.nil
  | cons x r => exact rising_pw x r h
theorem up_of {l : List Str} (h : sortedS l = true) (n : l.Nodup) : Up l := by
  have p := sorted_pw h
  clear h
  induction l with
  | nil => exact List.Pairwise.nil
  | cons x r ih =>
    obtain ⟨p1, p2⟩ := List.pairwise_cons.mp p
    obtain ⟨n1, n2⟩ := List.nodup_cons.mp n
    refine List.pairwise_cons.mpr ⟨fun y hy => ?_, ih n2 p2⟩
    cases q : lt x y with
    | true => rfl
    | false => exact absurd (tot q (p1 y hy) ▸ hy) n1
/-- two rising rows with the same texts are one -/
theorem up_one : ∀ {l m : List Str}, Up l → Up m → (∀ x, x ∈ l ↔ x ∈ m) → l = m
  | [], [], _, _, _ => rfl
  | [], y :: m, _, _, h => absurd ((h y).mpr List.mem_cons_self) (by simp)
  | x :: l, [], _, _, h => absurd ((h x).mp List.mem_cons_self) (by simp)
  | x :: l, y :: m, hl, hm, h => by
    obtain ⟨l1, l2⟩ := List.pairwise_cons.mp hl
    obtain ⟨m1, m2⟩ := List.pairwise_cons.mp hm
    have e : x = y := by
      rcases List.mem_cons.mp ((h x).mp List.mem_cons_self) with e | hx
      · exact e
      · rcases List.mem_cons.mp ((h y).mpr List.mem_cons_self) with e | hy
        · exact e.symm
        · have a := m1 x hx
          have b := l1 y hy
          rw [asym a] at b
          cases b
    subst e
    congr 1
    refine up_one l2 m2 fun z => ⟨fun hz => ?_, fun hz => ?_⟩
    · rcases List.mem_cons.mp ((h z).mp (List.mem_cons_of_mem _ hz)) with e | q
      · subst e
        have := l1 z hz
        rw [irr] at this
        cases this
      · exact q
    · rcases List.mem_cons.mp ((h z).mpr (List.mem_cons_of_mem _ hz)) with e | q
      · subst e
        have := m1 z hz
        rw [irr] at this
        cases this
      · exact q
/-- put at its place, if it is not there -/
def ins (x : Str) : List Str → List Str
  | [] => [x]
  | y :: r => if lt x y = true then x :: y :: r else if lt y x = true then y :: ins x r else y :: r
def srt : List Str → List Str
  | [] => []
  | x :: r => ins x (srt r)
theorem mem_ins {x z : Str} : ∀ {l : List Str}, z ∈ ins x l ↔ z = x ∨ z ∈ l
  | [] => by simp [ins]
  | y :: r => by
    unfold ins
    split
    · simp
    · split
      · rw [List.mem_cons, mem_ins, List.mem_cons]
        exact or_left_comm
      · rename_i h g
        have e := tot (by simpa using h) (by simpa using g)
        subst e
        simp
theorem mem_srt {z : Str} : ∀ {l : List Str}, z ∈ srt l ↔ z ∈ l
  | [] => by simp [srt]
  | x :: r => by
    unfold srt
    rw [mem_ins, mem_srt, List.mem_cons]
theorem up_ins {x : Str} : ∀ {l : List Str}, Up l → Up (ins x l)
  | [], _ => by simp [ins]
  | y :: r, h => by
    obtain ⟨h1, h2⟩ := List.pairwise_cons.mp h
    unfold ins
    split
    · rename_i q
      refine List.pairwise_cons.mpr ⟨fun z hz => ?_, h⟩
      rcases List.mem_cons.mp hz with e | hz
      · rw [e]; exact q
      · exact tr q (h1 z hz)
    · split
      · rename_i q
        refine List.pairwise_cons.mpr ⟨fun z hz => ?_, up_ins h2⟩
        rcases mem_ins.mp hz with e | hz
        · rw [e]; exact q
        · exact h1 z hz
      · exact h
theorem up_srt : ∀ l : List Str, Up (srt l)
  | [] => List.Pairwise.nil
  | x :: r => up_ins (up_srt r)
theorem len_ins {x : Str} : ∀ {l : List Str}, (ins x l).length ≤ l.length + 1
  | [] => by simp [ins]
  | y :: r => by
    unfold ins
    split
    · simp
    · split
      · have := len_ins (x := x) (l := r)
        simp only [List.length_cons]
        omega
      · simp
theorem len_srt : ∀ l : List Str, (srt l).length ≤ l.length
  | [] => by simp [srt]
  | x :: r => by
    have := len_srt r
    have := len_ins (x := x) (l := srt r)
    unfold srt
    simp only [List.length_cons]
    omega
/-- what sorted(set(xs)) is -/
theorem srt_eq {xs ys : List Str} (h : sortedS ys = true) (n : ys.Nodup) (m : ∀ x, x ∈ ys ↔ x ∈ xs) : ys = srt xs := up_one (up_of h n) (up_srt xs) fun x => (m x).trans mem_srt.symm
theorem srt_same {xs ys : List Str} (m : ∀ x, x ∈ xs ↔ x ∈ ys) : srt xs = srt ys := up_one (up_srt _) (up_srt _) fun x => mem_srt.trans ((m x).trans mem_srt.symm)
theorem srt_up {xs : List Str} (h : Up xs) : srt xs = xs := up_one (up_srt _) h fun x => mem_srt
theorem up_nodup {l : List Str} (h : Up l) : l.Nodup := h.imp fun {a b} q e => by
  subst e
  rw [irr] at q
  cases q
/-- sorted(xs), each one once in xs -/
theorem srt_perm {xs ys : List Str} (h : sortedS ys = true) (p : ys.Perm xs) (n : xs.Nodup) : ys = srt xs := srt_eq h (p.nodup_iff.mpr n) fun x => p.mem_iff
end Dm

set_option Elab.async false
set_option maxRecDepth 100000
set_option maxHeartbeats 4000000
namespace Dv
open PySem PySem.Spec PyProof.Rows L2
open Evl (Ex ex_l ex_t)
section
variable {X : Cx} {G : Gc} {KL : List D → Prop}
/-- list(s): its signs -/
theorem cr_listS (hc : X.calm = true) : CallR X (.type "list") fun vs H Q => ∃ s : Str, vs = [.str s] ∧ s.length ≤ 100000 ∧ ∀ p, H p = none → Q (.ref p) (upd H p (.lst ((signs s).map .str))) := by
  intro pins s σ H vs us Q I r h
  obtain ⟨x, rfl, hl, q⟩ := h
  obtain ⟨u, rfl, ru⟩ := vals1 r
  obtain ⟨t, rfl⟩ := ru
  have hz : x.cps.size ≤ sizeLine := Nat.le_trans hl (by decide)
  refine call_list_str (I.ok.hd hc) x t (fun h' tk acc c old at_ it => ?_) hz
  have hv : Vals ((signs x).map V.str) acc.toList := by
    have len : ((signs x).map V.str).length = acc.toList.length := by
      have e1 : acc.size = x.cps.size := it.1
      rw [List.length_map, signs_length]
      exact e1.symm
    have key : ∀ (vs : List V) (us : List Value), vs.length = us.length → (∀ (j : Nat) (u : Value), us[j]? = some u → ∃ v, vs[j]? = some v ∧ RelV v u) → Vals vs us := fun vs => by
      induction vs with
      | nil =>
        intro us hl _
        cases us with
        | nil => exact .nil
        | cons => simp at hl
      | cons v vs ih =>
        intro us hl h
        cases us with
        | nil => simp at hl
        | cons u us =>
          obtain ⟨v', e, r⟩ := h 0 u rfl
          cases e
          exact .cons r (ih us (by simpa using hl) fun j w e => h (j + 1) w (by simpa using e))
    refine key _ _ len fun j u e => ?_
    obtain ⟨c, tk, hc, rfl⟩ := it.2 j u (by simpa using e)
    exact ⟨.str ⟨#[c]⟩, by simp [signs, hc], tk, rfl⟩
  refine ⟨.ref s.heap.objs.size, _, I.laid (t' := tk) old (Nat.le_refl _) (show ObjOk X.prog X.w _ h' _ (.lst ((signs x).map V.str)) from ⟨?_, acc.toList, c, hv, by simpa using at_⟩), rfl, q _ (I.hok.fresh (Nat.le_refl _))⟩
  rw [List.length_map]
  simpa [signs] using hz
theorem cl_listS {s : Str} (hc : X.calm = true) (hl : s.length ≤ 100000) (k : KL ((signs s).map .str)) : CL X G (.type "list") [.str s] KL := .of fun F H vs Q e r q => by
  obtain ⟨v, rfl, r1⟩ := reps1 r
  rw [rep_str r1]
  exact CallR.sc (cr_listS hc) ⟨s, rfl, hl, fun p hp => q _ p _ hp (strs_reps _) k⟩
end
end Dv

set_option Elab.async false
set_option maxRecDepth 100000
set_option maxHeartbeats 4000000
namespace Dv
open PySem PySem.Spec PyProof.Rows L2
open Evl (Ex ex_l ex_t)

/-! ### a new list as a result -/
def spL (G : Gc) (con : List D → (List D → Prop) → Prop) : Sp := fun vs H Q _ => ∃ F ds Kd, Ex F H ∧ reps G F ds vs ∧ con ds Kd ∧
  ∀ zs p ws F' H', Kd zs → Step No F H F' H' → H p = none → F' p = none → H' p = some (.lst ws) → reps G F' zs ws → Q (.ref p) H'
/-- rows that end by returning a new list -/
structure WBL (X : Cx) (G : Gc) (Γ : En) (sts : List Stmt) (K : List D → Prop) : Prop where
  of ::
  run : ∀ (σ : L2.St) (F H : Hp) (N : Ends), Envs G X.N F H σ Γ → (∀ zs p ws F' H', Step (Ow σ Γ) F H F' H' → H p = none → F' p = none → H' p = some (.lst ws) → reps G F' zs ws → K zs → N.rt (.ref p) H') → SSs X sts N σ H
instance (X : Cx) (G : Gc) (Γ : En) (sts : List Stmt) (K : List D → Prop) : CoeFun (WBL X G Γ sts K) (fun _ => ∀ (σ : L2.St) (F H : Hp) (N : Ends), Envs G X.N F H σ Γ → (∀ zs p ws F' H', Step (Ow σ Γ) F H F' H' → H p = none → F' p = none → H' p = some (.lst ws) → reps G F' zs ws → K zs → N.rt (.ref p) H') → SSs X sts N σ H) := ⟨fun h => h.run⟩
section
variable {X : Cx} {G : Gc} {Γ : En} {e : Expr} {pos : Pos} {K : List D → Prop} {stm : Stmt} {sts : List Stmt}
def ThenL (X : Cx) (G : Gc) (sts : List Stmt) (K : List D → Prop) : Ot → Prop
  | .nx Γ => WBL X G Γ sts K
  | _ => False
theorem wbl_ret (h : WL X G Γ e fun ds _ => K ds) : WBL X G Γ [.Return (some e) pos] K := .of fun σ F H N E q => by
  refine PSs.ss (pss_one ps_S) (PS.ss (ps_ret pe_S) ?_)
  exact h σ F H _ E fun ds Γ' p vs F' H' s E' o hp hf hp' r k => q ds p vs F' H' s hp hf hp' r k
theorem wbl_cons (h : WS X G Γ stm (ThenL X G sts K)) : WBL X G Γ (stm :: sts) K := .of fun σ F H N E q => by
  refine PSs.ss (pss_cons ps_S pss_S) ?_
  refine h σ F H _ E ⟨fun Γ' σ' F' H' w k => ?_, fun _ _ _ _ _ _ _ _ k => k.elim, fun _ _ _ _ _ k => k.elim, fun _ _ _ _ _ k => k.elim⟩
  exact WBL.run k σ' F' H' N w.en fun zs p ws F2 H2 s hp hf hp' r kz => q zs p ws F2 H2 (w.st.trans s w.ow) (w.st.back hp) hf hp' r kz
end
section
variable {P : Program} {w : World} {K : PySem.W.Frag} {mg : Str → Option Value} {base : Heap} {G : Gc} {x qual : Str} {st : Stmt} {f : Addr} {fd : FuncData} {N ps : List Str} {k : Nat}
theorem def_l {con : List D → (List D → Prop) → Prop} (F : Fun K x qual st f fd) (S : FnScope N ps (defScope st)) (len : ∀ ds Kd, con ds Kd → ds.length = ps.length)
    (body : ∀ (cdv : Value) (A : Around) (outer : List Env) (s : Shared) (H : Hp) (E : XK) (ds : List D) (Kd : List D → Prop), Room k (A.deeper (envOfC qual (defScope st) s.heap.objs.size f cdv)) → con ds Kd →
      WBL (cxOf CX0 P w K mg base N qual (defScope st) f cdv A outer s H E).nox G (En0 N (ds.map .val)) (defBody st) Kd) : FnOk P w K mg base CX0 (k + 1) f fd ps (spL G con) := by
  refine F.ok S (fun vs H Q E h => ?_) (fun cdv A outer s H vs Q E hr h => ?_)
  · obtain ⟨F0, ds, Kd, _, r, h, _⟩ := h
    rw [reps_len r]
    exact len _ _ h
  · obtain ⟨F0, ds, Kd, e, r, h, hq⟩ := h
    have hl : vs.length ≤ N.length := by
      have q := congrArg List.length S.pre
      rw [List.length_take] at q
      rw [reps_len r, len _ _ h]
      omega
    have ee := envs_p (N := N) e r hl
    refine ⟨_, pss_S, ?_⟩
    exact body cdv A outer s H E ds Kd hr h (L2.start N vs) F0 H _ ee fun zs p ws F' H' s hp hf hp' r kz => hq zs p ws F' H' kz (s.mono fun a o => no_own o) hp hf hp' r
end
section
variable {X : Cx} {G : Gc} {Γ : En} {e : Expr} {es : List Expr} {p pos : Pos} {K : D → En → Prop} {KL : List D → En → Prop} {k : Nat} {f : Addr} {fd : FuncData} {ps : List Str} {x : Str} {ds0 : List Value} {dd : List D}
/-- f(e, ..), a new list -/
theorem wl_call {con : List D → (List D → Prop) → Prop} (C : FnOk X.prog X.w X.K X.mg X.base CX0 k f fd ps (spL G con)) (hr : Room k X.A) (hm : X.mg x = some (.ref f)) (hk : PySem.W.keepIn X.K (.ref f) = true) (hb : Binds X.K fd ps ds0) (hd : Dfl G dd ds0)
    (h : WA X G Γ (e :: es) fun ds Γ1 => con (ds ++ dd) fun d => KL d Γ1) (hg : Gl X x := by rfl) (hdb : (x == ("__debug__" : Str)) = false := by decide)
    (he : starEach (e :: es) X.env = (false, eval e X.env) :: starEach es X.env := by rfl) (hpl : (backTo pos (starEach es X.env)).any (·.1) = false := by rfl) : WL X G Γ (.Call (.Name x p) (e :: es) [] pos) KL := .of fun σ F H Q E q => by
  obtain ⟨dv, hv, hdr⟩ := hd
  refine PE.se (pe_call C hr hg hm hk hb hv pass0 pa_S hdb he hpl) ?_
  refine h σ F H _ E fun ds Γ1 vs F1 H1 s1 E1 o1 r1 k1 => ?_
  refine ⟨F1, ds ++ dd, _, E1.ex, reps_app r1 (hdr F1), k1, fun zs p ws F' H' kd s' hp hf hp' r' => ?_⟩
  exact q zs Γ1 p ws F' H' (stpN s1 s') (E1.step s') o1 (s1.back hp) hf hp' r' kd
/-- f(e): e a new list, lent -/
theorem we_callUL {con : Cn → List D → (D → Cn → Prop) → Prop} (C : FnOk X.prog X.w X.K X.mg X.base CX0 k f fd ps (spU G con)) (hr : Room k X.A) (hm : X.mg x = some (.ref f)) (hk : PySem.W.keepIn X.K (.ref f) = true) (hb : Binds X.K fd ps ds0) (hd : Dfl G dd ds0)
    (h : WL X G Γ e fun ds Γ1 => con (.lst ds) dd fun d _ => K d Γ1) (hg : Gl X x := by rfl) (hdb : (x == ("__debug__" : Str)) = false := by decide)
    (he : starEach [e] X.env = (false, eval e X.env) :: starEach [] X.env := by rfl) (hpl : (backTo pos (starEach [] X.env)).any (·.1) = false := by rfl) : WE X G Γ (.Call (.Name x p) [e] [] pos) K := .of fun σ F H Q E q => by
  obtain ⟨dv, hv, hdr⟩ := hd
  refine PE.se (pe_call C hr hg hm hk hb hv pass0 (pa_cons pe_S pa_nil he) hdb he hpl) ?_
  refine h σ F H _ E fun ds Γ1 a vs F1 H1 s1 E1 o1 ha hf ha1 r1 k1 => ?_
  refine ⟨F1, a, dv, .lst ds, dd, _, rfl, E1.ex, hf, (show ∃ vs, _ ∧ _ from ⟨vs, ha1, r1⟩), hdr F1, k1, fun d c' v F' H' kd s' hf' ho' r' => ?_⟩
  have off : ∀ b, Ow σ Γ1 b → b ≠ a := fun b o z => E.fresh ha (o1 a (z ▸ o))
  have st : Step (Ow σ Γ) F H F' H' := s1.trans s' fun b z => .inr (z ▸ ha)
  refine q d Γ1 v F' H' st (E1.move s'.ex s'.sub (fun b o ow z => s'.keep b o (off b ow) z) fun b ow => ?_) o1 r' kd
  obtain ⟨e3, u, e2⟩ := E1.owF ow
  cases z : F' b with
  | none => rfl
  | some o =>
    rcases s'.new b o z with y | y | y
    · rw [e3] at y; cases y
    · rw [e2] at y; cases y
    · exact absurd y (off b ow)
end
end Dv
namespace Dv
open PySem PySem.Spec PyProof.Rows L2
open Evl (Ex ex_l ex_t)
section
variable {X : Cx} {G : Gc} {Γ : En} {tg e : Expr} {K : List D → En → Prop}
/-- a text, sign by sign -/
theorem wi_str (h : WE X G Γ e fun d Γ1 => ∃ s, d = .str s ∧ K ((signs s).map .str) Γ1) : WI X G Γ tg e K := .of fun σ F H R E q => by
  refine PI.si (pi_str pe_S) ?_
  refine h σ F H _ E fun d Γ1 v F1 H1 s1 E1 o1 r1 k1 => ?_
  obtain ⟨s, rfl, k⟩ := k1
  have hl : ((signs s).map D.str).length = s.cps.size := by rw [List.length_map, signs_length] <;> rfl
  refine ⟨s, rep_str r1, q _ Γ1 _ F1 H1 s1 E1 o1 ⟨fun i H hi _ => walk_str.goes i H (hl ▸ hi) trivial, fun H _ => hl ▸ walk_str.stops H trivial, fun i F H x H' e1 e2 hi y => ?_⟩ k⟩
  obtain ⟨rfl, c, hc, rfl⟩ := walk_str.yields i H x H' (hl ▸ hi) trivial y
  exact ⟨.str ⟨#[c]⟩, F, by simp [signs, hc], .refl e2, r_str⟩
end
end Dv
namespace Dv
open PySem PySem.Spec PyProof.Rows L2
open Evl (Ex ex_l ex_t)
/-- a def whose defaults are kept in a tuple -/
structure FunT (K : PySem.W.Frag) (x qual : Str) (st : Stmt) (T : Addr) (its : List Value) (f : Addr) (fd : FuncData) : Prop where
  ex : ∃ (oc : Value) (od : Option Addr) (kV doc pm : Value) (an : Option Addr) (cdv ct : Value) (osl : Array (Option Value)),
    fd = PySem.W.fnOf x qual (defArgs st) (defBody st) (defScope st) (.ref T) kV doc pm an cdv ct ∧ K.lookup f = some ⟨oc, od, .func fd, osl⟩ ∧ PySem.W.codeIn K cdv qual = true
  kp : PySem.W.keepIn K (.ref f) = true
  tup : ∃ (o : Obj) (n : Nat), K.lookup T = some o ∧ o.data = .seq its.toArray n
section
variable {P : Program} {w : World} {K : PySem.W.Frag} {mg : Str → Option Value} {base : Heap} {G : Gc} {x qual : Str} {st : Stmt} {T : Addr} {its : List Value} {f : Addr} {fd : FuncData} {N ps : List Str} {k : Nat}
theorem FunT.ok {sp : Sp} (F : FunT K x qual st T its f fd) (S : FnScope N ps (defScope st)) (len : ∀ vs H Q E, sp vs H Q E → vs.length = ps.length)
    (hbody : ∀ (cdv : Value) (A : Around) (outer : List Env) (s : Shared) (H : Hp) (vs : List V) (Q : VK) (E : XK), Room k (A.deeper (envOfC qual (defScope st) s.heap.objs.size f cdv)) → sp vs H Q E →
      ∃ t, PSs (cxOf CX0 P w K mg base N qual (defScope st) f cdv A outer s H E).nox (defBody st) t ∧ t { nx := fun _ H' => Q .non H', rt := Q } (start N vs) H) : FnOk P w K mg base CX0 (k + 1) f fd ps sp := by
  obtain ⟨oc, od, kV, doc, pm, an, cdv, ct, osl, rfl, lk, hcd⟩ := F.ex
  refine fn_of lk hcd S len fun A outer s H vs Q E hr hsp => ?_
  obtain ⟨t, h, q⟩ := hbody cdv A outer s H vs Q E hr hsp
  exact ⟨t, h.nox, q⟩
/-- how its arguments bind: n of them are written -/
theorem FunT.binds (F : FunT K x qual st T its f fd) (n j : Nat) (hn : n + (its.length - j) = ps.length)
    (h : ∀ (kV doc pm : Value) (an : Option Addr) (cdv ct : Value) (us : List Value), us.length = n →
      ∃ k, bindArgs (PySem.W.fnOf x qual (defArgs st) (defBody st) (defScope st) (.ref T) kV doc pm an cdv ct) ⟨us, []⟩ = seqItems? (.ref T) >>= k ∧ k (some its.toArray) = pure (ps.zip (us ++ its.drop j))) : Binds K fd ps (its.drop j) := by
  obtain ⟨oc, od, kV, doc, pm, an, cdv, ct, osl, rfl, lk, hcd⟩ := F.ex
  obtain ⟨o, m, lT, oT⟩ := F.tup
  refine fun s us X hlen => ?_
  have l2 : us.length = n := by
    rw [List.length_append, List.length_drop] at hlen
    omega
  obtain ⟨k, e1, e2⟩ := h kV doc pm an cdv ct us l2
  refine BindsTo.of_looks fun M => ?_
  rw [e1]
  exact looks_items X lT oT (.of_pure e2)
theorem FunT.kbinds (F : FunT K x qual st T its f fd) (n : Nat) (ks : List Str) (g : {α : Type} → List α → List α → List α)
    (hrel : ∀ {vs zs : List V} {us ws : List Value}, Vals vs us → Vals zs ws → Vals (g vs zs) (g us ws))
    (h : ∀ (kV doc pm : Value) (an : Option Addr) (cdv ct : Value) (us ws : List Value), us.length = n → ws.length = ks.length →
      ∃ k, bindArgs (PySem.W.fnOf x qual (defArgs st) (defBody st) (defScope st) (.ref T) kV doc pm an cdv ct) ⟨us, ks.zip ws⟩ = seqItems? (.ref T) >>= k ∧ k (some its.toArray) = pure (ps.zip (g us ws))) : KBn K fd ps n ks (fun us ws => g us ws) (fun vs zs => g vs zs) := by
  obtain ⟨oc, od, kV, doc, pm, an, cdv, ct, osl, rfl, lk, hcd⟩ := F.ex
  obtain ⟨o, m, lT, oT⟩ := F.tup
  refine ⟨fun s us ws X l1 l2 => ?_, fun r1 r2 => hrel r1 r2⟩
  obtain ⟨k, e1, e2⟩ := h kV doc pm an cdv ct us ws l1 l2
  refine BindsTo.of_looks fun M => ?_
  rw [e1]
  exact looks_items X lT oT (.of_pure e2)
theorem vals_swp : ∀ {vs : List V} {us : List Value}, Vals vs us → Vals (swp vs) (swp us)
  | _, _, .nil => .nil
  | _, _, .cons a .nil => .cons a .nil
  | _, _, .cons a (.cons b .nil) => .cons b (.cons a .nil)
  | _, _, .cons a (.cons b (.cons c r)) => .cons a (.cons b (.cons c r))
end
end Dv

set_option Elab.async false
set_option maxRecDepth 100000
set_option maxHeartbeats 4000000
/-! try: .. except (A, B) as n: .. n is kept behind it. -/
namespace Dx
open PySem PySem.Spec PyProof.Rows L2
open Dv (ExK)
theorem stays_keep {B h h' : Heap} (k : ∀ b o, h.get? b = some o → h'.get? b = some o) (x : B.StaysIn h) : B.StaysIn h' := fun b o e => k b o (x b o e)
theorem fly_keep {B h h' : Heap} {l : List Env} {e : Addr} {Z : Obj → Prop} (k : ∀ b o, h.get? b = some o → h'.get? b = some o) (x : HandSPX.FlyingZ B l e Z h) : HandSPX.FlyingZ B l e Z h' := by
  obtain ⟨f1, f2, f3, oe, vs, T, oT, ts, he, hz, hd, h1, hnT, hTe, hT, hdT, h3⟩ := x
  exact ⟨stays_keep k f1, f2, f3.of_keeps fun b o hb _ => ⟨o, k b o hb, rfl⟩, oe, vs, T, oT, ts, k _ _ he, hz, hd, h1, hnT, hTe, k _ _ hT, hdT, h3⟩
section
variable {X : Cx} {pins : List (Addr × Obj)} {σ : L2.St} {H : Hp} {s : Shared}
/-- a thing that is there, of which nothing is told yet, is told of from now on -/
theorem Inv.track {a : Addr} {φ : Heap → Prop} (I : Inv X pins σ H s) (hn : H a = none) (hnew : X.s_0.heap.get? a = none) (ok : ObjOk X.prog X.w (upd H a (.ext φ)) s.heap a (.ext φ)) (nL : a ≠ X.env.locals) (nC : ∀ x c, X.env.cells.lookup x = some c → c ≠ a) (np : ∀ p ∈ X.pn ++ pins, p.1 ≠ a) : Inv X pins σ (upd H a (.ext φ)) s where
  ok := I.ok
  os := I.os
  bare := I.bare
  base := by
    refine ⟨I.base.keep, I.base.slot, fun b o e n hx => ?_, I.base.there, fun b xs q => ?_, fun b o xs q => ?_, fun b ps q => ?_⟩
    · have hb : b ≠ a := fun z => by rw [z, hnew] at e; cases e
      rw [upd_ne hb]
      exact I.base.free b o e n hx
    · have z := I.base.tups b xs q
      rw [upd_ne (ne_of_none z hn)]
      exact z
    · have z := I.base.frzs b o xs q
      rw [upd_ne (ne_of_none z hn)]
      exact z
    · obtain ⟨qs, z⟩ := I.base.tbls b ps q
      exact ⟨qs, by rw [upd_ne (ne_of_none z hn)]; exact z⟩
  loc := I.loc
  cell := I.cell
  free := by rw [upd_ne (Ne.symm nL)]; exact I.free
  freeC := fun x c e => by rw [upd_ne (nC x c e)]; exact I.freeC x c e
  pin := fun p hp => by
    obtain ⟨h1, h2, h3⟩ := I.pin p hp
    exact ⟨h1, by rw [upd_ne (np p hp)]; exact h2, h3⟩
  hok := I.hok.laidN (fun _ _ z => z) hn ok
  len := I.len
end
theorem lands_same {M : Model} {A : Around} {E : Value → Shared → Prop} {s : Shared} {B : Heap} {l : List Env} {e : Addr} {Z : Obj → Prop} {Q : Unit → Shared → Prop} (fl : HandSPX.FlyingZ B l e Z s.heap) (hQ : ∀ h', (∀ b, h'.get? b = s.heap.get? b) → Q () { s with heap := h' }) : wpAny M A (setFlight (.ref e) none) Q E s := by
  obtain ⟨f1, f2, f3, oe, vs, T, oT, ts, he, hz, hd, h1, hnT, hTe, hT, hdT, h3⟩ := fl
  have hsz3 : 3 < ts.size := (Array.getElem?_eq_some_iff.mp h3).1
  unfold setFlight
  refine wpAny_bind (wpAny_field he hd h1 ?_)
  rw [if_pos (show (Value.ref T != Value.none) = true from by simp)]
  refine wpAny_setField hT hdT hsz3 (hQ _ fun b => ?_)
  by_cases hb : b = T
  · subst hb
    rw [Heap.get?_update_self _ hT (Obj.isFreed_of_fields (Obj.data_mapFields hdT _)), hT]
    congr 1
    obtain ⟨c, d, dt, sl⟩ := oT
    dsimp only at hdT
    subst hdT
    show ({ cls := c, dict := d, data := .fields (ts.setIfInBounds 3 Value.none), slots := sl } : Obj) = _
    have e3 : ts.setIfInBounds 3 Value.none = ts := by
      refine Array.ext_getElem? fun j => ?_
      rw [Array.getElem?_setIfInBounds]
      by_cases hj : 3 = j
      · subst hj
        rw [if_pos rfl, if_pos hsz3, h3]
      · rw [if_neg hj]
    rw [e3]
  · exact Heap.get?_update_other _ _ (Ne.symm hb)
/-- what the clause 'except (A, B) as n' makes of an exception, which is kept -/
def wHeld (K : PySem.W.Frag) (C1 C2 : Addr) (i : Nat) (ts : Addr → Value → Option Addr → TS) (D : Ends) : WX := fun cls d σ H => ∃ C0, cls = .ref C0 ∧ d = none ∧ PySem.W.exmAny K (.ref C0) [.ref C1, .ref C2] = some true ∧
  ∀ a T, H a = none → H T = none → T ≠ a → ts a (.ref C0) none { nx := fun σ' H' => D.nx (σ'.set i none) (upd H' a (ExK C0 a)), rt := fun _ _ => False, bk := fun _ _ => False, ct := fun _ _ => False } (σ.set i (some (.ref a))) (upd H T (.tup [.ref C1, .ref C2]))
section
variable {X : Cx} {x1 x2 n : Str} {C1 C2 : Addr} {i kk : Nat} {body suite : List Stmt} {b₀ : Stmt} {p1 p2 tp pos pos' : Pos} {tb : WX → TS} {ts : Addr → Value → Option Addr → TS}
theorem ps_try_held (hs : X.stack = X.env :: X.outer) (hf : X.env.frame = some X.env.locals) (hx : X.ex = []) (hN : X.N.Nodup) (hi : X.N[i]? = some n) (hln : X.env.kindOf n = some .local) (g1 : Gl X x1) (m1 : X.mg x1 = some (.ref C1)) (g2 : Gl X x2) (m2 : X.mg x2 = some (.ref C2))
    (hb : ∀ (W : WX) (pn : List (Addr × Obj)) (xe : Value → Shared → Prop), Takes (X.tr pn xe) W → PassesOwn (model X.prog X.w) X.A X.env xe → PSs (X.tr pn xe) body (tb W))
    (hsu : ∀ (a : Addr) (oe : Obj) (cls : Value) (d : Option Addr) (pn : List (Addr × Obj)), Zc cls d oe → (∃ vs, oe.data = .fields vs) → PSs (X.suite a ((a, oe) :: pn)) (b₀ :: suite) (ts a cls d))
    (d1 : (x1 == ("__debug__" : Str)) = false := by decide) (d2 : (x2 == ("__debug__" : Str)) = false := by decide)
    (hst : ∀ env : Env, starEach [.Name x1 p1, .Name x2 p2] env = (false, eval (.Name x1 p1) env) :: (false, eval (.Name x2 p2) env) :: starEach [] env := by intro _; rfl) :
    PS X (.Try body [.ExceptHandler (some (.Tuple [.Name x1 p1, .Name x2 p2] kk tp)) (some n) (b₀ :: suite) pos'] [] [] pos) (fun D σ H => tb (wHeld X.K C1 C2 i ts D) D σ H) := by
  refine ⟨fun pins s σ H D I h => ?_⟩
  have ok := I.ok
  have hfr : X.A.frames = some (X.env :: X.outer) := by rw [ok.frames, hs]
  have hloc : Loc X.env.scope n := .inl hln
  refine wpAny_Try_except ?_
  refine wpAny_mono ((hb (wHeld X.K C1 C2 i ts D) (X.pn ++ pins) (fun e s₁ => wpAny (model X.prog X.w) X.A (noteFrame e X.env) (fun _ s₂ => wpAny (model X.prog X.w) X.A (setFlight e none) (fun _ s₃ =>
    wpAny (model X.prog X.w) X.A (handleBy e X.env [.ExceptHandler (some (.Tuple [.Name x1 p1, .Name x2 p2] kk tp)) (some n) (b₀ :: suite) pos']) (SP X pins D) X.xe s₃) X.xe s₂) X.xe s₁) (fun u s' xx => ?_) PassesOwn.looking).run [] s σ H D (I.toTry _) h) (fun f s1 hsp => ?_) (fun e s1 he => he)
  · -- the catch
    obtain ⟨a, B, sI, pins', σ', H', cls, d, rfl, J', nb, up, sky, na, os, ag, C0, rfl, rfl, hm, hyes⟩ := xx
    have J : Inv X pins σ' H' sI := J'.ofTry ok
    have sky' : Sky B (X.env :: X.outer) a (Zc (.ref C0) none) X.env.locals s'.heap := by rw [← hs]; exact sky
    show wpAny (model X.prog X.w) X.A (noteFrame (.ref a) X.env) _ _ _
    refine Sky.land Zc.steady hfr hf sky' fun h3 fl3 up3 => ?_
    have J3 : Inv X pins σ' H' { s' with heap := h3 } := J.landed nb fl3.1 (up.trans up3) os ag
    obtain ⟨oe3, vs3, he3, hz3, hd3⟩ := fl3.there
    have nfr : a ∉ frs (X.env :: X.outer) := fun hm => by
      obtain ⟨_, o', e', hnf⟩ := fl3.2.2.1.mem hm
      rw [he3] at e'
      cases e'
      exact hnf _ hd3
    have nL : a ≠ X.env.locals := fun z => nfr (List.mem_filterMap.mpr ⟨X.env, List.mem_cons_self, by rw [hf, z]⟩)
    have nF : a ∉ X.fs := fun hm => by
      obtain ⟨e, he, q⟩ := List.mem_filterMap.mp hm
      exact nfr (List.mem_filterMap.mpr ⟨e, List.mem_cons_of_mem _ he, q⟩)
    have nI : sI.heap.get? a = none := by
      cases e : sI.heap.get? a with
      | none => rfl
      | some o =>
        have z := nb a o e (by rw [hs]; exact nfr)
        rw [fl3.2.1] at z
        cases z
    have n0 : X.s_0.heap.get? a = none := by
      cases e : X.s_0.heap.get? a with
      | none => rfl
      | some o =>
        obtain ⟨o', z⟩ := J.base.there a o e (by rw [hx]; exact fun z => nomatch z)
        rw [nI] at z
        cases z
    have np : ∀ p ∈ X.pn ++ pins, p.1 ≠ a := fun p hp z => by
      have q := (J.pin p hp).1
      rw [z, nI] at q
      cases q
    have S3 := J3.suite he3 hd3 na nL nF
    refine wpAny_handleBy_cons (codeAny_handlers_test ?_) (by intro q; cases q)
    -- the tuple of classes
    have hT : a ≠ h3.objs.size := Nat.ne_of_lt (Heap.lt_size he3)
    have nT : H' h3.objs.size = none := J3.hok.fresh (Nat.le_refl _)
    have J5 : Inv X pins σ' (upd H' h3.objs.size (.tup [.ref C1, .ref C2])) { s' with heap := h3.push { cls := .type "tuple", data := .seq [Value.ref C1, Value.ref C2].toArray } } :=
      J3.laid (t' := s'.toks) (fun b o q => Heap.get?_push_of_some _ q) (Nat.le_refl _) ⟨by show 2 ≤ sizeLine; decide, [.ref C1, .ref C2], .cons rfl (.cons rfl .nil), _, Heap.get?_push_size _ rfl, rfl, _, rfl⟩
    have fl5 : HandSPX.FlyingZ B (X.env :: X.outer) a (Zc (.ref C0) none) (h3.push { cls := .type "tuple", data := .seq [Value.ref C1, Value.ref C2].toArray }) := fly_keep (fun b o q => Heap.get?_push_of_some _ q) fl3
    have he5 := Heap.get?_push_of_some (h := h3) { cls := .type "tuple", data := .seq [Value.ref C1, Value.ref C2].toArray } he3
    have LT : PySem.W.Looks (model X.prog X.w) (h3.push { cls := .type "tuple", data := .seq [Value.ref C1, Value.ref C2].toArray }) (typeOf (.ref a)) (.ref C0) := fun A Q E s k q => wpAny_typeOf_ref (k _ _ he5) (by rw [hz3.1]; exact q)
    have LM := PySem.W.exm_tup2 (M := model X.prog X.w) (tp := h3.objs.size) J5.kIn LT (Heap.get?_push_size _ rfl) hm
    refine wpAny_Tuple_spliced ?_
    have args : ∀ {Q : List Value → Shared → Prop} {E : Value → Shared → Prop}, Q [.ref C1, .ref C2] { s' with heap := h3 } → wpAny (model X.prog X.w) (X.A.mark (some (.ref a))) (spliced (backTo tp (starEach [.Name x1 p1, .Name x2 p2] X.env))) Q E { s' with heap := h3 } := fun {Q E} q => by
      rw [hst X.env]
      show wpAny _ _ (spliced ((false, eval (.Name x1 p1) X.env) :: backTo tp ((false, eval (.Name x2 p2) X.env) :: starEach [] X.env))) _ _ _
      refine Calls.spliced_cons (ld_glob (X := X.suite a ((a, oe3) :: (X.pn ++ pins))) S3 g1 m1 ?_ d1)
      show wpAny _ _ (spliced ((false, eval (.Name x2 p2) X.env) :: backTo tp (starEach [] X.env))) _ _ _
      refine Calls.spliced_cons (ld_glob (X := X.suite a ((a, oe3) :: (X.pn ++ pins))) S3 g2 m2 ?_ d2)
      exact Calls.spliced_nil q
    refine args ⟨by show 2 ≤ sizeLine; decide, LM.here ?_⟩
    refine codeAny_handlers_suite_as ?_
    refine lands_same fl5 fun h6 hk => ?_
    have J6 : Inv X pins σ' (upd H' h3.objs.size (.tup [.ref C1, .ref C2])) { s' with heap := h6 } := J5.kept (t' := s'.toks) fun b ob q => (hk b).trans q
    have S6 := J6.suite ((hk a).trans he5) hd3 (by rw [upd_ne hT]; exact na) nL nF
    refine store_ok (X := X.suite a ((a, oe3) :: (X.pn ++ pins))) (v := .ref a) S6 hN hi hloc rfl (fun s5 S5 => ?_) (.inr hln)
    refine wpAny_mono ((hsu a oe3 (.ref C0) none (X.pn ++ pins) hz3 ⟨_, hd3⟩).run [] s5 _ _ _ S5 (hyes a h3.objs.size na nT hT.symm)) (fun f s6 hsp => ?_) (fun _ _ z => False.elim z)
    cases f with
    | next =>
      obtain ⟨σ6, H6, S7, q6⟩ := hsp
      have Jp : Inv X ((a, oe3) :: pins) σ6 H6 s6 := ⟨ok, S7.os, S7.bare, S7.base, S7.loc, S7.cell, S7.free, S7.freeC, fun p hp => S7.pin p (by
        rcases List.mem_append.mp hp with q | q
        · exact List.mem_append_left _ (List.mem_cons_of_mem _ (List.mem_append_left _ q))
        · rcases List.mem_cons.mp q with e | q
          · rw [e]; exact List.mem_append_left _ List.mem_cons_self
          · exact List.mem_append_left _ (List.mem_cons_of_mem _ (List.mem_append_right _ q))), S7.hok, S7.len⟩
      refine gone_ok Jp hN hi hln fun s7 J7 => ⟨_, _, ?_, q6⟩
      obtain ⟨ga, na7, nL7, nF7, nc7⟩ := J7.pin (a, oe3) (List.mem_append_right _ List.mem_cons_self)
      have J8 : Inv X pins (σ6.set i none) H6 s7 := ⟨J7.ok, J7.os, J7.bare, J7.base, J7.loc, J7.cell, J7.free, J7.freeC, fun p hp => J7.pin p (by
        rcases List.mem_append.mp hp with q | q
        · exact List.mem_append_left _ q
        · exact List.mem_append_right _ (List.mem_cons_of_mem _ q)), J7.hok, J7.len⟩
      refine Inv.track J8 na7 n0 ⟨⟨oe3, vs3, ga, hz3, hd3⟩, ⟨_, ga⟩, fun h1 h2 ⟨oe, vs, e, z, d⟩ k => ⟨oe, vs, k _ e, z, d⟩⟩ nL (fun x c e z => ?_) np
      obtain ⟨v, o, ho, hdat⟩ := J7.cell x c e
      rw [z, ga] at ho
      cases ho
      exact nc7 v hdat
    | brk =>
      obtain ⟨_, _, _, q6⟩ := hsp
      exact q6.elim
    | cont =>
      obtain ⟨_, _, _, q6⟩ := hsp
      exact q6.elim
    | ret u =>
      obtain ⟨_, _, _, _, _, q6⟩ := hsp
      exact q6.elim
  · cases f with
    | next =>
      obtain ⟨σ', H', J', q⟩ := hsp
      exact wpAny_execs_nil ⟨σ', H', J'.ofTry ok, q⟩
    | brk =>
      obtain ⟨σ', H', J', q⟩ := hsp
      exact ⟨σ', H', J'.ofTry ok, q⟩
    | cont =>
      obtain ⟨σ', H', J', q⟩ := hsp
      exact ⟨σ', H', J'.ofTry ok, q⟩
    | ret u =>
      obtain ⟨v, σ', H', J', r, q⟩ := hsp
      exact ⟨v, σ', H', J'.ofTry ok, r, q⟩
end
end Dx

set_option Elab.async false
set_option maxRecDepth 100000
set_option maxHeartbeats 4000000
namespace Dv
open PySem PySem.Spec PyProof.Rows L2 Dx
open Evl (Ex ex_l ex_t)
/-! ### exceptions over data -/
/-- of values alone; it may raise an exception of the class c, without fields -/
def spX (G : Gc) (con : List D → (D → Prop) → (Nat → Prop) → Prop) : Sp := fun vs H Q E => ∃ F ds Kd Ke, Ex F H ∧ reps G F ds vs ∧ con ds Kd Ke ∧ (∀ d v F' H', Kd d → Step No F H F' H' → rep G F' d v → Q v H') ∧ ∀ c F' H', Ke c → Step No F H F' H' → E (.ref (G.cl c)) none H'
/-- rows of statements that may end by an exception: W is the wish -/
structure WBX (X : Cx) (G : Gc) (Γ : En) (sts : List Stmt) (K : Ot → Prop) (Ke : Nat → Prop) (W : WX) : Prop where
  of ::
  run : ∀ (σ : L2.St) (F H : Hp) (N : Ends), Envs G X.N F H σ Γ → Ends' G X.N Γ σ F H K N → (∀ c σ' F' H', Step (Ow σ Γ) F H F' H' → Ke c → W (.ref (G.cl c)) none σ' H') → SSs X sts N σ H
instance (X : Cx) (G : Gc) (Γ : En) (sts : List Stmt) (K : Ot → Prop) (Ke : Nat → Prop) (W : WX) : CoeFun (WBX X G Γ sts K Ke W) (fun _ => ∀ (σ : L2.St) (F H : Hp) (N : Ends), Envs G X.N F H σ Γ → Ends' G X.N Γ σ F H K N → (∀ c σ' F' H', Step (Ow σ Γ) F H F' H' → Ke c → W (.ref (G.cl c)) none σ' H') → SSs X sts N σ H) := ⟨fun h => h.run⟩
def ThenX (X : Cx) (G : Gc) (sts : List Stmt) (K : Ot → Prop) (Ke : Nat → Prop) (W : WX) : Ot → Prop
  | .nx Γ => WBX X G Γ sts K Ke W
  | o => K o
section
variable {X : Cx} {G : Gc} {Γ : En} {e c : Expr} {pos p : Pos} {K : Ot → Prop} {Ke : Nat → Prop} {W : WX} {stm : Stmt} {sts xs ys : List Stmt} {x : Str}
theorem wbx_of (h : WB X G Γ sts K) : WBX X G Γ sts K Ke W := .of fun σ F H N E q _ => h σ F H N E q
theorem wbx_cons (h : WS X G Γ stm (ThenX X G sts K Ke W)) : WBX X G Γ (stm :: sts) K Ke W := .of fun σ F H N E q w => by
  refine PSs.ss (pss_cons ps_S pss_S) ?_
  refine h σ F H _ E ⟨fun Γ' σ' F' H' wt k => ?_, q.rt, q.bk, q.ct⟩
  exact WBX.run k σ' F' H' N wt.en (q.go wt) fun c σ2 F2 H2 s ke => w c σ2 F2 H2 (wt.st.trans s wt.ow) ke
/-- if c: xs (else: ys), then the rest: what raises stands in xs or ys -/
theorem wbx_if (h : WT X G Γ c fun d Γ1 => (d = true → WBX X G Γ1 xs (ThenX X G sts K Ke W) Ke W) ∧ (d = false → WBX X G Γ1 ys (ThenX X G sts K Ke W) Ke W)) : WBX X G Γ (.If c xs ys pos :: sts) K Ke W := .of fun σ F H N E q w => by
  refine PSs.ss (pss_cons (ps_if pt_S pss_S pss_S) pss_S) ?_
  refine h σ F H _ E fun d Γ1 F1 H1 s1 E1 o1 k1 => ?_
  have w1 : Went G X.N Γ σ F H Γ1 σ F1 H1 := .of s1 E1 o1
  have fin : ∀ {zs : List Stmt}, WBX X G Γ1 zs (ThenX X G sts K Ke W) Ke W → SSs X zs { N with nx := fun σ' H' => SSs X sts N σ' H' } σ H1 := fun {zs} hz => by
    refine hz σ F1 H1 _ E1 ⟨fun Γ' σ' F' H' wt k => ?_, fun d v Γ' σ' F' H' wt r k => q.rt d v Γ' σ' F' H' (w1.trans wt) r k, fun Γ' σ' F' H' wt k => q.bk Γ' σ' F' H' (w1.trans wt) k, fun Γ' σ' F' H' wt k => q.ct Γ' σ' F' H' (w1.trans wt) k⟩ fun c σ2 F2 H2 s ke => w c σ2 F2 H2 (stp s1 o1 s) ke
    have w2 := w1.trans wt
    exact WBX.run k σ' F' H' N wt.en (q.go w2) fun c σ2 F2 H2 s ke => w c σ2 F2 H2 (w2.st.trans s w2.ow) ke
  cases d with
  | true => exact iteT (fin (k1.1 rfl))
  | false => exact iteF (fin (k1.2 rfl))
theorem wbx_nil (k : K (.nx Γ)) : WBX X G Γ [] K Ke W := wbx_of (wb_nil k)
/-- C() of an own exception class without __init__ -/
theorem pmk_own0 {C : Addr} {bmB : List Value} {B newId initId : String} (F : ExcBaseFacts B newId initId bmB) (q : PySem.W.excIn X.K C bmB newId = true) (gC : X.mg x = some (.ref C)) (kC : PySem.W.keepIn X.K (.ref C) = true) (r : Raises X (.ref C)) (hg : Gl X x)
    (hdb : (x == ("__debug__" : Str)) = false := by decide) : PMk X (.Call (.Name x p) [] [] pos) (fun _ H Q => Q (.ref C) none H) := by
  intro pins s σ H Q I h
  refine wpAny_Call_Name_kw (ld_glob I hg gC ?_ hdb)
  refine PySem.W.callWith_K0 I.kIn kC ?_
  show wpAny _ _ (call (.ref C) []) _ _ _
  obtain ⟨bm, N, nm, qn, bs, hdct, sn, sub, ab, col, dd, k0, k1, k2, k3, k5, mN, hC, hN, hni, T⟩ := exc_obj I.kIn q
  refine wpAny_call_exc_subT F T hC hN hni (fun h' e hm => ?_) (by show 0 ≤ sizeLine; omega)
  exact mk_of I hm r h (I.hok.gone hm.new)
/-- raise C() -/
theorem wbx_raise {n : Nat} {bmB : List Value} {B newId initId : String} {pos2 : Pos} (hc : X.calm = true) (tk : Takes X W) (F : ExcBaseFacts B newId initId bmB) (q : PySem.W.excIn X.K (G.cl n) bmB newId = true) (gC : X.mg x = some (.ref (G.cl n))) (kC : PySem.W.keepIn X.K (.ref (G.cl n)) = true) (r : Raises X (.ref (G.cl n)))
    (k : Ke n) (hg : Gl X x := by rfl) (hdb : (x == ("__debug__" : Str)) = false := by decide) : WBX X G Γ [.Raise (some (.Call (.Name x p) [] [] pos)) none pos2] K Ke W := .of fun σ F0 H N E q0 w => by
  refine PSs.ss (pss_one (ps_raise hc tk (pmk_own0 F q gC kC r hg hdb))) ?_
  exact w n σ F0 H (.refl E.ex) k
end
section
variable {P : Program} {w : World} {K : PySem.W.Frag} {mg : Str → Option Value} {base : Heap} {G : Gc} {x qual : Str} {st : Stmt} {f : Addr} {fd : FuncData} {N ps : List Str} {k : Nat}
/-- a def of values that may raise -/
theorem def_x {con : List D → (D → Prop) → (Nat → Prop) → Prop} (F : Fun K x qual st f fd) (S : FnScope N ps (defScope st)) (len : ∀ ds Kd Ke, con ds Kd Ke → ds.length = ps.length)
    (body : ∀ (cdv : Value) (A : Around) (outer : List Env) (s : Shared) (H : Hp) (E : XK) (ds : List D) (Kd : D → Prop) (Ke : Nat → Prop) (W : WX), Room k (A.deeper (envOfC qual (defScope st) s.heap.objs.size f cdv)) → con ds Kd Ke →
      Takes (cxOf (L2.CX P w) P w K mg base N qual (defScope st) f cdv A outer s H E) W →
      WBX (cxOf (L2.CX P w) P w K mg base N qual (defScope st) f cdv A outer s H E) G (En0 N (ds.map .val)) (defBody st) (Ret Kd) Ke W) : FnOk P w K mg base (L2.CX P w) (k + 1) f fd ps (spX G con) := by
  refine F.okX S (fun vs H Q E h => ?_) (fun cdv A outer s H vs Q E hr h => ?_)
  · obtain ⟨F0, ds, Kd, Ke, _, r, h, _⟩ := h
    rw [reps_len r]
    exact len _ _ _ h
  · obtain ⟨F0, ds, Kd, Ke, e, r, h, hq, he⟩ := h
    have hl : vs.length ≤ N.length := by
      have q := congrArg List.length S.pre
      rw [List.length_take] at q
      rw [reps_len r, len _ _ _ h]
      omega
    have ee := envs_p (N := N) e r hl
    refine ⟨_, pss_S, ?_⟩
    refine body cdv A outer s H E ds Kd Ke (fun cls d _ H' => E cls d H') hr h ?tk (L2.start N vs) F0 H _ ee ⟨fun Γ' σ' F' H' w k => ?_, fun d v Γ' σ' F' H' w r k => ?_, fun _ _ _ _ _ k => k.elim, fun _ _ _ _ _ k => k.elim⟩ fun c σ' F' H' s ke => ?_
    case tk => exact takes_of rfl rfl rfl rfl
    · exact hq .non .non F' H' k (w.st.mono fun a o => no_own o) r_non
    · exact hq d v F' H' k (w.st.mono fun a o => no_own o) r
    · exact he c F' H' ke (s.mono fun a o => no_own o)
end
end Dv

set_option Elab.async false
set_option maxRecDepth 100000
set_option maxHeartbeats 4000000
namespace Dv
open PySem PySem.Spec PyProof.Rows L2 Dx
open Evl (Ex ex_l ex_t)
/-- a static method of a class -/
structure Stat (K : PySem.W.Frag) (C : Addr) (m : Str) (f : Addr) : Prop where
  ga : PySem.W.specialIn K (.ref C) "__getattribute__" = some (some (.builtin "type.__getattribute__"))
  ty : PySem.W.typeIn K (.ref C) = some (.type "type")
  rd : PySem.W.readsIn K C (.type "type") = true
  at_ : ∃ (p : Addr) (rest : List Value), PySem.W.findCls K (.ref C) (.type "type") m = some (.get (.builtin "staticmethod.__get__") (.ref p) .none (.ref C)) ∧ PySem.W.recIn K p "staticmethod" = some (.ref f :: rest)
  kp : PySem.W.keepIn K (.ref f) = true
section
variable {X : Cx} {G : Gc} {Γ : En} {k : Nat} {f C : Addr} {fd : FuncData} {W : WX} {a x m t : Str} {p1 pa ap kp cp : Pos} {sp : Sp} {g : List Value → List Value → List Value}
/-- C.m(t = a), a a name: it may raise -/
theorem pe_stat {i : Nat} {pl : Sem Bool} (hg : Gl X x) (hm : X.mg x = some (.ref C)) (S : Stat X.K C m f) (F : FnOk X.prog X.w X.K X.mg X.base (L2.CX X.prog X.w) k f fd [t] sp) (hr : Room k X.A) (hb : KBn X.K fd [t] 0 [t] g (fun vs zs => vs ++ zs)) (tk : Takes X W)
    (hi : X.N[i]? = some a) (hv : Vis X.env.scope a) (hdu : (a == ("__debug__" : Str)) = false := by decide) (hcu : (a == ("__classdict__" : Str)) = false := by decide) (hdx : (x == ("__debug__" : Str)) = false := by decide)
    (hall : (backToKw cp (keywordEach [⟨some t, .Name a pa, kp⟩] X.env)).all (·.1.isSome) = true := by rfl) (hks : (backToKw cp (keywordEach [⟨some t, .Name a pa, kp⟩] X.env)).filterMap (·.1) = [t] := by rfl)
    (hpl : ((backTo cp (starEach [] X.env)).any (·.1) || (backToKw cp (keywordEach [⟨some t, .Name a pa, kp⟩] X.env)).any (·.1.isNone)) = false := by rfl)
    (ht : eval (.Call (.Attribute (.Name x p1) m ap) [] [⟨some t, .Name a pa, kp⟩] cp) X.env = (do
      let ov ← eval (.Name x p1) X.env
      standAt ap.atName
      let (f, first) ← holding [ov] (getMethod ov m pl)
      callWith cp f first (backTo cp (starEach [] X.env)) (backToKw cp (keywordEach [⟨some t, .Name a pa, kp⟩] X.env))) := by rfl) :
    PE X (.Call (.Attribute (.Name x p1) m ap) [] [⟨some t, .Name a pa, kp⟩] cp) (fun σ H Q => ∃ v, σ[i]? = some (some v) ∧ sp [v] H Q (fun cls d H' => W cls d σ H')) := by
  refine ⟨fun pins s σ H Q I h => ?_⟩
  obtain ⟨v, hσ, q⟩ := h
  obtain ⟨p, rest, e1, e2⟩ := S.at_
  refine PySem.W.methodCall_KW (pl := pl) ?_ ht
  refine ld_glob I hg hm ?_ hdx
  obtain ⟨mm, hF⟩ := I.fr
  refine PySem.W.method_of_cls hF I.ok.mod.kin S.ga ?_
  refine PySem.W.cls_sm hF I.ok.mod.kin S.ty S.rd e1 e2 rfl ?_
  have I1 : Inv X pins σ H { s with toks := s.toks + 1 } := I.tok _
  refine PySem.W.callWith_KW0 (first := []) (h₀ := X.base) I.ok.mod.kin S.kp hall ?_ hpl
  have pk : PK X [⟨some t, .Name a pa, kp⟩] _ := pk_cons (pe_var hi hv hdu hcu) pk_nil
  refine thn (pk.run cp pins _ σ H (fun vs H' => vs = [v] ∧ H' = H) I1 ⟨v, hσ, rfl, rfl⟩) fun ws s2 ⟨zs, H2, I2, rz, ez, eH⟩ => ⟨I2.kIn, ?_⟩
  subst ez eH
  rw [hks]
  obtain ⟨u, rfl, ru⟩ := vals1 rz
  have r2 := hb.rel (vs := []) (us := []) .nil rz
  have l2 : ([u] : List Value).length = ([t] : List Str).length := rfl
  refine wpAny_call (codeAny_mono (F.run X.A X.stack s2 H2 ⟨[], [t].zip [u]⟩ (g [] [u]) [v] Q _ hr I2.env0 (hb.to s2 [] [u] I2.kIn rfl l2) r2 q) fun r s' hq => ?_)
  cases r with
  | error e => exact passAt tk σ pins H2 s2 e s' I2 hq
  | ok fl =>
    cases fl with
    | ret u => exact I2.after hq
    | next => exact False.elim hq
    | brk => exact False.elim hq
    | cont => exact False.elim hq
theorem env_un {N : List Str} {F H : Hp} {σ : L2.St} {i : Nat} {n : Str} {v : Option V} (E : Envs G N F H σ Γ) (h : Γ[i]? = some (n, .un)) : Envs G N F H (σ.set i v) Γ ∧ ∀ b, Ow (σ.set i v) Γ b → Ow σ Γ b := by
  have ne : ∀ {j : Nat} {x : Str} {s : Sl}, Γ[j]? = some (x, s) → s ≠ .un → (σ.set i v)[j]? = σ[j]? := fun {j x s} e hs => by
    rw [List.getElem?_set_ne]
    intro z
    subst z
    rw [h] at e
    cases e
    exact hs rfl
  have nun : ∀ {s : Sl} {b : Addr}, s.at b → s ≠ .un := fun {s b} z => nun_of z
  refine ⟨⟨E.al, by rw [List.length_set]; exact E.len, E.ex, fun j x d e => ?_, fun j x c e => ?_, fun j x b c e => ?_, fun j k x y s t b e1 e2 e3 e4 h1 h2 => ?_⟩, fun b o => ?_⟩
  · rw [ne e (fun z => nomatch z)]; exact E.val j x d e
  · rw [ne e (fun z => nomatch z)]; exact E.own j x c e
  · rw [ne e (fun z => nomatch z)]; exact E.bor j x b c e
  · rw [ne e1 (nun h1)] at e3
    rw [ne e2 (nun h2)] at e4
    exact E.dis j k x y s t b e1 e2 e3 e4 h1 h2
  · obtain ⟨j, x, s, e, q, z⟩ := o
    rw [ne q (nun z)] at e
    exact ⟨j, x, s, e, q, z⟩
theorem r_exc {F : Hp} {c : Nat} {b : Addr} (h : F b = some (ExK (G.cl c) b)) : rep G F (.exc c) (.ref b) := by unfold rep; exact ⟨b, rfl, h⟩
variable {y z n x1 x2 : Str} {C1 C2 : Addr} {kk : Nat} {py pz pn ps1 ps2 q1 q2 tp hp pos : Pos} {K : Ot → Prop} {con : List D → (D → Prop) → (Nat → Prop) → Prop}
/-- try: y = C.m(t = a)  except (A, B) as n: z = n -/
theorem ws_try {pl : Sem Bool} (hs : X.stack = X.env :: X.outer) (hf : X.env.frame = some X.env.locals) (hx : X.ex = []) (hN : X.N.Nodup) (hln : X.env.kindOf n = some .local) (g1 : Gl X x1) (m1 : X.mg x1 = some (.ref C1)) (g2 : Gl X x2) (m2 : X.mg x2 = some (.ref C2))
    (hg : Gl X x) (hm : X.mg x = some (.ref C)) (S : Stat X.K C m f) (F : FnOk X.prog X.w X.K X.mg X.base (L2.CX X.prog X.w) k f fd [t] (spX G con)) (hr : Room k X.A) (hb : KBn X.K fd [t] 0 [t] g (fun vs zs => vs ++ zs))
    (hyl : X.env.scope.names.lookup y = some .local) (hzl : X.env.scope.names.lookup z = some .local) (hnz : n ≠ z)
    (h : ∃ d, Lk Γ a (.val d) ∧ con [d] (fun u => ∃ s0 Γ2, Put Γ y s0 (.val u) Γ2 ∧ K (.nx Γ2)) (fun c => PySem.W.exmAny X.K (.ref (G.cl c)) [.ref C1, .ref C2] = some true ∧ ∃ s0 s1 Γ2 Γ3, Put Γ n s0 .un Γ2 ∧ Put Γ2 z s1 (.val (.exc c)) Γ3 ∧ K (.nx Γ3)))
    (hjn : ∃ i : Nat, X.N[i]? = some n) (hjy : ∃ i : Nat, X.N[i]? = some y) (hjz : ∃ i : Nat, X.N[i]? = some z)
    (hpe : ∀ (pn0 : List (Addr × Obj)) (xe : Value → Shared → Prop) (W : WX) (i : Nat), X.N[i]? = some a → Takes (X.tr pn0 xe) W →
      PE (X.tr pn0 xe) (.Call (.Attribute (.Name x p1) m ap) [] [⟨some t, .Name a pa, kp⟩] cp) (fun σ H Q => ∃ v, σ[i]? = some (some v) ∧ spX G con [v] H Q (fun cls d H' => W cls d σ H')))
    (hsy : swapsWith (.Call (.Attribute (.Name x p1) m ap) [] [⟨some t, .Name a pa, kp⟩] cp) (some (.Name y py)) ps1.line X.env = pure false := by rfl) (hsz : swapsWith (.Name n pn) (some (.Name z pz)) ps2.line X.env = pure false := by rfl)
    (hn1 : (n == ("__debug__" : Str)) = false := by decide) (hn2 : (n == ("__classdict__" : Str)) = false := by decide) (d1 : (x1 == ("__debug__" : Str)) = false := by decide) (d2 : (x2 == ("__debug__" : Str)) = false := by decide) :
    WS X G Γ (.Try [.Assign [.Name y py] (.Call (.Attribute (.Name x p1) m ap) [] [⟨some t, .Name a pa, kp⟩] cp) ps1] [.ExceptHandler (some (.Tuple [.Name x1 q1, .Name x2 q2] kk tp)) (some n) [.Assign [.Name z pz] (.Name n pn) ps2] hp] [] [] pos) K := .of fun σ F0 H D E q => by
  obtain ⟨i, hi⟩ := hjn
  obtain ⟨jy, hjy⟩ := hjy
  obtain ⟨jz, hjz⟩ := hjz
  obtain ⟨d, hlk, hc⟩ := h
  obtain ⟨ia, hia⟩ := hlk.ix
  have hNa := E.name hia
  have hvn : Vis X.env.scope n := .inl hln
  refine PS.ss (ps_try_held (i := i) (tb := fun W => fun D σ H => ∃ v, σ[ia]? = some (some v) ∧ spX G con [v] H (fun u H' => D.nx (σ.set jy (some u)) H') (fun cls d H' => W cls d σ H'))
    (ts := fun a cls d => fun D σ H => ∃ v, σ[i]? = some (some v) ∧ D.nx (σ.set jz (some v)) H) hs hf hx hN hi hln g1 m1 g2 m2 (fun W pn0 xe tk po => ?_) (fun b oe cls d pn0 hz hfd => ?_) d1 d2) ?_
  · refine pss_one ⟨fun pins s σ H D I h => ?_⟩
    obtain ⟨v, h1, h2⟩ := h
    refine wpAny_Assign_Name (thn ((hpe pn0 xe W ia hNa tk).run pins s σ H (fun u H' => D.nx (σ.set jy (some u)) H') I ⟨v, h1, h2⟩) fun u s1 ⟨w, H1, I1, r1, qq⟩ => ?_) hsy
    exact store_ok I1 hN hjy (.inl hyl) r1 (fun s2 I2 => ⟨_, H1, I2, qq⟩) (.inr hyl)
  · refine pss_one ⟨fun pins s σ H D I h => ?_⟩
    obtain ⟨v, h1, h2⟩ := h
    refine wpAny_Assign_Name (thn ((pe_var (X := X.suite b ((b, oe) :: pn0)) (pos := pn) hi hvn hn1 hn2).run pins s σ H (fun u H' => D.nx (σ.set jz (some u)) H') I ⟨v, h1, h2⟩) fun u s1 ⟨w, H1, I1, r1, qq⟩ => ?_) hsz
    exact store_ok I1 hN hjz (.inl hzl) r1 (fun s2 I2 => ⟨_, H1, I2, qq⟩) (.inr hzl)
  · obtain ⟨v, hv, rv⟩ := E.val ia a d hia
    refine ⟨v, hv, F0, [d], _, _, E.ex, reps_cons rv reps_nil, hc, fun u w F' H' kd s' r' => ?_, fun c F' H' ke s' => ?_⟩
    · obtain ⟨s0, Γ2, hput, k2⟩ := kd
      obtain ⟨j2, hj2, E2, o2⟩ := put_run (E.step s') hput r'
      obtain rfl := nodup_ix hN hjy hj2
      exact q.nx Γ2 _ F' H' ⟨no_any s', E2, fun b o => .inl (o2 b o)⟩ k2
    · obtain ⟨hm2, s0, s1, Γ2, Γ3, hp1, hp2, k2⟩ := ke
      obtain ⟨i', e1, rfl⟩ := hp1.ix
      obtain rfl := nodup_ix hN hi (E.name e1)
      have il : i < Γ.length := (List.getElem?_eq_some_iff.mp e1).1
      refine ⟨G.cl c, rfl, rfl, hm2, fun b T nb nT hT => ⟨.ref b, List.getElem?_set_self (by rw [E.len]; exact il), ?_⟩⟩
      have E' := E.step s'
      have sT : Step No F' H' (upd F' T (.tup [.ref C1, .ref C2])) (upd H' T (.tup [.ref C1, .ref C2])) := Step.lay E'.ex nT
      have sb : Step No (upd F' T (.tup [.ref C1, .ref C2])) (upd H' T (.tup [.ref C1, .ref C2])) (upd (upd F' T (.tup [.ref C1, .ref C2])) b (ExK (G.cl c) b)) (upd (upd H' T (.tup [.ref C1, .ref C2])) b (ExK (G.cl c) b)) := Step.lay sT.sub (by rw [upd_ne (Ne.symm hT)]; exact nb)
      obtain ⟨E4, o4⟩ := ((E'.step sT).step sb).forget1 hp1
      have h2 : (Γ.set i (n, .un))[i]? = some (n, .un) := List.getElem?_set_self il
      obtain ⟨E5, o5⟩ := env_un (v := some (.ref b)) E4 h2
      obtain ⟨j3, hj3, E6, o6⟩ := put_run E5 hp2 (r_exc upd_same)
      obtain rfl := nodup_ix hN hjz hj3
      obtain ⟨j4, e4, rfl⟩ := hp2.ix
      have h3 : ((Γ.set i (n, .un)).set j4 (z, .val (.exc c)))[i]? = some (n, .un) := by
        rw [List.getElem?_set_ne]
        · exact h2
        · intro e
          subst e
          rw [h2] at e4
          cases e4
          exact hnz rfl
      obtain ⟨E7, o7⟩ := env_un (v := none) E6 h3
      exact q.nx _ _ _ _ ⟨stpN (stpN (no_any s') sT) sb, E7, fun x o => .inl (o4 x (o5 x (o6 x (o7 x o))))⟩ k2
end
section
variable {X : Cx} {G : Gc} {KD : D → Prop}
/-- isinstance of a caught exception -/
theorem cd_isX {c : Nat} {d : D} {u : Value} {b : Bool} (C : L2.ExcC X.K (G.cl c)) (hu : d.asCl G = some u) (hb : PySem.W.kitOne X.K (.ref (G.cl c)) u = some b) (k : KD (.bl b)) : CD X G (.builtin "isinstance") [.exc c, d] KD := .of fun F H vs Q e r q => by
  obtain ⟨v, w, rfl, r1, r2⟩ := reps2 r
  have r1' : ∃ a, v = .ref a ∧ F a = some (ExK (G.cl c) a) := by unfold rep at r1; exact r1
  obtain ⟨a, rfl, ha⟩ := r1'
  have cv := rep_asCl r2 hu
  intro pins s σ us I rv
  obtain ⟨u1, u2, rfl, q1, q2⟩ := vals2 rv
  obtain rfl : u1 = Value.ref a := q1
  have ob : ObjOk X.prog X.w H s.heap a (ExK (G.cl c) a) := I.hok a _ (e _ _ ha)
  obtain ⟨⟨oe, fs, hget, hz, hd⟩, _, _⟩ := ob
  have J : PySem.W.InstAt s.heap a oe (G.cl c) none := by
    obtain ⟨oc, od, oda, osl⟩ := oe
    obtain ⟨h1, h2⟩ := hz
    dsimp only at h1 h2 hd
    subst h1 h2 hd
    exact ⟨hget, rfl, rfl, trivial⟩
  have eu := cv.eq q2
  subst eu
  exact PySem.W.kia_one (PySem.W.handS_kitx_exc C.hg C.hk C.hs C.hd C.ha C.hn C.ht C.hm) I.kIn J hb (fun z => nomatch z) fun tk => ⟨.bl b, H, I.tok tk, rfl, q _ _ F H (.refl e) r_bl k⟩
theorem bo_excN {c : Nat} (k : KD (.bl false)) : BO X G (compareOp .Is) (.exc c) .non KD :=
  bo_isN (u := .bl false) (fun F v r => by
    have r1 : ∃ a, v = .ref a ∧ F a = some (ExK (G.cl c) a) := by unfold rep at r; exact r
    obtain ⟨a, rfl, _⟩ := r1
    rfl) (by simpa using k)
end
end Dv

set_option Elab.async false
set_option maxRecDepth 100000
set_option maxHeartbeats 4000000
namespace Dv
open PySem PySem.Spec PyProof.Rows L2 Dx
open Evl (Ex ex_l ex_t)
section
variable {X : Cx} {G : Gc} {Γ : En} {o e a b c : Expr} {pos p2 apos : Pos} {K : D → En → Prop} {KA : List D → En → Prop}
/-- s.removeprefix(e) -/
theorem we_rmpre (h : WE X G Γ o fun d Γ1 => ∃ s, d = .str s ∧ WA X G Γ1 [e] fun ds Γ2 => ∃ x, ds = [.str x] ∧ s.length ≤ sizeLine ∧ K (.str (Txt.removeprefix s x)) Γ2)
    (hbase : attributeBase o "removeprefix" X.env (eval o X.env) = eval o X.env := by rfl)
    (hfew : ((backTo pos (starEach [e] X.env)).all (fun x => !x.1) && (backToKw pos (keywordEach [] X.env)).all (fun x => x.1.isSome) && decide (([e] : List Expr).length + ([] : List Keyword).length + (if ([] : List Keyword).isEmpty then 0 else 1) < 30)) = true := by rfl)
    (hline : (apos.endLine == pos.line) = true := by rfl) (hs : starEach [e] X.env = (false, eval e X.env) :: starEach [] X.env := by rfl) (hplain : (backTo pos (starEach [] X.env)).any (·.1) = false := by rfl) : WE X G Γ (.Call (.Attribute o "removeprefix" apos) [e] [] pos) K := .of fun σ F H Q E q => by
  refine PE.se (pe_bm PySem.F.plainAttrs_str PySem.F.slot_str_removeprefix PySem.F.type_str_removeprefix mt_removeprefix pe_S pa_S hbase hfew hline hs hplain) ?_
  refine h σ F H _ E fun d Γ1 v F1 H1 s1 E1 o1 r1 k1 => ?_
  obtain ⟨s, rfl, k1⟩ := k1
  rw [rep_str r1]
  refine ⟨rfl, ?_⟩
  refine k1 σ F1 H1 _ E1 fun ds Γ2 vs F2 H2 s2 E2 o2 r2 k2 => ?_
  obtain ⟨x, rfl, hl, k⟩ := k2
  obtain ⟨w, rfl, r3⟩ := reps1 r2
  rw [rep_str r3]
  exact ⟨s, x, rfl, rfl, hl, q _ Γ2 _ F2 H2 (stp s1 o1 s2) E2 (fun a h => o1 a (o2 a h)) r_str k⟩
/-- s.startswith(e) -/
theorem we_starts (h : WE X G Γ o fun d Γ1 => ∃ s, d = .str s ∧ WA X G Γ1 [e] fun ds Γ2 => ∃ x, ds = [.str x] ∧ K (.bl (Txt.startswith s x)) Γ2)
    (hbase : attributeBase o "startswith" X.env (eval o X.env) = eval o X.env := by rfl)
    (hfew : ((backTo pos (starEach [e] X.env)).all (fun x => !x.1) && (backToKw pos (keywordEach [] X.env)).all (fun x => x.1.isSome) && decide (([e] : List Expr).length + ([] : List Keyword).length + (if ([] : List Keyword).isEmpty then 0 else 1) < 30)) = true := by rfl)
    (hline : (apos.endLine == pos.line) = true := by rfl) (hs : starEach [e] X.env = (false, eval e X.env) :: starEach [] X.env := by rfl) (hplain : (backTo pos (starEach [] X.env)).any (·.1) = false := by rfl) : WE X G Γ (.Call (.Attribute o "startswith" apos) [e] [] pos) K := .of fun σ F H Q E q => by
  refine PE.se (pe_bm PySem.F.plainAttrs_str PySem.F.slot_str_startswith PySem.F.type_str_startswith mt_startswith pe_S pa_S hbase hfew hline hs hplain) ?_
  refine h σ F H _ E fun d Γ1 v F1 H1 s1 E1 o1 r1 k1 => ?_
  obtain ⟨s, rfl, k1⟩ := k1
  rw [rep_str r1]
  refine ⟨rfl, ?_⟩
  refine k1 σ F1 H1 _ E1 fun ds Γ2 vs F2 H2 s2 E2 o2 r2 k2 => ?_
  obtain ⟨x, rfl, k⟩ := k2
  obtain ⟨w, rfl, r3⟩ := reps1 r2
  rw [rep_str r3]
  exact ⟨s, x, rfl, rfl, q _ Γ2 _ F2 H2 (stp s1 o1 s2) E2 (fun a h => o1 a (o2 a h)) r_bl k⟩
/-- s.split(e), a new list -/
theorem wl_split (h : WE X G Γ o fun d Γ1 => ∃ s, d = .str s ∧ WA X G Γ1 [e] fun ds Γ2 => ∃ x, ds = [.str x] ∧ (x.length == 0) = false ∧ s.length + 2 ≤ sizeLine ∧ KA ((Txt.split s x).map .str) Γ2)
    (hbase : attributeBase o "split" X.env (eval o X.env) = eval o X.env := by rfl)
    (hfew : ((backTo pos (starEach [e] X.env)).all (fun x => !x.1) && (backToKw pos (keywordEach [] X.env)).all (fun x => x.1.isSome) && decide (([e] : List Expr).length + ([] : List Keyword).length + (if ([] : List Keyword).isEmpty then 0 else 1) < 30)) = true := by rfl)
    (hline : (apos.endLine == pos.line) = true := by rfl) (hs : starEach [e] X.env = (false, eval e X.env) :: starEach [] X.env := by rfl) (hplain : (backTo pos (starEach [] X.env)).any (·.1) = false := by rfl) : WL X G Γ (.Call (.Attribute o "split" apos) [e] [] pos) KA := .of fun σ F H Q E q => by
  refine PE.se (pe_bm PySem.F.plainAttrs_str PySem.F.slot_str_split PySem.F.type_str_split mt_split pe_S pa_S hbase hfew hline hs hplain) ?_
  refine h σ F H _ E fun d Γ1 v F1 H1 s1 E1 o1 r1 k1 => ?_
  obtain ⟨s, rfl, k1⟩ := k1
  rw [rep_str r1]
  refine ⟨rfl, ?_⟩
  refine k1 σ F1 H1 _ E1 fun ds Γ2 vs F2 H2 s2 E2 o2 r2 k2 => ?_
  obtain ⟨x, rfl, h0, hl, k⟩ := k2
  obtain ⟨w, rfl, r3⟩ := reps1 r2
  rw [rep_str r3]
  refine ⟨s, x, rfl, rfl, h0, hl, fun p hp => ?_⟩
  have s12 := stp s1 o1 s2
  have st : Step No F2 H2 F2 (upd H2 p (.lst ((Txt.split s x).map V.str))) := Step.lay0 E2.ex hp
  exact q _ Γ2 p _ F2 _ (stpN s12 st) (E2.step st) (fun a h => o1 a (o2 a h)) (s12.back hp) (ex_none E2.ex hp) upd_same (strs_reps _) k
/-- s[lo:hi] of a text -/
theorem we_cutS {lo hi : Option Expr} (h : WE X G Γ e fun d Γ1 => ∃ s, d = .str s ∧ s.length ≤ sizeLine ∧ Bd X G Γ1 lo fun l Γ2 => Bd X G Γ2 hi fun u Γ3 => K (.str (cutS s l u)) Γ3) : WE X G Γ (.Subscript e (.Slice lo hi none p2) pos) K := .of fun σ F H Q E q => by
  refine PE.se (pe_slice sl_str pe_S po_S po_S) ?_
  refine h σ F H _ E fun d Γ1 v F1 H1 s1 E1 o1 r1 k1 => ?_
  obtain ⟨s, rfl, hl, k1⟩ := k1
  rw [rep_str r1]
  refine k1.run E1 fun l Γ2 F2 H2 s2 E2 o2 k2 => ?_
  refine k2.run E2 fun u Γ3 F3 H3 s3 E3 o3 k3 => ?_
  have s23 := stp (stp s1 o1 s2) (fun a h => o1 a (o2 a h)) s3
  exact ⟨s, rfl, hl, q _ Γ3 _ F3 H3 s23 E3 (fun a h => o1 a (o2 a (o3 a h))) r_str k3⟩
/-- a number or text of the top -/
theorem we_gI {x : Str} {i : Int} {t : Tok} (hm : X.mg x = some (.int i t)) (k : K (.int i) Γ) (hg : Gl X x := by rfl) (hdb : (x == ("__debug__" : Str)) = false := by decide) : WE X G Γ (.Name x pos) K := .of fun σ F H Q E q =>
  PE.se (pe_glob hg hm (v := .int i) ⟨t, rfl⟩ hdb) (q (.int i) Γ _ F H (.refl E.ex) E (fun _ h => h) r_int k)
theorem we_gS {x : Str} {i : Str} {t : Tok} (hm : X.mg x = some (.str i t)) (k : K (.str i) Γ) (hg : Gl X x := by rfl) (hdb : (x == ("__debug__" : Str)) = false := by decide) : WE X G Γ (.Name x pos) K := .of fun σ F H Q E q =>
  PE.se (pe_glob hg hm (v := .str i) ⟨t, rfl⟩ hdb) (q (.str i) Γ _ F H (.refl E.ex) E (fun _ h => h) r_str k)
/-- a op1 b op2 c -/
theorem we_chain {op op' : CmpOp} (h : WE X G Γ a fun x Γ1 => WE X G Γ1 b fun y Γ2 => BO X G (compareOp op) x y fun z => ∃ k, z = .bl k ∧ (k = true → WE X G Γ2 c fun w Γ3 => BO X G (compareOp op') y w fun z => K z Γ3) ∧ (k = false → K (.bl false) Γ2))
    (hm : lastMarks [op, op'] [b, c] = false := by with_unfolding_all rfl) : WE X G Γ (.Compare a [op, op'] [b, c] pos) K := .of fun σ F H Q E q => by
  refine PE.se (pe_chain op_S op_S pe_S pe_S pe_S hm) ?_
  refine h σ F H _ E fun x Γ1 u F1 H1 s1 E1 o1 r1 k1 => ?_
  refine k1 σ F1 H1 _ E1 fun y Γ2 v F2 H2 s2 E2 o2 r2 k2 => ?_
  refine k2 F2 H2 u v _ E2.ex (rep_mono s2.ex _ _ r1) r2 fun z w F3 H3 s3 r3 k3 => ?_
  obtain ⟨k, rfl, k4, k5⟩ := k3
  have s13 := stpN (stp s1 o1 s2) s3
  refine ⟨k, rep_bl r3, ?_⟩
  cases k with
  | true =>
    refine iteT (k4 rfl σ F3 H3 _ (E2.step s3) fun w2 Γ3 u2 F4 H4 s4 E4 o4 r4 k6 => ?_)
    refine k6 F4 H4 v u2 _ E4.ex (rep_mono (s3.ex.trans s4.ex) _ _ r2) r4 fun z5 v5 F5 H5 s5 r5 k7 => ?_
    have s14 := stp s13 (fun a h => o1 a (o2 a h)) s4
    exact q z5 Γ3 v5 F5 H5 (stpN s14 s5) (E4.step s5) (fun a h => o1 a (o2 a (o4 a h))) r5 k7
  | false => exact iteF (q (.bl false) Γ2 _ F3 H3 s13 (E2.step s3) (fun a h => o1 a (o2 a h)) r_bl (k5 rfl))
theorem wt_chain {KT : Bool → En → Prop} {op op' : CmpOp} (h : WE X G Γ a fun x Γ1 => WE X G Γ1 b fun y Γ2 => BO X G (compareOp op) x y fun z => ∃ k, z = .bl k ∧ (k = true → WE X G Γ2 c fun w Γ3 => BO X G (compareOp op') y w fun z => ∃ k2, z = .bl k2 ∧ KT k2 Γ3) ∧ (k = false → KT false Γ2))
    (hm : lastMarks [op, op'] [b, c] = false := by with_unfolding_all rfl) : WT X G Γ (.Compare a [op, op'] [b, c] pos) KT := .of fun σ F H Q E q => by
  refine PT.st (pt_chain op_S op_S pe_S pe_S pe_S hm) ?_
  refine h σ F H _ E fun x Γ1 u F1 H1 s1 E1 o1 r1 k1 => ?_
  refine k1 σ F1 H1 _ E1 fun y Γ2 v F2 H2 s2 E2 o2 r2 k2 => ?_
  refine k2 F2 H2 u v _ E2.ex (rep_mono s2.ex _ _ r1) r2 fun z w F3 H3 s3 r3 k3 => ?_
  obtain ⟨k, rfl, k4, k5⟩ := k3
  have s13 := stpN (stp s1 o1 s2) s3
  refine ⟨k, rep_bl r3, ?_⟩
  cases k with
  | true =>
    refine iteT (k4 rfl σ F3 H3 _ (E2.step s3) fun w2 Γ3 u2 F4 H4 s4 E4 o4 r4 k6 => ?_)
    refine k6 F4 H4 v u2 _ E4.ex (rep_mono (s3.ex.trans s4.ex) _ _ r2) r4 fun z5 v5 F5 H5 s5 r5 k7 => ?_
    obtain ⟨k8, rfl, k9⟩ := k7
    have s14 := stp s13 (fun a h => o1 a (o2 a h)) s4
    exact ⟨k8, rep_bl r5, q k8 Γ3 F5 H5 (stpN s14 s5) (E4.step s5) (fun a h => o1 a (o2 a (o4 a h))) k9⟩
  | false => exact iteF ⟨false, rfl, q false Γ2 F3 H3 s13 (E2.step s3) (fun a h => o1 a (o2 a h)) (k5 rfl)⟩
end
section
variable {X : Cx} {G : Gc} {K : D → Prop}
/-- a sign in a text -/
theorem bo_inC {c : Nat} {z : Str} (k : K (.bl (decide (c ∈ z.cps.toList)))) : BO X G (compareOp .In) (.str ⟨#[c]⟩) (.str z) K :=
  bo_of op_in_sign (fun F H u v Q e r1 r2 q => by rw [rep_str r1, rep_str r2]; exact ⟨c, z, rfl, rfl, q _ r_bl⟩) k
theorem bo_notInC {c : Nat} {z : Str} (k : K (.bl (!decide (c ∈ z.cps.toList)))) : BO X G (compareOp .NotIn) (.str ⟨#[c]⟩) (.str z) K :=
  bo_of op_notIn_sign (fun F H u v Q e r1 r2 q => by rw [rep_str r1, rep_str r2]; exact ⟨c, z, rfl, rfl, q _ r_bl⟩) k
theorem reps_flat {F : Hp} {ds : List D} {vs : List V} (r : reps G F ds vs) : ∀ n : Nat, reps G F (List.replicate n ds).flatten (List.replicate n vs).flatten
  | 0 => reps_nil
  | n + 1 => by
    rw [List.replicate_succ, List.replicate_succ, List.flatten_cons, List.flatten_cons]
    exact reps_app r (reps_flat r n)
/-- xs * n -/
theorem bo_repL {xs : List D} {n : Int} (h1 : -(2 ^ 63) ≤ n) (h2 : n < 2 ^ 63) (hz : xs.length * n.toNat ≤ 100000) (k : K (.lst (List.replicate n.toNat xs).flatten)) : BO X G (binaryOp .Mult) (.lst xs) (.int n) K := .of fun F H u v Q e r1 r2 q => by
  obtain ⟨a, vs, rfl, ha, rv⟩ := rep_lstX r1
  rw [rep_int r2]
  refine OpR.so op_rep ⟨a, n, vs, rfl, rfl, e _ _ ha, h1, h2, ?_, fun p hp => ?_⟩
  · rw [reps_len rv]
    exact Nat.le_trans hz (by decide)
  · have st : Step No F H (upd F p (.lst (List.replicate n.toNat vs).flatten)) (upd H p (.lst (List.replicate n.toNat vs).flatten)) := Step.lay e hp
    refine q _ _ _ _ st ?_ k
    unfold rep
    exact ⟨p, _, rfl, upd_same, reps_mono st.ex _ _ (reps_flat rv _)⟩
end
end Dv

set_option Elab.async false
set_option maxRecDepth 100000
set_option maxHeartbeats 4000000
namespace Dv
open PySem PySem.Spec PyProof.Rows L2
/-! ### written data at once -/
def litL (f : Expr → Option D) : List Expr → Option (List D)
  | [] => some []
  | e :: es => match f e, litL f es with
    | some d, some ds => some (d :: ds)
    | _, _ => none
/-- what a written constant, tuple or list says, at most n deep -/
def litE : Nat → Expr → Option D
  | 0, _ => none
  | n + 1, e => match e with
    | .Constant (.int i) _ _ => some (.int i)
    | .Constant (.bool b) _ _ => some (.bl b)
    | .Constant .none _ _ => some .non
    | .Constant (.str s) _ _ => some (.str s)
    | .UnaryOp .USub (.Constant (.int i) _ _) _ => some (.int (-i))
    | .Tuple es _ _ => if es.length ≤ 100000 then (litL (litE n) es).map .tup else none
    | .List es _ => if es.length ≤ 100000 then (litL (litE n) es).map .lst else none
    | _ => none
theorem litL_len {f : Expr → Option D} : ∀ {es : List Expr} {ds : List D}, litL f es = some ds → ds.length = es.length
  | [], ds, h => by cases h; rfl
  | e :: es, ds, h => by
    unfold litL at h
    cases h1 : f e with
    | none => rw [h1] at h; cases h
    | some d =>
      cases h2 : litL f es with
      | none => rw [h1, h2] at h; cases h
      | some ds' =>
        rw [h1, h2] at h
        cases h
        rw [List.length_cons, List.length_cons, litL_len h2]
section
variable {X : Cx} {G : Gc} {Γ : En}
theorem lit_star {n : Nat} {e : Expr} {d : D} (h : litE n e = some d) (es : List Expr) : starEach (e :: es) X.env = (false, eval e X.env) :: starEach es X.env := by
  cases n with
  | zero => cases h
  | succ n =>
    cases e
    case Starred => cases h
    all_goals rfl
theorem wa_litL {n : Nat} (ih : ∀ (e : Expr) (d : D) (K : D → En → Prop), litE n e = some d → K d Γ → WE X G Γ e K) : ∀ {es : List Expr} {ds : List D} {KA : List D → En → Prop}, litL (litE n) es = some ds → KA ds Γ → WA X G Γ es KA
  | [], ds, KA, h, k => by cases h; exact wa_nil k
  | e :: es, ds, KA, h, k => by
    unfold litL at h
    cases h1 : litE n e with
    | none => rw [h1] at h; cases h
    | some d =>
      cases h2 : litL (litE n) es with
      | none => rw [h1, h2] at h; cases h
      | some ds' =>
        rw [h1, h2] at h
        cases h
        exact wa_cons (ih e d _ h1 (wa_litL ih h2 k)) (lit_star h1 es)
theorem we_litN : ∀ (n : Nat) (e : Expr) (d : D) (K : D → En → Prop), litE n e = some d → K d Γ → WE X G Γ e K
  | 0, e, d, K, h, k => by cases h
  | n + 1, e, d, K, h, k => by
    cases e
    case Constant c j pos =>
      cases c
      case int i => cases h; exact we_int k
      case bool b => cases h; exact we_bl k
      case none => cases h; exact we_non k
      case str s => cases h; exact we_str k
      all_goals cases h
    case UnaryOp op a pos =>
      cases op
      case USub =>
        cases a
        case Constant c j p2 =>
          cases c
          case int i => cases h; exact we_neg (we_int ⟨i, rfl, k⟩)
          all_goals cases h
        all_goals cases h
      all_goals cases h
    case Tuple es j pos =>
      change (if es.length ≤ 100000 then (litL (litE n) es).map D.tup else none) = some d at h
      by_cases hl : es.length ≤ 100000
      · rw [if_pos hl] at h
        cases h2 : litL (litE n) es with
        | none => rw [h2] at h; cases h
        | some ds =>
          rw [h2] at h
          cases h
          exact we_tup (wa_litL (we_litN n) h2 ⟨by rw [litL_len h2]; exact hl, k⟩)
      · rw [if_neg hl] at h; cases h
    case List es pos =>
      change (if es.length ≤ 100000 then (litL (litE n) es).map D.lst else none) = some d at h
      by_cases hl : es.length ≤ 100000
      · rw [if_pos hl] at h
        cases h2 : litL (litE n) es with
        | none => rw [h2] at h; cases h
        | some ds =>
          rw [h2] at h
          cases h
          exact we_new (wl_lst (wa_litL (we_litN n) h2 ⟨by rw [litL_len h2]; exact hl, k⟩))
      · rw [if_neg hl] at h; cases h
    all_goals cases h
/-- a written value -/
theorem we_lit {e : Expr} {K : D → En → Prop} (d : D) (h : litE 20 e = some d) (k : K d Γ) : WE X G Γ e K := we_litN 20 e d K h k
theorem wa_lits {es : List Expr} {KA : List D → En → Prop} (ds : List D) (h : litL (litE 20) es = some ds) (k : KA ds Γ) : WA X G Γ es KA := wa_litL (we_litN 20) h k
theorem wl_lits {es : List Expr} {pos : Pos} {KA : List D → En → Prop} (ds : List D) (h : litL (litE 20) es = some ds) (k : KA ds Γ) (hl : es.length ≤ 100000 := by decide) : WL X G Γ (.List es pos) KA :=
  wl_lst (wa_lits ds h ⟨by rw [litL_len h]; exact hl, k⟩)
end
end Dv

set_option Elab.async false
set_option maxRecDepth 100000
set_option maxHeartbeats 4000000
namespace Dv
open PySem PySem.Spec PyProof.Rows L2
open Evl (Ex ex_l ex_t)
section
variable {X : Cx} {G : Gc} {Γ Γ' : En} {c e b tg : Expr} {body : List Stmt} {x : Str} {pn apos p p2 p3 pos : Pos} {K : Ot → Prop} {KE : D → En → Prop} {KT : Bool → En → Prop} {KA : List D → En → Prop}
/-- while c: body; Pv the word, by a number that falls -/
theorem ws_while (Pv : Nat → En → Prop) (n0 : Nat) (hp : PassesOwn (model X.prog X.w) X.A X.env X.xe) (h0 : Pv n0 Γ)
    (h : ∀ n Γ2, Pv n Γ2 → WT X G Γ2 c fun b Γ3 => (b = true → WB X G Γ3 body fun o => match o with
        | .nx Γ4 => ∃ m, m < n ∧ Pv m Γ4
        | .ct Γ4 => ∃ m, m < n ∧ Pv m Γ4
        | .bk Γ4 => K (.nx Γ4)
        | .rt z Γ4 => K (.rt z Γ4)) ∧ (b = false → K (.nx Γ3))) : WS X G Γ (.While c body [] pos) K := .of fun σ F H D E q => by
  refine PS.ss (ps_while hp pt_S pss_S) ?_
  refine ⟨fun n σ' H' => ∃ (F' : Hp) (Γ2 : En), Went G X.N Γ σ F H Γ2 σ' F' H' ∧ Pv n Γ2, ⟨n0, F, Γ, .refl E, h0⟩, ?_⟩
  rintro n σ' H' ⟨F', Γ2, w, hpv⟩
  refine (h n Γ2 hpv) σ' F' H' _ w.en fun b Γ3 F3 H3 s3 E3 o3 k3 => ?_
  have w3 : Went G X.N Γ σ F H Γ3 σ' F3 H3 := w.trans (.of s3 E3 o3)
  cases b with
  | true =>
    refine iteT ⟨fun σ4 H4 => ∃ (m : Nat), m < n ∧ ∃ (F4 : Hp) (Γ4 : En), Went G X.N Γ σ F H Γ4 σ4 F4 H4 ∧ Pv m Γ4, fun σ4 H4 ⟨m, hm, F4, Γ4, w4, p4⟩ => ⟨m, hm, F4, Γ4, w4, p4⟩, ?_⟩
    refine (k3.1 rfl) σ' F3 H3 _ E3 ⟨fun Γ4 σ4 F4 H4 w4 k => ?_, fun z v Γ4 σ4 F4 H4 w4 r k => ?_, fun Γ4 σ4 F4 H4 w4 k => ?_, fun Γ4 σ4 F4 H4 w4 k => ?_⟩
    · obtain ⟨m, hm, k⟩ := k
      exact ⟨m, hm, F4, Γ4, w3.trans w4, k⟩
    · exact q.rt z v Γ4 σ4 F4 H4 (w3.trans w4) r k
    · exact q.nx Γ4 σ4 F4 H4 (w3.trans w4) k
    · obtain ⟨m, hm, k⟩ := k
      exact ⟨m, hm, F4, Γ4, w3.trans w4, k⟩
  | false => exact iteF (q.nx Γ3 σ' F3 H3 w3 (k3.2 rfl))
/-- for .. in reversed(range(n)) -/
theorem wi_revRange {q2 : Pos} {pos2 : Pos} (hm : X.mg "range" = none) (hr : X.mg "reversed" = none) (h : WE X G Γ e fun d Γ1 => ∃ n : Int, d = .int n ∧ 0 ≤ n ∧ n < 2 ^ 62 ∧ KA (((List.range n.toNat).map fun i => D.int (i : Nat)).reverse) Γ1) (hg : Gl X "range" := by rfl) (hg2 : Gl X "reversed" := by rfl)
    (hs : starEach [e] X.env = (false, eval e X.env) :: starEach [] X.env := by rfl) (hs2 : starEach [.Call (.Name "range" p) [e] [] pos] X.env = (false, eval (.Call (.Name "range" p) [e] [] pos) X.env) :: starEach [] X.env := by rfl) :
    WI X G Γ tg (.Call (.Name "reversed" q2) [.Call (.Name "range" p) [e] [] pos] [] pos2) KA := .of fun σ F H R E q => by
  refine PI.si (pi_revR hg2 hr (prg_1 hg hm pe_S hs) hs2) ?_
  refine h σ F H _ E fun d Γ1 v F1 H1 s1 E1 o1 r1 k1 => ?_
  obtain ⟨n, rfl, h1, h2, k⟩ := k1
  refine ⟨n, by rw [rep_int r1], by omega, by omega, by omega, by omega, ?_⟩
  rw [show ((n - 0).toNat) = n.toNat from by omega]
  have hl : (((List.range n.toNat).map fun i => D.int (i : Nat)).reverse).length = n.toNat := by simp
  refine q _ Γ1 _ F1 H1 s1 E1 o1 ⟨fun i H hi _ => (by show i < n.toNat; omega), fun H _ => (by show n.toNat ≤ _; omega), fun i F H x H' e1 e2 hi y => ?_⟩ k
  obtain ⟨rfl, rfl⟩ := y
  refine ⟨.int ((n.toNat - 1 - i : Nat) : Int), F, ?_, .refl e2, ?_⟩
  · have hi' : i < n.toNat := by omega
    rw [List.getElem?_reverse (by simpa using hi'), List.length_map, List.length_range, List.getElem?_map, List.getElem?_range (by omega)] <;> rfl
  · have e : (0 : Int) + ((n.toNat : Nat) : Int) - 1 + (i : Int) * (-1) = ((n.toNat - 1 - i : Nat) : Int) := by omega
    rw [e]
    exact r_int
/-- the truth of a list of one's own -/
theorem wt_own {s : Sl} {cs : List D} (h0 : Lk Γ x s) (l0 : Lend s (.lst cs) (.lst cs) s) (k : KT (!cs.isEmpty) Γ)
    (hv : Vis X.env.scope x := by first | exact Or.inl rfl | exact Or.inr (Or.inl rfl) | exact Or.inr (Or.inr rfl)) (hd : (x == ("__debug__" : Str)) = false := by decide) (hcd : (x == ("__classdict__" : Str)) = false := by decide)
    (he : ∀ whole, isTrue (.Name x pn) X.env whole = (do let v ← whole; standAt (Expr.Name x pn).pos; holding [v] (truthy v)) := by intro _; rfl) : WT X G Γ (.Name x pn) KT := .of fun σ F H Q E q => by
  obtain ⟨i, p, hi, _, hp, hf, vs, hvs, rv⟩ := own_at E h0 l0
  refine PT.st (pt_truth (pe_var hi hv hd hcd) he) ⟨.ref p, hp, !cs.isEmpty, ?_, q _ Γ F H (.refl E.ex) E (fun _ h => h) k⟩
  refine .inl ⟨vs, SqL.of hvs, ?_⟩
  have hl := reps_len rv
  cases vs with
  | nil =>
    cases cs with
    | nil => rfl
    | cons c r => simp at hl
  | cons v r =>
    cases cs with
    | nil => simp at hl
    | cons c r => rfl
/-- x.pop() -/
theorem we_popEnd {s : Sl} {cs : List D} {z : D} {s' : Sl} (hN : X.N.Nodup) (hput : Put Γ x s s' Γ') (l : Lend s (.lst (cs ++ [z])) (.lst cs) s') (k : KE z Γ')
    (hv : Vis X.env.scope x := by first | exact Or.inl rfl | exact Or.inr (Or.inl rfl) | exact Or.inr (Or.inr rfl)) (hd : (x == ("__debug__" : Str)) = false := by decide) (hcd : (x == ("__classdict__" : Str)) = false := by decide)
    (hbase : attributeBase (.Name x pn) "pop" X.env (eval (.Name x pn) X.env) = eval (.Name x pn) X.env := by rfl) (hline : (apos.endLine == pos.line) = true := by rfl) : WE X G Γ (.Call (.Attribute (.Name x pn) "pop" apos) [] [] pos) KE := .of fun σ F H Q E q => by
  obtain ⟨i, p, hi, _, hp, hf, vs, hvs, rv⟩ := own_at E hput.at (lend_same l)
  refine PE.se (pe_bm0 PySem.F.plainAttrs_list PySem.F.slot_list_pop PySem.F.type_list_pop mt_pop (pe_var hi hv hd hcd) hbase hline) ?_
  refine ⟨.ref p, hp, .inl ⟨rfl, _, SqL.of hvs⟩, ?_⟩
  have hl := reps_len rv
  rw [List.length_append, List.length_singleton] at hl
  have hz : (cs ++ [z])[vs.length - 1]? = some z := by
    rw [List.getElem?_append_right (by omega)]
    have : vs.length - 1 - cs.length = 0 := by omega
    rw [this] <;> rfl
  obtain ⟨y, hy, ry⟩ := reps_get rv hz
  have rv2 : reps G F cs vs.dropLast := by
    have r2 := reps_take cs.length rv
    rw [List.take_left] at r2
    rw [List.dropLast_eq_take, show vs.length - 1 = cs.length from by omega]
    exact r2
  obtain ⟨E2, st, o2⟩ := own_put (o := .lst vs.dropLast) hN E hput l hi hp (show ∃ us, _ ∧ _ from ⟨_, upd_same, rv2⟩)
  exact ⟨p, vs, y, rfl, rfl, hvs, hy, q z Γ' y F _ st E2 o2 ry k⟩
end
end Dv

set_option Elab.async false
set_option maxRecDepth 100000
set_option maxHeartbeats 4000000
namespace Dv
open PySem PySem.Spec PyProof.Rows L2
open Evl (Ex ex_l ex_t)

/-! ### dicts whose keys are texts -/
section
variable {G : Gc} {F : Hp} {k : Str} {d : D} {v : V}
theorem rep_dic {fs : List (Str × D)} {v : V} (h : rep G F (.dic fs) v) : ∃ a o gs, v = .ref a ∧ F a = some (.frz o (.dK (dks gs))) ∧ repf G F fs gs := by unfold rep at h; exact h
theorem r_dic {fs : List (Str × D)} {gs : List (Str × V)} {a : Addr} {o : Obj} (h : F a = some (.frz o (.dK (dks gs)))) (r : repf G F fs gs) : rep G F (.dic fs) (.ref a) := by unfold rep; exact ⟨a, o, gs, rfl, h, r⟩
theorem rep_ptup {ds : List D} {v : V} (h : rep G F (.ptup ds) v) : ∃ a o vs, v = .ref a ∧ F a = some (.frz o (.tup vs)) ∧ o.dict = none ∧ reps G F ds vs := by unfold rep at h; exact h
theorem r_ptup {ds : List D} {vs : List V} {a : Addr} {o : Obj} (h : F a = some (.frz o (.tup vs))) (hd : o.dict = none) (r : reps G F ds vs) : rep G F (.ptup ds) (.ref a) := by unfold rep; exact ⟨a, o, vs, rfl, h, hd, r⟩
theorem repf_nil : repf G F [] [] := by unfold repf; rfl
theorem repf_cons {x : Str} {fs : List (Str × D)} {gs : List (Str × V)} (h : rep G F d v) (r : repf G F fs gs) : repf G F ((x, d) :: fs) ((x, v) :: gs) := by unfold repf; exact ⟨v, gs, rfl, h, r⟩
theorem repf_nil_inv {gs : List (Str × V)} (h : repf G F [] gs) : gs = [] := by unfold repf at h; exact h
theorem repf_cons_inv {x : Str} {fs : List (Str × D)} {gs : List (Str × V)} (h : repf G F ((x, d) :: fs) gs) : ∃ v t, gs = (x, v) :: t ∧ rep G F d v ∧ repf G F fs t := by unfold repf at h; exact h
theorem valV_dks (k : Str) : ∀ gs : List (Str × V), valV (dks gs) (.inr k) = gs.lookup k
  | [] => rfl
  | (x, v) :: r => by
    rw [List.lookup_cons]
    show valV ((Sum.inr x, v) :: dks r) (.inr k) = _
    by_cases h : x = k
    · subst h
      rw [show (x == x) = true from beq_self_eq_true x]
      exact valV_pos rfl
    · rw [show (k == x) = false from beq_eq_false_iff_ne.mpr fun e => h e.symm]
      exact (valV_neg (fun e => h (Sum.inr.inj e))).trans (valV_dks k r)
/-- in its place, or at the end -/
def putQ {α : Type} (fs : List (Str × α)) (k : Str) (d : α) : List (Str × α) := if (fs.any fun p => decide (p.1 = k)) = true then fs.map (fun p => if p.1 = k then (p.1, d) else p) else fs ++ [(k, d)]
theorem any_dks (k : Str) : ∀ gs : List (Str × V), ((dks gs).any fun kv => decide (kv.1 = .inr k)) = gs.any fun p => decide (p.1 = k)
  | [] => rfl
  | (x, v) :: r => by
    show ((Sum.inr x, v) :: dks r).any _ = _
    rw [List.any_cons, List.any_cons, any_dks k r]
    congr 1
    by_cases h : x = k
    · subst h; simp
    · rw [decide_eq_false h, decide_eq_false (fun e : (Sum.inr x : Key) = .inr k => h (Sum.inr.inj e))]
theorem map_dks (k : Str) (v : V) : ∀ gs : List (Str × V), ((dks gs).map fun kv => if kv.1 = .inr k then (kv.1, v) else kv) = dks (gs.map fun p => if p.1 = k then (p.1, v) else p)
  | [] => rfl
  | (x, u) :: r => by
    show ((Sum.inr x, u) :: dks r).map _ = dks (_ :: r.map _)
    rw [List.map_cons, map_dks k v r]
    by_cases h : x = k
    · subst h
      show (if (Sum.inr x : Key) = .inr x then _ else _) :: _ = dks ((if x = x then (x, v) else (x, u)) :: _)
      rw [if_pos rfl, if_pos rfl] <;> rfl
    · show (if (Sum.inr x : Key) = .inr k then _ else _) :: _ = dks ((if x = k then (x, v) else (x, u)) :: _)
      rw [if_neg (fun e : (Sum.inr x : Key) = .inr k => h (Sum.inr.inj e)), if_neg h] <;> rfl
theorem putK_dks (gs : List (Str × V)) (k : Str) (v : V) : putK (dks gs) (.inr k) v = dks (putQ gs k v) := by
  unfold putK putQ
  rw [any_dks, map_dks]
  by_cases h : (gs.any fun p => decide (p.1 = k)) = true
  · rw [if_pos h, if_pos h]
  · rw [if_neg h, if_neg h]
    unfold dks
    rw [List.map_append] <;> rfl
theorem repf_any (k : Str) : ∀ {fs : List (Str × D)} {gs : List (Str × V)}, repf G F fs gs → (fs.any fun p => decide (p.1 = k)) = gs.any fun p => decide (p.1 = k)
  | [], gs, h => by rw [repf_nil_inv h] <;> rfl
  | (x, d) :: fs, gs, h => by
    obtain ⟨v, t, rfl, h1, h2⟩ := repf_cons_inv h
    rw [List.any_cons, List.any_cons, repf_any k h2]
theorem repf_mapQ (r : rep G F d v) : ∀ {fs : List (Str × D)} {gs : List (Str × V)}, repf G F fs gs → repf G F (fs.map fun p => if p.1 = k then (p.1, d) else p) (gs.map fun p => if p.1 = k then (p.1, v) else p)
  | [], gs, h => by rw [repf_nil_inv h]; exact repf_nil
  | (x, c) :: fs, gs, h => by
    obtain ⟨u, t, rfl, h1, h2⟩ := repf_cons_inv h
    rw [List.map_cons, List.map_cons]
    show repf G F ((if x = k then (x, d) else (x, c)) :: _) ((if x = k then (x, v) else (x, u)) :: _)
    by_cases e : x = k
    · rw [if_pos e, if_pos e]; exact repf_cons r (repf_mapQ r h2)
    · rw [if_neg e, if_neg e]; exact repf_cons h1 (repf_mapQ r h2)
theorem repf_snoc (r : rep G F d v) : ∀ {fs : List (Str × D)} {gs : List (Str × V)}, repf G F fs gs → repf G F (fs ++ [(k, d)]) (gs ++ [(k, v)])
  | [], gs, h => by rw [repf_nil_inv h]; exact repf_cons r repf_nil
  | (x, c) :: fs, gs, h => by
    obtain ⟨u, t, rfl, h1, h2⟩ := repf_cons_inv h
    exact repf_cons h1 (repf_snoc r h2)
theorem repf_putQ (r : rep G F d v) {fs : List (Str × D)} {gs : List (Str × V)} (h : repf G F fs gs) : repf G F (putQ fs k d) (putQ gs k v) := by
  unfold putQ
  rw [repf_any k h]
  by_cases e : (gs.any fun p => decide (p.1 = k)) = true
  · rw [if_pos e, if_pos e]; exact repf_mapQ r h
  · rw [if_neg e, if_neg e]; exact repf_snoc r h
theorem putQ_len {α : Type} (fs : List (Str × α)) (k : Str) (d : α) : (putQ fs k d).length ≤ fs.length + 1 := by
  unfold putQ
  split
  · rw [List.length_map]; omega
  · rw [List.length_append]; exact Nat.le_refl _
end

/-! ### a new dict is held fast -/
section
variable {X : Cx} {G : Gc} {Γ : En} {e : Expr} {pos : Pos} {K : D → En → Prop}
def tLockD (t : TE) : TE := fun σ H Q => t σ H fun x H1 => ∃ d kvs, x = .ref d ∧ H1 d = some (.dK kvs) ∧ ∀ od, Q x (upd H1 d (.frz od (.dK kvs)))
theorem pe_lock {t : TE} (h : PE X e t) : PE X e (tLockD t) := ⟨fun pins s σ H Q I q => thn (h.run pins s σ H _ I q) fun v s1 ⟨x, H1, I1, r1, d, kvs, ex, hd, q1⟩ => by
  obtain ⟨od, I2⟩ := I1.lock hd True.intro
  exact ⟨x, _, I2, r1, q1 od⟩⟩
theorem dc_it {J : It} {n : Nat} {Gd : Hp → Prop} {Y : Nat → Hp → V → Hp → Prop} (w : Walk J n Gd Y) {g : TG} {tt : TT} {tk tv : TE} {vs : List Nat} {σ : L2.St} {H1 : Hp} {D : Addr} {Qd : Hp → Prop} (Pv : Nat → Hp → Prop) (h0 : Pv 0 (upd H1 D (.dK []))) (hG : ∀ i H, i ≤ n → Pv i H → Gd H)
    (hs : ∀ i x H H', i < n → Pv i H → Y i H x H' → g x (wipe σ vs) H' fun σ2 H2 => wipe σ2 vs = wipe σ vs ∧ tt σ2 H2 fun b H3 =>
      if b = true then tk σ2 H3 fun y H4 => tv σ2 H4 fun z H5 => ∃ kvs k, y = kV k ∧ H5 D = some (.dK kvs) ∧ kvs.length < sizeLine ∧ Pv (i + 1) (upd H5 D (.dK (putK kvs k z))) else Pv (i + 1) H3) (hd : ∀ H, Pv n H → Qd H) :
    ∃ W : Nat → Nat → Hp → Prop, (∃ m, W 0 m (upd H1 D (.dK []))) ∧ ∀ i m H, W i m H →
      (J.stop i H ∧ Qd H) ∨ (J.go i H ∧ ∃ Nx : Hp → Prop, (∀ H', Nx H' → ∃ m', m' < m ∧ W (i + 1) m' H') ∧ ∀ x H', J.yld i H x H' → g x (wipe σ vs) H' fun σ2 H2 => wipe σ2 vs = wipe σ vs ∧ tt σ2 H2 fun b H3 =>
        if b = true then tk σ2 H3 fun y H4 => tv σ2 H4 fun z H5 => ∃ kvs k, y = kV k ∧ H5 D = some (.dK kvs) ∧ kvs.length < sizeLine ∧ Nx (upd H5 D (.dK (putK kvs k z))) else Nx H3) := by
  refine ⟨fun i m H => m = n - i ∧ i ≤ n ∧ Pv i H, ⟨n, by simp, Nat.zero_le _, h0⟩, ?_⟩
  rintro i m H ⟨rfl, hi, p⟩
  have q := hG i H hi p
  by_cases hlt : i < n
  · refine .inr ⟨w.goes i H hlt q, Pv (i + 1), fun H' p' => ⟨n - (i + 1), by omega, rfl, hlt, p'⟩, fun x H' y => hs i x H H' hlt p (w.yields i H x H' hlt q y)⟩
  · have e : i = n := by omega
    subst e
    exact .inl ⟨w.stops H q, hd H p⟩
/-- {k: v for tg in iter}: the keys texts -/
theorem we_dmap {kx vx tg iter : Expr} {scope : Scope} {own : List (Str × Nat)} (gk : D → Str) (g : D → D) (hK : G.K = X.K) (hc : X.calm = true) (hN : X.N.Nodup) (ok : BlkOk X.N X.env.scope scope own)
    (hg : ∀ (s : Shared) (H : Hp) (C : Addr) (cl : List (Str × Addr)) (fp : List Addr), TgOk (X.blk s H scope (compEnvC scope cl C X.env) fp) tg (own.map (·.1)))
    (h : WI X G Γ tg iter fun ds Γ1 => ∃ Γb, Forget Γ1 (own.map (·.1)) Γb ∧ ds.length ≤ 100000 ∧
      (∀ d ∈ ds, ∃ ps Γ3, Tgt tg d ps ∧ ps.map (·.1) = own.map (·.1) ∧ Puts Γb ps Γ3 ∧
        ∀ (s : Shared) (H : Hp) (C : Addr) (cl : List (Str × Addr)) (fp : List Addr), WE (X.blk s H scope (compEnvC scope cl C X.env) fp) G Γ3 kx fun z Γ4 => z = .str (gk d) ∧
          ∀ (s : Shared) (H : Hp) (C : Addr) (cl : List (Str × Addr)) (fp : List Addr), WE (X.blk s H scope (compEnvC scope cl C X.env) fp) G Γ4 vx fun z Γ5 => z = g d ∧ Forget Γ5 (own.map (·.1)) Γb) ∧
      K (.dic (ds.foldl (fun acc d => putQ acc (gk d) (g d)) [])) Γb) (hs : ∀ x, foldedSetIterable iter X.env x = pure x := by intro _; rfl) : WE X G Γ (.DictComp kx vx [⟨tg, iter, [], 0⟩] scope pos) K := .of fun σ F H Q E q => by
  refine PE.se (pe_lock (pe_dc (g := BG X scope tg) (tt := tYes) (tk := BE X scope kx) (tv := BE X scope vx) hc hN pi_S ok (fun s H C cl fp => ⟨fun pins s' σ H' v u Q I r z => z s H C cl fp pins s' u I r⟩) (fun s H C cl fp => pts_nil)
    (fun s H C cl fp => ⟨fun pins s' σ H' Q I z => z s H C cl fp pins s' I⟩) (fun s H C cl fp => ⟨fun pins s' σ H' Q I z => z s H C cl fp pins s' I⟩) hs)) ?_
  refine h σ F H _ E fun ds Γ1 J F1 H1 s1 E1 o1 wk k1 => ?_
  obtain ⟨Γb, hfg, hdl, hturn, hend⟩ := k1
  intro Dl hD
  have idx : ∀ {Γ2 : En}, (∀ x ∈ own.map (·.1), ∃ i : Nat, Γ2[i]? = some (x, .un)) → X.N = Γ2.map (·.1) → ∀ i ∈ own.map (·.2), ∀ x s, Γ2[i]? = some (x, s) → s = .un := fun {Γ2} hu al i hi x s e => by
    obtain ⟨p, hp, rfl⟩ := List.mem_map.mp hi
    have hx : X.N[p.2]? = some x := by rw [al, List.getElem?_map, e] <;> rfl
    have hx2 := ok.ix p hp
    rw [hx2] at hx
    cases hx
    obtain ⟨j, ej⟩ := hu p.1 (List.mem_map.mpr ⟨p, hp, rfl⟩)
    have hj : X.N[j]? = some p.1 := by rw [al, List.getElem?_map, ej] <;> rfl
    have hij := nodup_ix hN hx2 hj
    rw [← hij, e] at ej
    cases ej
    rfl
  obtain ⟨Eb, ob⟩ := Envs.forget hfg E1
  obtain ⟨Ew, ow⟩ := Eb.wiped (idx hfg.un Eb.al)
  have hDF : F1 Dl = none := ex_none E1.ex hD
  have hDO : ¬ Ow (wipe σ (own.map (·.2))) Γb Dl := Ew.fresh hD
  refine dc_it (n := ds.length) (Gd := fun H => Ex F1 H) (Y := fun i H x H' => J.yld i H x H') ⟨fun i H hi g => wk.goes i H hi g, fun H g => wk.stops H g, fun i H x H' hi g y => y⟩
    (fun i H' => ∃ (F' : Hp) (gs : List (Str × V)), Envs G X.N F' H' (wipe σ (own.map (·.2))) Γb ∧ H' Dl = some (.dK (dks gs)) ∧ F' Dl = none ∧ repf G F' ((ds.take i).foldl (fun acc d => putQ acc (gk d) (g d)) []) gs ∧ gs.length ≤ i ∧
      Step (Ow (wipe σ (own.map (·.2))) Γb) F1 H1 F' H') ?_ ?_ ?_ ?_
  · exact ⟨F1, [], Ew.step (Step.lay0 E1.ex hD), upd_same, hDF, repf_nil, Nat.le_refl _, (Step.lay0 (O := No) E1.ex hD).mono fun _ z => z.elim⟩
  · rintro i H' _ ⟨F', gs, E2, _, _, _, _, st⟩
    exact st.ex.trans E2.ex
  · rintro i x H' H'' hi ⟨F', gs, E2, hDl, hDf, hr, hgl, st⟩ hy
    obtain ⟨d, F2, hd, st2, rx⟩ := wk.yields i F' H' x H'' st.ex E2.ex hi hy
    obtain ⟨ps, Γ3, htg, hps, hput, hW⟩ := hturn d (List.mem_of_getElem? hd)
    have E3 := E2.step st2
    have kD : H'' Dl = some (.dK (dks gs)) := st2.keep Dl _ (fun z => z) hDl
    have nfD : ∀ {O : Addr → Prop} {Fa Ha Fb Hb : Hp}, Step O Fa Ha Fb Hb → ¬ O Dl → Fa Dl = none → Ha Dl = some (.dK (dks gs)) → Fb Dl = none := fun {O Fa Ha Fb Hb} st hn h1 h2 => by
      cases z : Fb Dl with
      | none => rfl
      | some u =>
        rcases st.new Dl u z with y | y | y
        · rw [h1] at y; cases y
        · rw [h2] at y; cases y
        · exact absurd y hn
    have fD : F2 Dl = none := nfD st2 (fun z => z) hDf hDl
    intro sb Hb Cb clb fpb
    refine tgt_run (X := X.blk sb Hb scope (compEnvC scope clb Cb X.env) fpb) hK (by rw [hps]; exact hg sb Hb Cb clb fpb) E3 htg hput rx fun σ2 E4 o4 hw => ?_
    have hw2 : wipe σ2 (own.map (·.2)) = wipe σ (own.map (·.2)) := by
      rw [hw (own.map (·.2)) (fun x hx i hi => ?_), wipe_wipe]
      rw [hps] at hx
      obtain ⟨p, hp, rfl⟩ := List.mem_map.mp hx
      have := nodup_ix hN (ok.ix p hp) hi
      exact this ▸ List.mem_map.mpr ⟨p, hp, rfl⟩
    refine ⟨hw2, ?_⟩
    have O4 : ∀ a, Ow σ2 Γ3 a → Ow (wipe σ (own.map (·.2))) Γb a := fun a z => o4 a z
    have st3 : Step (Ow (wipe σ (own.map (·.2))) Γb) F1 H1 F2 H'' := st.trans st2 fun _ z => z.elim
    unfold tYes
    dsimp only
    rw [if_pos rfl]
    intro sk Hk Ck clk fpk
    refine hW sk Hk Ck clk fpk σ2 F2 H'' _ E4 fun zk Γ4 vk F4 H4 s4 E5 o5 rzk kk => ?_
    obtain ⟨rfl, hV⟩ := kk
    have O5 : ∀ a, Ow σ2 Γ4 a → Ow (wipe σ (own.map (·.2))) Γb a := fun a z => O4 a (o5 a z)
    have kD4 : H4 Dl = some (.dK (dks gs)) := s4.keep Dl _ (fun z => hDO (O4 _ z)) kD
    have fD4 : F4 Dl = none := nfD s4 (fun z => hDO (O4 _ z)) fD kD
    have st4 : Step (Ow (wipe σ (own.map (·.2))) Γb) F1 H1 F4 H4 := st3.trans s4 fun a z => .inl (O4 a z)
    intro sv Hv Cv clv fpv
    refine hV sv Hv Cv clv fpv σ2 F4 H4 _ E5 fun zv Γ5 vv F5 H5 s5 E6 o6 rzv kv => ?_
    obtain ⟨rfl, hf5⟩ := kv
    have O6 : ∀ a, Ow σ2 Γ5 a → Ow (wipe σ (own.map (·.2))) Γb a := fun a z => O5 a (o6 a z)
    have kD5 : H5 Dl = some (.dK (dks gs)) := s5.keep Dl _ (fun z => hDO (O5 _ z)) kD4
    have fD5 : F5 Dl = none := nfD s5 (fun z => hDO (O5 _ z)) fD4 kD4
    have st5 : Step (Ow (wipe σ (own.map (·.2))) Γb) F1 H1 F5 H5 := st4.trans s5 fun a z => .inl (O5 a z)
    have hgl2 : (dks gs).length < sizeLine := by
      have e1 : (dks gs).length = gs.length := by unfold dks; rw [List.length_map]
      rw [e1]
      exact Nat.lt_of_le_of_lt (show gs.length ≤ 100000 by omega) (by decide)
    refine ⟨dks gs, .inr (gk d), rep_str rzk, kD5, hgl2, ?_⟩
    have E7 : Envs G X.N F5 (upd H5 Dl (.dK (putK (dks gs) (.inr (gk d)) vv))) σ2 Γ5 := E6.move (Ex.refl F5) (fun a u z => by rw [upd_ne (ne_of_none z fD5)]; exact E6.ex a u z) (fun a u o z => by
      have ha : a ≠ Dl := fun za => hDO (by rw [← za]; exact O6 a o)
      rw [upd_ne ha]; exact z) (fun a o => (E6.owF o).1)
    obtain ⟨E8, o8⟩ := Envs.forget hf5 E7
    obtain ⟨E9, o9⟩ := E8.wiped (idx hf5.un E8.al)
    rw [hw2] at E9 o9
    have r5 : repf G F5 ((ds.take i).foldl (fun acc d => putQ acc (gk d) (g d)) []) gs := repf_mono (st2.ex.trans (s4.ex.trans s5.ex)) _ _ hr
    refine ⟨F5, putQ gs (gk d) vv, E9, by rw [putK_dks]; exact upd_same, fD5, ?_, Nat.le_trans (putQ_len _ _ _) (by omega), st5.grow hD fD5⟩
    have et : ds.take (i + 1) = ds.take i ++ [d] := by rw [List.take_succ, hd] <;> rfl
    rw [et, List.foldl_append]
    exact repf_putQ rzv r5
  · rintro H' ⟨F', gs, E2, hDl, hDf, hr, hgl, st⟩
    obtain ⟨E3, o3⟩ := E2.unwiped (idx hfg.un E2.al)
    have O3 : ∀ a, Ow σ Γb a → Ow σ Γ a := fun a z => o1 a (ob a z)
    have stF : Step (Ow σ Γ) F H F' H' := s1.trans (st.mono fun a z => ob a (ow a z)) fun a z => .inl (o1 a z)
    have hH := s1.back hD
    refine ⟨Dl, dks gs, rfl, hDl, fun od => ?_⟩
    rw [List.take_length] at hr
    have hx : Ex F' (upd F' Dl (.frz od (.dK (dks gs)))) := Ex.new hDf
    refine q _ Γb (.ref Dl) (upd F' Dl (.frz od (.dK (dks gs)))) (upd H' Dl (.frz od (.dK (dks gs)))) ⟨stF.ex.trans hx, fun a u z => ?_, fun a u n z => ?_, fun a u z => ?_, fun a z => ?_⟩ ?_ O3 (r_dic upd_same (repf_mono hx _ _ hr)) hend
    · by_cases ha : a = Dl
      · subst ha; rw [upd_same] at z ⊢; exact z
      · rw [upd_ne ha] at z ⊢; exact stF.sub a u z
    · rw [upd_ne (ne_of_none z hH)]; exact stF.keep a u n z
    · by_cases ha : a = Dl
      · subst ha; exact .inr (.inl hH)
      · rw [upd_ne ha] at z; exact stF.new a u z
    · by_cases ha : a = Dl
      · subst ha; rw [upd_same]; simp
      · rw [upd_ne ha]; exact stF.dom a z
    · refine E3.move hx (fun a u z => ?_) (fun a u o z => ?_) fun a o => ?_
      · by_cases ha : a = Dl
        · subst ha; rw [upd_same] at z ⊢; exact z
        · rw [upd_ne ha] at z ⊢; exact E3.ex a u z
      · have ha : a ≠ Dl := fun za => E.fresh hH (O3 _ (za ▸ o))
        rw [upd_ne ha]; exact z
      · have ha : a ≠ Dl := fun za => E.fresh hH (O3 _ (za ▸ o))
        rw [upd_ne ha]; exact (E3.owF o).1
end
end Dv

set_option Elab.async false
set_option maxRecDepth 100000
set_option maxHeartbeats 4000000
namespace Dv
open PySem PySem.Spec PyProof.Rows L2
open Evl (Ex ex_l ex_t)
section
variable {G : Gc} {F : Hp}
theorem repf_keys : ∀ {fs : List (Str × D)} {gs : List (Str × V)}, repf G F fs gs → fs.map (·.1) = gs.map (·.1)
  | [], gs, h => by rw [repf_nil_inv h] <;> rfl
  | (x, d) :: fs, gs, h => by
    obtain ⟨v, t, rfl, h1, h2⟩ := repf_cons_inv h
    rw [List.map_cons, List.map_cons, repf_keys h2]
theorem repf_some {k : Str} : ∀ {fs : List (Str × D)} {gs : List (Str × V)}, repf G F fs gs → (gs.lookup k).isSome = (fs.lookup k).isSome := fun {fs gs} h => by
  cases q : fs.lookup k with
  | none => rw [repf_none h q] <;> rfl
  | some d =>
    obtain ⟨v, hv, _⟩ := repf_look h q
    rw [hv] <;> rfl
theorem dks_len (gs : List (Str × V)) : (dks gs).length = gs.length := by unfold dks; rw [List.length_map]
end
section
variable {X : Cx} {G : Gc} {Γ : En} {tg e f a b o : Expr} {es : List Expr} {pos apos cpos : Pos} {K : D → En → Prop}
/-- for k in d -/
theorem wi_dic {KI : List D → En → Prop} (h : WE X G Γ e fun d Γ1 => ∃ fs, d = .dic fs ∧ KI (fs.map fun p => .str p.1) Γ1) : WI X G Γ tg e KI := .of fun σ F H R E q => by
  refine PI.si (pi_keys pe_S) ?_
  refine h σ F H _ E fun d Γ1 v F1 H1 s1 E1 o1 r1 k1 => ?_
  obtain ⟨fs, rfl, k⟩ := k1
  obtain ⟨a, o, gs, rfl, hd, rf⟩ := rep_dic r1
  have hl := repf_len rf
  have hl2 := dks_len gs
  have hl3 : (fs.map fun p => D.str p.1).length = fs.length := List.length_map ..
  have w := walk_keys (d := a) (o := o) (kvs := dks gs)
  refine ⟨a, o, rfl, .inl ⟨_, E1.ex _ _ hd, q _ Γ1 _ F1 H1 s1 E1 o1 ⟨fun i H hi e => w.goes i H (by omega) (e _ _ hd), fun H e => ?_, fun i F H x H' e1 e2 hi y => ?_⟩ k⟩⟩
  · have z := w.stops H (e _ _ hd)
    rw [hl2, hl] at z
    rw [hl3]
    exact z
  · obtain ⟨rfl, kk, v, hkv, rfl⟩ := w.yields i H x H' (by omega) (e2 _ _ (e1 _ _ hd)) y
    unfold dks at hkv
    rw [List.getElem?_map] at hkv
    cases hg : gs[i]? with
    | none => rw [hg] at hkv; cases hkv
    | some p =>
      rw [hg] at hkv
      cases hkv
      refine ⟨.str p.1, F, ?_, .refl e2, r_str⟩
      have hk : (fs.map (·.1))[i]? = some p.1 := by rw [repf_keys rf, List.getElem?_map, hg] <;> rfl
      rw [List.getElem?_map] at hk ⊢
      cases hf : fs[i]? with
      | none => rw [hf] at hk; cases hk
      | some z =>
        rw [hf] at hk
        have hk := Option.some.inj hk
        show some (D.str z.1) = some (D.str p.1)
        rw [show z.1 = p.1 from hk]
/-- d[k], there -/
theorem we_dix (hu : X.A.units + 1 < cLine) (h : WE X G Γ a fun x Γ1 => WE X G Γ1 b fun y Γ2 => ∃ fs k z, x = .dic fs ∧ y = .str k ∧ fs.lookup k = some z ∧ K z Γ2) (hs : NoSl b := by exact fun _ _ => rfl) : WE X G Γ (.Subscript a b pos) K := .of fun σ F H Q E q => by
  refine PE.se (pe_dget hu pe_S pe_S hs) ?_
  refine h σ F H _ E fun x Γ1 u F1 H1 s1 E1 o1 r1 k1 => ?_
  refine k1 σ F1 H1 _ E1 fun y Γ2 v F2 H2 s2 E2 o2 r2 k2 => ?_
  obtain ⟨fs, k, z, rfl, rfl, hl, k3⟩ := k2
  obtain ⟨p, o, gs, rfl, hd, rf⟩ := rep_dic (rep_mono s2.ex _ _ r1)
  obtain ⟨w, hw, rw'⟩ := repf_look rf hl
  rw [rep_str r2]
  refine ⟨p, w, rfl, .inl ⟨dks gs, .inr k, .inr ⟨o, E2.ex _ _ hd⟩, rfl, by rw [valV_dks]; exact hw.symm⟩, ?_⟩
  exact q z Γ2 w F2 H2 (stp s1 o1 s2) E2 (fun a h => o1 a (o2 a h)) rw' k3
/-- d.get(k, x) -/
theorem we_dget (hu : X.A.units + 1 < cLine) (h : WE X G Γ o fun d Γ1 => ∃ fs, d = .dic fs ∧ WE X G Γ1 e fun y Γ2 => ∃ k, y = .str k ∧ WE X G Γ2 f fun z Γ3 => K ((fs.lookup k).getD z) Γ3) (m : M2 X o "get" apos e f cpos := by exact ⟨rfl, rfl, rfl, rfl⟩) : WE X G Γ (.Call (.Attribute o "get" apos) [e, f] [] cpos) K := .of fun σ F H Q E q => by
  refine PE.se (pe_dget2 hu pe_S pe_S pe_S m) ?_
  refine h σ F H _ E fun d Γ1 v F1 H1 s1 E1 o1 r1 k1 => ?_
  obtain ⟨fs, rfl, k1⟩ := k1
  obtain ⟨p, ob, gs, rfl, hd, rf⟩ := rep_dic r1
  refine ⟨p, rfl, .inl ⟨_, .inr ⟨ob, E1.ex _ _ hd⟩⟩, ?_⟩
  refine k1 σ F1 H1 _ E1 fun y Γ2 u F2 H2 s2 E2 o2 r2 k2 => ?_
  obtain ⟨k, rfl, k2⟩ := k2
  rw [rep_str r2]
  refine k2 σ F2 H2 _ E2 fun z Γ3 w F3 H3 s3 E3 o3 r3 k3 => ?_
  have rf3 := repf_mono (s2.ex.trans s3.ex) _ _ rf
  refine ⟨_, .inl ⟨dks gs, .inr k, .inr ⟨ob, E3.ex _ _ (s3.ex _ _ (s2.ex _ _ hd))⟩, rfl, rfl⟩, ?_⟩
  refine q _ Γ3 _ F3 H3 (stp (stp s1 o1 s2) (fun a h => o1 a (o2 a h)) s3) E3 (fun a h => o1 a (o2 a (o3 a h))) ?_ k3
  rw [valV_dks]
  cases c : fs.lookup k with
  | none => rw [repf_none rf3 c]; exact r3
  | some d =>
    obtain ⟨g, hg, rg⟩ := repf_look rf3 c
    rw [hg]
    exact rg
theorem bo_inDic {k : Str} {fs : List (Str × D)} {K : D → Prop} (hu : X.A.units + 1 < cLine) (kk : K (.bl (fs.lookup k).isSome)) : BO X G (compareOp .In) (.str k) (.dic fs) K := .of fun F H u v Q e r1 r2 q pins s σ uu vv I ru rv => by
  rw [rep_str r1] at ru
  obtain ⟨p, o, gs, rfl, hd, rf⟩ := rep_dic r2
  obtain rfl : vv = Value.ref p := rv
  refine d_in hu I (.inl ⟨dks gs, .inr k, .inr ⟨o, e _ _ hd⟩, rfl, rfl⟩) ru fun s' I' => ⟨.bl _, H, I', rfl, ?_⟩
  rw [valV_dks, repf_some rf]
  exact q _ _ F H (.refl e) r_bl kk
theorem bo_notInDic {k : Str} {fs : List (Str × D)} {K : D → Prop} (hu : X.A.units + 1 < cLine) (kk : K (.bl (!(fs.lookup k).isSome))) : BO X G (compareOp .NotIn) (.str k) (.dic fs) K := .of fun F H u v Q e r1 r2 q pins s σ uu vv I ru rv => by
  rw [rep_str r1] at ru
  obtain ⟨p, o, gs, rfl, hd, rf⟩ := rep_dic r2
  obtain rfl : vv = Value.ref p := rv
  refine d_notIn hu I (.inl ⟨dks gs, .inr k, .inr ⟨o, e _ _ hd⟩, rfl, rfl⟩) ru fun s' I' => ⟨.bl _, H, I', rfl, ?_⟩
  rw [valV_dks, repf_some rf]
  exact q _ _ F H (.refl e) r_bl kk

/-! ### count -/
theorem cnt_eqU {x : V} : ∀ {xs : List V} {us : List Value}, Vals xs us → xs.all flatV = true → us.countP (eqU x) = xs.countP fun y => eqV y x
  | _, _, .nil, _ => rfl
  | y :: xs, u :: us, .cons r t, f => by
    rw [List.all_cons, Bool.and_eq_true] at f
    rw [List.countP_cons, List.countP_cons, eqU_of r f.1, cnt_eqU t f.2]
theorem cnt_strs (k : Str) : ∀ xs : List Str, (xs.map V.str).countP (fun y => eqV y (.str k)) = xs.count k
  | [] => rfl
  | x :: r => by
    rw [List.map_cons, List.countP_cons, List.count_cons, cnt_strs k r]
    rfl
theorem flat_strs : ∀ xs : List Str, (xs.map V.str).all flatV = true
  | [] => rfl
  | x :: r => by
    rw [List.map_cons, List.all_cons, flat_strs r] <;> rfl
theorem mt_lcountV : MtR X "list.count" (fun x xs H Q => ∃ p ys k, x = .ref p ∧ xs = [k] ∧ SqL X.K H p ys ∧ flatV k = true ∧ ys.all flatV = true ∧ Q (.int ((ys.countP fun y => eqV y k : Nat) : Int)) H) := by
  intro pins s σ H x xs v us Q I rx rxs h
  obtain ⟨p, ys, k, rfl, rfl, hs, fk, fy, q⟩ := h
  cases rx
  obtain ⟨u, rfl, ru⟩ := rxs.one
  obtain ⟨its, rv, ⟨⟨cls, dd, data, sl⟩, n, ho, hc, hdn, hd⟩, hlen⟩ := I.list hs
  simp only at hc hd
  subst hc hd
  refine call_meets PySem.F.slot_list_count ⟨_, ho, rfl⟩ PySem.F.entry_list_count (PySem.F.args_list_count_2 _ _)
    (SeqAt.list_countAt p its.toArray n dd sl u (eqU k)) ⟨ho, fun y hy => mem_eqAt ru fk rv fy y (by simpa using hy), ?_⟩
  refine ⟨.int _, H, I.tok _, ⟨s.toks, ?_⟩, q⟩
  rw [show its.toArray.toList.countP (eqU k) = its.countP (eqU k) by simp, cnt_eqU rv fy]
theorem mt_tcountV : MtR X "tuple.count" (fun x xs H Q => ∃ p ys k, x = .ref p ∧ xs = [k] ∧ SqT X.K H p ys ∧ flatV k = true ∧ ys.all flatV = true ∧ Q (.int ((ys.countP fun y => eqV y k : Nat) : Int)) H) := by
  intro pins s σ H x xs v us Q I rx rxs h
  obtain ⟨p, ys, k, rfl, rfl, hs, fk, fy, q⟩ := h
  cases rx
  obtain ⟨u, rfl, ru⟩ := rxs.one
  obtain ⟨its, rv, ⟨⟨cls, dd, data, sl⟩, ho, hc, n, hd⟩, hlen⟩ := I.tuple hs
  simp only at hc hd
  subst hc hd
  refine call_meets PySem.F.slot_tuple_count ⟨_, ho, rfl⟩ PySem.F.entry_tuple_count (PySem.F.args_tuple_count_2 _ _)
    (SeqAt.tuple_countAt p its.toArray n dd sl u (eqU k)) ⟨ho, fun y hy => mem_eqAt ru fk rv fy y (by simpa using hy), ?_⟩
  refine ⟨.int _, H, I.tok _, ⟨s.toks, ?_⟩, q⟩
  rw [show its.toArray.toList.countP (eqU k) = its.countP (eqU k) by simp, cnt_eqU rv fy]
def tCnt (K : PySem.W.Frag) (to : TE) (t : TA) : TE := fun σ H Q => to σ H fun x H1 =>
  (∃ p xs, x = .ref p ∧ SqL K H1 p xs ∧ t σ H1 fun vs H2 => ∃ ys k, vs = [k] ∧ SqL K H2 p ys ∧ flatV k = true ∧ ys.all flatV = true ∧ Q (.int ((ys.countP fun y => eqV y k : Nat) : Int)) H2) ∨
  (∃ p ob xs, x = .ref p ∧ H1 p = some (.frz ob (.tup xs)) ∧ ob.dict = none ∧ t σ H1 fun vs H2 => ∃ ys k, vs = [k] ∧ SqT K H2 p ys ∧ flatV k = true ∧ ys.all flatV = true ∧ Q (.int ((ys.countP fun y => eqV y k : Nat) : Int)) H2)
theorem pe_count {to : TE} {t : TA} (ho : PE X o to) (ha : PA X (e :: es) t)
    (hbase : attributeBase o "count" X.env (eval o X.env) = eval o X.env := by rfl)
    (hfew : ((backTo cpos (starEach (e :: es) X.env)).all (fun x => !x.1) && (backToKw cpos (keywordEach [] X.env)).all (fun x => x.1.isSome)
      && decide ((e :: es).length + ([] : List Keyword).length + (if ([] : List Keyword).isEmpty then 0 else 1) < 30)) = true := by rfl)
    (hline : (apos.endLine == cpos.line) = true := by rfl) (hs : starEach (e :: es) X.env = (false, eval e X.env) :: starEach es X.env := by rfl) (hplain : (backTo cpos (starEach es X.env)).any (·.1) = false := by rfl) :
    PE X (.Call (.Attribute o "count" apos) (e :: es) [] cpos) (tCnt X.K to t) := by
  refine ⟨fun pins s σ H Q I h => ?_⟩
  refine wpAny_Call_method_late hbase hfew hline rfl (thn (ho.run pins s σ H _ I h) fun v s1 ⟨x, H1, I1, r1, q1⟩ => ?_)
  rcases q1 with ⟨p, xs, rfl, hq, q1⟩ | ⟨p, ob, xs, rfl, hq, hd, q1⟩
  · cases r1
    obtain ⟨its, _, pl, _⟩ := I1.list hq
    refine ⟨"list", _, PySem.F.plainAttrs_list, PySem.F.slot_list_count, PySem.F.type_list_count, pl.isList.typeIs, fun a e => ?_, ?_⟩
    · cases e
      obtain ⟨o, n, e, c, hd, _⟩ := pl
      exact ⟨o, e, hd⟩
    have hA := ha.run cpos pins s1 σ H1 _ I1 q1
    rw [hs] at hA ⊢
    refine Calls.callWith_builtin (by show (false || (backTo cpos (starEach es X.env)).any (·.1)) = false; rw [hplain] <;> rfl) (Calls.evalArgs_plain ?_)
    exact thn hA fun us s2 ⟨vs, H2, I2, r2, ys, k, e, hs2, fk, fy, q2⟩ => mt_lcountV pins s2 σ H2 (.ref p) vs (.ref p) us Q I2 rfl r2 ⟨p, ys, k, rfl, e, hs2, fk, fy, q2⟩
  · cases r1
    obtain ⟨hg, _, its, _, ot, hot, hc, _⟩ := I1.hok p _ hq
    rw [hg] at hot
    cases hot
    refine ⟨"tuple", _, PySem.F.plainAttrs_tuple, PySem.F.slot_tuple_count, PySem.F.type_tuple_count, ⟨_, hg, hc⟩, fun a e => ?_, ?_⟩
    · cases e
      exact ⟨_, hg, hd⟩
    have hA := ha.run cpos pins s1 σ H1 _ I1 q1
    rw [hs] at hA ⊢
    refine Calls.callWith_builtin (by show (false || (backTo cpos (starEach es X.env)).any (·.1)) = false; rw [hplain] <;> rfl) (Calls.evalArgs_plain ?_)
    exact thn hA fun us s2 ⟨vs, H2, I2, r2, ys, k, e, hs2, fk, fy, q2⟩ => mt_tcountV pins s2 σ H2 (.ref p) vs (.ref p) us Q I2 rfl r2 ⟨p, ys, k, rfl, e, hs2, fk, fy, q2⟩
theorem we_count (hK : G.K = X.K) (h : WE X G Γ o fun d Γ1 => ∃ xs : List Str, (d = .lst (xs.map .str) ∨ d = .ptup (xs.map .str)) ∧ WA X G Γ1 [e] fun ds Γ2 => ∃ k, ds = [.str k] ∧ K (.int (xs.count k : Nat)) Γ2)
    (hbase : attributeBase o "count" X.env (eval o X.env) = eval o X.env := by rfl)
    (hfew : ((backTo cpos (starEach [e] X.env)).all (fun x => !x.1) && (backToKw cpos (keywordEach [] X.env)).all (fun x => x.1.isSome)
      && decide (([e] : List Expr).length + ([] : List Keyword).length + (if ([] : List Keyword).isEmpty then 0 else 1) < 30)) = true := by rfl)
    (hline : (apos.endLine == cpos.line) = true := by rfl) (hs : starEach [e] X.env = (false, eval e X.env) :: starEach [] X.env := by rfl) (hplain : (backTo cpos (starEach [] X.env)).any (·.1) = false := by rfl) :
    WE X G Γ (.Call (.Attribute o "count" apos) [e] [] cpos) K := .of fun σ F H Q E q => by
  refine PE.se (pe_count pe_S pa_S hbase hfew hline hs hplain) ?_
  refine h σ F H _ E fun d Γ1 v F1 H1 s1 E1 o1 r1 k1 => ?_
  obtain ⟨xs, hd, k1⟩ := k1
  rcases hd with rfl | rfl
  · obtain ⟨a, us, rfl, hs, ru⟩ := rep_lst r1
    rw [hK] at hs
    obtain rfl := reps_strs ru
    refine .inl ⟨a, _, rfl, ex_l E1.ex hs, ?_⟩
    refine k1 σ F1 H1 _ E1 fun ds Γ2 vs F2 H2 s2 E2 o2 r2 k2 => ?_
    obtain ⟨k, rfl, k3⟩ := k2
    obtain ⟨w, rfl, rw'⟩ := reps1 r2
    rw [rep_str rw']
    refine ⟨_, _, rfl, ex_l E2.ex (ex_l s2.ex hs), rfl, flat_strs xs, ?_⟩
    rw [cnt_strs]
    exact q _ Γ2 _ F2 H2 (stp s1 o1 s2) E2 (fun a h => o1 a (o2 a h)) r_int k3
  · obtain ⟨a, ob, us, rfl, ha, hdn, ru⟩ := rep_ptup r1
    obtain rfl := reps_strs ru
    refine .inr ⟨a, ob, _, rfl, E1.ex _ _ ha, hdn, ?_⟩
    refine k1 σ F1 H1 _ E1 fun ds Γ2 vs F2 H2 s2 E2 o2 r2 k2 => ?_
    obtain ⟨k, rfl, k3⟩ := k2
    obtain ⟨w, rfl, rw'⟩ := reps1 r2
    rw [rep_str rw']
    refine ⟨_, _, rfl, .inl (.inr ⟨ob, E2.ex _ _ (s2.ex _ _ ha)⟩), rfl, flat_strs xs, ?_⟩
    rw [cnt_strs]
    exact q _ Γ2 _ F2 H2 (stp s1 o1 s2) E2 (fun a h => o1 a (o2 a h)) r_int k3

/-! ### a part of a tuple, its object known -/
def rSlP (K : PySem.W.Frag) : V → Option Int → Option Int → Hp → VK → Prop := fun x lo hi H Q => ∃ a xs, x = .ref a ∧ SqT K H a xs ∧ ¬ (HT.sIx xs.length 0 lo = 0 ∧ HT.sIx xs.length xs.length hi = xs.length) ∧ ∀ p ob, H p = none → ob.dict = none → Q (.ref p) (upd H p (.frz ob (.tup (cutV xs lo hi))))
theorem sl_tupP : SlR X (rSlP X.K) := by
  intro pins s σ H x v vl vu lo hi sl Q I rx hs pl pu h
  obtain ⟨a, xs, rfl, hx, hw, q⟩ := h
  cases rx
  obtain ⟨its, r, ht, hz⟩ := I.tuple hx
  have hlen : its.toArray.size = xs.length := by rw [List.size_toArray]; exact r.length.symm
  refine ⟨"tuple", _, PyProof.Rows.slot_tuple_getitem.lookup, ht.typeIs, ?_⟩
  refine HT.getItem_tuple_cut ht hs pl pu (by rw [hlen]; exact hw) ?_ (by rw [hlen]; exact hz)
  rw [hlen]
  let ob : Obj := { cls := .type "tuple", data := .seq ((its.drop (HT.sIx xs.length 0 lo)).take (HT.sIx xs.length xs.length hi - HT.sIx xs.length 0 lo)).toArray }
  have hnew : ObjOk X.prog X.w (upd H s.heap.objs.size (.frz ob (.tup (cutV xs lo hi)))) (s.heap.push ob) s.heap.objs.size (.frz ob (.tup (cutV xs lo hi))) :=
    ⟨Heap.get?_push_size _ rfl, Nat.le_trans (cutV_length xs lo hi) hz, _, (r.drop (HT.sIx xs.length 0 lo)).take (HT.sIx xs.length xs.length hi - HT.sIx xs.length 0 lo), IsTup.new _ _⟩
  exact ⟨.ref s.heap.objs.size, _, I.laid (t' := s.toks) (o := .frz ob (.tup (cutV xs lo hi))) (fun b ob q => Heap.get?_push_of_some _ q) (Nat.le_refl _) hnew, rfl, q _ ob (I.hok.fresh (Nat.le_refl _)) rfl⟩
end
end Dv

set_option Elab.async false
set_option maxRecDepth 100000
set_option maxHeartbeats 4000000
namespace Dv
open PySem PySem.Spec PyProof.Rows L2
open Evl (Ex ex_l ex_t)
section
variable {X : Cx} {G : Gc} {Γ : En} {tg e f a b o : Expr} {es : List Expr} {p p2 pos apos cpos tpos : Pos} {K : D → En → Prop} {KD : D → Prop}
theorem we_sliceP {lo hi : Option Expr} (hK : G.K = X.K) (h : WE X G Γ e fun d Γ1 => ∃ xs, d = .tup xs ∧ Bd X G Γ1 lo fun l Γ2 => Bd X G Γ2 hi fun u Γ3 => ¬ (HT.sIx xs.length 0 l = 0 ∧ HT.sIx xs.length xs.length u = xs.length) ∧ K (.ptup (cutD xs l u)) Γ3) : WE X G Γ (.Subscript e (.Slice lo hi none p2) pos) K := .of fun σ F H Q E q => by
  refine PE.se (pe_slice sl_tupP pe_S po_S po_S) ?_
  refine h σ F H _ E fun d Γ1 v F1 H1 s1 E1 o1 r1 k1 => ?_
  obtain ⟨xs, rfl, k1⟩ := k1
  refine k1.run E1 fun l Γ2 F2 H2 s2 E2 o2 k2 => ?_
  refine k2.run E2 fun u Γ3 F3 H3 s3 E3 o3 k3 => ?_
  obtain ⟨a, us, rfl, hs, ru⟩ := rep_tup (rep_mono (s2.ex.trans s3.ex) _ _ r1)
  rw [hK] at hs
  have s23 := stp (stp s1 o1 s2) (fun a h => o1 a (o2 a h)) s3
  have hl := reps_len ru
  refine ⟨a, us, rfl, ex_t E3.ex hs, by rw [hl]; exact k3.1, fun p ob hp hd => ?_⟩
  have st : Step No F3 H3 (upd F3 p (.frz ob (.tup (cutV us l u)))) (upd H3 p (.frz ob (.tup (cutV us l u)))) := Step.lay E3.ex hp
  exact q _ Γ3 _ _ _ (stpN s23 st) (E3.step st) (fun a h => o1 a (o2 a (o3 a h))) (r_ptup upd_same hd (reps_mono st.ex _ _ (cut_reps ru))) k3.2
theorem wi_ptup {KI : List D → En → Prop} (h : WE X G Γ e fun d Γ1 => ∃ ds, d = .ptup ds ∧ KI ds Γ1) : WI X G Γ tg e KI := .of fun σ F H R E q => by
  refine PI.si (pi_tup pe_S) ?_
  refine h σ F H _ E fun d Γ1 v F1 H1 s1 E1 o1 r1 k1 => ?_
  obtain ⟨ds, rfl, k⟩ := k1
  obtain ⟨a, ob, vs, rfl, ha, hd, r⟩ := rep_ptup r1
  have hs : SqT X.K F1 a vs := .inl (.inr ⟨ob, ha⟩)
  exact ⟨a, rfl, ⟨vs, ex_t E1.ex hs⟩, q ds Γ1 _ F1 H1 s1 E1 o1 (wlk_at walk_tup (fun H e => ex_t e hs) r) k⟩

/-! ### any, sum, min, max -/
theorem reps_ints {F : Hp} : ∀ {xs : List Int} {vs : List V}, reps G F (xs.map .int) vs → vs = xs.map .int
  | [], vs, h => reps_nil_inv h
  | x :: r, vs, h => by
    obtain ⟨v, t, rfl, h1, h2⟩ := reps_cons_inv h
    rw [rep_int h1, reps_ints h2] <;> rfl
theorem cd_any {bs : List Bool} (hK : G.K = X.K) (hc : X.calm = true) (k : KD (.bl (bs.any _root_.id))) : CD X G (.builtin "any") [.lst (bs.map .bl)] KD := .of fun F H vs Q e r q => by
  obtain ⟨v, rfl, r1⟩ := reps1 r
  obtain ⟨a, us, rfl, hs, ru⟩ := rep_lst r1
  rw [hK] at hs
  rw [reps_bls ru] at hs
  exact CallR.sc (cr_any hc) ⟨a, bs, rfl, ex_l e hs, q _ _ F H (.refl e) r_bl k⟩
theorem cd_sum {ns : List Int} (hK : G.K = X.K) (hc : X.calm = true) (k : KD (.int ns.sum)) : CD X G (.builtin "sum") [.lst (ns.map .int)] KD := .of fun F H vs Q e r q => by
  obtain ⟨v, rfl, r1⟩ := reps1 r
  obtain ⟨a, us, rfl, hs, ru⟩ := rep_lst r1
  rw [hK] at hs
  rw [reps_ints ru] at hs
  exact CallR.sc (cr_sum hc) ⟨a, ns, rfl, ex_l e hs, q _ _ F H (.refl e) r_int k⟩
theorem cd_min2 {i j : Int} (hc : X.calm = true) (k : KD (.int (if j < i then j else i))) : CD X G (.builtin "min") [.int i, .int j] KD := .of fun F H vs Q e r q => by
  obtain ⟨v, w, rfl, r1, r2⟩ := reps2 r
  rw [rep_int r1, rep_int r2]
  exact CallR.sc (call_min2 hc) ⟨i, j, rfl, q _ _ F H (.refl e) r_int k⟩
theorem cd_max2 {i j : Int} (hc : X.calm = true) (k : KD (.int (if j > i then j else i))) : CD X G (.builtin "max") [.int i, .int j] KD := .of fun F H vs Q e r q => by
  obtain ⟨v, w, rfl, r1, r2⟩ := reps2 r
  rw [rep_int r1, rep_int r2]
  exact CallR.sc (call_max2 hc) ⟨i, j, rfl, q _ _ F H (.refl e) r_int k⟩

/-! ### an own list compared -/
theorem wt_cmpOwn {op : CmpOp} {x : Str} {pn : Pos} {s : Sl} {cs : List D} {KT : Bool → En → Prop} (hN : X.N.Nodup) (h0 : Lk Γ x s) (l0 : Lend s (.lst cs) (.lst cs) s)
    (h : WE X G Γ b fun y Γ2 => Γ2 = Γ ∧ BO X G (compareOp op) (.lst cs) y fun z => ∃ c, z = .bl c ∧ KT c Γ)
    (hv : Vis X.env.scope x := by first | exact Or.inl rfl | exact Or.inr (Or.inl rfl) | exact Or.inr (Or.inr rfl)) (hd : (x == ("__debug__" : Str)) = false := by decide) (hcd : (x == ("__classdict__" : Str)) = false := by decide)
    (hm : behindInMarks op b = false := by first | exact nomark _ | with_unfolding_all rfl) : WT X G Γ (.Compare (.Name x pn) [op] [b] pos) KT := .of fun σ F H Q E q => by
  obtain ⟨i, p, hi, _, hp, hf, vs, hvs, rv⟩ := own_at E h0 l0
  refine PT.st (pt_cmpR op_S (pe_var hi hv hd hcd) pe_S hm) ?_
  refine ⟨.ref p, hp, ?_⟩
  refine h σ F H _ E fun y Γ2 v F2 H2 s2 E2 o2 r2 k2 => ?_
  obtain ⟨rfl, k2⟩ := k2
  obtain ⟨_, hf2, vs2, hvs2, rv2⟩ := own_at2 hN E2 h0 l0 hi hp
  have hx : Ex F2 (upd F2 p (.lst vs2)) := Ex.new hf2
  have e2 : Ex (upd F2 p (.lst vs2)) H2 := fun a u z => by
    by_cases ha : a = p
    · subst ha; rw [upd_same] at z; rw [← z]; exact hvs2
    · rw [upd_ne ha] at z; exact E2.ex a u z
  refine k2.run (upd F2 p (.lst vs2)) H2 (.ref p) v _ e2 (r_lst upd_same (reps_mono hx _ _ rv2)) (rep_mono hx _ _ r2) fun z w F3 H3 s3 r3 k3 => ?_
  obtain ⟨c, rfl, k4⟩ := k3
  have s4 : Step No F2 H2 F2 H3 := ⟨Ex.refl _, fun a u z => s3.keep a u (fun h => h) (E2.ex a u z), s3.keep, fun a u z => .inl z, s3.dom⟩
  exact ⟨c, rep_bl r3, q c _ F2 H3 (stpN s2 s4) (E2.step s4) o2 k4⟩

/-! ### texts -/
theorem op_mulS : OpR X (binaryOp .Mult) (fun x y H Q => ∃ (z : Str) (n : Int), x = .str z ∧ y = .int n ∧ MulOk z n ∧ Q (.str (Txt.mul z n)) H) := by
  intro pins s σ H x y v u Q I rx ry h
  obtain ⟨z, n, rfl, rfl, hm, q⟩ := h
  obtain ⟨t, rfl⟩ := rx
  obtain ⟨t', rfl⟩ := ry
  exact SB.mul hm fun t2 k => ⟨.str _, H, I.tok _, ⟨t2, rfl⟩, q⟩
theorem bo_mulS {z : Str} {n : Int} (hm : MulOk z n) (k : KD (.str (Txt.mul z n))) : BO X G (binaryOp .Mult) (.str z) (.int n) KD := .of fun F H u v Q e r1 r2 q => by
  rw [rep_str r1, rep_int r2]
  exact fun pins s σ uu vv I ru rv => op_mulS pins s σ H _ _ uu vv Q I ru rv ⟨z, n, rfl, rfl, hm, q _ _ F H (.refl e) r_str k⟩
theorem we_ixS (h : WE X G Γ a fun x Γ1 => WE X G Γ1 b fun y Γ2 => ∃ z i c, x = .str z ∧ y = .int i ∧ z.length ≤ sizeLine ∧ atI z.cps.toList i = some c ∧ K (.str ⟨#[c]⟩) Γ2) (hs : PlainIx b := by exact fun _ _ => rfl) : WE X G Γ (.Subscript a b pos) K := .of fun σ F H Q E q => by
  refine PE.se (pe_ix ix_str pe_S pe_S hs) ?_
  refine h σ F H _ E fun x Γ1 u F1 H1 s1 E1 o1 r1 k1 => ?_
  refine k1 σ F1 H1 _ E1 fun y Γ2 v F2 H2 s2 E2 o2 r2 k2 => ?_
  obtain ⟨z, i, c, rfl, rfl, hz, hc, k3⟩ := k2
  rw [rep_str r1, rep_int r2]
  exact ⟨z, i, c, rfl, rfl, hz, hc, q _ Γ2 _ F2 H2 (stp s1 o1 s2) E2 (fun a h => o1 a (o2 a h)) r_str k3⟩
end

/-! ### enumerate(tuple) -/
/-- the tuple at a, each item in a new pair -/
def IteT (K : PySem.W.Frag) (a : Addr) : It :=
  ⟨fun i H => ∃ (xs : List V) (x : V), SqT K H a xs ∧ xs[i]? = some x, fun i H v H' => ∃ T x, v = .ref T ∧ H T = none ∧ H' = upd H T (.tup [.int (i : Nat), x]) ∧ ∀ xs, SqT K H a xs → xs[i]? = some x, fun i H => ∃ xs : List V, SqT K H a xs ∧ xs.length = i⟩
theorem turn_enumT {P : Program} {w : World} {K : PySem.W.Frag} {elts : List Expr} {kk : Nat} {tpos : Pos} (a e it : Addr) (hai : a ≠ it) (hae : a ≠ e) :
    Turn P w K (.Tuple elts kk tpos) (IteT K a) [e, it] e (fun i h => (∃ old, IsEnum h e it ((i : Nat) : Int) old) ∧ h.IsTupleIter it a i ∧ e ≠ it) where
  mem := by simp
  obj := fun i h st b hb => by
    obtain ⟨⟨old, he⟩, ⟨o, ho, hc, hd⟩, _⟩ := st
    have e' : b = e ∨ b = it := by simpa using hb
    rcases e' with z | z
    · rw [z]; exact ⟨_, he, fun v q => nomatch q⟩
    · rw [z]; exact ⟨o, ho, fun v q => by rw [hd] at q; cases q⟩
  keep := fun i h h' st k => let ⟨⟨old, he⟩, hi, hne⟩ := st; ⟨⟨old, k e (by simp) _ he⟩, hi.at fun o q => k it (by simp) o q, hne⟩
  item := by
    intro X hP hw hK hc i pins s σ H E I hf st hg
    subst hP hw hK
    obtain ⟨⟨old, he⟩, hit, hne⟩ := st
    obtain ⟨xs, x, hq, hx⟩ := hg
    obtain ⟨its, rv, p, hz⟩ := I.tuple hq
    obtain ⟨u, hu, ru⟩ := rv.get hx
    have hel : e < s.heap.objs.size := Heap.lt_size he
    have hil : it < s.heap.objs.size := by obtain ⟨_, q, _⟩ := hit; exact Heap.lt_size q
    have hi : i < its.toArray.size := by
      have := (List.getElem?_eq_some_iff.mp hu).1
      simpa using this
    have hh : X.A.in1.handled = none := I.ok.hd hc
    refine wpAny_pyNext_enum_itemD (Draws.tuple hh it a hai its.toArray) he ⟨hit, p⟩ hi hne (by simp [hne, hae.symm]) fun y h' tk hy ho hst' hT hsz hk => ?_
    have ey : y = u := by
      have h1 : its.toArray[i]? = some y := hy
      have h2 : its.toArray[i]? = some u := by simpa using hu
      rw [h1] at h2
      exact Option.some.inj h2
    subst ey
    refine ⟨_, rfl, wpAny_letOwnedTupleGo_enum (s := { s with heap := h', toks := tk + 1 }) ho fun h'' he' sb => ?_⟩
    have hT2 : h''.get? s.heap.objs.size = some { cls := .type "tuple", data := .seq #[.int i tk, y] } := (sb.2 _ (Nat.ne_of_gt hel)).trans hT
    have new : ObjOk X.prog X.w (upd H s.heap.objs.size (.tup [.int (i : Nat), x])) h'' s.heap.objs.size (.tup [.int (i : Nat), x]) :=
      ⟨by show 2 ≤ sizeLine; decide, [.int i tk, y], .cons ⟨_, rfl⟩ (.cons ru .nil), ⟨_, hT2, rfl, _, rfl⟩⟩
    have I1 : Inv X pins σ (upd H s.heap.objs.size (.tup [.int (i : Nat), x])) { s with heap := h'', toks := tk + 1 } :=
      I.turnedNew (ch := [e, it]) (fun b ob hb q => (sb.2 b (fun z => hb (by simp [z]))).trans (hk b ob (fun z => hb (by simp [z])) (fun z => hb (by simp [z])) q)) hf (Nat.le_refl _) new
    refine ⟨.ref s.heap.objs.size, _, I1, rfl, ⟨_, x, rfl, I.hok.fresh (Nat.le_refl _), rfl, fun ys hy => by rw [I.tuple_inj hy hq]; exact hx⟩, ⟨⟨y, ?_⟩, hst'.1.at fun o q => (sb.2 it (Ne.symm hne)).trans q, hne⟩, fun b hb => ?_⟩
    · have e1 : ((i + 1 : Nat) : Int) = (i : Int) + 1 := by omega
      rw [e1]; exact he'
    · have hb' : b < s.heap.objs.size := by
        have e' : b = e ∨ b = it := by simpa using hb
        rcases e' with z | z
        · rw [z]; exact hel
        · rw [z]; exact hil
      rw [upd_ne (Nat.ne_of_lt hb')]
      exact (hf b hb).1
  done := by
    intro X hP hw hK hc i pins s σ H E I hf st hg
    subst hP hw hK
    obtain ⟨⟨old, he⟩, hit, hne⟩ := st
    obtain ⟨xs, hq, hx⟩ := hg
    obtain ⟨its, rv, p, hz⟩ := I.tuple hq
    obtain ⟨f0, f1, f2, f3, f4, f5⟩ := hf it (by simp)
    have hl := rv.length
    have hh : X.A.in1.handled = none := I.ok.hd hc
    have hn : its.toArray.size = i := by rw [List.size_toArray]; omega
    exact wpAny_pyNext_enum_endD (Draws.tuple hh it a hai its.toArray) he (hn ▸ ⟨hit, p⟩) fun h' eb => ⟨rfl, I.turned (t' := s.toks) (fun b o hb q => eb b o hb q) f0 f1 f3 f4 f5⟩
  self := fun A i s Q E st h => let ⟨⟨_, he⟩, _⟩ := st; wpAny_pyIter_enum he h
end Dv

set_option Elab.async false
set_option maxRecDepth 100000
set_option maxHeartbeats 4000000
namespace PySem
open Sem (wp)
theorem meets_enum1B {v : Value} {o : Obj} {H : Heap → Prop} (B : Begins v o H) :
    Meets (Builtin.«enumerate.__new__» ⟨[.type "enumerate", v], []⟩) (fun _ R s => H s.heap ∧
      R (.ok (.ret (.ref (s.heap.push o).objs.size))) { s with heap := (s.heap.push o).push { cls := .type "enumerate", data := .fields #[.none, .bool false, .ref s.heap.objs.size, rawInt 0, .none, .none] } }) :=
  .of_wp fun prog w A R s h => by
    obtain ⟨hp, g, d, tk, os⟩ := s; obtain ⟨h1, h⟩ := h
    have hsub := sub_enumerate
    have q1 : ∀ {A' : Around} {E : Value → Shared → Prop} {Q : Value → Shared → Prop}, Q (.ref hp.objs.size) ⟨hp.push o, g, d, tk, os⟩ → wpAny (model prog w) A' (pyIter v) Q E ⟨hp, g, d, tk, os⟩ :=
      fun q => B.iter prog w _ _ ⟨hp, g, d, tk, os⟩ _ h1 q
    wp_walk using q1
    refine wpAny_stack_any fun st => wpAny_pure ?_
    split
    · rename_i c _ _ _ _ _
      cases (c == Value.type "enumerate")
      · wp_walk using q1
        exact ⟨_, rfl, h⟩
      · wp_walk using q1
        exact ⟨_, rfl, h⟩
    · wp_walk using q1
      exact ⟨_, rfl, h⟩
theorem call_enum1B {prog : Program} {w : World} {A : Around} {E : Value → Shared → Prop} {s : Shared} {v : Value} {o : Obj} {H : Heap → Prop} {Q : Value → Shared → Prop} (B : Begins v o H) (h1 : H s.heap)
    (h : ∀ h', IsEnum h' (s.heap.objs.size + 1) s.heap.objs.size 0 .none → h'.get? s.heap.objs.size = some o → h'.objs.size = s.heap.objs.size + 2 →
      (∀ b o, s.heap.get? b = some o → h'.get? b = some o) → Q (.ref (s.heap.objs.size + 1)) { s with heap := h' }) :
    wpAny (model prog w) A (call (.type "enumerate") [v]) Q E s := by
  refine callType_new F.called_enumerate (by decide) (F.typeCall_enumerate_1 _) (F.newCall_enumerate_1 _) (fun obj => F.args_object_init_2 obj _) F.entry_enumerate_new
    (meets_enum1B B) ⟨h1, ?_⟩
  have hz : (s.heap.push o).objs.size = s.heap.objs.size + 1 := Heap.size_push ..
  show _ ∧ _
  rw [hz]
  have he : IsEnum ((s.heap.push o).push { cls := .type "enumerate", data := .fields #[.none, .bool false, .ref s.heap.objs.size, rawInt 0, .none, .none] }) (s.heap.objs.size + 1) s.heap.objs.size 0 .none := by
    have := Heap.get?_push_size (s.heap.push o) (o := { cls := .type "enumerate", data := .fields #[.none, .bool false, .ref s.heap.objs.size, rawInt 0, .none, .none] }) rfl
    rw [hz] at this; exact this
  exact ⟨⟨_, he, rfl⟩, h _ he (Heap.get?_push_of_some _ (Heap.get?_push_size _ B.free)) (by rw [Heap.size_push, hz]) fun b o x => Heap.get?_push_of_some _ (Heap.get?_push_of_some _ x)⟩
end PySem
namespace Dv
open PySem PySem.Spec PyProof.Rows L2
open Evl (Ex ex_l ex_t)
def iEnumT (K : PySem.W.Frag) (ta : TA) : TI := fun σ H R => ta σ H fun vs H1 => ∃ a xs, vs = [.ref a] ∧ SqT K H1 a xs ∧ R (IteT K a) H1
theorem pi_enumT {X : Cx} {e : Expr} {ta : TA} {p pos tpos : Pos} {elts : List Expr} {kk : Nat} (hg : Gl X "enumerate") (hm : X.mg "enumerate" = none) (ha : PA X [e] ta) (hs : starEach [e] X.env = [(false, eval e X.env)] := by rfl) :
    PI X (.Tuple elts kk tpos) (.Call (.Name "enumerate" p) [e] [] pos) (iEnumT X.K ta) := by
  refine ⟨fun pins s σ H R I h => ?_⟩
  refine Call_ (ld_blt I hg hm boot_enumerate (PyProof.Rows.callWith_type1 (thn (ha.run pos pins s σ H _ I h) fun us s1 ⟨vs, H1, I1, r1, q1⟩ => ?_) hs rfl))
  obtain ⟨a, xs, ex, hq, q⟩ := q1
  subst ex
  cases r1 with
  | cons r rr =>
    cases rr
    cases r
    obtain ⟨its, rv, p', hz⟩ := I1.tuple hq
    have hlt : a < s1.heap.objs.size := p'.lt
    refine call_enum1B (begins_tuple a its.toArray) (show s1.heap.IsTuple a its.toArray from p') fun h' he hit hsz hk => wpAny_pyIter_enum he ?_
    have I2 : Inv X pins σ H1 { s1 with heap := h' } := I1.kept (t' := s1.toks) hk
    refine ⟨s1.heap.objs.size + 1, [s1.heap.objs.size + 1, s1.heap.objs.size], _, _, H1, rfl, I2, turn_enumT a (s1.heap.objs.size + 1) s1.heap.objs.size (Nat.ne_of_lt hlt) (Nat.ne_of_lt (Nat.lt_succ_of_lt hlt)), ⟨⟨.none, he⟩, ⟨_, hit, rfl, rfl⟩, Nat.succ_ne_self _⟩, fun b hb => ?_, q⟩
    have e' : b = s1.heap.objs.size + 1 ∨ b = s1.heap.objs.size := by simpa using hb
    have hle : s1.heap.objs.size ≤ b := by
      rcases e' with z | z
      · rw [z]; exact Nat.le_add_right _ _
      · rw [z]; exact Nat.le_refl _
    exact I1.fpOk hle (I1.hok.fresh hle)
section
variable {X : Cx} {G : Gc} {Γ : En} {e : Expr} {p pos tpos : Pos} {K : List D → En → Prop}
/-- enumerate(tuple) -/
theorem wi_enumT {elts : List Expr} {kk : Nat} (hK : G.K = X.K) (hm : X.mg "enumerate" = none) (h : WE X G Γ e fun d Γ1 => ∃ xs, d = .tup xs ∧ K (xs.zipIdx.map fun q => .tup [.int (q.2 : Nat), q.1]) Γ1) (hg : Gl X "enumerate" := by rfl) (hs : starEach [e] X.env = [(false, eval e X.env)] := by rfl) :
    WI X G Γ (.Tuple elts kk tpos) (.Call (.Name "enumerate" p) [e] [] pos) K := .of fun σ F H R E q => by
  refine PI.si (pi_enumT hg hm (pa_cons pe_S pa_nil (by rw [hs]; rfl)) hs) ?_
  refine h σ F H _ E fun d Γ1 v F1 H1 s1 E1 o1 r1 k1 => ?_
  obtain ⟨xs, rfl, k⟩ := k1
  obtain ⟨a, us, rfl, hs1, ru⟩ := rep_tup r1
  rw [hK] at hs1
  have l1 := reps_len ru
  refine ⟨a, us, rfl, ex_t E1.ex hs1, q _ Γ1 _ F1 H1 s1 E1 o1 ⟨fun i H hi e => ?_, fun H e => ?_, fun i F H x H' e1 e2 hi y => ?_⟩ k⟩
  · have hi' : i < us.length := by simpa [l1] using hi
    exact ⟨us, us[i], ex_t e hs1, by simp [hi']⟩
  · exact ⟨us, ex_t e hs1, by simp [l1]⟩
  · obtain ⟨T, z, rfl, hT, rfl, hz⟩ := y
    obtain ⟨d2, g2, r2⟩ := reps_get' ru (hz us (ex_t (e1.trans e2) hs1))
    have st : Step No F H (upd F T (.tup [.int (i : Nat), z])) (upd H T (.tup [.int (i : Nat), z])) := Step.lay e2 hT
    refine ⟨.tup [.int (i : Nat), d2], _, ?_, st, r_tup upd_same (reps_cons r_int (reps_cons (rep_mono (e1.trans st.ex) _ _ r2) reps_nil))⟩
    rw [List.getElem?_map, List.getElem?_zipIdx, g2]
    simp
end
end Dv

set_option Elab.async false
set_option maxRecDepth 100000
set_option maxHeartbeats 4000000
namespace Dv
open PySem PySem.Spec PyProof.Rows L2
open Evl (Ex ex_l ex_t)
section
variable {X : Cx} {G : Gc} {Γ : En} {tg elt iter : Expr} {scope : Scope} {own : List (Str × Nat)} {pos : Pos} {KA : List D → En → Prop}
/-- [elt for tg in iter], whose turns change something: by a word -/
theorem wr_word (hK : G.K = X.K) (hN : X.N.Nodup) (ok : BlkOk X.N X.env.scope scope own)
    (hg : ∀ (s : Shared) (H : Hp) (C : Addr) (cl : List (Str × Addr)) (fp : List Addr), TgOk (X.blk s H scope (compEnvC scope cl C X.env) fp) tg (own.map (·.1)))
    (h : WI X G Γ tg iter fun ds Γ1 => ∃ (Γb : En) (Pv : Wd), Forget Γ1 (own.map (·.1)) Γb ∧ Pv 0 [] Γb ∧ (∀ i acc Γ2, i ≤ ds.length → Pv i acc Γ2 → acc.length ≤ 100000) ∧
      (∀ i d acc Γ2, ds[i]? = some d → Pv i acc Γ2 → ∃ ps Γ3, Tgt tg d ps ∧ ps.map (·.1) = own.map (·.1) ∧ Puts Γ2 ps Γ3 ∧
          ∀ (s : Shared) (H : Hp) (C : Addr) (cl : List (Str × Addr)) (fp : List Addr), WE (X.blk s H scope (compEnvC scope cl C X.env) fp) G Γ3 elt fun z Γ5 => ∃ Γ6, Forget Γ5 (own.map (·.1)) Γ6 ∧ Pv (i + 1) (acc ++ [z]) Γ6) ∧
      (∀ acc Γ2, Pv ds.length acc Γ2 → KA acc Γ2)) : WR X G Γ (LcR X tg iter scope elt tYes own) KA := by
  refine wr_core (TT' := fun Γ3 KT => KT true Γ3) hK hN ok (fun Γ3 KT σ F H Q k E q => q true Γ3 F H (.refl E.ex) E (fun _ h => h) k) hg ?_
  refine .of fun σ F H R E q => h.run σ F H R E fun ds Γ' J F' H' s1 E1 o1 wk k => q ds Γ' J F' H' s1 E1 o1 wk ?_
  obtain ⟨Γb, Pv, h1, h2, h3, h4, h5⟩ := k
  refine ⟨Γb, Pv, h1, h2, h3, fun i d acc Γ2 hd hp => ?_, h5⟩
  obtain ⟨ps, Γ3, g1, g2, g3, g4⟩ := h4 i d acc Γ2 hd hp
  exact ⟨ps, Γ3, g1, g2, g3, iteT g4⟩
theorem wl_word (hK : G.K = X.K) (hc : X.calm = true) (hN : X.N.Nodup) (ok : BlkOk X.N X.env.scope scope own)
    (hg : ∀ (s : Shared) (H : Hp) (C : Addr) (cl : List (Str × Addr)) (fp : List Addr), TgOk (X.blk s H scope (compEnvC scope cl C X.env) fp) tg (own.map (·.1)))
    (h : WI X G Γ tg iter fun ds Γ1 => ∃ (Γb : En) (Pv : Wd), Forget Γ1 (own.map (·.1)) Γb ∧ Pv 0 [] Γb ∧ (∀ i acc Γ2, i ≤ ds.length → Pv i acc Γ2 → acc.length ≤ 100000) ∧
      (∀ i d acc Γ2, ds[i]? = some d → Pv i acc Γ2 → ∃ ps Γ3, Tgt tg d ps ∧ ps.map (·.1) = own.map (·.1) ∧ Puts Γ2 ps Γ3 ∧
          ∀ (s : Shared) (H : Hp) (C : Addr) (cl : List (Str × Addr)) (fp : List Addr), WE (X.blk s H scope (compEnvC scope cl C X.env) fp) G Γ3 elt fun z Γ5 => ∃ Γ6, Forget Γ5 (own.map (·.1)) Γ6 ∧ Pv (i + 1) (acc ++ [z]) Γ6) ∧
      (∀ acc Γ2, Pv ds.length acc Γ2 → KA acc Γ2)) (hs : ∀ x, foldedSetIterable iter X.env x = pure x := by intro _; rfl) : WL X G Γ (.ListComp elt [⟨tg, iter, [], 0⟩] scope pos) KA :=
  wl_of hc hN ok (fun s H C cl fp => pts_nil) (wr_word hK hN ok hg h) hs
theorem ws_word {y : Str} {py spos : Pos} {K : Ot → Prop} (hK : G.K = X.K) (hc : X.calm = true) (hN : X.N.Nodup) (hyl : X.env.scope.names.lookup y = some .local) (ok : BlkOk X.N X.env.scope scope own)
    (hg : ∀ (s : Shared) (H : Hp) (C : Addr) (cl : List (Str × Addr)) (fp : List Addr), TgOk (X.blk s H scope (compEnvC scope cl C X.env) fp) tg (own.map (·.1)))
    (h : WI X G Γ tg iter fun ds Γ1 => ∃ (Γb : En) (Pv : Wd), Forget Γ1 (own.map (·.1)) Γb ∧ Pv 0 [] Γb ∧ (∀ i acc Γ2, i ≤ ds.length → Pv i acc Γ2 → acc.length ≤ 100000) ∧
      (∀ i d acc Γ2, ds[i]? = some d → Pv i acc Γ2 → ∃ ps Γ3, Tgt tg d ps ∧ ps.map (·.1) = own.map (·.1) ∧ Puts Γ2 ps Γ3 ∧
          ∀ (s : Shared) (H : Hp) (C : Addr) (cl : List (Str × Addr)) (fp : List Addr), WE (X.blk s H scope (compEnvC scope cl C X.env) fp) G Γ3 elt fun z Γ5 => ∃ Γ6, Forget Γ5 (own.map (·.1)) Γ6 ∧ Pv (i + 1) (acc ++ [z]) Γ6) ∧
      (∀ acc Γ2, Pv ds.length acc Γ2 → ∃ s0 Γ3, Put Γ2 y s0 (.own (.lst acc)) Γ3 ∧ K (.nx Γ3))) (hy : ∃ i : Nat, X.N[i]? = some y) (hsw : swapsWith (.ListComp elt [⟨tg, iter, [], 0⟩] scope pos) (some (.Name y py)) spos.line X.env = pure true) (hs : ∀ x, foldedSetIterable iter X.env x = pure x := by intro _; rfl) :
    WS X G Γ (.Assign [.Name y py] (.ListComp elt [⟨tg, iter, [], 0⟩] scope pos) spos) K :=
  ws_of hc hN hyl ok (fun s H C cl fp => pts_nil) (wr_word hK hN ok hg h) hy hsw hs
end
section
variable {X : Cx} {G : Gc}
theorem bo_notInS {x : Str} {ys : List Str} {d : D} {K : D → Prop} (hK : G.K = X.K) (hd : d = .lst (ys.map .str) ∨ d = .tup (ys.map .str)) (k : K (.bl (!decide (x ∈ ys)))) : BO X G (compareOp .NotIn) (.str x) d K := .of fun F H u v Q e r1 r2 q => by
  rw [rep_str r1]
  have fin : ∀ a, (SqL X.K H a (ys.map .str) ∨ SqT X.K H a (ys.map .str)) → SOp X (compareOp .NotIn) (.str x) (.ref a) H Q := fun a hs pins s σ uu vv I ru rv =>
    op_notIn_seq pins s σ H _ _ uu vv Q I ru rv ⟨a, _, rfl, hs, rfl, flat_strs ys, by
      show Q (.bl (!inV (.str x) (ys.map V.str))) H
      rw [inV_strs]
      exact q _ _ F H (.refl e) r_bl k⟩
  rcases hd with rfl | rfl
  · obtain ⟨a, us, rfl, hs, ru⟩ := rep_lst r2
    rw [hK] at hs
    obtain rfl := reps_strs ru
    exact fin a (.inl (ex_l e hs))
  · obtain ⟨a, us, rfl, hs, ru⟩ := rep_tup r2
    rw [hK] at hs
    obtain rfl := reps_strs ru
    exact fin a (.inr (ex_t e hs))
end
end Dv

set_option Elab.async false
set_option maxRecDepth 100000
set_option maxHeartbeats 4000000
namespace PySem
open Sem (wp)
open AutoSeq1 (wpAny_loadPart')
section
variable {prog : Program} {w : World} {A : Around} {E : Value → Shared → Prop} {s : Shared}
theorem code_tuple_new_str {x : Str} {t : Tok} {Q₁ : Value → Shared → Prop} (hh : A.handled = none) (hn : x.cps.size ≤ sizeLine)
    (h : ∀ (h' : Heap) (tk : Nat) (acc : Array Value), (∀ b o, s.heap.get? b = some o → h'.get? b = some o) → ItemsOf (SignAt x) acc x.cps.size →
      Q₁ (.ref h'.objs.size) { s with heap := h'.push { cls := .type "tuple", data := .seq acc }, toks := tk }) :
    codeAny (model prog w) A (.call (.builtin "tuple.__new__") ⟨[.type "tuple", .str x t], []⟩) (wants Q₁ E) s := by
  refine codeAny_of_tree ?_
  show wpAny _ A.in1 (do checkBuiltinCall "tuple.__new__" ⟨[.type "tuple", .str x t], []⟩; again (.builtin "tuple.__new__" ⟨[.type "tuple", .str x t], []⟩)) _ _ s
  refine wpAny_bind (wpAny_of_eq (F.newCall_tuple_1 _) (wpAny_pure ⟨plainId_quiet F.plain_tuple_new _, codeAny_builtin F.entry_tuple_new ?_⟩))
  rw [Around.under_plainId F.plain_tuple_new _]
  have hsub := sub_tuple_self
  have hinit := init_tuple_lookup
  have hmh := madeHere_tuple
  have hh1 : A.in1.handled = none := hh
  have cs : ∀ {E : Value → Shared → Prop} {Q : List Value → Shared → Prop}, (∀ s' acc, (∀ b o, s.heap.get? b = some o → s'.heap.get? b = some o) → s'.gens = s.gens → s'.drawn = s.drawn → s'.os = s.os → ItemsOf (SignAt x) acc x.cps.size → Q acc.toList s') → wpAny (model prog w) A.in1 (collect (.str x t)) Q E s :=
    fun hQ => wpAny_collect_str (A := A.in1) hh1 x t hQ hn
  wp_walk using cs
  intro s' acc hk g1 g2 g3 hacc
  show wpAny _ _ (Builtin.Tuple.tupleExact acc.toList.toArray >>= fun v => ret v) _ _ _
  unfold Builtin.Tuple.tupleExact
  refine wpAny_bind (wpAny_newObj_type ?_ (by show acc.toList.toArray.size ≤ sizeLine; simp only [Array.toArray_toList]; rw [hacc.1]; exact hn))
  refine wpAny_pure ?_
  have e : acc.toList.toArray = acc := by simp
  rw [e]
  obtain ⟨hp', g', d', tk', os'⟩ := s'
  cases g1
  cases g2
  cases g3
  exact h hp' tk' acc hk hacc
theorem call_tuple_strX {x : Str} {t : Tok} {Q : Value → Shared → Prop} (hh : A.handled = none) (hn : x.cps.size ≤ sizeLine)
    (hQ : ∀ (h' : Heap) (tk : Nat) (acc : Array Value), (∀ b o, s.heap.get? b = some o → h'.get? b = some o) → ItemsOf (SignAt x) acc x.cps.size →
      Q (.ref h'.objs.size) { s with heap := h'.push { cls := .type "tuple", data := .seq acc }, toks := tk }) :
    wpAny (model prog w) A (call (.type "tuple") [.str x t]) Q E s := by
  refine callType_codes (Q₁ := fun obj s₁ => s₁.TypeIs obj "tuple" ∧ Q obj s₁) F.called_tuple (F.typeCall_tuple_1 _) F.entry_object_init
    (code_tuple_new_str (A := A.in1) hh hn fun h' tk acc hk hacc => ⟨⟨_, Heap.get?_push_size _ rfl, rfl⟩, hQ h' tk acc hk hacc⟩) fun obj s₁ h₁ => ?_
  exact ⟨h₁.1, F.args_object_init_2 obj _, object_init_meets F.called_tuple.init.lookup F.called_tuple.made (by decide) prog w A.in1 _ s₁ ⟨h₁.1, rfl, h₁.2⟩⟩
end
end PySem
namespace Dv
open PySem PySem.Spec PyProof.Rows L2
open Evl (Ex ex_l ex_t)
section
variable {X : Cx} {G : Gc} {KD : D → Prop}
/-- tuple(s): its signs -/
theorem cr_tupS (hc : X.calm = true) : CallR X (.type "tuple") fun vs H Q => ∃ s : Str, vs = [.str s] ∧ s.length ≤ 100000 ∧ ∀ p, H p = none → Q (.ref p) (upd H p (.tup ((signs s).map .str))) := by
  intro pins s σ H vs us Q I r h
  obtain ⟨x, rfl, hl, q⟩ := h
  obtain ⟨u, rfl, ru⟩ := vals1 r
  obtain ⟨t, rfl⟩ := ru
  have hz : x.cps.size ≤ sizeLine := Nat.le_trans hl (by decide)
  refine call_tuple_strX (I.ok.hd hc) hz fun h' tk acc old it => ?_
  have hv : Vals ((signs x).map V.str) acc.toList := by
    have len : ((signs x).map V.str).length = acc.toList.length := by
      have e1 : acc.size = x.cps.size := it.1
      rw [List.length_map, signs_length]
      exact e1.symm
    have key : ∀ (vs : List V) (us : List Value), vs.length = us.length → (∀ (j : Nat) (u : Value), us[j]? = some u → ∃ v, vs[j]? = some v ∧ RelV v u) → Vals vs us := fun vs => by
      induction vs with
      | nil =>
        intro us hl _
        cases us with
        | nil => exact .nil
        | cons => simp at hl
      | cons v vs ih =>
        intro us hl h
        cases us with
        | nil => simp at hl
        | cons u us =>
          obtain ⟨v', e, r⟩ := h 0 u rfl
          cases e
          exact .cons r (ih us (by simpa using hl) fun j w e => h (j + 1) w (by simpa using e))
    refine key _ _ len fun j u e => ?_
    obtain ⟨c, tk, hc, rfl⟩ := it.2 j u (by simpa using e)
    exact ⟨.str ⟨#[c]⟩, by simp [signs, hc], tk, rfl⟩
  have I1 : Inv X pins σ H { s with heap := h', toks := tk } := I.kept (t' := tk) old
  refine ⟨.ref h'.objs.size, _, I1.laid (t' := tk) (o := .tup ((signs x).map V.str)) (fun b ob q => Heap.get?_push_of_some _ q) (Nat.le_refl _) ?_, rfl, q _ (I1.hok.fresh (Nat.le_refl _))⟩
  exact ⟨by rw [List.length_map]; simpa [signs] using hz, acc.toList, hv, ⟨_, Heap.get?_push_size _ rfl, rfl, 0, by simp⟩⟩
theorem cd_tupS {s : Str} (hc : X.calm = true) (hl : s.length ≤ 100000) (k : KD (.tup ((signs s).map .str))) : CD X G (.type "tuple") [.str s] KD := .of fun F H vs Q e r q => by
  obtain ⟨v, rfl, r1⟩ := reps1 r
  rw [rep_str r1]
  refine CallR.sc (cr_tupS hc) ⟨s, rfl, hl, fun p hp => ?_⟩
  have st : Step No F H (upd F p (.tup ((signs s).map .str))) (upd H p (.tup ((signs s).map .str))) := Step.lay e hp
  exact q _ _ _ _ st (r_tup upd_same (strs_reps _)) k
end
end Dv

set_option Elab.async false
set_option maxRecDepth 100000
set_option maxHeartbeats 4000000
namespace Dv
open PySem PySem.Spec PyProof.Rows L2
open Evl (Ex ex_l ex_t)
mutual
/-- data without lists, dicts and objects -/
def flatT : D → Bool
  | .non => true
  | .bl _ => true
  | .int _ => true
  | .str _ => true
  | .ty _ => true
  | .tup ds => flatTs ds
  | _ => false
def flatTs : List D → Bool
  | [] => true
  | d :: r => flatT d && flatTs r
end
def del (F : Hp) (p : Addr) : Hp := fun b => if b = p then none else F b
theorem del_at {F : Hp} {p : Addr} : del F p p = none := by unfold del; rw [if_pos rfl]
theorem del_ne {F : Hp} {p a : Addr} (h : a ≠ p) : del F p a = F a := by unfold del; rw [if_neg h]
section
variable {G : Gc} {F : Hp} {p : Addr} {us : List V}
mutual
theorem rep_del (hp : F p = some (.lst us)) : ∀ (d : D) (v : V), flatT d = true → rep G F d v → rep G (del F p) d v
  | .non, v, _, r => by rw [rep_non r]; exact r_non
  | .bl b, v, _, r => by rw [rep_bl r]; exact r_bl
  | .int i, v, _, r => by rw [rep_int r]; exact r_int
  | .str s, v, _, r => by rw [rep_str r]; exact r_str
  | .ty n, v, _, r => by unfold rep at r ⊢; exact r
  | .tup ds, v, h, r => by
    obtain ⟨a, vs, rfl, hs, ru⟩ := rep_tup r
    unfold flatT at h
    have r2 := reps_del hp ds vs h ru
    unfold rep
    refine ⟨a, vs, rfl, ?_, r2⟩
    have hne : ∀ {o : HO}, F a = some o → (∀ xs, o ≠ .lst xs) → a ≠ p := fun {o} e hn ea => by
      rw [ea, hp] at e
      exact hn us (Option.some.inj e).symm
    rcases hs with (e | ⟨o, e⟩) | hk
    · exact .inl (.inl (by rw [del_ne (hne e fun _ z => nomatch z)]; exact e))
    · exact .inl (.inr ⟨o, by rw [del_ne (hne e fun _ z => nomatch z)]; exact e⟩)
    · exact .inr hk
  | .lst _, _, h, _ => by simp [flatT] at h
  | .ins _ _, _, h, _ => by simp [flatT] at h
  | .cls _, _, h, _ => by simp [flatT] at h
  | .seq _, _, h, _ => by simp [flatT] at h
  | .exc _, _, h, _ => by simp [flatT] at h
  | .dic _, _, h, _ => by simp [flatT] at h
  | .ptup _, _, h, _ => by simp [flatT] at h
theorem reps_del (hp : F p = some (.lst us)) : ∀ (ds : List D) (vs : List V), flatTs ds = true → reps G F ds vs → reps G (del F p) ds vs
  | [], vs, _, r => by rw [reps_nil_inv r]; exact reps_nil
  | d :: t, vs, h, r => by
    unfold flatTs at h
    rw [Bool.and_eq_true] at h
    obtain ⟨v, w, rfl, h1, h2⟩ := reps_cons_inv r
    exact reps_cons (rep_del hp d v h.1 h1) (reps_del hp t w h.2 h2)
end
end
section
variable {X : Cx} {G : Gc} {Γ : En} {a b : Expr} {p pos : Pos} {K : D → En → Prop} {KA : List D → En → Prop} {k : Nat} {f : Addr} {fd : FuncData} {ps : List Str} {x : Str} {ds0 : List Value} {dd : List D}
/-- a + b, lists: a new one -/
theorem wl_cat (h : WE X G Γ a fun x Γ1 => WE X G Γ1 b fun y Γ2 => ∃ xs ys, x = .lst xs ∧ y = .lst ys ∧ xs.length + ys.length ≤ 100000 ∧ KA (xs ++ ys) Γ2) : WL X G Γ (.BinOp a .Add b pos) KA := .of fun σ F H Q E q => by
  refine PE.se (pe_op op_cat pe_S pe_S) ?_
  refine h σ F H _ E fun d Γ1 v F1 H1 s1 E1 o1 r1 k1 => ?_
  refine k1 σ F1 H1 _ E1 fun e Γ2 w F2 H2 s2 E2 o2 r2 k2 => ?_
  obtain ⟨xs, ys, rfl, rfl, hz, k3⟩ := k2
  obtain ⟨a, us, rfl, hs, ru⟩ := rep_lstX (rep_mono s2.ex _ _ r1)
  obtain ⟨b, ws, rfl, hs2, rw'⟩ := rep_lstX r2
  refine ⟨a, b, us, ws, rfl, rfl, E2.ex _ _ hs, E2.ex _ _ hs2, by rw [reps_len ru, reps_len rw']; exact Nat.le_trans hz (by decide), fun p hp => ?_⟩
  have st : Step No F2 H2 F2 (upd H2 p (.lst (us ++ ws))) := Step.lay0 E2.ex hp
  have s12 := stp s1 o1 s2
  exact q _ Γ2 p _ F2 _ (stpN s12 st) (E2.step st) (fun a z => o1 a (o2 a z)) (s12.back hp) (ex_none E2.ex hp) upd_same (reps_app ru rw') k3
/-- f(u, y): u lent, the own list y looked at -/
theorem we_callUV {con : Cn → List D → (D → Cn → Prop) → Prop} {u y : Str} {pu py : Pos} {s0 : Sl} {c0 : Cn} {xs : List D} (hN : X.N.Nodup) (C : FnOk X.prog X.w X.K X.mg X.base CX0 k f fd ps (spU G con)) (hr : Room k X.A) (hm : X.mg x = some (.ref f)) (hk : PySem.W.keepIn X.K (.ref f) = true) (hb : Binds X.K fd ps ds0) (hd : Dfl G dd ds0)
    (h0 : Lk Γ u s0) (l0 : Lend s0 c0 c0 s0) (hy : Lk Γ y (.own (.lst xs))) (hne : u ≠ y)
    (h : con c0 ([.lst xs] ++ dd) fun d c' => flatT d = true ∧ (∃ es, c' = .lst es ∧ flatTs es = true) ∧ ∃ s' Γ2, Lend s0 c0 c' s' ∧ Put Γ u s0 s' Γ2 ∧ K d Γ2)
    (hv : Vis X.env.scope u := by first | exact Or.inl rfl | exact Or.inr (Or.inl rfl) | exact Or.inr (Or.inr rfl)) (hvy : Vis X.env.scope y := by first | exact Or.inl rfl | exact Or.inr (Or.inl rfl) | exact Or.inr (Or.inr rfl)) (hg : Gl X x := by rfl) (hdb : (x == ("__debug__" : Str)) = false := by decide)
    (hdu : (u == ("__debug__" : Str)) = false := by decide) (hcu : (u == ("__classdict__" : Str)) = false := by decide) (hdy : (y == ("__debug__" : Str)) = false := by decide) (hcy : (y == ("__classdict__" : Str)) = false := by decide)
    (hsn : starEach [.Name u pu, .Name y py] X.env = (false, eval (.Name u pu) X.env) :: starEach [.Name y py] X.env := by rfl) (hsy : starEach [.Name y py] X.env = (false, eval (.Name y py) X.env) :: starEach [] X.env := by rfl)
    (hpl : (backTo pos (starEach [.Name y py] X.env)).any (·.1) = false := by rfl) : WE X G Γ (.Call (.Name x p) [.Name u pu, .Name y py] [] pos) K := .of fun σ F H Q E q => by
  obtain ⟨dv, hdv, hdr⟩ := hd
  obtain ⟨i, e0⟩ := h0.ix
  obtain ⟨p0, hp0, hs, hf, ho⟩ := E.lentAt e0 l0
  obtain ⟨j, e1⟩ := hy.ix
  obtain ⟨p1, hp1, hf1, vs, hvs, rvs⟩ := E.own j y _ e1
  have nm := E.name e0
  have nm1 := E.name e1
  have hij : i ≠ j := fun z => by
    rw [z, e1] at e0
    exact hne (congrArg Prod.fst (Option.some.inj e0)).symm
  have hp01 : p1 ≠ p0 := fun z => hij (E.dis i j u y _ _ p0 e0 e1 hp0 (z ▸ hp1) (by cases l0 with
    | own => exact ⟨_, .inl rfl⟩
    | bor =>
      rcases hs with ⟨z, _⟩ | ⟨z, _⟩
      · cases z
      · cases z; exact ⟨_, .inr rfl⟩) ⟨_, .inl rfl⟩)
  refine PE.se (pe_call C hr hg hm hk hb hdv pass0 (pa_cons (pe_var nm hv hdu hcu) (pa_cons (pe_var nm1 hvy hdy hcy) pa_nil hsy) hsn) hdb hsn hpl) ?_
  refine ⟨.ref p0, hp0, .ref p1, hp1, ?_⟩
  have hx : Ex F (upd F p1 (.lst vs)) := Ex.new hf1
  have hsub : Ex (upd F p1 (.lst vs)) H := fun a u z => by
    by_cases ha : a = p1
    · subst ha; rw [upd_same] at z; rw [← z]; exact hvs
    · rw [upd_ne ha] at z; exact E.ex a u z
  refine ⟨upd F p1 (.lst vs), p0, [.ref p1] ++ dv, c0, [.lst xs] ++ dd, _, rfl, hsub, by rw [upd_ne hp01.symm]; exact hf, holds_step hx (fun _ z => z) ho, reps_app (reps_cons (r_lst upd_same (reps_mono hx _ _ rvs)) reps_nil) (hdr _), h, fun d c' v F' H' kd s' hf' ho' r' => ?_⟩
  obtain ⟨fl, ⟨es, rfl, fe⟩, s2, Γ2, l3, hput, kd⟩ := kd
  have hF1 : F' p1 = some (.lst vs) := s'.ex _ _ upd_same
  have st : Step (fun b => b = p0) F H (del F' p1) H' := ⟨fun a o z => by
      have ha : a ≠ p1 := ne_of_none z hf1
      rw [del_ne ha]; exact s'.ex a o (hx a o z), fun a o z => by
      by_cases ha : a = p1
      · rw [ha, del_at] at z; cases z
      · rw [del_ne ha] at z; exact s'.sub a o z, s'.keep, fun a o z => by
      by_cases ha : a = p1
      · rw [ha, del_at] at z; cases z
      · rw [del_ne ha] at z
        rcases s'.new a o z with y | y | y
        · rw [upd_ne ha] at y; exact .inl y
        · exact .inr (.inl y)
        · exact .inr (.inr y), s'.dom⟩
  have hf2 : del F' p1 p0 = none := by rw [del_ne hp01.symm]; exact hf'
  have ho2 : holds G (del F' p1) H' p0 (.lst es) := by
    obtain ⟨ws, g1, g2⟩ := ho'
    exact ⟨ws, g1, reps_del hF1 _ _ fe g2⟩
  obtain ⟨i2, e2, e3⟩ := hput.ix
  have hi : i2 = i := nodup_ix hN (E.name e2) nm
  subst hi
  subst e3
  have hs2 : (s0 = .own c0 ∧ s2 = .own (.lst es)) ∨ (s0 = .bor p0 c0 ∧ s2 = .bor p0 (.lst es)) := by
    cases l3 with
    | own => exact .inl ⟨rfl, rfl⟩
    | bor =>
      rcases hs with ⟨z, _⟩ | ⟨z, _⟩ <;> cases z
      exact .inr ⟨rfl, rfl⟩
  obtain ⟨g1, g2, g3⟩ := E.lent e0 hp0 hs2 st hf2 ho2
  exact q d _ v _ H' g2 g1 g3 (rep_del hF1 _ _ fl r') kd
end
end Dv

set_option Elab.async false
set_option maxRecDepth 100000
set_option maxHeartbeats 4000000
namespace Wf
open PySem PySem.Spec PyProof.Rows L2 Dv
open Evl (Ex ex_l ex_t)
def top (i : Nat) : Stmt := PySem.Challenge.pw_deepcuts_k03_forests_as_texts.main.body.getD i (.Pass ⟨0, 0, 0, 0⟩)
abbrev t__wall : Stmt := top 0
abbrev t_tupled : Stmt := top 2
abbrev t_NoPlace : Stmt := top 3
abbrev t_BadText : Stmt := top 4
abbrev t_is_name : Stmt := top 8
abbrev t_flat : Stmt := top 10
abbrev t_nested : Stmt := top 11
abbrev t_written : Stmt := top 12
abbrev t_joint : Stmt := top 13
abbrev t_read_rows : Stmt := top 14
abbrev t_Forest : Stmt := top 16
abbrev tBox : Stmt := top 18
abbrev tTake : Stmt := top 19
abbrev tCells : Stmt := top 20
abbrev t__law_of : Stmt := top 21
abbrev tSame : Stmt := top 22
abbrev t__law_mixed : Stmt := top 23
abbrev t__law_tags : Stmt := top 24
abbrev t__law_rows : Stmt := top 25
abbrev t__law_trees : Stmt := top 26
abbrev t__law_flat : Stmt := top 27
abbrev t__law_heard : Stmt := top 28
abbrev t__law_grown : Stmt := top 29
abbrev t__law_read : Stmt := top 30
abbrev tHand : Stmt := top 31
abbrev tRight : Stmt := top 32
abbrev tLaw : Stmt := top 33
def Oks (ns : List Str) : Prop := ∀ x ∈ ns, PyData.strOk x = true
theorem pds_strs : ∀ ns : List Str, pds (ns.map .str) = some (ns.map .str)
  | [] => rfl
  | x :: r => by
    show (match pd (.str x), pds (r.map .str) with | some p, some ps => some (p :: ps) | _, _ => none) = _
    rw [pds_strs r] <;> rfl
theorem pd_strs (ns : List Str) : pd (.tup (ns.map .str)) = some (.tuple (ns.map .str)) := by
  unfold pd
  rw [pds_strs] <;> rfl
theorem lay_strs : ∀ {ns : List Str}, Oks ns → PyData.canLayAll0 (ns.map .str) = true
  | [], _ => by simp [PyData.canLayAll0]
  | x :: r, h => by
    rw [List.map_cons, PyData.canLayAll0, lay_strs fun y hy => h y (List.mem_cons_of_mem _ hy), PyData.canLay0, h x List.mem_cons_self]
    rfl
theorem dep_strs : ∀ ns : List Str, PyData.depthAll (ns.map .str) = 0
  | [] => by simp [PyData.depthAll]
  | x :: r => by
    rw [List.map_cons, PyData.depthAll, dep_strs r, PyData.depth]
    rfl
theorem shp {ns : List Str} (h : Oks ns) : SeqAt.shaped (.tuple (ns.map .str)) = true := by
  unfold SeqAt.shaped
  rw [PyData.canLay0, lay_strs h, PyData.depth, dep_strs]
  rfl
theorem eqv_strs : ∀ ns ms : List Str, PyData.eqvAll (ns.map .str) (ms.map .str) = decide (ns = ms)
  | [], [] => rfl
  | [], _ :: _ => rfl
  | _ :: _, [] => rfl
  | x :: ns, y :: ms => by
    rw [List.map_cons, List.map_cons, PyData.eqvAll, eqv_strs ns ms, PyData.eqv]
    by_cases h : x = y
    · subst h
      simp
    · have e : (x == y) = false := beq_eq_false_iff_ne.mpr h
      rw [e]
      simp [h]
theorem eqv_tup (ns ms : List Str) : PyData.eqv (.tuple (ns.map .str)) (.tuple (ms.map .str)) = decide (ns = ms) := by
  rw [PyData.eqv, eqv_strs]



/-- the source of draws: at most m drawn so far -/
def Urn (m : Nat) (c : Cn) : Prop := ∃ a b k : Int, c = .lst [.int a, .int b, .int k] ∧ 0 ≤ b ∧ b < 2 ^ 64 ∧ 0 ≤ k ∧ k ≤ m
theorem Urn.mono {m n : Nat} {c : Cn} (h : Urn m c) (l : m ≤ n) : Urn n c :=
  let ⟨a, b, k, e, h1, h2, h3, h4⟩ := h
  ⟨a, b, k, e, h1, h2, h3, by omega⟩
theorem Urn.ex {m : Nat} {c : Cn} (h : Urn m c) : ∃ ds, c = .lst ds := let ⟨_, _, _, e, _⟩ := h; ⟨_, e⟩
section
variable {P : Program} {w : World} {K : PySem.W.Frag} {mg : Str → Option Value} {base : Heap} {C : Addr} {G : Gc}
def cTake : Cn → List D → (D → Cn → Prop) → Prop := fun c ds K => ∃ (m : Nat) (low : Int), Urn m c ∧ m < 1000000 ∧ ds = [.int low] ∧ 0 < low ∧ low < 1000000 ∧ ∀ (v : Int) c', 0 ≤ v → v < low → Urn (m + 1) c' → K (.int v) c'
theorem rd {X : Cx} {Γ : En} {KK : D → En → Prop} {i : Int} {j : Nat} {p : Addr} {cs : List D} {z : D} {pn q pos : Pos} (hN : X.N.Nodup) (l : Lk Γ "_law_urn" (.bor p (.lst cs))) (hz : atI cs i = some z) (k : KK z Γ)
    (hv : Vis X.env.scope "_law_urn" := by first | exact Or.inl rfl | exact Or.inr (Or.inl rfl) | exact Or.inr (Or.inr rfl)) : WE X G Γ (.Subscript (.Name "_law_urn" pn) (.Constant (.int i) j q) pos) KK :=
  we_ixOwn hN l .bor (we_int ⟨_, _, i, z, l, .bor, rfl, hz, k⟩) hv
abbrev nTake : List Str := ["_law_urn", "_law_low_so", "_law_drawn", "_law_once", "_law_far", "_law_twice"]
theorem scTake : FnScope nTake ["_law_urn", "_law_low_so"] (defScope tTake) := ⟨rfl, rfl, rfl, by decide +kernel, rfl, by decide +kernel, by decide +kernel⟩
theorem md {x y : Int} (h : 0 < y) : 0 ≤ x % y ∧ x % y < y := ⟨Int.emod_nonneg _ (by omega), Int.emod_lt_of_pos _ h⟩
theorem ok_take {f : Addr} {fd : FuncData} (F : Fun K "_law_take" "_law_take" tTake f fd) (zi : mg "int" = none) : FnOk P w K mg base CX0 1 f fd ["_law_urn", "_law_low_so"] (spU G cTake) := by
  refine def_u F scTake (fun c ds Kd h => ?_) (fun cdv A outer s H E p c ds Kd hr h => ?_)
  · obtain ⟨m, low, _, _, rfl, _⟩ := h
    rfl
  · obtain ⟨m, low, ⟨a, b, k, rfl, hb0, hb1, hk0, hk1⟩, hm, rfl, hl0, hl1, kk⟩ := h
    have hN := scTake.nd
    refine wb_cons (ws_if (wt_cmp (rd hN .hd rfl (we_int (bo_gt ⟨_, rfl, fun hd => ?_, fun hd => ?_⟩)))))
    · refine wb_cons (ws_set hN (we_bin (we_callT (T := "int") (by rfl) zi (wa_cons (rd hN .hd rfl (wa_nil (cd_int (we_name (.tl .hd) (bo_mod hl0 ⟨_, _, .tl (.tl .hd), ?_⟩)))))))))
      refine wb_cons (ws_setOwn (s0 := .un) (ds0 := []) hN (we_bin (rd hN .hd rfl (we_name (.tl .hd) (bo_fdiv (b := 20) hl0 (by omega) (by decide) (by decide) ⟨_, _, .hd, .bor, we_int ⟨_, 0, _, _, _, _, rfl, rfl, .hd, .bor, ?_⟩⟩)))))
      refine wb_one (ws_ret (we_name (.tl (.tl .hd)) ⟨_, .hd, ?_⟩))
      exact kk _ _ (md hl0).1 (md hl0).2 ⟨_, b, k, rfl, hb0, hb1, hk0, by omega⟩
    · refine wb_nil ?_
      refine wb_cons (ws_setOwn (s0 := .un) (ds0 := []) hN (we_bin (rd hN .hd rfl (we_int (bo_add ⟨_, _, .hd, .bor, we_int ⟨_, 2, _, _, _, _, rfl, rfl, .hd, .bor, ?_⟩⟩)))))
      -- once
      refine wb_cons <| ws_set hN <| we_bin <| we_callT (T := "int") (by rfl) zi <| wa_cons <| we_bin <| we_bin <| rd hN .hd rfl <| we_bin <| we_int <| rd hN .hd rfl <| bo_mul (a := 16) (b := 41) (by decide) ?_ (by decide) (by decide) (by decide) <| bo_add <|
        we_bin <| we_int <| rd hN .hd rfl <| bo_add <| bo_mul (a := 66) (b := 42) ?_ ?_ (by decide) (by decide) (by decide) <| wa_nil <| cd_int <| we_int <| bo_mod (by decide) ⟨_, _, .tl (.tl (.tl .hd)), ?_⟩
      · omega
      · omega
      · omega
      obtain ⟨o0, o1⟩ := md (x := (b + 48271 * (k + 1)) * (39373 + (k + 1))) (y := 2147483647) (by decide)
      generalize ((b + 48271 * (k + 1)) * (39373 + (k + 1))) % 2147483647 = once at o0 o1
      -- far
      refine wb_cons <| ws_set hN <| we_bin <| we_bin <| we_callT (T := "int") (by rfl) zi <| wa_cons <| we_name (.tl (.tl (.tl .hd))) <| wa_nil <| cd_int <| we_int <| bo_mod (by decide) <| we_int <| bo_add ⟨_, _, .tl (.tl (.tl (.tl .hd))), ?_⟩
      obtain ⟨f0, f1⟩ := md (x := once) (y := 40009) (by decide)
      generalize once % 40009 = far at f0 f1
      -- twice
      refine wb_cons <| ws_set hN <| we_bin <| we_callT (T := "int") (by rfl) zi <| wa_cons <| we_bin <| we_bin <| we_bin <| we_name (.tl (.tl (.tl .hd))) <| rd hN .hd rfl <| bo_add <| we_bin <| rd hN .hd rfl <| we_int <|
        bo_fdiv (b := 20) (by decide) (by decide) (by decide) (by decide) <| bo_add <| we_name (.tl (.tl (.tl (.tl .hd)))) <| bo_mul (a := 66) (b := 17) ?_ ?_ (by decide) (by decide) (by decide) <| wa_nil <| cd_int <| we_int <| bo_mod (by decide) ⟨_, _, .tl (.tl (.tl (.tl (.tl .hd)))), ?_⟩
      · have q0 : 0 ≤ b / 1000003 := Int.ediv_nonneg hb0 (by decide)
        have q1 : b / 1000003 ≤ b := Int.ediv_le_self _ hb0
        omega
      · omega
      obtain ⟨t0, t1⟩ := md (x := (once + (k + 1) + b / 1000003) * (far + 7)) (y := 2147483629) (by decide)
      generalize ((once + (k + 1) + b / 1000003) * (far + 7)) % 2147483629 = twice at t0 t1
      refine wb_one <| ws_ret <| we_bin <| we_callT (T := "int") (by rfl) zi <| wa_cons <| we_bin <| we_bin <| we_callT (T := "int") (by rfl) zi <| wa_cons <| we_bin <| we_bin <| we_name (.tl (.tl (.tl (.tl (.tl .hd))))) <| we_int <|
        bo_mul (a := 32) (b := 16) ?_ (by decide) (by decide) (by decide) (by decide) <| we_name (.tl (.tl (.tl .hd))) <| bo_add <| wa_nil <| cd_int <| we_int <| bo_mod (by decide) <| we_int <| bo_fdiv (b := 7) (by decide) (by decide) (by decide) (by decide) <|
        wa_nil <| cd_int <| we_name (.tl .hd) <| bo_mod hl0 ⟨_, .hd, ?_⟩
      · omega
      exact kk _ _ (md hl0).1 (md hl0).2 ⟨a, b, k + 1, rfl, hb0, hb1, by omega, by omega⟩
end
theorem er_map {α β : Type} (f : α → β) : ∀ (l : List α) (k : Nat), (l.map f).eraseIdx k = (l.eraseIdx k).map f
  | [], k => rfl
  | a :: l, 0 => rfl
  | a :: l, k + 1 => by
    show f a :: (l.map f).eraseIdx k = f a :: (l.eraseIdx k).map f
    rw [er_map f l k]
theorem pick_perm1 {α : Type} {l : List α} {k : Nat} {x : α} (h : l[k]? = some x) : (x :: l.eraseIdx k).Perm l := L2.erase_perm l k x h
theorem app_len (a b : Str) : (a ++ b).length = a.length + b.length := by
  show (a.cps ++ b.cps).size = a.cps.size + b.cps.size
  rw [Array.size_append]
/-- plain data, at most n deep -/
inductive Pl : Nat → D → Prop
  | non {n : Nat} : Pl n .non
  | bl {n : Nat} {b : Bool} : Pl n (.bl b)
  | int {n : Nat} {i : Int} : Pl n (.int i)
  | str {n : Nat} {s : Str} : Pl n (.str s)
  | tup {n : Nat} {ds : List D} (h : ∀ d ∈ ds, Pl n d) (hl : ds.length ≤ 1000) : Pl (n + 1) (.tup ds)
  | lst {n : Nat} {ds : List D} (h : ∀ d ∈ ds, Pl n d) (hl : ds.length ≤ 1000) : Pl (n + 1) (.lst ds)
theorem Pl.up {n : Nat} {d : D} (h : Pl n d) : Pl (n + 1) d := by
  induction h with
  | non => exact .non
  | bl => exact .bl
  | int => exact .int
  | str => exact .str
  | tup h hl ih => exact .tup ih hl
  | lst h hl ih => exact .lst ih hl
theorem ki {K : PySem.W.Frag} {a b : String} {r : Bool} (h : kitB a b = some r := by decide +kernel) : PySem.W.kitOne K (.type a) (.type b) = some r := kit_ty h
theorem ki2 {K : PySem.W.Frag} {a b c : String} {r s : Bool} (h : kitB a b = some r := by decide +kernel) (g : kitB a c = some s := by decide +kernel) : PySem.W.kitAny K (.type a) [.type b, .type c] = some (r || s) := by
  refine kitAny_cons (kit_ty h) (fun e => ?_) fun e => by rw [e, Bool.true_or]
  refine kitAny_cons (kit_ty g) (fun e2 => ?_) fun e2 => by rw [e2, Bool.or_true]
  rw [e, e2]
  exact kitAny_nil
theorem all_true (n : Nat) : (List.replicate n true).all _root_.id = true := by
  induction n with
  | zero => rfl
  | succ n ih => rw [List.replicate_succ, List.all_cons, ih] <;> rfl
theorem zip_map (xs : List D) : (xs.zipWith (fun x y => D.tup [x, y]) xs).map (fun _ => D.bl true) = (List.replicate xs.length true).map .bl := by
  induction xs with
  | nil => rfl
  | cons x xs ih => rw [List.zipWith_cons_cons, List.map_cons, ih, List.length_cons, List.replicate_succ, List.map_cons]
theorem zip_mem {xs : List D} : ∀ {z : D}, z ∈ xs.zipWith (fun x y => D.tup [x, y]) xs → ∃ x ∈ xs, z = .tup [x, x] := by
  induction xs with
  | nil => intro z h; simp at h
  | cons x xs ih =>
    intro z h
    rw [List.zipWith_cons_cons] at h
    rcases List.mem_cons.mp h with e | h
    · exact ⟨x, List.mem_cons_self, e⟩
    · obtain ⟨y, hy, e⟩ := ih h
      exact ⟨y, List.mem_cons_of_mem _ hy, e⟩
section
variable {P : Program} {w : World} {K : PySem.W.Frag} {mg : Str → Option Value} {base : Heap} {C : Addr} {G : Gc}
def cSame (n : Nat) : List D → (D → Prop) → Prop := fun ds KK => ∃ d, ds = [d, d] ∧ Pl n d ∧ KK (.bl true)
abbrev nSame : List Str := ["_law_got", "_law_goal", "_law_mine_so", "_law_own"]
theorem scSame : FnScope nSame ["_law_got", "_law_goal"] (defScope tSame) := ⟨rfl, rfl, rfl, by decide +kernel, rfl, by decide +kernel, by decide +kernel⟩
structure Zs (mg : Str → Option Value) : Prop where
  isi : mg "isinstance" = none
  lst : mg "list" = none
  tup : mg "tuple" = none
  len : mg "len" = none
  all : mg "all" = none
  zip : mg "zip" = none
  bl : mg "bool" = none
  str : mg "str" = none
  int : mg "int" = none
section
variable {f : Addr} {n : Nat} {cdv : Value} {A : Around} {outer : List Env} {s : Shared} {H : Hp} {E : XK} {Kd : D → Prop} {d : D} {u : V} {T : String}
abbrev xSame (P : Program) (w : World) (K : PySem.W.Frag) (mg : Str → Option Value) (base : Heap) (f : Addr) (cdv : Value) (A : Around) (outer : List Env) (s : Shared) (H : Hp) (E : XK) : Cx := (cxOf CX0 P w K mg base nSame "_law_same" (defScope tSame) f cdv A outer s H E).nox
/-- neither a list nor a tuple: a bool or a text -/
theorem same_bs (hG : G.K = K) (Z : Zs mg) {x3 x4 : Bool} (hf : flat d = some u) (hc : d.cl G = some (.type T)) (hs : scal u u = true) (hN : ∀ (F : Hp) v, rep G F d v → decide (v = V.non) = decide (u = V.non)) (hu : decide (u = V.non) = false)
    (k1 : kitB T "list" = some false) (k2 : kitB T "tuple" = some false) (k3 : kitB T "bool" = some x3) (k4 : kitB T "str" = some x4) (h34 : (x3 || x4) = true) (own : ∀ c fs, d = .ins c fs → Own G.K (G.cl c)) (k : Kd (.bl true)) :
    WB (xSame P w K mg base f cdv A outer s H E) G (En0 nSame ([d, d].map .val)) (defBody tSame) (Ret Kd) := by
  refine wb_cons <| ws_if <| wt_val <| we_callB (id := "isinstance") (by rfl) Z.isi <| wa_cons <| we_name (.tl .hd) <| wa_cons <| we_tup <| wa_cons <| we_ty (n := "list") (by rfl) Z.lst <| wa_cons <| we_ty (n := "tuple") (by rfl) Z.tup <| wa_nil ⟨by show 2 ≤ 100000; decide,
    wa_nil <| cd_isiT (us := [.type "list", .type "tuple"]) hG hc rfl (ki2 k1 k2) ⟨_, rfl, fun h => absurd h Bool.false_ne_true, fun _ => wb_nil ?_⟩ own⟩
  refine wb_cons <| ws_if <| wt_w <| ww_or <| wt_cmp <| we_name (.tl .hd) <| we_non <| bo_isN hN ⟨_, rfl, fun h => absurd (hu.symm.trans h) Bool.false_ne_true, fun _ => ?_⟩
  refine ww_or1 <| wt_val <| we_callB (id := "isinstance") (by rfl) Z.isi <| wa_cons <| we_name (.tl .hd) <| wa_cons <| we_tup <| wa_cons <| we_ty (n := "bool") (by rfl) Z.bl <| wa_cons <| we_ty (n := "str") (by rfl) Z.str <| wa_nil ⟨by show 2 ≤ 100000; decide,
    wa_nil <| cd_isiT (us := [.type "bool", .type "str"]) hG hc rfl (ki2 k3 k4) ⟨_, rfl, fun _ => ?_, fun h => absurd (h34.symm.trans h) (by decide)⟩ own⟩
  refine wb_one <| ws_ret <| we_and <| we_cmp <| we_name .hd <| we_name (.tl .hd) <| bo_eq hf hf hs ⟨_, rfl, fun _ => ?_, fun h => absurd h (by simp)⟩
  refine we_and <| we_cmp <| we_callB (id := "isinstance") (by rfl) Z.isi <| wa_cons <| we_name .hd <| wa_cons <| we_ty (n := "bool") (by rfl) Z.bl <| wa_nil <| cd_isi hG hc rfl (kit_ty k3) (we_callB (id := "isinstance") (by rfl) Z.isi <| wa_cons <| we_name (.tl .hd) <| wa_cons <| we_ty (n := "bool") (by rfl) Z.bl <| wa_nil <|
    cd_isi hG hc rfl (kit_ty k3) (bo_eq rfl rfl rfl ⟨_, rfl, fun _ => ?_, fun h => absurd h (by simp)⟩) own) own
  refine we_one <| we_cmp <| we_cmp <| we_name .hd <| we_non <| bo_isN hN <| we_cmp <| we_name (.tl .hd) <| we_non <| bo_isN hN <| bo_eq rfl rfl rfl ?_
  have e : decide (V.bl (decide (u = V.non)) = V.bl (decide (u = V.non))) = true := by simp
  rw [e]
  exact k
theorem same_int (hG : G.K = K) (Z : Zs mg) {i : Int} (k : Kd (.bl true)) : WB (xSame P w K mg base f cdv A outer s H E) G (En0 nSame ([D.int i, .int i].map .val)) (defBody tSame) (Ret Kd) := by
  have hN : ∀ (F : Hp) v, rep G F (.int i) v → decide (v = V.non) = decide (V.int i = V.non) := fun F v r => by rw [rep_int r]
  refine wb_cons <| ws_if <| wt_val <| we_callB (id := "isinstance") (by rfl) Z.isi <| wa_cons <| we_name (.tl .hd) <| wa_cons <| we_tup <| wa_cons <| we_ty (n := "list") (by rfl) Z.lst <| wa_cons <| we_ty (n := "tuple") (by rfl) Z.tup <| wa_nil ⟨by show 2 ≤ 100000; decide,
    wa_nil <| cd_isiT (us := [.type "list", .type "tuple"]) hG rfl rfl (ki2 (r := false) (s := false)) ⟨_, rfl, fun h => absurd h Bool.false_ne_true, fun _ => wb_nil ?_⟩⟩
  refine wb_cons <| ws_if <| wt_w <| ww_or <| wt_cmp <| we_name (.tl .hd) <| we_non <| bo_isN hN ⟨_, rfl, fun h => absurd h (by simp), fun _ => ?_⟩
  refine ww_or1 <| wt_val <| we_callB (id := "isinstance") (by rfl) Z.isi <| wa_cons <| we_name (.tl .hd) <| wa_cons <| we_tup <| wa_cons <| we_ty (n := "bool") (by rfl) Z.bl <| wa_cons <| we_ty (n := "str") (by rfl) Z.str <| wa_nil ⟨by show 2 ≤ 100000; decide,
    wa_nil <| cd_isiT (us := [.type "bool", .type "str"]) hG rfl rfl (ki2 (r := false) (s := false)) ⟨_, rfl, fun h => absurd h Bool.false_ne_true, fun _ => wb_nil ?_⟩⟩
  refine wb_one <| ws_ret <| we_and <| we_callB (id := "isinstance") (by rfl) Z.isi <| wa_cons <| we_name .hd <| wa_cons <| we_ty (n := "int") (by rfl) Z.int <| wa_nil <| cd_isi hG rfl rfl (ki (r := true)) ⟨_, rfl, fun _ => ?_, fun h => absurd h (by decide)⟩
  refine we_and <| we_not <| we_callB (id := "isinstance") (by rfl) Z.isi <| wa_cons <| we_name .hd <| wa_cons <| we_ty (n := "bool") (by rfl) Z.bl <| wa_nil <| cd_isi hG rfl rfl (ki (r := false)) ⟨_, rfl, _, rfl, fun _ => ?_, fun h => absurd h (by decide)⟩
  refine we_one <| we_cmp <| we_name .hd <| we_name (.tl .hd) <| bo_eq rfl rfl rfl ?_
  have e : decide (V.int i = V.int i) = true := by simp
  rw [e]
  exact k
theorem same_non (hG : G.K = K) (Z : Zs mg) (k : Kd (.bl true)) : WB (xSame P w K mg base f cdv A outer s H E) G (En0 nSame ([D.non, .non].map .val)) (defBody tSame) (Ret Kd) := by
  have hN : ∀ (F : Hp) v, rep G F .non v → decide (v = V.non) = decide (V.non = V.non) := fun F v r => by rw [rep_non r]
  refine wb_cons <| ws_if <| wt_val <| we_callB (id := "isinstance") (by rfl) Z.isi <| wa_cons <| we_name (.tl .hd) <| wa_cons <| we_tup <| wa_cons <| we_ty (n := "list") (by rfl) Z.lst <| wa_cons <| we_ty (n := "tuple") (by rfl) Z.tup <| wa_nil ⟨by show 2 ≤ 100000; decide,
    wa_nil <| cd_isiT (us := [.type "list", .type "tuple"]) hG rfl rfl (ki2 (r := false) (s := false)) ⟨_, rfl, fun h => absurd h Bool.false_ne_true, fun _ => wb_nil ?_⟩⟩
  refine wb_cons <| ws_if <| wt_w <| ww_or <| wt_cmp <| we_name (.tl .hd) <| we_non <| bo_isN hN ⟨_, rfl, fun _ => ⟨fun _ => ?_, fun h => absurd h (by decide)⟩, fun h => absurd h (by simp)⟩
  refine wb_one <| ws_ret <| we_and <| we_cmp <| we_name .hd <| we_name (.tl .hd) <| bo_eq (u := .non) (v := .non) rfl rfl rfl ⟨_, rfl, fun _ => ?_, fun h => absurd h (by simp)⟩
  refine we_and <| we_cmp <| we_callB (id := "isinstance") (by rfl) Z.isi <| wa_cons <| we_name .hd <| wa_cons <| we_ty (n := "bool") (by rfl) Z.bl <| wa_nil <| cd_isi hG rfl rfl (ki (r := false)) (we_callB (id := "isinstance") (by rfl) Z.isi <| wa_cons <| we_name (.tl .hd) <| wa_cons <| we_ty (n := "bool") (by rfl) Z.bl <| wa_nil <|
    cd_isi hG rfl rfl (ki (r := false)) (bo_eq (u := .bl false) (v := .bl false) rfl rfl rfl ⟨_, rfl, fun _ => ?_, fun h => absurd h (by simp)⟩))
  refine we_one <| we_cmp <| we_cmp <| we_name .hd <| we_non <| bo_isN hN <| we_cmp <| we_name (.tl .hd) <| we_non <| bo_isN hN <| bo_eq rfl rfl rfl ?_
  have e : decide (V.bl (decide (V.non = V.non)) = V.bl (decide (V.non = V.non))) = true := by simp
  rw [e]
  exact k
end
end

section
variable {P : Program} {w : World} {K : PySem.W.Frag} {mg : Str → Option Value} {base : Heap} {G : Gc}
section
variable {f : Addr} {fd : FuncData} {n k : Nat} {cdv : Value} {A : Around} {outer : List Env} {s : Shared} {H : Hp} {E : XK} {Kd : D → Prop} {d : D} {xs : List D} {T : String} {b1 b2 : Bool}
theorem same_seq (hG : G.K = K) (Z : Zs mg) (R : FnOk P w K mg base CX0 k f fd ["_law_got", "_law_goal"] (spP G (cSame n))) (hr : Room k (A.deeper (envOfC "_law_same" (defScope tSame) s.heap.objs.size f cdv))) (bd : Binds K fd ["_law_got", "_law_goal"] []) (ms : mg "_law_same" = some (.ref f)) (ks : PySem.W.keepIn K (.ref f) = true)
    (hd : d = .lst xs ∨ d = .tup xs) (hc : d.cl G = some (.type T)) (k1 : kitB T "list" = some b1) (k2 : kitB T "tuple" = some b2) (h12 : (b1 || b2) = true) (hp : ∀ x ∈ xs, Pl n x) (hl : xs.length ≤ 1000) (kk : Kd (.bl true)) :
    WB (xSame P w K mg base f cdv A outer s H E) G (En0 nSame ([d, d].map .val)) (defBody tSame) (Ret Kd) := by
  have hN := scSame.nd
  have own : ∀ c fs, d = .ins c fs → Own G.K (G.cl c) := fun c fs e => by rcases hd with h | h <;> (rw [h] at e; cases e)
  refine wb_cons <| ws_if <| wt_val <| we_callB (id := "isinstance") (by rfl) Z.isi <| wa_cons <| we_name (.tl .hd) <| wa_cons <| we_tup <| wa_cons <| we_ty (n := "list") (by rfl) Z.lst <| wa_cons <| we_ty (n := "tuple") (by rfl) Z.tup <| wa_nil ⟨by show 2 ≤ 100000; decide,
    wa_nil <| cd_isiT (us := [.type "list", .type "tuple"]) hG hc rfl (ki2 k1 k2) ⟨_, rfl, fun _ => ?_, fun h => absurd (h12.symm.trans h) (by decide)⟩ own⟩
  refine wb_cons <| ws_if <| wt_w <| ww_or <| wt_cmp <| we_callB (id := "isinstance") (by rfl) Z.isi <| wa_cons <| we_name .hd <| wa_cons <| we_ty (n := "list") (by rfl) Z.lst <| wa_nil <| cd_isi hG hc rfl (kit_ty k1) (we_callB (id := "isinstance") (by rfl) Z.isi <| wa_cons <| we_name (.tl .hd) <| wa_cons <| we_ty (n := "list") (by rfl) Z.lst <| wa_nil <|
    cd_isi hG hc rfl (kit_ty k1) (bo_ne rfl rfl rfl ⟨_, rfl, fun h => absurd h (by simp), fun _ => ?_⟩) own) own
  refine ww_or1 <| wt_cmp <| we_callB (id := "isinstance") (by rfl) Z.isi <| wa_cons <| we_name .hd <| wa_cons <| we_ty (n := "tuple") (by rfl) Z.tup <| wa_nil <| cd_isi hG hc rfl (kit_ty k2) (we_callB (id := "isinstance") (by rfl) Z.isi <| wa_cons <| we_name (.tl .hd) <| wa_cons <| we_ty (n := "tuple") (by rfl) Z.tup <| wa_nil <|
    cd_isi hG hc rfl (kit_ty k2) (bo_ne rfl rfl rfl ⟨_, rfl, fun h => absurd h (by simp), fun _ => wb_nil ?_⟩) own) own
  refine wb_one <| ws_ret <| we_and <| we_cmp <| we_callB (id := "len") (by rfl) Z.len <| wa_cons <| we_name .hd <| wa_nil <| cd_len (xs := xs) hG hd <| we_callB (id := "len") (by rfl) Z.len <| wa_cons <| we_name (.tl .hd) <| wa_nil <| cd_len (xs := xs) hG hd <| bo_eq rfl rfl rfl ⟨_, rfl, fun _ => ?_, fun h => absurd h (by simp)⟩
  refine we_one <| we_callB (id := "all") (by rfl) Z.all <| wa_cons <| we_new <| wl_map (own := [("_law_mine_so", 2), ("_law_own", 3)]) (fun _ => .bl true) hG rfl hN (blkOk_by (show blkC nSame (defScope tSame) _ _ = true by decide +kernel))
    (fun _ _ _ _ _ => tgOk_two hN rfl (h2 := fun i j hi hj => pg_tup rfl (pgs_cons (pg_name hN hi (Or.inl rfl)) (pgs_cons (pg_name hN hj (Or.inl rfl)) pgs_nil)))) <| wi_zip hG Z.zip <| wa_cons <| we_name .hd <| wa_cons <| we_name (.tl .hd) <| wa_nil ⟨xs, xs, ?_, ?_⟩
  · rcases hd with h | h
    · exact .inl (by rw [h])
    · exact .inr (by rw [h])
  · refine ⟨_, .cons (.tl (.tl .hd)) (.cons (.tl (.tl (.tl .hd))) .nil), ?_, fun z hz => ?_, ?_⟩
    · rw [List.length_zipWith]
      omega
    · obtain ⟨x, hx, rfl⟩ := zip_mem hz
      refine ⟨_, _, .two, rfl, .cons (.tl (.tl .hd)) (.cons (.tl (.tl (.tl .hd))) .nil), fun _ _ _ _ _ => ?_⟩
      refine we_call R hr ms ks bd dfl_nil <| wa_cons <| we_name (.tl (.tl .hd)) <| wa_cons <| we_name (.tl (.tl (.tl .hd))) <| wa_nil ⟨x, rfl, hp x hx, rfl, .cons (.tl (.tl .hd)) (.cons (.tl (.tl (.tl .hd))) .nil)⟩
    · rw [zip_map]
      refine wa_nil <| cd_all hG rfl ?_
      rw [all_true]
      exact kk
end
/-- what stands in the written part of the def itself -/
theorem ok_same {f : Addr} {fd : FuncData} (F : Fun K "_law_same" "_law_same" tSame f fd) (hG : G.K = K) (Z : Zs mg) (bd : Binds K fd ["_law_got", "_law_goal"] []) (ms : mg "_law_same" = some (.ref f)) (ks : PySem.W.keepIn K (.ref f) = true) :
    ∀ n : Nat, FnOk P w K mg base CX0 (n + 1) f fd ["_law_got", "_law_goal"] (spP G (cSame n)) := by
  intro n
  induction n with
  | zero =>
    refine def_p F scSame (fun ds Kd h => ?_) (fun cdv A outer s H E ds Kd hr h => ?_)
    · obtain ⟨d, rfl, _⟩ := h
      rfl
    · obtain ⟨d, rfl, pl, k⟩ := h
      cases pl with
      | @bl _ b => exact same_bs (u := .bl b) (T := "bool") (x3 := true) (x4 := false) hG Z rfl rfl rfl (fun F v r => by rw [rep_bl r]) (by simp) (by decide +kernel) (by decide +kernel) (by decide +kernel) (by decide +kernel) rfl (fun _ _ e => nomatch e) k
      | @str _ x => exact same_bs (u := .str x) (T := "str") (x3 := false) (x4 := true) hG Z rfl rfl rfl (fun F v r => by rw [rep_str r]) (by simp) (by decide +kernel) (by decide +kernel) (by decide +kernel) (by decide +kernel) rfl (fun _ _ e => nomatch e) k
      | @int _ i => exact same_int hG Z k
      | non => exact same_non hG Z k
  | succ n ih =>
    refine def_p F scSame (fun ds Kd h => ?_) (fun cdv A outer s H E ds Kd hr h => ?_)
    · obtain ⟨d, rfl, _⟩ := h
      rfl
    · obtain ⟨d, rfl, pl, k⟩ := h
      cases pl with
      | @bl _ b => exact same_bs (u := .bl b) (T := "bool") (x3 := true) (x4 := false) hG Z rfl rfl rfl (fun F v r => by rw [rep_bl r]) (by simp) (by decide +kernel) (by decide +kernel) (by decide +kernel) (by decide +kernel) rfl (fun _ _ e => nomatch e) k
      | @str _ x => exact same_bs (u := .str x) (T := "str") (x3 := false) (x4 := true) hG Z rfl rfl rfl (fun F v r => by rw [rep_str r]) (by simp) (by decide +kernel) (by decide +kernel) (by decide +kernel) (by decide +kernel) rfl (fun _ _ e => nomatch e) k
      | @int _ i => exact same_int hG Z k
      | non => exact same_non hG Z k
      | tup hp hl => exact same_seq (T := "tuple") (b1 := false) (b2 := true) hG Z ih hr bd ms ks (.inr rfl) rfl (by decide +kernel) (by decide +kernel) rfl hp hl k
      | lst hp hl => exact same_seq (T := "list") (b1 := true) (b2 := false) hG Z ih hr bd ms ks (.inl rfl) rfl (by decide +kernel) (by decide +kernel) rfl hp hl k
end

section
variable {X : Cx} {G : Gc} {KD : D → Prop} {i j : Int}
theorem bo_mulX {a b : Nat} (ha : i.natAbs < 2 ^ a) (hb : j.natAbs < 2 ^ b) (h : a + b ≤ 134217728) (k : KD (.int (i * j))) : BO X G (binaryOp .Mult) (.int i) (.int j) KD := bo_II op_mulX (mulx_ok ha hb h) k
end
section
variable {P : Program} {w : World} {K : PySem.W.Frag} {mg : Str → Option Value} {base : Heap} {G : Gc}
def cBox : List D → (D → Prop) → Prop := fun ds KK => ∃ (B : Nat) (ns : List Int) (k : Nat), ds = [.lst (ns.map .int), .int (k : Nat)] ∧ k < ns.length ∧ ns.length ≤ 3 ∧ B ≤ 100000000 ∧ (∀ n ∈ ns, n.natAbs < 2 ^ B) ∧ ∀ a b : Int, 0 ≤ b → b < 2 ^ 64 → KK (.lst [.int a, .int b, .int 0])
abbrev nBox : List Str := ["_law_script", "_law_k", "_law_cell"]
theorem scBox : FnScope nBox ["_law_script", "_law_k"] (defScope tBox) := ⟨rfl, rfl, rfl, by decide +kernel, rfl, by decide +kernel, by decide +kernel⟩
theorem ab_nat (i : Int) : (if i < 0 then -i else i).natAbs = i.natAbs := by split <;> omega
theorem b01 (b : Bool) : ((if b then 1 else 0 : Int)).natAbs < 2 ^ 1 := by cases b <;> decide
theorem at_int {ns : List Int} {k : Nat} (h : k < ns.length) : atI (ns.map D.int) (k : Int) = some (.int ns[k]) := by
  unfold atI
  have e : ixN (ns.map D.int).length (k : Int) = some k := by
    rw [List.length_map]
    unfold ixN
    rw [if_pos (by omega), if_pos (by omega)]
    simp
  rw [e]
  show (ns.map D.int)[k]? = _
  rw [List.getElem?_map, List.getElem?_eq_getElem h] <;> rfl
end

open Evl (Ex ex_l ex_t)
section
variable {X : Cx} {G : Gc} {Γ : En} {a b : Expr} {pos : Pos} {KA : List D → En → Prop}
theorem wl_one {op} (h : WL X G Γ a KA) : WL X G Γ (.BoolOp op [a] pos) KA := .of fun σ F H Q E q => PE.se (pe_one pe_S) (h σ F H Q E q)
/-- a or b, both new lists -/
theorem wl_or (hK : G.K = X.K) (h : WL X G Γ a fun ds Γ1 => (ds ≠ [] → KA ds Γ1) ∧ (ds = [] → WL X G Γ1 b KA)) : WL X G Γ (.BoolOp .Or [a, b] pos) KA := .of fun σ F H Q E q => by
  refine PE.se (pe_orT pe_S pe_S) ?_
  refine h σ F H _ E fun ds Γ1 p vs F1 H1 s1 E1 o1 hp hf hp1 r1 k1 => ?_
  have hx : Ex F1 (upd F1 p (.lst vs)) := Ex.new hf
  have hy : Ex (upd F1 p (.lst vs)) H1 := fun x u z => by
    by_cases e : x = p
    · subst e
      rw [upd_same] at z
      cases z
      exact hp1
    · rw [upd_ne e] at z
      exact E1.ex x u z
  refine ⟨!ds.isEmpty, truV hK hy (show tru (.lst ds) = some (!ds.isEmpty) from rfl) (r_lst upd_same (reps_mono hx _ _ r1)), ?_⟩
  cases ds with
  | nil =>
    refine iteF ?_
    refine wl_one (k1.2 rfl) σ F1 H1 Q E1 fun ds Γ' p2 vs2 F' H' s E' o h1 h2 h3 r k => ?_
    exact q ds Γ' p2 vs2 F' H' (stp s1 o1 s) E' (fun a z => o1 a (o a z)) (s1.back h1) h2 h3 r k
  | cons d t =>
    refine iteT ?_
    exact q _ Γ1 p vs F1 H1 s1 E1 o1 hp hf hp1 r1 (k1.1 (by simp))
variable {e : Expr} {p2 : Pos}
theorem rep_seq {F : L2.Hp} {ds : List D} {v : V} (h : rep G F (.seq ds) v) : ∃ a vs, v = .ref a ∧ SqL G.K F a vs ∧ reps G F ds vs := by unfold rep at h; exact h
/-- xs[lo:hi] of a list wherever it stands -/
theorem wl_sliceQ {lo hi : Option Expr} (hK : G.K = X.K) (h : WE X G Γ e fun d Γ1 => ∃ xs, d = .seq xs ∧ Bd X G Γ1 lo fun l Γ2 => Bd X G Γ2 hi fun u Γ3 => KA (Dv.cutD xs l u) Γ3) : WL X G Γ (.Subscript e (.Slice lo hi none p2) pos) KA := .of fun σ F H Q E q => by
  refine PE.se (pe_slice sl_list pe_S po_S po_S) ?_
  refine h σ F H _ E fun d Γ1 v F1 H1 s1 E1 o1 r1 k1 => ?_
  obtain ⟨xs, rfl, k1⟩ := k1
  refine k1.run E1 fun l Γ2 F2 H2 s2 E2 o2 k2 => ?_
  refine k2.run E2 fun u Γ3 F3 H3 s3 E3 o3 k3 => ?_
  obtain ⟨a, us, rfl, hs, ru⟩ := rep_seq (rep_mono (s2.ex.trans s3.ex) _ _ r1)
  rw [hK] at hs
  have st1 := stp (stp s1 o1 s2) (fun a h => o1 a (o2 a h)) s3
  refine ⟨a, us, rfl, ex_l E3.ex hs, fun p hp => ?_⟩
  have st : Step No F3 H3 F3 (upd H3 p (.lst (cutV us l u))) := Step.lay0 E3.ex hp
  exact q _ Γ3 p _ F3 _ (stpN st1 st) (E3.step st) (fun a h => o1 a (o2 a (o3 a h))) (st1.back hp) (ex_none E3.ex hp) upd_same (cut_reps ru) k3
end

theorem cut_map {α : Type} (g : α → D) (ns : List α) (lo hi : Option Int) : ∃ a b : Nat, Dv.cutD (ns.map g) lo hi = ((ns.drop a).take b).map g :=
  ⟨HT.sIx (ns.map g).length 0 lo, HT.sIx (ns.map g).length (ns.map g).length hi - HT.sIx (ns.map g).length 0 lo, by unfold Dv.cutD; rw [List.map_take, List.map_drop]⟩
theorem cut_take {α : Type} (g : α → D) (ns : List α) (k : Nat) : Dv.cutD (ns.map g) none (some (k : Int)) = (ns.take k).map g := by
  have e : HT.sIx (ns.map g).length (ns.map g).length (some (k : Int)) = min k ns.length := by
    unfold HT.sIx
    simp only [List.length_map]
    rw [if_neg (by omega)]
    simp
  unfold Dv.cutD
  rw [e]
  show ((ns.map g).drop 0).take (min k ns.length - 0) = _
  rw [List.drop_zero, Nat.sub_zero, List.map_take]
  by_cases h : k ≤ ns.length
  · rw [Nat.min_eq_left h]
  · rw [Nat.min_eq_right (by omega), List.take_of_length_le (by simp), List.take_of_length_le (by simp; omega)]
theorem cut_from {α : Type} (g : α → D) (ns : List α) (k m : Nat) : ∃ b : Nat, Dv.cutD (ns.map g) (some (k : Int)) (some (m : Int)) = ((ns.drop k).take b).map g := by
  have e : HT.sIx (ns.map g).length 0 (some (k : Int)) = min k ns.length := by
    unfold HT.sIx
    simp only [List.length_map]
    rw [if_neg (by omega)]
    simp
  refine ⟨HT.sIx (ns.map g).length (ns.map g).length (some (m : Int)) - min k ns.length, ?_⟩
  unfold Dv.cutD
  rw [e, List.map_take, List.map_drop]
  by_cases h : k ≤ ns.length
  · rw [Nat.min_eq_left h]
  · rw [Nat.min_eq_right (by omega), List.drop_of_length_le (by simp), List.drop_of_length_le (by simp; omega)]
section
variable {P : Program} {w : World} {K : PySem.W.Frag} {mg : Str → Option Value} {base : Heap} {G : Gc}
def cCells : List D → (D → Prop) → Prop := fun ds KK => ∃ (B : Nat) (ns : List Int), ds = [.seq (ns.map .int), .int 3] ∧ ns.length ≤ 63 ∧ B ≤ 2000000 ∧ (∀ n ∈ ns, n.natAbs < 2 ^ B) ∧
  ∀ cs : List Int, 1 ≤ cs.length → cs.length ≤ 3 → (∀ c ∈ cs, c.natAbs < 2 ^ (B + 14)) → KK (.lst (cs.map .int))
abbrev nCells : List Str := ["_law_script", "_law_top", "_law_cells_here", "_law_k", "_law_cell", "_law_at_so"]
theorem scCells : FnScope nCells ["_law_script", "_law_top"] (defScope tCells) := ⟨rfl, rfl, rfl, by decide +kernel, rfl, by decide +kernel, by decide +kernel⟩
theorem ok_cells {f : Addr} {fd : FuncData} (F : Fun K "_law_cells" "_law_cells" tCells f fd) (hG : G.K = K) (zl : mg "list" = none) (zi : mg "int" = none) (ze : mg "enumerate" = none) : FnOk P w K mg base CX0 1 f fd ["_law_script", "_law_top"] (spP G cCells) := by
  refine def_p F scCells (fun ds Kd h => ?_) (fun cdv A outer s H E ds Kd hr h => ?_)
  · obtain ⟨B, ns, rfl, _⟩ := h
    rfl
  · obtain ⟨B, ns, rfl, hl, hB, hb, kk⟩ := h
    have hN := scCells.nd
    have tail : ∀ cs : List Int, 1 ≤ cs.length → cs.length ≤ 3 → (3 ≤ ns.length → cs.length = 3) → (∀ c ∈ cs, c.natAbs ≤ 128 * 2 ^ B) →
        WB (cxOf CX0 P w K mg base nCells "_law_cells" (defScope tCells) f cdv A outer s H E).nox G [("_law_script", .val (.seq (ns.map .int))), ("_law_top", .val (.int 3)), ("_law_cells_here", .own (.lst (cs.map .int))), ("_law_k", .un), ("_law_cell", .un), ("_law_at_so", .un)] ((defBody tCells).drop 1) (Ret Kd) := fun cs c1 c3 c33 cb => by
      obtain ⟨b, eb⟩ := cut_from D.int ns 3 63
      refine wb_cons <| ws_for ["_law_k", "_law_cell"] hG rfl PassesOwn.never (tgOk_two hN rfl (h2 := fun i j hi hj => pg_tup rfl (pgs_cons (pg_name hN hi (Or.inl rfl)) (pgs_cons (pg_name hN hj (Or.inl rfl)) pgs_nil)))) <| wi_enum hG ze <| we_new <| wl_sliceQ hG <| we_name .hd
        ⟨_, rfl, .some <| we_name (.tl .hd) ⟨3, rfl, .some <| we_int ⟨63, rfl, _, rfl, fun i Γ2 => ∃ (ds : List Int) (t1 t2 t3 : Sl), Γ2 = ([("_law_script", .val (.seq (ns.map .int))), ("_law_top", .val (.int 3)), ("_law_cells_here", .own (.lst (ds.map .int))), ("_law_k", t1), ("_law_cell", t2), ("_law_at_so", t3)] : En) ∧ ds.length = cs.length ∧ (∀ c ∈ ds, c.natAbs ≤ (i + 1) * (128 * 2 ^ B)),
          ⟨cs, .un, .un, .un, rfl, rfl, by simpa using cb⟩, fun i z Γ2 hz hpv => ?_, fun Γ2 hpv => ?_⟩⟩⟩
      · obtain ⟨ds, t1, t2, t3, rfl, dl, db⟩ := hpv
        rw [show Dv.cutD (ns.map D.int) (some 3) (some 63) = ((ns.drop 3).take b).map D.int from eb] at hz
        obtain ⟨c, hc, rfl⟩ : ∃ c, ((ns.drop 3).take b)[i]? = some c ∧ z = .tup [.int (i : Nat), .int c] := by
          rw [List.getElem?_map, List.getElem?_zipIdx, List.getElem?_map] at hz
          cases e : ((ns.drop 3).take b)[i]? with
          | none => rw [e] at hz; cases hz
          | some x =>
            rw [e] at hz
            refine ⟨x, rfl, ?_⟩
            have hz := Option.some.inj hz
            rw [← hz]
            simp
        have hi := (List.getElem?_eq_some_iff.mp hc).1
        rw [List.length_take, List.length_drop] at hi
        have l3 := c33 (by omega)
        have hcm : c ∈ ns := List.mem_of_mem_drop (List.mem_of_mem_take (List.mem_of_getElem? hc))
        have hcb := hb c hcm
        refine ⟨_, _, .two, rfl, .cons (.tl (.tl (.tl .hd))) (.cons (.tl (.tl (.tl (.tl .hd)))) .nil), ?_⟩
        refine wb_cons <| ws_set hN <| we_bin <| we_callT (T := "int") (by rfl) zi <| wa_cons <| we_name (.tl (.tl (.tl .hd))) <| wa_nil <| cd_int <| we_name (.tl .hd) <| bo_mod (by decide) ⟨_, _, .tl (.tl (.tl (.tl (.tl .hd)))), ?_⟩
        obtain ⟨m0, m1⟩ := md (x := (i : Int)) (y := 3) (by decide)
        generalize ((i : Nat) : Int) % 3 = at_ at m0 m1
        obtain ⟨j, rfl⟩ : ∃ j : Nat, at_ = j := ⟨at_.toNat, by omega⟩
        have hj : j < ds.length := by omega
        refine wb_one <| ws_setOwn (s0 := .un) (ds0 := []) hN <| we_bin <| we_ixOwn hN (.tl (.tl .hd)) .own <| we_name (.tl (.tl (.tl (.tl (.tl .hd))))) ⟨_, _, (j : Int), _, .tl (.tl .hd), .own, rfl, at_int hj, ?_⟩
        refine we_bin <| we_name (.tl (.tl (.tl (.tl .hd)))) <| we_bin <| we_name (.tl (.tl (.tl .hd))) <| we_int <| bo_add <| bo_mulX (a := B) (b := 7) hcb (by omega) (by omega) <| bo_add ⟨_, _, .tl (.tl .hd), .own, we_name (.tl (.tl (.tl (.tl (.tl .hd))))) ⟨_, j, _, _, _, _, rfl, ?_, .tl (.tl .hd), .own, ?_⟩⟩
        · rw [List.length_map]
          unfold ixN
          rw [if_pos (by omega), if_pos (by omega)]
          simp
        · refine ⟨ds.set j (ds[j] + c * ((i : Int) + 2)), .val (.int (i : Nat)), .val (.int c), .val (.int (j : Nat)), ?_, by rw [List.length_set]; exact dl, fun e he => ?_⟩
          · rw [List.map_set] <;> rfl
          · rcases List.mem_or_eq_of_mem_set he with h | h
            · have := db e h
              refine Nat.le_trans this (Nat.mul_le_mul_right _ (by omega))
            · rw [h]
              have h1 := db ds[j] (List.getElem_mem hj)
              have h2 : (c * ((i : Int) + 2)).natAbs ≤ 128 * 2 ^ B := by
                rw [Int.natAbs_mul, Nat.mul_comm]
                exact Nat.mul_le_mul (by omega) (by omega)
              have h3 := Int.natAbs_add_le ds[j] (c * ((i : Int) + 2))
              have h4 : (i + 1 + 1) * (128 * 2 ^ B) = (i + 1) * (128 * 2 ^ B) + 128 * 2 ^ B := Nat.succ_mul _ _
              omega
      · obtain ⟨ds, t1, t2, t3, rfl, dl, db⟩ := hpv
        refine wb_one <| ws_ret <| we_freeze (.tl (.tl .hd)) (kk ds (by omega) (by omega) fun c hc => ?_)
        have h1 := db c hc
        have h2 : (((Dv.cutD (ns.map D.int) (some 3) (some 63)).zipIdx.map fun q => D.tup [.int (q.2 : Nat), q.1]).length + 1) * (128 * 2 ^ B) ≤ 64 * (128 * 2 ^ B) := by
          refine Nat.mul_le_mul_right _ ?_
          rw [show Dv.cutD (ns.map D.int) (some 3) (some 63) = ((ns.drop 3).take b).map D.int from eb]
          simp
          omega
        have h3 : 2 ^ (B + 14) = 2 ^ B * 16384 := by rw [Nat.pow_add]
        have h4 : 0 < 2 ^ B := Nat.pos_of_ne_zero (by simp)
        omega
    refine wb_cons <| ws_own hN <| wl_or hG <| wl_callT (T := "list") (by rfl) zl <| wa_cons <| we_new <| wl_sliceQ hG <| we_name .hd ⟨_, rfl, .none (.some (we_name (.tl .hd) ⟨3, rfl, wa_nil <| cl_list hG (.inl rfl) ⟨fun hne => ?_, fun he => wl_lst <| wa_cons <| we_int <| wa_nil ⟨by decide, _, _, .tl (.tl .hd), ?_⟩⟩⟩))⟩
    · rw [show Dv.cutD (ns.map D.int) none (some 3) = (ns.take 3).map D.int from cut_take D.int ns 3] at hne ⊢
      refine ⟨_, _, .tl (.tl .hd), tail (ns.take 3) ?_ (by rw [List.length_take]; omega) (fun h => by rw [List.length_take]; omega) fun c hc => ?_⟩
      · cases q : ns.take 3 with
        | nil => rw [q] at hne; exact absurd rfl hne
        | cons => simp
      · have := hb c (List.mem_of_mem_take hc)
        omega
    · rw [show Dv.cutD (ns.map D.int) none (some 3) = (ns.take 3).map D.int from cut_take D.int ns 3] at he
      refine tail [0] (by decide) (by decide) (fun h => ?_) fun c hc => ?_
      · have e : (ns.take 3).map D.int = [] := he
        have l := congrArg List.length e
        rw [List.length_map, List.length_take] at l
        have l2 : min 3 ns.length = 0 := l
        omega
      · rw [List.mem_singleton.mp hc]
        exact Nat.zero_le _
end

section
variable {P : Program} {w : World} {K : PySem.W.Frag} {mg : Str → Option Value} {base : Heap} {G : Gc}
def cBoxL : List D → (List D → Prop) → Prop := fun ds KK => ∃ (B : Nat) (ns : List Int) (k : Nat), ds = [.lst (ns.map .int), .int (k : Nat)] ∧ k < ns.length ∧ ns.length ≤ 3 ∧ B ≤ 100000000 ∧ (∀ n ∈ ns, n.natAbs < 2 ^ B) ∧ ∀ a b : Int, 0 ≤ b → b < 2 ^ 64 → KK [.int a, .int b, .int 0]
theorem ok_boxL {f : Addr} {fd : FuncData} (F : Fun K "_law_box" "_law_box" tBox f fd) (hG : G.K = K) (za : mg "abs" = none) (zi : mg "int" = none) (zn : mg "len" = none) : FnOk P w K mg base CX0 1 f fd ["_law_script", "_law_k"] (spL G cBoxL) := by
  refine def_l F scBox (fun ds Kd h => ?_) (fun cdv A outer s H E ds Kd hr h => ?_)
  · obtain ⟨B, ns, k, rfl, _⟩ := h
    rfl
  · obtain ⟨B, ns, k, rfl, hk, hl, hB, hb, kk⟩ := h
    have hN := scBox.nd
    have hc := hb ns[k] (List.getElem_mem hk)
    refine wbl_cons <| ws_set hN <| we_if <| wt_cmp <| we_name (.tl .hd) <| we_callB (id := "len") (by rfl) zn <| wa_cons <| we_name .hd <| wa_nil <| cd_len (xs := ns.map .int) hG (.inl rfl) <| bo_lt ⟨_, rfl, fun _ => ?_, fun h => ?_⟩
    · refine we_ix hG <| we_name .hd <| we_name (.tl .hd) ⟨_, _, _, .inl rfl, rfl, at_int hk, _, _, .tl (.tl .hd), ?_⟩
      generalize ns[k] = c at hc
      refine wbl_ret <| wl_lst <| wa_cons <| we_bin <| we_callB (id := "abs") (by rfl) za <| wa_cons <| we_name (.tl (.tl .hd)) <| wa_nil <| cd_abs <|
        we_callT (T := "int") (by rfl) zi <| wa_cons <| we_cmp <| we_callB (id := "abs") (by rfl) za <| wa_cons <| we_name (.tl (.tl .hd)) <| wa_nil <| cd_abs <| we_bin <| we_int <| we_int <| bo_pow (by decide) (by decide) (by decide) <| bo_ge <| wa_nil <| cd_intB <|
        bo_mulX (a := B) (b := 1) (by rw [ab_nat]; exact hc) ?_ (by omega) <| ?_
      · exact b01 _
      · refine wa_cons <| we_bin <| we_bin <| we_bin <| we_callT (T := "int") (by rfl) zi <| wa_cons <| we_name (.tl (.tl .hd)) <| wa_nil <| cd_int <| we_int <| bo_mod (by decide) <| we_bin <| we_int <| we_name (.tl .hd) <| bo_mul (a := 16) (b := 10) (by decide) (by omega) (by decide) (by decide) (by decide) <| bo_add <| we_int <| bo_add ?_
        refine wa_cons <| we_int <| wa_nil ⟨by show 3 ≤ 100000; decide, ?_⟩
        obtain ⟨m0, m1⟩ := md (x := c) (y := 2305843009213693951) (by decide)
        exact kk _ _ (by omega) (by omega)
    · rw [List.length_map] at h
      have := of_decide_eq_false h
      omega
end
/-! ### what is drawn: a set of at most 40 NAMEs -/
theorem oksB {ns : List Str} (h : ns.all PyData.strOk = true) : Oks ns := fun x hx => List.all_eq_true.mp h x hx
mutual
def plB : D → Nat → Bool
  | .non, _ => true
  | .bl _, _ => true
  | .int _, _ => true
  | .str _, _ => true
  | .tup ds, n + 1 => plsB ds n && decide (ds.length ≤ 1000)
  | .lst ds, n + 1 => plsB ds n && decide (ds.length ≤ 1000)
  | _, _ => false
def plsB : List D → Nat → Bool
  | [], _ => true
  | d :: r, n => plB d n && plsB r n
end
mutual
theorem plB_ok : ∀ {d : D} {n : Nat}, plB d n = true → Pl n d
  | .non, n, _ => .non
  | .bl b, n, _ => .bl
  | .int b, n, _ => .int
  | .str b, n, _ => .str
  | .tup ds, 0, h => by simp [plB] at h
  | .lst ds, 0, h => by simp [plB] at h
  | .tup ds, n + 1, h => by
    simp only [plB, Bool.and_eq_true, decide_eq_true_eq] at h
    exact .tup (plsB_ok h.1) h.2
  | .lst ds, n + 1, h => by
    simp only [plB, Bool.and_eq_true, decide_eq_true_eq] at h
    exact .lst (plsB_ok h.1) h.2
  | .ty _, n, h => by simp [plB] at h
  | .cls _, n, h => by simp [plB] at h
  | .ins _ _, n, h => by simp [plB] at h
  | .seq _, n, h => by simp [plB] at h
  | .exc _, n, h => by simp [plB] at h
  | .dic _, n, h => by simp [plB] at h
  | .ptup _, n, h => by simp [plB] at h
theorem plsB_ok : ∀ {ds : List D} {n : Nat}, plsB ds n = true → ∀ d ∈ ds, Pl n d
  | [], n, _, d, h => by simp at h
  | x :: r, n, h, d, hd => by
    simp only [plsB, Bool.and_eq_true] at h
    rcases List.mem_cons.mp hd with e | hd
    · rw [e]; exact plB_ok h.1
    · exact plsB_ok h.2 d hd
end
theorem o_eqS {X : Cx} {G : Gc} {a b : Str} {c : Bool} {K : D → Prop} (h : decide (a = b) = c) (k : K (.bl c)) : BO X G (compareOp .Eq) (.str a) (.str b) K := by
  refine bo_eq rfl rfl rfl ?_
  have e : decide (V.str a = V.str b) = c := by
    rw [← h]
    by_cases q : a = b
    · subst q; simp
    · rw [decide_eq_false q, decide_eq_false fun z => q (by injection z)]
  rw [e]
  exact k
theorem atI_nat {α : Type} {xs : List α} {v : Int} (v0 : 0 ≤ v) (v1 : v < xs.length) : ∃ z, atI xs v = some z ∧ z ∈ xs := by
  have h : v.toNat < xs.length := by omega
  refine ⟨xs[v.toNat], ?_, List.getElem_mem h⟩
  unfold atI
  have e : ixN xs.length v = some v.toNat := by
    unfold ixN
    rw [if_pos v0, if_pos v1]
  rw [e]
  exact List.getElem?_eq_getElem h
/-- a def under its name -/
structure FnC (P : Program) (w : World) (K : PySem.W.Frag) (mg : Str → Option Value) (base : Heap) (x : Str) (k : Nat) (ps : List Str) (sp : Sp) where
  f : Addr
  fd : FuncData
  ok : FnOk P w K mg base CX0 k f fd ps sp
  b : Binds K fd ps []
  m : mg x = some (.ref f)
  kp : PySem.W.keepIn K (.ref f) = true
abbrev nDraw : List Str := ["_law_urn", "_law_some_so"]
theorem scDraw : FnScope nDraw nDraw (defScope t__law_of) := ⟨rfl, rfl, rfl, by decide +kernel, rfl, by decide +kernel, by decide +kernel⟩
section
variable {P : Program} {w : World} {K : PySem.W.Frag} {mg : Str → Option Value} {base : Heap} {C : Addr} {G : Gc}
/-- one of these, drawn -/
def cDraw : Cn → List D → (D → Cn → Prop) → Prop := fun c ds KK => ∃ (m : Nat) (xs : List D), Urn m c ∧ m < 1000000 ∧ ds = [.lst xs] ∧ 0 < xs.length ∧ xs.length < 1000 ∧ ∀ (z : D) c', z ∈ xs → Urn (m + 1) c' → KK z c'
theorem ok_draw {f fT : Addr} {fd fdT : FuncData} (F : Fun K "_law_of" "_law_of" t__law_of f fd) (hG : G.K = K) (zn : mg "len" = none)
    (T : FnOk P w K mg base CX0 1 fT fdT ["_law_urn", "_law_low_so"] (spU G cTake)) (bT : Binds K fdT ["_law_urn", "_law_low_so"] []) (mT : mg "_law_take" = some (.ref fT)) (kT : PySem.W.keepIn K (.ref fT) = true) :
    FnOk P w K mg base CX0 2 f fd nDraw (spU G cDraw) := by
  refine def_u F scDraw (fun c ds Kd h => ?_) (fun cdv A outer s H E p c ds Kd hr h => ?_)
  · obtain ⟨m, xs, _, _, rfl, _⟩ := h
    rfl
  · obtain ⟨m, xs, hu, hm, rfl, l0, l1, kk⟩ := h
    have hN := scDraw.nd
    refine wb_one <| ws_ret <| we_ix hG <| we_name (.tl .hd) <| we_callU hN T hr mT kT bT dfl_nil .hd .bor <| wa_cons <| we_callB (id := "len") (by rfl) zn <| wa_cons <| we_name (.tl .hd) <| wa_nil <| cd_len hG (.inl rfl) <| wa_nil
      ⟨_, _, .hd, .bor, m, xs.length, hu, hm, rfl, by omega, by omega, fun v c1 v0 v1 hu1 => ⟨_, _, .bor, .hd, ?_⟩⟩
    obtain ⟨z, h1, h2⟩ := atI_nat v0 v1
    exact ⟨xs, v, z, .inl rfl, rfl, h1, _, .hd, kk z c1 h2 hu1⟩
end
end Wf

set_option Elab.async false
set_option maxRecDepth 100000
set_option maxHeartbeats 4000000
namespace Ko
open PySem PySem.Spec PyProof.Rows L2 Dv TL
/-! ### texts of Labels, as lists of signs -/
def lets : List Nat := ("abcdefghijklmnopqrstuvwxyz" : Str).cps.toList
def low (c : Nat) : Bool := decide (c ∈ lets)
/-- a NAME -/
def nameB (s : Str) : Bool := decide (1 ≤ s.length) && decide (s.length ≤ 8) && (tl s).all low
abbrev px : Str := "* - "
def preB (s : Str) : Bool := (tl s).take 4 == tl px
def mkS (l : List Nat) : Str := ⟨l.toArray⟩
def cutL (s : Str) : List Str := (spl [32] 0 [] (tl s)).map mkS
def rst (s : Str) : Str := if preB s = true then mkS ((tl s).drop 4) else s
/-- the NAMEs and whether all others are meant, of a text -/
def readP (s : Str) : Option (List Str × Bool) :=
  if s = "-" then some ([], false) else if s = "*" then some ([], true)
  else if ((cutL (rst s)).all nameB && decide (cutL (rst s) = Dm.srt (cutL (rst s)))) = true then some (cutL (rst s), preB s) else none
theorem tl_sp : tl (" " : Str) = [32] := by decide +kernel
theorem tl_px : tl px = [42, 32, 45, 32] := by decide +kernel
theorem map_mk (l : List (List Nat)) : (l.map mkS).map tl = l := by
  rw [List.map_map]
  have : (tl ∘ mkS) = id := by funext x; rfl
  rw [this, List.map_id]
theorem split_cut (s : Str) : Txt.split s " " = cutL s := by
  refine map_tl_inj ?_
  rw [split_spl s " " (by rw [tl_sp]; simp) (kind_ok (by decide +kernel)), tl_sp]
  unfold cutL
  rw [map_mk]
theorem sub_pre (s : Str) : PySem.Builtin.Str.subAt s px 0 = preB s := by
  rw [PySem.StrLaws.subAt_eq]
  rfl
theorem px_len : px.length = 4 := by decide +kernel
theorem pre_len {s : Str} (h : preB s = true) : 4 ≤ s.length := by
  have e : (tl s).take 4 = tl px := eq_of_beq h
  have l := congrArg List.length e
  rw [List.length_take, tl_px] at l
  have l2 : min 4 (tl s).length = 4 := l
  rw [len_tl s]
  omega
theorem starts_pre (s : Str) : Txt.startswith s px = preB s := by
  unfold Txt.startswith
  rw [sub_pre]
  cases h : preB s with
  | false => simp
  | true =>
    have := pre_len h
    have e : decide (0 + px.length ≤ s.length) = true := decide_eq_true (by rw [px_len]; omega)
    rw [e] <;> rfl
theorem rm_rst (s : Str) : Txt.removeprefix s px = rst s := by
  unfold Txt.removeprefix rst
  rw [sub_pre]
  cases h : preB s with
  | false => rw [if_neg Bool.false_ne_true, if_neg Bool.false_ne_true] <;> rfl
  | true =>
    have l := pre_len h
    rw [if_pos rfl, if_pos rfl]
    show (if s.length - px.length == s.length then s else PySem.Builtin.Str.strSub s px.length s.length) = _
    rw [px_len]
    have e : (s.length - 4 == s.length) = false := beq_eq_false_iff_ne.mpr (by omega)
    rw [e, if_neg Bool.false_ne_true]
    exact ext_tl (tl_strSub_end s 4)
theorem cut_hd (s : Str) (k : Nat) : cutS s none (some (k : Int)) = mkS ((tl s).take k) := by
  unfold cutS mkS
  rw [HT.sIx_none, HT.sIx_nat, List.drop_zero, Nat.sub_zero]
  have e : List.take (min k s.length) (tl s) = List.take k (tl s) := by
    rw [len_tl s]
    by_cases h : k ≤ (tl s).length
    · rw [Nat.min_eq_left h]
    · rw [Nat.min_eq_right (by omega), List.take_of_length_le (Nat.le_refl _), List.take_of_length_le (by omega)]
  rw [show s.cps.toList = tl s from rfl, e]
theorem cut_tl (s : Str) (k : Nat) : cutS s (some (k : Int)) none = mkS ((tl s).drop k) := by
  unfold cutS mkS
  rw [HT.sIx_none, HT.sIx_nat]
  have e : List.take (s.length - min k s.length) (List.drop (min k s.length) (tl s)) = List.drop k (tl s) := by
    rw [len_tl s]
    by_cases h : k ≤ (tl s).length
    · rw [Nat.min_eq_left h, List.take_of_length_le (by rw [List.length_drop] <;> omega)]
    · rw [Nat.min_eq_right (by omega), Nat.sub_self, List.take_zero, List.drop_eq_nil_of_le (by omega)]
  rw [show s.cps.toList = tl s from rfl, e]
theorem pre_eq (s : Str) : decide (mkS ((tl s).take 4) = px) = preB s := by
  unfold preB
  by_cases h : mkS ((tl s).take 4) = px
  · rw [decide_eq_true h]
    have e : (tl s).take 4 = tl px := by rw [← h] <;> rfl
    rw [e] <;> rfl
  · rw [decide_eq_false h]
    exact (beq_eq_false_iff_ne.mpr fun e => h (ext_tl e)).symm
/-! ### how long, of which signs -/
theorem spl_ne (S : List Nat) : ∀ (k : Nat) (acc l : List Nat), spl S k acc l ≠ []
  | k, acc, [] => by rw [spl_nil]; simp
  | 0, acc, c :: r => by
    cases h : pre S (c :: r) with
    | true => rw [spl_hit h]; simp
    | false => rw [spl_miss h]; exact spl_ne S 0 _ r
  | k + 1, acc, c :: r => spl_ne S k acc r
theorem pre1 (c : Nat) (r : List Nat) : pre [32] (c :: r) = (c == 32) := by
  show ([c] == [32]) = (c == 32)
  cases h : c == 32 with
  | true => rw [eq_of_beq h] <;> rfl
  | false => exact beq_eq_false_iff_ne.mpr fun e => by injection e with e; rw [e] at h; exact absurd h (by decide)
theorem join_spl : ∀ (l acc : List Nat), joinL [32] (spl [32] 0 acc l) = acc ++ l
  | [], acc => by rw [spl_nil, List.append_nil] <;> rfl
  | c :: r, acc => by
    cases h : c == 32 with
    | true =>
      have hp := pre1 c r
      rw [h] at hp
      rw [spl_hit hp]
      show joinL [32] (acc :: spl [32] 0 [] r) = _
      have ih := join_spl r []
      cases q : spl [32] 0 [] r with
      | nil => exact absurd q (spl_ne _ _ _ _)
      | cons p t =>
        rw [q] at ih
        show acc ++ ([32] ++ joinL [32] (p :: t)) = _
        rw [ih, eq_of_beq h] <;> rfl
    | false =>
      have hp := pre1 c r
      rw [h] at hp
      rw [spl_miss hp, join_spl r, List.append_assoc] <;> rfl
theorem join_cut (s : Str) : Txt.join " " (cutL s) = s := by
  refine ext_tl ?_
  rw [join_eq, tl_join, tl_sp]
  unfold cutL
  rw [map_mk, join_spl, List.nil_append]
theorem spl_sum : ∀ (l acc : List Nat), ((spl [32] 0 acc l).map List.length).sum + (spl [32] 0 acc l).length = acc.length + l.length + 1
  | [], acc => by rw [spl_nil]; simp
  | c :: r, acc => by
    have hp := pre1 c r
    cases h : c == 32 with
    | true =>
      rw [h] at hp
      rw [spl_hit hp]
      have ih := spl_sum r []
      show ((acc :: spl [32] 0 [] r).map List.length).sum + (acc :: spl [32] 0 [] r).length = _
      simp only [List.map_cons, List.sum_cons, List.length_cons, List.length_nil] at ih ⊢
      omega
    | false =>
      rw [h] at hp
      have ih := spl_sum r (acc ++ [c])
      rw [spl_miss hp]
      simp only [List.length_append, List.length_cons, List.length_nil] at ih ⊢
      omega
theorem cut_sum (s : Str) : ((cutL s).map (·.length)).sum + (cutL s).length = s.length + 1 := by
  have h := spl_sum (tl s) []
  have e : (cutL s).map (·.length) = (spl [32] 0 [] (tl s)).map List.length := by
    unfold cutL
    rw [List.map_map]
    refine List.map_congr_left fun l _ => ?_
    show l.toArray.size = l.length
    simp
  have e2 : (cutL s).length = (spl [32] 0 [] (tl s)).length := by unfold cutL; rw [List.length_map]
  rw [e, e2, len_tl s]
  simpa using h
theorem cut_len (s : Str) : (cutL s).length ≤ s.length + 1 := by
  have := cut_sum s
  omega
theorem sum_le {l : List Str} {x : Str} (h : x ∈ l) : x.length ≤ (l.map (·.length)).sum := by
  induction l with
  | nil => simp at h
  | cons y r ih =>
    rw [List.map_cons, List.sum_cons]
    rcases List.mem_cons.mp h with rfl | h
    · omega
    · have := ih h
      omega
theorem cut_part (s : Str) {x : Str} (h : x ∈ cutL s) : x.length ≤ s.length := by
  have h1 := cut_sum s
  have h2 := sum_le h
  have h3 : 0 < (cutL s).length := List.length_pos_of_mem h
  omega
theorem rst_len (s : Str) : (rst s).length ≤ s.length := by
  unfold rst
  split
  · rw [len_tl s]
    show ((tl s).drop 4).toArray.size ≤ _
    simp
  · omega
/-- signs that Python has -/
def okS (s : Str) : Prop := ∀ c ∈ tl s, c < 0x110000
theorem okS_iff {s : Str} : okS s ↔ PyData.strOk s = true := by
  unfold PyData.strOk okS
  rw [Array.all_eq_true_iff_forall_mem]
  constructor
  · intro h x hx
    exact decide_eq_true (h x (Array.mem_toList_iff.mpr hx))
  · intro h x hx
    exact of_decide_eq_true (h x (Array.mem_toList_iff.mp hx))
theorem okS_app {a b : Str} (h : okS a) (g : okS b) : okS (a ++ b) := fun c hc => by
  rw [tl_append] at hc
  rcases List.mem_append.mp hc with q | q
  · exact h c q
  · exact g c q
theorem spl_mem : ∀ (l acc p : List Nat), p ∈ spl [32] 0 acc l → ∀ c ∈ p, c ∈ acc ∨ c ∈ l
  | [], acc, p, h, c, hc => by
    rw [spl_nil] at h
    rw [List.mem_singleton.mp h] at hc
    exact .inl hc
  | d :: r, acc, p, h, c, hc => by
    have hp := pre1 d r
    cases q : d == 32 with
    | true =>
      rw [q] at hp
      rw [spl_hit hp] at h
      rcases List.mem_cons.mp h with e | h
      · rw [e] at hc
        exact .inl hc
      · rcases spl_mem r [] p h c hc with z | z
        · simp at z
        · exact .inr (List.mem_cons_of_mem _ z)
    | false =>
      rw [q] at hp
      rw [spl_miss hp] at h
      rcases spl_mem r _ p h c hc with z | z
      · rcases List.mem_append.mp z with z | z
        · exact .inl z
        · rw [List.mem_singleton.mp z]
          exact .inr List.mem_cons_self
      · exact .inr (List.mem_cons_of_mem _ z)
theorem okS_cut {s x : Str} (h : okS s) (hx : x ∈ cutL s) : okS x := by
  unfold cutL at hx
  obtain ⟨p, hp, rfl⟩ := List.mem_map.mp hx
  intro c hc
  rcases spl_mem (tl s) [] p hp c hc with z | z
  · simp at z
  · exact h c z
theorem okS_take {s : Str} (h : okS s) (k : Nat) : okS (mkS ((tl s).take k)) := fun c hc => h c (List.mem_of_mem_take hc)
theorem okS_drop {s : Str} (h : okS s) (k : Nat) : okS (mkS ((tl s).drop k)) := fun c hc => h c (List.mem_of_mem_drop hc)
theorem okS_rst {s : Str} (h : okS s) : okS (rst s) := by
  unfold rst
  split
  · exact okS_drop h 4
  · exact h
theorem low_lt {c : Nat} (h : low c = true) : 97 ≤ c ∧ c ≤ 122 := by
  have h1 : ∀ c ∈ lets, 97 ≤ c ∧ c ≤ 122 := by decide +kernel
  exact h1 c (of_decide_eq_true h)
theorem name_low {s : Str} (h : nameB s = true) : ∀ c ∈ tl s, low c = true := by
  unfold nameB at h
  simp only [Bool.and_eq_true] at h
  exact fun c hc => List.all_eq_true.mp h.2 c hc
theorem name_len {s : Str} (h : nameB s = true) : 1 ≤ s.length ∧ s.length ≤ 8 := by
  unfold nameB at h
  simp only [Bool.and_eq_true, decide_eq_true_eq] at h
  exact h.1
theorem okS_name {s : Str} (h : nameB s = true) : okS s := fun c hc => by
  have := low_lt (name_low h c hc)
  omega
end Ko

set_option maxRecDepth 100000
namespace Fs
/-! ### forests, their rows, their texts: signs as numbers -/
inductive Fo where
  | nil | cons (n : List Nat) (o r : Fo)
  deriving DecidableEq
abbrev Row := List Nat × Int
def rw : Fo → Int → List Row
  | .nil, _ => []
  | .cons n o r, k => (n, k) :: (rw o (k + 1) ++ rw r k)
def low (c : Nat) : Bool := decide (97 ≤ c) && decide (c ≤ 122)
def nmB (n : List Nat) : Bool := decide (1 ≤ n.length) && decide (n.length ≤ 8) && n.all low
def okF : Fo → Prop
  | .nil => True
  | .cons n o r => nmB n = true ∧ okF o ∧ okF r
def tx0 : Fo → List Nat
  | .nil => []
  | .cons n o r => n ++ ((match o with | .nil => [] | _ => 40 :: (tx0 o ++ [41])) ++ (match r with | .nil => [] | _ => 32 :: tx0 r))
def tx : Fo → List Nat
  | .nil => [45]
  | f => tx0 f
/-- what opens: what stands beneath -/
def bel : Fo → List Nat
  | .nil => []
  | o => 40 :: (tx0 o ++ [41])
def beh : Fo → List Nat
  | .nil => []
  | o => 32 :: tx0 o
theorem tx0_cons (n : List Nat) (o r : Fo) : tx0 (.cons n o r) = n ++ (bel o ++ beh r) := by
  cases o <;> cases r <;> rfl
/-! ### reading rows -/
def em (cur : List Nat) (d : Int) : List Row := if cur = [] then [] else [(cur, d)]
def rdL : List Nat → Int → List Nat → List Row
  | cur, d, [] => em cur d
  | cur, d, c :: r => if c = 32 then em cur d ++ rdL [] d r else if c = 40 then em cur d ++ rdL [] (d + 1) r else if c = 41 then em cur d ++ rdL [] (d - 1) r else rdL (cur ++ [c]) d r
def sepB (c : Nat) : Bool := c == 32 || c == 40 || c == 41
/-- ends at a sign that parts -/
def Sep : List Nat → Prop
  | [] => True
  | c :: _ => sepB c = true
theorem rd_app {d : Int} {X : List Nat} : ∀ (n cur : List Nat), (∀ c ∈ n, sepB c = false) → rdL cur d (n ++ X) = rdL (cur ++ n) d X
  | [], cur, _ => by rw [List.nil_append, List.append_nil]
  | c :: n, cur, h => by
    have hc := h c List.mem_cons_self
    simp only [sepB, Bool.or_eq_false_iff, beq_eq_false_iff_ne] at hc
    obtain ⟨⟨h1, h2⟩, h3⟩ := hc
    rw [List.cons_append, rdL, if_neg h1, if_neg h2, if_neg h3, rd_app n _ fun c hc => h c (List.mem_cons_of_mem _ hc), List.append_assoc] <;> rfl
theorem rd_sep {d : Int} {cur X : List Nat} (hX : Sep X) (hc : cur ≠ []) : rdL cur d X = (cur, d) :: rdL [] d X := by
  cases X with
  | nil => simp [rdL, em, hc]
  | cons c r =>
    simp only [Sep, sepB, Bool.or_eq_true, beq_iff_eq] at hX
    rcases hX with (rfl | rfl) | rfl <;> simp [rdL, em, hc]
theorem low_sep {c : Nat} (h : low c = true) : sepB c = false := by
  simp only [low, Bool.and_eq_true, decide_eq_true_eq] at h
  simp only [sepB, Bool.or_eq_false_iff, beq_eq_false_iff_ne]
  omega
theorem nm_ne {n : List Nat} (h : nmB n = true) : n ≠ [] := by
  intro e
  subst e
  exact absurd h (by decide)
theorem nm_low {n : List Nat} (h : nmB n = true) : ∀ c ∈ n, low c = true := by
  simp only [nmB, Bool.and_eq_true] at h
  exact fun c hc => List.all_eq_true.mp h.2 c hc
theorem nm_sep {n : List Nat} (h : nmB n = true) : ∀ c ∈ n, sepB c = false := fun c hc => low_sep (nm_low h c hc)
theorem rd_name {n X : List Nat} {d : Int} (h : nmB n = true) (hX : Sep X) : rdL [] d (n ++ X) = (n, d) :: rdL [] d X := by
  rw [rd_app n [] (nm_sep h), List.nil_append, rd_sep hX (nm_ne h)]
theorem sep_bel {o : Fo} {X : List Nat} (h : Sep X) : Sep (bel o ++ X) := by
  cases o with
  | nil => exact h
  | cons => rfl
theorem sep_beh {o : Fo} {X : List Nat} (h : Sep X) : Sep (beh o ++ X) := by
  cases o with
  | nil => exact h
  | cons => rfl
/-- C: the rows of a text -/
theorem rd_tx : ∀ (f : Fo) (d : Int) (X : List Nat), okF f → Sep X → rdL [] d (tx0 f ++ X) = rw f d ++ rdL [] d X
  | .nil, d, X, _, _ => rfl
  | .cons n o r, d, X, hf, hX => by
    obtain ⟨hn, ho, hr⟩ := hf
    have e2 : ∀ Y, Sep Y → rdL [] d (beh r ++ Y) = rw r d ++ rdL [] d Y := fun Y hY => by
      cases r with
      | nil => rfl
      | cons a b c =>
        show rdL [] d (32 :: (tx0 (.cons a b c) ++ Y)) = _
        rw [rdL, if_pos rfl, rd_tx (.cons a b c) d Y hr hY] <;> rfl
    have e1 : ∀ Y, Sep Y → rdL [] d (bel o ++ Y) = rw o (d + 1) ++ rdL [] d Y := fun Y hY => by
      cases o with
      | nil => rfl
      | cons a b c =>
        show rdL [] d (40 :: ((tx0 (.cons a b c) ++ [41]) ++ Y)) = _
        rw [rdL, if_neg (by decide), if_pos rfl, List.append_assoc, rd_tx (.cons a b c) (d + 1) ([41] ++ Y) ho (by show sepB 41 = true; rfl)]
        have e3 : rdL [] (d + 1) ([41] ++ Y) = rdL [] d Y := by
          show rdL [] (d + 1) (41 :: Y) = _
          rw [rdL, if_neg (by decide), if_neg (by decide), if_pos rfl, show d + 1 - 1 = d by omega] <;> rfl
        rw [e3] <;> rfl
    rw [tx0_cons, List.append_assoc, List.append_assoc, rd_name hn (sep_bel (sep_beh hX)), e1 _ (sep_beh hX), e2 _ hX]
    show _ = (n, d) :: (rw o (d + 1) ++ rw r d) ++ _
    rw [List.cons_append, List.append_assoc]
/-! ### writing rows -/
def jt (a b : Int) : List Nat := if b > a then [40] else List.replicate (a - b).toNat 41 ++ [32]
def wg : Int → List Row → List Nat
  | a, [] => List.replicate (a - 1).toNat 41
  | a, (n, d) :: r => jt a d ++ (n ++ wg d r)
def wr : List Row → List Nat
  | [] => [45]
  | (n, d) :: r => n ++ wg d r
/-- ends, or goes on at most so deep -/
def Hd (k : Int) : List Row → Prop
  | [] => True
  | x :: _ => x.2 ≤ k
theorem wg_up {k : Int} {X : List Row} (h1 : 1 ≤ k) (hX : Hd k X) : wg (k + 1) X = 41 :: wg k X := by
  cases X with
  | nil =>
    show List.replicate (k + 1 - 1).toNat 41 = 41 :: List.replicate (k - 1).toNat 41
    rw [show (k + 1 - 1).toNat = (k - 1).toNat + 1 by omega, List.replicate_succ]
  | cons x r =>
    obtain ⟨n, d⟩ := x
    have hd : d ≤ k := hX
    show jt (k + 1) d ++ (n ++ wg d r) = 41 :: (jt k d ++ (n ++ wg d r))
    have e : jt (k + 1) d = 41 :: jt k d := by
      unfold jt
      rw [if_neg (by omega), if_neg (by omega), show (k + 1 - d).toNat = (k - d).toNat + 1 by omega, List.replicate_succ] <;> rfl
    rw [e] <;> rfl
theorem hd_rw {k : Int} {X : List Row} (h : Hd k X) : ∀ f : Fo, Hd k (rw f k ++ X)
  | .nil => h
  | .cons n o r => Int.le_refl k
/-- D: the text of rows -/
theorem wr_core : ∀ (f : Fo) (k : Int) (X : List Row), 1 ≤ k → Hd k X → (wg k (rw f k ++ X) = beh f ++ wg k X) ∧ (f ≠ .nil → wg (k - 1) (rw f k ++ X) = 40 :: (tx0 f ++ wg k X))
  | .nil, k, X, _, _ => ⟨rfl, fun h => absurd rfl h⟩
  | .cons n o r, k, X, h1, hX => by
    have er := (wr_core r k X h1 hX).1
    have eo : wg k (rw o (k + 1) ++ (rw r k ++ X)) = bel o ++ wg k (rw r k ++ X) := by
      cases o with
      | nil => rfl
      | cons a b c =>
        have hh : Hd k (rw r k ++ X) := hd_rw hX r
        have hh2 : Hd (k + 1) (rw r k ++ X) := by
          cases q : rw r k ++ X with
          | nil => trivial
          | cons x t =>
            rw [q] at hh
            exact Int.le_trans hh (by omega)
        have e := (wr_core (.cons a b c) (k + 1) (rw r k ++ X) (by omega) hh2).2 (by intro h; cases h)
        rw [show k + 1 - 1 = k by omega] at e
        rw [e, wg_up h1 hh]
        show _ = (40 :: (tx0 (.cons a b c) ++ [41])) ++ _
        simp
    have core : n ++ wg k (rw o (k + 1) ++ (rw r k ++ X)) = tx0 (.cons n o r) ++ wg k X := by
      rw [eo, er, tx0_cons]
      simp
    have sh : rw (.cons n o r) k ++ X = (n, k) :: (rw o (k + 1) ++ (rw r k ++ X)) := by
      show ((n, k) :: (rw o (k + 1) ++ rw r k)) ++ X = _
      simp
    refine ⟨?_, fun _ => ?_⟩
    · rw [sh]
      show jt k k ++ (n ++ wg k _) = _
      rw [core]
      have e : jt k k = [32] := by
        unfold jt
        rw [if_neg (by omega), show (k - k).toNat = 0 by omega] <;> rfl
      rw [e]
      show _ = (32 :: tx0 (.cons n o r)) ++ _
      simp
    · rw [sh]
      show jt (k - 1) k ++ (n ++ wg k _) = _
      rw [core]
      have e : jt (k - 1) k = [40] := by
        unfold jt
        rw [if_pos (by omega)]
      rw [e] <;> rfl
theorem wr_tx (f : Fo) : wr (rw f 1) = tx f := by
  cases f with
  | nil => rfl
  | cons n o r =>
    have h := (wr_core (.cons n o r) 1 [] (by decide) trivial).1
    rw [List.append_nil] at h
    have e : wg 1 (rw (.cons n o r) 1) = 32 :: wr (rw (.cons n o r) 1) := by
      show jt 1 1 ++ (n ++ wg 1 _) = 32 :: (n ++ wg 1 _)
      rfl
    rw [e] at h
    have h2 : wg 1 [] = [] := by decide
    rw [h2, List.append_nil] at h
    injection h
/-! ### trees of rows -/
abbrev It := Int × List Nat × Fo
def fo : List It → Fo
  | [] => .nil
  | (_, n, o) :: r => .cons n o (fo r)
def it : Fo → Int → List It
  | .nil, _ => []
  | .cons n o r, k => (k, n, o) :: it r k
theorem fo_it : ∀ (f : Fo) (k : Int), fo (it f k) = f
  | .nil, _ => rfl
  | .cons n o r, k => by
    show Fo.cons n o (fo (it r k)) = _
    rw [fo_it r k]
def par : List Row → List It
  | [] => []
  | (n, d) :: r => (d, n, fo ((par r).takeWhile fun x => decide (x.1 > d))) :: (par r).dropWhile fun x => decide (x.1 > d)
def HdI (k : Int) : List It → Prop
  | [] => True
  | x :: _ => x.1 ≤ k
theorem tw_it {k : Int} {Y : List It} (hY : HdI k Y) : ∀ f : Fo, (it f (k + 1) ++ Y).takeWhile (fun x => decide (x.1 > k)) = it f (k + 1) ∧ (it f (k + 1) ++ Y).dropWhile (fun x => decide (x.1 > k)) = Y
  | .nil => by
    show List.takeWhile _ Y = [] ∧ List.dropWhile _ Y = Y
    cases Y with
    | nil => exact ⟨rfl, rfl⟩
    | cons y t =>
      have h : ¬ y.1 > k := by have : y.1 ≤ k := hY; omega
      exact ⟨by rw [List.takeWhile_cons_of_neg (by simpa using h)], by rw [List.dropWhile_cons_of_neg (by simpa using h)]⟩
  | .cons n o r => by
    obtain ⟨h1, h2⟩ := tw_it hY r
    have h : (fun x : It => decide (x.1 > k)) (k + 1, n, o) = true := decide_eq_true (by show k + 1 > k; omega)
    show List.takeWhile _ ((k + 1, n, o) :: (it r (k + 1) ++ Y)) = _ ∧ List.dropWhile _ ((k + 1, n, o) :: (it r (k + 1) ++ Y)) = _
    rw [List.takeWhile_cons_of_pos (p := fun x : It => decide (x.1 > k)) h, List.dropWhile_cons_of_pos (p := fun x : It => decide (x.1 > k)) h, h1, h2]
    exact ⟨rfl, rfl⟩
theorem hd_it {k : Int} {Y : List It} (hY : HdI k Y) : ∀ f : Fo, HdI k (it f k ++ Y)
  | .nil => hY
  | .cons n o r => Int.le_refl k
theorem HdI.up {k : Int} {Y : List It} (hY : HdI k Y) : HdI (k + 1) Y := by
  cases Y with
  | nil => trivial
  | cons y t => exact Int.le_trans hY (by omega)
/-- E -/
theorem par_rw : ∀ (f : Fo) (k : Int) (X : List Row), HdI k (par X) → par (rw f k ++ X) = it f k ++ par X
  | .nil, _, _, _ => rfl
  | .cons n o r, k, X, hX => by
    have sh : rw (.cons n o r) k ++ X = (n, k) :: (rw o (k + 1) ++ (rw r k ++ X)) := by
      show ((n, k) :: (rw o (k + 1) ++ rw r k)) ++ X = _
      simp
    have er := par_rw r k X hX
    have hr : HdI k (par (rw r k ++ X)) := by rw [er]; exact hd_it hX r
    have eo := par_rw o (k + 1) (rw r k ++ X) hr.up
    obtain ⟨t1, t2⟩ := tw_it hr o
    rw [sh]
    show (k, n, fo (List.takeWhile _ (par _))) :: List.dropWhile _ (par _) = _
    rw [eo, t1, t2, fo_it, er] <;> rfl
theorem par_tx (f : Fo) : fo (par (rw f 1)) = f := by
  have h := par_rw f 1 [] trivial
  rw [List.append_nil] at h
  rw [h]
  show fo (it f 1 ++ []) = f
  rw [List.append_nil, fo_it]
/-! ### which rows are rows of a forest -/
def vr : Int → List Row → Prop
  | _, [] => True
  | a, (_, d) :: r => 1 ≤ d ∧ d ≤ a + 1 ∧ vr d r
def fl : List It → List Row
  | [] => []
  | (d, n, o) :: r => (n, d) :: (rw o (d + 1) ++ fl r)
theorem fl_app : ∀ xs ys : List It, fl (xs ++ ys) = fl xs ++ fl ys
  | [], _ => rfl
  | (d, n, o) :: r, ys => by
    show (n, d) :: (rw o (d + 1) ++ fl (r ++ ys)) = ((n, d) :: (rw o (d + 1) ++ fl r)) ++ fl ys
    rw [fl_app r ys]
    simp
/-- the depths fall -/
def Dn : List It → Prop
  | [] => True
  | x :: r => HdI x.1 r ∧ Dn r
theorem dn_drop {k : Int} : ∀ {xs : List It}, Dn xs → Dn (xs.dropWhile fun x => decide (x.1 > k)) ∧ HdI k (xs.dropWhile fun x => decide (x.1 > k))
  | [], _ => ⟨trivial, trivial⟩
  | x :: r, h => by
    by_cases q : x.1 > k
    · rw [List.dropWhile_cons_of_pos (by simpa using q)]
      exact dn_drop h.2
    · rw [List.dropWhile_cons_of_neg (by simpa using q)]
      exact ⟨h, by show x.1 ≤ k; omega⟩
theorem dn_take {k : Int} : ∀ {xs : List It}, Dn xs → HdI (k + 1) xs → ∀ x ∈ xs.takeWhile (fun x => decide (x.1 > k)), x.1 = k + 1
  | [], _, _, x, h => by simp at h
  | y :: r, hd, h1, x, h => by
    by_cases q : y.1 > k
    · rw [List.takeWhile_cons_of_pos (by simpa using q)] at h
      have e : y.1 = k + 1 := by have : y.1 ≤ k + 1 := h1; omega
      rcases List.mem_cons.mp h with rfl | h
      · exact e
      · exact dn_take hd.2 (by rw [← e]; exact hd.1) x h
    · rw [List.takeWhile_cons_of_neg (by simpa using q)] at h
      simp at h
theorem rw_fo {k : Int} : ∀ {xs : List It}, (∀ x ∈ xs, x.1 = k) → rw (fo xs) k = fl xs
  | [], _ => rfl
  | (d, n, o) :: r, h => by
    have e : d = k := h (d, n, o) List.mem_cons_self
    subst e
    show (n, d) :: (rw o (d + 1) ++ rw (fo r) d) = _
    rw [rw_fo fun x hx => h x (List.mem_cons_of_mem _ hx)] <;> rfl
theorem par_vr : ∀ (rows : List Row) (a : Int), vr a rows → Dn (par rows) ∧ fl (par rows) = rows ∧ HdI (a + 1) (par rows) ∧ ∀ x ∈ par rows, 1 ≤ x.1
  | [], _, _ => ⟨trivial, rfl, trivial, fun x h => by simp [par] at h⟩
  | (n, d) :: r, a, ⟨h1, h2, h3⟩ => by
    obtain ⟨q1, q2, q3, q4⟩ := par_vr r d h3
    obtain ⟨p1, p2⟩ := dn_drop (k := d) q1
    have pt := dn_take (k := d) q1 q3
    refine ⟨⟨p2, p1⟩, ?_, h2, fun x hx => ?_⟩
    · show (n, d) :: (rw (fo (List.takeWhile _ (par r))) (d + 1) ++ fl (List.dropWhile _ (par r))) = _
      rw [rw_fo pt, ← fl_app, List.takeWhile_append_dropWhile, q2]
    · rcases List.mem_cons.mp hx with rfl | hx
      · exact h1
      · exact q4 x (List.dropWhile_sublist _ |>.subset hx)
theorem dn_le {k : Int} : ∀ {xs : List It}, Dn xs → HdI k xs → ∀ x ∈ xs, x.1 ≤ k
  | [], _, _, x, h => by simp at h
  | y :: r, hd, h1, x, h => by
    rcases List.mem_cons.mp h with rfl | h
    · exact h1
    · exact Int.le_trans (dn_le hd.2 hd.1 x h) h1
/-- F: rows that begin at 1 and never go two down at once are those of the trees that are made of them -/
theorem rw_par {rows : List Row} (h : vr 0 rows) : rw (fo (par rows)) 1 = rows := by
  obtain ⟨q1, q2, q3, q4⟩ := par_vr rows 0 h
  have l := dn_le q1 q3
  rw [rw_fo (k := 1) fun x hx => by have := l x hx; have := q4 x hx; omega, q2]
/-! ### the depths that are read of what is written -/
def ad : Int → Int → List Row → List Row
  | _, _, [] => []
  | e, d, (m, b) :: r => (m, if b > d then e + 1 else e - (d - b)) :: ad (if b > d then e + 1 else e - (d - b)) b r
theorem rd_close : ∀ (j : Nat) (e : Int) (X : List Nat), rdL [] e (List.replicate j 41 ++ X) = rdL [] (e - j) X
  | 0, e, X => by
    show rdL [] e X = _
    rw [show e - ((0 : Nat) : Int) = e by omega]
  | j + 1, e, X => by
    show rdL [] e (41 :: (List.replicate j 41 ++ X)) = _
    rw [rdL, if_neg (by decide), if_neg (by decide), if_pos rfl]
    show [] ++ _ = _
    rw [List.nil_append, rd_close j, show e - 1 - (j : Int) = e - ((j + 1 : Nat) : Int) by omega]
theorem sep_close (j : Nat) {X : List Nat} (h : Sep X) : Sep (List.replicate j 41 ++ X) := by
  cases j with
  | zero => exact h
  | succ j => rfl
theorem sep_wg (a : Int) (X : List Row) : Sep (wg a X) := by
  cases X with
  | nil =>
    have := sep_close (a - 1).toNat (X := []) trivial
    rw [List.append_nil] at this
    exact this
  | cons x r =>
    obtain ⟨n, d⟩ := x
    show Sep (jt a d ++ _)
    unfold jt
    split
    · rfl
    · rw [List.append_assoc]
      exact sep_close _ rfl
theorem rd_wg : ∀ (rows : List Row) (e d : Int), (∀ x ∈ rows, nmB x.1 = true) → rdL [] e (wg d rows) = ad e d rows
  | [], e, d, _ => by
    have h := rd_close (d - 1).toNat e []
    rw [List.append_nil] at h
    show rdL [] e (List.replicate _ 41) = _
    rw [h] <;> rfl
  | (n, b) :: r, e, d, h => by
    have hn := h (n, b) List.mem_cons_self
    have ih := fun e' => rd_wg r e' b fun x hx => h x (List.mem_cons_of_mem _ hx)
    show rdL [] e (jt d b ++ (n ++ wg b r)) = (n, _) :: ad _ b r
    unfold jt
    by_cases q : b > d
    · rw [if_pos q, if_pos q]
      show rdL [] e (40 :: (n ++ wg b r)) = _
      rw [rdL, if_neg (by decide), if_pos rfl]
      show [] ++ _ = _
      rw [List.nil_append, rd_name hn (sep_wg b r), ih]
    · rw [if_neg q, if_neg q, List.append_assoc, rd_close, show e - ((d - b).toNat : Int) = e - (d - b) by omega]
      show rdL [] (e - (d - b)) (32 :: (n ++ wg b r)) = _
      rw [rdL, if_pos rfl]
      show [] ++ _ = _
      rw [List.nil_append, rd_name hn (sep_wg b r), ih]
theorem ad_vr : ∀ (rows : List Row) (d : Int), (∀ x ∈ rows, 0 < x.2) → ad d d rows = rows → vr d rows
  | [], _, _, _ => trivial
  | (n, b) :: r, d, hp, h => by
    have hb : 0 < b := hp (n, b) List.mem_cons_self
    have h1 : (n, if b > d then d + 1 else d - (d - b)) :: ad (if b > d then d + 1 else d - (d - b)) b r = (n, b) :: r := h
    injection h1 with e1 e2
    injection e1 with e0 e1
    rw [e1] at e2
    refine ⟨by omega, ?_, ad_vr r b (fun x hx => hp x (List.mem_cons_of_mem _ hx)) e2⟩
    by_cases q : b > d
    · rw [if_pos q] at e1
      omega
    · omega
theorem read_vr {rows : List Row} (hn : ∀ x ∈ rows, nmB x.1 = true) (hp : ∀ x ∈ rows, 0 < x.2) (hne : rows ≠ []) (h : rdL [] 1 (wr rows) = rows) : vr 0 rows := by
  cases rows with
  | nil => exact absurd rfl hne
  | cons x r =>
    obtain ⟨n, d⟩ := x
    have e : rdL [] 1 (n ++ wg d r) = (n, d) :: r := h
    rw [rd_name (hn (n, d) List.mem_cons_self) (sep_wg d r), rd_wg r 1 d fun x hx => hn x (List.mem_cons_of_mem _ hx)] at e
    injection e with e1 e2
    injection e1 with e0 e1
    subst e1
    exact ⟨by decide, by decide, ad_vr r 1 (fun x hx => hp x (List.mem_cons_of_mem _ hx)) e2⟩
/-- the program's reading -/
def ofM (s : List Nat) : Option Fo :=
  if s = [45] then some .nil
  else if ((rdL [] 1 s).all (fun x => nmB x.1) && (rdL [] 1 s).all (fun x => decide (0 < x.2)) && decide (wr (rdL [] 1 s) = s)) = true then some (fo (par (rdL [] 1 s))) else none
/-! ### the law's reading -/
def opn (g : List Nat → Option (Fo × List Nat)) : List Nat → Option (Fo × List Nat)
  | 40 :: t => (match g t with | some (o, 41 :: u) => some (o, u) | _ => none)
  | t => some (.nil, t)
def fin (g : List Nat → Option (Fo × List Nat)) (n : List Nat) : Option (Fo × List Nat) → Option (Fo × List Nat)
  | none => none
  | some (o, 32 :: t) => (match g t with | some (r, u) => some (.cons n o r, u) | none => none)
  | some (o, t) => some (.cons n o .nil, t)
def gr : Nat → List Nat → Option (Fo × List Nat)
  | 0, _ => none
  | m + 1, l => if nmB (l.takeWhile low) = true then fin (gr m) (l.takeWhile low) (opn (gr m) (l.dropWhile low)) else none
theorem opn_40 (g : List Nat → Option (Fo × List Nat)) (t : List Nat) : opn g (40 :: t) = (match g t with | some (o, 41 :: u) => some (o, u) | _ => none) := rfl
theorem opn_ne (g : List Nat → Option (Fo × List Nat)) {l : List Nat} (h : ∀ t, l ≠ 40 :: t) : opn g l = some (.nil, l) := by
  unfold opn
  split
  · exact absurd rfl (h _)
  · rfl
theorem fin_32 (g : List Nat → Option (Fo × List Nat)) (n : List Nat) (o : Fo) (t : List Nat) : fin g n (some (o, 32 :: t)) = (match g t with | some (r, u) => some (.cons n o r, u) | none => none) := rfl
theorem fin_ne (g : List Nat → Option (Fo × List Nat)) (n : List Nat) (o : Fo) {l : List Nat} (h : ∀ t, l ≠ 32 :: t) : fin g n (some (o, l)) = some (.cons n o .nil, l) := by
  unfold fin
  split
  · rename_i e; cases e
  · rename_i e
    injection e with e
    injection e with e1 e2
    exact absurd e2 (h _)
  · rename_i e
    injection e with e
    injection e with e1 e2
    subst e1 e2
    rfl
def readM (s : List Nat) : Option Fo :=
  if s = [45] then some .nil else match gr (s.length + 1) s with | some (f, []) => some f | _ => none

/-! ### both readings are one -/
theorem sep_low {X : List Nat} (h : Sep X) : ∀ c r, X = c :: r → low c = false := fun c r e => by
  subst e
  cases q : low c with
  | false => rfl
  | true =>
    have h2 : sepB c = true := h
    rw [low_sep q] at h2
    cases h2
theorem tw_low {X : List Nat} (hX : ∀ c r, X = c :: r → low c = false) : ∀ n : List Nat, (∀ c ∈ n, low c = true) → (n ++ X).takeWhile low = n ∧ (n ++ X).dropWhile low = X
  | [], _ => by
    rw [List.nil_append]
    cases X with
    | nil => exact ⟨rfl, rfl⟩
    | cons c r =>
      have h := hX c r rfl
      exact ⟨by rw [List.takeWhile_cons_of_neg (by rw [h]; decide)], by rw [List.dropWhile_cons_of_neg (by rw [h]; decide)]⟩
  | c :: n, h => by
    obtain ⟨h1, h2⟩ := tw_low hX n fun c hc => h c (List.mem_cons_of_mem _ hc)
    have hc := h c List.mem_cons_self
    rw [List.cons_append, List.takeWhile_cons_of_pos hc, List.dropWhile_cons_of_pos hc, h1, h2]
    exact ⟨rfl, rfl⟩
theorem opn_some {g : List Nat → Option (Fo × List Nat)} (hg : ∀ l f u, g l = some (f, u) → l = tx0 f ++ u ∧ f ≠ .nil ∧ okF f) {l t : List Nat} {o : Fo} (e : opn g l = some (o, t)) : l = bel o ++ t ∧ okF o := by
  by_cases q : ∃ t, l = 40 :: t
  · obtain ⟨t0, rfl⟩ := q
    rw [opn_40] at e
    split at e
    · rename_i o' u' e'
      injection e with e
      injection e with e1 e2
      subst e1 e2
      obtain ⟨a1, a2, a3⟩ := hg _ _ _ e'
      refine ⟨?_, a3⟩
      cases o' with
      | nil => exact absurd rfl a2
      | cons a b c =>
        show 40 :: t0 = (40 :: (tx0 (.cons a b c) ++ [41])) ++ u'
        rw [a1]
        simp
    · cases e
  · rw [opn_ne g fun t z => q ⟨t, z⟩] at e
    injection e with e
    injection e with e1 e2
    subst e1 e2
    exact ⟨rfl, trivial⟩
theorem fin_some {g : List Nat → Option (Fo × List Nat)} (hg : ∀ l f u, g l = some (f, u) → l = tx0 f ++ u ∧ f ≠ .nil ∧ okF f) {n t u : List Nat} {o f : Fo} (hn : nmB n = true) (ho : okF o) (e : fin g n (some (o, t)) = some (f, u)) :
    n ++ (bel o ++ t) = tx0 f ++ u ∧ f ≠ .nil ∧ okF f := by
  by_cases q : ∃ t0, t = 32 :: t0
  · obtain ⟨t0, rfl⟩ := q
    rw [fin_32] at e
    split at e
    · rename_i r u' e'
      injection e with e
      injection e with e1 e2
      subst e1 e2
      obtain ⟨a1, a2, a3⟩ := hg _ _ _ e'
      refine ⟨?_, (by intro z; cases z), hn, ho, a3⟩
      rw [tx0_cons, a1]
      cases r with
      | nil => exact absurd rfl a2
      | cons a b c =>
        show n ++ (bel o ++ 32 :: (tx0 (.cons a b c) ++ u')) = n ++ (bel o ++ (32 :: tx0 (.cons a b c))) ++ u'
        simp
    · cases e
  · rw [fin_ne g n o fun t0 z => q ⟨t0, z⟩] at e
    injection e with e
    injection e with e1 e2
    subst e1 e2
    refine ⟨?_, (by intro z; cases z), hn, ho, trivial⟩
    rw [tx0_cons]
    show n ++ (bel o ++ t) = n ++ (bel o ++ []) ++ t
    simp
/-- A -/
theorem gr_sound : ∀ (m : Nat) (l : List Nat) (f : Fo) (u : List Nat), gr m l = some (f, u) → l = tx0 f ++ u ∧ f ≠ .nil ∧ okF f
  | 0, l, f, u, h => by cases h
  | m + 1, l, f, u, h => by
    unfold gr at h
    split at h
    · rename_i hn
      have el : l.takeWhile low ++ l.dropWhile low = l := List.takeWhile_append_dropWhile
      cases q : opn (gr m) (l.dropWhile low) with
      | none => rw [q] at h; cases h
      | some p =>
        obtain ⟨o, t⟩ := p
        rw [q] at h
        obtain ⟨k1, k2⟩ := opn_some (gr_sound m) q
        have k3 := fin_some (gr_sound m) hn k2 h
        rw [← k1, el] at k3
        exact k3
    · cases h
/-- ends so that no tree goes on -/
def Stp : List Nat → Prop
  | [] => True
  | c :: _ => low c = false ∧ c ≠ 40 ∧ c ≠ 32
/-- B -/
theorem gr_full : ∀ (f : Fo) (m : Nat) (u : List Nat), okF f → f ≠ .nil → Stp u → (tx0 f).length ≤ m → gr m (tx0 f ++ u) = some (f, u)
  | .nil, _, _, _, h, _, _ => absurd rfl h
  | .cons n o r, m, u, ⟨hn, ho, hr⟩, _, hu, hm => by
    have hl : 1 ≤ n.length := by
      cases q : n with
      | nil => exact absurd q (nm_ne hn)
      | cons => simp
    rw [tx0_cons] at hm ⊢
    rw [List.length_append, List.length_append] at hm
    obtain ⟨m, rfl⟩ : ∃ j, m = j + 1 := ⟨m - 1, by omega⟩
    have hlow : ∀ c t, bel o ++ (beh r ++ u) = c :: t → low c = false := by
      intro c t e
      cases o with
      | cons a b d => injection e with e1 e2; subst e1; rfl
      | nil =>
        cases r with
        | cons a b d => injection e with e1 e2; subst e1; rfl
        | nil =>
          have e : u = c :: t := e
          rw [e] at hu
          exact hu.1
    obtain ⟨t1, t2⟩ := tw_low hlow n (nm_low hn)
    have sh : n ++ (bel o ++ beh r) ++ u = n ++ (bel o ++ (beh r ++ u)) := by simp
    rw [sh]
    unfold gr
    rw [t1, t2, if_pos hn]
    have e1 : opn (gr m) (bel o ++ (beh r ++ u)) = some (o, beh r ++ u) := by
      cases o with
      | nil =>
        refine opn_ne _ fun t z => ?_
        cases r with
        | cons a b d => cases z
        | nil =>
          have z : u = 40 :: t := z
          rw [z] at hu
          exact hu.2.1 rfl
      | cons a b d =>
        have e := gr_full (.cons a b d) m (41 :: (beh r ++ u)) ho (by intro z; cases z) ⟨rfl, by decide, by decide⟩ (by
          have : (bel (.cons a b d)).length = (tx0 (.cons a b d)).length + 2 := by
            show (40 :: (tx0 (.cons a b d) ++ [41])).length = _
            simp
          omega)
        have e0 : bel (.cons a b d) ++ (beh r ++ u) = 40 :: (tx0 (.cons a b d) ++ 41 :: (beh r ++ u)) := by
          show (40 :: (tx0 (.cons a b d) ++ [41])) ++ _ = _
          simp
        rw [e0, opn_40, e] <;> rfl
    rw [e1]
    cases r with
    | cons a b d =>
      have e := gr_full (.cons a b d) m u hr (by intro z; cases z) hu (by
        have : (beh (.cons a b d)).length = (tx0 (.cons a b d)).length + 1 := by
          show (32 :: (tx0 (.cons a b d))).length = _
          simp
        omega)
      show fin (gr m) n (some (o, 32 :: (tx0 (.cons a b d) ++ u))) = _
      rw [fin_32, e]
    | nil =>
      refine fin_ne _ n o (l := u) fun t z => ?_
      rw [z] at hu
      exact hu.2.2 rfl
theorem rw_ok : ∀ (f : Fo) (k : Int), (∀ x ∈ rw f k, nmB x.1 = true) → okF f
  | .nil, _, _ => trivial
  | .cons n o r, k, h => ⟨h (n, k) List.mem_cons_self, rw_ok o (k + 1) fun x hx => h x (List.mem_cons_of_mem _ (List.mem_append_left _ hx)), rw_ok r k fun x hx => h x (List.mem_cons_of_mem _ (List.mem_append_right _ hx))⟩
theorem ok_rw : ∀ (f : Fo) (k : Int), okF f → ∀ x ∈ rw f k, nmB x.1 = true
  | .nil, _, _, x, h => by simp [rw] at h
  | .cons n o r, k, ⟨h1, h2, h3⟩, x, h => by
    rcases List.mem_cons.mp h with rfl | h
    · exact h1
    · rcases List.mem_append.mp h with h | h
      · exact ok_rw o _ h2 x h
      · exact ok_rw r _ h3 x h
theorem rw_ge : ∀ (f : Fo) (k : Int), ∀ x ∈ rw f k, k ≤ x.2
  | .nil, _, x, h => by simp [rw] at h
  | .cons n o r, k, x, h => by
    rcases List.mem_cons.mp h with rfl | h
    · exact Int.le_refl _
    · rcases List.mem_append.mp h with h | h
      · have := rw_ge o _ x h
        omega
      · exact rw_ge r _ x h
theorem tx_cons (n : List Nat) (o r : Fo) : tx (.cons n o r) = tx0 (.cons n o r) := rfl
theorem tx0_ne {f : Fo} (h : okF f) (hf : f ≠ .nil) : tx0 f ≠ [45] := by
  cases f with
  | nil => exact absurd rfl hf
  | cons n o r =>
    intro e
    rw [tx0_cons] at e
    obtain ⟨hn, _⟩ := h
    have h2 := nm_low hn
    cases q : n with
    | nil => exact nm_ne hn q
    | cons c t =>
      rw [q] at e h2
      injection e with e1 e2
      have := h2 c List.mem_cons_self
      rw [e1] at this
      exact absurd this (by decide)
theorem rd_tx0 {f : Fo} (h : okF f) : rdL [] 1 (tx0 f) = rw f 1 := by
  have e := rd_tx f 1 [] h trivial
  rw [List.append_nil] at e
  rw [e]
  show rw f 1 ++ [] = _
  rw [List.append_nil]
theorem of_tx {f : Fo} (h : okF f) : ofM (tx f) = some f := by
  cases f with
  | nil => rfl
  | cons n o r =>
    rw [tx_cons]
    unfold ofM
    rw [if_neg (tx0_ne h (by intro z; cases z)), rd_tx0 h, wr_tx, tx_cons, par_tx, if_pos]
    simp only [Bool.and_eq_true, decide_eq_true_eq]
    refine ⟨⟨List.all_eq_true.mpr fun x hx => ok_rw _ 1 h x hx, List.all_eq_true.mpr fun x hx => decide_eq_true ?_⟩, trivial⟩
    have := rw_ge _ 1 x hx
    omega
theorem of_some {s : List Nat} {f : Fo} (h : ofM s = some f) : s = tx f ∧ okF f := by
  unfold ofM at h
  split at h
  · rename_i e
    injection h with h
    subst h
    exact ⟨e, trivial⟩
  · rename_i hs
    split at h
    · rename_i c
      injection h with h
      subst h
      simp only [Bool.and_eq_true, decide_eq_true_eq] at c
      obtain ⟨⟨c1, c2⟩, c3⟩ := c
      have hn : ∀ x ∈ rdL [] 1 s, nmB x.1 = true := List.all_eq_true.mp c1
      have hp : ∀ x ∈ rdL [] 1 s, 0 < x.2 := fun x hx => of_decide_eq_true (List.all_eq_true.mp c2 x hx)
      have hne : rdL [] 1 s ≠ [] := by
        intro e
        rw [e] at c3
        exact hs c3.symm
      have hv := read_vr hn hp hne (by rw [c3])
      have er := rw_par hv
      have h2 : wr (rw (fo (par (rdL [] 1 s))) 1) = s := by rw [er, c3]
      rw [wr_tx] at h2
      exact ⟨h2.symm, rw_ok _ 1 (by rw [er]; exact hn)⟩
    · cases h
theorem read_tx {f : Fo} (h : okF f) : readM (tx f) = some f := by
  cases f with
  | nil => rfl
  | cons n o r =>
    rw [tx_cons]
    unfold readM
    have e := gr_full (.cons n o r) ((tx0 (.cons n o r)).length + 1) [] h (by intro z; cases z) trivial (by omega)
    rw [List.append_nil] at e
    rw [if_neg (tx0_ne h (by intro z; cases z)), e]
theorem read_some {s : List Nat} {f : Fo} (h : readM s = some f) : s = tx f ∧ okF f := by
  unfold readM at h
  split at h
  · rename_i e
    injection h with h
    subst h
    exact ⟨e, trivial⟩
  · split at h
    · rename_i f' e
      injection h with h
      subst h
      obtain ⟨a1, a2, a3⟩ := gr_sound _ _ _ _ e
      rw [List.append_nil] at a1
      refine ⟨?_, a3⟩
      cases f' with
      | nil => exact absurd rfl a2
      | cons => exact a1
    · cases h
theorem of_read (s : List Nat) : ofM s = readM s := by
  cases h : ofM s with
  | some f =>
    obtain ⟨e, k⟩ := of_some h
    subst e
    exact (read_tx k).symm
  | none =>
    cases h2 : readM s with
    | none => rfl
    | some f =>
      obtain ⟨e, k⟩ := read_some h2
      subst e
      rw [of_tx k] at h
      cases h

/-! ### enough turns -/
theorem opn_congr {g g' : List Nat → Option (Fo × List Nat)} {l : List Nat} (h : ∀ t : List Nat, t.length < l.length → g t = g' t) : opn g l = opn g' l := by
  by_cases q : ∃ t, l = 40 :: t
  · obtain ⟨t, rfl⟩ := q
    rw [opn_40, opn_40, h t (by simp)]
  · rw [opn_ne g fun t z => q ⟨t, z⟩, opn_ne g' fun t z => q ⟨t, z⟩]
theorem fin_congr {g g' : List Nat → Option (Fo × List Nat)} {n l : List Nat} {o : Fo} (h : ∀ t : List Nat, t.length < l.length → g t = g' t) : fin g n (some (o, l)) = fin g' n (some (o, l)) := by
  by_cases q : ∃ t, l = 32 :: t
  · obtain ⟨t, rfl⟩ := q
    rw [fin_32, fin_32, h t (by simp)]
  · rw [fin_ne g n o fun t z => q ⟨t, z⟩, fin_ne g' n o fun t z => q ⟨t, z⟩]
theorem nm_len {n : List Nat} (h : nmB n = true) : 1 ≤ n.length ∧ n.length ≤ 8 := by
  simp only [nmB, Bool.and_eq_true, decide_eq_true_eq] at h
  exact h.1
theorem gr_mono : ∀ (m : Nat) (l : List Nat), l.length < m → gr (m + 1) l = gr m l
  | 0, l, h => by omega
  | m + 1, l, h => by
    have ih := gr_mono m
    show (if nmB (l.takeWhile low) = true then fin (gr (m + 1)) (l.takeWhile low) (opn (gr (m + 1)) (l.dropWhile low)) else none) = if nmB (l.takeWhile low) = true then fin (gr m) (l.takeWhile low) (opn (gr m) (l.dropWhile low)) else none
    by_cases hn : nmB (l.takeWhile low) = true
    · rw [if_pos hn, if_pos hn]
      have hl : (l.takeWhile low).length + (l.dropWhile low).length = l.length := by
        rw [← List.length_append, List.takeWhile_append_dropWhile]
      have h1 := (nm_len hn).1
      rw [opn_congr (g := gr (m + 1)) (g' := gr m) fun t ht => ih t (by omega)]
      cases q : opn (gr m) (l.dropWhile low) with
      | none => rfl
      | some p =>
        obtain ⟨o, t⟩ := p
        have k1 := (opn_some (gr_sound m) q).1
        have k2 : t.length ≤ (l.dropWhile low).length := by rw [k1, List.length_append]; omega
        exact fin_congr fun t' ht => ih t' (by omega)
    · rw [if_neg hn, if_neg hn]
theorem gr_enough (l : List Nat) : ∀ j : Nat, gr (l.length + 1 + j) l = gr (l.length + 1) l
  | 0 => rfl
  | j + 1 => by rw [show l.length + 1 + (j + 1) = (l.length + 1 + j) + 1 by omega, gr_mono _ l (by omega), gr_enough l j]
def grow (l : List Nat) : Option (Fo × List Nat) := gr (l.length + 1) l
theorem grow_of {m : Nat} {l : List Nat} (h : l.length < m) : gr m l = grow l := by
  obtain ⟨j, rfl⟩ : ∃ j, m = l.length + 1 + j := ⟨m - (l.length + 1), by omega⟩
  exact gr_enough l j
theorem grow_eq (l : List Nat) : grow l = if nmB (l.takeWhile low) = true then fin grow (l.takeWhile low) (opn grow (l.dropWhile low)) else none := by
  show (if nmB (l.takeWhile low) = true then fin (gr l.length) (l.takeWhile low) (opn (gr l.length) (l.dropWhile low)) else none) = _
  by_cases hn : nmB (l.takeWhile low) = true
  · rw [if_pos hn, if_pos hn]
    have hl : (l.takeWhile low).length + (l.dropWhile low).length = l.length := by
      rw [← List.length_append, List.takeWhile_append_dropWhile]
    have h1 := (nm_len hn).1
    rw [opn_congr (g := gr l.length) (g' := grow) fun t ht => grow_of (by omega)]
    cases q : opn grow (l.dropWhile low) with
    | none => rfl
    | some p =>
      obtain ⟨o, t⟩ := p
      have k1 := (opn_some (g := grow) (fun l f u h => gr_sound _ l f u h) q).1
      have k2 : t.length ≤ (l.dropWhile low).length := by rw [k1, List.length_append]; omega
      exact fin_congr fun t' ht => grow_of (by omega)
  · rw [if_neg hn, if_neg hn]
/-- trees ahead of others -/
def app : List (List Nat × Fo) → Fo → Fo
  | [], f => f
  | (n, o) :: r, f => .cons n o (app r f)
theorem app_app : ∀ (xs ys : List (List Nat × Fo)) (f : Fo), app (xs ++ ys) f = app xs (app ys f)
  | [], _, _ => rfl
  | (n, o) :: r, ys, f => by
    show Fo.cons n o (app (r ++ ys) f) = _
    rw [app_app r ys f] <;> rfl
def pre (xs : List (List Nat × Fo)) : Option (Fo × List Nat) → Option (Fo × List Nat)
  | none => none
  | some (f, u) => some (app xs f, u)
theorem pre_nil (x : Option (Fo × List Nat)) : pre [] x = x := by
  cases x <;> rfl
theorem pre_pre (xs ys : List (List Nat × Fo)) (x : Option (Fo × List Nat)) : pre xs (pre ys x) = pre (xs ++ ys) x := by
  cases x with
  | none => rfl
  | some p =>
    obtain ⟨f, u⟩ := p
    show some (app xs (app ys f), u) = some (app (xs ++ ys) f, u)
    rw [app_app]
theorem fin_pre (n : List Nat) (o : Fo) (t : List Nat) : fin grow n (some (o, 32 :: t)) = pre [(n, o)] (grow t) := by
  rw [fin_32]
  cases grow t with
  | none => rfl
  | some p => rfl
/-! ### trees of rows, cut at the rows -/
theorem hdI_par {d : Int} {r : List Row} (h : Hd d r) : HdI d (par r) := by
  cases r with
  | nil => trivial
  | cons x r => exact h
theorem dropWhile_hd {d : Int} : ∀ r : List Row, Hd d (r.dropWhile fun x => decide (x.2 > d))
  | [] => trivial
  | x :: r => by
    by_cases q : x.2 > d
    · rw [List.dropWhile_cons_of_pos (by simpa using q)]
      exact dropWhile_hd r
    · rw [List.dropWhile_cons_of_neg (by simpa using q)]
      show x.2 ≤ d
      omega
theorem takeWhile_all {d : Int} : ∀ r : List Row, ∀ x ∈ r.takeWhile (fun x => decide (x.2 > d)), x.2 > d
  | [], x, h => by simp at h
  | y :: r, x, h => by
    by_cases q : y.2 > d
    · rw [List.takeWhile_cons_of_pos (by simpa using q)] at h
      rcases List.mem_cons.mp h with rfl | h
      · exact q
      · exact takeWhile_all r x h
    · rw [List.takeWhile_cons_of_neg (by simpa using q)] at h
      simp at h
theorem wh_app {e : Int} {Y : List It} (hY : ∀ x ∈ Y.head?, ¬ x.1 > e) : ∀ xs : List It, (xs ++ Y).takeWhile (fun x => decide (x.1 > e)) = xs.takeWhile (fun x => decide (x.1 > e)) ∧ (xs ++ Y).dropWhile (fun x => decide (x.1 > e)) = xs.dropWhile (fun x => decide (x.1 > e)) ++ Y
  | [] => by
    cases Y with
    | nil => exact ⟨rfl, rfl⟩
    | cons y t =>
      have h := hY y rfl
      rw [List.nil_append, List.takeWhile_cons_of_neg (by simpa using h), List.dropWhile_cons_of_neg (by simpa using h)]
      exact ⟨rfl, rfl⟩
  | x :: xs => by
    obtain ⟨h1, h2⟩ := wh_app hY xs
    by_cases q : x.1 > e
    · rw [List.cons_append, List.takeWhile_cons_of_pos (by simpa using q), List.takeWhile_cons_of_pos (by simpa using q), List.dropWhile_cons_of_pos (by simpa using q), List.dropWhile_cons_of_pos (by simpa using q), h1, h2]
      exact ⟨rfl, rfl⟩
    · rw [List.cons_append, List.takeWhile_cons_of_neg (by simpa using q), List.takeWhile_cons_of_neg (by simpa using q), List.dropWhile_cons_of_neg (by simpa using q), List.dropWhile_cons_of_neg (by simpa using q)]
      exact ⟨rfl, rfl⟩
theorem par_app {d : Int} {r2 : List Row} (h2 : HdI d (par r2)) : ∀ r1 : List Row, (∀ x ∈ r1, x.2 > d) → par (r1 ++ r2) = par r1 ++ par r2
  | [], _ => rfl
  | (n, e) :: r1, h => by
    have he : e > d := h (n, e) List.mem_cons_self
    have ih := par_app h2 r1 fun x hx => h x (List.mem_cons_of_mem _ hx)
    have hY : ∀ x ∈ (par r2).head?, ¬ x.1 > e := fun x hx => by
      cases q : par r2 with
      | nil => rw [q] at hx; simp at hx
      | cons y t =>
        rw [q] at hx h2
        simp at hx
        subst hx
        have : y.1 ≤ d := h2
        omega
    obtain ⟨w1, w2⟩ := wh_app hY (par r1)
    show (e, n, fo (List.takeWhile _ (par (r1 ++ r2)))) :: List.dropWhile _ (par (r1 ++ r2)) = _
    rw [ih, w1, w2] <;> rfl
theorem par_gt {d : Int} : ∀ r1 : List Row, (∀ x ∈ r1, x.2 > d) → ∀ x ∈ par r1, x.1 > d
  | [], _, x, h => by simp [par] at h
  | (n, e) :: r1, h, x, hx => by
    rcases List.mem_cons.mp hx with rfl | hx
    · exact h (n, e) List.mem_cons_self
    · exact par_gt r1 (fun x hx => h x (List.mem_cons_of_mem _ hx)) x (List.dropWhile_sublist _ |>.subset hx)
/-- one tree with all deeper rows behind it, then the rest -/
theorem fo_par_cons (n : List Nat) (d : Int) (r : List Row) : fo (par ((n, d) :: r)) = .cons n (fo (par (r.takeWhile fun x => decide (x.2 > d)))) (fo (par (r.dropWhile fun x => decide (x.2 > d)))) := by
  have hd := hdI_par (dropWhile_hd (d := d) r)
  have ht := takeWhile_all (d := d) r
  have e : par r = par (r.takeWhile fun x => decide (x.2 > d)) ++ par (r.dropWhile fun x => decide (x.2 > d)) := by
    rw [← par_app hd _ ht, List.takeWhile_append_dropWhile]
  have hg := par_gt _ ht
  have hY : ∀ x ∈ (par (r.dropWhile fun x => decide (x.2 > d))).head?, ¬ x.1 > d := fun x hx => by
    cases q : par (r.dropWhile fun x => decide (x.2 > d)) with
    | nil => rw [q] at hx; simp at hx
    | cons y t =>
      rw [q] at hx hd
      simp at hx
      subst hx
      have : y.1 ≤ d := hd
      omega
  obtain ⟨w1, w2⟩ := wh_app hY (par (r.takeWhile fun x => decide (x.2 > d)))
  have a1 : (par (r.takeWhile fun x => decide (x.2 > d))).takeWhile (fun x => decide (x.1 > d)) = par (r.takeWhile fun x => decide (x.2 > d)) := by
    have := List.takeWhile_append_of_pos (p := fun x : It => decide (x.1 > d)) (l₁ := par (r.takeWhile fun x => decide (x.2 > d))) (l₂ := []) fun x hx => decide_eq_true (hg x hx)
    rw [List.append_nil] at this
    rw [this]
    show _ ++ [] = _
    rw [List.append_nil]
  have a2 : (par (r.takeWhile fun x => decide (x.2 > d))).dropWhile (fun x => decide (x.1 > d)) = [] := by
    have := List.takeWhile_append_dropWhile (p := fun x : It => decide (x.1 > d)) (l := par (r.takeWhile fun x => decide (x.2 > d)))
    rw [a1] at this
    exact List.append_cancel_left (this.trans (List.append_nil _).symm)
  show Fo.cons n (fo (List.takeWhile _ (par r))) (fo (List.dropWhile _ (par r))) = _
  rw [e, w1, w2, a1, a2, List.nil_append]
end Fs

set_option Elab.async false
set_option maxRecDepth 100000
set_option maxHeartbeats 4000000
/-! Texts of forests: the library's text operations in signs. -/
namespace Wf
open PySem PySem.Spec PyProof.Rows L2 TL
open Ko (mkS nameB cutL okS map_mk split_cut pre1)
open Fs (Fo rdL em jt wg wr nmB)
theorem tl_mkS (l : List Nat) : tl (mkS l) = l := rfl
theorem mk_tl' (s : Str) : mkS (tl s) = s := ext_tl rfl
theorem mk_inj {a b : List Nat} (h : mkS a = mkS b) : a = b := by
  have := congrArg tl h
  exact this
theorem len_mk (l : List Nat) : (mkS l).length = l.length := by
  rw [len_tl]
  rfl
theorem mk_app (a b : List Nat) : mkS a ++ mkS b = mkS (a ++ b) := ext_tl (by rw [tl_append] <;> rfl)
theorem lets_eq : Ko.lets = List.range' 97 26 := by decide +kernel
theorem low_eq (c : Nat) : Ko.low c = Fs.low c := by
  unfold Ko.low Fs.low
  rw [lets_eq, ← Bool.decide_and, decide_eq_decide, List.mem_range'_1]
  omega
theorem name_eq (l : List Nat) : nameB (mkS l) = nmB l := by
  unfold nameB nmB
  rw [len_mk, tl_mkS, show Ko.low = Fs.low from funext low_eq]
theorem name_mk (s : Str) : nameB s = nmB (tl s) := by
  rw [← name_eq, mk_tl']
/-! ### the padded text -/
def pad : List Nat → List Nat
  | [] => []
  | c :: r => if c = 40 then 32 :: 40 :: 32 :: pad r else if c = 41 then 32 :: 41 :: 32 :: pad r else c :: pad r
open PySem.StrLaws (replL replL_nil replL_hit replL_miss replace_list)
theorem repl1 (y : Nat) (z : List Nat) (c : Nat) (r : List Nat) : replL [y] z (c :: r) = if c = y then z ++ replL [y] z r else c :: replL [y] z r := by
  by_cases h : c = y
  · subst h
    rw [if_pos rfl, replL_hit (by simp) (by simp)]
    rfl
  · rw [if_neg h, replL_miss (by simpa using h)]
theorem pad_repl : ∀ l : List Nat, replL [41] [32, 41, 32] (replL [40] [32, 40, 32] l) = pad l
  | [] => by rw [replL_nil, replL_nil] <;> rfl
  | c :: r => by
    rw [repl1]
    by_cases h : c = 40
    · rw [if_pos h]
      show replL [41] [32, 41, 32] (32 :: 40 :: 32 :: replL [40] [32, 40, 32] r) = _
      rw [repl1, if_neg (by decide), repl1, if_neg (by decide), repl1, if_neg (by decide), pad_repl r]
      unfold pad
      rw [if_pos h]
      cases r <;> rfl
    · rw [if_neg h, repl1]
      by_cases h2 : c = 41
      · rw [if_pos h2, pad_repl r]
        conv => rhs; unfold pad
        rw [if_neg h, if_pos h2] <;> rfl
      · rw [if_neg h2, pad_repl r]
        conv => rhs; unfold pad
        rw [if_neg h, if_neg h2]
theorem pad_cons (c : Nat) (r : List Nat) : pad (c :: r) = if c = 40 then 32 :: 40 :: 32 :: pad r else if c = 41 then 32 :: 41 :: 32 :: pad r else c :: pad r := rfl
theorem pad_len : ∀ l : List Nat, (pad l).length ≤ 3 * l.length
  | [] => Nat.le_refl _
  | c :: r => by
    have := pad_len r
    unfold pad
    split
    · simp only [List.length_cons]; omega
    · split <;> (simp only [List.length_cons]; omega)
theorem tl_lp : tl ("(" : Str) = [40] := by decide +kernel
theorem tl_rp : tl (")" : Str) = [41] := by decide +kernel
theorem tl_lpw : tl (" ( " : Str) = [32, 40, 32] := by decide +kernel
theorem tl_rpw : tl (" ) " : Str) = [32, 41, 32] := by decide +kernel
theorem lp_mk : ("(" : Str) = mkS [40] := ext_tl tl_lp
theorem rp_mk : (")" : Str) = mkS [41] := ext_tl tl_rp
theorem sp_mk : (" " : Str) = mkS [32] := ext_tl Ko.tl_sp
theorem mn_mk : ("-" : Str) = mkS [45] := ext_tl (by decide +kernel)
theorem em_mk : ("" : Str) = mkS [] := ext_tl (by decide +kernel)
theorem tl_repl (x y z : Str) (h : 1 ≤ y.length) : tl (Txt.replace x y z) = replL (tl y) (tl z) (tl x) := replace_list h
def padS (s : Str) : Str := Txt.replace (Txt.replace s "(" " ( ") ")" " ) "
theorem pad_tl (s : Str) : padS s = mkS (pad (tl s)) := by
  refine ext_tl ?_
  unfold padS
  rw [tl_repl _ _ _ (by rw [len_tl, tl_rp]; decide), tl_repl _ _ _ (by rw [len_tl, tl_lp]; decide), tl_rp, tl_rpw, tl_lp, tl_lpw, pad_repl]
  rfl
/-! ### the words of the padded text -/
def rw0 : Int → List (List Nat) → List Fs.Row
  | _, [] => []
  | d, w :: r => if w = [40] then rw0 (d + 1) r else if w = [41] then rw0 (d - 1) r else if w = [] then rw0 d r else (w, d) :: rw0 d r
theorem rw0_em {cur : List Nat} {d : Int} {r : List (List Nat)} (h1 : cur ≠ [40]) (h2 : cur ≠ [41]) : rw0 d (cur :: r) = em cur d ++ rw0 d r := by
  unfold em
  rw [rw0, if_neg h1, if_neg h2]
  by_cases h : cur = []
  · rw [if_pos h, if_pos h] <;> rfl
  · rw [if_neg h, if_neg h] <;> rfl
theorem no_par {cur : List Nat} (h : ∀ c ∈ cur, Fs.sepB c = false) : cur ≠ [40] ∧ cur ≠ [41] := by
  constructor
  · rintro rfl
    exact absurd (h 40 (by simp)) (by decide)
  · rintro rfl
    exact absurd (h 41 (by simp)) (by decide)
theorem spl_hit1 (acc r : List Nat) : spl [32] 0 acc (32 :: r) = acc :: spl [32] 0 [] r := spl_hit (by rw [pre1] <;> rfl)
theorem spl_miss1 {c : Nat} (acc r : List Nat) (h : c ≠ 32) : spl [32] 0 acc (c :: r) = spl [32] 0 (acc ++ [c]) r := spl_miss (by rw [pre1]; exact beq_eq_false_iff_ne.mpr h)
theorem rw0_rd : ∀ (l cur : List Nat) (d : Int), (∀ c ∈ cur, Fs.sepB c = false) → rw0 d (spl [32] 0 cur (pad l)) = rdL cur d l
  | [], cur, d, h => by
    obtain ⟨h1, h2⟩ := no_par h
    show rw0 d (spl [32] 0 cur []) = em cur d
    rw [spl_nil, rw0_em h1 h2]
    show em cur d ++ [] = _
    rw [List.append_nil]
  | c :: r, cur, d, h => by
    obtain ⟨h1, h2⟩ := no_par h
    have hn : ∀ c ∈ ([] : List Nat), Fs.sepB c = false := fun _ z => by simp at z
    by_cases e1 : c = 32
    · subst e1
      rw [pad_cons, if_neg (by decide), if_neg (by decide), spl_hit1, rw0_em h1 h2, rw0_rd r [] d hn, rdL, if_pos rfl]
    · by_cases e2 : c = 40
      · subst e2
        rw [pad_cons, if_pos rfl, spl_hit1, rw0_em h1 h2, spl_miss1 _ _ (by decide), List.nil_append, spl_hit1, rw0, if_pos rfl, rw0_rd r [] _ hn, rdL, if_neg e1, if_pos rfl]
      · by_cases e3 : c = 41
        · subst e3
          rw [pad_cons, if_neg e2, if_pos rfl, spl_hit1, rw0_em h1 h2, spl_miss1 _ _ (by decide), List.nil_append, spl_hit1, rw0, if_neg (by decide), if_pos rfl, rw0_rd r [] _ hn, rdL, if_neg e1, if_neg e2, if_pos rfl]
        · rw [pad_cons, if_neg e2, if_neg e3, spl_miss1 _ _ e1, rw0_rd r _ d, rdL, if_neg e1, if_neg e2, if_neg e3]
          intro x hx
          rcases List.mem_append.mp hx with hx | hx
          · exact h x hx
          · rw [List.mem_singleton.mp hx]
            simp [Fs.sepB, e1, e2, e3]
def wrds (s : Str) : List (List Nat) := spl [32] 0 [] (pad (tl s))
theorem split_pad (s : Str) : Txt.split (padS s) " " = (wrds s).map mkS := by
  rw [split_cut, pad_tl] <;> rfl
theorem rw0_wrds (s : Str) : rw0 1 (wrds s) = rdL [] 1 (tl s) := rw0_rd (tl s) [] 1 fun _ z => by simp at z
theorem wrds_len (s : Str) : (wrds s).length ≤ 3 * s.length + 1 := by
  have h := Ko.cut_len (padS s)
  have e : cutL (padS s) = (wrds s).map mkS := by rw [pad_tl] <;> rfl
  rw [e, List.length_map, pad_tl, len_mk] at h
  have := pad_len (tl s)
  rw [← len_tl] at this
  omega
/-! ### how many rows, how deep, how long -/
theorem rd_len : ∀ (l cur : List Nat) (d : Int), (rdL cur d l).length ≤ l.length + 1 ∧ ∀ x ∈ rdL cur d l, x.1.length ≤ cur.length + l.length ∧ d - l.length ≤ x.2 ∧ x.2 ≤ d + l.length
  | [], cur, d => by
    show (em cur d).length ≤ 0 + 1 ∧ ∀ x ∈ em cur d, _
    unfold em
    split
    · exact ⟨by simp, fun x h => by simp at h⟩
    · refine ⟨by simp, fun x h => ?_⟩
      rw [List.mem_singleton.mp h]
      simp
  | c :: r, cur, d => by
    have he : (em cur d).length ≤ 1 ∧ ∀ x ∈ em cur d, x.1.length ≤ cur.length ∧ x.2 = d := by
      unfold em
      split
      · exact ⟨by simp, fun x h => by simp at h⟩
      · refine ⟨by simp, fun x h => ?_⟩
        rw [List.mem_singleton.mp h]
        exact ⟨Nat.le_refl _, rfl⟩
    have go : ∀ d' : Int, d - 1 ≤ d' → d' ≤ d + 1 → (em cur d ++ rdL [] d' r).length ≤ (c :: r).length + 1 ∧ ∀ x ∈ em cur d ++ rdL [] d' r, x.1.length ≤ cur.length + (c :: r).length ∧ d - ((c :: r).length : Nat) ≤ x.2 ∧ x.2 ≤ d + ((c :: r).length : Nat) := fun d' g1 g2 => by
      obtain ⟨i1, i2⟩ := rd_len r [] d'
      refine ⟨by rw [List.length_append, List.length_cons]; omega, fun x hx => ?_⟩
      rw [List.length_cons]
      rcases List.mem_append.mp hx with hx | hx
      · obtain ⟨j1, j2⟩ := he.2 x hx
        exact ⟨by omega, by omega, by omega⟩
      · obtain ⟨j1, j2, j3⟩ := i2 x hx
        simp only [List.length_nil] at j1
        exact ⟨by omega, by omega, by omega⟩
    by_cases e1 : c = 32
    · rw [rdL, if_pos e1]
      exact go d (by omega) (by omega)
    · by_cases e2 : c = 40
      · rw [rdL, if_neg e1, if_pos e2]
        exact go (d + 1) (by omega) (by omega)
      · by_cases e3 : c = 41
        · rw [rdL, if_neg e1, if_neg e2, if_pos e3]
          exact go (d - 1) (by omega) (by omega)
        · rw [rdL, if_neg e1, if_neg e2, if_neg e3]
          obtain ⟨i1, i2⟩ := rd_len r (cur ++ [c]) d
          refine ⟨by rw [List.length_cons]; omega, fun x hx => ?_⟩
          obtain ⟨j1, j2, j3⟩ := i2 x hx
          rw [List.length_append] at j1
          simp only [List.length_cons, List.length_nil] at j1 ⊢
          exact ⟨by omega, by omega, by omega⟩
/-! ### written -/
def pt : Int → List Fs.Row → List (List Nat)
  | _, [] => []
  | a, (n, d) :: r => (jt a d ++ n) :: pt d r
def lastD : Int → List Fs.Row → Int
  | a, [] => a
  | _, (_, d) :: r => lastD d r
theorem wg_pt : ∀ (r : List Fs.Row) (a : Int), wg a r = (pt a r).flatten ++ List.replicate (lastD a r - 1).toNat 41
  | [], _ => rfl
  | (n, d) :: r, a => by
    show jt a d ++ (n ++ wg d r) = ((jt a d ++ n) :: pt d r).flatten ++ _
    rw [wg_pt r d]
    simp [lastD]
theorem joinL_nil : ∀ ps : List (List Nat), joinL [] ps = ps.flatten
  | [] => rfl
  | [p] => by show p = _; simp
  | p :: q :: r => by
    show p ++ ([] ++ joinL [] (q :: r)) = _
    rw [joinL_nil (q :: r)]
    simp
theorem join_flat (ps : List (List Nat)) : Txt.join "" (ps.map mkS) = mkS ps.flatten := by
  refine ext_tl ?_
  rw [join_eq, tl_join, map_mk, show tl ("" : Str) = [] by decide +kernel, joinL_nil]
  rfl
theorem mul_rp (n : Int) : Txt.mul ")" n = mkS (List.replicate n.toNat 41) := by
  refine ext_tl ?_
  rw [show ((")" : Str)) = ⟨#[41]⟩ from rp_mk]
  exact mul_one_list 41 n
theorem pt_len : ∀ (r : List Fs.Row) (a : Int), (pt a r).length = r.length
  | [], _ => rfl
  | (n, d) :: r, a => by
    show (pt d r).length + 1 = r.length + 1
    rw [pt_len r d]
theorem pt_get : ∀ (r : List Fs.Row) (n0 : List Nat) (a : Int) (i : Nat) (h : i < r.length), (pt a r)[i]? = some (jt (((n0, a) :: r)[i]?.getD ([], 0)).2 (r[i]).2 ++ (r[i]).1)
  | (n, d) :: r, n0, a, 0, _ => rfl
  | (n, d) :: r, n0, a, i + 1, h => by
    show (pt d r)[i]? = some (jt (((n, d) :: r)[i]?.getD ([], 0)).2 _ ++ _)
    exact pt_get r n d i (by simpa using h)
theorem last_get : ∀ (r : List Fs.Row) (n0 : List Nat) (a : Int), ((n0, a) :: r)[r.length]?.getD ([], 0) = ((((n0, a) :: r)[r.length]?.getD ([], 0)).1, lastD a r)
  | [], n0, a => rfl
  | (n, d) :: r, n0, a => by
    show ((n, d) :: r)[r.length]?.getD ([], 0) = ((((n, d) :: r)[r.length]?.getD ([], 0)).1, lastD d r)
    exact last_get r n d
/-! ### what is not longer than so much -/
def Fit (B : Nat) (r : List Fs.Row) : Prop := r.length ≤ B ∧ ∀ x ∈ r, x.1.length ≤ B ∧ -(B : Int) ≤ x.2 ∧ x.2 ≤ B
theorem jt_len {B : Nat} {a b : Int} (ha : a ≤ B) (hb : -(B : Int) ≤ b) : (jt a b).length ≤ 2 * B + 1 := by
  unfold jt
  split
  · simp
  · simp only [List.length_append, List.length_replicate, List.length_singleton]
    omega
end Wf

set_option Elab.async false
set_option maxRecDepth 100000
set_option maxHeartbeats 4000000
namespace PySem
open Sem (wp)
section
variable {prog : Program} {w : World} {A : Around} {E : Value → Shared → Prop} {s : Shared} {z TI TO i1 i2 T : Addr} {f : Bool} {oT : Obj} {fp1 fp2 : List Addr} {n1 n2 i : Nat} {P1 P2 : Nat → Value → Prop} {St1 St2 : Nat → Heap → Prop} {a1 a2 : Value}
/-- next of a zip over any two, its last pair still held -/
theorem zipH_item {Q : Value → Shared → Prop} (S : ZipSep2 z TI TO i1 i2 fp1 fp2) (D1 : Draws prog w A i1 fp1 n1 P1 St1) (D2 : Draws prog w A i2 fp2 n2 P2 St2)
    (hz : IsZipHeld s.heap z TI TO T f) (hT : s.heap.get? T = some oT) (hTI : IsTupOf2 s.heap TI (.ref i1) (.ref i2)) (st1 : St1 i s.heap) (st2 : St2 i s.heap) (hlt1 : i < n1) (hlt2 : i < n2)
    (hQ : ∀ x1 x2 h' tk, P1 i x1 → P2 i x2 → IsZipHeld h' z TI TO T true → St1 (i + 1) h' → St2 (i + 1) h' → IsTupOf2 h' s.heap.objs.size x1 x2 → h'.objs.size = s.heap.objs.size + 1 →
      (∀ c o, c ≠ z → c ≠ i1 → c ≠ i2 → s.heap.get? c = some o → h'.get? c = some o) → Q (.ref s.heap.objs.size) { s with heap := h', toks := tk }) :
    wpAny (model prog w) A (Builtin.«zip.__next__» ⟨[.ref z], []⟩) (fun fin s' => ∃ v, fin = .done (.ret v) ∧ Q v s') E s := by
  show wpAny _ _ (field (.ref z) 2 >>= _) _ _ _
  refine wpAny_bind (wpAny_field hz rfl (x := .bool false) rfl ?_)
  show wpAny _ _ (field (.ref z) 3 >>= _) _ _ _
  refine wpAny_bind (wpAny_field hz rfl (x := .ref TI) rfl ?_)
  refine wpAny_bind (wpAny_seqItems hTI rfl ?_)
  show wpAny _ _ (Builtin.SmallTypes.ownedTupleIsFree (.ref z) >>= _) _ _ _
  refine wpAny_bind (wpAny_tupleHeld_zip hz hT fun g1 z1 b1 => ?_)
  simp only [Bool.false_eq_true, if_false]
  refine wpAny_bind ?_
  rw [← Array.forIn_toList]
  simp only [List.forIn_cons, List.forIn_nil]
  refine wpAny_bind (wpAny_bind (wpAny_holding ?_))
  show wpAny _ _ (Builtin.SmallTypes.nextOf (.ref i1) >>= _) _ _ _
  refine wpAny_bind (D1.item i { s with heap := g1 } _ _ hlt1 (D1.over st1 b1 S.zf1) fun x1 g2 t2 p1 s1 b2 => wpAny_pure ?_)
  refine wpAny_pure ?_
  refine wpAny_bind (wpAny_bind (wpAny_holding ?_))
  show wpAny _ _ (Builtin.SmallTypes.nextOf (.ref i2) >>= _) _ _ _
  refine wpAny_bind (D2.item i { s with heap := g2, toks := t2 } _ _ hlt2 (D2.over (D2.over st2 b1 S.zf2) b2 S.sep1_2) fun x2 g3 t3 p2 s2 b3 => wpAny_pure ?_)
  refine wpAny_pure (wpAny_pure ?_)
  show wpAny _ _ (newTuple [x1, x2] >>= _) _ _ _
  refine wpAny_bind (wpAny_newTuple ?_)
  have b3' : Heap.SameBut i2 g2 g3 := b3
  have b2' : Heap.SameBut i1 g1 g2 := b2
  have hsz : g3.objs.size = s.heap.objs.size := by rw [b3'.1, b2'.1, b1.1]
  have z3 : IsZipHeld g3 z TI TO T true := b3'.extBut _ _ S.zi2 (b2'.extBut _ _ S.zi1 z1)
  have hk : ∀ c o, c ≠ z → c ≠ i1 → c ≠ i2 → s.heap.get? c = some o → g3.get? c = some o := fun c o c1 c2 c3 e => b3'.extBut _ _ c3 (b2'.extBut _ _ c2 (b1.extBut _ _ c1 e))
  have s13 : St1 (i + 1) g3 := D1.over s1 b3' S.sep2_1
  refine wpAny_pure ⟨_, rfl, ?_⟩
  show Q (.ref g3.objs.size) _
  have hp : IsTupOf2 (g3.push { cls := .type "tuple", data := .seq #[x1, x2] }) g3.objs.size x1 x2 := Heap.get?_push_size _ rfl
  have hz4 : (g3.push { cls := .type "tuple", data := .seq #[x1, x2] }).objs.size = g3.objs.size + 1 := Heap.size_push ..
  rw [hsz] at hp hz4 ⊢
  exact hQ x1 x2 _ t3 p1 p2 (Heap.get?_push_of_some _ z3) (D1.frame _ _ _ s13 fun b _ o e => Heap.get?_push_of_some _ e) (D2.frame _ _ _ s2 fun b _ o e => Heap.get?_push_of_some _ e) hp hz4 fun c o c1 c2 c3 e => Heap.get?_push_of_some _ (hk c o c1 c2 c3 e)
theorem zipH_end {Q : Fin → Shared → Prop} (S : ZipSep2 z TI TO i1 i2 fp1 fp2) (D1 : Draws prog w A i1 fp1 n1 P1 St1) (D2 : Draws prog w A i2 fp2 n2 P2 St2)
    (hz : IsZipHeld s.heap z TI TO T f) (hT : s.heap.get? T = some oT) (hTI : IsTupOf2 s.heap TI (.ref i1) (.ref i2)) (st1 : St1 i s.heap) (st2 : St2 i s.heap) (hle1 : i ≤ n1) (hle2 : i ≤ n2) (hend : i = n1 ∨ i = n2)
    (hE : ∀ h' tk e, (∀ c o, c ≠ z → c ≠ i1 → c ≠ i2 → s.heap.get? c = some o → h'.get? c = some o) → (∃ o, h'.get? e = some o ∧ o.cls = .type "StopIteration") → E (.ref e) { s with heap := h', toks := tk }) :
    wpAny (model prog w) A (Builtin.«zip.__next__» ⟨[.ref z], []⟩) Q E s := by
  show wpAny _ _ (field (.ref z) 2 >>= _) _ _ _
  refine wpAny_bind (wpAny_field hz rfl (x := .bool false) rfl ?_)
  show wpAny _ _ (field (.ref z) 3 >>= _) _ _ _
  refine wpAny_bind (wpAny_field hz rfl (x := .ref TI) rfl ?_)
  refine wpAny_bind (wpAny_seqItems hTI rfl ?_)
  show wpAny _ _ (Builtin.SmallTypes.ownedTupleIsFree (.ref z) >>= _) _ _ _
  refine wpAny_bind (wpAny_tupleHeld_zip hz hT fun g1 z1 b1 => ?_)
  simp only [Bool.false_eq_true, if_false]
  refine wpAny_bind ?_
  rw [← Array.forIn_toList]
  simp only [List.forIn_cons, List.forIn_nil]
  refine wpAny_bind (wpAny_bind (wpAny_holding ?_))
  show wpAny _ _ (Builtin.SmallTypes.nextOf (.ref i1) >>= _) _ _ _
  by_cases h1 : i = n1
  · subst h1
    refine wpAny_bind (D1.done { s with heap := g1 } _ _ (D1.over st1 b1 S.zf1) fun g2 e hs2 he => ?_)
    exact hE g2 _ e (fun c o c1 c2 _ x => hs2 _ _ c2 (b1.extBut _ _ c1 x)) he
  · have h2 : i = n2 := hend.resolve_left h1
    refine wpAny_bind (D1.item i { s with heap := g1 } _ _ (by omega) (D1.over st1 b1 S.zf1) fun x1 g2 t2 p1 s1 b2 => wpAny_pure ?_)
    refine wpAny_pure ?_
    refine wpAny_bind (wpAny_bind (wpAny_holding ?_))
    show wpAny _ _ (Builtin.SmallTypes.nextOf (.ref i2) >>= _) _ _ _
    subst h2
    refine wpAny_bind (D2.done { s with heap := g2, toks := t2 } _ _ (D2.over (D2.over st2 b1 S.zf2) b2 S.sep1_2) fun g3 e hs3 he => ?_)
    exact hE g3 _ e (fun c o c1 c2 c3 x => hs3 _ _ c3 ((show Heap.SameBut i1 g1 g2 from b2).extBut _ _ c2 (b1.extBut _ _ c1 x))) he
theorem nextH_item {Q : Option Value → Shared → Prop} (S : ZipSep2 z TI TO i1 i2 fp1 fp2) (D1 : Draws prog w A.in1 i1 fp1 n1 P1 St1) (D2 : Draws prog w A.in1 i2 fp2 n2 P2 St2)
    (hz : IsZipHeld s.heap z TI TO T f) (hT : s.heap.get? T = some oT) (hTI : IsTupOf2 s.heap TI (.ref i1) (.ref i2)) (st1 : St1 i s.heap) (st2 : St2 i s.heap) (hlt1 : i < n1) (hlt2 : i < n2)
    (hQ : ∀ x1 x2 h' tk, P1 i x1 → P2 i x2 → IsZipHeld h' z TI TO T true → St1 (i + 1) h' → St2 (i + 1) h' → IsTupOf2 h' s.heap.objs.size x1 x2 → h'.objs.size = s.heap.objs.size + 1 →
      (∀ c o, c ≠ z → c ≠ i1 → c ≠ i2 → s.heap.get? c = some o → h'.get? c = some o) → Q (some (.ref s.heap.objs.size)) { s with heap := h', toks := tk }) :
    wpAny (model prog w) A (pyNext (.ref z)) Q E s := by
  have hTy : s.TypeIs (.ref z) "zip" := ⟨_, hz, rfl⟩
  unfold pyNext
  exact wpAny_bind (wpAny_attempt (wpAny_callSpecial?_slot (name := Str.ofString "__next__") hTy F.slot_zip_next
    (wpAny_call_entry F.slot_zip_next hTy F.entry_zip_next
      (zipH_item S D1 D2 hz hT hTI st1 st2 hlt1 hlt2 fun x1 x2 h' tk a1 a2 a3 a4 a5 a6 a7 a8 => wpAny_pure (hQ x1 x2 h' tk a1 a2 a3 a4 a5 a6 a7 a8)) (F.args_zip_next_1 _))))
theorem nextH_end {Q : Option Value → Shared → Prop} (S : ZipSep2 z TI TO i1 i2 fp1 fp2) (D1 : Draws prog w A.in1 i1 fp1 n1 P1 St1) (D2 : Draws prog w A.in1 i2 fp2 n2 P2 St2)
    (hz : IsZipHeld s.heap z TI TO T f) (hT : s.heap.get? T = some oT) (hTI : IsTupOf2 s.heap TI (.ref i1) (.ref i2)) (st1 : St1 i s.heap) (st2 : St2 i s.heap) (hle1 : i ≤ n1) (hle2 : i ≤ n2) (hend : i = n1 ∨ i = n2)
    (hQ : ∀ h' tk, (∀ c o, c ≠ z → c ≠ i1 → c ≠ i2 → s.heap.get? c = some o → h'.get? c = some o) → Q none { s with heap := h', toks := tk }) : wpAny (model prog w) A (pyNext (.ref z)) Q E s := by
  have hTy : s.TypeIs (.ref z) "zip" := ⟨_, hz, rfl⟩
  unfold pyNext
  refine wpAny_bind (wpAny_attempt (wpAny_callSpecial?_slot (name := Str.ofString "__next__") hTy F.slot_zip_next
    (wpAny_call_entry F.slot_zip_next hTy F.entry_zip_next (zipH_end S D1 D2 hz hT hTI st1 st2 hle1 hle2 hend fun h' tk e hk he => ?_) (F.args_zip_next_1 _))))
  obtain ⟨o, ho, hc⟩ := he
  refine wpAny_bind (wpAny_isInstance (T := "StopIteration") (b := true) ⟨o, ho, hc⟩ isSubtype_stop ?_)
  exact wpAny_pure (hQ _ _ hk)
end
/-- zip of any two as dict's argument -/
theorem PairArg.zipAny {prog : Program} {w : World} {z TI TO i1 i2 : Addr} {fp1 fp2 : List Addr} {n1 n2 : Nat} {P1 P2 : Nat → Value → Prop} {St1 St2 : Nat → Heap → Prop} (S : ZipSep2 z TI TO i1 i2 fp1 fp2)
    (D1 : ∀ A : Around, A.handled = none → Draws prog w A i1 fp1 n1 P1 St1) (D2 : ∀ A : Around, A.handled = none → Draws prog w A i2 fp2 n2 P2 St2)
    (r1 : ∀ i h h', St1 i h → (∀ b ∈ fp1, ∀ o, h.get? b = some o → h'.get? b = some o) → St1 i h') (r2 : ∀ i h h', St2 i h → (∀ b ∈ fp2, ∀ o, h.get? b = some o → h'.get? b = some o) → St2 i h') :
    PairArg prog w "zip" z (z :: TI :: TO :: (fp1 ++ fp2)) [z, TO, i1, i2] (min n1 n2) (fun i k v => P1 i k ∧ P2 i v)
      (fun h => IsZip h z TI TO .none ∧ IsTupOf2 h TI (.ref i1) (.ref i2) ∧ (∃ a b, IsTupOf2 h TO a b) ∧ St1 0 h ∧ St2 0 h ∧ ∀ b ∈ fp1 ++ fp2, ∃ o, h.get? b = some o) where
  type := fun s ok => ⟨_, ok.1, rfl⟩
  notDict := by decide
  keep := fun h h' ok hk => by
    obtain ⟨hz, hTI, ⟨a, b, hTO⟩, h1, h2, h3⟩ := ok
    exact ⟨hk _ _ hz, hk _ _ hTI, ⟨a, b, hk _ _ hTO⟩, r1 _ _ _ h1 fun b _ o e => hk _ o e, r2 _ _ _ h2 fun b _ o e => hk _ o e, fun b hb => let ⟨o, e⟩ := h3 b hb; ⟨o, hk _ _ e⟩⟩
  there := fun h ok b hb => by
    obtain ⟨hz, hTI, ⟨a, c, hTO⟩, h1, h2, h3⟩ := ok
    rcases List.mem_cons.mp hb with rfl | hb
    · exact ⟨_, hz⟩
    · rcases List.mem_cons.mp hb with rfl | hb
      · exact ⟨_, hTI⟩
      · rcases List.mem_cons.mp hb with rfl | hb
        · exact ⟨_, hTO⟩
        · exact h3 b hb
  sub := fun b hb => by
    have m1 := S.mem1
    have m2 := S.mem2
    simp only [List.mem_cons, List.not_mem_nil, or_false] at hb
    rcases hb with rfl | rfl | rfl | rfl
    · simp
    · simp
    · simp [m1]
    · simp [m2]
  noKeys := fun A s Q E hA ok h => getAttrOr_miss_zip ok.1 rfl rfl rfl zip_no_keys (by decide +kernel) hA h
  iter := fun A s d Q E hA ok hd hdf h => by
    obtain ⟨hz, hTI, ⟨a, b, hTO⟩, h1, h2, h3⟩ := ok
    have dz : d ≠ z := fun e => hdf (by simp [e])
    have dTI : d ≠ TI := fun e => hdf (by simp [e])
    have dTO : d ≠ TO := fun e => hdf (by simp [e])
    have d1 : d ∉ fp1 := fun e => hdf (by simp [e])
    have d2 : d ∉ fp2 := fun e => hdf (by simp [e])
    have di1 : d ≠ i1 := fun e => d1 (e ▸ S.mem1)
    have di2 : d ≠ i2 := fun e => d2 (e ▸ S.mem2)
    have hA1 : A.in1.handled = none := hA
    refine wpAny_pyIter_zip hz (h z [z, TO, i1, i2] (fun i h => IsTupOf2 h TI (.ref i1) (.ref i2) ∧ St1 i h ∧ St2 i h ∧
      ((IsZip h z TI TO .none ∧ ∃ a b, IsTupOf2 h TO a b) ∨ ∃ T f oT, IsZipHeld h z TI TO T f ∧ h.get? T = some oT ∧ T ≠ z ∧ T ≠ i1 ∧ T ≠ i2 ∧ T ≠ d)) s.heap s.toks ?_
      ⟨hTI, h1, h2, .inl ⟨hz, a, b, hTO⟩⟩ (fun _ _ e => e) fun b hb => .inl hb)
    exact {
      off := fun hm => by
        simp only [List.mem_cons, List.not_mem_nil, or_false] at hm
        rcases hm with e | e | e | e
        · exact dz e
        · exact dTO e
        · exact di1 e
        · exact di2 e
      frame := fun i g g' st hk => by
        obtain ⟨hTI, h1, h2, hz⟩ := st
        refine ⟨hk _ _ (Ne.symm dTI) hTI, r1 _ _ _ h1 fun b hb o e => hk _ o (fun q => d1 (q ▸ hb)) e, r2 _ _ _ h2 fun b hb o e => hk _ o (fun q => d2 (q ▸ hb)) e, ?_⟩
        rcases hz with ⟨hz, a, b, hTO⟩ | ⟨T, f, oT, hz, hT, q1, q2, q3, q4⟩
        · exact .inl ⟨hk _ _ (Ne.symm dz) hz, a, b, hk _ _ (Ne.symm dTO) hTO⟩
        · exact .inr ⟨T, f, oT, hk _ _ (Ne.symm dz) hz, hk _ _ q4 hT, q1, q2, q3, q4⟩
      item := fun i s₁ Q₁ E₁ hi st hds hQ => by
        obtain ⟨hTI, h1, h2, hz⟩ := st
        have l1 : i < n1 := Nat.lt_of_lt_of_le hi (Nat.min_le_left ..)
        have l2 : i < n2 := Nat.lt_of_lt_of_le hi (Nat.min_le_right ..)
        have lt : ∀ {c o}, s₁.heap.get? c = some o → s₁.heap.objs.size ≠ c := fun e => Nat.ne_of_gt (Heap.lt_size e)
        have m1 : s₁.heap.objs.size ≠ i1 := let ⟨_, e⟩ := (D1 A.in1 hA1).live _ _ h1; lt e
        have m2 : s₁.heap.objs.size ≠ i2 := let ⟨_, e⟩ := (D2 A.in1 hA1).live _ _ h2; lt e
        rcases hz with ⟨hz, a, b, hTO⟩ | ⟨T, f, oT, hz, hT, q1, q2, q3, q4⟩
        · refine wpAny_pyNext_zipD2_item S (D1 A.in1 hA1) (D2 A.in1 hA1) hz hTI hTO h1 h2 l1 l2 fun x1 x2 h' tk p1 p2 a1 a2 s1 s2 a5 a6 hk => ?_
          exact hQ s₁.heap.objs.size _ _ h' tk ⟨p1, p2⟩ (.inl ⟨_, a5, rfl, _, rfl⟩)
            ⟨hk _ _ S.TIz S.TITO S.TIi1 S.TIi2 hTI, s1, s2, .inr ⟨s₁.heap.objs.size, false, _, a1, a5, lt hz, m1, m2, Nat.ne_of_gt hds⟩⟩
            fun c o hc e => hk c o (fun x => hc (by simp [x])) (fun x => hc (by simp [x])) (fun x => hc (by simp [x])) (fun x => hc (by simp [x])) e
        · refine nextH_item S (D1 A.in1 hA1) (D2 A.in1 hA1) hz hT hTI h1 h2 l1 l2 fun x1 x2 h' tk p1 p2 a1 s1 s2 a5 a6 hk => ?_
          exact hQ s₁.heap.objs.size _ _ h' tk ⟨p1, p2⟩ (.inl ⟨_, a5, rfl, _, rfl⟩)
            ⟨hk _ _ S.TIz S.TIi1 S.TIi2 hTI, s1, s2, .inr ⟨T, true, oT, a1, hk _ _ q1 q2 q3 hT, q1, q2, q3, q4⟩⟩
            fun c o hc e => hk c o (fun x => hc (by simp [x])) (fun x => hc (by simp [x])) (fun x => hc (by simp [x])) e
      done := fun s₁ Q₁ E₁ st hQ => by
        obtain ⟨hTI, h1, h2, hz⟩ := st
        have e1 : min n1 n2 ≤ n1 := Nat.min_le_left ..
        have e2 : min n1 n2 ≤ n2 := Nat.min_le_right ..
        have hend : min n1 n2 = n1 ∨ min n1 n2 = n2 := by omega
        rcases hz with ⟨hz, a, b, hTO⟩ | ⟨T, f, oT, hz, hT, q1, q2, q3, q4⟩
        · exact wpAny_pyNext_zipD2_end S (D1 A.in1 hA1) (D2 A.in1 hA1) hz hTI hTO h1 h2 e1 e2 hend fun h' tk hk => hQ h' tk fun c o hc e => hk c o (fun x => hc (by simp [x])) (fun x => hc (by simp [x])) (fun x => hc (by simp [x])) (fun x => hc (by simp [x])) e
        · exact nextH_end S (D1 A.in1 hA1) (D2 A.in1 hA1) hz hT hTI h1 h2 e1 e2 hend fun h' tk hk => hQ h' tk fun c o hc e => hk c o (fun x => hc (by simp [x])) (fun x => hc (by simp [x])) (fun x => hc (by simp [x])) e }
end PySem

set_option Elab.async false
set_option maxRecDepth 100000
set_option maxHeartbeats 4000000
namespace Dv
open PySem PySem.Spec PyProof.Rows L2
open Evl (Ex ex_l ex_t)

/-! ### dict(zip(xs, ys)): a list of texts, a tuple -/
theorem kv_zip : ∀ {ks : List Str} {ys : List V} {us : List Value}, Vals ys us → KV (dks (ks.zip ys)) ((ks.zip us).map fun p => ((.inr p.1 : Key), p.2))
  | [], _, _, _ => by rw [List.zip_nil_left, List.zip_nil_left]; exact .nil
  | k :: ks, _, _, .nil => .nil
  | k :: ks, _, _, .cons r t => .cons ⟨rfl, r⟩ (kv_zip t)
theorem merge_dks : ∀ (ps : List (Str × V)) (acc : List (Str × V)), mergeK (dks acc) (dks ps) = dks (ps.foldl (fun a p => putQ a p.1 p.2) acc)
  | [], acc => rfl
  | (k, v) :: ps, acc => by
    show mergeK (putK (dks acc) (.inr k) v) (dks ps) = _
    rw [putK_dks]
    exact merge_dks ps _
def tDZip (K : PySem.W.Frag) (ta : TA) : TE := fun σ H Q => ta σ H fun vs H1 => ∃ (a b : Addr) (ks : List Str) (ys : List V), vs = [.ref a, .ref b] ∧ SqL K H1 a (ks.map .str) ∧ SqT K H1 b ys ∧ ks.length = ys.length ∧
  ∀ p, H1 p = none → Q (.ref p) (upd H1 p (.dK (dks ((ks.zip ys).foldl (fun a p => putQ a p.1 p.2) []))))
theorem pe_dzip {X : Cx} {a b : Expr} {ta : TA} {p1 p2 zpos pos : Pos} (hc : X.calm = true) (hg : Gl X "zip") (hm : X.mg "zip" = none) (hg2 : Gl X "dict") (hm2 : X.mg "dict" = none) (ha : PA X [a, b] ta)
    (hs : starEach [a, b] X.env = (false, eval a X.env) :: starEach [b] X.env := by rfl) (hpl : (backTo zpos (starEach [b] X.env)).any (·.1) = false := by rfl)
    (hs2 : starEach [.Call (.Name "zip" p2) [a, b] [] zpos] X.env = [(false, eval (.Call (.Name "zip" p2) [a, b] [] zpos) X.env)] := by rfl) :
    PE X (.Call (.Name "dict" p1) [.Call (.Name "zip" p2) [a, b] [] zpos] [] pos) (tDZip X.K ta) := by
  refine ⟨fun pins s σ H Q I h => ?_⟩
  refine Call_ (ld_blt I hg2 hm2 boot_dict (PyProof.Rows.callWith_type1 ?_ hs2 rfl))
  rw [hs2]
  show wpAny _ _ (spliced [(false, eval (.Call (.Name "zip" p2) [a, b] [] zpos) X.env)]) _ _ s
  refine Calls.spliced_cons ?_
  refine Call_ (ld_blt I hg hm PyProof.Rows.boot_zip (PyProof.Rows.callWith_type1 (thn (ha.run zpos pins s σ H _ I h) fun us s1 ⟨vs, H1, I1, r1, q1⟩ => ?_) hs hpl))
  obtain ⟨c, d, ks, ys, ex, hqx, hqy, hlen, q⟩ := q1
  subst ex
  cases r1 with
  | cons r rr =>
    cases rr with
    | cons r' rr =>
      cases rr
      cases r
      cases r'
      obtain ⟨its, rv, p1, hz1⟩ := I1.list hqx
      obtain ⟨its2, rv2, ht2, hz2⟩ := I1.tuple hqy
      have p2 : s1.heap.IsTuple d its2.toArray := ht2
      have lc : c < s1.heap.objs.size := p1.lt
      have ld : d < s1.heap.objs.size := let ⟨_, e, _⟩ := p2; Heap.lt_size e
      refine zip_begins2 (begins_list c its.toArray) (begins_tuple d its2.toArray) p1.isList p2 fun h' hz hTI hTO h1 h2 hsz hk => ?_
      refine Calls.spliced_nil ?_
      have el : its.length = ks.length := by rw [← rv.length, List.length_map]
      have el2 : its2.length = ys.length := rv2.length.symm
      have hA : X.A.handled = none := I1.ok.hd hc
      have S := zip_sep2 (N := s1.heap.objs.size) (fp1 := [c]) (fp2 := [d]) (fun b hb => by rw [List.mem_singleton.mp hb]; exact lc) (fun b hb => by rw [List.mem_singleton.mp hb]; exact ld)
      have hle : min its.toArray.size its2.toArray.size ≤ sizeLine := by
        refine Nat.le_trans (Nat.min_le_left _ _) ?_
        rw [List.size_toArray, ← rv.length]; exact hz1
      refine PySem.call_dict_pairs (knd := mixKind X.prog X.w) (kvs := (ks.zip its2).map fun p => ((.inr p.1 : Key), p.2))
        (PairArg.zipAny S (fun A hh => Draws.list hh _ c (Nat.ne_of_lt lc) its.toArray) (fun A hh => Draws.tuple hh _ d (Nat.ne_of_lt (Nat.lt_succ_of_lt ld)) its2.toArray)
          (fun i g g' st hk => ⟨st.1.at fun o e => hk _ (by simp) o e, st.2.at fun o e => hk _ (by simp) o e⟩) (fun i g g' st hk => ⟨st.1.at fun o e => hk _ (by simp) o e, st.2.at fun o e => hk _ (by simp) o e⟩))
        hA ⟨hz, hTI, ⟨_, _, hTO⟩, ⟨⟨_, h1, rfl, rfl⟩, p1.isList.at fun o e => hk _ o e⟩, ⟨⟨_, h2, rfl, rfl⟩, p2.at fun o e => hk _ o e⟩, fun b hb => ?_⟩ ⟨?_, ?_⟩ hle fun h3 tk hd' k => ?_
      · have e' : b = s1.heap.objs.size ∨ b = c ∨ b = s1.heap.objs.size + 1 ∨ b = d := by simpa using hb
        rcases e' with z | z | z | z
        · exact ⟨_, z ▸ h1⟩
        · obtain ⟨o, e, _⟩ := p1.isList; exact ⟨o, z ▸ hk _ o e⟩
        · exact ⟨_, z ▸ h2⟩
        · obtain ⟨o, e, _⟩ := p2; exact ⟨o, z ▸ hk _ o e⟩
      · simp [List.length_zip, el]
      · rintro i key v ⟨e1, e2⟩
        have e1' : its[i]? = some key := by simpa using e1
        have e2' : its2[i]? = some v := by simpa using e2
        have hi : i < ks.length := by rw [← el]; exact (List.getElem?_eq_some_iff.mp e1').1
        have hx : (ks.map V.str)[i]? = some (.str ks[i]) := by rw [List.getElem?_map, List.getElem?_eq_getElem hi] <;> rfl
        obtain ⟨u, hu, ru⟩ := rv.get hx
        rw [e1'] at hu
        cases hu
        refine ⟨.inr ks[i], ?_, kV_is (k := .inr ks[i]) ru⟩
        rw [List.getElem?_map, show (ks.zip its2)[i]? = some (ks[i], v) from List.getElem?_zip_eq_some.mpr ⟨List.getElem?_eq_getElem hi, e2'⟩] <;> rfl
      · have hsz' : s1.heap.objs.size ≤ h'.objs.size := by rw [hsz]; omega
        have hm : (h'.objs.size == sysModules) = false := beq_eq_false_iff_ne.mpr (Nat.ne_of_gt (Nat.lt_of_lt_of_le I1.big hsz'))
        have hkv := KV.merge (kv_zip (ks := ks) rv2) (show KV ([] : List (Key × V)) [] from .nil)
        have hmd : mergeK [] (dks (ks.zip ys)) = dks ((ks.zip ys).foldl (fun a p => putQ a p.1 p.2) []) := merge_dks (ks.zip ys) []
        have hll : (mergeK [] (dks (ks.zip ys))).length ≤ sizeLine := by
          refine Nat.le_trans (length_mergeK _ []) ?_
          rw [List.length_nil, Nat.zero_add]
          have : (dks (ks.zip ys)).length = min ks.length ys.length := by unfold dks; rw [List.length_map, List.length_zip]
          rw [this]
          refine Nat.le_trans (Nat.min_le_left _ _) ?_
          rw [List.length_map] at hz1; exact hz1
        have kk : ∀ b o, s1.heap.get? b = some o → h3.get? b = some o := fun b o e => k b o (fun hb => by
          have lb := Heap.lt_size e
          simp only [List.mem_cons, List.not_mem_nil, or_false] at hb
          rcases hb with z | z | z | z <;> rw [z] at lb <;> exact Nat.not_lt_of_le (by first | exact Nat.le_add_right _ _ | exact Nat.le_refl _) lb) (hk b o e)
        refine ⟨.ref h'.objs.size, upd H1 h'.objs.size (.dK (mergeK [] (dks (ks.zip ys)))), I1.laid (t' := tk) kk hsz' (show ObjOk X.prog X.w _ _ _ (.dK (mergeK [] (dks (ks.zip ys)))) from ⟨hll, hm, _, hkv, hd'⟩), rfl, ?_⟩
        rw [hmd]
        exact q _ (I1.hok.fresh hsz')
theorem repf_zip {G : Gc} {F : Hp} : ∀ {ks : List Str} {es : List D} {ys : List V} {fs : List (Str × D)} {gs : List (Str × V)}, reps G F es ys → repf G F fs gs →
    repf G F ((ks.zip es).foldl (fun a p => putQ a p.1 p.2) fs) ((ks.zip ys).foldl (fun a p => putQ a p.1 p.2) gs)
  | [], _, _, _, _, _, h => h
  | k :: ks, [], ys, fs, gs, r, h => by
    rw [reps_nil_inv r]; exact h
  | k :: ks, e :: es, ys, fs, gs, r, h => by
    obtain ⟨v, t, rfl, r1, r2⟩ := reps_cons_inv r
    exact repf_zip (ks := ks) (es := es) r2 (repf_putQ r1 h)
section
variable {X : Cx} {G : Gc} {Γ : En} {a b : Expr} {p1 p2 zpos pos : Pos} {K : D → En → Prop}
theorem we_dzip (hK : G.K = X.K) (hc : X.calm = true) (hm : X.mg "zip" = none) (hm2 : X.mg "dict" = none)
    (h : WA X G Γ [a, b] fun ds Γ1 => ∃ (ks : List Str) (es : List D), ds = [.lst (ks.map .str), .tup es] ∧ ks.length = es.length ∧ K (.dic ((ks.zip es).foldl (fun a p => putQ a p.1 p.2) [])) Γ1)
    (hg : Gl X "zip" := by rfl) (hg2 : Gl X "dict" := by rfl)
    (hs : starEach [a, b] X.env = (false, eval a X.env) :: starEach [b] X.env := by rfl) (hpl : (backTo zpos (starEach [b] X.env)).any (·.1) = false := by rfl)
    (hs2 : starEach [.Call (.Name "zip" p2) [a, b] [] zpos] X.env = [(false, eval (.Call (.Name "zip" p2) [a, b] [] zpos) X.env)] := by rfl) :
    WE X G Γ (.Call (.Name "dict" p1) [.Call (.Name "zip" p2) [a, b] [] zpos] [] pos) K := .of fun σ F H Q E q => by
  refine PE.se (pe_lock (pe_dzip hc hg hm hg2 hm2 pa_S hs hpl hs2)) ?_
  refine h σ F H _ E fun ds Γ1 vs F1 H1 s1 E1 o1 r1 k1 => ?_
  obtain ⟨ks, es, rfl, hlen, k⟩ := k1
  obtain ⟨v, w, rfl, r2, r3⟩ := reps2 r1
  obtain ⟨c, us, rfl, hs3, ru⟩ := rep_lst r2
  obtain ⟨d, ys, rfl, hs4, rw4⟩ := rep_tup r3
  rw [reps_strs ru] at hs3
  rw [hK] at hs3 hs4
  refine ⟨c, d, ks, ys, rfl, ex_l E1.ex hs3, ex_t E1.ex hs4, by rw [reps_len rw4]; exact hlen, fun p hp => ?_⟩
  refine ⟨p, _, rfl, upd_same, fun od => ?_⟩
  have hF1 : F1 p = none := ex_none E1.ex hp
  have eq : upd (upd H1 p (.dK (dks ((ks.zip ys).foldl (fun a p => putQ a p.1 p.2) [])))) p (.frz od (.dK (dks ((ks.zip ys).foldl (fun a p => putQ a p.1 p.2) [])))) = upd H1 p (.frz od (.dK (dks ((ks.zip ys).foldl (fun a p => putQ a p.1 p.2) [])))) := by
    funext c
    by_cases hcp : c = p
    · subst hcp; rw [upd_same, upd_same]
    · rw [upd_ne hcp, upd_ne hcp, upd_ne hcp]
  rw [eq]
  have st : Step No F1 H1 (upd F1 p (.frz od (.dK (dks ((ks.zip ys).foldl (fun a p => putQ a p.1 p.2) []))))) (upd H1 p (.frz od (.dK (dks ((ks.zip ys).foldl (fun a p => putQ a p.1 p.2) []))))) := Step.lay E1.ex hp
  exact q _ Γ1 (.ref p) _ _ (stpN s1 st) (E1.step st) o1 (r_dic upd_same (repf_mono st.ex _ _ (repf_zip rw4 repf_nil))) k
/-- an own list is held fast from here on -/
theorem we_frz {x : Str} {n : Cn} {e : Expr} {Γ' : En} (h : Put Γ x (.own n) (.val n.d) Γ') (k : WE X G Γ' e K) : WE X G Γ e K := .of fun σ F H Q E q => by
  obtain ⟨i, e, e'⟩ := h.ix
  subst e'
  obtain ⟨p, F', e1, s, E', r, o⟩ := E.freeze e
  exact k σ F' H Q E' fun d Γ2 v F2 H2 s2 E2 o2 r2 kk => q d Γ2 v F2 H2 (stp s o s2) E2 (fun a z => o a (o2 a z)) r2 kk
/-- list(range(n)) -/
theorem wl_listRg {e : Expr} {p q1 rp : Pos} {KA : List D → En → Prop} (hc : X.calm = true) (zl : X.mg "list" = none) (zr : X.mg "range" = none) (h : WE X G Γ e fun d Γ1 => ∃ n : Nat, d = .int (n : Nat) ∧ n ≤ 1000 ∧ KA ((List.range n).map fun i => .int (i : Nat)) Γ1)
    (hg : Gl X "list" := by rfl) (hg2 : Gl X "range" := by rfl) (na : starEach [e] X.env = (false, eval e X.env) :: starEach [] X.env := by rfl)
    (na2 : starEach [.Call (.Name "range" q1) [e] [] rp] X.env = (false, eval (.Call (.Name "range" q1) [e] [] rp) X.env) :: starEach [] X.env := by rfl) :
    WL X G Γ (.Call (.Name "list" p) [.Call (.Name "range" q1) [e] [] rp] [] pos) KA := .of fun σ F H Q E q => by
  refine PE.se (pe_listRg hc hg zl (prg_1 hg2 zr pe_S na) na2) ?_
  refine h σ F H _ E fun d Γ1 v F1 H1 s1 E1 o1 r1 k1 => ?_
  obtain ⟨n, rfl, hn, k⟩ := k1
  refine ⟨_, rep_int r1, RgOk.of_le (by omega) (by omega) (by omega) (by omega), fun p hp => ?_⟩
  have ints_reps : ∀ ms : List Nat, reps G F1 (ms.map fun i => .int (i : Nat)) (ms.map fun i => V.int (i : Nat)) := fun ms => by
    induction ms with
    | nil => exact reps_nil
    | cons m r ih => exact reps_cons r_int ih
  have ev : rgV 0 (n : Nat) = (List.range n).map fun i => V.int (i : Nat) := by
    unfold rgV
    rw [Int.sub_zero, Int.toNat_natCast]
    refine List.map_congr_left fun i _ => ?_
    rw [Int.zero_add]
  rw [ev]
  have st : Step No F1 H1 F1 (upd H1 p (.lst ((List.range n).map fun i => V.int (i : Nat)))) := Step.lay0 E1.ex hp
  exact q _ Γ1 p _ F1 _ (stpN s1 st) (E1.step st) o1 (s1.back hp) (ex_none E1.ex hp) upd_same (ints_reps _) k
end
section
variable {X : Cx} {G : Gc} {Γ : En} {e : Expr} {p pos : Pos} {K : D → En → Prop} {k : Nat} {f : Addr} {fd : FuncData} {ps : List Str} {x : Str} {ds0 : List Value} {dd : List D}
/-- f(e, y): e a new list, lent -/
theorem we_callULV {con : Cn → List D → (D → Cn → Prop) → Prop} {y : Str} {py : Pos} {z0 : Sl} (hN : X.N.Nodup) (C : FnOk X.prog X.w X.K X.mg X.base CX0 k f fd ps (spU G con)) (hr : Room k X.A) (hm : X.mg x = some (.ref f)) (hk : PySem.W.keepIn X.K (.ref f) = true) (hb : Binds X.K fd ps ds0) (hd : Dfl G dd ds0)
    (hy0 : Lk Γ y z0) (h : WL X G Γ e fun ds Γ1 => ∃ z, Lk Γ1 y (.val z) ∧ con (.lst ds) ([z] ++ dd) fun d _ => K d Γ1) (hvy : Vis X.env.scope y := by first | exact Or.inl rfl | exact Or.inr (Or.inl rfl) | exact Or.inr (Or.inr rfl)) (hg : Gl X x := by rfl) (hdb : (x == ("__debug__" : Str)) = false := by decide)
    (hdy : (y == ("__debug__" : Str)) = false := by decide) (hcy : (y == ("__classdict__" : Str)) = false := by decide)
    (he : starEach [e, .Name y py] X.env = (false, eval e X.env) :: starEach [.Name y py] X.env := by rfl) (hsy : starEach [.Name y py] X.env = (false, eval (.Name y py) X.env) :: starEach [] X.env := by rfl)
    (hpl : (backTo pos (starEach [.Name y py] X.env)).any (·.1) = false := by rfl) : WE X G Γ (.Call (.Name x p) [e, .Name y py] [] pos) K := .of fun σ F H Q E q => by
  obtain ⟨dv, hv, hdr⟩ := hd
  obtain ⟨j, e0⟩ := hy0.ix
  have nm := E.name e0
  refine PE.se (pe_call C hr hg hm hk hb hv pass0 (pa_cons pe_S (pa_cons (pe_var nm hvy hdy hcy) pa_nil hsy) he) hdb he hpl) ?_
  refine h σ F H _ E fun ds Γ1 a vs F1 H1 s1 E1 o1 ha hf ha1 r1 k1 => ?_
  obtain ⟨z, l1, k1⟩ := k1
  obtain ⟨j1, e1⟩ := l1.ix
  have hj : j1 = j := nodup_ix hN (E1.name e1) nm
  subst hj
  obtain ⟨v, hv2, rz⟩ := E1.val j1 y z e1
  refine ⟨v, hv2, ?_⟩
  refine ⟨F1, a, [v] ++ dv, .lst ds, [z] ++ dd, _, rfl, E1.ex, hf, (show ∃ vs, _ ∧ _ from ⟨vs, ha1, r1⟩), reps_app (reps_cons rz reps_nil) (hdr F1), k1, fun d c' v F' H' kd s' hf' ho' r' => ?_⟩
  have off : ∀ b, Ow σ Γ1 b → b ≠ a := fun b o z => E.fresh ha (o1 a (z ▸ o))
  have st : Step (Ow σ Γ) F H F' H' := s1.trans s' fun b z => .inr (z ▸ ha)
  refine q d Γ1 v F' H' st (E1.move s'.ex s'.sub (fun b o ow z => s'.keep b o (off b ow) z) fun b ow => ?_) o1 r' kd
  obtain ⟨e3, u, e2⟩ := E1.owF ow
  cases z : F' b with
  | none => rfl
  | some o =>
    rcases s'.new b o z with y | y | y
    · rw [e3] at y; cases y
    · rw [e2] at y; cases y
    · exact absurd y (off b ow)
end
end Dv

set_option Elab.async false
set_option maxRecDepth 100000
set_option maxHeartbeats 4000000
namespace Dv
open PySem PySem.Spec PyProof.Rows L2 Dx
open Evl (Ex ex_l ex_t)
/-! ### expressions and statements that may raise an own class without fields -/
/-- an expression's value, or an exception of a class that Ke tells: W is the wish -/
structure WEX (X : Cx) (G : Gc) (Γ : En) (e : Expr) (K : D → En → Prop) (Ke : Nat → Prop) (W : WX) : Prop where
  of ::
  run : ∀ (σ : L2.St) (F H : Hp) (Q : VK), Envs G X.N F H σ Γ → (∀ (d : D) (Γ' : En) (v : V) (F' H' : Hp), Step (Ow σ Γ) F H F' H' → Envs G X.N F' H' σ Γ' → (∀ a, Ow σ Γ' a → Ow σ Γ a) → rep G F' d v → K d Γ' → Q v H') →
    (∀ c F' H', Step (Ow σ Γ) F H F' H' → Ke c → W (.ref (G.cl c)) none σ H') → SE X e σ H Q
structure WSX (X : Cx) (G : Gc) (Γ : En) (st : Stmt) (K : Ot → Prop) (Ke : Nat → Prop) (W : WX) : Prop where
  of ::
  run : ∀ (σ : L2.St) (F H : Hp) (D : Ends), Envs G X.N F H σ Γ → Ends' G X.N Γ σ F H K D → (∀ c σ' F' H', Step (Ow σ Γ) F H F' H' → Ke c → W (.ref (G.cl c)) none σ' H') → SS X st D σ H
section
variable {X : Cx} {G : Gc} {Γ : En} {e c : Expr} {es : List Expr} {pos p : Pos} {K : Ot → Prop} {KD : D → En → Prop} {Ke : Nat → Prop} {W : WX} {stm : Stmt} {sts xs ys : List Stmt} {x : Str} {k : Nat} {f : Addr} {fd : FuncData} {ps : List Str}
theorem wex_of (h : WE X G Γ e KD) : WEX X G Γ e KD Ke W := .of fun σ F H Q E q _ => h σ F H Q E q
theorem wsx_of (h : WS X G Γ stm K) : WSX X G Γ stm K Ke W := .of fun σ F H D E q _ => h σ F H D E q
theorem wbx_consX (h : WSX X G Γ stm (ThenX X G sts K Ke W) Ke W) : WBX X G Γ (stm :: sts) K Ke W := .of fun σ F H N E q w => by
  refine PSs.ss (pss_cons ps_S pss_S) ?_
  refine h.run σ F H _ E ⟨fun Γ' σ' F' H' wt k => ?_, q.rt, q.bk, q.ct⟩ w
  exact WBX.run k σ' F' H' N wt.en (q.go wt) fun c σ2 F2 H2 s ke => w c σ2 F2 H2 (wt.st.trans s wt.ow) ke
theorem wbx_oneX (h : WSX X G Γ stm K Ke W) : WBX X G Γ [stm] K Ke W := .of fun σ F H N E q w => PSs.ss (pss_one ps_S) (h.run σ F H N E q w)
/-- f(e, ..), it may raise -/
theorem wex_call {con : List D → (D → Prop) → (Nat → Prop) → Prop} (tk : Takes X W) (C : FnOk X.prog X.w X.K X.mg X.base (L2.CX X.prog X.w) k f fd ps (spX G con)) (hr : Room k X.A) (hm : X.mg x = some (.ref f)) (hk : PySem.W.keepIn X.K (.ref f) = true) (hb : Binds X.K fd ps [])
    (h : WA X G Γ (e :: es) fun ds Γ1 => con ds (fun d => KD d Γ1) Ke) (hg : Gl X x := by rfl) (hdb : (x == ("__debug__" : Str)) = false := by decide)
    (he : starEach (e :: es) X.env = (false, eval e X.env) :: starEach es X.env := by rfl) (hpl : (backTo pos (starEach es X.env)).any (·.1) = false := by rfl) : WEX X G Γ (.Call (.Name x p) (e :: es) [] pos) KD Ke W := .of fun σ F H Q E q w => by
  refine PE.se (pe_callS (E := L2.WE W) C hr hg hm hk hb (passAt tk) pa_S hdb he hpl) ?_
  refine h σ F H _ E fun ds Γ1 vs F1 H1 s1 E1 o1 r1 k1 => ?_
  exact ⟨F1, ds, _, _, E1.ex, r1, k1, fun d v F' H' kd s' r' => q d Γ1 v F' H' (stpN s1 s') (E1.step s') o1 r' kd, fun c F' H' kc s' => w c F' H' (stpN s1 s') kc⟩
/-- x = e -/
theorem wsx_set {pos' : Pos} (hN : X.N.Nodup) (h : WEX X G Γ e (fun d Γ1 => ∃ s0 Γ2, Put Γ1 x s0 (.val d) Γ2 ∧ K (.nx Γ2)) Ke W) (hx : Loc X.env.scope x := by first | exact Or.inl rfl | exact Or.inr rfl) (hs : swapsWith e (some (.Name x pos')) pos.line X.env = pure false := by rfl)
    (hf : X.fn x = true ∨ X.env.scope.names.lookup x = some .local := by first | exact .inl rfl | exact .inr rfl) : WSX X G Γ (.Assign [.Name x pos'] e pos) K Ke W := .of fun σ F H D E q w0 pins s I => by
  refine wpAny_Assign_Name (thn (h.run σ F H (fun v H' => ∃ i Γ' F', X.N[i]? = some x ∧ Went G X.N Γ σ F H Γ' (σ.set i (some v)) F' H' ∧ K (.nx Γ')) E (fun d Γ1 v F' H' s1 E' o r k => ?_) (fun c F' H' s ke => w0 c σ F' H' s ke) pins s I) fun v s1 ⟨y, H1, I1, r1, i, Γ', F', hi, w, k⟩ => ?_) hs
  · obtain ⟨s0, Γ2, hp, k⟩ := k
    obtain ⟨i, e, e2⟩ := hp.ix
    subst e2
    refine ⟨i, _, F', E'.name e, ⟨s1, E'.put e (.inl ⟨d, rfl, r⟩), fun a z => ?_⟩, k⟩
    rcases Ow.put e E'.len z with z | ⟨_, c, z | z⟩
    · exact .inl (o a z)
    · cases z
    · cases z
  · exact store_ok I1 hN hi hx r1 (fun s2 I2 => ⟨_, H1, I2, q.nx _ _ _ _ w k⟩) hf
/-- return e -/
theorem wsx_ret (h : WEX X G Γ e (fun d Γ1 => K (.rt d Γ1)) Ke W) : WSX X G Γ (.Return (some e) pos) K Ke W := .of fun σ F H D E q w => by
  refine PS.ss (ps_ret pe_S) ?_
  exact h.run σ F H _ E (fun d Γ' v F' H' s E' o r k => q.rt d v Γ' σ F' H' (.of s E' o) r k) fun c F' H' s ke => w c σ F' H' s ke
/-- x, y, .. = e -/
theorem wsx_tup {es : List Expr} {xs : List Str} {kk : Nat} {pt : Pos} (hK : G.K = X.K) (hc : X.calm = true) (hN : X.N.Nodup) (hn : NamesOf es xs) (ok : ∀ x ∈ xs, Loc X.env.scope x ∧ (X.fn x = true ∨ X.env.scope.names.lookup x = some .local))
    (h : WEX X G Γ e (fun d Γ1 => ∃ ds Γ2, d = .tup ds ∧ ds.length = xs.length ∧ PutsS Γ1 (xs.zip (ds.map .val)) Γ2 ∧ K (.nx Γ2)) Ke W)
    (hs : swapsWithSole [.Tuple es kk pt] e pos.line X.env = pure false := by rfl) (hw : swappedStores [.Tuple es kk pt] e X.env = pure none := by rfl) (h1 : (assignEach [.Tuple es kk pt] X.env).map (·.2) = [assign (.Tuple es kk pt) X.env] := by rfl)
    (hz : (assignEach es X.env).length = xs.length := by rfl) (hst : (assignEach es X.env).findIdx? (·.1) = none := by rfl) : WSX X G Γ (.Assign [.Tuple es kk pt] e pos) K Ke W := .of fun σ F H D E q w0 => by
  refine PS.ss (ps_asg pe_S (pg_S (X := X) (tg := .Tuple es kk pt)) hs hw h1) ?_
  refine h.run σ F H _ E (fun d Γ1 v F1 H1 s1 E1 o1 r1 k1 => ?_) fun c F' H' s ke => w0 c σ F' H' s ke
  obtain ⟨ds, Γ2, rfl, hl, p, k2⟩ := k1
  obtain ⟨a, us, rfl, hsq, ru⟩ := rep_tup r1
  rw [hK] at hsq
  have hul := reps_len ru
  obtain ⟨is, l, nm, w⟩ := went_of (xs := xs) E s1 E1 o1 (goods_vals (H := H) ru) (by rw [List.length_map, hl]) p
  refine PG.sg (pg_tup hc (pgs_names hN hn ok is l nm) hz hst) ⟨a, us, rfl, ex_t E1.ex hsq, by omega, ?_⟩
  exact gNames_run is us σ (by omega) (q.nx Γ2 _ F1 H1 w k2)
/-- for: the body may raise -/
theorem wsx_for {tg iter : Expr} {body : List Stmt} (names : List Str) (hK : G.K = X.K) (hc : X.calm = true) (hp : PassesOwn (model X.prog X.w) X.A X.env X.xe) (hg : TgOk X tg names)
    (h : WI X G Γ tg iter fun ds Γ1 => ∃ Pv : Wf, Pv 0 Γ1 ∧ (∀ i d Γ2, ds[i]? = some d → Pv i Γ2 → ∃ ps Γ3, Tgt tg d ps ∧ ps.map (·.1) = names ∧ Puts Γ2 ps Γ3 ∧ WBX X G Γ3 body (fun o => match o with
        | .nx Γ4 => Pv (i + 1) Γ4
        | .ct Γ4 => Pv (i + 1) Γ4
        | .bk Γ4 => K (.nx Γ4)
        | .rt z Γ4 => K (.rt z Γ4)) Ke W) ∧ (∀ Γ2, Pv ds.length Γ2 → K (.nx Γ2))) (hs : ∀ x, foldedSetIterable iter X.env x = pure x := by intro _; rfl) : WSX X G Γ (.For tg iter body [] pos) K Ke W := .of fun σ F H D E q w0 => by
  refine PS.ss (ps_for hp hc pi_S pg_S pss_S hs) ?_
  refine h σ F H _ E fun ds Γ1 J F1 H1 s1 E1 o1 wk k1 => ?_
  obtain ⟨Pv, hp0, hturn, hend⟩ := k1
  refine for_it (n := ds.length) (G := fun H => Ex F1 H) (Y := fun i H x H' => J.yld i H x H') ⟨fun i H hi g => wk.goes i H hi g, fun H g => wk.stops H g, fun i H x H' hi g y => y⟩
    (fun i σ' H' => ∃ (F' : Hp) (Γ2 : En), Went G X.N Γ σ F H Γ2 σ' F' H' ∧ Ex F1 F' ∧ Pv i Γ2) ⟨F1, Γ1, .of s1 E1 o1, Ex.refl F1, hp0⟩ ?_ ?_ ?_
  · rintro i σ' H' _ ⟨F', Γ2, w, e, _⟩
    exact e.trans w.en.ex
  · rintro i x σ' H' H'' hi ⟨F', Γ2, w, e, hpv⟩ hy
    obtain ⟨d, F2, hd, st2, rx⟩ := wk.yields i F' H' x H'' e w.en.ex hi hy
    obtain ⟨ps, Γ3, htg, hps, hput, hb⟩ := hturn i d Γ2 hd hpv
    have w2 : Went G X.N Γ σ F H Γ2 σ' F2 H'' := w.trans ⟨no_any st2, w.en.step st2, fun a h => .inl h⟩
    refine tgt_run hK (by rw [hps]; exact hg) w2.en htg hput rx fun σ2 E4 o4 _ => ?_
    have w3 : Went G X.N Γ σ F H Γ3 σ2 F2 H'' := w2.trans ⟨.refl E4.ex, E4, fun a h => .inl (o4 a h)⟩
    have ex2 : Ex F1 F2 := e.trans st2.ex
    refine hb.run σ2 F2 H'' _ E4 ⟨fun Γ' σ3 F' H' w' k => ?_, fun z v Γ' σ3 F' H' w' r k => ?_, fun Γ' σ3 F' H' w' k => ?_, fun Γ' σ3 F' H' w' k => ?_⟩ fun c σ3 F' H' s ke => w0 c σ3 F' H' (w3.st.trans s w3.ow) ke
    · exact ⟨F', Γ', w3.trans w', ex2.trans w'.st.ex, k⟩
    · exact q.rt z v Γ' σ3 F' H' (w3.trans w') r k
    · exact q.nx Γ' σ3 F' H' (w3.trans w') k
    · exact ⟨F', Γ', w3.trans w', ex2.trans w'.st.ex, k⟩
  · rintro σ' H' ⟨F', Γ2, w, e, hpv⟩
    exact q.nx Γ2 σ' F' H' w (hend Γ2 hpv)
end
end Dv

set_option Elab.async false
set_option maxRecDepth 100000
set_option maxHeartbeats 4000000
namespace Dv
open PySem PySem.Spec PyProof.Rows L2
open Evl (Ex ex_l ex_t)
/-! ### min(xs, default=d), max(xs, default=d) -/
theorem fold_min : ∀ (ys : List Int) (x : Int), (PySem.W.minOf x ys = x ∨ PySem.W.minOf x ys ∈ ys) ∧ PySem.W.minOf x ys ≤ x ∧ ∀ y ∈ ys, PySem.W.minOf x ys ≤ y
  | [], x => ⟨.inl rfl, Int.le_refl _, fun _ h => absurd h (by simp)⟩
  | z :: ys, x => by
    have e : PySem.W.minOf x (z :: ys) = PySem.W.minOf (if decide (z < x) = true then z else x) ys := rfl
    rw [e]
    obtain ⟨h1, h2, h3⟩ := fold_min ys (if decide (z < x) = true then z else x)
    have hz : (if decide (z < x) = true then z else x) ≤ z ∧ (if decide (z < x) = true then z else x) ≤ x ∧ ((if decide (z < x) = true then z else x) = z ∨ (if decide (z < x) = true then z else x) = x) := by
      by_cases q : z < x
      · rw [if_pos (decide_eq_true q)]; exact ⟨Int.le_refl _, by omega, .inl rfl⟩
      · rw [if_neg (by simpa using q)]; exact ⟨by omega, Int.le_refl _, .inr rfl⟩
    refine ⟨?_, by omega, fun y hy => ?_⟩
    · rcases h1 with h1 | h1
      · rcases hz.2.2 with q | q
        · exact .inr (by rw [h1, q]; exact List.mem_cons_self)
        · exact .inl (by rw [h1, q])
      · exact .inr (List.mem_cons_of_mem _ h1)
    · rcases List.mem_cons.mp hy with rfl | hy
      · omega
      · exact h3 y hy
theorem fold_max : ∀ (ys : List Int) (x : Int), (PySem.W.maxOf x ys = x ∨ PySem.W.maxOf x ys ∈ ys) ∧ x ≤ PySem.W.maxOf x ys ∧ ∀ y ∈ ys, y ≤ PySem.W.maxOf x ys
  | [], x => ⟨.inl rfl, Int.le_refl _, fun _ h => absurd h (by simp)⟩
  | z :: ys, x => by
    have e : PySem.W.maxOf x (z :: ys) = PySem.W.maxOf (if decide (x < z) = true then z else x) ys := rfl
    rw [e]
    obtain ⟨h1, h2, h3⟩ := fold_max ys (if decide (x < z) = true then z else x)
    have hz : z ≤ (if decide (x < z) = true then z else x) ∧ x ≤ (if decide (x < z) = true then z else x) ∧ ((if decide (x < z) = true then z else x) = z ∨ (if decide (x < z) = true then z else x) = x) := by
      by_cases q : x < z
      · rw [if_pos (decide_eq_true q)]; exact ⟨Int.le_refl _, by omega, .inl rfl⟩
      · rw [if_neg (by simpa using q)]; exact ⟨by omega, Int.le_refl _, .inr rfl⟩
    refine ⟨?_, by omega, fun y hy => ?_⟩
    · rcases h1 with h1 | h1
      · rcases hz.2.2 with q | q
        · exact .inr (by rw [h1, q]; exact List.mem_cons_self)
        · exact .inl (by rw [h1, q])
      · exact .inr (List.mem_cons_of_mem _ h1)
    · rcases List.mem_cons.mp hy with rfl | hy
      · omega
      · exact h3 y hy
theorem bo_notN {X : Cx} {G : Gc} {x : D} {u : V} {K : D → Prop} (hx : ∀ (F : Hp) v, rep G F x v → decide (v = V.non) = decide (u = V.non)) (k : K (.bl (!decide (u = .non)))) : BO X G (compareOp .IsNot) x .non K :=
  bo_of op_notN (fun F H a b Q e r1 r2 q => by rw [rep_non r2]; exact ⟨rfl, by rw [hx F a r1]; exact q _ r_bl⟩) k
def rDef (K : PySem.W.Frag) (le : Int → Int → Prop) : List V → List V → Hp → VK → Prop := fun xs zs H Q => ∃ (a : Addr) (ns : List Int) (d : V), xs = [.ref a] ∧ zs = [d] ∧ SqL K H a (ns.map V.int) ∧ (ns = [] → Q d H) ∧ ∀ m, m ∈ ns → (∀ y ∈ ns, le m y) → Q (.int m) H
section
variable {X : Cx}
theorem crk_min (hc : X.calm = true) (hu : X.A.units + 1 < cLine) : CallRK X (.builtin "min") [Str.ofString "default"] (rDef X.K (· ≤ ·)) := by
  intro pins s σ H xs zs us ws Q I r rz h
  obtain ⟨a, ns, d, rfl, rfl, hs, q0, q⟩ := h
  obtain ⟨its, rv, hl, _⟩ := I.list hs
  obtain ⟨w, rfl, rw⟩ := vals1 rz
  rw [Vals.ref1 r]
  refine PySem.W.min_list_datum_default (α := Int) (xs := ns) (I.ok.hd hc) hl.isList (by rw [List.toList_toArray]; exact PySem.W.HoldAll.of_ints rv.ints) hu (fun e h' tk hk => ⟨d, H, I.kept hk, rw, q0 e⟩) fun y ys i v h' tk e hi hh hk => ?_
  obtain ⟨bs, hr⟩ := hh
  obtain ⟨h1, h2, h3⟩ := fold_min ys y
  have hr' : Reads h' v (.int (PySem.W.minOf y ys)) bs := hr
  have hv : ∃ t, v = .int (PySem.W.minOf y ys) t := by cases hr'; exact ⟨_, rfl⟩
  obtain ⟨t, rfl⟩ := hv
  refine ⟨.int _, H, I.kept hk, ⟨t, rfl⟩, q _ ?_ fun z hz => ?_⟩
  · rw [e]
    rcases h1 with h1 | h1
    · rw [h1]; exact List.mem_cons_self
    · exact List.mem_cons_of_mem _ h1
  · rw [e] at hz
    rcases List.mem_cons.mp hz with rfl | hz
    · exact h2
    · exact h3 z hz
theorem crk_max (hc : X.calm = true) (hu : X.A.units + 1 < cLine) : CallRK X (.builtin "max") [Str.ofString "default"] (rDef X.K (· ≥ ·)) := by
  intro pins s σ H xs zs us ws Q I r rz h
  obtain ⟨a, ns, d, rfl, rfl, hs, q0, q⟩ := h
  obtain ⟨its, rv, hl, _⟩ := I.list hs
  obtain ⟨w, rfl, rw⟩ := vals1 rz
  rw [Vals.ref1 r]
  refine PySem.W.max_list_datum_default (α := Int) (xs := ns) (I.ok.hd hc) hl.isList (by rw [List.toList_toArray]; exact PySem.W.HoldAll.of_ints rv.ints) hu (fun e h' tk hk => ⟨d, H, I.kept hk, rw, q0 e⟩) fun y ys i v h' tk e hi hh hk => ?_
  obtain ⟨bs, hr⟩ := hh
  obtain ⟨h1, h2, h3⟩ := fold_max ys y
  have hr' : Reads h' v (.int (PySem.W.maxOf y ys)) bs := hr
  have hv : ∃ t, v = .int (PySem.W.maxOf y ys) t := by cases hr'; exact ⟨_, rfl⟩
  obtain ⟨t, rfl⟩ := hv
  refine ⟨.int _, H, I.kept hk, ⟨t, rfl⟩, q _ ?_ fun z hz => ?_⟩
  · rw [e]
    rcases h1 with h1 | h1
    · rw [h1]; exact List.mem_cons_self
    · exact List.mem_cons_of_mem _ h1
  · rw [e] at hz
    rcases List.mem_cons.mp hz with rfl | hz
    · exact h2
    · exact h3 z hz
end
section
variable {X : Cx} {G : Gc} {Γ : En} {e d : Expr} {p pos kp : Pos} {K : D → En → Prop} {x : Str} {id : String} {le : Int → Int → Prop}
/-- f(e, default=d), f min or max -/
theorem we_def (hK : G.K = X.K) (cr : CallRK X (.builtin id) [Str.ofString "default"] (rDef X.K le)) (hv : bootBuiltins x = some (.builtin id)) (hm : X.mg x = none)
    (h : WE X G Γ e fun y Γ1 => ∃ ns : List Int, y = .lst (ns.map .int) ∧ WE X G Γ1 d fun z Γ2 => (ns = [] → K z Γ2) ∧ ∀ m, m ∈ ns → (∀ y ∈ ns, le m y) → K (.int m) Γ2) (hg : Gl X x := by rfl) (hn : x ≠ "__name__" := by decide) (hdb : (x == ("__debug__" : Str)) = false := by decide)
    (hs : starEach [e] X.env = (false, eval e X.env) :: starEach [] X.env := by rfl)
    (he : backTo pos (starEach [e] X.env) = (false, eval e X.env) :: backTo pos (starEach [] X.env) := by rfl) (hpl : (backTo pos (starEach [e] X.env)).any (·.1) = false := by rfl)
    (hall : (backToKw pos (keywordEach [⟨some "default", d, kp⟩] X.env)).all (·.1.isSome) = true := by rfl) (hnone : (backToKw pos (keywordEach [⟨some "default", d, kp⟩] X.env)).any (·.1.isNone) = false := by rfl) (hks : (backToKw pos (keywordEach [⟨some "default", d, kp⟩] X.env)).filterMap (·.1) = [Str.ofString "default"] := by rfl) :
    WE X G Γ (.Call (.Name x p) [e] [⟨some "default", d, kp⟩] pos) K := .of fun σ F H Q E q => by
  refine PE.se (pe_callBK cr hg hm hv (pa_cons pe_S pa_nil hs) (pk_cons pe_S pk_nil) hn hdb he hpl hall hnone hks) ?_
  refine h σ F H _ E fun y Γ1 v F1 H1 s1 E1 o1 r1 k1 => ?_
  obtain ⟨ns, rfl, k1⟩ := k1
  refine k1 σ F1 H1 _ E1 fun z Γ2 w F2 H2 s2 E2 o2 r2 k2 => ?_
  obtain ⟨a, us, rfl, hs1, ru⟩ := rep_lst (rep_mono s2.ex _ _ r1)
  rw [hK] at hs1
  rw [reps_ints ru] at hs1
  exact ⟨a, ns, w, rfl, rfl, ex_l E2.ex hs1, fun e => q z Γ2 w F2 H2 (stp s1 o1 s2) E2 (fun b h => o1 b (o2 b h)) r2 (k2.1 e), fun m hm1 hm2 => q _ Γ2 _ F2 H2 (stp s1 o1 s2) E2 (fun b h => o1 b (o2 b h)) r_int (k2.2 m hm1 hm2)⟩
end
end Dv

set_option Elab.async false
set_option maxRecDepth 100000
set_option maxHeartbeats 4000000
namespace Dv
open PySem PySem.Spec PyProof.Rows L2
open Evl (Ex ex_l ex_t)
section
variable {X : Cx} {G : Gc} {Γ : En} {a b c : Expr} {pos : Pos} {KA : List D → En → Prop} {KD : D → Prop}
/-- [..] if c else [..], a new list -/
theorem wl_if (h : WT X G Γ c fun d Γ1 => (d = true → WL X G Γ1 a KA) ∧ (d = false → WL X G Γ1 b KA)) : WL X G Γ (.IfExp c a b pos) KA := .of fun σ F H Q E q => by
  refine PE.se (pe_ifExp pt_S pe_S pe_S) ?_
  refine h σ F H _ E fun d Γ1 F1 H1 s1 E1 o1 k1 => ?_
  cases d with
  | true => exact iteT (k1.1 rfl σ F1 H1 Q E1 fun ds Γ' p vs F' H' s E' o hp hf hp1 r k => q ds Γ' p vs F' H' (stp s1 o1 s) E' (fun a z => o1 a (o a z)) (s1.back hp) hf hp1 r k)
  | false => exact iteF (k1.2 rfl σ F1 H1 Q E1 fun ds Γ' p vs F' H' s E' o hp hf hp1 r k => q ds Γ' p vs F' H' (stp s1 o1 s) E' (fun a z => o1 a (o a z)) (s1.back hp) hf hp1 r k)
theorem call_max3I (hc : X.calm = true) : CallR X (.builtin "max") (fun xs H Q => ∃ i j k, xs = [.int i, .int j, .int k] ∧ Q (.int (max (max i j) k)) H) := by
  intro pins s σ H xs us Q I r h
  obtain ⟨i, j, k, rfl, q⟩ := h
  cases r with
  | cons r1 r =>
    cases r with
    | cons r2 r =>
      cases r with
      | cons r3 r =>
        cases r
        obtain ⟨t1, rfl⟩ := r1
        obtain ⟨t2, rfl⟩ := r2
        obtain ⟨t3, rfl⟩ := r3
        refine PySem.max_three_ints (I.ok.hd hc) fun h' tk hk => ⟨.int (max (max i j) k), H, I.kept hk, ?_, q⟩
        have fin : ∀ (m : Int) (t : Tok), m = max (max i j) k → RelV (.int (max (max i j) k)) (.int m t) := fun m t e => ⟨t, by rw [e]⟩
        split
        · split
          · exact fin _ _ (by omega)
          · exact fin _ _ (by omega)
        · split
          · exact fin _ _ (by omega)
          · exact fin _ _ (by omega)
theorem cd_max3 {i j k : Int} (hc : X.calm = true) (kk : KD (.int (max (max i j) k))) : CD X G (.builtin "max") [.int i, .int j, .int k] KD := .of fun F H vs Q e r q => by
  obtain ⟨v, t, rfl, r1, r2⟩ := reps_cons_inv r
  obtain ⟨v2, w, rfl, r3, r4⟩ := reps2 r2
  rw [rep_int r1, rep_int r3, rep_int r4]
  exact CallR.sc (call_max3I hc) ⟨i, j, k, rfl, q _ _ F H (.refl e) r_int kk⟩
end
end Dv

set_option Elab.async false
set_option maxRecDepth 100000
set_option maxHeartbeats 4000000
namespace PySem.SeqAt
open PySem Sem MeetsSeq
section
variable {prog : Program} {w : World}
theorem lists_unlike (l b : Addr) (xs ys : Array Value) (n n2 : Nat) (d1 d2 : Option Addr) (sl sl2 : Array (Option Value)) (hsz : xs.size ≠ ys.size) :
    MeetsIn prog w (Builtin.«list.__eq__» ⟨[.ref l, .ref b], []⟩)
      (fun _ R s => s.heap.get? l = some ⟨.type "list", d1, .seq xs n, sl⟩ ∧ s.heap.get? b = some ⟨.type "list", d2, .seq ys n2, sl2⟩ ∧ R (.ok (.ret (.bool false))) s) := by
  intro A R s h
  obtain ⟨hp, g, d, tk, os⟩ := s
  obtain ⟨hl, hb, h⟩ := h
  have f3 := AutoSeq1.sub_list_list
  have hne : (xs.size != ys.size) = true := bne_iff_ne.mpr hsz
  wp_walk using wpAny_loadPart' hl, wpAny_loadPart' hb
  exact h
theorem rc_unlike {A : Around} {s : Shared} {l b : Addr} {xs ys : Array Value} (hl : s.heap.IsList l xs) (hb : s.heap.IsList b ys) (hsz : xs.size ≠ ys.size) (hu : A.units < cLine) (E Q : Value → Shared → Prop) (h : Q (.bool false) s) :
    wpAny (model prog w) A (richCompare .Eq (.ref l) (.ref b)) Q E s := by
  obtain ⟨⟨c1, d1, t1, s1⟩, ho, hc, n, hd⟩ := id hl
  obtain ⟨⟨c2, d2, t2, s2⟩, ho2, hc2, n2, hd2⟩ := id hb
  simp only at hc hd hc2 hd2
  subst hc hd hc2 hd2
  refine wpAny_richCompare_same_room (op := .Eq) (T := "list") ⟨_, ho, rfl⟩ ⟨_, ho2, rfl⟩ F.slot_list_eq ?_ hu
  exact call_meetsIn F.slot_list_eq ⟨_, ho, rfl⟩ F.entry_list_eq (F.args_list_eq_2 _ _) (lists_unlike l b xs ys n n2 d1 d2 s1 s2 hsz) ⟨ho, ho2, show Value.bool false ≠ Value.notImplemented ∧ Q (.bool false) s from ⟨(fun q => by cases q), h⟩⟩
end
end PySem.SeqAt
namespace Dv
open PySem PySem.Spec PyProof.Rows L2
open Evl (Ex ex_l ex_t)
section
variable {X : Cx} {G : Gc}
/-- xs == [], whatever xs holds -/
theorem op_eqNil (hu : X.A.units < cLine) : OpR X (compareOp .Eq) (fun x y H Q => ∃ a b xs, x = .ref a ∧ y = .ref b ∧ SqL X.K H a xs ∧ SqL X.K H b [] ∧ Q (.bl xs.isEmpty) H) := by
  intro pins s σ H x y v u Q I rx ry h
  obtain ⟨a, b, xs, rfl, rfl, h1, h2, q⟩ := h
  obtain rfl : v = Value.ref a := rx
  obtain rfl : u = Value.ref b := ry
  obtain ⟨its, rv, p1, _⟩ := I.list h1
  obtain ⟨its2, rv2, p2, _⟩ := I.list h2
  cases rv2
  show wpAny _ _ (richCompare .Eq (.ref a) (.ref b)) _ _ _
  cases rv with
  | nil =>
    refine SeqAt.rcP_lists (e := fun _ => true) p1.isList p2.isList rfl hu (fun j h1 _ => absurd h1 (by simp)) _ _ ?_
    exact ⟨.bl true, H, I, rfl, q⟩
  | cons r rr =>
    refine SeqAt.rc_unlike p1.isList p2.isList (by simp) hu _ _ ?_
    exact ⟨.bl false, H, I, rfl, q⟩
theorem bo_eqNil {xs : List D} {K : D → Prop} (hK : G.K = X.K) (hu : X.A.units < cLine) (k : K (.bl xs.isEmpty)) : BO X G (compareOp .Eq) (.lst xs) (.lst []) K :=
  bo_of (op_eqNil hu) (fun F H u v Q e r1 r2 qk => by
    obtain ⟨a, us, rfl, hs, ru⟩ := rep_lst r1
    obtain ⟨b, ws, rfl, hs2, rw2⟩ := rep_lst r2
    rw [hK] at hs hs2
    rw [reps_nil_inv rw2] at hs2
    have e1 : us.isEmpty = xs.isEmpty := by
      cases xs with
      | nil =>
        rw [reps_nil_inv ru]
        rfl
      | cons x r => obtain ⟨w, t, rfl, _, _⟩ := reps_cons_inv ru; rfl
    refine ⟨a, b, us, rfl, rfl, ex_l e hs, ex_l e hs2, ?_⟩
    rw [e1]
    exact qk _ r_bl) k
end
end Dv

set_option Elab.async false
set_option maxRecDepth 100000
set_option maxHeartbeats 4000000
/-! an exception that leaves a comprehension's block -/
namespace PySem.HandSPX
open PySem
section
variable {M : Model} {A : Around} {E : Value → Shared → Prop} {s : Shared} {env ce : Env} {outer : List Env} {B : Heap} {L C a : Addr} {Z : Obj → Prop}
/-- a frame is noted by its frame alone -/
theorem note_alike (h : ce.frame = env.frame) (u : Value) : noteFrame u ce = noteFrame u env := by
  have f : frameOf ce = frameOf env := by
    unfold frameOf
    rw [h]
  unfold noteFrame
  rw [f, h]
/-- a def is left by an exception, whatever its flight says -/
theorem leaves_any {fl : Value} {Q : Unit → Shared → Prop} (st : Steady Z) (fr : A.frames = some (env :: outer)) (ef : env.frame = some L) (k : B.StaysIn s.heap) (nb : B.get? a = none) (ff : s.heap.FunFrames B (env :: outer)) (tr : TracedZ s.heap B a Z fl)
    (q : ∀ g, FlyingZ B outer a Z g → s.heap.UpToSlots g → Q () { s with heap := g }) : wpAny M A (leaving env (.ref a)) Q E s := by
  by_cases same : fl = rawInt L
  · subst same
    exact leaves_heldZ ef ⟨k, nb, ff, tr⟩ q
  · obtain ⟨oa, us, T, oT, ws, g1, z, g2, g3, g4, g5, g6, g7, g8⟩ := tr
    unfold leaving noteFrame
    simp only [ef]
    refine wpAny_bind (wpAny_bind (wpAny_field g1 g2 g3 ?_))
    rw [if_pos (by simp : (Value.ref T != Value.none) = true)]
    refine wpAny_bind (wpAny_field g6 g7 g8 ?_)
    rw [if_neg (by simpa using same : ¬ ((fl == rawInt L) = true))]
    refine wpAny_bind (wpAny_setField g6 g7 (Array.getElem?_eq_some_iff.mp g8).1 ?_)
    have off : ∀ b, b ≠ T → (s.heap.update T (Obj.mapFields (·.setIfInBounds 3 Value.none))).get? b = s.heap.get? b := fun b n => Heap.get?_update_other _ _ n.symm
    have plain : ∀ b o, s.heap.get? b = some o → (∀ us, o.data ≠ .fields us) → b ≠ T := fun b o e n x => by
      subst x
      rw [g6] at e
      cases e
      exact n ws g7
    refine wpAny_newEntryZ st fr (ff.of_keeps fun b o e n => ⟨o, (off b (plain b o e n)).trans e, rfl⟩) ef ((off a g5.symm).trans g1) (fun b o e => (off b fun x => by rw [x, g4] at e; cases e).trans (k b o e)) nb g2 (Array.getElem?_eq_some_iff.mp g3).1 z fun g hg => ?_
    obtain ⟨y1, ⟨_, _, y2⟩, y3, y4⟩ := hg
    exact q g ⟨y1, nb, y2, y3⟩ fun b o e n => y4 b o ((off b (plain b o e n)).trans e) n
/-- the ground with one object exchanged -/
def swapB (B : Heap) (C : Addr) (o : Obj) : Heap := B.update C fun _ => o
theorem swapB_off {o : Obj} {b : Addr} (n : b ≠ C) : (swapB B C o).get? b = B.get? b := Heap.get?_update_other _ _ n.symm
theorem swapB_on {o0 o : Obj} (e : B.get? C = some o0) (f : o.isFreed = false) : (swapB B C o).get? C = some o := Heap.get?_update_self (fun _ => o) e f
variable {h h' : Heap} {o0 o1 : Obj}
theorem stays_swap (e0 : B.get? C = some o0) (f : o1.isFreed = false) (sb : Heap.SameBut C h h') (e1 : h'.get? C = some o1) (k : B.StaysIn h) : (swapB B C o1).StaysIn h' := fun b o e => by
  by_cases n : b = C
  · subst n
    rw [swapB_on e0 f] at e
    cases e
    exact e1
  · rw [swapB_off n] at e
    exact (sb.2 b n).trans (k b o e)
theorem frames_swap (e0 : B.get? C = some o0) (sb : Heap.SameBut C h h') : ∀ {l : List Env}, h.FunFrames B l → h'.FunFrames (swapB B C o1) l
  | [], _ => True.intro
  | env :: l, x => by
    obtain ⟨x1, ⟨L, o, x2, x3, x4, x5⟩, x6⟩ := x
    have n : L ≠ C := fun z => by rw [z, e0] at x3; cases x3
    exact ⟨x1, ⟨L, o, x2, (swapB_off n).trans x3, (sb.2 L n).trans x4, x5⟩, frames_swap e0 sb x6⟩
theorem traced_swap {fl : Value} (e0 : B.get? C = some o0) (sb : Heap.SameBut C h h') (na : B.get? a = none) (t : TracedZ h B a Z fl) : TracedZ h' (swapB B C o1) a Z fl := by
  obtain ⟨oa, us, T, oT, ws, g1, z, g2, g3, g4, g5, g6, g7, g8⟩ := t
  have nA : a ≠ C := fun q => by rw [q, e0] at na; cases na
  have nT : T ≠ C := fun q => by rw [q, e0] at g4; cases g4
  exact ⟨oa, us, T, oT, ws, (sb.2 a nA).trans g1, z, g2, g3, (swapB_off nT).trans g4, g5, (sb.2 T nT).trans g6, g7, g8⟩
end
end PySem.HandSPX

set_option Elab.async false
set_option maxRecDepth 100000
set_option maxHeartbeats 4000000
/-! an exception passes a comprehension's block and leaves the def -/
namespace L2
open PySem PySem.Spec PyProof.Rows
section
variable {X : Cx} {pins : List (Addr × Obj)} {σ : St} {H : Hp} {s s1 : Shared} {E E0 : XK} {C : Addr} {oC : Obj} {ce : Env} {m : Str → Option Value} {Qf : Value → Shared → Prop} {acc : Value} {E₁ : Value → Shared → Prop}
/-- a call in the block lets an exception out: the block's names are let go, the def is left -/
theorem comp_pass (I : Inv X pins σ H s) (hs : X.stack = X.env :: X.outer) (hf : X.env.frame = some X.env.locals) (hex : X.ex = [])
    (hx : X.xe = fun e t => wpAny (model X.prog X.w) X.A (leaving X.env e) (fun _ t' => CX X.prog X.w X.outer X.H_0 X.s_0 E0 e t') E₁ t) (hE : ∀ cls d H', E cls d H' → E0 cls d H')
    (hC : FpOk X pins H C) (eC : s.heap.get? C = some oC) (nC : ∀ v, oC.data ≠ .cell v) (fC : C ∉ frs X.stack) (ns : s.heap.Ns C m) (hce : ce.frame = X.env.frame) {u : Value} (c : CX X.prog X.w X.stack H s E u s1) :
    notedBy (model X.prog X.w) X.A ce (fun e t => compPost (model X.prog X.w) X.A X.xe none Qf acc C (.error e) t) u s1 := by
  have Ip := I.pinned (fp := [C]) (fun b hb => by rw [List.mem_singleton.mp hb]; exact hC) (fun b hb => by rw [List.mem_singleton.mp hb]; exact ⟨oC, eC, nC⟩)
  have It := Ip.toTry (fun _ _ => False)
  obtain ⟨a, B, sI, pins', σ', H', cls, d, rfl, J', nb, up, sky, na, os, ag, w⟩ := XE.of_call (W := fun cls d _ H' => E cls d H') It (fun _ _ _ h => h) c
  have J0 : Inv X (pins ++ pinsAt [C] s.heap) σ' H' sI := J'.ofTry I.ok
  have J := J0.unpinned
  have pC : sI.heap.get? C = some oC ∧ H' C = none := by
    have := J0.pin (C, oC) (List.mem_append_right _ (List.mem_append_right _ (mem_pinsAt (List.mem_singleton.mpr rfl) eC)))
    exact ⟨this.1, this.2.1⟩
  have nb : ∀ b o, sI.heap.get? b = some o → b ∉ frs X.stack → B.get? b = some o := nb
  have bC : B.get? C = some oC := nb C oC pC.1 fC
  have sky : Sky B (X.env :: X.outer) a (Zc cls d) X.env.locals s1.heap := by rw [← hs]; exact sky
  have hfr : X.A.frames = some (X.env :: X.outer) := by rw [I.ok.frames, hs]
  show wpAny _ _ (noteFrame (.ref a) ce) _ _ s1
  rw [HandSPX.note_alike hce]
  have go : ∀ h1, HandSPX.HeldZ B (X.env :: X.outer) a (Zc cls d) X.env.locals h1 → s1.heap.UpToSlots h1 → compPost (model X.prog X.w) X.A X.xe none Qf acc C (.error (.ref a)) { s1 with heap := h1 } := fun h1 held up1 => by
    obtain ⟨k1, k2, k3, tr⟩ := held
    have cC : h1.get? C = some oC := k1 C oC bC
    refine ⟨m, ns.at fun o e => by rw [eC] at e; cases e; exact cC, fun h2 sb cenv hcl => ?_⟩
    have nA : a ≠ C := fun q => by rw [q, bC] at k2; cases k2
    -- the ground without the block's names
    have bs : (PySem.W.hideAll B [C]).StaysIn h2 := fun b o e => by
      have n : b ≠ C := fun q => by rw [q, PySem.W.hideAll_none [C] (List.mem_singleton.mpr rfl)] at e; cases e
      exact (sb.2 b n).trans (k1 b o (PySem.W.of_hideAll _ e))
    have hid : ∀ b, B.get? b = none → (PySem.W.hideAll B [C]).get? b = none := fun b e => by
      cases q : (PySem.W.hideAll B [C]).get? b with
      | none => rfl
      | some o =>
        have := PySem.W.of_hideAll _ q
        rw [e] at this
        cases this
    have ff : h2.FunFrames (PySem.W.hideAll B [C]) (X.env :: X.outer) := by
      have key : ∀ l : List Env, h1.FunFrames B l → h2.FunFrames (PySem.W.hideAll B [C]) l := fun l => by
        induction l with
        | nil => intro _; exact True.intro
        | cons e l ih =>
          intro x
          obtain ⟨x1, ⟨L, o, x2, x3, x4, x5⟩, x6⟩ := x
          have n : L ≠ C := fun z => by rw [z, bC] at x3; cases x3
          exact ⟨x1, ⟨L, o, x2, hid L x3, (sb.2 L n).trans x4, x5⟩, ih x6⟩
      exact key _ k3
    obtain ⟨oa, us, T, oT, ws, g1, z, g2, g3, g4, g5, g6, g7, g8⟩ := tr
    have nT : T ≠ C := fun q => by rw [q, bC] at g4; cases g4
    have ga : h2.get? a = some oa := (sb.2 a nA).trans g1
    have tr2 : HandSPX.TracedZ h2 (PySem.W.hideAll B [C]) a (Zc cls d) (rawInt X.env.locals) := ⟨oa, us, T, oT, ws, ga, z, g2, g3, hid T g4, g5, (sb.2 T nT).trans g6, g7, g8⟩
    unfold PySem.passOn
    refine wpAny_bind (wpAny_field ga g2 g3 ?_)
    rw [if_neg (by simp)]
    refine wpAny_bind (HandSPX.setFlight_anyZ bs ff tr2 fun h3 y1 y2 y3 y4 => ?_)
    refine wpAny_throw ?_
    rw [hx]
    refine HandSPX.leaves_any Zc.steady hfr hf y1 (hid a k2) y2 y3 fun g fg upg => ?_
    -- the state without the exception and without the block's names
    have JH : Inv X pins σ' H' { sI with heap := PySem.W.hideAll sI.heap [C], toks := sI.toks } := J.turned (it := C) (fun b o n e => PySem.W.hideAll_get _ e (fun q => n (List.mem_singleton.mp q))) pC.2 hC.2.1 hC.2.2.2.1 hC.2.2.2.2.1 hC.2.2.2.2.2
    have nbH : ∀ b o, (PySem.W.hideAll sI.heap [C]).get? b = some o → b ∉ frs X.stack → (PySem.W.hideAll B [C]).get? b = some o := fun b o e n => by
      have q : b ≠ C := fun q => by rw [q, PySem.W.hideAll_none [C] (List.mem_singleton.mpr rfl)] at e; cases e
      exact PySem.W.hideAll_get _ (nb b o (PySem.W.of_hideAll _ e) n) (fun z => q (List.mem_singleton.mp z))
    have upA : ∀ b o, (PySem.W.hideAll sI.heap [C]).get? b = some o → (∀ vs, o.data ≠ .fields vs) → ∃ sl, g.get? b = some { o with slots := sl } := fun b o e n => by
      have q : b ≠ C := fun q => by rw [q, PySem.W.hideAll_none [C] (List.mem_singleton.mpr rfl)] at e; cases e
      obtain ⟨l1, e1⟩ := up b o (PySem.W.of_hideAll _ e) n
      obtain ⟨l2, e2⟩ := up1 b _ e1 n
      obtain ⟨l3, e3⟩ := y4 b _ ((sb.2 b q).trans e2) n
      obtain ⟨l4, e4⟩ := upg b _ e3 n
      exact ⟨l4, e4⟩
    have old : ∀ b o, X.s_0.heap.get? b = some o → b ∉ X.fs → b ∉ frs X.stack := fun b o e n hm => by
      rcases List.mem_cons.mp (JH.stkSub b hm) with q | q
      · have := Heap.lt_size e
        rw [q] at this
        exact absurd (Nat.lt_of_lt_of_le this JH.ok.above) (Nat.lt_irrefl _)
      · exact n q
    have none : ∀ b, b ∉ X.ex := fun b hb => by rw [hex] at hb; cases hb
    refine ⟨a, PySem.W.hideAll B [C], H', cls, d, rfl, fg, JH.inGround nbH, ⟨fun b o e n f => ?_, fun b o e f => ?_, fun b o e n => JH.base.free b o e n (none b), fun b o e f => ?_, JH.base.tups, JH.base.frzs, JH.base.tbls⟩, na, os.trans J.os, ag, hE _ _ _ w⟩
    · exact nbH b o (JH.base.keep b o e n f (none b)) (old b o e f)
    · obtain ⟨_, o', e', n⟩ := JH.ok.funs.mem f
      rw [e] at e'
      cases e'
      obtain ⟨l, e1⟩ := JH.base.slot b o e (JH.ok.frf b f) f (none b)
      obtain ⟨l2, e2⟩ := upA b _ e1 n
      exact ⟨l2, e2⟩
    · obtain ⟨o', e1⟩ := JH.base.there b o e (none b)
      exact ⟨o', nbH b o' e1 (old b o e f)⟩
  rcases sky with ⟨x1, x2, x3, oe, vs, x4, x5, x6, x7⟩ | fl | held
  · exact HandSPX.look_newZ Zc.steady hfr x3 hf x4 x1 x2 x6 x7 x5 go
  · exact HandSPX.looks_onZ Zc.steady hfr hf fl go
  · exact HandSPX.againZ hf held.2.2.2 (go s1.heap held (Heap.UpToSlots.refl _))
end
end L2

set_option Elab.async false
set_option maxRecDepth 100000
set_option maxHeartbeats 4000000
/-! {k: v for x in xs}: the value may raise -/
namespace L2
open PySem PySem.Spec PyProof.Rows
section
variable {X : Cx} {pinned : List (Addr × Obj)} {sa : Shared} {slots : St} {H0 : Hp} {Qv : VK} {kx vx tg src : Expr} {sco : Scope} {mine : List (Str × Nat)} {pp : Pos} {wi : TI} {g : TG} {tk tv : TE} {Ex E0 : XK} {E₁ : Value → Shared → Prop}
/-- what the block of a def's comprehension may let out -/
abbrev blkX (X : Cx) (t : Shared) (K : Hp) (sco : Scope) (ce : Env) (fp : List Addr) (out : Value → Shared → Prop) : Cx := (X.blk t K sco ce fp).wish out
theorem dcx (calm : X.calm = true) (nd : X.N.Nodup) (stk : X.stack = X.env :: X.outer) (frm : X.env.frame = some X.env.locals) (noex : X.ex = [])
    (leaves : X.xe = fun e t => wpAny (model X.prog X.w) X.A (leaving X.env e) (fun _ t' => CX X.prog X.w X.outer X.H_0 X.s_0 E0 e t') E₁ t) (more : ∀ cls d K, Ex cls d K → E0 cls d K)
    (I : Inv X pinned slots H0 sa) (it : PI X tg src wi) (ok : BlkOk X.N X.env.scope sco mine)
    (hg : ∀ (t : Shared) (K : Hp) (C : Addr) (cl : List (Str × Addr)) (fp : List Addr), PG (X.blk t K sco (compEnvC sco cl C X.env) fp) tg g)
    (hk : ∀ (t : Shared) (K : Hp) (C : Addr) (cl : List (Str × Addr)) (fp : List Addr), PE (X.blk t K sco (compEnvC sco cl C X.env) fp) kx tk)
    (hv : ∀ (t : Shared) (K : Hp) (C : Addr) (cl : List (Str × Addr)) (fp : List Addr) (out : Value → Shared → Prop),
      (∀ pl σ K' r u r', Inv (X.blk t K sco (compEnvC sco cl C X.env) fp) pl σ K' r → CX X.prog X.w X.stack K' r Ex u r' → out u r') → PE (blkX X t K sco (compEnvC sco cl C X.env) fp out) vx tv)
    (fold : ∀ x, foldedSetIterable src X.env x = pure x) (start : tDc wi g tYes tk tv (mine.map (·.2)) slots H0 Qv) :
    wpAny (model X.prog X.w) X.A (eval (.DictComp kx vx [⟨tg, src, [], 0⟩] sco pp) X.env) (EP X pinned slots Qv) X.xe sa := by
  rw [arm_eval_DictComp]
  have open_ : ∀ y ∈ sco.names, y.2 = .free → ∃ c, X.env.cells.lookup y.1 = some c := fun y hy e => (ok.free y hy e).elim (fun q => I.ok.has _ (.inl q)) fun q => I.ok.has _ (.inr q)
  refine wpAny_comprehension_free (use := none) rfl fold (closure_ok open_) ok.kind (fun y hy e => by rw [ok.uniq y hy, e]) (thn (it.run pinned sa slots H0 _ I start) fun _ sb hx => thn hx fun _ sc h2 => ?_)
  obtain ⟨i0, fp, tn, J, H2, rfl, I2, T, t0, f2, q⟩ := h2
  refine wpAny_newObj_type (newEnv_comp ?_)
  generalize hDx : sc.heap.objs.size = Dd
  have hDd := hDx.symm
  obtain ⟨W, ⟨n0, w0⟩, turn⟩ := q Dd (I2.hok.fresh (Nat.le_of_eq hDd.symm))
  generalize hsx : ({ sc with heap := sc.heap.push { cls := .type "dict", data := .dict #[] } } : Shared) = sd
  have hsd := hsx.symm
  have I3 : Inv X pinned slots (upd H2 Dd (.dK [])) sd := by
    rw [hsd]
    exact I2.laid (t' := sc.toks) (fun b o e => Heap.get?_push_of_some _ e) (Nat.le_of_eq hDd.symm) (by rw [hDd]; exact dk_empty sc.heap I2.big)
  have grow : sd.heap = sc.heap.push { cls := .type "dict", data := .dict #[] } := by rw [hsd]
  have small : ∀ b ∈ fp, b < sc.heap.objs.size := fun b hb => let ⟨_, e, _⟩ := T.obj _ _ t0 b hb; Heap.lt_size e
  have f3 : ∀ b ∈ fp, FpOk X pinned (upd H2 Dd (.dK [])) b ∧ b < sd.heap.objs.size := fun b hb =>
    ⟨⟨by rw [upd_ne (by rw [hDd]; exact Nat.ne_of_lt (small b hb))]; exact (f2 b hb).1, (f2 b hb).2⟩, by rw [grow, Heap.size_push]; exact Nat.lt_succ_of_lt (small b hb)⟩
  have t1 : tn 0 sd.heap := T.keep _ _ _ t0 fun b _ o e => by rw [grow]; exact Heap.get?_push_of_some _ e
  have I4 := block_start I3 ok nd f3
  obtain ⟨C, hCd⟩ : ∃ C, C = sd.heap.objs.size := ⟨_, rfl⟩
  obtain ⟨K3, hK3⟩ : ∃ K3, K3 = upd H2 Dd (.dK []) := ⟨_, rfl⟩
  obtain ⟨cl, hcl⟩ : ∃ cl, cl = cellsFrom (sd.heap.objs.size + 1) sco.names (cloFrom X.env.cells sco.names []) := ⟨_, rfl⟩
  have pg := hg sd K3 C cl fp
  have pk := hk sd K3 C cl fp
  have pv := hv sd K3 C cl fp
  rw [← hcl, ← hCd, ← hK3] at I4
  rw [← hK3] at I3 w0 f3
  obtain ⟨ce, hce⟩ : ∃ ce, ce = compEnvC sco cl C X.env := ⟨_, rfl⟩
  rw [← hce] at I4 pg pk pv
  have eL : ce.locals = C := by rw [hce]; rfl
  have eF : ce.frame = X.env.frame := by rw [hce]; rfl
  obtain ⟨se, hse⟩ : ∃ se : Shared, se = { sd with heap := pushCells (sd.heap.push { cls := .type "dict", data := .dict #[] }) sco.names } := ⟨_, rfl⟩
  rw [← hse] at I4
  have t2 : tn 0 se.heap := T.keep _ _ _ t1 fun b _ o e => by rw [hse]; exact pushCells_keeps _ _ _ _ (Heap.get?_push_of_some _ e)
  have bare0 : ∀ b ∈ fp, K3 b = none := fun b hb => (f3 b hb).1.1
  have free : ∀ {σ' : St} {K' : Hp} {r : Shared}, Inv (X.blk sd K3 sco ce fp) [] σ' K' r → (∀ b ∈ fp, K' b = none) → ∀ b ∈ fp, FpOk (X.blk sd K3 sco ce fp) [] K' b := fun {σ' K' r} Ib hn b hb =>
    ⟨hn b hb, (Ib.ok.exf b hb).1, Ib.ok.exfs b hb, .inl hb, fun x c e => (Ib.ok.exf b hb).2 x c e, fun p hp => by cases hp⟩
  -- back in the def
  have back : ∀ {pl : List (Addr × Obj)} {σ' : St} {K' : Hp} {r : Shared}, Inv (X.blk sd K3 sco ce fp) pl σ' K' r → Inv X pinned slots K' r ∧ K' C = none ∧ ∃ m, r.heap.Ns C m := fun {pl σ' K' r} Ib => by
    refine ⟨I3.call' (ch := fp) Ib.os Ib.base Ib.hok Ib.bare fun b hb => ⟨(f3 b hb).1.2.2.2.1, (f3 b hb).1.2.1, (f3 b hb).1.2.2.2.2.1, (f3 b hb).1.2.2.2.2.2⟩, ?_, ?_⟩
    · have z : K' ce.locals = none := Ib.free
      rw [eL] at z
      exact z
    · obtain ⟨m, hm, _⟩ := Ib.loc
      have hm : r.heap.Ns ce.locals m := hm
      rw [eL] at hm
      exact ⟨m, hm⟩
  have fpC : ∀ {K' : Hp}, K' C = none → FpOk X pinned K' C := fun {K'} e => I3.fpOk (Nat.le_of_eq hCd.symm) e
  have post : ∀ u r', (∃ pl σ K' r, Inv (X.blk sd K3 sco ce fp) pl σ K' r ∧ CX X.prog X.w X.stack K' r Ex u r') → notedBy (model X.prog X.w) X.A ce (fun e t => compPost (model X.prog X.w) X.A X.xe none (EP X pinned slots Qv) (.ref Dd) C (.error e) t) u r' := by
    rintro u r' ⟨pl, σ, K', r, Ib, c⟩
    obtain ⟨IX, nC, m, ns⟩ := back Ib
    obtain ⟨oC, es, ep, eC, eD, _⟩ := id ns
    refine comp_pass IX stk frm noex leaves more (fpC nC) eC (fun v z => by rw [eD] at z; cases z) (fun hm => ?_) ns eF c
    rcases List.mem_cons.mp (IX.stkSub C hm) with z | z
    · exact (fpC nC).2.1 z
    · exact (fpC nC).2.2.1 z
  show codeAny _ _ (.compStart (.DictComp kx vx [⟨tg, src, [], 0⟩] sco pp) 0 (.ref i0) (.ref Dd) (compEnvC sco (cellsFrom (sd.heap.objs.size + 1) sco.names (cloFrom X.env.cells sco.names [])) sd.heap.objs.size X.env)) (compPost (model X.prog X.w) X.A X.xe none (EP X pinned slots Qv) (.ref Dd) sd.heap.objs.size) _
  rw [← hcl, ← hCd, ← hce, ← hse]
  have pt : PTs (X.blk sd K3 sco ce fp) [] tYes := pts_nil
  have loop : codeAny (model X.prog X.w) X.A (.compLoop (.DictComp kx vx [⟨tg, src, [], 0⟩] sco pp) 0 (.ref i0) (.ref Dd) ce) (compPost (model X.prog X.w) X.A X.xe none (EP X pinned slots Qv) (.ref Dd) C) se := by
    refine compLoop_anyD (fun n r => ∃ i K', Inv (X.blk sd K3 sco ce fp) [] (wipe slots (mine.map (·.2))) K' r ∧ tn i r.heap ∧ (∀ b ∈ fp, K' b = none) ∧ W i n K') ?_ n0 ⟨0, K3, I4, t2, bare0, w0⟩
    rintro n r ⟨i, K5, I5, t5, n5, w5⟩
    rcases turn i n K5 w5 with ⟨halt, fin⟩ | ⟨go, Nx, less, step⟩
    · refine thnF (T.done (X.blk sd K3 sco ce fp) rfl rfl rfl calm i [] r _ K5 (fun _ _ => False) I5 (free I5 n5) t5 halt) fun v r6 ⟨hr, I6⟩ => ?_
      subst hr
      obtain ⟨IX, nC, m, ns⟩ := back I6
      refine ⟨m, ns, fun h2 sb => ?_⟩
      obtain ⟨z0, z1, z2, z3, z4, z5⟩ := fpC nC
      exact ⟨.ref Dd, K5, IX.turned (t' := r6.toks) (fun b o hb e => (sb.2 b hb).trans e) z0 z1 z3 z4 z5, rfl, fin⟩
    · refine thnF (T.item (X.blk sd K3 sco ce fp) rfl rfl rfl calm i [] r _ K5 (fun _ _ => False) I5 (free I5 n5) t5 go) fun v r6 ⟨x0, hr, h6⟩ => ?_
      subst hr
      refine thnF h6 fun _ r7 ⟨x, K7, I7, rx, y7, t7, n7⟩ => ?_
      have I7' := I7.pinned (free I7 n7) (T.obj _ _ t7)
      refine thnF (pg.run _ r7 _ K7 x x0 _ I7' rx (step x K7 y7)) fun _ r8 ⟨σ8, K8, I8, w8, q8⟩ => ?_
      refine thnF (pt.run _ r8 σ8 K8 _ I8 q8) fun b r9 ⟨K9, I9, q9⟩ => ?_
      have next : ∀ {rz : Shared} {Kz : Hp}, Inv (X.blk sd K3 sco ce fp) ([] ++ pinsAt fp r7.heap) σ8 Kz rz → Nx Kz → ∃ m, m < n ∧ ∃ i K', Inv (X.blk sd K3 sco ce fp) [] (wipe slots (mine.map (·.2))) K' rz ∧ tn i rz.heap ∧ (∀ b ∈ fp, K' b = none) ∧ W i m K' := fun {rz Kz} Iz nz => by
        obtain ⟨m', lt', w'⟩ := less Kz nz
        have held : ∀ b ∈ fp, ∀ o, r7.heap.get? b = some o → rz.heap.get? b = some o ∧ Kz b = none := fun b hb o e => by
          have z := Iz.pin (b, o) (List.mem_append_right _ (List.mem_append_right _ (mem_pinsAt hb e)))
          exact ⟨z.1, z.2.1⟩
        have len : (wipe slots (mine.map (·.2))).length = σ8.length := by rw [← w8, wipe_length]
        refine ⟨m', lt', i + 1, Kz, (Iz.unpinned (pins := [])).weak len (fun j v e => ?_), T.keep _ _ _ t7 fun b hb o e => (held b hb o e).1, fun b hb => ?_, w'⟩
        · rw [← w8] at e
          exact (wipe_some e).1
        · obtain ⟨o, e, _⟩ := T.obj _ _ t7 b hb
          exact (held b hb o e).2
      cases b with
      | false =>
        simp only [Bool.false_eq_true, if_false] at q9 ⊢
        exact next I9 q9
      | true =>
        simp only [if_true] at q9 ⊢
        refine thnF (pk.run _ r9 σ8 K9 _ I9 q9) fun z r10 ⟨yk, K10, I10, rk, q10⟩ => ?_
        have pe := pv (notedBy (model X.prog X.w) X.A ce fun e t => compPost (model X.prog X.w) X.A X.xe none (EP X pinned slots Qv) (.ref Dd) C (.error e) t) fun pl σ K' r u r' Ib c => post u r' ⟨pl, σ, K', r, Ib, c⟩
        refine thn (pe.run _ r10 σ8 K10 _ (I10.wish _) q10) fun z2 r11 ⟨yv, K11, I11, rv, kvs, k, ek, eD, few, nz⟩ => ?_
        subst ek
        exact d_dictSet (X := X.blk sd K3 sco ce fp) I11.unwish eD few rk rv fun r12 I12 => next I12 nz
  exact codeAny_compStart_dict loop (T.self X.A 0 _ _ _ t2 loop)
end
end L2

set_option Elab.async false
set_option maxRecDepth 100000
set_option maxHeartbeats 4000000
namespace Dv
open PySem PySem.Spec PyProof.Rows L2 Dx
open Evl (Ex ex_l ex_t)
section
variable {X : Cx} {G : Gc} {Γ : En} {e : Expr} {es : List Expr} {pos p : Pos} {KD : D → En → Prop} {Ke : Nat → Prop} {W : WX} {x : Str} {k : Nat} {f : Addr} {fd : FuncData} {ps : List Str}
/-- f(e, ..), it may raise: what a call lets out is passed on -/
theorem wex_callP {con : List D → (D → Prop) → (Nat → Prop) → Prop} (pa : ∀ σ : L2.St, L2.PassesAt (L2.CX X.prog X.w) X σ (L2.WE W σ)) (C : FnOk X.prog X.w X.K X.mg X.base (L2.CX X.prog X.w) k f fd ps (spX G con)) (hr : Room k X.A) (hm : X.mg x = some (.ref f)) (hk : PySem.W.keepIn X.K (.ref f) = true) (hb : Binds X.K fd ps [])
    (h : WA X G Γ (e :: es) fun ds Γ1 => con ds (fun d => KD d Γ1) Ke) (hg : Gl X x := by rfl) (hdb : (x == ("__debug__" : Str)) = false := by decide)
    (he : starEach (e :: es) X.env = (false, eval e X.env) :: starEach es X.env := by rfl) (hpl : (backTo pos (starEach es X.env)).any (·.1) = false := by rfl) : WEX X G Γ (.Call (.Name x p) (e :: es) [] pos) KD Ke W := .of fun σ F H Q E q w => by
  refine PE.se (pe_callS (E := L2.WE W) C hr hg hm hk hb pa pa_S hdb he hpl) ?_
  refine h σ F H _ E fun ds Γ1 vs F1 H1 s1 E1 o1 r1 k1 => ?_
  exact ⟨F1, ds, _, _, E1.ex, r1, k1, fun d v F' H' kd s' r' => q d Γ1 v F' H' (stpN s1 s') (E1.step s') o1 r' kd, fun c F' H' kc s' => w c F' H' (stpN s1 s') kc⟩
end
section
variable {P : Program} {w : World} {K : PySem.W.Frag} {mg : Str → Option Value} {base : Heap} {G : Gc} {x qual : Str} {st : Stmt} {f : Addr} {fd : FuncData} {N ps : List Str} {k : Nat}
/-- def_x, the wish told -/
theorem def_xE {con : List D → (D → Prop) → (Nat → Prop) → Prop} (F : Fun K x qual st f fd) (S : FnScope N ps (defScope st)) (len : ∀ ds Kd Ke, con ds Kd Ke → ds.length = ps.length)
    (body : ∀ (cdv : Value) (A : Around) (outer : List Env) (s : Shared) (H : Hp) (E : XK) (ds : List D) (Kd : D → Prop) (Ke : Nat → Prop), Room k (A.deeper (envOfC qual (defScope st) s.heap.objs.size f cdv)) → con ds Kd Ke →
      Takes (cxOf (L2.CX P w) P w K mg base N qual (defScope st) f cdv A outer s H E) (fun cls d _ H' => E cls d H') →
      WBX (cxOf (L2.CX P w) P w K mg base N qual (defScope st) f cdv A outer s H E) G (En0 N (ds.map .val)) (defBody st) (Ret Kd) Ke (fun cls d _ H' => E cls d H')) : FnOk P w K mg base (L2.CX P w) (k + 1) f fd ps (spX G con) := by
  refine F.okX S (fun vs H Q E h => ?_) (fun cdv A outer s H vs Q E hr h => ?_)
  · obtain ⟨F0, ds, Kd, Ke, _, r, h, _⟩ := h
    rw [reps_len r]
    exact len _ _ _ h
  · obtain ⟨F0, ds, Kd, Ke, e, r, h, hq, he⟩ := h
    have hl : vs.length ≤ N.length := by
      have q := congrArg List.length S.pre
      rw [List.length_take] at q
      rw [reps_len r, len _ _ _ h]
      omega
    have ee := envs_p (N := N) e r hl
    refine ⟨_, pss_S, ?_⟩
    refine (body cdv A outer s H E ds Kd Ke hr h (takes_of rfl rfl rfl rfl)).run (L2.start N vs) F0 H _ ee ⟨fun Γ' σ' F' H' w k => ?_, fun d v Γ' σ' F' H' w r k => ?_, fun _ _ _ _ _ k => k.elim, fun _ _ _ _ _ k => k.elim⟩ fun c σ' F' H' s ke => ?_
    · exact hq .non .non F' H' k (w.st.mono fun a o => no_own o) r_non
    · exact hq d v F' H' k (w.st.mono fun a o => no_own o) r
    · exact he c F' H' ke (s.mono fun a o => no_own o)
end
end Dv

set_option Elab.async false
set_option maxRecDepth 100000
set_option maxHeartbeats 4000000
namespace Dv
open PySem PySem.Spec PyProof.Rows L2
open Evl (Ex ex_l ex_t)
section
variable {X : Cx} {G : Gc} {Γ : En}
def BEX (X : Cx) (scope : Scope) (e : Expr) (Ex : XK) : TE := fun σ H Q => ∀ (s : Shared) (H0 : Hp) (C : Addr) (cl : List (Str × Addr)) (fp : List Addr) (out : Value → Shared → Prop),
  (∀ pl σ K' r u r', Inv (X.blk s H0 scope (compEnvC scope cl C X.env) fp) pl σ K' r → L2.CX X.prog X.w X.stack K' r Ex u r' → out u r') → SE (L2.blkX X s H0 scope (compEnvC scope cl C X.env) fp out) e σ H Q
/-- {k: v for tg in iter}: the keys texts, the values may raise -/
theorem wex_dmap {kx vx tg iter : Expr} {scope : Scope} {own : List (Str × Nat)} {pos : Pos} {K : D → En → Prop} {Ke : Nat → Prop} {E0 : XK} {E₁ : Value → Shared → Prop} (gk : D → Str) (g : D → D) (hK : G.K = X.K) (hc : X.calm = true) (hN : X.N.Nodup) (stk : X.stack = X.env :: X.outer) (frm : X.env.frame = some X.env.locals) (noex : X.ex = [])
    {R : Prop} (leaves : X.xe = fun e t => wpAny (model X.prog X.w) X.A (leaving X.env e) (fun _ t' => L2.CX X.prog X.w X.outer X.H_0 X.s_0 E0 e t') E₁ t) (ok : BlkOk X.N X.env.scope scope own)
    (hg : ∀ (s : Shared) (H : Hp) (C : Addr) (cl : List (Str × Addr)) (fp : List Addr), TgOk (X.blk s H scope (compEnvC scope cl C X.env) fp) tg (own.map (·.1)))
    (h : WI X G Γ tg iter fun ds Γ1 => ∃ Γb, Forget Γ1 (own.map (·.1)) Γb ∧ ds.length ≤ 100000 ∧
      (∀ d ∈ ds, ∃ ps Γ3, Tgt tg d ps ∧ ps.map (·.1) = own.map (·.1) ∧ Puts Γb ps Γ3 ∧
        ∀ (s : Shared) (H : Hp) (C : Addr) (cl : List (Str × Addr)) (fp : List Addr), WE (X.blk s H scope (compEnvC scope cl C X.env) fp) G Γ3 kx fun z Γ4 => z = .str (gk d) ∧
          ∀ (s : Shared) (H : Hp) (C : Addr) (cl : List (Str × Addr)) (fp : List Addr) (out : Value → Shared → Prop) (Ex : XK), (∀ σ : L2.St, L2.PassesAt (L2.CX X.prog X.w) (L2.blkX X s H scope (compEnvC scope cl C X.env) fp out) σ (L2.WE (fun cls d _ K => Ex cls d K) σ)) →
            WEX (L2.blkX X s H scope (compEnvC scope cl C X.env) fp out) G Γ4 vx (fun z Γ5 => z = g d ∧ Forget Γ5 (own.map (·.1)) Γb ∧ R) Ke (fun cls d _ K => Ex cls d K)) ∧
      (ds = [] ∨ R → K (.dic (ds.foldl (fun acc d => putQ acc (gk d) (g d)) [])) Γb)) (hs : ∀ x, foldedSetIterable iter X.env x = pure x := by intro _; rfl) : WEX X G Γ (.DictComp kx vx [⟨tg, iter, [], 0⟩] scope pos) K Ke (fun cls d _ K => E0 cls d K) := .of fun σ F H Q E q w pins s I => by
  refine thn (L2.dcx (g := BG X scope tg) (tk := BE X scope kx) (tv := BEX X scope vx (fun cls d K' => ∃ c F', cls = .ref (G.cl c) ∧ d = none ∧ Step (Ow σ Γ) F H F' K' ∧ Ke c)) (E0 := E0) (E₁ := E₁) (Qv := fun x H1 => ∃ d kvs, x = .ref d ∧ H1 d = some (.dK kvs) ∧ ∀ od, Q x (upd H1 d (.frz od (.dK kvs)))) hc hN stk frm noex leaves (fun cls d K' ⟨c, F', e1, e2, st, ke⟩ => by subst e1; subst e2; exact w c F' K' st ke) I pi_S ok
    (fun s H C cl fp => ⟨fun pins s' σ H' v u Q I r z => z s H C cl fp pins s' u I r⟩) (fun s H C cl fp => ⟨fun pins s' σ H' Q I z => z s H C cl fp pins s' I⟩) (fun s H C cl fp out hp => ⟨fun pins s' σ H' Q I z => z s H C cl fp out hp pins s' I⟩) hs ?_) fun v s2 ⟨x, H2, I2, r2, d, kvs, ex, hd, q2⟩ => by
      obtain ⟨od, I3⟩ := I2.lock hd True.intro
      exact ⟨x, _, I3, r2, q2 od⟩
  refine h σ F H _ E fun ds Γ1 J F1 H1 s1 E1 o1 wk k1 => ?_
  obtain ⟨Γb, hfg, hdl, hturn, hend⟩ := k1
  intro Dl hD
  have idx : ∀ {Γ2 : En}, (∀ x ∈ own.map (·.1), ∃ i : Nat, Γ2[i]? = some (x, .un)) → X.N = Γ2.map (·.1) → ∀ i ∈ own.map (·.2), ∀ x s, Γ2[i]? = some (x, s) → s = .un := fun {Γ2} hu al i hi x s e => by
    obtain ⟨p, hp, rfl⟩ := List.mem_map.mp hi
    have hx : X.N[p.2]? = some x := by rw [al, List.getElem?_map, e] <;> rfl
    have hx2 := ok.ix p hp
    rw [hx2] at hx
    cases hx
    obtain ⟨j, ej⟩ := hu p.1 (List.mem_map.mpr ⟨p, hp, rfl⟩)
    have hj : X.N[j]? = some p.1 := by rw [al, List.getElem?_map, ej] <;> rfl
    have hij := nodup_ix hN hx2 hj
    rw [← hij, e] at ej
    cases ej
    rfl
  obtain ⟨Eb, ob⟩ := Envs.forget hfg E1
  obtain ⟨Ew, ow⟩ := Eb.wiped (idx hfg.un Eb.al)
  have hDF : F1 Dl = none := ex_none E1.ex hD
  have hDO : ¬ Ow (wipe σ (own.map (·.2))) Γb Dl := Ew.fresh hD
  refine dc_it (n := ds.length) (Gd := fun H => Ex F1 H) (Y := fun i H x H' => J.yld i H x H') ⟨fun i H hi g => wk.goes i H hi g, fun H g => wk.stops H g, fun i H x H' hi g y => y⟩
    (fun i H' => ∃ (F' : Hp) (gs : List (Str × V)), Envs G X.N F' H' (wipe σ (own.map (·.2))) Γb ∧ H' Dl = some (.dK (dks gs)) ∧ F' Dl = none ∧ repf G F' ((ds.take i).foldl (fun acc d => putQ acc (gk d) (g d)) []) gs ∧ gs.length ≤ i ∧
      Step (Ow (wipe σ (own.map (·.2))) Γb) F1 H1 F' H' ∧ (i = 0 ∨ R)) ?_ ?_ ?_ ?_
  · exact ⟨F1, [], Ew.step (Step.lay0 E1.ex hD), upd_same, hDF, repf_nil, Nat.le_refl _, (Step.lay0 (O := No) E1.ex hD).mono fun _ z => z.elim, .inl rfl⟩
  · rintro i H' _ ⟨F', gs, E2, _, _, _, _, st, _⟩
    exact st.ex.trans E2.ex
  · rintro i x H' H'' hi ⟨F', gs, E2, hDl, hDf, hr, hgl, st, hR⟩ hy
    obtain ⟨d, F2, hd, st2, rx⟩ := wk.yields i F' H' x H'' st.ex E2.ex hi hy
    obtain ⟨ps, Γ3, htg, hps, hput, hW⟩ := hturn d (List.mem_of_getElem? hd)
    have E3 := E2.step st2
    have kD : H'' Dl = some (.dK (dks gs)) := st2.keep Dl _ (fun z => z) hDl
    have nfD : ∀ {O : Addr → Prop} {Fa Ha Fb Hb : Hp}, Step O Fa Ha Fb Hb → ¬ O Dl → Fa Dl = none → Ha Dl = some (.dK (dks gs)) → Fb Dl = none := fun {O Fa Ha Fb Hb} st hn h1 h2 => by
      cases z : Fb Dl with
      | none => rfl
      | some u =>
        rcases st.new Dl u z with y | y | y
        · rw [h1] at y; cases y
        · rw [h2] at y; cases y
        · exact absurd y hn
    have fD : F2 Dl = none := nfD st2 (fun z => z) hDf hDl
    intro sb Hb Cb clb fpb
    refine tgt_run (X := X.blk sb Hb scope (compEnvC scope clb Cb X.env) fpb) hK (by rw [hps]; exact hg sb Hb Cb clb fpb) E3 htg hput rx fun σ2 E4 o4 hw => ?_
    have hw2 : wipe σ2 (own.map (·.2)) = wipe σ (own.map (·.2)) := by
      rw [hw (own.map (·.2)) (fun x hx i hi => ?_), wipe_wipe]
      rw [hps] at hx
      obtain ⟨p, hp, rfl⟩ := List.mem_map.mp hx
      have := nodup_ix hN (ok.ix p hp) hi
      exact this ▸ List.mem_map.mpr ⟨p, hp, rfl⟩
    refine ⟨hw2, ?_⟩
    have O4 : ∀ a, Ow σ2 Γ3 a → Ow (wipe σ (own.map (·.2))) Γb a := fun a z => o4 a z
    have st3 : Step (Ow (wipe σ (own.map (·.2))) Γb) F1 H1 F2 H'' := st.trans st2 fun _ z => z.elim
    unfold tYes
    dsimp only
    rw [if_pos rfl]
    intro sk Hk Ck clk fpk
    refine hW sk Hk Ck clk fpk σ2 F2 H'' _ E4 fun zk Γ4 vk F4 H4 s4 E5 o5 rzk kk => ?_
    obtain ⟨rfl, hV⟩ := kk
    have O5 : ∀ a, Ow σ2 Γ4 a → Ow (wipe σ (own.map (·.2))) Γb a := fun a z => O4 a (o5 a z)
    have kD4 : H4 Dl = some (.dK (dks gs)) := s4.keep Dl _ (fun z => hDO (O4 _ z)) kD
    have fD4 : F4 Dl = none := nfD s4 (fun z => hDO (O4 _ z)) fD kD
    have st4 : Step (Ow (wipe σ (own.map (·.2))) Γb) F1 H1 F4 H4 := st3.trans s4 fun a z => .inl (O4 a z)
    intro sv Hv Cv clv fpv out pas
    refine (hV sv Hv Cv clv fpv out _ (fun σ pl K' r u r' Ib c => pas pl σ K' r u r' Ib.unwish c)).run σ2 F4 H4 _ E5 (fun zv Γ5 vv F5 H5 s5 E6 o6 rzv kv => ?_) fun c F' K' sx ke => ⟨c, F', rfl, rfl, s1.trans ((st4.trans sx fun a z => .inl (O5 a z)).mono fun a z => ob a (ow a z)) fun a z => .inl (o1 a z), ke⟩
    obtain ⟨rfl, hf5, hRv⟩ := kv
    have O6 : ∀ a, Ow σ2 Γ5 a → Ow (wipe σ (own.map (·.2))) Γb a := fun a z => O5 a (o6 a z)
    have kD5 : H5 Dl = some (.dK (dks gs)) := s5.keep Dl _ (fun z => hDO (O5 _ z)) kD4
    have fD5 : F5 Dl = none := nfD s5 (fun z => hDO (O5 _ z)) fD4 kD4
    have st5 : Step (Ow (wipe σ (own.map (·.2))) Γb) F1 H1 F5 H5 := st4.trans s5 fun a z => .inl (O5 a z)
    have hgl2 : (dks gs).length < sizeLine := by
      have e1 : (dks gs).length = gs.length := by unfold dks; rw [List.length_map]
      rw [e1]
      exact Nat.lt_of_le_of_lt (show gs.length ≤ 100000 by omega) (by decide)
    refine ⟨dks gs, .inr (gk d), rep_str rzk, kD5, hgl2, ?_⟩
    have E7 : Envs G X.N F5 (upd H5 Dl (.dK (putK (dks gs) (.inr (gk d)) vv))) σ2 Γ5 := E6.move (Ex.refl F5) (fun a u z => by rw [upd_ne (ne_of_none z fD5)]; exact E6.ex a u z) (fun a u o z => by
      have ha : a ≠ Dl := fun za => hDO (by rw [← za]; exact O6 a o)
      rw [upd_ne ha]; exact z) (fun a o => (E6.owF o).1)
    obtain ⟨E8, o8⟩ := Envs.forget hf5 E7
    obtain ⟨E9, o9⟩ := E8.wiped (idx hf5.un E8.al)
    rw [hw2] at E9 o9
    have r5 : repf G F5 ((ds.take i).foldl (fun acc d => putQ acc (gk d) (g d)) []) gs := repf_mono (st2.ex.trans (s4.ex.trans s5.ex)) _ _ hr
    refine ⟨F5, putQ gs (gk d) vv, E9, by rw [putK_dks]; exact upd_same, fD5, ?_, Nat.le_trans (putQ_len _ _ _) (by omega), st5.grow hD fD5, .inr hRv⟩
    have et : ds.take (i + 1) = ds.take i ++ [d] := by rw [List.take_succ, hd] <;> rfl
    rw [et, List.foldl_append]
    exact repf_putQ rzv r5
  · rintro H' ⟨F', gs, E2, hDl, hDf, hr, hgl, st, hR⟩
    obtain ⟨E3, o3⟩ := E2.unwiped (idx hfg.un E2.al)
    have O3 : ∀ a, Ow σ Γb a → Ow σ Γ a := fun a z => o1 a (ob a z)
    have stF : Step (Ow σ Γ) F H F' H' := s1.trans (st.mono fun a z => ob a (ow a z)) fun a z => .inl (o1 a z)
    have hH := s1.back hD
    refine ⟨Dl, dks gs, rfl, hDl, fun od => ?_⟩
    rw [List.take_length] at hr
    have hx : Ex F' (upd F' Dl (.frz od (.dK (dks gs)))) := Ex.new hDf
    refine q _ Γb (.ref Dl) (upd F' Dl (.frz od (.dK (dks gs)))) (upd H' Dl (.frz od (.dK (dks gs)))) ⟨stF.ex.trans hx, fun a u z => ?_, fun a u n z => ?_, fun a u z => ?_, fun a z => ?_⟩ ?_ O3 (r_dic upd_same (repf_mono hx _ _ hr)) (hend (hR.imp (fun z => List.length_eq_zero_iff.mp z) _root_.id))
    · by_cases ha : a = Dl
      · subst ha; rw [upd_same] at z ⊢; exact z
      · rw [upd_ne ha] at z ⊢; exact stF.sub a u z
    · rw [upd_ne (ne_of_none z hH)]; exact stF.keep a u n z
    · by_cases ha : a = Dl
      · subst ha; exact .inr (.inl hH)
      · rw [upd_ne ha] at z; exact stF.new a u z
    · by_cases ha : a = Dl
      · subst ha; rw [upd_same]; simp
      · rw [upd_ne ha]; exact stF.dom a z
    · refine E3.move hx (fun a u z => ?_) (fun a u o z => ?_) fun a o => ?_
      · by_cases ha : a = Dl
        · subst ha; rw [upd_same] at z ⊢; exact z
        · rw [upd_ne ha] at z ⊢; exact E3.ex a u z
      · have ha : a ≠ Dl := fun za => E.fresh hH (O3 _ (za ▸ o))
        rw [upd_ne ha]; exact z
      · have ha : a ≠ Dl := fun za => E.fresh hH (O3 _ (za ▸ o))
        rw [upd_ne ha]; exact (E3.owF o).1
end
end Dv

set_option Elab.async false
set_option maxRecDepth 100000
set_option maxHeartbeats 4000000
/-! try: .. except C as n: .. n is kept behind it. -/
namespace Dx
open PySem PySem.Spec PyProof.Rows L2
open Dv (ExK)
/-- what the clause 'except C as n' makes of an exception, which is kept -/
def wHeld1 (K : PySem.W.Frag) (C1 : Addr) (i : Nat) (ts : Addr → Value → Option Addr → TS) (D : Ends) : WX := fun cls d σ H => ∃ C0, cls = .ref C0 ∧ d = none ∧ PySem.W.exmOne K (.ref C0) (.ref C1) = some true ∧
  ∀ a, H a = none → ts a (.ref C0) none { nx := fun σ' H' => D.nx (σ'.set i none) (upd H' a (ExK C0 a)), rt := fun _ _ => False, bk := fun _ _ => False, ct := fun _ _ => False } (σ.set i (some (.ref a))) H
section
variable {X : Cx} {x1 x2 n : Str} {C1 C2 : Addr} {i kk : Nat} {body suite : List Stmt} {b₀ : Stmt} {p1 p2 tp pos pos' : Pos} {tb : WX → TS} {ts : Addr → Value → Option Addr → TS}
theorem ps_try_held1 (hs : X.stack = X.env :: X.outer) (hf : X.env.frame = some X.env.locals) (hx : X.ex = []) (hN : X.N.Nodup) (hi : X.N[i]? = some n) (hln : X.env.kindOf n = some .local) (g1 : Gl X x1) (m1 : X.mg x1 = some (.ref C1))
    (hb : ∀ (W : WX) (pn : List (Addr × Obj)) (xe : Value → Shared → Prop), Takes (X.tr pn xe) W → PassesOwn (model X.prog X.w) X.A X.env xe → PSs (X.tr pn xe) body (tb W))
    (hsu : ∀ (a : Addr) (oe : Obj) (cls : Value) (d : Option Addr) (pn : List (Addr × Obj)), Zc cls d oe → (∃ vs, oe.data = .fields vs) → PSs (X.suite a ((a, oe) :: pn)) (b₀ :: suite) (ts a cls d))
    (d1 : (x1 == ("__debug__" : Str)) = false := by decide) :
    PS X (.Try body [.ExceptHandler (some (.Name x1 p1)) (some n) (b₀ :: suite) pos'] [] [] pos) (fun D σ H => tb (wHeld1 X.K C1 i ts D) D σ H) := by
  refine ⟨fun pins s σ H D I h => ?_⟩
  have ok := I.ok
  have hfr : X.A.frames = some (X.env :: X.outer) := by rw [ok.frames, hs]
  have hloc : Loc X.env.scope n := .inl hln
  refine wpAny_Try_except ?_
  refine wpAny_mono ((hb (wHeld1 X.K C1 i ts D) (X.pn ++ pins) (fun e s₁ => wpAny (model X.prog X.w) X.A (noteFrame e X.env) (fun _ s₂ => wpAny (model X.prog X.w) X.A (setFlight e none) (fun _ s₃ =>
    wpAny (model X.prog X.w) X.A (handleBy e X.env [.ExceptHandler (some (.Name x1 p1)) (some n) (b₀ :: suite) pos']) (SP X pins D) X.xe s₃) X.xe s₂) X.xe s₁) (fun u s' xx => ?_) PassesOwn.looking).run [] s σ H D (I.toTry _) h) (fun f s1 hsp => ?_) (fun e s1 he => he)
  · -- the catch
    obtain ⟨a, B, sI, pins', σ', H', cls, d, rfl, J', nb, up, sky, na, os, ag, C0, rfl, rfl, hm, hyes⟩ := xx
    have J : Inv X pins σ' H' sI := J'.ofTry ok
    have sky' : Sky B (X.env :: X.outer) a (Zc (.ref C0) none) X.env.locals s'.heap := by rw [← hs]; exact sky
    show wpAny (model X.prog X.w) X.A (noteFrame (.ref a) X.env) _ _ _
    refine Sky.land Zc.steady hfr hf sky' fun h3 fl3 up3 => ?_
    have J3 : Inv X pins σ' H' { s' with heap := h3 } := J.landed nb fl3.1 (up.trans up3) os ag
    obtain ⟨oe3, vs3, he3, hz3, hd3⟩ := fl3.there
    have nfr : a ∉ frs (X.env :: X.outer) := fun hm => by
      obtain ⟨_, o', e', hnf⟩ := fl3.2.2.1.mem hm
      rw [he3] at e'
      cases e'
      exact hnf _ hd3
    have nL : a ≠ X.env.locals := fun z => nfr (List.mem_filterMap.mpr ⟨X.env, List.mem_cons_self, by rw [hf, z]⟩)
    have nF : a ∉ X.fs := fun hm => by
      obtain ⟨e, he, q⟩ := List.mem_filterMap.mp hm
      exact nfr (List.mem_filterMap.mpr ⟨e, List.mem_cons_of_mem _ he, q⟩)
    have nI : sI.heap.get? a = none := by
      cases e : sI.heap.get? a with
      | none => rfl
      | some o =>
        have z := nb a o e (by rw [hs]; exact nfr)
        rw [fl3.2.1] at z
        cases z
    have n0 : X.s_0.heap.get? a = none := by
      cases e : X.s_0.heap.get? a with
      | none => rfl
      | some o =>
        obtain ⟨o', z⟩ := J.base.there a o e (by rw [hx]; exact fun z => nomatch z)
        rw [nI] at z
        cases z
    have np : ∀ p ∈ X.pn ++ pins, p.1 ≠ a := fun p hp z => by
      have q := (J.pin p hp).1
      rw [z, nI] at q
      cases q
    have S3 := J3.suite he3 hd3 na nL nF
    refine wpAny_handleBy_cons (codeAny_handlers_test ?_) (by intro q; cases q)
    have LT : PySem.W.Looks (model X.prog X.w) h3 (typeOf (.ref a)) (.ref C0) := fun A Q E s k q => wpAny_typeOf_ref (k _ _ he3) (by rw [hz3.1]; exact q)
    have LM := PySem.W.exm_one (M := model X.prog X.w) J3.kIn LT hm
    refine ld_glob (X := X.suite a ((a, oe3) :: (X.pn ++ pins))) S3 g1 m1 (LM.here ?_) d1
    refine codeAny_handlers_suite_as ?_
    refine lands_same fl3 fun h6 hk => ?_
    have J6 : Inv X pins σ' H' { s' with heap := h6 } := J3.kept (t' := s'.toks) fun b ob q => (hk b).trans q
    have S6 := J6.suite ((hk a).trans he3) hd3 na nL nF
    refine store_ok (X := X.suite a ((a, oe3) :: (X.pn ++ pins))) (v := .ref a) S6 hN hi hloc rfl (fun s5 S5 => ?_) (.inr hln)
    refine wpAny_mono ((hsu a oe3 (.ref C0) none (X.pn ++ pins) hz3 ⟨_, hd3⟩).run [] s5 _ _ _ S5 (hyes a na)) (fun f s6 hsp => ?_) (fun _ _ z => False.elim z)
    cases f with
    | next =>
      obtain ⟨σ6, H6, S7, q6⟩ := hsp
      have Jp : Inv X ((a, oe3) :: pins) σ6 H6 s6 := ⟨ok, S7.os, S7.bare, S7.base, S7.loc, S7.cell, S7.free, S7.freeC, fun p hp => S7.pin p (by
        rcases List.mem_append.mp hp with q | q
        · exact List.mem_append_left _ (List.mem_cons_of_mem _ (List.mem_append_left _ q))
        · rcases List.mem_cons.mp q with e | q
          · rw [e]; exact List.mem_append_left _ List.mem_cons_self
          · exact List.mem_append_left _ (List.mem_cons_of_mem _ (List.mem_append_right _ q))), S7.hok, S7.len⟩
      refine gone_ok Jp hN hi hln fun s7 J7 => ⟨_, _, ?_, q6⟩
      obtain ⟨ga, na7, nL7, nF7, nc7⟩ := J7.pin (a, oe3) (List.mem_append_right _ List.mem_cons_self)
      have J8 : Inv X pins (σ6.set i none) H6 s7 := ⟨J7.ok, J7.os, J7.bare, J7.base, J7.loc, J7.cell, J7.free, J7.freeC, fun p hp => J7.pin p (by
        rcases List.mem_append.mp hp with q | q
        · exact List.mem_append_left _ q
        · exact List.mem_append_right _ (List.mem_cons_of_mem _ q)), J7.hok, J7.len⟩
      refine Inv.track J8 na7 n0 ⟨⟨oe3, vs3, ga, hz3, hd3⟩, ⟨_, ga⟩, fun h1 h2 ⟨oe, vs, e, z, d⟩ k => ⟨oe, vs, k _ e, z, d⟩⟩ nL (fun x c e z => ?_) np
      obtain ⟨v, o, ho, hdat⟩ := J7.cell x c e
      rw [z, ga] at ho
      cases ho
      exact nc7 v hdat
    | brk =>
      obtain ⟨_, _, _, q6⟩ := hsp
      exact q6.elim
    | cont =>
      obtain ⟨_, _, _, q6⟩ := hsp
      exact q6.elim
    | ret u =>
      obtain ⟨_, _, _, _, _, q6⟩ := hsp
      exact q6.elim
  · cases f with
    | next =>
      obtain ⟨σ', H', J', q⟩ := hsp
      exact wpAny_execs_nil ⟨σ', H', J'.ofTry ok, q⟩
    | brk =>
      obtain ⟨σ', H', J', q⟩ := hsp
      exact ⟨σ', H', J'.ofTry ok, q⟩
    | cont =>
      obtain ⟨σ', H', J', q⟩ := hsp
      exact ⟨σ', H', J'.ofTry ok, q⟩
    | ret u =>
      obtain ⟨v, σ', H', J', r, q⟩ := hsp
      exact ⟨v, σ', H', J'.ofTry ok, r, q⟩
end
end Dx

set_option Elab.async false
set_option maxRecDepth 100000
set_option maxHeartbeats 4000000
namespace Dv
open PySem PySem.Spec PyProof.Rows L2 Dx
open Evl (Ex ex_l ex_t)
section
variable {X : Cx} {G : Gc} {Γ : En} {K : Ot → Prop} {n z x1 : Str} {C1 : Addr} {p1 pn pz ps1 ps2 hp pos : Pos} {e : Expr}
/-- try: return e  except C as n: z = n, where nothing is one's own -/
theorem ws_tryR (hs : X.stack = X.env :: X.outer) (hf : X.env.frame = some X.env.locals) (hx : X.ex = []) (hN : X.N.Nodup) (hln : X.env.kindOf n = some .local) (g1 : Gl X x1) (m1 : X.mg x1 = some (.ref C1)) (hzl : X.env.scope.names.lookup z = some .local) (hnz : n ≠ z)
    (hno : ∀ (σ : L2.St) a, ¬ Ow σ Γ a)
    (h : ∀ (pn0 : List (Addr × Obj)) (xe : Value → Shared → Prop) (W : WX), Takes (X.tr pn0 xe) W → WEX (X.tr pn0 xe) G Γ e (fun d Γ1 => K (.rt d Γ1)) (fun c => PySem.W.exmOne X.K (.ref (G.cl c)) (.ref C1) = some true ∧ ∃ s0 s1 Γ2 Γ3, Put Γ n s0 .un Γ2 ∧ Put Γ2 z s1 (.val (.exc c)) Γ3 ∧ K (.nx Γ3)) W)
    (hjn : ∃ i : Nat, X.N[i]? = some n) (hjz : ∃ i : Nat, X.N[i]? = some z) (hsz : swapsWith (.Name n pn) (some (.Name z pz)) ps2.line X.env = pure false := by rfl)
    (hn1 : (n == ("__debug__" : Str)) = false := by decide) (hn2 : (n == ("__classdict__" : Str)) = false := by decide) (d1 : (x1 == ("__debug__" : Str)) = false := by decide) :
    WS X G Γ (.Try [.Return (some e) ps1] [.ExceptHandler (some (.Name x1 p1)) (some n) [.Assign [.Name z pz] (.Name n pn) ps2] hp] [] [] pos) K := .of fun σ F0 H D E q => by
  obtain ⟨i, hi⟩ := hjn
  obtain ⟨jz, hjz⟩ := hjz
  have hvn : Vis X.env.scope n := .inl hln
  refine PS.ss (ps_try_held1 (i := i) (tb := fun W => fun D σ H => ∀ (pn0 : List (Addr × Obj)) (xe : Value → Shared → Prop), Takes (X.tr pn0 xe) W → SSs (X.tr pn0 xe) [.Return (some e) ps1] D σ H)
    (ts := fun a cls d => fun D σ H => ∃ v, σ[i]? = some (some v) ∧ D.nx (σ.set jz (some v)) H) hs hf hx hN hi hln g1 m1 (fun W pn0 xe tk po => ⟨fun pins s σ H D I h => h pn0 xe tk pins s I⟩) (fun b oe cls d pn0 hz hfd => ?_) d1) ?_
  · refine pss_one ⟨fun pins s σ H D I h => ?_⟩
    obtain ⟨v, h1, h2⟩ := h
    refine wpAny_Assign_Name (thn ((pe_var (X := X.suite b ((b, oe) :: pn0)) (pos := pn) hi hvn hn1 hn2).run pins s σ H (fun u H' => D.nx (σ.set jz (some u)) H') I ⟨v, h1, h2⟩) fun u s1 ⟨w, H1, I1, r1, qq⟩ => ?_) hsz
    exact store_ok I1 hN hjz (.inl hzl) r1 (fun s2 I2 => ⟨_, H1, I2, qq⟩) (.inr hzl)
  · intro pn0 xe tk
    refine PSs.ss (pss_one (ps_ret pe_S)) ?_
    refine (h pn0 xe _ tk).run σ F0 H _ E (fun d Γ' v F' H' s E' o r k => q.rt d v Γ' σ F' H' (.of s E' o) r k) fun c F' H' s0' ke => ?_
    have s' : Step No F0 H F' H' := s0'.mono fun a o => (hno σ a o).elim
    obtain ⟨hm2, s0, s1, Γ2, Γ3, hp1, hp2, k2⟩ := ke
    obtain ⟨i', e1, rfl⟩ := hp1.ix
    obtain rfl := nodup_ix hN hi (E.name e1)
    have il : i < Γ.length := (List.getElem?_eq_some_iff.mp e1).1
    refine ⟨G.cl c, rfl, rfl, hm2, fun b nb => ⟨.ref b, List.getElem?_set_self (by rw [E.len]; exact il), ?_⟩⟩
    have E' := E.step s'
    have sb : Step No F' H' (upd F' b (ExK (G.cl c) b)) (upd H' b (ExK (G.cl c) b)) := Step.lay E'.ex nb
    obtain ⟨E4, o4⟩ := (E'.step sb).forget1 hp1
    have h2 : (Γ.set i (n, .un))[i]? = some (n, .un) := List.getElem?_set_self il
    obtain ⟨E5, o5⟩ := env_un (v := some (.ref b)) E4 h2
    obtain ⟨j3, hj3, E6, o6⟩ := put_run E5 hp2 (r_exc upd_same)
    obtain rfl := nodup_ix hN hjz hj3
    obtain ⟨j4, e4, rfl⟩ := hp2.ix
    have h3 : ((Γ.set i (n, .un)).set j4 (z, .val (.exc c)))[i]? = some (n, .un) := by
      rw [List.getElem?_set_ne]
      · exact h2
      · intro e
        subst e
        rw [h2] at e4
        cases e4
        exact hnz rfl
    obtain ⟨E7, o7⟩ := env_un (v := none) E6 h3
    exact q.nx _ _ _ _ ⟨stpN (no_any s') sb, E7, fun x o => .inl (o4 x (o5 x (o6 x (o7 x o))))⟩ k2
end
end Dv

set_option Elab.async false
set_option maxRecDepth 100000
set_option maxHeartbeats 4000000
/-! Statements and expressions behind which a token is out: e.replace(..) of written texts, s.split(..) of such a text, a for over it. -/
namespace L2
open PySem PySem.Spec PyProof.Rows
section
variable {X : Cx} {o e : Expr} {es : List Expr} {to : TE} {t : TA} {name : Str} {apos cpos : Pos} {T id : String} {r : V → List V → Hp → VK → Prop}
theorem pet_bm (pa : PlainAttrs T) (slot : Slot T name id) (hty : typeOf (.builtin id) = pure (.type "method_descriptor")) (hm : MtR X id r) (ho : PET X o to) (ha : PA X (e :: es) t)
    (hbase : attributeBase o name X.env (eval o X.env) = eval o X.env := by rfl)
    (hfew : ((backTo cpos (starEach (e :: es) X.env)).all (fun x => !x.1) && (backToKw cpos (keywordEach [] X.env)).all (fun x => x.1.isSome)
      && decide ((e :: es).length + ([] : List Keyword).length + (if ([] : List Keyword).isEmpty then 0 else 1) < 30)) = true := by rfl)
    (hline : (apos.endLine == cpos.line) = true := by rfl) (hs : starEach (e :: es) X.env = (false, eval e X.env) :: starEach es X.env := by rfl) (hplain : (backTo cpos (starEach es X.env)).any (·.1) = false := by rfl) :
    PET X (.Call (.Attribute o name apos) (e :: es) [] cpos) (tBM X.K T r to t) := by
  intro pins s σ H Q h0 I h
  refine wpAny_Call_method_late hbase hfew hline rfl (thn (ho pins s σ H _ h0 I h) fun v s1 ⟨x, H1, I1, r1, ty, q1⟩ => ?_)
  obtain ⟨h1, h2⟩ := tyV_is I1 r1 ty
  refine ⟨T, id, pa, slot, hty, h1, h2, ?_⟩
  have hA := ha.run cpos pins s1 σ H1 _ I1 q1
  rw [hs] at hA ⊢
  refine Calls.callWith_builtin (by show (false || (backTo cpos (starEach es X.env)).any (·.1)) = false; rw [hplain] <;> rfl) (Calls.evalArgs_plain ?_)
  exact thn hA fun us s2 ⟨vs, H2, I2, r2, q2⟩ => hm pins s2 σ H2 x vs v us Q I2 r1 r2 q2
end
/-- a written number is stored under a name: behind it a token is out -/
theorem pss_int {X : Cx} {rest : List Stmt} {u : TS} {i j : Nat} {x : Str} {c : Int} {cpos pos' pos : Pos} (hN : X.N.Nodup) (hi : X.N[i]? = some x) (hx : Loc X.env.scope x) (h2 : PSsT X rest u)
    (hs : swapsWith (.Constant (.int c) j cpos) (some (.Name x pos')) pos.line X.env = pure false := by rfl) (hf : X.fn x = true ∨ X.env.scope.names.lookup x = some .local := by first | exact .inl rfl | exact .inr rfl | assumption) :
    PSs X (.Assign [.Name x pos'] (.Constant (.int c) j cpos) pos :: rest) (tSeq (tAsg (tC (.int c)) (gName i)) u) := by
  refine ⟨fun pins s σ H D I h => ?_⟩
  refine wpAny_execs_cons (wpAny_Assign_Name (wpAny_Constant_int ?_) hs)
  refine wpAny_mono (PySem.wpAny_toks (store_ok (v := V.int c) (u := Value.int c s.toks) (Q := fun _ s2 => Inv X pins (σ.set i (some (V.int c))) H s2) (I.tok (s.toks + 1)) hN hi hx ⟨s.toks, rfl⟩ (fun _ I2 => I2) hf)) (fun _ s2 q => ?_) fun _ _ z => z.2
  have hk : s.toks + 1 ≤ s2.toks := q.1
  exact h2 pins s2 _ H D (by omega) q.2 h
end L2
namespace Dv
open PySem PySem.Spec PyProof.Rows L2
open Evl (Ex ex_l ex_t)
def SET (X : Cx) (e : Expr) : TE := fun σ H Q => ∀ (pins : List (Addr × Obj)) (s : Shared), 1 ≤ s.toks → Inv X pins σ H s → wpAny (model X.prog X.w) X.A (eval e X.env) (EP X pins σ Q) X.xe s
def SIT (X : Cx) (tg iter : Expr) : TI := fun σ H R => ∀ (pins : List (Addr × Obj)) (s : Shared), 1 ≤ s.toks → Inv X pins σ H s → wpAny (model X.prog X.w) X.A (eval iter X.env) (fun v s1 => wpAny (model X.prog X.w) X.A (pyIter v) (PIE X pins σ tg R) X.xe s1) X.xe s
def SST (X : Cx) (st : Stmt) : TS := fun D σ H => ∀ (pins : List (Addr × Obj)) (s : Shared), 1 ≤ s.toks → Inv X pins σ H s → wpAny (model X.prog X.w) X.A (exec st X.env) (SP X pins D) X.xe s
def SSsT (X : Cx) (st : List Stmt) : TS := fun D σ H => ∀ (pins : List (Addr × Obj)) (s : Shared), 1 ≤ s.toks → Inv X pins σ H s → wpAny (model X.prog X.w) X.A (execs st X.env) (SP X pins D) X.xe s
section
variable {X : Cx} {e tg iter : Expr} {stm : Stmt} {sts : List Stmt}
theorem pet_ST : PET X e (SET X e) := fun pins s _ _ _ h0 I h => h pins s h0 I
theorem pit_ST : PIT X tg iter (SIT X tg iter) := fun pins s _ _ _ h0 I h => h pins s h0 I
theorem pst_ST : PST X stm (SST X stm) := fun pins s _ _ _ h0 I h => h pins s h0 I
theorem psst_ST : PSsT X sts (SSsT X sts) := fun pins s _ _ _ h0 I h => h pins s h0 I
theorem PET.st {t : TE} {σ : L2.St} {H : Hp} {Q : VK} (h : PET X e t) (q : t σ H Q) : SET X e σ H Q := fun pins s h0 I => h pins s σ H Q h0 I q
theorem PIT.st {t : TI} {σ : L2.St} {H : Hp} {R : It → Hp → Prop} (h : PIT X tg iter t) (q : t σ H R) : SIT X tg iter σ H R := fun pins s h0 I => h pins s σ H R h0 I q
theorem PST.st {t : TS} {σ : L2.St} {H : Hp} {D : Ends} (h : PST X stm t) (q : t D σ H) : SST X stm D σ H := fun pins s h0 I => h pins s σ H D h0 I q
theorem PSsT.st {t : TS} {σ : L2.St} {H : Hp} {D : Ends} (h : PSsT X sts t) (q : t D σ H) : SSsT X sts D σ H := fun pins s h0 I => h pins s σ H D h0 I q
end
structure WET (X : Cx) (G : Gc) (Γ : En) (e : Expr) (K : D → En → Prop) : Prop where
  of ::
  run :  ∀ (σ : L2.St) (F H : Hp) (Q : VK), Envs G X.N F H σ Γ → (∀ (d : D) (Γ' : En) (v : V) (F' H' : Hp), Step (Ow σ Γ) F H F' H' → Envs G X.N F' H' σ Γ' → (∀ a, Ow σ Γ' a → Ow σ Γ a) → rep G F' d v → K d Γ' → Q v H') → SET X e σ H Q
structure WIT (X : Cx) (G : Gc) (Γ : En) (tg it : Expr) (K : List D → En → Prop) : Prop where
  of ::
  run :  ∀ (σ : L2.St) (F H : Hp) (R : It → Hp → Prop), Envs G X.N F H σ Γ → (∀ (ds : List D) (Γ' : En) (J : It) (F' H' : Hp), Step (Ow σ Γ) F H F' H' → Envs G X.N F' H' σ Γ' → (∀ a, Ow σ Γ' a → Ow σ Γ a) → Wlk G F' J ds → K ds Γ' → R J H') → SIT X tg it σ H R
structure WST (X : Cx) (G : Gc) (Γ : En) (st : Stmt) (K : Ot → Prop) : Prop where
  of ::
  run : ∀ (σ : L2.St) (F H : Hp) (D : Ends), Envs G X.N F H σ Γ → Ends' G X.N Γ σ F H K D → SST X st D σ H
structure WBT (X : Cx) (G : Gc) (Γ : En) (sts : List Stmt) (K : Ot → Prop) : Prop where
  of ::
  run : ∀ (σ : L2.St) (F H : Hp) (D : Ends), Envs G X.N F H σ Γ → Ends' G X.N Γ σ F H K D → SSsT X sts D σ H
section
variable {X : Cx} {G : Gc} {Γ : En} {e o tg iter : Expr} {body sts : List Stmt} {stm : Stmt} {y z : Str} {j k : Nat} {c0 c1 apos pos p' : Pos} {K : D → En → Prop} {KO : Ot → Prop}
theorem wet_of (h : WE X G Γ e K) : WET X G Γ e K := .of fun σ F H Q E q pins s _ I => h.run σ F H Q E q pins s I
theorem wet_repl (hyz : (y == z) = false) (h : WET X G Γ o fun d Γ1 => ∃ x, d = .str x ∧ x.length + (x.length + 1) * z.length ≤ 16777216 ∧ K (.str (Txt.replace x y z)) Γ1)
    (hst : starEach [.Constant (.str y) j c0, .Constant (.str z) k c1] X.env = [(false, eval (.Constant (.str y) j c0) X.env), (false, eval (.Constant (.str z) k c1) X.env)] := by rfl)
    (hbase : attributeBase o "replace" X.env (eval o X.env) = eval o X.env := by rfl) (hline : (apos.endLine == pos.line) = true := by rfl) : WET X G Γ (.Call (.Attribute o "replace" apos) [.Constant (.str y) j c0, .Constant (.str z) k c1] [] pos) K := .of fun σ F H Q E q => by
  refine PET.st (CwR.pet_replT pet_ST hyz hst hbase hline) ?_
  refine h.run σ F H _ E fun d Γ1 v F1 H1 s1 E1 o1 r1 k1 => ?_
  obtain ⟨x, rfl, hb, k⟩ := k1
  exact ⟨x, rep_str r1, hb, q _ Γ1 _ F1 H1 s1 E1 o1 r_str k⟩
theorem wet_split (h : WET X G Γ o fun d Γ1 => ∃ s, d = .str s ∧ WA X G Γ1 [e] fun ds Γ2 => ∃ x, ds = [.str x] ∧ (x.length == 0) = false ∧ s.length + 2 ≤ sizeLine ∧ K (.lst ((Txt.split s x).map .str)) Γ2)
    (hbase : attributeBase o "split" X.env (eval o X.env) = eval o X.env := by rfl)
    (hfew : ((backTo pos (starEach [e] X.env)).all (fun x => !x.1) && (backToKw pos (keywordEach [] X.env)).all (fun x => x.1.isSome) && decide (([e] : List Expr).length + ([] : List Keyword).length + (if ([] : List Keyword).isEmpty then 0 else 1) < 30)) = true := by rfl)
    (hline : (apos.endLine == pos.line) = true := by rfl) (hs : starEach [e] X.env = (false, eval e X.env) :: starEach [] X.env := by rfl) (hplain : (backTo pos (starEach [] X.env)).any (·.1) = false := by rfl) : WET X G Γ (.Call (.Attribute o "split" apos) [e] [] pos) K := .of fun σ F H Q E q => by
  refine PET.st (pet_bm PySem.F.plainAttrs_str PySem.F.slot_str_split PySem.F.type_str_split mt_split pet_ST pa_S hbase hfew hline hs hplain) ?_
  refine h.run σ F H _ E fun d Γ1 v F1 H1 s1 E1 o1 r1 k1 => ?_
  obtain ⟨s, rfl, k1⟩ := k1
  rw [rep_str r1]
  refine ⟨rfl, ?_⟩
  refine k1 σ F1 H1 _ E1 fun ds Γ2 vs F2 H2 s2 E2 o2 r2 k2 => ?_
  obtain ⟨x, rfl, h0, hl, k⟩ := k2
  obtain ⟨w, rfl, r3⟩ := reps1 r2
  rw [rep_str r3]
  refine ⟨s, x, rfl, rfl, h0, hl, fun p hp => ?_⟩
  have s12 := stp s1 o1 s2
  have st : Step No F2 H2 (upd F2 p (.lst ((Txt.split s x).map V.str))) (upd H2 p (.lst ((Txt.split s x).map V.str))) := Step.lay E2.ex hp
  refine q (.lst ((Txt.split s x).map .str)) Γ2 (.ref p) _ _ (stpN s12 st) (E2.step st) (fun a h => o1 a (o2 a h)) ?_ k
  unfold rep
  exact ⟨p, _, rfl, upd_same, strs_reps _⟩
theorem wit_seq {K : List D → En → Prop} (hK : G.K = X.K) (h : WET X G Γ e fun d Γ1 => ∃ ds, (d = .lst ds) ∧ K ds Γ1) : WIT X G Γ tg e K := .of fun σ F H R E q => by
  refine PIT.st (pit_list pet_ST) ?_
  refine h.run σ F H _ E fun d Γ1 v F1 H1 s1 E1 o1 r1 k1 => ?_
  obtain ⟨ds, rfl, k⟩ := k1
  obtain ⟨a, vs, rfl, hs, r⟩ := rep_lst r1
  rw [hK] at hs
  exact ⟨a, rfl, ⟨vs, ex_l E1.ex hs⟩, q ds Γ1 _ F1 H1 s1 E1 o1 (wlk_at walk_list (fun H e => ex_l e hs) r) k⟩
theorem wst_for (names : List Str) (hK : G.K = X.K) (hc : X.calm = true) (hp : PassesOwn (model X.prog X.w) X.A X.env X.xe) (hg : TgOk X tg names)
    (h : WIT X G Γ tg iter fun ds Γ1 => ∃ Pv : Wf, Pv 0 Γ1 ∧ (∀ i d Γ2, ds[i]? = some d → Pv i Γ2 → ∃ ps Γ3, Tgt tg d ps ∧ ps.map (·.1) = names ∧ Puts Γ2 ps Γ3 ∧ WB X G Γ3 body fun o => match o with
        | .nx Γ4 => Pv (i + 1) Γ4
        | .ct Γ4 => Pv (i + 1) Γ4
        | .bk Γ4 => KO (.nx Γ4)
        | .rt z Γ4 => KO (.rt z Γ4)) ∧ (∀ Γ2, Pv ds.length Γ2 → KO (.nx Γ2))) (hs : ∀ x, foldedSetIterable iter X.env x = pure x := by intro _; rfl) : WST X G Γ (.For tg iter body [] pos) KO := .of fun σ F H D E q => by
  refine PST.st (pst_for hp hc pit_ST pg_S pss_S hs) ?_
  refine h.run σ F H _ E fun ds Γ1 J F1 H1 s1 E1 o1 wk k1 => ?_
  obtain ⟨Pv, hp0, hturn, hend⟩ := k1
  refine for_it (n := ds.length) (G := fun H => Ex F1 H) (Y := fun i H x H' => J.yld i H x H') ⟨fun i H hi g => wk.goes i H hi g, fun H g => wk.stops H g, fun i H x H' hi g y => y⟩
    (fun i σ' H' => ∃ (F' : Hp) (Γ2 : En), Went G X.N Γ σ F H Γ2 σ' F' H' ∧ Ex F1 F' ∧ Pv i Γ2) ⟨F1, Γ1, .of s1 E1 o1, Ex.refl F1, hp0⟩ ?_ ?_ ?_
  · rintro i σ' H' _ ⟨F', Γ2, w, e, _⟩
    exact e.trans w.en.ex
  · rintro i x σ' H' H'' hi ⟨F', Γ2, w, e, hpv⟩ hy
    obtain ⟨d, F2, hd, st2, rx⟩ := wk.yields i F' H' x H'' e w.en.ex hi hy
    obtain ⟨ps, Γ3, htg, hps, hput, hb⟩ := hturn i d Γ2 hd hpv
    have w2 : Went G X.N Γ σ F H Γ2 σ' F2 H'' := w.trans ⟨no_any st2, w.en.step st2, fun a h => .inl h⟩
    refine tgt_run hK (by rw [hps]; exact hg) w2.en htg hput rx fun σ2 E4 o4 _ => ?_
    have w3 : Went G X.N Γ σ F H Γ3 σ2 F2 H'' := w2.trans ⟨.refl E4.ex, E4, fun a h => .inl (o4 a h)⟩
    have ex2 : Ex F1 F2 := e.trans st2.ex
    refine hb σ2 F2 H'' _ E4 ⟨fun Γ' σ3 F' H' w' k => ?_, fun z v Γ' σ3 F' H' w' r k => ?_, fun Γ' σ3 F' H' w' k => ?_, fun Γ' σ3 F' H' w' k => ?_⟩
    · exact ⟨F', Γ', w3.trans w', ex2.trans w'.st.ex, k⟩
    · exact q.rt z v Γ' σ3 F' H' (w3.trans w') r k
    · exact q.nx Γ' σ3 F' H' (w3.trans w') k
    · exact ⟨F', Γ', w3.trans w', ex2.trans w'.st.ex, k⟩
  · rintro σ' H' ⟨F', Γ2, w, e, hpv⟩
    exact q.nx Γ2 σ' F' H' w (hend Γ2 hpv)
theorem wbt_cons (h : WST X G Γ stm (Then X G sts KO)) : WBT X G Γ (stm :: sts) KO := .of fun σ F H D E q => by
  refine PSsT.st (psst_cons pst_ST (PSsT.of pss_S)) ?_
  refine h.run σ F H _ E ⟨fun Γ' σ' F' H' w k => ?_, q.rt, q.bk, q.ct⟩
  exact WB.run k σ' F' H' D w.en (q.go w)
/-- behind x = n a token is out -/
theorem wb_intT {x : Str} {n : Int} {s0 : Sl} {Γ2 : En} (hN : X.N.Nodup) (hput : Put Γ x s0 (.val (.int n)) Γ2) (h : WBT X G Γ2 sts KO) (hx : Loc X.env.scope x := by first | exact Or.inl rfl | exact Or.inr rfl)
    (hs : swapsWith (.Constant (.int n) j c0) (some (.Name x p')) pos.line X.env = pure false := by rfl) (hf : X.fn x = true ∨ X.env.scope.names.lookup x = some .local := by first | exact .inl rfl | exact .inr rfl) :
    WB X G Γ (.Assign [.Name x p'] (.Constant (.int n) j c0) pos :: sts) KO := .of fun σ F H D E q => by
  obtain ⟨i, e, e2⟩ := hput.ix
  subst e2
  refine PSs.ss (pss_int hN (E.name e) hx psst_ST hs hf) ?_
  have E2 : Envs G X.N F H (σ.set i (some (V.int n))) (Γ.set i (x, .val (.int n))) := E.put e (.inl ⟨_, rfl, r_int⟩)
  refine h.run _ F H D E2 (q.go ⟨.refl E.ex, E2, fun a z => ?_⟩)
  rcases Ow.put e E.len z with z | ⟨_, c, z | z⟩
  · exact .inl z
  · cases z
  · cases z
end
end Dv

set_option Elab.async false
set_option maxRecDepth 100000
set_option maxHeartbeats 4000000
namespace Wf
open PySem PySem.Spec PyProof.Rows L2 Dv TL
open Ko (mkS nameB okS)
open Fs (Fo fo it par fl fl_app)
/-! ### forests, rows as data -/
def fd : Fo → List D
  | .nil => []
  | .cons n o r => .tup [.str (mkS n), .tup (fd o)] :: fd r
def trD (x : Fs.It) : D := .tup [.str (mkS x.2.1), .tup (fd x.2.2)]
def itD (x : Fs.It) : D := .tup [.int x.1, trD x]
def stD (x : Fs.It) : D := .tup [trD x, .int x.1]
def nm1 (x : Fs.Row) : D := .str (mkS x.1)
def dp1 (x : Fs.Row) : D := .int x.2
theorem fd_fo : ∀ xs : List Fs.It, fd (fo xs) = xs.map trD
  | [] => rfl
  | (d, n, o) :: r => by
    show _ :: fd (fo r) = _ :: r.map trD
    rw [fd_fo r] <;> rfl
theorem fd_it : ∀ (f : Fo) (k : Int), fd f = (it f k).map trD
  | .nil, _ => rfl
  | .cons n o r, k => by
    show _ :: fd r = _ :: (it r k).map trD
    rw [fd_it r k] <;> rfl
theorem fl_it : ∀ (f : Fo) (k : Int), fl (it f k) = Fs.rw f k
  | .nil, _ => rfl
  | .cons n o r, k => by
    show (n, k) :: (Fs.rw o (k + 1) ++ fl (it r k)) = _
    rw [fl_it r k] <;> rfl
theorem it_len (f : Fo) (k : Int) : (it f k).length ≤ (Fs.rw f k).length := by
  induction f generalizing k with
  | nil => exact Nat.le_refl _
  | cons n o r _ ih =>
    show (it r k).length + 1 ≤ (Fs.rw o (k + 1) ++ Fs.rw r k).length + 1
    have := ih k
    rw [List.length_append]
    omega
theorem rw_len (f : Fo) (k j : Int) : (Fs.rw f k).length = (Fs.rw f j).length := by
  induction f generalizing k j with
  | nil => rfl
  | cons n o r ih1 ih2 =>
    show (Fs.rw o (k + 1) ++ Fs.rw r k).length + 1 = (Fs.rw o (j + 1) ++ Fs.rw r j).length + 1
    rw [List.length_append, List.length_append, ih1 (k + 1) (j + 1), ih2 k j]
/-! ### flat -/
def cFlat : List D → (D → Prop) → Prop := fun ds KK => ∃ f : Fo, ds = [.tup (fd f)] ∧ (Fs.rw f 1).length ≤ 1000 ∧ KK (.tup [.tup ((Fs.rw f 1).map nm1), .tup ((Fs.rw f 1).map dp1)])
abbrev nFlat : List Str := ["trees", "names", "depths", "waiting", "tree", "depth", "lower"]
theorem scFlat : FnScope nFlat ["trees"] (defScope t_flat) := ⟨rfl, rfl, rfl, by decide +kernel, rfl, by decide +kernel, by decide +kernel⟩
section
variable {P : Program} {w : World} {K : PySem.W.Frag} {mg : Str → Option Value} {base : Heap} {C : Addr} {G : Gc}
def gOne : D → D := fun d => .tup [d, .int 1]
theorem g_one (f : Fo) : ((fd f).reverse).map gOne = ((it f 1).map stD).reverse := by
  rw [fd_it f 1, List.map_reverse, List.map_map]
  congr 1
  refine List.map_congr_left fun x hx => ?_
  have : ∀ (g : Fo) (k : Int), ∀ y ∈ it g k, y.1 = k := fun g => by
    induction g with
    | nil => intro k y h; simp [it] at h
    | cons n o r _ ih =>
      intro k y h
      rcases List.mem_cons.mp h with rfl | h
      · rfl
      · exact ih k y h
  show D.tup [trD x, .int 1] = .tup [trD x, .int x.1]
  rw [this f 1 x hx]
theorem it_fst : ∀ (g : Fo) (k : Int), ∀ y ∈ it g k, y.1 = k := fun g => by
  induction g with
  | nil => intro k y h; simp [it] at h
  | cons n o r _ ih =>
    intro k y h
    rcases List.mem_cons.mp h with rfl | h
    · rfl
    · exact ih k y h
theorem two_ok {x y : Str} {p : Str → Prop} (hx : p x) (hy : p y) : ∀ z ∈ [x, y], p z := fun z hz => by
  rcases List.mem_cons.mp hz with rfl | hz
  · exact hx
  · rw [List.mem_singleton.mp hz]; exact hy
theorem three_ok {x y z : Str} {p : Str → Prop} (hx : p x) (hy : p y) (hz : p z) : ∀ u ∈ [x, y, z], p u := fun u hu => by
  rcases List.mem_cons.mp hu with rfl | hu
  · exact hx
  · exact two_ok hy hz u hu
theorem ok_flat {f : Addr} {fdt : FuncData} (F : Fun K "flat" "flat" t_flat f fdt) (hG : G.K = K) (zt : mg "tuple" = none) : FnOk P w K mg base CX0 1 f fdt ["trees"] (spP G cFlat) := by
  refine def_p F scFlat (fun ds Kd h => ?_) (fun cdv A outer s H E ds Kd hr h => ?_)
  · obtain ⟨f, rfl, _⟩ := h
    rfl
  · obtain ⟨fo0, rfl, hl, kk⟩ := h
    have hN := scFlat.nd
    have hil := it_len fo0 1
    refine wb_cons <| ws_own hN <| wl_lst <| wa_nil ⟨by decide, _, _, (.tl .hd), ?_⟩
    refine wb_cons <| ws_own hN <| wl_lst <| wa_nil ⟨by decide, _, _, (.tl (.tl .hd)), ?_⟩
    refine wb_cons <| ws_map (own := [("tree", 4)]) gOne hG rfl hN rfl (blkOk_by (show blkC nFlat (defScope t_flat) _ _ = true by decide +kernel)) (fun _ _ _ _ _ => tgOk_name hN)
      (wi_tup hG <| we_rev hG <| we_name .hd ⟨_, rfl, _, rfl, _, .cons (.tl (.tl (.tl (.tl .hd)))) .nil, ?_, fun d hd => ?_, ?_⟩) ⟨3, rfl⟩ (by rfl)
    · rw [List.length_reverse, fd_it fo0 1, List.length_map]
      omega
    · exact ⟨_, _, .name, rfl, .cons (.tl (.tl (.tl (.tl .hd)))) .nil, fun _ _ _ _ _ => we_tup <| wa_cons <| we_name (.tl (.tl (.tl (.tl .hd)))) <| wa_cons <| we_int <| wa_nil ⟨by show 2 ≤ 100000; decide, rfl, .cons (.tl (.tl (.tl (.tl .hd)))) .nil⟩⟩
    rw [g_one]
    refine ⟨_, _, (.tl (.tl (.tl .hd))), ?_⟩
    refine wb_cons <| ws_while (fun n Γ2 => ∃ (done : List Fs.Row) (st : List Fs.It) (t4 t5 t6 : Sl), Γ2 = ([("trees", .val (.tup (fd fo0))), ("names", .own (.lst (done.map nm1))), ("depths", .own (.lst (done.map dp1))), ("waiting", .own (.lst ((st.map stD).reverse))), ("tree", t4), ("depth", t5), ("lower", t6)] : En) ∧
      done ++ fl st = Fs.rw fo0 1 ∧ n = (fl st).length) _ PassesOwn.never ⟨[], it fo0 1, .un, .un, .un, rfl, by rw [fl_it] <;> rfl, rfl⟩ fun n Γ2 hpv => ?_
    obtain ⟨done, st, t4, t5, t6, rfl, hw, hn⟩ := hpv
    refine wt_own (.tl (.tl (.tl .hd))) .own ⟨fun hb => ?_, fun hb => ?_⟩
    · cases st with
      | nil => exact absurd hb (by decide)
      | cons x st =>
        obtain ⟨k, nn, o⟩ := x
        have hlen : done.length + ((Fs.rw o (k + 1)).length + (fl st).length) + 1 ≤ 1000 := by
          have e := congrArg List.length hw
          rw [List.length_append] at e
          have : (fl ((k, nn, o) :: st)).length = ((Fs.rw o (k + 1)).length + (fl st).length) + 1 := by
            show ((nn, k) :: (Fs.rw o (k + 1) ++ fl st)).length = _
            rw [List.length_cons, List.length_append]
          omega
        have hst : st.length ≤ (fl st).length := by
          clear hw hn hlen hb
          induction st with
          | nil => exact Nat.le_refl _
          | cons y t ih =>
            show t.length + 1 ≤ (Fs.rw y.2.2 (y.1 + 1) ++ fl t).length + 1
            rw [List.length_append]
            omega
        have hol := it_len o (k + 1)
        have erev : (((k, nn, o) :: st).map stD).reverse = ((st.map stD).reverse) ++ [stD (k, nn, o)] := by rw [List.map_cons, List.reverse_cons]
        rw [erev]
        refine wb_cons <| ws_tup hG rfl hN (xs := ["tree", "depth"]) (.cons (.cons .nil)) (two_ok ⟨by first | exact .inl rfl | exact .inr rfl, by first | exact .inl rfl | exact .inr rfl⟩ ⟨by first | exact .inl rfl | exact .inr rfl, by first | exact .inl rfl | exact .inr rfl⟩) <| we_popEnd hN (.tl (.tl (.tl .hd))) .own ⟨[trD (k, nn, o), .int k], _, rfl, rfl, .cons (.tl (.tl (.tl (.tl .hd)))) (.cons (.tl (.tl (.tl (.tl (.tl .hd))))) .nil), ?_⟩
        refine wb_cons <| ws_expr <| we_append hN (.tl .hd) .own <| wa_cons <| we_ix hG <| we_name (.tl (.tl (.tl (.tl .hd)))) <| we_int ⟨_, 0, _, .inr rfl, rfl, rfl, wa_nil ⟨_, _, _, _, _, rfl, (.tl .hd), .own, by rw [List.length_map]; omega, ?_⟩⟩
        refine wb_cons <| ws_expr <| we_append hN (.tl (.tl .hd)) .own <| wa_cons <| we_name (.tl (.tl (.tl (.tl (.tl .hd))))) <| wa_nil ⟨_, _, _, _, _, rfl, (.tl (.tl .hd)), .own, by rw [List.length_map]; omega, ?_⟩
        refine wb_one <| ws_for ["lower"] hG rfl PassesOwn.never (tgOk_name hN) <| wi_tup hG <| we_rev hG <| we_ix hG <| we_name (.tl (.tl (.tl (.tl .hd)))) <| we_int ⟨_, 1, .tup (fd o), .inr rfl, rfl, rfl, _, rfl, _, rfl, ?_⟩
        have eo : (fd o).reverse = ((it o (k + 1)).reverse).map trD := by rw [fd_it o (k + 1), List.map_reverse]
        rw [eo]
        refine ⟨fun i Γ2 => ∃ t6 : Sl, Γ2 = ([("trees", .val (.tup (fd fo0))), ("names", .own (.lst ((done ++ [(nn, k)]).map nm1))), ("depths", .own (.lst ((done ++ [(nn, k)]).map dp1))), ("waiting", .own (.lst ((st.map stD).reverse ++ (((it o (k + 1)).reverse).take i).map stD))), ("tree", .val (trD (k, nn, o))), ("depth", .val (.int k)), ("lower", t6)] : En),
          ⟨t6, ?_⟩, fun i z Γ2 hz hpv => ?_, fun Γ2 hpv => ?_⟩
        · rw [List.map_append, List.map_append, List.take_zero, List.map_nil, List.append_nil] <;> rfl
        · obtain ⟨t6, rfl⟩ := hpv
          rw [List.getElem?_map] at hz
          obtain ⟨y, hy, rfl⟩ := Option.map_eq_some_iff.mp hz
          refine ⟨_, _, .name, rfl, .cons (.tl (.tl (.tl (.tl (.tl (.tl .hd)))))) .nil, ?_⟩
          have ey : y.1 = k + 1 := it_fst o (k + 1) y (List.mem_reverse.mp (List.mem_of_getElem? hy))
          have hi : i < ((it o (k + 1)).reverse).length := (List.getElem?_eq_some_iff.mp hy).1
          rw [List.length_reverse] at hi
          refine wb_one <| ws_expr <| we_append hN (.tl (.tl (.tl .hd))) .own <| wa_cons <| we_tup <| wa_cons <| we_name (.tl (.tl (.tl (.tl (.tl (.tl .hd)))))) <| wa_cons <| we_bin <| we_name (.tl (.tl (.tl (.tl (.tl .hd))))) <| we_int <| bo_add <| wa_nil ⟨by show 2 ≤ 100000; decide, wa_nil ⟨_, _, _, _, _, rfl, (.tl (.tl (.tl .hd))), .own, ?_, ?_⟩⟩
          · rw [List.length_append, List.length_reverse, List.length_map, List.length_map, List.length_take, List.length_reverse]
            omega
          · refine ⟨.val (trD y), ?_⟩
            have e1 : ((it o (k + 1)).reverse).take (i + 1) = ((it o (k + 1)).reverse).take i ++ [y] := by
              rw [List.take_add_one, hy] <;> rfl
            have e2 : (st.map stD).reverse ++ (((it o (k + 1)).reverse).take (i + 1)).map stD = (st.map stD).reverse ++ (((it o (k + 1)).reverse).take i).map stD ++ [D.tup [trD y, .int (k + 1)]] := by
              rw [e1, List.map_append, ← List.append_assoc, ← ey] <;> rfl
            rw [e2] <;> rfl
        · obtain ⟨t6, rfl⟩ := hpv
          rw [List.length_map, List.take_length]
          refine ⟨(fl (it o (k + 1) ++ st)).length, ?_, done ++ [(nn, k)], it o (k + 1) ++ st, .val (trD (k, nn, o)), .val (.int k), t6, ?_, ?_, rfl⟩
          · rw [hn, fl_app, fl_it]
            show _ < ((nn, k) :: (Fs.rw o (k + 1) ++ fl st)).length
            rw [List.length_cons]
            omega
          · have e2 : (st.map stD).reverse ++ ((it o (k + 1)).reverse).map stD = ((it o (k + 1) ++ st).map stD).reverse := by
              rw [List.map_append, List.reverse_append, List.map_reverse]
            rw [e2]
          · rw [← hw, fl_app, fl_it, List.append_assoc] <;> rfl
    · cases st with
      | cons x st =>
        exfalso
        revert hb
        rw [List.map_cons, List.reverse_cons]
        generalize (List.map stD st).reverse = zs
        cases zs with
        | nil => exact fun h => by cases h
        | cons a b => exact fun h => by cases h
      | nil =>
        have hw : done ++ [] = Fs.rw fo0 1 := hw
        rw [List.append_nil] at hw
        subst hw
        refine wb_one <| ws_ret <| we_tup <| wa_cons <| we_callT (T := "tuple") (by rfl) zt <| wa_cons <| we_freeze (.tl .hd) <| wa_nil <| cd_tuple hG (.inl rfl) <| wa_cons <| we_callT (T := "tuple") (by rfl) zt <| wa_cons <| we_freeze (.tl (.tl .hd)) <| wa_nil <| cd_tuple hG (.inl rfl) <| wa_nil ⟨by show 2 ≤ 100000; decide, kk⟩
end
end Wf

set_option Elab.async false
set_option maxRecDepth 100000
set_option maxHeartbeats 4000000
namespace Wf
open PySem PySem.Spec PyProof.Rows L2 Dv TL
open Ko (mkS nameB okS)
open Fs (Fo fo it par fl fl_app)
/-! ### nested -/
def Sq (d : D) (xs : List D) : Prop := d = .lst xs ∨ d = .tup xs
def cNest : List D → (D → Prop) → Prop := fun ds KK => ∃ (a b : D) (rows : List Fs.Row), ds = [a, b] ∧ Sq a (rows.map nm1) ∧ Sq b (rows.map dp1) ∧ rows.length ≤ 1000 ∧ KK (.tup (fd (fo (par rows))))
abbrev nNest : List Str := ["names", "depths", "built", "place", "lower", "_", "tree"]
theorem scNest : FnScope nNest ["names", "depths"] (defScope t_nested) := ⟨rfl, rfl, rfl, by decide +kernel, rfl, by decide +kernel, by decide +kernel⟩
theorem at_last {α : Type} (ps : List α) (l : α) : atI (ps ++ [l]) (-1) = some l := by
  unfold atI
  have e : ixN (ps ++ [l]).length (-1) = some ps.length := by
    unfold ixN
    rw [if_neg (by decide)]
    have hl : (ps ++ [l]).length = ps.length + 1 := by simp
    rw [hl]
    split
    · congr 1
      omega
    · rename_i h
      exact absurd (show -((ps.length + 1 : Nat) : Int) ≤ -1 by omega) (by simpa using h)
  rw [e]
  show (ps ++ [l])[ps.length]? = some l
  simp
theorem atI_at {α : Type} {xs : List α} {i : Nat} {x : α} (h : xs[i]? = some x) : atI xs (i : Int) = some x := by
  have hi := (List.getElem?_eq_some_iff.mp h).1
  unfold atI
  have e : ixN xs.length (i : Int) = some i := by
    unfold ixN
    rw [if_pos (by omega), if_pos (by omega)]
    simp
  rw [e]
  exact h
def gTree : D → D
  | .tup [_, t] => t
  | d => d
theorem par_len : ∀ rows : List Fs.Row, (par rows).length ≤ rows.length
  | [] => Nat.le_refl _
  | (n, d) :: r => by
    have h := par_len r
    have h2 := (List.dropWhile_sublist (fun x : Fs.It => decide (x.1 > d)) (l := par r)).length_le
    show (List.dropWhile _ (par r)).length + 1 ≤ r.length + 1
    omega
def hdGt (k : Int) : List Fs.It → Bool
  | [] => false
  | q :: _ => decide (k < q.1)
theorem wt_mono {X : Cx} {G : Gc} {Γ : En} {e : Expr} {KT KT' : Bool → En → Prop} (h : WT X G Γ e KT) (k : ∀ b Γ', KT b Γ' → KT' b Γ') : WT X G Γ e KT' := .of fun σ F H Q E q => h σ F H Q E fun b Γ' F' H' s E' o z => q b Γ' F' H' s E' o (k b Γ' z)
section
variable {P : Program} {w : World} {K : PySem.W.Frag} {mg : Str → Option Value} {base : Heap} {C : Addr} {G : Gc}
theorem ok_nest {f : Addr} {fdt : FuncData} (F : Fun K "nested" "nested" t_nested f fdt) (hG : G.K = K) (zt : mg "tuple" = none) (zl : mg "len" = none) (zr : mg "range" = none) (zv : mg "reversed" = none) : FnOk P w K mg base CX0 1 f fdt ["names", "depths"] (spP G cNest) := by
  refine def_p F scNest (fun ds Kd h => ?_) (fun cdv A outer s H E ds Kd hr h => ?_)
  · obtain ⟨a, b, _, rfl, _⟩ := h
    rfl
  · obtain ⟨a, b0, rows, rfl, ha, hb, hl, kk⟩ := h
    have hN := scNest.nd
    refine wb_cons <| ws_own hN <| wl_lst <| wa_nil ⟨by decide, _, _, (.tl (.tl .hd)), ?_⟩
    refine wb_cons <| ws_for ["place"] hG rfl PassesOwn.never (tgOk_name hN) <| wi_revRange zr zv <| we_callB (id := "len") (by rfl) zl <| wa_cons <| we_name .hd <| wa_nil <| cd_len hG ha ⟨(rows.length : Nat), by rw [List.length_map], by omega, by omega, ?_⟩
    have en : ((rows.length : Nat) : Int).toNat = rows.length := by omega
    rw [en]
    have hz : ∀ i z, (((List.range rows.length).map fun i => D.int (i : Nat)).reverse)[i]? = some z → i < rows.length ∧ z = .int ((rows.length - 1 - i : Nat) : Int) := fun i z h => by
      have hi := (List.getElem?_eq_some_iff.mp h).1
      rw [List.length_reverse, List.length_map, List.length_range] at hi
      rw [List.getElem?_reverse (by rw [List.length_map, List.length_range]; exact hi), List.length_map, List.length_range, List.getElem?_map, List.getElem?_range (by omega)] at h
      exact ⟨hi, (Option.some.inj h).symm⟩
    refine ⟨fun i Γ2 => ∃ t3 t4 : Sl, Γ2 = ([("names", .val a), ("depths", .val b0), ("built", .own (.lst (((par (rows.drop (rows.length - i))).map itD).reverse))), ("place", t3), ("lower", t4), ("_", .un), ("tree", .un)] : En), ⟨.un, .un, ?_⟩, fun i z Γ2 hz0 hpv => ?_, fun Γ2 hpv => ?_⟩
    · rw [Nat.sub_zero, List.drop_length] <;> rfl
    · obtain ⟨t3, t4, rfl⟩ := hpv
      obtain ⟨hi, rfl⟩ := hz i z hz0
      refine ⟨_, _, .name, rfl, .cons (.tl (.tl (.tl .hd))) .nil, ?_⟩
      obtain ⟨p, hp⟩ : ∃ p, p = rows.length - 1 - i := ⟨_, rfl⟩
      rw [← hp]
      have ep : rows.length - i = p + 1 := by omega
      have ep2 : rows.length - (i + 1) = p := by omega
      have hpl : p < rows.length := by omega
      obtain ⟨x, hx⟩ : ∃ x, rows[p]? = some x := ⟨_, List.getElem?_eq_getElem hpl⟩
      obtain ⟨nn, k⟩ := x
      have hdrop : rows.drop p = (nn, k) :: rows.drop (p + 1) := by
        have := List.drop_eq_getElem_cons hpl
        rw [this]
        congr 1
        rw [List.getElem?_eq_getElem hpl] at hx
        exact Option.some.inj hx
      rw [ep]
      have hQ : (par (rows.drop (p + 1))).length ≤ 1000 := by
        have := par_len (rows.drop (p + 1))
        rw [List.length_drop] at this
        omega
      have hpar : par ((nn, k) :: rows.drop (p + 1)) = (k, nn, fo ((par (rows.drop (p + 1))).takeWhile fun x => decide (x.1 > k))) :: (par (rows.drop (p + 1))).dropWhile fun x => decide (x.1 > k) := rfl
      obtain ⟨Q, hQe⟩ : ∃ Q, Q = par (rows.drop (p + 1)) := ⟨_, rfl⟩
      rw [← hQe] at hQ hpar
      rw [← hQe]
      have hdk : atI (rows.map dp1) (p : Int) = some (.int k) := atI_at (by rw [List.getElem?_map, hx] <;> rfl)
      have hnk : atI (rows.map nm1) (p : Int) = some (.str (mkS nn)) := atI_at (by rw [List.getElem?_map, hx] <;> rfl)
      refine wb_cons <| ws_own hN <| wl_lst <| wa_nil ⟨by decide, _, _, (.tl (.tl (.tl (.tl .hd)))), ?_⟩
      refine wb_cons <| ws_while (fun n Γ2 => ∃ (ps qs : List Fs.It), Γ2 = ([("names", .val a), ("depths", .val b0), ("built", .own (.lst ((qs.map itD).reverse))), ("place", .val (.int (p : Int))), ("lower", .own (.lst (ps.map trD))), ("_", .un), ("tree", .un)] : En) ∧
        ps ++ qs.takeWhile (fun x => decide (x.1 > k)) = Q.takeWhile (fun x => decide (x.1 > k)) ∧ qs.dropWhile (fun x => decide (x.1 > k)) = Q.dropWhile (fun x => decide (x.1 > k)) ∧ ps.length + qs.length ≤ 1000 ∧ n = qs.length) _ PassesOwn.never ⟨[], Q, rfl, rfl, rfl, by show 0 + Q.length ≤ 1000; omega, rfl⟩ fun n Γ2 hpv => ?_
      obtain ⟨ps, qs, rfl, h1, h2, h3, hn⟩ := hpv
      refine wt_mono (KT := fun b Γ' => b = hdGt k qs ∧ Γ' = ([("names", .val a), ("depths", .val b0), ("built", .own (.lst ((qs.map itD).reverse))), ("place", .val (.int (p : Int))), ("lower", .own (.lst (ps.map trD))), ("_", .un), ("tree", .un)] : En)) ?_ fun b Γ' he => ?_
      · cases qs with
        | nil => exact wt_w <| ww_and <| wt_own (.tl (.tl .hd)) .own ⟨fun h => absurd h (by decide), fun _ => ⟨rfl, rfl⟩⟩
        | cons q qs =>
          have erev : ((q :: qs).map itD).reverse = (qs.map itD).reverse ++ [itD q] := by rw [List.map_cons, List.reverse_cons]
          refine wt_w <| ww_and <| wt_own (.tl (.tl .hd)) .own ⟨fun _ => ?_, fun h => ?_⟩
          · rw [erev]
            exact ww_and1 <| wt_cmp <| we_ix hG <| we_ixOwn hN (.tl (.tl .hd)) .own <| we_neg <| we_int ⟨1, rfl, _, _, -1, _, (.tl (.tl .hd)), .own, rfl, at_last _ _, we_int ⟨_, 0, .int q.1, .inr rfl, rfl, rfl, we_ix hG <| we_name (.tl .hd) <| we_name (.tl (.tl (.tl .hd))) ⟨_, _, _, hb, rfl, hdk, bo_gt ⟨_, rfl, rfl, rfl⟩⟩⟩⟩
          · exfalso
            revert h
            rw [erev]
            generalize (List.map itD qs).reverse = zs
            cases zs with
            | nil => exact fun h => by cases h
            | cons a b => exact fun h => by cases h
      obtain ⟨rfl, rfl⟩ := he
      refine ⟨fun hc => ?_, fun hc => ?_⟩
      · cases qs with
        | nil => cases hc
        | cons q qs =>
          have erev : ((q :: qs).map itD).reverse = (qs.map itD).reverse ++ [itD q] := by rw [List.map_cons, List.reverse_cons]
          rw [erev]
          have hc : q.1 > k := of_decide_eq_true hc
          rw [List.takeWhile_cons_of_pos (by simpa using hc)] at h1
          rw [List.dropWhile_cons_of_pos (by simpa using hc)] at h2
          refine wb_one <| ws_expr <| we_append hN (.tl (.tl (.tl (.tl .hd)))) .own <| wa_cons <| we_ix hG <| we_popEnd hN (.tl (.tl .hd)) .own <| we_int ⟨_, 1, trD q, .inr rfl, rfl, rfl, wa_nil ⟨_, _, _, _, _, rfl, (.tl (.tl (.tl (.tl .hd)))), .own, ?_, ?_⟩⟩
          · rw [List.length_map]
            simp only [List.length_cons] at h3
            omega
          refine ⟨qs.length, by rw [hn]; exact Nat.lt_succ_self _, ps ++ [q], qs, ?_, ?_, h2, ?_, rfl⟩
          · rw [List.map_append] <;> rfl
          · rw [← h1]
            simp
          · simp only [List.length_append, List.length_cons, List.length_nil] at h3 ⊢
            omega
      · have e1 : qs.takeWhile (fun x => decide (x.1 > k)) = [] := by
          cases qs with
          | nil => rfl
          | cons q qs =>
            have hc : ¬ q.1 > k := of_decide_eq_false hc
            rw [List.takeWhile_cons_of_neg (by simpa using hc)]
        have e2 : qs.dropWhile (fun x => decide (x.1 > k)) = qs := by
          cases qs with
          | nil => rfl
          | cons q qs =>
            have hc : ¬ q.1 > k := of_decide_eq_false hc
            rw [List.dropWhile_cons_of_neg (by simpa using hc)]
        rw [e1, List.append_nil] at h1
        rw [e2] at h2
        refine wb_one <| ws_expr <| we_append hN (.tl (.tl .hd)) .own <| wa_cons <| we_tup <| wa_cons <| we_ix hG <| we_name (.tl .hd) <| we_name (.tl (.tl (.tl .hd))) ⟨_, _, _, hb, rfl, hdk, wa_cons <| we_tup <| wa_cons <| we_ix hG <| we_name .hd <| we_name (.tl (.tl (.tl .hd))) ⟨_, _, _, ha, rfl, hnk, wa_cons <| we_callT (T := "tuple") (by rfl) zt <| wa_cons <| we_freeze (.tl (.tl (.tl (.tl .hd)))) <| wa_nil <| cd_tuple hG (.inl rfl) <| wa_nil ⟨by show 2 ≤ 100000; decide, wa_nil ⟨by show 2 ≤ 100000; decide, wa_nil ⟨_, _, _, _, _, rfl, (.tl (.tl .hd)), .own, ?_, ?_⟩⟩⟩⟩⟩
        · rw [List.length_reverse, List.length_map]
          omega
        · refine ⟨.val (.int (p : Int)), .val (.lst (ps.map trD)), ?_⟩
          rw [ep2, hdrop, hpar, ← h2, ← h1, List.map_cons, List.reverse_cons]
          have ef : itD (k, nn, fo ps) = .tup [.int k, .tup [.str (mkS nn), .tup (ps.map trD)]] := by
            unfold itD trD
            rw [fd_fo] <;> rfl
          rw [ef] <;> rfl
    · obtain ⟨t3, t4, rfl⟩ := hpv
      rw [List.length_reverse, List.length_map, List.length_range, Nat.sub_self, List.drop_zero]
      have hQ := par_len rows
      refine wb_one <| ws_ret <| we_callT (T := "tuple") (by rfl) zt <| wa_cons <| we_new <| wl_map (own := [("_", 5), ("tree", 6)]) gTree hG rfl hN (blkOk_by (show blkC nNest (defScope t_nested) _ _ = true by decide +kernel)) (fun _ _ _ _ _ => tgOk_two hN rfl (h2 := fun i j hi hj => pg_tup rfl (pgs_cons (pg_name hN hi (Or.inl rfl)) (pgs_cons (pg_name hN hj (Or.inl rfl)) pgs_nil)))) (wi_seq hG <| we_new <| wl_rev hG <| we_freeze (.tl (.tl .hd)) ⟨_, rfl, _, rfl, _, .cons (.tl (.tl (.tl (.tl (.tl .hd))))) (.cons (.tl (.tl (.tl (.tl (.tl (.tl .hd)))))) .nil), ?_, fun d hd => ?_, ?_⟩)
      · rw [List.length_reverse, List.length_reverse, List.length_map]
        omega
      · rw [List.reverse_reverse] at hd
        obtain ⟨q, _, rfl⟩ := List.mem_map.mp hd
        exact ⟨_, _, .two, rfl, .cons (.tl (.tl (.tl (.tl (.tl .hd))))) (.cons (.tl (.tl (.tl (.tl (.tl (.tl .hd)))))) .nil), fun _ _ _ _ _ => we_name (.tl (.tl (.tl (.tl (.tl (.tl .hd)))))) ⟨rfl, .cons (.tl (.tl (.tl (.tl (.tl .hd))))) (.cons (.tl (.tl (.tl (.tl (.tl (.tl .hd)))))) .nil)⟩⟩
      · rw [List.reverse_reverse, List.map_map]
        refine wa_nil <| cd_tuple hG (.inl rfl) ?_
        rw [fd_fo] at kk
        exact kk
end
end Wf

set_option Elab.async false
set_option maxRecDepth 100000
set_option maxHeartbeats 4000000
namespace Dv
open PySem PySem.Spec PyProof.Rows L2
open Evl (Ex ex_l ex_t)
section
variable {X : Cx} {G : Gc} {Γ : En} {tg a b : Expr} {p pos : Pos} {K : List D → En → Prop}
/-- range(i, j) -/
theorem wi_range2 (hm : X.mg "range" = none) (h : WA X G Γ [a, b] fun ds Γ1 => ∃ i j : Int, ds = [.int i, .int j] ∧ -(2 ^ 62) ≤ i ∧ i < 2 ^ 62 ∧ -(2 ^ 62) ≤ j ∧ j < 2 ^ 62 ∧ K ((List.range (j - i).toNat).map fun k => .int (i + (k : Nat))) Γ1) (hg : Gl X "range" := by rfl)
    (hs : starEach [a, b] X.env = [(false, eval a X.env), (false, eval b X.env)] := by rfl) (hs2 : starEach [b] X.env = [(false, eval b X.env)] := by rfl) :
    WI X G Γ tg (.Call (.Name "range" p) [a, b] [] pos) K := .of fun σ F H R E q => by
  refine PI.si (pi_range2 hg hm pa_S hs hs2) ?_
  refine h σ F H _ E fun ds Γ1 vs F1 H1 s1 E1 o1 r1 k1 => ?_
  obtain ⟨i, j, rfl, h1, h2, h3, h4, k⟩ := k1
  obtain ⟨u, t, rfl, ru, rt⟩ := reps_cons_inv r1
  obtain ⟨v, t, rfl, rv, rt⟩ := reps_cons_inv rt
  rw [reps_nil_inv rt, rep_int ru, rep_int rv]
  refine ⟨i, j, rfl, ⟨h1, h2, h3, h4⟩, q _ Γ1 _ F1 H1 s1 E1 o1 ⟨fun m H hi _ => (by show m < (j - i).toNat; simpa using hi), fun H _ => (by show (j - i).toNat ≤ _; simp), fun m F H x H' e1 e2 hi y => ?_⟩ k⟩
  obtain ⟨rfl, rfl⟩ := y
  refine ⟨.int (i + (m : Nat)), F, ?_, .refl e2, r_int⟩
  have hi' : m < (j - i).toNat := by simpa using hi
  rw [List.getElem?_map, List.getElem?_range hi'] <;> rfl
end
end Dv

set_option Elab.async false
set_option maxRecDepth 100000
set_option maxHeartbeats 4000000
namespace Wf
open PySem PySem.Spec PyProof.Rows L2 Dv TL
open Ko (mkS nameB okS)
open Fs (Fo jt wr wg)
/-! ### is_name -/
def cName : List D → (D → Prop) → Prop := fun ds KK => ∃ x : Str, ds = [.str x] ∧ x.length ≤ 100000 ∧ KK (.bl (nameB x))
abbrev nName : List Str := ["thing", "letter"]
theorem scName : FnScope nName ["thing"] (defScope t_is_name) := ⟨rfl, rfl, rfl, by decide +kernel, rfl, by decide +kernel, by decide +kernel⟩
structure Gs (mg : Str → Option Value) : Prop where
  lt : ∃ t, mg "LETTERS" = some (.str "abcdefghijklmnopqrstuvwxyz" t)
  ml : ∃ t, mg "MOST_LETTERS" = some (.int 8 t)
def gLow : D → D
  | .str t => .bl ((tl t).all Ko.low)
  | _ => .bl false
theorem signs_tl (s : Str) : signs s = (tl s).map fun c => (⟨#[c]⟩ : Str) := rfl
theorem low_map (l : List Nat) : ((l.map fun c => (⟨#[c]⟩ : Str)).map D.str).map gLow = (l.map Ko.low).map D.bl := by
  rw [List.map_map, List.map_map, List.map_map]
  refine List.map_congr_left fun c _ => ?_
  show D.bl ((tl ⟨#[c]⟩).all Ko.low) = D.bl (Ko.low c)
  have e : tl ⟨#[c]⟩ = [c] := rfl
  rw [e]
  simp
theorem all_low (l : List Nat) : (l.map Ko.low).all _root_.id = l.all Ko.low := by
  induction l with
  | nil => rfl
  | cons c r ih => rw [List.map_cons, List.all_cons, List.all_cons, ih] <;> rfl
section
variable {P : Program} {w : World} {K : PySem.W.Frag} {mg : Str → Option Value} {base : Heap} {C : Addr} {G : Gc}
theorem ok_name {f : Addr} {fd : FuncData} (F : Fun K "is_name" "is_name" t_is_name f fd) (hG : G.K = K) (Z : Zs mg) (S : Gs mg) : FnOk P w K mg base CX0 1 f fd ["thing"] (spP G cName) := by
  refine def_p F scName (fun ds Kd h => ?_) (fun cdv A outer s H E ds Kd hr h => ?_)
  · obtain ⟨x, rfl, _⟩ := h
    rfl
  · obtain ⟨x, rfl, hl, kk⟩ := h
    have hN := scName.nd
    obtain ⟨tL, mL⟩ := S.lt
    obtain ⟨tM, mM⟩ := S.ml
    have fin : nameB x = (decide (1 ≤ x.length) && decide (x.length ≤ 8) && (tl x).all Ko.low) := rfl
    refine wb_cons <| ws_if <| wt_w <| ww_or <| wt_not <| wt_val <| we_callB (id := "isinstance") (by rfl) Z.isi <| wa_cons <| we_name .hd <| wa_cons <| we_ty (n := "str") (by rfl) Z.str <| wa_nil <|
      cd_isi hG rfl rfl (ki (r := true)) ⟨_, rfl, fun h => absurd h (by decide), fun _ => ?_⟩
    refine ww_or1 <| wt_not <| wt_chain <| we_int <| we_callB (id := "len") (by rfl) Z.len <| wa_cons <| we_name .hd <| wa_nil <| cd_lenS (Nat.le_trans hl (by decide)) <| bo_le ⟨_, rfl, fun h1 => ?_, fun h1 => ⟨fun _ => ?_, fun h => absurd h (by decide)⟩⟩
    · have h1 := of_decide_eq_true h1
      refine we_gI mM <| bo_le ⟨_, rfl, fun h2 => ?_, fun h2 => ?_⟩
      · have h2 : ¬ (x.length : Int) ≤ 8 := by
          intro z
          rw [decide_eq_true z] at h2
          exact absurd h2 (by decide)
        have e : nameB x = false := by
          rw [fin, decide_eq_false (show ¬ x.length ≤ 8 by omega)]
          simp
        rw [e] at kk
        exact wb_one <| ws_ret <| we_bl kk
      · have h2 : (x.length : Int) ≤ 8 := by
          by_cases z : (x.length : Int) ≤ 8
          · exact z
          · rw [decide_eq_false z] at h2
            exact absurd h2 (by decide)
        refine wb_nil <| wb_one <| ws_ret <| we_callB (id := "all") (by rfl) Z.all <| wa_cons <| we_new <| wl_map (own := [("letter", 1)]) gLow hG rfl hN (blkOk_by (show blkC nName (defScope t_is_name) _ _ = true by decide +kernel)) (fun _ _ _ _ _ => tgOk_name hN) <|
          wi_str <| we_name .hd ⟨_, rfl, _, .cons (.tl .hd) .nil, ?_, fun d hd => ?_, ?_⟩
        · rw [List.length_map, signs_length]
          exact hl
        · obtain ⟨t, ht, rfl⟩ := List.mem_map.mp hd
          rw [signs_tl] at ht
          obtain ⟨c, hc, rfl⟩ := List.mem_map.mp ht
          refine ⟨_, _, .name, rfl, .cons (.tl .hd) .nil, fun _ _ _ _ _ => ?_⟩
          refine we_cmp (we_name (.tl .hd) <| we_gS mL <| bo_inC ⟨?_, .cons (.tl .hd) .nil⟩)
          show D.bl (decide (c ∈ Ko.lets)) = D.bl ((tl ⟨#[c]⟩).all Ko.low)
          have e : tl ⟨#[c]⟩ = [c] := rfl
          rw [e]
          simp [Ko.low]
        · rw [signs_tl, low_map]
          refine wa_nil <| cd_all hG rfl ?_
          rw [all_low]
          have e : nameB x = (tl x).all Ko.low := by
            rw [fin, decide_eq_true (show 1 ≤ x.length by omega), decide_eq_true (show x.length ≤ 8 by omega)] <;> rfl
          rw [e] at kk
          exact kk
    · have h1 : ¬ (1 : Int) ≤ x.length := of_decide_eq_false h1
      have e : nameB x = false := by
        rw [fin, decide_eq_false (show ¬ 1 ≤ x.length by omega)] <;> rfl
      rw [e] at kk
      exact wb_one <| ws_ret <| we_bl kk

/-! ### joint, written -/
def cJoin : List D → (D → Prop) → Prop := fun ds KK => ∃ a b : Int, ds = [.int a, .int b] ∧ -100000 ≤ a ∧ a ≤ 100000 ∧ -100000 ≤ b ∧ b ≤ 100000 ∧ KK (.str (mkS (jt a b)))
abbrev nJoin : List Str := ["before", "now"]
theorem scJoin : FnScope nJoin ["before", "now"] (defScope t_joint) := ⟨rfl, rfl, rfl, by decide +kernel, rfl, by decide +kernel, by decide +kernel⟩
theorem mul_okR (n : Int) (h0 : -1000000 ≤ n) (h1 : n ≤ 1000000) : MulOk ")" n := mulOk_of 1 1000000 (by decide +kernel) h1 (by omega) (by decide) (by decide)
theorem size_eq : sizeLine = 16777216 := by decide
theorem ok_join {f : Addr} {fdt : FuncData} (F : Fun K "joint" "joint" t_joint f fdt) (hG : G.K = K) : FnOk P w K mg base CX0 1 f fdt ["before", "now"] (spP G cJoin) := by
  refine def_p F scJoin (fun ds Kd h => ?_) (fun cdv A outer s H E ds Kd hr h => ?_)
  · obtain ⟨a, b, rfl, _⟩ := h
    rfl
  · obtain ⟨a, b, rfl, a0, a1, b0, b1, kk⟩ := h
    have hN := scJoin.nd
    refine wb_cons <| ws_if <| wt_cmp <| we_name (.tl .hd) <| we_name .hd <| bo_gt ⟨_, rfl, fun hc => ?_, fun hc => wb_nil ?_⟩
    · have hc : a < b := of_decide_eq_true hc
      have e : jt a b = [40] := by
        unfold jt
        rw [if_pos hc]
      rw [e, ← lp_mk] at kk
      exact wb_one <| ws_ret <| we_str kk
    · have hc : ¬ a < b := of_decide_eq_false hc
      have e : jt a b = List.replicate (a - b).toNat 41 ++ [32] := by
        unfold jt
        rw [if_neg hc]
      rw [e, ← mk_app, ← mul_rp, ← sp_mk] at kk
      refine wb_one <| ws_ret <| we_bin <| we_bin <| we_str <| we_bin <| we_name .hd <| we_name (.tl .hd) <| bo_sub <| bo_mulS (mul_okR _ (by omega) (by omega)) <| we_str <| bo_addS ?_ kk
      rw [mul_rp, len_mk, List.length_replicate, show (" " : Str).length = 1 by decide +kernel, size_eq]
      omega
def cWrit : List D → (D → Prop) → Prop := fun ds KK => ∃ (a b : D) (rows : List Fs.Row), ds = [a, b] ∧ Sq a (rows.map nm1) ∧ Sq b (rows.map dp1) ∧ Fit 1000 rows ∧ KK (.str (mkS (wr rows)))
abbrev nWrit : List Str := ["names", "depths", "parts", "place"]
theorem scWrit : FnScope nWrit ["names", "depths"] (defScope t_written) := ⟨rfl, rfl, rfl, by decide +kernel, rfl, by decide +kernel, by decide +kernel⟩
theorem ok_writ {f : Addr} {fdt : FuncData} (F : Fun K "written" "written" t_written f fdt) (hG : G.K = K) (zl : mg "len" = none) (zr : mg "range" = none) (J : FnC P w K mg base "joint" 1 ["before", "now"] (spP G cJoin)) : FnOk P w K mg base CX0 2 f fdt ["names", "depths"] (spP G cWrit) := by
  refine def_p F scWrit (fun ds Kd h => ?_) (fun cdv A outer s H E ds Kd hr h => ?_)
  · obtain ⟨a, b, _, rfl, _⟩ := h
    rfl
  · obtain ⟨a, b, rows, rfl, ha, hb, ⟨hl, hf⟩, kk⟩ := h
    have hN := scWrit.nd
    refine wb_cons <| ws_if <| wt_cmp <| we_callB (id := "len") (by rfl) zl <| wa_cons <| we_name .hd <| wa_nil <| cd_len hG ha <| we_int <| bo_eq rfl rfl rfl ⟨_, rfl, fun hc => ?_, fun hc => wb_nil ?_⟩
    · have hc := V.int.inj (of_decide_eq_true hc)
      rw [List.length_map] at hc
      have e : rows = [] := List.eq_nil_of_length_eq_zero (by omega)
      subst e
      exact wb_one <| ws_ret <| we_str (by rw [mn_mk]; exact kk)
    cases rows with
    | nil => exact absurd (of_decide_eq_false hc) (fun h => h rfl)
    | cons x r =>
      obtain ⟨n0, d0⟩ := x
      have hx0 := hf (n0, d0) List.mem_cons_self
      have hfr : ∀ x ∈ r, x.1.length ≤ 1000 ∧ -(1000 : Int) ≤ x.2 ∧ x.2 ≤ 1000 := fun x hx => hf x (List.mem_cons_of_mem _ hx)
      rw [List.length_cons] at hl
      have hgn : ∀ (i : Nat) (h : i < r.length), atI (((n0, d0) :: r).map nm1) (1 + (i : Int)) = some (.str (mkS (r[i]).1)) := fun i h => by
        rw [show (1 : Int) + (i : Int) = ((i + 1 : Nat) : Int) by omega]
        refine atI_at ?_
        rw [List.getElem?_map, List.getElem?_cons_succ, List.getElem?_eq_getElem h] <;> rfl
      have hgd : ∀ (i : Nat) (h : i < r.length), atI (((n0, d0) :: r).map dp1) (1 + (i : Int)) = some (.int (r[i]).2) := fun i h => by
        rw [show (1 : Int) + (i : Int) = ((i + 1 : Nat) : Int) by omega]
        refine atI_at ?_
        rw [List.getElem?_map, List.getElem?_cons_succ, List.getElem?_eq_getElem h] <;> rfl
      have hpd : ∀ (i : Nat) (h : i < r.length), ∃ d, atI (((n0, d0) :: r).map dp1) (1 + (i : Int) - 1) = some (.int d) ∧ d = (((n0, d0) :: r)[i]?.getD ([], 0)).2 ∧ -1000 ≤ d ∧ d ≤ 1000 := fun i h => by
        rw [show (1 : Int) + (i : Int) - 1 = ((i : Nat) : Int) by omega]
        have h2 : i < ((n0, d0) :: r).length := by rw [List.length_cons]; omega
        have hm := hf _ (List.getElem_mem h2)
        refine ⟨(((n0, d0) :: r)[i]).2, atI_at ?_, ?_, hm.2.1, hm.2.2⟩
        · rw [List.getElem?_map, List.getElem?_eq_getElem h2] <;> rfl
        · rw [List.getElem?_eq_getElem h2] <;> rfl
      refine wb_cons <| ws_own hN <| wl_lst <| wa_cons <| we_ix hG <| we_name .hd <| we_int ⟨_, 0, .str (mkS n0), ha, rfl, atI_at (i := 0) rfl, wa_nil ⟨by show 1 ≤ 100000; decide, _, _, (.tl (.tl .hd)), ?_⟩⟩
      refine wb_cons <| ws_for ["place"] hG rfl PassesOwn.never (tgOk_name hN) <| wi_range2 zr <| wa_cons <| we_int <| wa_cons <| we_callB (id := "len") (by rfl) zl <| wa_cons <| we_name .hd <| wa_nil <| cd_len hG ha <| wa_nil ⟨1, ((r.length + 1 : Nat) : Int), by rw [List.length_map, List.length_cons], by decide, by decide, by omega, by omega, ?_⟩
      rw [show (((r.length + 1 : Nat) : Int) - 1).toNat = r.length by omega]
      refine ⟨fun i Γ2 => ∃ t3 : Sl, Γ2 = ([("names", .val a), ("depths", .val b), ("parts", .own (.lst (((n0 :: (pt d0 r).take i).map mkS).map D.str))), ("place", t3)] : En), ⟨.un, rfl⟩, fun i z Γ2 hz hpv => ?_, fun Γ2 hpv => ?_⟩
      · obtain ⟨t3, rfl⟩ := hpv
        have hi := (List.getElem?_eq_some_iff.mp hz).1
        rw [List.length_map, List.length_range] at hi
        rw [List.getElem?_map, List.getElem?_range hi] at hz
        obtain rfl := Option.some.inj hz
        obtain ⟨d, hd1, hd2, hd3, hd4⟩ := hpd i hi
        have hri := hfr _ (List.getElem_mem hi)
        refine ⟨_, _, .name, rfl, .cons (.tl (.tl (.tl .hd))) .nil, ?_⟩
        refine wb_one <| ws_expr <| we_append hN (.tl (.tl .hd)) .own <| wa_cons <| we_bin <| we_call J.ok hr J.m J.kp J.b dfl_nil <| wa_cons <| we_ix hG <| we_name (.tl .hd) <| we_bin <| we_name (.tl (.tl (.tl .hd))) <| we_int <| bo_sub ⟨_, _, _, hb, rfl, hd1, wa_cons <| we_ix hG <| we_name (.tl .hd) <| we_name (.tl (.tl (.tl .hd))) ⟨_, _, _, hb, rfl, hgd i hi, wa_nil ⟨_, _, rfl, by omega, by omega, by omega, by omega, we_ix hG <| we_name .hd <| we_name (.tl (.tl (.tl .hd))) ⟨_, _, _, ha, rfl, hgn i hi, bo_addS ?_ <| wa_nil ⟨_, _, _, _, _, rfl, (.tl (.tl .hd)), .own, ?_, ?_⟩⟩⟩⟩⟩
        · rw [len_mk, len_mk, size_eq]
          have := jt_len (B := 1000) hd4 (b := (r[i]).2) (by omega)
          omega
        · rw [List.length_map, List.length_map, List.length_cons, List.length_take]
          omega
        · refine ⟨.val (.int (1 + (i : Int))), ?_⟩
          have e1 : (pt d0 r).take (i + 1) = (pt d0 r).take i ++ [jt d (r[i]).2 ++ (r[i]).1] := by
            rw [List.take_add_one, pt_get r n0 d0 i hi, ← hd2] <;> rfl
          rw [e1, mk_app, ← List.cons_append, List.map_append, List.map_append] <;> rfl
      · obtain ⟨t3, rfl⟩ := hpv
        rw [List.length_map, List.length_range]
        have e1 : (pt d0 r).take r.length = pt d0 r := by rw [← pt_len r d0, List.take_length]
        rw [e1]
        have hpl : ∀ (r : List Fs.Row) (a : Int), (∀ x ∈ r, x.1.length ≤ 1000 ∧ -(1000 : Int) ≤ x.2 ∧ x.2 ≤ 1000) → a ≤ 1000 → (((pt a r).map mkS).map (·.length)).sum ≤ 3001 * r.length := fun r => by
          induction r with
          | nil => intro a _ _; exact Nat.le_refl _
          | cons y t ih =>
            intro a h ha
            obtain ⟨n, d⟩ := y
            have hy := h (n, d) List.mem_cons_self
            have := ih d (fun x hx => h x (List.mem_cons_of_mem _ hx)) hy.2.2
            show (mkS (jt a d ++ n)).length + (((pt d t).map mkS).map (·.length)).sum ≤ 3001 * (t.length + 1)
            have := jt_len (B := 1000) ha (b := d) (by have := hy.2.1; omega)
            have h1 := hy.1
            rw [len_mk, List.length_append]
            have h1 : n.length ≤ 1000 := h1
            omega
        have hsum := hpl r d0 hfr (by have := hx0.2.2; omega)
        have hn0 : n0.length ≤ 1000 := hx0.1
        have hjl : (((n0 :: pt d0 r).map mkS).map (·.length)).sum ≤ 3001 * 1001 := by
          show (mkS n0).length + (((pt d0 r).map mkS).map (·.length)).sum ≤ _
          rw [len_mk]
          omega
        have hlast : atI (((n0, d0) :: r).map dp1) (-1) = some (.int (lastD d0 r)) := by
          have e : ∀ (r : List Fs.Row) (n0 : List Nat) (d0 : Int), ∃ xs, ((n0, d0) :: r).map dp1 = xs ++ [.int (lastD d0 r)] := fun r => by
            induction r with
            | nil => exact fun n0 d0 => ⟨[], rfl⟩
            | cons y t ih =>
              intro n0 d0
              obtain ⟨n, d⟩ := y
              obtain ⟨xs, hxs⟩ := ih n d
              exact ⟨.int d0 :: xs, by rw [List.map_cons, hxs] <;> rfl⟩
          obtain ⟨xs, hxs⟩ := e r n0 d0
          rw [hxs]
          exact at_last _ _
        have hlb : -1000 ≤ lastD d0 r ∧ lastD d0 r ≤ 1000 := by
          have e : ∀ (r : List Fs.Row) (d0 : Int), (∀ x ∈ r, x.1.length ≤ 1000 ∧ -(1000 : Int) ≤ x.2 ∧ x.2 ≤ 1000) → -1000 ≤ d0 → d0 ≤ 1000 → -1000 ≤ lastD d0 r ∧ lastD d0 r ≤ 1000 := fun r => by
            induction r with
            | nil => exact fun d0 _ h1 h2 => ⟨h1, h2⟩
            | cons y t ih =>
              intro d0 h _ _
              obtain ⟨n, d⟩ := y
              have hy := h (n, d) List.mem_cons_self
              exact ih d (fun x hx => h x (List.mem_cons_of_mem _ hx)) hy.2.1 hy.2.2
          exact e r d0 hfr hx0.2.1 hx0.2.2
        refine wb_one <| ws_ret <| we_bin <| we_join hG <| we_str ⟨_, rfl, wa_cons <| we_freeze (.tl (.tl .hd)) <| wa_nil ⟨_, .inl rfl, ?_, ?_⟩⟩
        · rw [show ("" : Str).length = 0 by decide +kernel]
          omega
        rw [join_flat]
        refine we_bin <| we_str <| we_bin <| we_ix hG <| we_name (.tl .hd) <| we_neg <| we_int ⟨1, rfl, _, -1, _, hb, rfl, hlast, we_int <| bo_sub <| bo_mulS (mul_okR _ (by omega) (by omega)) <| bo_addS ?_ ?_⟩
        · rw [mul_rp, len_mk, len_mk, List.length_replicate, size_eq]
          have e : ((n0 :: pt d0 r).flatten).length = (((n0 :: pt d0 r).map mkS).map (·.length)).sum := by
            rw [List.length_flatten, List.map_map]
            congr 1
          omega
        · rw [mul_rp, mk_app]
          have e : wr ((n0, d0) :: r) = (n0 :: pt d0 r).flatten ++ List.replicate (lastD d0 r - 1).toNat 41 := by
            show n0 ++ wg d0 r = _
            rw [wg_pt, List.flatten_cons, List.append_assoc]
          rw [← e]
          exact kk
end
end Wf

set_option Elab.async false
set_option maxRecDepth 100000
set_option maxHeartbeats 4000000
namespace Wf
open PySem PySem.Spec PyProof.Rows L2 Dv TL
open Ko (mkS nameB okS)
open Fs (Fo rdL)
/-! ### read_rows -/
def cRead : List D → (D → Prop) → Prop := fun ds KK => ∃ s : Str, ds = [.str s] ∧ s.length ≤ 999 ∧ KK (.tup [.lst ((rdL [] 1 (tl s)).map nm1), .lst ((rdL [] 1 (tl s)).map dp1)])
abbrev nRead : List Str := ["text", "names", "depths", "depth", "word"]
theorem scRead : FnScope nRead ["text"] (defScope t_read_rows) := ⟨rfl, rfl, rfl, by decide +kernel, rfl, by decide +kernel, by decide +kernel⟩
theorem mk_eq {a : List Nat} {s : Str} : decide (mkS a = s) = decide (a = tl s) := by
  rw [decide_eq_decide]
  exact ⟨fun h => by rw [← h]; rfl, fun h => by rw [h]; exact mk_tl' s⟩
section
variable {P : Program} {w : World} {K : PySem.W.Frag} {mg : Str → Option Value} {base : Heap} {C : Addr} {G : Gc}
theorem ok_read {f : Addr} {fdt : FuncData} (F : Fun K "read_rows" "read_rows" t_read_rows f fdt) (hG : G.K = K) : FnOk P w K mg base CX0 1 f fdt ["text"] (spP G cRead) := by
  refine def_p F scRead (fun ds Kd h => ?_) (fun cdv A outer s0 H E ds Kd hr h => ?_)
  · obtain ⟨s, rfl, _⟩ := h
    rfl
  · obtain ⟨s, rfl, hl, kk⟩ := h
    have hN := scRead.nd
    have hw := wrds_len s
    refine wb_cons <| ws_own hN <| wl_lst <| wa_nil ⟨by decide, _, _, (.tl .hd), ?_⟩
    refine wb_cons <| ws_own hN <| wl_lst <| wa_nil ⟨by decide, _, _, (.tl (.tl .hd)), ?_⟩
    refine wb_intT hN (.tl (.tl (.tl .hd))) ?_
    have hp1 : (pad (tl s)).length ≤ 3 * s.length := by rw [len_tl]; exact pad_len _
    refine wbt_cons <| wst_for ["word"] hG rfl PassesOwn.never (tgOk_name hN) <| wit_seq hG <| wet_split <| wet_repl (by decide +kernel) <| wet_repl (by decide +kernel) <| wet_of <| we_name .hd ⟨_, rfl, ?_, _, rfl, ?_, _, rfl, wa_cons <| we_str <| wa_nil ⟨_, rfl, by decide +kernel, ?_, _, rfl, ?_⟩⟩
    · rw [show (" ( " : Str).length = 3 by decide +kernel]
      omega
    · have := TK.replace_len s "(" " ( "
      rw [show (" ( " : Str).length = 3 by decide +kernel] at this
      rw [show (" ) " : Str).length = 3 by decide +kernel]
      omega
    · show (padS s).length + 2 ≤ sizeLine
      rw [pad_tl, len_mk, size_eq]
      omega
    have es : Txt.split (Txt.replace (Txt.replace s "(" " ( ") ")" " ) ") " " = (wrds s).map mkS := split_pad s
    rw [es]
    have hrw := rw0_wrds s
    generalize wrds s = ws at *
    refine ⟨fun i Γ2 => ∃ (done : List Fs.Row) (d : Int) (t4 : Sl), Γ2 = ([("text", .val (.str s)), ("names", .own (.lst (done.map nm1))), ("depths", .own (.lst (done.map dp1))), ("depth", .val (.int d)), ("word", t4)] : En) ∧ done ++ rw0 d (ws.drop i) = rdL [] 1 (tl s) ∧ done.length ≤ i, ⟨[], 1, .un, rfl, by rw [List.drop_zero, hrw] <;> rfl, Nat.le_refl _⟩, fun i z Γ2 hz hpv => ?_, fun Γ2 hpv => ?_⟩
    · obtain ⟨done, d, t4, rfl, h1, h2⟩ := hpv
      rw [List.getElem?_map, List.getElem?_map] at hz
      have hi : i < ws.length := by
        by_cases q : i < ws.length
        · exact q
        · rw [List.getElem?_eq_none (by omega)] at hz
          cases hz
      rw [List.getElem?_eq_getElem hi] at hz
      obtain rfl := Option.some.inj hz
      have hdrop := List.drop_eq_getElem_cons hi
      generalize ws[i] = x at *
      rw [hdrop] at h1
      refine ⟨_, _, .name, rfl, .cons (.tl (.tl (.tl (.tl .hd)))) .nil, ?_⟩
      refine wb_one <| ws_if <| wt_cmp <| we_name (.tl (.tl (.tl (.tl .hd)))) <| we_str <| o_eqS rfl ⟨_, rfl, fun hc => ?_, fun hc => ?_⟩
      · rw [mk_eq, tl_lp] at hc
        have hc : x = [40] := of_decide_eq_true hc
        rw [rw0, if_pos hc] at h1
        refine wb_one <| ws_set hN <| we_bin <| we_name (.tl (.tl (.tl .hd))) <| we_int <| bo_add ⟨_, _, (.tl (.tl (.tl .hd))), done, d + 1, .val (.str (mkS x)), rfl, h1, by omega⟩
      rw [mk_eq, tl_lp] at hc
      have hc : ¬ x = [40] := of_decide_eq_false hc
      rw [rw0, if_neg hc] at h1
      refine wb_one <| ws_if <| wt_cmp <| we_name (.tl (.tl (.tl (.tl .hd)))) <| we_str <| o_eqS rfl ⟨_, rfl, fun hc => ?_, fun hc => ?_⟩
      · rw [mk_eq, tl_rp] at hc
        have hc : x = [41] := of_decide_eq_true hc
        rw [if_pos hc] at h1
        refine wb_one <| ws_set hN <| we_bin <| we_name (.tl (.tl (.tl .hd))) <| we_int <| bo_sub ⟨_, _, (.tl (.tl (.tl .hd))), done, d - 1, .val (.str (mkS x)), rfl, h1, by omega⟩
      rw [mk_eq, tl_rp] at hc
      have hc : ¬ x = [41] := of_decide_eq_false hc
      rw [if_neg hc] at h1
      refine wb_one <| ws_if <| wt_cmp <| we_name (.tl (.tl (.tl (.tl .hd)))) <| we_str <| bo_ne rfl rfl rfl ⟨_, rfl, fun hc => ?_, fun hc => wb_nil ?_⟩
      · have hc : ¬ x = [] := fun e => by
          subst e
          revert hc
          rw [em_mk]
          simp
        rw [if_neg hc] at h1
        refine wb_cons <| ws_expr <| we_append hN (.tl .hd) .own <| wa_cons <| we_name (.tl (.tl (.tl (.tl .hd)))) <| wa_nil ⟨_, _, _, _, _, rfl, (.tl .hd), .own, by rw [List.length_map]; omega, ?_⟩
        refine wb_one <| ws_expr <| we_append hN (.tl (.tl .hd)) .own <| wa_cons <| we_name (.tl (.tl (.tl .hd))) <| wa_nil ⟨_, _, _, _, _, rfl, (.tl (.tl .hd)), .own, by rw [List.length_map]; omega, ?_⟩
        refine ⟨done ++ [(x, d)], d, .val (.str (mkS x)), ?_, by rw [← h1, List.append_assoc] <;> rfl, by rw [List.length_append, List.length_singleton]; omega⟩
        rw [List.map_append, List.map_append] <;> rfl
      · have hc : x = [] := by
          have : V.str (mkS x) = V.str "" := by simpa using hc
          have := V.str.inj this
          rw [em_mk] at this
          exact mk_inj this
        rw [if_pos hc] at h1
        exact ⟨done, d, .val (.str (mkS x)), rfl, h1, by omega⟩
    · obtain ⟨done, d, t4, rfl, h1, h2⟩ := hpv
      rw [List.length_map, List.length_map, List.drop_length] at h1
      have h1 : done ++ [] = _ := h1
      rw [List.append_nil] at h1
      rw [h1]
      exact wb_one <| ws_ret <| we_tup <| wa_cons <| we_freeze (.tl .hd) <| wa_cons <| we_freeze (.tl (.tl .hd)) <| wa_nil ⟨by show 2 ≤ 100000; decide, kk⟩
end
end Wf

set_option Elab.async false
set_option maxRecDepth 100000
set_option maxHeartbeats 4000000
namespace L2
open PySem PySem.Spec PyProof.Rows
/-- x.f as a target, x an own object -/
def gFld (C : Addr) (i : Nat) (f : Str) : TG := fun v σ H Q => ∃ (p dx : Addr) (gs : List (Str × V)), σ[i]? = some (some (.ref p)) ∧ H p = some (.ins C dx gs) ∧ gs.length < 1000 ∧ Q σ (upd H p (.ins C dx (putF f v gs)))
theorem pg_fld {X : Cx} {C : Addr} {x f : Str} {i : Nat} {p1 pos : Pos} (hc : Cls X.K C) (hn : NoAttr X.K C f) (hi : PE X (.Name x p1) (tVar i)) : PG X (.Attribute (.Name x p1) f pos) (gFld C i f) := by
  refine ⟨fun pins s σ H v u Q I r h => ?_⟩
  obtain ⟨p, dx, gs, hp, ho, hl, q⟩ := h
  rw [assign_Attribute]
  refine wpAny_bind (wpAny_holding (thn (hi.run pins s σ H (fun x' H2 => x' = .ref p ∧ H2 = H) I ⟨_, hp, rfl, rfl⟩) fun ov s2 ⟨x', H2, I2, rx, ex, eh⟩ => ?_))
  subst ex; subst eh
  obtain rfl : ov = Value.ref p := rx
  refine wpAny_bind (wpAny_standAt (wpAny_bind (wpAny_holding (setattr_ok I2 ho hc hn hl r fun s3 I3 => ?_))))
  exact wpAny_release ⟨σ, _, I3, q⟩
end L2
namespace Dv
open PySem PySem.Spec PyProof.Rows L2
open Evl (Ex ex_l ex_t)
section
variable {X : Cx} {G : Gc} {Γ : En} {e : Expr} {K : Ot → Prop}
/-- x.f, x.g = e, x lent -/
theorem ws_fld2 {x f g : Str} {p1 p2 q1 q2 pt pos : Pos} {k n i : Nat} (hK : G.K = X.K) (hcm : X.calm = true) (hN : X.N.Nodup) (hc : Cls X.K (G.cl n)) (hf : NoAttr X.K (G.cl n) f) (hg : NoAttr X.K (G.cl n) g) (hi : X.N[i]? = some x)
    (h : WE X G Γ e fun d Γ1 => ∃ a b p fs Γ2, d = .tup [a, b] ∧ Put Γ1 x (.bor p (.ob n fs)) (.bor p (.ob n (putD g b (putD f a fs)))) Γ2 ∧ fs.length < 900 ∧ K (.nx Γ2))
    (hv : Vis X.env.scope x := by first | exact Or.inl rfl | exact Or.inr (Or.inl rfl) | exact Or.inr (Or.inr rfl)) (hd : (x == ("__debug__" : Str)) = false := by decide) (hcd : (x == ("__classdict__" : Str)) = false := by decide)
    (hs : swapsWithSole [.Tuple [.Attribute (.Name x p1) f q1, .Attribute (.Name x p2) g q2] k pt] e pos.line X.env = pure false := by rfl) (hw : swappedStores [.Tuple [.Attribute (.Name x p1) f q1, .Attribute (.Name x p2) g q2] k pt] e X.env = pure none := by rfl)
    (h1 : (assignEach [.Tuple [.Attribute (.Name x p1) f q1, .Attribute (.Name x p2) g q2] k pt] X.env).map (·.2) = [assign (.Tuple [.Attribute (.Name x p1) f q1, .Attribute (.Name x p2) g q2] k pt) X.env] := by rfl)
    (hz : (assignEach [.Attribute (.Name x p1) f q1, .Attribute (.Name x p2) g q2] X.env).length = 2 := by rfl) (hst : (assignEach [.Attribute (.Name x p1) f q1, .Attribute (.Name x p2) g q2] X.env).findIdx? (·.1) = none := by rfl)
    (m1 : (assignEach [.Attribute (.Name x p1) f q1, .Attribute (.Name x p2) g q2] X.env).map (·.2) = assign (.Attribute (.Name x p1) f q1) X.env :: (assignEach [.Attribute (.Name x p2) g q2] X.env).map (·.2) := by rfl)
    (m2 : (assignEach [.Attribute (.Name x p2) g q2] X.env).map (·.2) = assign (.Attribute (.Name x p2) g q2) X.env :: (assignEach [] X.env).map (·.2) := by rfl) :
    WS X G Γ (.Assign [.Tuple [.Attribute (.Name x p1) f q1, .Attribute (.Name x p2) g q2] k pt] e pos) K := .of fun σ F H D E q => by
  refine PS.ss (ps_asg pe_S (pg_tup hcm (pgs_cons (pg_fld hc hf (pe_var hi hv hd hcd)) (pgs_cons (pg_fld hc hg (pe_var hi hv hd hcd)) pgs_nil m2) m1) hz hst) hs hw h1) ?_
  refine h σ F H _ E fun d Γ1 v F1 H1 s1 E1 o1 r1 k1 => ?_
  obtain ⟨a, b, p, fs, Γ2, rfl, hput, hl, k⟩ := k1
  obtain ⟨ad, us, rfl, hsq, ru⟩ := rep_tup r1
  rw [hK] at hsq
  obtain ⟨u1, t, rfl, r1, rt⟩ := reps_cons_inv ru
  obtain ⟨u2, t, rfl, r2, rt⟩ := reps_cons_inv rt
  obtain rfl := reps_nil_inv rt
  obtain ⟨j, ej, e2⟩ := hput.ix
  subst e2
  have hj : i = j := nodup_ix hN hi (E1.name ej)
  subst hj
  obtain ⟨g1, g2, dx, gs, g3, g4⟩ := E1.bor i x p _ ej
  have gl := repf_len g4
  have w1 := E1.write (o := .ins (G.cl n) dx (putF f u1 gs)) ej g1 (.inr ⟨rfl, rfl⟩) (show holds G F1 _ p (.ob n (putD f a fs)) from ⟨dx, _, upd_same, repf_put r1 g4⟩)
  have w2 := E1.write (o := .ins (G.cl n) dx (putF g u2 (putF f u1 gs))) ej g1 (.inr ⟨rfl, rfl⟩) (show holds G F1 _ p (.ob n (putD g b (putD f a fs))) from ⟨dx, _, upd_same, repf_put r2 (repf_put r1 g4)⟩)
  have hpl : (putF f u1 gs).length < 1000 := by
    have h0 := repf_len (repf_put (f := f) r1 g4)
    rw [h0]
    have hh : ∀ (fs : List (Str × Dv.D)), (putD f a fs).length ≤ fs.length + 1 := fun fs => by
      induction fs with
      | nil => exact Nat.le_refl _
      | cons y t ih =>
        obtain ⟨y1, y2⟩ := y
        unfold putD
        split
        · simp
        · simp only [List.length_cons]; omega
    have := hh fs
    omega
  have eu : upd (upd H1 p (.ins (G.cl n) dx (putF f u1 gs))) p (.ins (G.cl n) dx (putF g u2 (putF f u1 gs))) = upd H1 p (.ins (G.cl n) dx (putF g u2 (putF f u1 gs))) := by
    funext c
    by_cases hc : c = p
    · subst hc; rw [upd_same, upd_same]
    · rw [upd_ne hc, upd_ne hc, upd_ne hc]
  refine ⟨ad, [u1, u2], rfl, ex_t E1.ex hsq, rfl, u1, [u2], rfl, p, dx, gs, g1, g3, by rw [gl]; omega, u2, [], rfl, p, dx, putF f u1 gs, g1, upd_same, hpl, rfl, ?_⟩
  rw [eu]
  exact q.nx _ σ F1 _ ⟨stp s1 o1 w2.2.1, w2.1, fun a z => .inl (o1 a (w2.2.2 a z))⟩ k
end
/-! ### len of an own object -/
section
variable {X : Cx} {G : Gc} {k n : Nat} {f : Addr} {fd : FuncData} {ps : List Str} {ds0 : List Value} {dd : List D} {con : List D → (D → Prop) → Prop} {K : D → Prop} {fs : List (Str × D)}
theorem own_run1At {A : Around} {F H : Hp} {x : D} {u : V} {Q : VK} (C : FnOk X.prog X.w X.K X.mg X.base CX0 k f fd ps (spP G con)) (sb : Sub X k A) (hb : Binds X.K fd ps ds0) (hd : Dfl G dd ds0) (e : Ex F H) (r1 : rep G F x u)
    (h : con ([x] ++ dd) K) (q : ∀ z w F' H', Step No F H F' H' → rep G F' z w → K z → Q w H') {pins : List (Addr × Obj)} {s : Shared} {σ : L2.St} {uu : Value} (I : Inv X pins σ H s) (ru : RelV u uu) :
    wpAny (model X.prog X.w) A (call (.ref f) [uu]) (EP X pins σ Q) X.xe s := by
  obtain ⟨dv, hdv, hdr⟩ := hd
  have e0 : Env0 X.prog X.w X.K X.mg X.base A X.stack s H := by
    have z := I.env0
    exact ⟨by rw [sb.fr]; exact z.frames, z.mod, z.bs, z.bsz, z.funs, z.frf, z.hok, z.bare⟩
  have rv2 : Vals ([u] ++ dv) ([uu] ++ ds0) := (show Vals [u] [uu] from .cons ru .nil).append hdv
  have sp : spP G con ([u] ++ dv) H Q E0 := ⟨F, [x] ++ dd, _, e, reps_app (reps_cons r1 reps_nil) (hdr F), h, fun d w F' H' kd s' r' => q d w F' H' s' r' kd⟩
  have hl : ([uu] ++ ds0).length = ps.length := by rw [← rv2.length]; exact C.len _ _ _ _ sp
  refine wpAny_call (codeAny_mono (C.run A X.stack s H ⟨[uu], []⟩ _ _ Q E0 sb.room e0 (hb s [uu] I.kIn hl) rv2 sp) fun r s' hq => ?_)
  cases r with
  | error e => exact pass0 pins σ H s e s' I hq
  | ok fl =>
    cases fl with
    | ret w => exact I.after hq
    | next => exact False.elim hq
    | brk => exact False.elim hq
    | cont => exact False.elim hq
theorem cd_lenObj (C : FnOk X.prog X.w X.K X.mg X.base CX0 k f fd ["self"] (spP G con)) (hr : Room (k + 1) X.A) (hb : Binds X.K fd ["self"] []) (hs : PySem.W.findIn X.K (.ref (G.cl n)) "__len__" = some (some (.ref f)))
    (hf : PySem.W.isFn X.K (.ref f) = true) (h : con [.ins n fs] fun z => ∃ m : Nat, z = .int (m : Int) ∧ m < 2 ^ 62 ∧ K (.int (m : Int))) : CD X G (.builtin "len") [.ins n fs] K := .of fun F H vs Q e r q pins s σ us I rv => by
  obtain ⟨v, rfl, r1⟩ := reps1 r
  obtain ⟨a, dx, hs1, rfl, ha, _⟩ := rep_ins r1
  obtain ⟨uu, rfl, ru⟩ := vals1 rv
  obtain rfl : uu = Value.ref a := ru
  obtain ⟨_, _, J⟩ := ins_at I (e _ _ ha)
  refine PySem.Calls.call_function_entry kind_len plain_len entry_len (args_len1 _) ?_
  unfold PySem.Builtin.«len»
  refine wpAny_bind (m := oneArg "len" _) (wpAny_pure ?_)
  refine wpAny_bind (m := callSpecial? (.ref a) (Str.ofString "__len__")) (PySem.W.special_fn I.kIn J hs (beq_iff_eq.mp hf) ?_)
  have sb : Sub X (k + 1) X.A := ⟨hr, rfl⟩
  refine thn (own_run1At (Q := fun w H' => ∃ m : Nat, w = .int (m : Int) ∧ m < 2 ^ 62 ∧ Q (.int (m : Int)) H') C sb.in1 hb dfl_nil e r1 h (fun z w F' H' s' r' kz => ?_) I rfl) fun u' s' ⟨w, H', I', rw', m, ew, hm, q'⟩ => ?_
  · obtain ⟨m, rfl, hm, km⟩ := kz
    exact ⟨m, rep_int r', hm, q _ _ F' H' s' r_int km⟩
  · subst ew
    obtain ⟨t, rfl⟩ := rw'
    refine wpAny_bind (wpAny_holding (wpAny_pure ?_))
    refine wpAny_bind (wpAny_letGo ?_)
    show wpAny _ _ (if ((m : Nat) : Int) < 0 then _ else _) _ _ _
    rw [if_neg (by omega)]
    show wpAny _ _ (if ((m : Nat) : Int) ≥ 2 ^ 63 then _ else _) _ _ _
    rw [if_neg (by omega)]
    exact wpAny_bind (wpAny_mkInt (wpAny_pure ⟨_, rfl, .int (m : Int), H', I'.tok _, ⟨_, rfl⟩, q'⟩))
end
/-! ### max of a tuple of numbers, default= -/
def rDefT (K : PySem.W.Frag) (le : Int → Int → Prop) : List V → List V → Hp → VK → Prop := fun xs zs H Q => ∃ (a : Addr) (ns : List Int) (d : V), xs = [.ref a] ∧ zs = [d] ∧ SqT K H a (ns.map V.int) ∧ (ns = [] → Q d H) ∧ ∀ m, m ∈ ns → (∀ y ∈ ns, le m y) → Q (.int m) H
section
variable {X : Cx}
theorem crk_maxT (hc : X.calm = true) (hu : X.A.units + 1 < cLine) : CallRK X (.builtin "max") [Str.ofString "default"] (rDefT X.K (· ≥ ·)) := by
  intro pins s σ H xs zs us ws Q I r rz h
  obtain ⟨a, ns, d, rfl, rfl, hs, q0, q⟩ := h
  obtain ⟨its, rv, hl, _⟩ := I.tuple hs
  obtain ⟨w, rfl, rw⟩ := vals1 rz
  rw [Vals.ref1 r]
  refine PySem.W.max_tuple_datum_default (α := Int) (xs := ns) (I.ok.hd hc) hl (by rw [List.toList_toArray]; exact PySem.W.HoldAll.of_ints rv.ints) hu (fun e h' tk hk => ⟨d, H, I.kept hk, rw, q0 e⟩) fun y ys i v h' tk e hi hh hk => ?_
  obtain ⟨bs, hr⟩ := hh
  obtain ⟨h1, h2, h3⟩ := fold_max ys y
  have hr' : Reads h' v (.int (PySem.W.maxOf y ys)) bs := hr
  have hv : ∃ t, v = .int (PySem.W.maxOf y ys) t := by cases hr'; exact ⟨_, rfl⟩
  obtain ⟨t, rfl⟩ := hv
  refine ⟨.int _, H, I.kept hk, ⟨t, rfl⟩, q _ ?_ fun z hz => ?_⟩
  · rw [e]
    rcases h1 with h1 | h1
    · rw [h1]; exact List.mem_cons_self
    · exact List.mem_cons_of_mem _ h1
  · rw [e] at hz
    rcases List.mem_cons.mp hz with rfl | hz
    · exact h2
    · exact h3 z hz
end
section
variable {X : Cx} {G : Gc} {Γ : En} {e d : Expr} {p pos kp : Pos} {K : D → En → Prop} {x : Str} {id : String} {le : Int → Int → Prop}
theorem we_defT (hK : G.K = X.K) (cr : CallRK X (.builtin id) [Str.ofString "default"] (rDefT X.K le)) (hv : bootBuiltins x = some (.builtin id)) (hm : X.mg x = none)
    (h : WE X G Γ e fun y Γ1 => ∃ ns : List Int, y = .tup (ns.map .int) ∧ WE X G Γ1 d fun z Γ2 => (ns = [] → K z Γ2) ∧ ∀ m, m ∈ ns → (∀ y ∈ ns, le m y) → K (.int m) Γ2) (hg : Gl X x := by rfl) (hn : x ≠ "__name__" := by decide) (hdb : (x == ("__debug__" : Str)) = false := by decide)
    (hs : starEach [e] X.env = (false, eval e X.env) :: starEach [] X.env := by rfl)
    (he : backTo pos (starEach [e] X.env) = (false, eval e X.env) :: backTo pos (starEach [] X.env) := by rfl) (hpl : (backTo pos (starEach [e] X.env)).any (·.1) = false := by rfl)
    (hall : (backToKw pos (keywordEach [⟨some "default", d, kp⟩] X.env)).all (·.1.isSome) = true := by rfl) (hnone : (backToKw pos (keywordEach [⟨some "default", d, kp⟩] X.env)).any (·.1.isNone) = false := by rfl) (hks : (backToKw pos (keywordEach [⟨some "default", d, kp⟩] X.env)).filterMap (·.1) = [Str.ofString "default"] := by rfl) :
    WE X G Γ (.Call (.Name x p) [e] [⟨some "default", d, kp⟩] pos) K := .of fun σ F H Q E q => by
  refine PE.se (pe_callBK cr hg hm hv (pa_cons pe_S pa_nil hs) (pk_cons pe_S pk_nil) hn hdb he hpl hall hnone hks) ?_
  refine h σ F H _ E fun y Γ1 v F1 H1 s1 E1 o1 r1 k1 => ?_
  obtain ⟨ns, rfl, k1⟩ := k1
  refine k1 σ F1 H1 _ E1 fun z Γ2 w F2 H2 s2 E2 o2 r2 k2 => ?_
  obtain ⟨a, us, rfl, hs1, ru⟩ := rep_tup (rep_mono s2.ex _ _ r1)
  rw [hK] at hs1
  rw [reps_ints ru] at hs1
  exact ⟨a, ns, w, rfl, rfl, ex_t E2.ex hs1, fun e => q z Γ2 w F2 H2 (stp s1 o1 s2) E2 (fun b h => o1 b (o2 b h)) r2 (k2.1 e), fun m hm1 hm2 => q _ Γ2 _ F2 H2 (stp s1 o1 s2) E2 (fun b h => o1 b (o2 b h)) r_int (k2.2 m hm1 hm2)⟩
end
end Dv

set_option Elab.async false
set_option maxRecDepth 100000
set_option maxHeartbeats 4000000
namespace Dv
open PySem PySem.Spec PyProof.Rows L2
open Evl (Ex ex_l ex_t)
section
variable {X : Cx} {G : Gc} {Γ : En} {K : D → En → Prop}
/-- x.m, x a lent object -/
theorem we_fldB {x m : Str} {pn pos : Pos} {p : Addr} {n : Nat} {fs : List (Str × D)} {z : D} (c : Cls X.K (G.cl n)) (hn : NoAttr X.K (G.cl n) m) (h0 : Lk Γ x (.bor p (.ob n fs))) (hl : fs.lookup m = some z) (k : K z Γ)
    (hv : Vis X.env.scope x := by first | exact Or.inl rfl | exact Or.inr (Or.inl rfl) | exact Or.inr (Or.inr rfl)) (hd : (x == ("__debug__" : Str)) = false := by decide) (hcd : (x == ("__classdict__" : Str)) = false := by decide)
    (hab : attributeBase (.Name x pn) m X.env (eval (.Name x pn) X.env) = eval (.Name x pn) X.env := by rfl) : WE X G Γ (.Attribute (.Name x pn) m pos) K := .of fun σ F H Q E q => by
  obtain ⟨i, e⟩ := h0.ix
  obtain ⟨g1, g2, dx, gs, g3, g4⟩ := E.bor i x p _ e
  obtain ⟨u, hu, ru⟩ := repf_look g4 hl
  refine PE.se (pe_fld (pe_var (E.name e) hv hd hcd) hab) ?_
  exact ⟨.ref p, g1, p, _, dx, gs, u, rfl, g3, c, hn, hu, q z Γ u F H (.refl E.ex) E (fun _ h => h) ru k⟩
end
section
variable {P : Program} {w : World} {K : PySem.W.Frag} {mg : Str → Option Value} {base : Heap} {G : Gc} {x qual : Str} {st : Stmt} {T : Addr} {its : List Value} {f : Addr} {fd : FuncData} {N ps : List Str} {k : Nat}
theorem def_uT {y : Str} {ps' : List Str} {con : Cn → List D → (D → Cn → Prop) → Prop} (F : FunT K x qual st T its f fd) (S : FnScope N (y :: ps') (defScope st)) (len : ∀ c ds Kd, con c ds Kd → ds.length = ps'.length)
    (body : ∀ (cdv : Value) (A : Around) (outer : List Env) (s : Shared) (H : Hp) (E : XK) (p : Addr) (c : Cn) (ds : List D) (Kd : D → Cn → Prop), Room k (A.deeper (envOfC qual (defScope st) s.heap.objs.size f cdv)) → con c ds Kd →
      WB (cxOf CX0 P w K mg base N qual (defScope st) f cdv A outer s H E).nox G (En0 N (.bor p c :: ds.map .val)) (defBody st) (RetU y p Kd)) : FnOk P w K mg base CX0 (k + 1) f fd (y :: ps') (spU G con) := by
  refine F.ok S (fun vs H Q E h => ?_) (fun cdv A outer s H vs Q E hr h => ?_)
  · obtain ⟨F0, a, us, c, ds, Kd, rfl, _, _, _, r, h, _⟩ := h
    rw [List.length_cons, List.length_cons, reps_len r, len _ _ _ h]
  · obtain ⟨F0, p, us, c, ds, Kd, rfl, e, hf, ho, r, h, hq⟩ := h
    have hl : us.length + 1 ≤ N.length := by
      have q := congrArg List.length S.pre
      rw [List.length_take, List.length_cons] at q
      rw [reps_len r, len _ _ _ h]
      omega
    have ee := envs_u (N := N) e hf ho r hl
    refine ⟨_, pss_S, ?_⟩
    have fin : ∀ {Γ' : En} {σ' : L2.St} {F' H' : Hp} {c' : Cn}, Went G N (En0 N (.bor p c :: ds.map .val)) (L2.start N (.ref p :: us)) F0 H Γ' σ' F' H' → Lk Γ' y (.bor p c') → Step (fun b => b = p) F0 H F' H' ∧ F' p = none ∧ holds G F' H' p c' := fun w l => by
      obtain ⟨i, e⟩ := l.ix
      obtain ⟨_, g1, g2⟩ := w.en.bor i _ p _ e
      exact ⟨w.st.mono fun a o => u_own o, g1, g2⟩
    refine body cdv A outer s H E p c ds Kd hr h (L2.start N (.ref p :: us)) F0 H _ ee ⟨fun Γ' σ' F' H' w k => ?_, fun d v Γ' σ' F' H' w r k => ?_, fun _ _ _ _ _ k => k.elim, fun _ _ _ _ _ k => k.elim⟩
    · obtain ⟨c', l, k⟩ := k
      obtain ⟨g1, g2, g3⟩ := fin w l
      exact hq .non c' .non F' H' k g1 g2 g3 r_non
    · obtain ⟨c', l, k⟩ := k
      obtain ⟨g1, g2, g3⟩ := fin w l
      exact hq d c' v F' H' k g1 g2 g3 r
end
end Dv

set_option Elab.async false
set_option maxRecDepth 100000
set_option maxHeartbeats 4000000
namespace Wf
open PySem PySem.Spec PyProof.Rows L2 Dv TL
open Ko (mkS nameB okS)
open Fs (Fo rdL ofM fo par)
/-! ### class Forest -/
abbrev mInit : Stmt := inClass t_Forest 0
abbrev mOf : Stmt := inClass t_Forest 1
abbrev mTrees : Stmt := inClass t_Forest 2
abbrev mText : Stmt := inClass t_Forest 3
abbrev mDepth : Stmt := inClass t_Forest 5
abbrev mLen : Stmt := inClass t_Forest 6
abbrev nmsD (f : Fo) : D := .tup ((Fs.rw f 1).map nm1)
abbrev dpsD (f : Fo) : D := .tup ((Fs.rw f 1).map dp1)
/-- a Forest, as an object -/
abbrev fst (f : Fo) : D := .ins 0 [("_names", nmsD f), ("_depths", dpsD f), ("_trees", .tup (fd f))]
structure Tx (K : PySem.W.Frag) (mg : Str → Option Value) (C : Addr) : Prop where
  cl : Cls K C
  nN : NoAttr K C "_names"
  nD : NoAttr K C "_depths"
  nT : NoAttr K C "_trees"
  mC : mg "Forest" = some (.ref C)
def adr (K : PySem.W.Frag) (x : Str) : Addr := match PySem.W.nsIn K mainGlobals x with
  | some (some (.ref a)) => a
  | _ => 0
theorem adr_of {K : PySem.W.Frag} {x : Str} {a : Addr} (h : PySem.W.nsIn K mainGlobals x = some (some (.ref a))) : adr K x = a := by
  unfold adr
  rw [h]
abbrev gc (K : PySem.W.Frag) (C : Addr) : Gc := ⟨K, fun n => match n with | 0 => C | 1 => adr K "BadText" | _ => adr K "NoPlace"⟩
theorem kND : ¬ ("_names" : Str) = "_depths" := by decide +kernel
theorem kNT : ¬ ("_names" : Str) = "_trees" := by decide +kernel
theorem kDT : ¬ ("_depths" : Str) = "_trees" := by decide +kernel
theorem putD_ne {f g : Str} {a v : D} {r : List (Str × D)} (h : ¬ g = f) : putD f v ((g, a) :: r) = (g, a) :: putD f v r := by
  show (if g = f then (g, v) :: r else (g, a) :: putD f v r) = _
  rw [if_neg h]
theorem put2 (a b : D) : putD "_depths" b (putD "_names" a []) = ([("_names", a), ("_depths", b)] : List (Str × D)) := by
  show putD "_depths" b [("_names", a)] = _
  rw [putD_ne kND] <;> rfl
theorem put3 (a b c : D) : putD "_trees" c (putD "_depths" b (putD "_names" a [])) = ([("_names", a), ("_depths", b), ("_trees", c)] : List (Str × D)) := by
  rw [put2, putD_ne kNT, putD_ne kDT] <;> rfl
theorem lkD {a b : D} {r : List (Str × D)} : List.lookup ("_depths" : Str) (("_names", a) :: ("_depths", b) :: r) = some b := by
  rw [List.lookup_cons, beq_eq_false_iff_ne.mpr (fun e => kND e.symm), List.lookup_cons]
  simp
theorem lkT {a b c : D} : List.lookup ("_trees" : Str) [("_names", a), ("_depths", b), ("_trees", c)] = some c := by
  rw [List.lookup_cons, beq_eq_false_iff_ne.mpr (fun e => kNT e.symm), List.lookup_cons, beq_eq_false_iff_ne.mpr (fun e => kDT e.symm), List.lookup_cons]
  simp
def cInit : Cn → List D → (D → Cn → Prop) → Prop := fun c ds KK => ∃ f : Fo, c = .ob 0 [] ∧ ds = [.tup (fd f)] ∧ (Fs.rw f 1).length ≤ 1000 ∧ KK .non (.ob 0 [("_names", nmsD f), ("_depths", dpsD f), ("_trees", .tup (fd f))])
theorem scInit : FnScope ["self", "trees"] ["self", "trees"] (defScope mInit) := ⟨rfl, rfl, rfl, by decide +kernel, rfl, by decide +kernel, by decide +kernel⟩
section
variable {P : Program} {w : World} {K : PySem.W.Frag} {mg : Str → Option Value} {base : Heap} {C : Addr}
theorem ok_init {Tt : Addr} {its : List Value} {f : Addr} {fdt : FuncData} (F : FunT K "__init__" "Forest.__init__" mInit Tt its f fdt) (T : Tx K mg C) (Fl : FnC P w K mg base "flat" 1 ["trees"] (spP (gc K C) cFlat)) (Ne : FnC P w K mg base "nested" 1 ["names", "depths"] (spP (gc K C) cNest)) : FnOk P w K mg base CX0 2 f fdt ["self", "trees"] (spU (gc K C) cInit) := by
  refine def_uT F scInit (fun c ds Kd h => ?_) (fun cdv A outer s H E p c ds Kd hr h => ?_)
  · obtain ⟨f, _, rfl, _⟩ := h
    rfl
  · obtain ⟨g, rfl, rfl, hl, kk⟩ := h
    have hN := scInit.nd
    refine wb_cons <| ws_fld2 (n := 0) (i := 0) rfl rfl hN T.cl T.nN T.nD rfl <| we_call Fl.ok hr Fl.m Fl.kp Fl.b dfl_nil <| wa_cons <| we_name (.tl .hd) <| wa_nil ⟨g, rfl, hl, _, _, p, [], _, rfl, .hd, by decide, ?_⟩
    rw [put2]
    refine wb_one <| ws_fld (n := 0) T.cl T.nT <| we_call Ne.ok hr Ne.m Ne.kp Ne.b dfl_nil <| wa_cons <| we_fldB (n := 0) T.cl T.nN .hd rfl <| wa_cons <| we_fldB (n := 0) T.cl T.nD .hd lkD <| wa_nil ⟨_, _, Fs.rw g 1, rfl, .inr rfl, .inr rfl, hl, _, _, _, _, .hd, .inr ⟨p, rfl, rfl⟩, by show 2 < 1000; decide, ?_⟩
    refine ⟨_, .hd, ?_⟩
    rw [← put2, put3, Fs.par_tx]
    exact kk
def cTrees : List D → (D → Prop) → Prop := fun ds KK => ∃ f, ds = [fst f] ∧ KK (.tup (fd f))
theorem scTrees : FnScope ["self"] ["self"] (defScope mTrees) := ⟨rfl, rfl, rfl, by decide +kernel, rfl, by decide +kernel, by decide +kernel⟩
theorem ok_trees {f : Addr} {fdt : FuncData} (F : Fun K "trees" "Forest.trees" mTrees f fdt) (T : Tx K mg C) : FnOk P w K mg base CX0 1 f fdt ["self"] (spP (gc K C) cTrees) := by
  refine def_p F scTrees (fun ds Kd h => ?_) (fun cdv A outer s H E ds Kd hr h => ?_)
  · obtain ⟨f, rfl, _⟩ := h
    rfl
  · obtain ⟨g, rfl, k⟩ := h
    exact wb_one <| ws_ret <| we_fld (n := 0) T.cl T.nT <| we_name .hd ⟨_, _, rfl, lkT, k⟩
def cText : List D → (D → Prop) → Prop := fun ds KK => ∃ f, ds = [fst f] ∧ Fit 1000 (Fs.rw f 1) ∧ KK (.str (mkS (Fs.tx f)))
theorem scText : FnScope ["self"] ["self"] (defScope mText) := ⟨rfl, rfl, rfl, by decide +kernel, rfl, by decide +kernel, by decide +kernel⟩
theorem ok_text {f : Addr} {fdt : FuncData} (F : Fun K "text" "Forest.text" mText f fdt) (T : Tx K mg C) (Wr : FnC P w K mg base "written" 2 ["names", "depths"] (spP (gc K C) cWrit)) : FnOk P w K mg base CX0 3 f fdt ["self"] (spP (gc K C) cText) := by
  refine def_p F scText (fun ds Kd h => ?_) (fun cdv A outer s H E ds Kd hr h => ?_)
  · obtain ⟨f, rfl, _⟩ := h
    rfl
  · obtain ⟨g, rfl, hf, k⟩ := h
    rw [← Fs.wr_tx] at k
    exact wb_one <| ws_ret <| we_call Wr.ok hr Wr.m Wr.kp Wr.b dfl_nil <| wa_cons <| we_fld (n := 0) T.cl T.nN <| we_name .hd ⟨_, _, rfl, rfl, wa_cons <| we_fld (n := 0) T.cl T.nD <| we_name .hd ⟨_, _, rfl, lkD, wa_nil ⟨_, _, _, rfl, .inr rfl, .inr rfl, hf, k⟩⟩⟩
def cDepth : List D → (D → Prop) → Prop := fun ds KK => ∃ (f : Fo) (m : Int), ds = [fst f] ∧ m ∈ (Fs.rw f 1).map (·.2) ∧ (∀ y ∈ (Fs.rw f 1).map (·.2), y ≤ m) ∧ KK (.int m)
theorem scDepth : FnScope ["self"] ["self"] (defScope mDepth) := ⟨rfl, rfl, rfl, by decide +kernel, rfl, by decide +kernel, by decide +kernel⟩
theorem dp_ints (rows : List Fs.Row) : rows.map dp1 = (rows.map (·.2)).map D.int := by
  rw [List.map_map]
  rfl
theorem ok_depth {f : Addr} {fdt : FuncData} (F : Fun K "depth" "Forest.depth" mDepth f fdt) (T : Tx K mg C) (zm : mg "max" = none) : FnOk P w K mg base CX0 1 f fdt ["self"] (spP (gc K C) cDepth) := by
  refine def_p F scDepth (fun ds Kd h => ?_) (fun cdv A outer s H E ds Kd hr h => ?_)
  · obtain ⟨f, _, rfl, _⟩ := h
    rfl
  · obtain ⟨g, m, rfl, hm, hy, k⟩ := h
    have hu1 : (A.deeper (envOfC "Forest.depth" (defScope mDepth) s.heap.objs.size f cdv)).units + 1 < cLine := by have := hr.un; omega
    refine wb_one <| ws_ret <| we_defT rfl (crk_maxT rfl hu1) (by rfl) zm <| we_fld (n := 0) T.cl T.nD <| we_name .hd ⟨_, _, rfl, lkD, (Fs.rw g 1).map (·.2), by show D.tup ((Fs.rw g 1).map dp1) = _; rw [dp_ints], we_int ⟨fun e => ?_, fun m' h1 h2 => ?_⟩⟩
    · rw [e] at hm
      simp at hm
    · have e : m' = m := Int.le_antisymm (hy m' h1) (h2 m hm)
      rw [e]
      exact k
def cLen : List D → (D → Prop) → Prop := fun ds KK => ∃ f, ds = [fst f] ∧ KK (.int ((Fs.rw f 1).length : Nat))
theorem scLen : FnScope ["self"] ["self"] (defScope mLen) := ⟨rfl, rfl, rfl, by decide +kernel, rfl, by decide +kernel, by decide +kernel⟩
theorem ok_len {f : Addr} {fdt : FuncData} (F : Fun K "__len__" "Forest.__len__" mLen f fdt) (T : Tx K mg C) (zl : mg "len" = none) : FnOk P w K mg base CX0 1 f fdt ["self"] (spP (gc K C) cLen) := by
  refine def_p F scLen (fun ds Kd h => ?_) (fun cdv A outer s H E ds Kd hr h => ?_)
  · obtain ⟨f, rfl, _⟩ := h
    rfl
  · obtain ⟨g, rfl, k⟩ := h
    exact wb_one <| ws_ret <| we_callB (id := "len") (by rfl) zl <| wa_cons <| we_fld (n := 0) T.cl T.nN <| we_name .hd ⟨_, _, rfl, rfl, wa_nil <| cd_len rfl (.inr rfl) (by rw [List.length_map]; exact k)⟩
end
end Wf

set_option Elab.async false
set_option maxRecDepth 100000
set_option maxHeartbeats 4000000
namespace Dv
open PySem PySem.Spec PyProof.Rows L2 Dx
open Evl (Ex ex_l ex_t)
section
variable {X : Cx} {G : Gc} {Γ : En} {k : Nat} {f C : Addr} {fd : FuncData} {x m : Str} {p1 ap cp : Pos} {ps : List Str} {e : Expr} {es : List Expr} {K : D → En → Prop}
/-- C.m(e, ..), m static, nothing raised -/
theorem we_stat {con : List D → (D → Prop) → Prop} {pl : Sem Bool} (hg : Gl X x) (hm : X.mg x = some (.ref C)) (S : Stat X.K C m f) (F : FnOk X.prog X.w X.K X.mg X.base CX0 k f fd ps (spP G con)) (hr : Room k X.A) (hb : Binds X.K fd ps [])
    (h : WA X G Γ (e :: es) fun ds Γ1 => con ds fun z => K z Γ1) (hdx : (x == ("__debug__" : Str)) = false := by decide)
    (hst : starEach (e :: es) X.env = (false, eval e X.env) :: starEach es X.env := by rfl) (hpl : (backTo cp (starEach es X.env)).any (·.1) = false := by rfl)
    (ht : eval (.Call (.Attribute (.Name x p1) m ap) (e :: es) [] cp) X.env = (do
      let ov ← eval (.Name x p1) X.env
      standAt ap.atName
      let (f, first) ← holding [ov] (getMethod ov m pl)
      callWith cp f first (backTo cp (starEach (e :: es) X.env)) (backToKw cp (keywordEach [] X.env))) := by rfl) : WE X G Γ (.Call (.Attribute (.Name x p1) m ap) (e :: es) [] cp) K := .of fun σ F0 H Q E q => by
  have pe : PE X (.Call (.Attribute (.Name x p1) m ap) (e :: es) [] cp) (fun σ H Q => SA X (e :: es) σ H fun vs H1 => spP G con vs H1 Q E0) := by
    refine ⟨fun pins s σ H Q I h => ?_⟩
    obtain ⟨p, rest, e1, e2⟩ := S.at_
    refine PySem.W.methodCall_KW (pl := pl) ?_ ht
    refine ld_glob I hg hm ?_ hdx
    obtain ⟨mm, hF⟩ := I.fr
    refine PySem.W.method_of_cls hF I.ok.mod.kin S.ga ?_
    refine PySem.W.cls_sm hF I.ok.mod.kin S.ty S.rd e1 e2 rfl ?_
    have I1 : Inv X pins σ H { s with toks := s.toks + 1 } := I.tok _
    refine PySem.W.callWith_K (first := []) (h₀ := X.base) I.ok.mod.kin S.kp (thn (h cp pins _ I1) fun us s2 ⟨vs, H2, I2, r, q2⟩ => ⟨I2.kIn, ?_⟩) hst hpl
    exact run_fn (us := us) (vs := vs) (dvs := []) F hr hb .nil pass0 I2 r (by rw [List.append_nil]; exact q2)
  refine PE.se pe ?_
  refine h σ F0 H _ E fun ds Γ1 vs F1 H1 s1 E1 o1 r1 k1 => ?_
  exact ⟨F1, ds, _, E1.ex, r1, k1, fun d v F' H' kd s' r' => q d Γ1 v F' H' (stpN s1 s') (E1.step s') o1 r' kd⟩
end
end Dv

set_option Elab.async false
set_option maxRecDepth 100000
set_option maxHeartbeats 4000000
namespace Wf
open PySem PySem.Spec PyProof.Rows L2 Dv TL
open Ko (mkS nameB okS)
open Fs (Fo rdL ofM fo par nmB)
/-! ### Forest.of -/
abbrev nOf : List Str := ["text", "names", "depths", "name", "depth"]
theorem scOf : FnScope nOf ["text"] (defScope mOf) := ⟨rfl, rfl, rfl, by decide +kernel, rfl, by decide +kernel, by decide +kernel⟩
def cOf : List D → (D → Prop) → (Nat → Prop) → Prop := fun ds Kd Ke => ∃ s : Str, ds = [.str s] ∧ s.length ≤ 999 ∧ (∀ f, ofM (tl s) = some f → Kd (fst f)) ∧ (ofM (tl s) = none → Ke 1)
def cOfP : List D → (D → Prop) → Prop := fun ds Kd => ∃ (s : Str) (f : Fo), ds = [.str s] ∧ s.length ≤ 999 ∧ ofM (tl s) = some f ∧ Kd (fst f)
def gName : D → D
  | .str t => .bl (nameB t)
  | _ => .bl false
def gPos : D → D
  | .int i => .bl (decide (0 < i))
  | _ => .bl false
theorem map_name (rows : List Fs.Row) : (rows.map nm1).map gName = (rows.map fun x => nmB x.1).map D.bl := by
  rw [List.map_map, List.map_map]
  refine List.map_congr_left fun x _ => ?_
  show D.bl (nameB (mkS x.1)) = D.bl (nmB x.1)
  rw [name_eq]
theorem map_pos (rows : List Fs.Row) : (rows.map dp1).map gPos = (rows.map fun x => decide (0 < x.2)).map D.bl := by
  rw [List.map_map, List.map_map] <;> rfl
theorem all_map {α : Type} (p : α → Bool) (l : List α) : (l.map p).all _root_.id = l.all p := by
  rw [List.all_map]
  rfl
theorem of_minus {s : Str} (h : s = "-") : ofM (tl s) = some .nil := by
  rw [h, mn_mk]
  rfl
theorem tl_minus {s : Str} (h : ¬ s = "-") : ¬ tl s = [45] := fun e => h (by rw [mn_mk, ← e, mk_tl'])
/-- the rows of a fine text -/
theorem of_rows {s : Str} {f : Fo} (h : ofM (tl s) = some f) (hs : ¬ s = "-") : Fs.rw f 1 = rdL [] 1 (tl s) ∧ fo (par (rdL [] 1 (tl s))) = f := by
  obtain ⟨e, hk⟩ := Fs.of_some h
  have hn : f ≠ .nil := fun e2 => by
    subst e2
    exact tl_minus hs e
  have et : Fs.tx f = Fs.tx0 f := by
    cases f with
    | nil => exact absurd rfl hn
    | cons a b c => rfl
  have er : rdL [] 1 (tl s) = Fs.rw f 1 := by rw [e, et, Fs.rd_tx0 hk]
  exact ⟨er.symm, by rw [er, Fs.par_tx]⟩
theorem rd_fit {s : Str} (hl : s.length ≤ 999) : Fit 1000 (rdL [] 1 (tl s)) := by
  obtain ⟨h1, h2⟩ := rd_len (tl s) [] 1
  rw [← len_tl] at h1 h2
  refine ⟨by omega, fun x hx => ?_⟩
  obtain ⟨g1, g2, g3⟩ := h2 x hx
  simp only [List.length_nil] at g1
  exact ⟨by omega, by omega, by omega⟩
section
variable {P : Program} {w : World} {K : PySem.W.Frag} {mg : Str → Option Value} {base : Heap} {C : Addr}
structure Ofs (P : Program) (w : World) (K : PySem.W.Frag) (mg : Str → Option Value) (base : Heap) (C : Addr) where
  T : Tx K mg C
  za : mg "all" = none
  fI : Addr
  dI : FuncData
  d1 : List Value
  M : Mk K C fI
  I : FnOk P w K mg base CX0 2 fI dI ["self", "trees"] (spU (gc K C) cInit)
  b2 : Binds K dI ["self", "trees"] []
  b1 : Binds K dI ["self", "trees"] d1
  e1 : Dfl (gc K C) [.tup []] d1
  NM : FnC P w K mg base "is_name" 1 ["thing"] (spP (gc K C) cName)
  RD : FnC P w K mg base "read_rows" 1 ["text"] (spP (gc K C) cRead)
  WR : FnC P w K mg base "written" 2 ["names", "depths"] (spP (gc K C) cWrit)
  NE : FnC P w K mg base "nested" 1 ["names", "depths"] (spP (gc K C) cNest)
  gB : mg "BadText" = some (.ref (adr K "BadText"))
  kB : PySem.W.keepIn K (.ref (adr K "BadText")) = true
  qB : PySem.W.excIn K (adr K "BadText") [.type "ValueError", .type "Exception", .type "BaseException", .type "object"] "ValueError.__new__" = true
  sB : PySem.W.subIn K (.ref (adr K "BadText")) (.type "BaseException") = some true
  tB : PySem.W.typeIn K (.ref (adr K "BadText")) = some (.type "type")
theorem ok_of {f : Addr} {fd : FuncData} (F : Fun K "of" "Forest.of" mOf f fd) (L : Ofs P w K mg base C) : FnOk P w K mg base (L2.CX P w) 4 f fd ["text"] (spX (gc K C) cOf) := by
  refine def_x F scOf (fun ds Kd Ke h => ?_) (fun cdv A outer s0 H E ds Kd Ke W hr h tk => ?_)
  · obtain ⟨s, rfl, _⟩ := h
    rfl
  · obtain ⟨s, rfl, hl, kd, ke⟩ := h
    have hN := scOf.nd
    by_cases h1 : s = "-"
    · refine wbx_of <| wb_cons <| ws_if <| wt_cmp <| we_name .hd <| we_str <| o_eqS (decide_eq_true h1) ⟨_, rfl, fun _ => ?_, fun h => absurd h (by decide)⟩
      exact wb_one <| ws_ret <| we_make0 (n := 0) (G := gc K C) L.M L.I (hr.mono (by decide)) L.T.mC L.b1 L.e1 ⟨.nil, rfl, rfl, by decide, rfl, _, rfl, kd _ (of_minus h1)⟩
    refine wbx_cons <| ws_if <| wt_cmp <| we_name .hd <| we_str <| o_eqS (decide_eq_false h1) ⟨_, rfl, fun h => absurd h (by decide), fun _ => wb_nil ?_⟩
    refine wbx_cons <| ws_tup rfl rfl hN (xs := ["names", "depths"]) (.cons (.cons .nil)) (two_ok ⟨by first | exact .inl rfl | exact .inr rfl, by first | exact .inl rfl | exact .inr rfl⟩ ⟨by first | exact .inl rfl | exact .inr rfl, by first | exact .inl rfl | exact .inr rfl⟩) <| we_call L.RD.ok (hr.mono (by decide)) L.RD.m L.RD.kp L.RD.b dfl_nil <| wa_cons <| we_name .hd <| wa_nil ⟨s, rfl, hl, _, _, rfl, rfl, .cons (.tl .hd) (.cons (.tl (.tl .hd)) .nil), ?_⟩
    have hfit := rd_fit hl
    have hof : ofM (tl s) = if ((rdL [] 1 (tl s)).all (fun x => nmB x.1) && (rdL [] 1 (tl s)).all (fun x => decide (0 < x.2)) && decide (Fs.wr (rdL [] 1 (tl s)) = tl s)) = true then some (fo (par (rdL [] 1 (tl s)))) else none := by
      unfold ofM
      rw [if_neg (tl_minus h1)]
    have hrows := fun f hf => of_rows (s := s) (f := f) hf h1
    obtain ⟨rows, er⟩ : ∃ rows, rows = rdL [] 1 (tl s) := ⟨_, rfl⟩
    rw [← er] at hfit hof hrows ⊢
    have hl1 := hfit.1
    have bad : ∀ {Γ : En} {p1 p2 p3 : Pos} {KK : Ot → Prop}, ofM (tl s) = none → WBX (cxOf (L2.CX P w) P w K mg base nOf "Forest.of" (defScope mOf) f cdv A outer s0 H E) (gc K C) Γ [.Raise (some (.Call (.Name "BadText" p1) [] [] p2)) none p3] KK Ke W := fun hn => wbx_raise (n := 1) rfl tk PySem.F.excBase_ValueError L.qB L.gB L.kB (raises_own L.sB L.tB) (ke hn)
    refine wbx_if <| wt_w <| ww_or <| wt_not <| wt_val <| we_callB (id := "all") (by rfl) L.za <| wa_cons <| we_new <| wl_map (own := [("name", 3)]) gName rfl rfl hN (blkOk_by (show blkC nOf (defScope mOf) _ _ = true by decide +kernel)) (fun _ _ _ _ _ => tgOk_name hN) <|
      wi_seq rfl <| we_name (.tl .hd) ⟨_, rfl, _, .cons (.tl (.tl (.tl .hd))) .nil, by rw [List.length_map]; omega, fun d hd => ?_, ?_⟩
    · obtain ⟨x, hx, rfl⟩ := List.mem_map.mp hd
      have hx1 := (hfit.2 x hx).1
      exact ⟨_, _, .name, rfl, .cons (.tl (.tl (.tl .hd))) .nil, fun _ _ _ _ _ => we_call L.NM.ok (hr.mono (by decide)) L.NM.m L.NM.kp L.NM.b dfl_nil <| wa_cons <| we_name (.tl (.tl (.tl .hd))) <| wa_nil ⟨_, rfl, by rw [len_mk]; omega, rfl, .cons (.tl (.tl (.tl .hd))) .nil⟩⟩
    rw [map_name]
    refine wa_nil <| cd_all rfl rfl ⟨_, rfl, ?_⟩
    rw [all_map]
    refine ⟨fun hc => ⟨fun _ => bad ?_, fun h => absurd h (by decide)⟩, fun hc => ?_⟩
    · rw [hof]
      have hc : (rows.all fun x => nmB x.1) = false := by simpa using hc
      rw [hc] <;> rfl
    have hc1 : (rows.all fun x => nmB x.1) = true := by simpa using hc
    refine ww_or1 <| wt_not <| wt_val <| we_callB (id := "all") (by rfl) L.za <| wa_cons <| we_new <| wl_map (own := [("depth", 4)]) gPos rfl rfl hN (blkOk_by (show blkC nOf (defScope mOf) _ _ = true by decide +kernel)) (fun _ _ _ _ _ => tgOk_name hN) <|
      wi_seq rfl <| we_name (.tl (.tl .hd)) ⟨_, rfl, _, .cons (.tl (.tl (.tl (.tl .hd)))) .nil, by rw [List.length_map]; omega, fun d hd => ?_, ?_⟩
    · obtain ⟨x, hx, rfl⟩ := List.mem_map.mp hd
      exact ⟨_, _, .name, rfl, .cons (.tl (.tl (.tl (.tl .hd)))) .nil, fun _ _ _ _ _ => we_cmp <| we_name (.tl (.tl (.tl (.tl .hd)))) <| we_int <| bo_gt ⟨rfl, .cons (.tl (.tl (.tl (.tl .hd)))) .nil⟩⟩
    rw [map_pos]
    refine wa_nil <| cd_all rfl rfl ⟨_, rfl, ?_⟩
    rw [all_map]
    refine ⟨fun hc => bad ?_, fun hc => wbx_nil ?_⟩
    · rw [hof]
      have hc : (rows.all fun x => decide (0 < x.2)) = false := by simpa using hc
      rw [hc, hc1] <;> rfl
    have hc2 : (rows.all fun x => decide (0 < x.2)) = true := by simpa using hc
    rw [hc1, hc2] at hof
    refine wbx_if <| wt_cmp <| we_call L.WR.ok (hr.mono (by decide)) L.WR.m L.WR.kp L.WR.b dfl_nil <| wa_cons <| we_name (.tl .hd) <| wa_cons <| we_name (.tl (.tl .hd)) <| wa_nil ⟨_, _, rows, rfl, .inl rfl, .inl rfl, hfit, we_name .hd <| bo_ne rfl rfl rfl ⟨_, rfl, fun hc => bad ?_, fun hc => wbx_nil ?_⟩⟩
    · have hw : ¬ Fs.wr rows = tl s := fun e => by
        revert hc
        rw [e, mk_tl']
        simp
      rw [hof, decide_eq_false hw] <;> rfl
    · have hw : Fs.wr rows = tl s := by
        have e1 : V.str (mkS (Fs.wr rows)) = V.str s := by simpa using hc
        have e2 := V.str.inj e1
        rw [← e2] <;> rfl
      have hf : ofM (tl s) = some (fo (par rows)) := by
        rw [hof, decide_eq_true hw] <;> rfl
      have hr1 := (hrows _ hf).1
      exact wbx_of <| wb_one <| ws_ret <| we_make (n := 0) (G := gc K C) L.M L.I (hr.mono (by decide)) L.T.mC L.b2 dfl_nil <| wa_cons <| we_call L.NE.ok (hr.mono (by decide)) L.NE.m L.NE.kp L.NE.b dfl_nil <| wa_cons <| we_name (.tl .hd) <| wa_cons <| we_name (.tl (.tl .hd)) <| wa_nil ⟨_, _, rows, rfl, .inl rfl, .inl rfl, hl1, wa_nil ⟨fo (par rows), rfl, rfl, by rw [hr1]; exact hl1, rfl, _, rfl, kd _ hf⟩⟩
theorem ok_ofP {f : Addr} {fd : FuncData} (F : Fun K "of" "Forest.of" mOf f fd) (L : Ofs P w K mg base C) : FnOk P w K mg base CX0 4 f fd ["text"] (spP (gc K C) cOfP) := by
  refine def_p F scOf (fun ds Kd h => ?_) (fun cdv A outer s0 H E ds Kd hr h => ?_)
  · obtain ⟨s, _, rfl, _⟩ := h
    rfl
  · obtain ⟨s, g, rfl, hl, hg, kd0⟩ := h
    have kd : ∀ f, ofM (tl s) = some f → Kd (fst f) := fun f hf => by rw [hg] at hf; obtain rfl := Option.some.inj hf; exact kd0
    have ke : ofM (tl s) = none → False := fun h => by rw [hg] at h; cases h
    have hN := scOf.nd
    by_cases h1 : s = "-"
    · refine wb_cons <| ws_if <| wt_cmp <| we_name .hd <| we_str <| o_eqS (decide_eq_true h1) ⟨_, rfl, fun _ => ?_, fun h => absurd h (by decide)⟩
      exact wb_one <| ws_ret <| we_make0 (n := 0) (G := gc K C) L.M L.I (hr.mono (by decide)) L.T.mC L.b1 L.e1 ⟨.nil, rfl, rfl, by decide, rfl, _, rfl, kd _ (of_minus h1)⟩
    refine wb_cons <| ws_if <| wt_cmp <| we_name .hd <| we_str <| o_eqS (decide_eq_false h1) ⟨_, rfl, fun h => absurd h (by decide), fun _ => wb_nil ?_⟩
    refine wb_cons <| ws_tup rfl rfl hN (xs := ["names", "depths"]) (.cons (.cons .nil)) (two_ok ⟨by first | exact .inl rfl | exact .inr rfl, by first | exact .inl rfl | exact .inr rfl⟩ ⟨by first | exact .inl rfl | exact .inr rfl, by first | exact .inl rfl | exact .inr rfl⟩) <| we_call L.RD.ok (hr.mono (by decide)) L.RD.m L.RD.kp L.RD.b dfl_nil <| wa_cons <| we_name .hd <| wa_nil ⟨s, rfl, hl, _, _, rfl, rfl, .cons (.tl .hd) (.cons (.tl (.tl .hd)) .nil), ?_⟩
    have hfit := rd_fit hl
    have hof : ofM (tl s) = if ((rdL [] 1 (tl s)).all (fun x => nmB x.1) && (rdL [] 1 (tl s)).all (fun x => decide (0 < x.2)) && decide (Fs.wr (rdL [] 1 (tl s)) = tl s)) = true then some (fo (par (rdL [] 1 (tl s)))) else none := by
      unfold ofM
      rw [if_neg (tl_minus h1)]
    have hrows := fun f hf => of_rows (s := s) (f := f) hf h1
    obtain ⟨rows, er⟩ : ∃ rows, rows = rdL [] 1 (tl s) := ⟨_, rfl⟩
    rw [← er] at hfit hof hrows ⊢
    have hl1 := hfit.1
    have bad : ∀ {PP : Prop}, ofM (tl s) = none → PP := fun hn => (ke hn).elim
    refine wb_cons <| ws_if <| wt_w <| ww_or <| wt_not <| wt_val <| we_callB (id := "all") (by rfl) L.za <| wa_cons <| we_new <| wl_map (own := [("name", 3)]) gName rfl rfl hN (blkOk_by (show blkC nOf (defScope mOf) _ _ = true by decide +kernel)) (fun _ _ _ _ _ => tgOk_name hN) <|
      wi_seq rfl <| we_name (.tl .hd) ⟨_, rfl, _, .cons (.tl (.tl (.tl .hd))) .nil, by rw [List.length_map]; omega, fun d hd => ?_, ?_⟩
    · obtain ⟨x, hx, rfl⟩ := List.mem_map.mp hd
      have hx1 := (hfit.2 x hx).1
      exact ⟨_, _, .name, rfl, .cons (.tl (.tl (.tl .hd))) .nil, fun _ _ _ _ _ => we_call L.NM.ok (hr.mono (by decide)) L.NM.m L.NM.kp L.NM.b dfl_nil <| wa_cons <| we_name (.tl (.tl (.tl .hd))) <| wa_nil ⟨_, rfl, by rw [len_mk]; omega, rfl, .cons (.tl (.tl (.tl .hd))) .nil⟩⟩
    rw [map_name]
    refine wa_nil <| cd_all rfl rfl ⟨_, rfl, ?_⟩
    rw [all_map]
    refine ⟨fun hc => ⟨fun _ => bad ?_, fun h => absurd h (by decide)⟩, fun hc => ?_⟩
    · rw [hof]
      have hc : (rows.all fun x => nmB x.1) = false := by simpa using hc
      rw [hc] <;> rfl
    have hc1 : (rows.all fun x => nmB x.1) = true := by simpa using hc
    refine ww_or1 <| wt_not <| wt_val <| we_callB (id := "all") (by rfl) L.za <| wa_cons <| we_new <| wl_map (own := [("depth", 4)]) gPos rfl rfl hN (blkOk_by (show blkC nOf (defScope mOf) _ _ = true by decide +kernel)) (fun _ _ _ _ _ => tgOk_name hN) <|
      wi_seq rfl <| we_name (.tl (.tl .hd)) ⟨_, rfl, _, .cons (.tl (.tl (.tl (.tl .hd)))) .nil, by rw [List.length_map]; omega, fun d hd => ?_, ?_⟩
    · obtain ⟨x, hx, rfl⟩ := List.mem_map.mp hd
      exact ⟨_, _, .name, rfl, .cons (.tl (.tl (.tl (.tl .hd)))) .nil, fun _ _ _ _ _ => we_cmp <| we_name (.tl (.tl (.tl (.tl .hd)))) <| we_int <| bo_gt ⟨rfl, .cons (.tl (.tl (.tl (.tl .hd)))) .nil⟩⟩
    rw [map_pos]
    refine wa_nil <| cd_all rfl rfl ⟨_, rfl, ?_⟩
    rw [all_map]
    refine ⟨fun hc => bad ?_, fun hc => wb_nil ?_⟩
    · rw [hof]
      have hc : (rows.all fun x => decide (0 < x.2)) = false := by simpa using hc
      rw [hc, hc1] <;> rfl
    have hc2 : (rows.all fun x => decide (0 < x.2)) = true := by simpa using hc
    rw [hc1, hc2] at hof
    refine wb_cons <| ws_if <| wt_cmp <| we_call L.WR.ok (hr.mono (by decide)) L.WR.m L.WR.kp L.WR.b dfl_nil <| wa_cons <| we_name (.tl .hd) <| wa_cons <| we_name (.tl (.tl .hd)) <| wa_nil ⟨_, _, rows, rfl, .inl rfl, .inl rfl, hfit, we_name .hd <| bo_ne rfl rfl rfl ⟨_, rfl, fun hc => bad ?_, fun hc => wb_nil ?_⟩⟩
    · have hw : ¬ Fs.wr rows = tl s := fun e => by
        revert hc
        rw [e, mk_tl']
        simp
      rw [hof, decide_eq_false hw] <;> rfl
    · have hw : Fs.wr rows = tl s := by
        have e1 : V.str (mkS (Fs.wr rows)) = V.str s := by simpa using hc
        have e2 := V.str.inj e1
        rw [← e2] <;> rfl
      have hf : ofM (tl s) = some (fo (par rows)) := by
        rw [hof, decide_eq_true hw] <;> rfl
      have hr1 := (hrows _ hf).1
      exact wb_one <| ws_ret <| we_make (n := 0) (G := gc K C) L.M L.I (hr.mono (by decide)) L.T.mC L.b2 dfl_nil <| wa_cons <| we_call L.NE.ok (hr.mono (by decide)) L.NE.m L.NE.kp L.NE.b dfl_nil <| wa_cons <| we_name (.tl .hd) <| wa_cons <| we_name (.tl (.tl .hd)) <| wa_nil ⟨_, _, rows, rfl, .inl rfl, .inl rfl, hl1, wa_nil ⟨fo (par rows), rfl, rfl, by rw [hr1]; exact hl1, rfl, _, rfl, kd _ hf⟩⟩
end
end Wf

set_option Elab.async false
set_option maxRecDepth 100000
set_option maxHeartbeats 4000000
namespace Wf
open PySem PySem.Spec PyProof.Rows L2 Dv TL
open Ko (mkS nameB okS)
def Pool (d : D) (xs : List Str) : Prop := d = .lst (xs.map .str) ∨ ∃ s : Str, d = .str s ∧ signs s = xs
theorem pool_len {d : D} {xs : List Str} (h : Pool d xs) {s : Str} (e : d = .str s) : s.length = xs.length := by
  rcases h with h | ⟨t, h, hs⟩
  · rw [e] at h; cases h
  · rw [e] at h
    cases h
    rw [← hs, signs_length]
section
variable {X : Cx} {G : Gc}
theorem cl_pool {KL : List D → Prop} {d : D} {xs : List Str} (hK : G.K = X.K) (hc : X.calm = true) (h : Pool d xs) (hl : xs.length ≤ 100000) (k : KL (xs.map .str)) : CL X G (.type "list") [d] KL := by
  rcases id h with rfl | ⟨s, rfl, hs⟩
  · exact cl_list hK (.inl rfl) k
  · have e := pool_len h rfl
    exact cl_listS hc (by omega) (by rw [hs]; exact k)
theorem cd_pool {KD : D → Prop} {d : D} {xs : List Str} (hK : G.K = X.K) (h : Pool d xs) (hl : xs.length ≤ 100000) (k : KD (.int xs.length)) : CD X G (.builtin "len") [d] KD := by
  rcases id h with rfl | ⟨s, rfl, hs⟩
  · refine cd_len hK (.inl rfl) ?_
    rw [List.length_map]
    exact k
  · have e := pool_len h rfl
    refine cd_lenS (Nat.le_trans (by omega) (show 100000 ≤ sizeLine by decide)) ?_
    rw [e]
    exact k
end
section
variable {P : Program} {w : World} {K : PySem.W.Frag} {mg : Str → Option Value} {base : Heap} {C : Addr} {G : Gc}
def cMixed : Cn → List D → (D → Cn → Prop) → Prop := fun c ds KK => ∃ (m : Nat) (d : D) (xs : List Str), Urn m c ∧ m + xs.length < 1000000 ∧ ds = [d] ∧ Pool d xs ∧ xs.length ≤ 100 ∧ ∀ (ys : List Str) c', ys.Perm xs → Urn (m + xs.length) c' → KK (.lst (ys.map .str)) c'
abbrev nMixed : List Str := ["_law_urn", "_law_pool", "_law_rest_so", "_law_found", "_law_turn"]
theorem scMixed : FnScope nMixed ["_law_urn", "_law_pool"] (defScope t__law_mixed) := ⟨rfl, rfl, rfl, by decide +kernel, rfl, by decide +kernel, by decide +kernel⟩
theorem ok_mixed {f fT : Addr} {fd fdT : FuncData} (F : Fun K "_law_mixed" "_law_mixed" t__law_mixed f fd) (hG : G.K = K) (zl : mg "list" = none) (zn : mg "len" = none) (zr : mg "range" = none)
    (T : FnOk P w K mg base CX0 1 fT fdT ["_law_urn", "_law_low_so"] (spU G cTake)) (bT : Binds K fdT ["_law_urn", "_law_low_so"] []) (mT : mg "_law_take" = some (.ref fT)) (kT : PySem.W.keepIn K (.ref fT) = true) :
    FnOk P w K mg base CX0 2 f fd ["_law_urn", "_law_pool"] (spU G cMixed) := by
  refine def_u F scMixed (fun c ds Kd h => ?_) (fun cdv A outer s H E p c ds Kd hr h => ?_)
  · obtain ⟨m, d, xs, _, _, rfl, _⟩ := h
    rfl
  · obtain ⟨m, d, xs, hu, hm, rfl, hp, hl, kk⟩ := h
    have hN := scMixed.nd
    refine wb_cons <| ws_parO (i := 2) (j := 3) rfl hN rfl rfl (by decide) (by rfl) (by rfl) (wo_own (wl_callT (T := "list") (by rfl) zl <| wa_cons <| we_name (.tl .hd) <| wa_nil <| cl_pool hG rfl hp (by omega) <|
      wo_own <| wl_lst <| wa_nil ⟨by decide, wo_nil ⟨rfl, _, .cons (.tl (.tl .hd)) (.cons (.tl (.tl (.tl .hd))) .nil), ?_⟩⟩))
    refine wb_cons <| ws_for ["_law_turn"] hG rfl PassesOwn.never (tgOk_name hN) <| wi_range zr <| we_callB (id := "len") (by rfl) zn <| wa_cons <| we_name (.tl .hd) <| wa_nil <| cd_pool hG hp (by omega) ⟨_, rfl, by omega, by omega, ?_⟩
    refine ⟨fun i Γ2 => ∃ (rest found : List Str) (cc : Cn) (tv : Sl), Γ2 = ([("_law_urn", .bor p cc), ("_law_pool", .val d), ("_law_rest_so", .own (.lst (rest.map .str))), ("_law_found", .own (.lst (found.map .str))), ("_law_turn", tv)] : En) ∧
      Urn (m + i) cc ∧ found.length = i ∧ (found ++ rest).Perm xs, ⟨xs, [], c, .un, rfl, hu, rfl, .refl _⟩, fun i z Γ2 hz hpv => ?_, fun Γ2 hpv => ?_⟩
    · obtain ⟨rest, found, cc, tv, rfl, hu2, hf, hperm⟩ := hpv
      have hi : i < xs.length := by
        have := (List.getElem?_eq_some_iff.mp hz).1
        rw [List.length_map, List.length_range] at this
        omega
      have hlen : found.length + rest.length = xs.length := by rw [← List.length_append]; exact hperm.length_eq
      refine ⟨_, _, .name, rfl, .cons (.tl (.tl (.tl (.tl .hd)))) .nil, ?_⟩
      obtain ⟨us, ec⟩ := hu2.ex
      subst ec
      refine wb_one <| ws_expr <| we_append hN (.tl (.tl (.tl .hd))) .own <| wa_cons <| we_popAt hN (.tl (.tl .hd)) .own <| wa_cons <| we_callU hN T hr mT kT bT dfl_nil .hd .bor <| wa_cons <| we_lenOwn zn (.tl (.tl .hd)) .own <| wa_nil
        ⟨_, _, .hd, .bor, m + i, _, hu2, by omega, rfl, by rw [List.length_map]; omega, by rw [List.length_map]; omega, fun v c' v0 v1 hu3 => ⟨_, _, .bor, .hd, ?_⟩⟩
      rw [List.length_map] at v1
      have hk : v.toNat < rest.length := by omega
      have hx : rest[v.toNat]? = some rest[v.toNat] := List.getElem?_eq_getElem hk
      refine wa_nil ⟨v.toNat, .str rest[v.toNat], _, _, _, _, by rw [Int.toNat_of_nonneg v0], by rw [List.getElem?_map, hx]; rfl, by rw [List.length_map]; omega, .tl (.tl .hd), .own, ?_⟩
      refine wa_nil ⟨_, _, _, _, _, rfl, .tl (.tl (.tl .hd)), .own, by rw [List.length_map]; omega, ?_⟩
      refine ⟨rest.eraseIdx v.toNat, found ++ [rest[v.toNat]], c', .val z, ?_, by rw [Nat.add_assoc] at hu3; exact hu3, by rw [List.length_append, hf] <;> rfl, ?_⟩
      · rw [List.map_append, er_map] <;> rfl
      · refine List.Perm.trans ?_ hperm
        rw [List.append_assoc]
        exact (pick_perm1 hx).append_left found
    · obtain ⟨rest, found, cc, tv, rfl, hu2, hf, hperm⟩ := hpv
      have hn : ((List.range ((xs.length : Int)).toNat).map fun i => D.int (i : Nat)).length = xs.length := by simp
      rw [hn] at hu2 hf
      have hlen : found.length + rest.length = xs.length := by rw [← List.length_append]; exact hperm.length_eq
      have hr0 : rest = [] := List.eq_nil_of_length_eq_zero (by omega)
      subst hr0
      rw [List.append_nil] at hperm
      exact wb_one <| ws_ret <| we_freeze (.tl (.tl (.tl .hd))) ⟨_, .hd, kk found cc hperm hu2⟩
end


/-- a NAME to be drawn -/
def Wd (x : Str) : Prop := 1 ≤ x.length ∧ x.length ≤ 8 ∧ PyData.strOk x = true ∧ nameB x = true
instance (x : Str) : Decidable (Wd x) := by unfold Wd; infer_instance
structure Tags (ts : List Str) : Prop where
  three : ts.length = 3
  one : ts.Nodup
  ok : ∀ x ∈ ts, Wd x
def pool0 : List Str := ["a", "b", "c", "d", "e", "f", "g", "h"]
def pool1 : List Str := ["a", "ab", "abc", "b", "ba", "z", "zzzzzzzz", "y"]
def pool2 : List Str := ["div", "span", "p", "pre", "em", "script", "all", "none"]
theorem tags_of {P ys : List Str} (n : P.Nodup) (ok : ∀ x ∈ P, Wd x) (l : P.length = 8) (p : ys.Perm P) : Tags (ys.take 3) := by
  refine ⟨?_, (p.nodup_iff.mpr n).sublist (List.take_sublist 3 ys), fun x hx => ok x (p.mem_iff.mp (List.mem_of_mem_take hx))⟩
  rw [List.length_take, p.length_eq, l] <;> rfl
section
variable {P : Program} {w : World} {K : PySem.W.Frag} {mg : Str → Option Value} {base : Heap} {C : Addr} {G : Gc}
def cTags : Cn → List D → (D → Cn → Prop) → Prop := fun c ds KK => ∃ (m : Nat), Urn m c ∧ m < 100000 ∧ ds = [.int 3] ∧ ∀ (ts : List Str) c', Tags ts → Urn (m + 9) c' → KK (.lst (ts.map .str)) c'
abbrev nTags : List Str := ["_law_urn", "_law_many_so", "_law_style"]
theorem scTags : FnScope nTags ["_law_urn", "_law_many_so"] (defScope t__law_tags) := ⟨rfl, rfl, rfl, by decide +kernel, rfl, by decide +kernel, by decide +kernel⟩
theorem cut3 {ys : List Str} (h : ys.length = 8) : Dv.cutD (ys.map .str) none (some 3) = (ys.take 3).map .str := by
  unfold Dv.cutD
  rw [List.length_map, h, List.map_take]
  rfl
theorem ok_tags {f fT fM : Addr} {fd fdT fdM : FuncData} (F : Fun K "_law_tags" "_law_tags" t__law_tags f fd) (hG : G.K = K)
    (T : FnOk P w K mg base CX0 1 fT fdT ["_law_urn", "_law_low_so"] (spU G cTake)) (bT : Binds K fdT ["_law_urn", "_law_low_so"] []) (mT : mg "_law_take" = some (.ref fT)) (kT : PySem.W.keepIn K (.ref fT) = true)
    (M : FnOk P w K mg base CX0 2 fM fdM ["_law_urn", "_law_pool"] (spU G cMixed)) (bM : Binds K fdM ["_law_urn", "_law_pool"] []) (mM : mg "_law_mixed" = some (.ref fM)) (kM : PySem.W.keepIn K (.ref fM) = true) :
    FnOk P w K mg base CX0 3 f fd ["_law_urn", "_law_many_so"] (spU G cTags) := by
  refine def_u F scTags (fun c ds Kd h => ?_) (fun cdv A outer s H E p c ds Kd hr h => ?_)
  · obtain ⟨m, _, _, rfl, _⟩ := h
    rfl
  · obtain ⟨m, hu, hm, rfl, kk⟩ := h
    have hN := scTags.nd
    refine wb_cons <| ws_set hN <| we_callU hN T (hr.mono (by decide)) mT kT bT dfl_nil .hd .bor <| wa_cons <| we_int <| wa_nil ⟨_, _, .hd, .bor, m, 3, hu, by omega, rfl, by decide, by decide, fun v c1 v0 v1 hu1 => ⟨_, _, .bor, .hd, _, _, .tl (.tl .hd), ?_⟩⟩
    refine wb_cons <| ws_if <| wt_cmp <| we_name (.tl (.tl .hd)) <| we_int <| bo_eq rfl rfl rfl ⟨_, rfl, fun _ => ?_, fun _ => wb_nil ?_⟩
    · refine wb_one <| ws_ret <| we_new <| wl_slice hG <| we_callU hN M hr mM kM bM dfl_nil .hd .bor <| wa_cons <| we_str <| wa_nil ⟨_, _, .hd, .bor, m + 1, _, pool0, hu1, by show m + 1 + 8 < 1000000; omega, rfl, .inr ⟨_, rfl, by decide +kernel⟩, by decide, fun ys c2 hp hu2 => ⟨_, _, .bor, .hd, _, rfl, .none (.some (we_name (.tl .hd) ⟨3, rfl, _, .hd, ?_⟩))⟩⟩
      rw [cut3 (by rw [hp.length_eq] <;> rfl)]
      exact kk _ _ (tags_of (by decide +kernel) (by decide +kernel) rfl hp) hu2
    · refine wb_cons <| ws_if <| wt_cmp <| we_name (.tl (.tl .hd)) <| we_int <| bo_eq rfl rfl rfl ⟨_, rfl, fun _ => ?_, fun _ => wb_nil ?_⟩
      · refine wb_one <| ws_ret <| we_new <| wl_slice hG <| we_callU hN M hr mM kM bM dfl_nil .hd .bor <| wa_cons <| we_new ?_
        refine wl_lst ?_
        refine wa_cons (we_str ?_)
        refine wa_cons (we_str ?_)
        refine wa_cons (we_str ?_)
        refine wa_cons (we_str ?_)
        refine wa_cons (we_str ?_)
        refine wa_cons (we_str ?_)
        refine wa_cons (we_str ?_)
        refine wa_cons (we_str ?_)
        refine wa_nil ⟨by decide, ?_⟩
        refine wa_nil ⟨_, _, .hd, .bor, m + 1, .lst (pool1.map .str), pool1, hu1, by show m + 1 + 8 < 1000000; omega, rfl, .inl rfl, by decide, fun ys c2 hp hu2 => ?_⟩
        refine ⟨_, _, .bor, .hd, _, rfl, .none (.some (we_name (.tl .hd) ⟨3, rfl, _, .hd, ?_⟩))⟩
        rw [cut3 (by rw [hp.length_eq] <;> rfl)]
        exact kk _ _ (tags_of (by decide +kernel) (by decide +kernel) rfl hp) hu2
      · refine wb_one <| ws_ret <| we_new <| wl_slice hG <| we_callU hN M hr mM kM bM dfl_nil .hd .bor <| wa_cons <| we_new ?_
        refine wl_lst ?_
        refine wa_cons (we_str ?_)
        refine wa_cons (we_str ?_)
        refine wa_cons (we_str ?_)
        refine wa_cons (we_str ?_)
        refine wa_cons (we_str ?_)
        refine wa_cons (we_str ?_)
        refine wa_cons (we_str ?_)
        refine wa_cons (we_str ?_)
        refine wa_nil ⟨by decide, ?_⟩
        refine wa_nil ⟨_, _, .hd, .bor, m + 1, .lst (pool2.map .str), pool2, hu1, by show m + 1 + 8 < 1000000; omega, rfl, .inl rfl, by decide, fun ys c2 hp hu2 => ?_⟩
        refine ⟨_, _, .bor, .hd, _, rfl, .none (.some (we_name (.tl .hd) ⟨3, rfl, _, .hd, ?_⟩))⟩
        rw [cut3 (by rw [hp.length_eq] <;> rfl)]
        exact kk _ _ (tags_of (by decide +kernel) (by decide +kernel) rfl hp) hu2
end

/-! ### rows, drawn -/
def rowD (x : Fs.Row) : D := .tup [.int x.2, .str (mkS x.1)]
def cRows : Cn → List D → (D → Cn → Prop) → Prop := fun c ds KK => ∃ (m : Nat) (ts : List Str), Urn m c ∧ m < 100000 ∧ ds = [.lst (ts.map .str), .int 9] ∧ Tags ts ∧
  ∀ (rows : List Fs.Row) c', Fs.vr 0 rows → (∀ x ∈ rows, Fs.nmB x.1 = true) → rows.length ≤ 9 → Urn (m + 40) c' → KK (.tup (rows.map rowD)) c'
abbrev nRows : List Str := ["_law_urn", "_law_tags_here", "_law_most", "_law_found", "_law_deep", "_law_turn"]
theorem scRows : FnScope nRows ["_law_urn", "_law_tags_here", "_law_most"] (defScope t__law_rows) := ⟨rfl, rfl, rfl, by decide +kernel, rfl, by decide +kernel, by decide +kernel⟩
/-- the last depth -/
def ld : Int → List Fs.Row → Int
  | a, [] => a
  | _, (_, d) :: r => ld d r
theorem vr_snoc : ∀ (rows : List Fs.Row) (a : Int) (n : List Nat) (e : Int), Fs.vr a rows → 1 ≤ e → e ≤ ld a rows + 1 → Fs.vr a (rows ++ [(n, e)]) ∧ ld a (rows ++ [(n, e)]) = e
  | [], a, n, e, _, h1, h2 => ⟨⟨h1, h2, trivial⟩, rfl⟩
  | (m, d) :: r, a, n, e, ⟨h1, h2, h3⟩, g1, g2 => by
    obtain ⟨i1, i2⟩ := vr_snoc r d n e h3 g1 g2
    exact ⟨⟨h1, h2, i1⟩, i2⟩
section
variable {P : Program} {w : World} {K : PySem.W.Frag} {mg : Str → Option Value} {base : Heap} {C : Addr} {G : Gc}
theorem ok_rows {f : Addr} {fd : FuncData} (F : Fun K "_law_rows" "_law_rows" t__law_rows f fd) (hG : G.K = K) (zr : mg "range" = none) (zt : mg "tuple" = none)
    (T : FnC P w K mg base "_law_take" 1 ["_law_urn", "_law_low_so"] (spU G cTake)) (O : FnC P w K mg base "_law_of" 2 nDraw (spU G cDraw)) :
    FnOk P w K mg base CX0 3 f fd ["_law_urn", "_law_tags_here", "_law_most"] (spU G cRows) := by
  refine def_u F scRows (fun c ds Kd h => ?_) (fun cdv A outer s H E p c ds Kd hr h => ?_)
  · obtain ⟨m, ts, _, _, rfl, _⟩ := h
    rfl
  · obtain ⟨m, ts, hu, hm, rfl, tg, kk⟩ := h
    have hN := scRows.nd
    refine wb_cons <| ws_parO (i := 3) (j := 4) rfl hN rfl rfl (by decide) (by rfl) (by rfl) (wo_own <| wl_lst <| wa_nil ⟨by decide, wo_val <| we_int <| wo_nil ⟨rfl, _, .cons (.tl (.tl (.tl .hd))) (.cons (.tl (.tl (.tl (.tl .hd)))) .nil), ?_⟩⟩)
    refine wb_cons <| ws_for ["_law_turn"] hG rfl PassesOwn.never (tgOk_name hN) <| wi_range zr <| we_callU hN T.ok (hr.mono (by decide)) T.m T.kp T.b dfl_nil .hd .bor <| wa_cons <| we_bin <| we_name (.tl (.tl .hd)) <| we_int <| bo_add <| wa_nil ⟨_, _, .hd, .bor, m, _, hu, by omega, rfl, by decide, by decide, fun n c1 n0 n1 hu1 => ⟨_, _, .bor, .hd, n, rfl, by omega, by omega, ?_⟩⟩
    have n1 : n < 10 := n1
    refine ⟨fun i Γ2 => ∃ (rows : List Fs.Row) (cc : Cn) (t5 : Sl), Γ2 = ([("_law_urn", .bor p cc), ("_law_tags_here", .val (.lst (ts.map .str))), ("_law_most", .val (.int 9)), ("_law_found", .own (.lst (rows.map rowD))), ("_law_deep", .val (.int (ld 0 rows))), ("_law_turn", t5)] : En) ∧
      Urn (m + 1 + 3 * i) cc ∧ Fs.vr 0 rows ∧ (∀ x ∈ rows, Fs.nmB x.1 = true) ∧ rows.length = i ∧ 0 ≤ ld 0 rows ∧ ld 0 rows ≤ i, ⟨[], c1, .un, rfl, hu1, trivial, fun x h => by simp at h, rfl, Int.le_refl _, Int.le_refl _⟩, fun i z Γ2 hz hpv => ?_, fun Γ2 hpv => ?_⟩
    · obtain ⟨rows, cc, t5, rfl, hu2, hv, hn, hl, d0, d1⟩ := hpv
      have hi := (List.getElem?_eq_some_iff.mp hz).1
      rw [List.length_map, List.length_range] at hi
      have hi9 : i < 9 := by omega
      refine ⟨_, _, .name, rfl, .cons (.tl (.tl (.tl (.tl (.tl .hd))))) .nil, ?_⟩
      obtain ⟨us, ec⟩ := hu2.ex
      subst ec
      refine wb_cons <| ws_set hN <| we_mono (K := fun d Γ' => ∃ (e : Int) (c' : Cn), d = .int e ∧ 1 ≤ e ∧ e ≤ ld 0 rows + 1 ∧ Urn (m + 1 + 3 * i + 2) c' ∧ Γ' = ([("_law_urn", .bor p c'), ("_law_tags_here", .val (.lst (ts.map .str))), ("_law_most", .val (.int 9)), ("_law_found", .own (.lst (rows.map rowD))), ("_law_deep", .val (.int (ld 0 rows))), ("_law_turn", .val z)] : En)) ?_ fun d Γ' he => ?_
      · refine we_if <| wt_w <| ww_or <| wt_cmp <| we_name (.tl (.tl (.tl (.tl .hd)))) <| we_int <| bo_eq rfl rfl rfl ⟨_, rfl, fun hc => ?_, fun hc => ?_⟩
        · exact ⟨fun _ => we_bin <| we_name (.tl (.tl (.tl (.tl .hd)))) <| we_int <| bo_add ⟨_, _, rfl, by omega, by omega, hu2.mono (by omega), rfl⟩, fun h => absurd h (by decide)⟩
        have hc : ¬ ld 0 rows = 0 := fun e => by
          have := of_decide_eq_false hc
          rw [e] at this
          exact this rfl
        refine ww_or1 <| wt_cmp <| we_callU hN T.ok (hr.mono (by decide)) T.m T.kp T.b dfl_nil .hd .bor <| wa_cons <| we_int <| wa_nil ⟨_, _, .hd, .bor, m + 1 + 3 * i, 2, hu2, by omega, rfl, by decide, by decide, fun v c2 v0 v1 hu3 => ⟨_, _, .bor, .hd, we_int <| bo_eq rfl rfl rfl ⟨_, rfl, ?_⟩⟩⟩
        obtain ⟨us, ec⟩ := hu3.ex
        subst ec
        generalize decide (V.int v = V.int 0) = b
        refine ⟨fun _ => we_bin <| we_name (.tl (.tl (.tl (.tl .hd)))) <| we_int <| bo_add ⟨_, _, rfl, by omega, by omega, hu3.mono (by omega), rfl⟩, fun _ => ?_⟩
        exact we_bin <| we_int <| we_callU hN T.ok (hr.mono (by decide)) T.m T.kp T.b dfl_nil .hd .bor <| wa_cons <| we_name (.tl (.tl (.tl (.tl .hd)))) <| wa_nil ⟨_, _, .hd, .bor, _, _, hu3, by omega, rfl, by omega, by omega, fun v' c3 v0' v1' hu4 => ⟨_, _, .bor, .hd, bo_add ⟨_, _, rfl, by omega, by omega, hu4, rfl⟩⟩⟩
      · obtain ⟨e, c', rfl, e1, e2, hu3, rfl⟩ := he
        obtain ⟨us, ec⟩ := hu3.ex
        subst ec
        refine ⟨_, _, (.tl (.tl (.tl (.tl .hd)))), ?_⟩
        refine wb_one <| ws_expr <| we_append hN (.tl (.tl (.tl .hd))) .own <| wa_cons <| we_tup <| wa_cons <| we_name (.tl (.tl (.tl (.tl .hd)))) <| wa_cons <| we_callU hN O.ok (hr.mono (by decide)) O.m O.kp O.b dfl_nil .hd .bor <| wa_cons <| we_name (.tl .hd) <| wa_nil ⟨_, _, .hd, .bor, _, _, hu3, by omega, rfl, by rw [List.length_map, tg.three]; decide, by rw [List.length_map, tg.three]; decide, fun z2 c4 hz2 hu4 => ⟨_, _, .bor, .hd, ?_⟩⟩
        obtain ⟨t, ht, rfl⟩ := List.mem_map.mp hz2
        have wt := tg.ok t ht
        obtain ⟨s1, s2⟩ := vr_snoc rows 0 (tl t) e hv e1 e2
        refine wa_nil ⟨by show 2 ≤ 100000; decide, wa_nil ⟨_, _, _, _, _, rfl, (.tl (.tl (.tl .hd))), .own, by rw [List.length_map]; omega, ?_⟩⟩
        refine ⟨rows ++ [(tl t, e)], c4, .val z, ?_, hu4.mono (by omega), s1, fun x hx => ?_, by rw [List.length_append, hl] <;> rfl, by rw [s2]; omega, by rw [s2]; omega⟩
        · rw [s2, List.map_append] <;> rfl
        · rcases List.mem_append.mp hx with hx | hx
          · exact hn x hx
          · rw [List.mem_singleton.mp hx]
            show Fs.nmB (tl t) = true
            rw [← name_mk]
            exact wt.2.2.2
    · obtain ⟨rows, cc, t5, rfl, hu2, hv, hn, hl, d0, d1⟩ := hpv
      rw [List.length_map, List.length_range] at hl hu2
      exact wb_one <| ws_ret <| we_callT (T := "tuple") (by rfl) zt <| wa_cons <| we_freeze (.tl (.tl (.tl .hd))) <| wa_nil <| cd_tuple hG (.inl rfl) ⟨_, .hd, kk rows cc hv hn (by omega) (hu2.mono (by omega))⟩
end
end Wf

set_option Elab.async false
set_option maxRecDepth 100000
set_option maxHeartbeats 4000000
namespace Dv
open PySem PySem.Spec PyProof.Rows L2
open Evl (Ex ex_l ex_t)
section
variable {X : Cx} {G : Gc}
/-- xs != [], xs != (), whatever xs holds -/
theorem op_neNil (hu : X.A.units < cLine) : OpR X (compareOp .NotEq) (fun x y H Q => ∃ a b xs, x = .ref a ∧ y = .ref b ∧ ((SqL X.K H a xs ∧ SqL X.K H b []) ∨ (SqT X.K H a xs ∧ SqT X.K H b [])) ∧ Q (.bl (!xs.isEmpty)) H) := by
  intro pins s σ H x y v u Q I rx ry h
  obtain ⟨a, b, xs, rfl, rfl, hh, q⟩ := h
  obtain rfl : v = Value.ref a := rx
  obtain rfl : u = Value.ref b := ry
  show wpAny _ _ (richCompare .NotEq (.ref a) (.ref b)) _ _ _
  rcases hh with ⟨h1, h2⟩ | ⟨h1, h2⟩
  · obtain ⟨its, rv, p1, _⟩ := I.list h1
    obtain ⟨its2, rv2, p2, _⟩ := I.list h2
    cases rv2
    cases rv with
    | nil => exact PySem.SeqAt.RcNeAt.lists (e := fun _ => true) p1.isList p2.isList rfl hu (fun j h1 _ => absurd h1 (by simp)) _ _ _ _ ⟨.bl false, H, I, rfl, q⟩
    | cons r rr => exact PySem.SeqAt.RcNeAt.lists_lengths p1.isList p2.isList (by simp) hu _ _ _ _ ⟨.bl true, H, I, rfl, q⟩
  · obtain ⟨its, rv, p1, _⟩ := I.tuple h1
    obtain ⟨its2, rv2, p2, _⟩ := I.tuple h2
    cases rv2
    cases rv with
    | nil => exact PySem.SeqAt.RcNeAt.tuples (e := fun _ => true) p1 p2 hu (fun j h1 _ => absurd h1 (by simp)) _ _ _ _ ⟨.bl false, H, I, rfl, q⟩
    | cons r rr => exact PySem.SeqAt.RcNeAt.tuples (e := fun _ => true) p1 p2 hu (fun j _ h1 => absurd h1 (by simp)) _ _ _ _ ⟨.bl true, H, I, by simp; rfl, q⟩
theorem reps_empty {F : Hp} {xs : List D} {us : List V} (r : reps G F xs us) : us.isEmpty = xs.isEmpty := by
  cases xs with
  | nil =>
    rw [reps_nil_inv r]
    rfl
  | cons x r' => obtain ⟨w, t, rfl, _, _⟩ := reps_cons_inv r; rfl
theorem bo_neNil {x y : D} {xs : List D} {K : D → Prop} (hK : G.K = X.K) (hu : X.A.units < cLine) (hd : (x = .lst xs ∧ y = .lst []) ∨ (x = .tup xs ∧ y = .tup [])) (k : K (.bl (!xs.isEmpty))) : BO X G (compareOp .NotEq) x y K :=
  bo_of (op_neNil hu) (fun F H u v Q e r1 r2 qk => by
    rcases hd with ⟨rfl, rfl⟩ | ⟨rfl, rfl⟩
    · obtain ⟨a, us, rfl, hs, ru⟩ := rep_lst r1
      obtain ⟨b, ws, rfl, hs2, rw2⟩ := rep_lst r2
      rw [hK] at hs hs2
      rw [reps_nil_inv rw2] at hs2
      refine ⟨a, b, us, rfl, rfl, .inl ⟨ex_l e hs, ex_l e hs2⟩, ?_⟩
      rw [reps_empty ru]
      exact qk _ r_bl
    · obtain ⟨a, us, rfl, hs, ru⟩ := rep_tup r1
      obtain ⟨b, ws, rfl, hs2, rw2⟩ := rep_tup r2
      rw [hK] at hs hs2
      rw [reps_nil_inv rw2] at hs2
      refine ⟨a, b, us, rfl, rfl, .inr ⟨ex_t e hs, ex_t e hs2⟩, ?_⟩
      rw [reps_empty ru]
      exact qk _ r_bl) k
end
end Dv

set_option Elab.async false
set_option maxRecDepth 100000
set_option maxHeartbeats 4000000
namespace Wf
open PySem PySem.Spec PyProof.Rows L2 Dv TL
open Ko (mkS nameB okS)
open Fs (Fo fo par it tx tx0 bel beh)
/-! ### the law's trees -/
def cTr (n : Nat) : List D → (D → Prop) → Prop := fun ds KK => ∃ rows : List Fs.Row, ds = [.tup (rows.map rowD)] ∧ rows.length ≤ n ∧ n ≤ 100 ∧ KK (.tup (fd (fo (par rows))))
abbrev nTr : List Str := ["_law_rows_so", "_law_found", "_law_k", "_law_last_so"]
theorem scTr : FnScope nTr ["_law_rows_so"] (defScope t__law_trees) := ⟨rfl, rfl, rfl, by decide +kernel, rfl, by decide +kernel, by decide +kernel⟩
theorem cut_mid {α : Type} (g : α → D) (ns : List α) (a b : Nat) (hab : a ≤ b) (hb : b ≤ ns.length) : Dv.cutD (ns.map g) (some (a : Int)) (some (b : Int)) = ((ns.drop a).take (b - a)).map g := by
  unfold Dv.cutD
  rw [HT.sIx_nat, HT.sIx_nat, List.length_map, Nat.min_eq_left hb, Nat.min_eq_left (show a ≤ ns.length by omega), List.map_take, List.map_drop]
abbrev Tree := List Nat × Fo
def t1 (x : Tree) : D := .tup [.str (mkS x.1), .tup (fd x.2)]
theorem fd_app : ∀ (xs : List Tree) (f : Fo), fd (Fs.app xs f) = xs.map t1 ++ fd f
  | [], _ => rfl
  | (n, o) :: r, f => by
    show _ :: fd (Fs.app r f) = _
    rw [fd_app r f] <;> rfl
theorem drop_cons {α : Type} {l : List α} {k : Nat} {x : α} (h : l[k]? = some x) : l.drop k = x :: l.drop (k + 1) := by
  have hk := (List.getElem?_eq_some_iff.mp h).1
  rw [List.drop_eq_getElem_cons hk]
  rw [List.getElem?_eq_getElem hk] at h
  rw [Option.some.inj h]
section
variable {P : Program} {w : World} {K : PySem.W.Frag} {mg : Str → Option Value} {base : Heap} {C : Addr} {G : Gc}
theorem ok_ltrees {f : Addr} {fdt : FuncData} (F : Fun K "_law_trees" "_law_trees" t__law_trees f fdt) (hG : G.K = K) (zl : mg "len" = none) (zt : mg "tuple" = none) (bd : Binds K fdt ["_law_rows_so"] []) (mT : mg "_law_trees" = some (.ref f)) (kT : PySem.W.keepIn K (.ref f) = true) :
    ∀ n : Nat, FnOk P w K mg base CX0 (n + 1) f fdt ["_law_rows_so"] (spP G (cTr n)) := by
  intro n
  induction n using Nat.strongRecOn with
  | ind n ih =>
  refine def_p F scTr (fun ds Kd h => ?_) (fun cdv A outer s H E ds Kd hr h => ?_)
  · obtain ⟨_, rfl, _⟩ := h
    rfl
  · obtain ⟨rows, rfl, hl, hn, kk⟩ := h
    have hN := scTr.nd
    have hix : ∀ (i : Nat) (x : Fs.Row), rows[i]? = some x → atI (rows.map rowD) (i : Int) = some (rowD x) := fun i x h => atI_at (by rw [List.getElem?_map, h] <;> rfl)
    refine wb_cons <| ws_parO (i := 1) (j := 2) rfl hN rfl rfl (by decide) (by rfl) (by rfl) (wo_own <| wl_lst <| wa_nil ⟨by decide, wo_val <| we_int <| wo_nil ⟨rfl, _, .cons (.tl .hd) (.cons (.tl (.tl .hd)) .nil), ?_⟩⟩)
    refine wb_cons <| ws_while (fun m Γ2 => ∃ (done : List Tree) (k : Nat) (t3 : Sl), Γ2 = ([("_law_rows_so", .val (.tup (rows.map rowD))), ("_law_found", .own (.lst (done.map t1))), ("_law_k", .val (.int (k : Int))), ("_law_last_so", t3)] : En) ∧ Fs.app done (fo (par (rows.drop k))) = fo (par rows) ∧ done.length ≤ k ∧ k ≤ rows.length ∧ m = rows.length - k) _ PassesOwn.never ⟨[], 0, .un, rfl, by rw [List.drop_zero] <;> rfl, Nat.le_refl _, Nat.zero_le _, rfl⟩ fun m Γ2 hpv => ?_
    obtain ⟨done, k, t3, rfl, happ, hdl, hk, hm⟩ := hpv
    refine wt_cmp <| we_name (.tl (.tl .hd)) <| we_callB (id := "len") (by rfl) zl <| wa_cons <| we_name .hd <| wa_nil <| cd_len hG (.inr rfl) <| bo_lt ⟨_, rfl, fun hc => ?_, fun hc => ?_⟩
    · have hc := of_decide_eq_true hc
      rw [List.length_map] at hc
      have hk2 : k < rows.length := by omega
      obtain ⟨x, hx⟩ : ∃ x, rows[k]? = some x := ⟨_, List.getElem?_eq_getElem hk2⟩
      obtain ⟨nn, d⟩ := x
      have hdrop := drop_cons hx
      refine wb_cons <| ws_set hN <| we_bin <| we_name (.tl (.tl .hd)) <| we_int <| bo_add ⟨_, _, (.tl (.tl (.tl .hd))), ?_⟩
      obtain ⟨R, hR⟩ : ∃ R, R = rows.drop (k + 1) := ⟨_, rfl⟩
      have hRl : R.length = rows.length - (k + 1) := by rw [hR, List.length_drop]
      refine wb_cons <| ws_while (fun m2 Γ2 => ∃ j : Nat, Γ2 = ([("_law_rows_so", .val (.tup (rows.map rowD))), ("_law_found", .own (.lst (done.map t1))), ("_law_k", .val (.int (k : Int))), ("_law_last_so", .val (.int ((k : Int) + 1 + (j : Int))))] : En) ∧ R.take j ++ (R.drop j).takeWhile (fun x => decide (x.2 > d)) = R.takeWhile (fun x => decide (x.2 > d)) ∧ (R.drop j).dropWhile (fun x => decide (x.2 > d)) = R.dropWhile (fun x => decide (x.2 > d)) ∧ j ≤ R.length ∧ m2 = R.length - j) _ PassesOwn.never ⟨0, ?_, by rw [List.take_zero, List.drop_zero] <;> rfl, by rw [List.drop_zero], Nat.zero_le _, rfl⟩ fun m2 Γ2 hpv => ?_
      · show _ = ([_, _, _, ("_law_last_so", Sl.val (.int ((k : Int) + 1 + ((0 : Nat) : Int))))] : En)
        rw [show (k : Int) + 1 + ((0 : Nat) : Int) = (k : Int) + 1 by omega]
      · obtain ⟨j, rfl, h1, h2, hj, hm2⟩ := hpv
        have ej : (k : Int) + 1 + (j : Int) = ((k + 1 + j : Nat) : Int) := by omega
        refine wt_mono (KT := fun b Γ' => b = (match R.drop j with | [] => false | y :: _ => decide (d < y.2)) ∧ Γ' = ([("_law_rows_so", .val (.tup (rows.map rowD))), ("_law_found", .own (.lst (done.map t1))), ("_law_k", .val (.int (k : Int))), ("_law_last_so", .val (.int ((k : Int) + 1 + (j : Int))))] : En)) ?_ fun b Γ' he => ?_
        · refine wt_w <| ww_and <| wt_cmp <| we_name (.tl (.tl (.tl .hd))) <| we_callB (id := "len") (by rfl) zl <| wa_cons <| we_name .hd <| wa_nil <| cd_len hG (.inr rfl) <| bo_lt ⟨_, rfl, fun hb => ?_, fun hb => ?_⟩
          · have hb := of_decide_eq_true hb
            rw [List.length_map] at hb
            have hjl : j < R.length := by omega
            obtain ⟨y, hy⟩ : ∃ y, R[j]? = some y := ⟨_, List.getElem?_eq_getElem hjl⟩
            have hy2 : rows[k + 1 + j]? = some y := by rw [← hy, hR, List.getElem?_drop]
            have hdj := drop_cons hy
            rw [hdj]
            refine ww_and1 <| wt_cmp <| we_ix hG <| we_ix hG <| we_name .hd <| we_name (.tl (.tl (.tl .hd))) ⟨_, _, rowD y, .inr rfl, rfl, ?_, we_int ⟨_, 0, .int y.2, .inr rfl, rfl, rfl, we_ix hG <| we_ix hG <| we_name .hd <| we_name (.tl (.tl .hd)) ⟨_, _, rowD (nn, d), .inr rfl, rfl, hix k _ hx, we_int ⟨_, 0, .int d, .inr rfl, rfl, rfl, bo_gt ⟨_, rfl, rfl, rfl⟩⟩⟩⟩⟩
            rw [ej]
            exact hix _ _ hy2
          · have hb := of_decide_eq_false hb
            rw [List.length_map] at hb
            have e : R.drop j = [] := List.drop_eq_nil_of_le (by omega)
            rw [e]
            exact ⟨rfl, rfl⟩
        obtain ⟨hb, rfl⟩ := he
        refine ⟨fun hc => ?_, fun hc => ?_⟩
        · rw [hc] at hb
          cases q : R.drop j with
          | nil => rw [q] at hb; cases hb
          | cons y t =>
            rw [q] at hb h1 h2
            have hb : d < y.2 := of_decide_eq_true hb.symm
            have hjl : j < R.length := by
              by_cases z : j < R.length
              · exact z
              · rw [List.drop_eq_nil_of_le (by omega)] at q
                cases q
            have hy : R[j]? = some y := by
              have := congrArg List.head? q
              rw [List.head?_drop] at this
              exact this
            have ht : R.drop (j + 1) = t := by
              have := drop_cons hy
              rw [q] at this
              exact (List.cons.inj this).2.symm
            rw [List.takeWhile_cons_of_pos (by simpa using hb)] at h1
            rw [List.dropWhile_cons_of_pos (by simpa using hb)] at h2
            refine wb_one <| ws_set hN <| we_bin <| we_name (.tl (.tl (.tl .hd))) <| we_int <| bo_add ⟨_, _, (.tl (.tl (.tl .hd))), R.length - (j + 1), by omega, j + 1, ?_, ?_, by rw [ht]; exact h2, by omega, rfl⟩
            · show ([_, _, _, ("_law_last_so", Sl.val (.int ((k : Int) + 1 + (j : Int) + 1)))] : En) = ([_, _, _, ("_law_last_so", Sl.val (.int ((k : Int) + 1 + ((j + 1 : Nat) : Int))))] : En)
              rw [show (k : Int) + 1 + (j : Int) + 1 = (k : Int) + 1 + ((j + 1 : Nat) : Int) by omega]
            · rw [ht, ← h1, List.take_add_one, hy]
              simp
        · rw [hc] at hb
          have e1 : (R.drop j).takeWhile (fun x => decide (x.2 > d)) = [] ∧ (R.drop j).dropWhile (fun x => decide (x.2 > d)) = R.drop j := by
            cases q : R.drop j with
            | nil => exact ⟨rfl, rfl⟩
            | cons y t =>
              rw [q] at hb
              have hb : ¬ d < y.2 := of_decide_eq_false hb.symm
              exact ⟨by rw [List.takeWhile_cons_of_neg (by simpa using hb)], by rw [List.dropWhile_cons_of_neg (by simpa using hb)]⟩
          rw [e1.1, List.append_nil] at h1
          rw [e1.2] at h2
          have hlen1 : (R.take j).length ≤ n - 1 := by
            rw [List.length_take]
            omega
          have hcut : Dv.cutD (rows.map rowD) (some ((k : Int) + 1)) (some ((k : Int) + 1 + (j : Int))) = (R.take j).map rowD := by
            rw [show (k : Int) + 1 = ((k + 1 : Nat) : Int) by omega, show (((k + 1 : Nat) : Int) + (j : Int)) = ((k + 1 + j : Nat) : Int) by omega, cut_mid rowD rows (k + 1) (k + 1 + j) (by omega) (by omega), show k + 1 + j - (k + 1) = j by omega, hR]
          have ihc : FnOk P w K mg base CX0 (n - 1 + 1) f fdt ["_law_rows_so"] (spP G (cTr (n - 1))) := ih (n - 1) (by omega)
          refine wb_cons <| ws_expr <| we_append hN (.tl .hd) .own <| wa_cons <| we_tup <| wa_cons <| we_ix hG <| we_ix hG <| we_name .hd <| we_name (.tl (.tl .hd)) ⟨_, _, rowD (nn, d), .inr rfl, rfl, hix k _ hx, we_int ⟨_, 1, .str (mkS nn), .inr rfl, rfl, rfl, wa_cons <| we_call ihc (hr.mono (by omega)) mT kT bd dfl_nil <| wa_cons <| we_slice hG <| we_name .hd ⟨_, rfl, .some <| we_bin <| we_name (.tl (.tl .hd)) <| we_int <| bo_add ⟨_, rfl, .some <| we_name (.tl (.tl (.tl .hd))) ⟨_, rfl, ?_⟩⟩⟩⟩⟩
          rw [hcut]
          refine wa_nil ⟨R.take j, rfl, hlen1, by omega, wa_nil ⟨by show 2 ≤ 100000; decide, wa_nil ⟨_, _, _, _, _, rfl, (.tl .hd), .own, by rw [List.length_map]; omega, ?_⟩⟩⟩
          refine wb_one <| ws_set hN <| we_name (.tl (.tl (.tl .hd))) ⟨_, _, (.tl (.tl .hd)), rows.length - (k + 1 + j), by omega, done ++ [(nn, fo (par (R.take j)))], k + 1 + j, .val (.int ((k : Int) + 1 + (j : Int))), ?_, ?_, by rw [List.length_append, List.length_singleton]; omega, by omega, rfl⟩
          · rw [List.map_append, ← ej] <;> rfl
          · rw [← happ, Fs.app_app, hdrop, Fs.fo_par_cons, ← hR, ← h1, ← h2, hR, List.drop_drop] <;> rfl
    · have hc := of_decide_eq_false hc
      rw [List.length_map] at hc
      have e : rows.drop k = [] := List.drop_eq_nil_of_le (by omega)
      rw [e] at happ
      rw [← happ] at kk
      have e2 : fd (Fs.app done (fo (par []))) = done.map t1 := by
        rw [fd_app]
        show _ ++ [] = _
        rw [List.append_nil]
      rw [e2] at kk
      exact wb_one <| ws_ret <| we_callT (T := "tuple") (by rfl) zt <| wa_cons <| we_freeze (.tl .hd) <| wa_nil <| cd_tuple hG (.inl rfl) kk
end
end Wf

set_option Elab.async false
set_option maxRecDepth 100000
set_option maxHeartbeats 4000000
namespace Wf
open PySem PySem.Spec PyProof.Rows L2 Dv TL
open Ko (mkS nameB okS map_mk)
open Fs (Fo fo par it tx tx0 bel beh tx0_cons)
/-! ### the law's text -/
def ht : Fo → Nat
  | .nil => 0
  | .cons _ o r => max (ht o + 1) (ht r)
def bit (x : Fs.It) : List Nat := x.2.1 ++ bel x.2.2
theorem join_bits : ∀ (f : Fo) (k : Int), joinL [32] ((it f k).map bit) = tx0 f
  | .nil, _ => rfl
  | .cons n o .nil, k => by
    rw [tx0_cons]
    show n ++ bel o = n ++ (bel o ++ [])
    rw [List.append_nil]
  | .cons n o (.cons a b c), k => by
    rw [tx0_cons]
    have ih := join_bits (.cons a b c) k
    show (n ++ bel o) ++ ([32] ++ joinL [32] ((it (.cons a b c) k).map bit)) = n ++ (bel o ++ (32 :: tx0 (.cons a b c)))
    rw [ih]
    simp
theorem bits_sum : ∀ (f : Fo) (k : Int), (((it f k).map bit).map List.length).sum + (it f k).length ≤ (tx0 f).length + 1
  | .nil, _ => by show 0 + 0 ≤ 0 + 1; decide
  | .cons n o r, k => by
    have ih := bits_sum r k
    rw [tx0_cons]
    show (n ++ bel o).length + (((it r k).map bit).map List.length).sum + ((it r k).length + 1) ≤ _
    cases r with
    | nil =>
      show (n ++ bel o).length + 0 + (0 + 1) ≤ (n ++ (bel o ++ [])).length + 1
      rw [List.append_nil]
      omega
    | cons a b c =>
      show _ ≤ (n ++ (bel o ++ (32 :: tx0 (.cons a b c)))).length + 1
      simp only [List.length_append, List.length_cons] at ih ⊢
      omega
theorem it_ht : ∀ (f : Fo) (k : Int), ∀ x ∈ it f k, ht x.2.2 + 1 ≤ ht f ∧ (bit x).length ≤ (tx0 f).length
  | .nil, _, x, h => by simp [it] at h
  | .cons n o r, k, x, h => by
    rw [tx0_cons]
    rcases List.mem_cons.mp h with rfl | h
    · refine ⟨Nat.le_max_left _ _, ?_⟩
      show (n ++ bel o).length ≤ _
      simp only [List.length_append]
      omega
    · obtain ⟨h1, h2⟩ := it_ht r k x h
      refine ⟨Nat.le_trans h1 (Nat.le_max_right _ _), ?_⟩
      have : (tx0 r).length ≤ (beh r).length := by
        cases r with
        | nil => exact Nat.le_refl _
        | cons a b c => show _ ≤ (tx0 (.cons a b c)).length + 1; omega
      simp only [List.length_append]
      omega
def cFl (n : Nat) : List D → (D → Prop) → Prop := fun ds KK => ∃ f : Fo, ds = [.tup (fd f)] ∧ ht f ≤ n ∧ (tx0 f).length ≤ 900 ∧ KK (.str (mkS (tx f)))
abbrev nFl : List Str := ["_law_trees_so", "_law_bits", "_law_tag", "_law_own"]
theorem scFl : FnScope nFl ["_law_trees_so"] (defScope t__law_flat) := ⟨rfl, rfl, rfl, by decide +kernel, rfl, by decide +kernel, by decide +kernel⟩
theorem bel_tx {o : Fo} (h : o ≠ .nil) : [40] ++ tx o ++ [41] = bel o := by
  cases o with
  | nil => exact absurd rfl h
  | cons a b c => rfl
section
variable {P : Program} {w : World} {K : PySem.W.Frag} {mg : Str → Option Value} {base : Heap} {C : Addr} {G : Gc}
theorem ok_lflat {f : Addr} {fdt : FuncData} (F : Fun K "_law_flat" "_law_flat" t__law_flat f fdt) (hG : G.K = K) (bd : Binds K fdt ["_law_trees_so"] []) (mT : mg "_law_flat" = some (.ref f)) (kT : PySem.W.keepIn K (.ref f) = true) :
    ∀ n : Nat, FnOk P w K mg base CX0 (n + 1) f fdt ["_law_trees_so"] (spP G (cFl n)) := by
  intro n
  induction n using Nat.strongRecOn with
  | ind n ih =>
  refine def_p F scFl (fun ds Kd h => ?_) (fun cdv A outer s H E ds Kd hr h => ?_)
  · obtain ⟨_, rfl, _⟩ := h
    rfl
  · obtain ⟨g, rfl, hh, hl, kk⟩ := h
    have hN := scFl.nd
    have hu : (A.deeper (envOfC "_law_flat" (defScope t__law_flat) s.heap.objs.size f cdv)).units < cLine := by have := hr.un; omega
    have hbs := bits_sum g 1
    refine wb_cons <| ws_word (own := [("_law_tag", 2), ("_law_own", 3)]) hG rfl hN rfl (blkOk_by (show blkC nFl (defScope t__law_flat) _ _ = true by decide +kernel)) (fun _ _ _ _ _ => tgOk_two hN rfl (h2 := fun i j hi hj => pg_tup rfl (pgs_cons (pg_name hN hi (Or.inl rfl)) (pgs_cons (pg_name hN hj (Or.inl rfl)) pgs_nil)))) (wi_tup hG <| we_name .hd ⟨_, rfl, _,
      (fun i acc Γ2 => Γ2 = ([("_law_trees_so", .val (.tup (fd g))), ("_law_bits", .un), ("_law_tag", .un), ("_law_own", .un)] : En) ∧ acc = ((((it g 1).take i).map bit).map mkS).map D.str), .cons (.tl (.tl .hd)) (.cons (.tl (.tl (.tl .hd))) .nil), ⟨rfl, rfl⟩, fun i acc Γ2 _ hp => ?_, fun i d acc Γ2 hd hp => ?_, fun acc Γ2 hp => ?_⟩) ⟨1, rfl⟩ (by rfl)
    · obtain ⟨_, rfl⟩ := hp
      rw [List.length_map, List.length_map, List.length_map, List.length_take]
      omega
    · obtain ⟨rfl, rfl⟩ := hp
      rw [fd_it g 1, List.getElem?_map] at hd
      obtain ⟨x, hx, rfl⟩ := Option.map_eq_some_iff.mp hd
      obtain ⟨h1, h2⟩ := it_ht g 1 x (List.mem_of_getElem? hx)
      obtain ⟨kx, nn, o⟩ := x
      have h2 : (nn ++ bel o).length ≤ (tx0 g).length := h2
      rw [List.length_append] at h2
      have et : (it g 1).take (i + 1) = (it g 1).take i ++ [(kx, nn, o)] := by
        rw [List.take_add_one, hx] <;> rfl
      refine ⟨_, _, .two, rfl, .cons (.tl (.tl .hd)) (.cons (.tl (.tl (.tl .hd))) .nil), fun _ _ _ _ _ => ?_⟩
      refine we_bin <| we_name (.tl (.tl .hd)) <| we_if <| wt_cmp <| we_name (.tl (.tl (.tl .hd))) <| we_tup <| wa_nil ⟨by decide, bo_neNil hG hu (.inr ⟨rfl, rfl⟩) ⟨_, rfl, fun hc => ?_, fun hc => ?_⟩⟩
      · have ho : o ≠ .nil := fun e => by subst e; cases hc
        have hb := bel_tx ho
        have hbl := congrArg List.length hb
        simp only [List.length_append, List.length_singleton] at hbl
        have eo : tx o = tx0 o := by
          cases o with
          | nil => exact absurd rfl ho
          | cons a b c => rfl
        have h1 : ht o + 1 ≤ ht g := h1
        have ihc : FnOk P w K mg base CX0 (n - 1 + 1) f fdt ["_law_trees_so"] (spP G (cFl (n - 1))) := ih (n - 1) (by omega)
        refine we_bin <| we_bin <| we_str <| we_call ihc (hr.mono (by omega)) mT kT bd dfl_nil <| wa_cons <| we_name (.tl (.tl (.tl .hd))) <| wa_nil ⟨o, rfl, by omega, by rw [← eo]; omega, bo_addS ?_ <| we_str <| bo_addS ?_ <| bo_addS ?_ ⟨_, .cons (.tl (.tl .hd)) (.cons (.tl (.tl (.tl .hd))) .nil), rfl, ?_⟩⟩
        · rw [lp_mk, len_mk, len_mk, size_eq]
          show 1 + _ ≤ _
          omega
        · rw [lp_mk, rp_mk, mk_app, len_mk, len_mk, List.length_append, size_eq]
          show 1 + _ + 1 ≤ _
          omega
        · rw [lp_mk, rp_mk, mk_app, mk_app, len_mk, len_mk, hb, size_eq]
          show nn.length + _ ≤ _
          omega
        · rw [et, lp_mk, rp_mk, mk_app, mk_app, mk_app, hb, List.map_append, List.map_append, List.map_append] <;> rfl
      · have ho : o = .nil := by
          cases o with
          | nil => rfl
          | cons a b c => cases hc
        subst ho
        refine we_str <| bo_addS ?_ ⟨_, .cons (.tl (.tl .hd)) (.cons (.tl (.tl (.tl .hd))) .nil), rfl, ?_⟩
        · rw [em_mk, len_mk, len_mk, size_eq]
          show nn.length + 0 ≤ _
          omega
        · rw [et, em_mk, mk_app, List.map_append, List.map_append, List.map_append] <;> rfl
    · obtain ⟨rfl, rfl⟩ := hp
      have el : (fd g).length = (it g 1).length := by rw [fd_it g 1, List.length_map]
      rw [el, List.take_length]
      refine ⟨_, _, (.tl .hd), ?_⟩
      refine wb_one <| ws_ret <| we_if <| wt_cmp <| we_freeze (.tl .hd) <| we_new <| wl_lst <| wa_nil ⟨by decide, bo_neNil hG hu (.inl ⟨rfl, rfl⟩) ⟨_, rfl, fun hc => ?_, fun hc => ?_⟩⟩
      · have hg : g ≠ .nil := fun e => by subst e; cases hc
        have et : tx g = tx0 g := by
          cases g with
          | nil => exact absurd rfl hg
          | cons a b c => rfl
        refine we_join hG <| we_str ⟨_, rfl, wa_cons <| we_name (.tl .hd) <| wa_nil ⟨((it g 1).map bit).map mkS, .inl rfl, ?_, ?_⟩⟩
        · rw [show (" " : Str).length = 1 by decide +kernel, List.map_map, List.length_map, List.length_map]
          have e : (((it g 1).map bit).map ((fun x : Str => x.length) ∘ mkS)) = (((it g 1).map bit).map List.length) := List.map_congr_left fun x _ => len_mk x
          rw [e]
          omega
        · have ej : Txt.join " " (((it g 1).map bit).map mkS) = mkS (tx g) := by
            refine ext_tl ?_
            rw [join_eq, tl_join, Ko.tl_sp, map_mk, join_bits, et]
            rfl
          rw [ej]
          exact kk
      · have hg : g = .nil := by
          cases g with
          | nil => rfl
          | cons a b c => cases hc
        subst hg
        rw [show tx Fo.nil = [45] from rfl, ← mn_mk] at kk
        exact we_str kk
end
end Wf

set_option Elab.async false
set_option maxRecDepth 100000
set_option maxHeartbeats 4000000
namespace Wf
open PySem PySem.Spec PyProof.Rows L2 Dv TL
open Ko (mkS nameB okS)
open Fs (Fo ofM)
/-! ### what is heard of a text -/
def heardD (s : Str) : D := match ofM (tl s) with
  | some f => .tup (fd f)
  | none => .non
theorem hear_some {s : Str} {f : Fo} (h : ofM (tl s) = some f) : heardD s = .tup (fd f) := by
  unfold heardD
  rw [h]
theorem hear_none {s : Str} (h : ofM (tl s) = none) : heardD s = .non := by
  unfold heardD
  rw [h]
abbrev nHeard : List Str := ["_law_flat_here", "_law_caught", "_law_wood", "error"]
theorem scHeard : FnScope nHeard ["_law_flat_here"] (defScope t__law_heard) := ⟨rfl, rfl, rfl, by decide +kernel, rfl, by decide +kernel, by decide +kernel⟩
section
variable {P : Program} {w : World} {K : PySem.W.Frag} {mg : Str → Option Value} {base : Heap} {C : Addr}
structure Hrs (P : Program) (w : World) (K : PySem.W.Frag) (mg : Str → Option Value) (base : Heap) (C : Addr) where
  T : Tx K mg C
  Z : Zs mg
  gB : mg "BadText" = some (.ref (adr K "BadText"))
  gN : mg "NoPlace" = some (.ref (adr K "NoPlace"))
  zV : mg "ValueError" = none
  xB : PySem.W.exmAny K (.ref (adr K "BadText")) [.ref (adr K "BadText"), .ref (adr K "NoPlace")] = some true
  cB : L2.ExcC K (adr K "BadText")
  k1 : PySem.W.kitOne K (.ref (adr K "BadText")) (.ref (adr K "BadText")) = some true
  k2 : PySem.W.kitOne K (.ref (adr K "BadText")) (.type "ValueError") = some true
  fO : Addr
  dO : FuncData
  O : FnOk P w K mg base (L2.CX P w) 4 fO dO ["text"] (spX (gc K C) cOf)
  S : Stat K C "of" fO
  gO : List Value → List Value → List Value
  kO : KBn K dO ["text"] 0 ["text"] gO (fun vs zs => vs ++ zs)
  fT : Addr
  pT : Addr
  dT : FuncData
  TR : FnOk P w K mg base CX0 1 fT dT ["self"] (spP (gc K C) cTrees)
  bT : Binds K dT ["self"] []
  hT : PropOf K C "trees" pT fT
  fX : Addr
  pX : Addr
  dX : FuncData
  X : FnOk P w K mg base CX0 3 fX dX ["self"] (spP (gc K C) cText)
  bX : Binds K dX ["self"] []
  hX : PropOf K C "text" pX fX
theorem of_fit {s : Str} {f : Fo} (h : ofM (tl s) = some f) (hl : s.length ≤ 999) : Fit 1000 (Fs.rw f 1) := by
  by_cases h1 : s = "-"
  · rw [of_minus h1] at h
    obtain rfl := Option.some.inj h
    exact ⟨by decide, fun x hx => by simp [Fs.rw] at hx⟩
  · rw [(of_rows h h1).1]
    exact rd_fit hl
def cHeard : List D → (D → Prop) → Prop := fun ds KK => ∃ s : Str, ds = [.str s] ∧ s.length ≤ 999 ∧ KK (heardD s)
theorem ok_heard {f : Addr} {fd : FuncData} (F : Fun K "_law_heard" "_law_heard" t__law_heard f fd) (L : Hrs P w K mg base C) : FnOk P w K mg base CX0 5 f fd ["_law_flat_here"] (spP (gc K C) cHeard) := by
  refine def_p F scHeard (fun ds Kd h => ?_) (fun cdv A outer s0 H E ds Kd hr h => ?_)
  · obtain ⟨s, rfl, _⟩ := h
    rfl
  · obtain ⟨s, rfl, hl, kk⟩ := h
    have hN := scHeard.nd
    have hp : ∀ (F : Hp) v, rep (gc K C) F .non v → decide (v = V.non) = decide (V.non = V.non) := fun F v r => by rw [rep_non r]
    refine wb_cons <| ws_tup rfl rfl hN (xs := ["_law_caught", "_law_wood"]) (.cons (.cons .nil)) (two_ok ⟨by first | exact .inl rfl | exact .inr rfl, by first | exact .inl rfl | exact .inr rfl⟩ ⟨by first | exact .inl rfl | exact .inr rfl, by first | exact .inl rfl | exact .inr rfl⟩) <| we_tup <| wa_cons <| we_non <| wa_cons <| we_non <| wa_nil ⟨by show 2 ≤ 100000; decide, _, _, rfl, rfl, .cons (.tl .hd) (.cons (.tl (.tl .hd)) .nil), ?_⟩
    refine wb_cons <| ws_try (pl := pure false) (con := cOf) rfl rfl rfl hN (by rfl) (by rfl) L.gB (by rfl) L.gN (by rfl) L.T.mC L.S L.O (hr.mono (by decide)) L.kO (by rfl) (by rfl) (by decide +kernel)
      ⟨_, .hd, s, rfl, hl, fun g he => ⟨_, _, (.tl (.tl .hd)), ?_⟩, fun he => ⟨L.xB, _, _, _, _, (.tl (.tl (.tl .hd))), (.tl .hd), ?_⟩⟩ ⟨3, rfl⟩ ⟨2, rfl⟩ ⟨1, rfl⟩ (fun pn0 xe W i hi tk => pe_stat (by rfl) L.T.mC L.S L.O (hr.mono (by decide)) L.kO tk hi (.inl rfl))
    · refine wb_cons <| ws_if <| wt_cmp <| we_name (.tl .hd) <| we_non <| bo_isN hp ⟨_, rfl, fun _ => ?_, fun h => absurd h (by simp)⟩
      rw [hear_some he] at kk
      have hfit := of_fit he hl
      have et : mkS (Fs.tx g) = s := by rw [← (Fs.of_some he).1, mk_tl']
      refine wb_one <| ws_ret <| we_if <| wt_cmp <| we_prop (n := 0) L.T.cl L.hX L.X (hr.mono (by decide)) L.bX dfl_nil <| we_name (.tl (.tl .hd)) ⟨_, rfl, g, rfl, hfit, ?_⟩
      rw [et]
      refine we_name .hd <| o_eqS (decide_eq_true rfl) ⟨_, rfl, fun _ => ?_, fun h => absurd h (by decide)⟩
      exact we_prop (n := 0) L.T.cl L.hT L.TR (hr.mono (by decide)) L.bT dfl_nil <| we_name (.tl (.tl .hd)) ⟨_, rfl, g, rfl, kk⟩
    · refine wb_cons <| ws_if <| wt_cmp <| we_name (.tl .hd) <| we_non <| bo_excN ⟨_, rfl, fun h => absurd h (by decide), fun _ => wb_nil ?_⟩
      rw [hear_none he] at kk
      refine wb_one <| ws_ret <| we_if <| wt_w <| ww_and <| wt_val <| we_callB (id := "isinstance") (by rfl) L.Z.isi <| wa_cons <| we_name (.tl .hd) <| wa_cons <| we_cls (n := 1) L.gB <| wa_nil <| cd_isX L.cB rfl L.k1 ⟨_, rfl, fun _ => ?_, fun h => absurd h (by decide)⟩
      exact ww_and1 <| wt_val <| we_callB (id := "isinstance") (by rfl) L.Z.isi <| wa_cons <| we_name (.tl .hd) <| wa_cons <| we_ty (n := "ValueError") (by rfl) L.zV <| wa_nil <| cd_isX L.cB rfl L.k2 ⟨_, rfl, fun _ => we_non kk, fun h => absurd h (by decide)⟩
end
end Wf

set_option Elab.async false
set_option maxRecDepth 100000
set_option maxHeartbeats 4000000
namespace Wf
open PySem PySem.Spec PyProof.Rows L2 Dv TL
open Ko (mkS nameB okS)
open Fs (Fo grow opn fin nmB tx0)
/-! ### the law's reading -/
def grD (L : Nat) : Option (Fo × List Nat) → D
  | none => .non
  | some (f, u) => .tup [.tup (fd f), .int ((L - u.length : Nat) : Int)]
def cGr (n : Nat) : List D → (D → Prop) → Prop := fun ds KK => ∃ (s : Str) (k : Nat), ds = [.str s, .int (k : Int)] ∧ k ≤ s.length ∧ s.length ≤ 999 ∧ ((tl s).drop k).count 40 ≤ n ∧ KK (grD s.length (grow ((tl s).drop k)))
abbrev nGr : List Str := ["_law_flat_here", "_law_k", "_law_found", "_law_last_so", "_law_tag", "_law_own"]
theorem scGr : FnScope nGr ["_law_flat_here", "_law_k"] (defScope t__law_grown) := ⟨rfl, rfl, rfl, by decide +kernel, rfl, by decide +kernel, by decide +kernel⟩
theorem cut_sub (s : Str) (a b : Nat) (ha : a ≤ s.length) : cutS s (some (a : Int)) (some (b : Int)) = mkS (((tl s).drop a).take (b - a)) := by
  unfold cutS mkS
  rw [HT.sIx_nat, HT.sIx_nat, Nat.min_eq_left ha]
  have e : List.take (min b s.length - a) (List.drop a (tl s)) = List.take (b - a) (List.drop a (tl s)) := by
    by_cases h : b ≤ s.length
    · rw [Nat.min_eq_left h]
    · rw [Nat.min_eq_right (by omega), List.take_of_length_le (by rw [List.length_drop, ← len_tl]; omega), List.take_of_length_le (by rw [List.length_drop, ← len_tl]; omega)]
  rw [show s.cps.toList = tl s from rfl, e]
theorem cut_one (s : Str) (k : Nat) (hk : k ≤ s.length) : cutS s (some (k : Int)) (some ((k : Int) + 1)) = mkS (((tl s).drop k).take 1) := by
  rw [show (k : Int) + 1 = ((k + 1 : Nat) : Int) by omega, cut_sub s k (k + 1) hk, show k + 1 - k = 1 by omega]
theorem one_eq {l : List Nat} {c : Nat} : mkS (l.take 1) = mkS [c] ↔ ∃ t, l = c :: t := by
  constructor
  · intro h
    have := mk_inj h
    cases l with
    | nil => cases this
    | cons d t => exact ⟨t, by rw [(List.cons.inj this).1]⟩
  · rintro ⟨t, rfl⟩
    rfl
theorem o_neS {X : Cx} {G : Gc} {a b : Str} {c : Bool} {K : D → Prop} (h : decide (a = b) = c) (k : K (.bl (!c))) : BO X G (compareOp .NotEq) (.str a) (.str b) K := by
  refine bo_ne rfl rfl rfl ?_
  have e : decide (V.str a = V.str b) = c := by
    rw [← h]
    by_cases q : a = b
    · subst q; simp
    · rw [decide_eq_false q, decide_eq_false fun z => q (by injection z)]
  rw [e]
  exact k
theorem ws_mono {X : Cx} {G : Gc} {Γ : En} {st : Stmt} {K K' : Ot → Prop} (h : WS X G Γ st K) (k : ∀ o, K o → K' o) : WS X G Γ st K' := .of fun σ F H D E q =>
  h σ F H D E ⟨fun Γ' σ' F' H' w z => q.nx Γ' σ' F' H' w (k _ z), fun d v Γ' σ' F' H' w r z => q.rt d v Γ' σ' F' H' w r (k _ z), fun Γ' σ' F' H' w z => q.bk Γ' σ' F' H' w (k _ z), fun Γ' σ' F' H' w z => q.ct Γ' σ' F' H' w (k _ z)⟩
theorem nm_tw (l : List Nat) : nmB (l.takeWhile Fs.low) = (decide (1 ≤ (l.takeWhile Fs.low).length) && decide ((l.takeWhile Fs.low).length ≤ 8)) := by
  unfold nmB
  have h : (l.takeWhile Fs.low).all Fs.low = true := by
    induction l with
    | nil => rfl
    | cons c r ih =>
      by_cases q : Fs.low c = true
      · rw [List.takeWhile_cons_of_pos q, List.all_cons, q, ih] <;> rfl
      · rw [List.takeWhile_cons_of_neg q] <;> rfl
  rw [h, Bool.and_true]
theorem drop_len {s : Str} {k : Nat} (hk : k ≤ s.length) : ((tl s).drop k).length = s.length - k := by
  rw [List.length_drop, ← len_tl]
theorem cnt_drop (l : List Nat) (k : Nat) : (l.drop k).count 40 ≤ l.count 40 := (List.drop_sublist k l).count_le 40
section
variable {P : Program} {w : World} {K : PySem.W.Frag} {mg : Str → Option Value} {base : Heap} {C : Addr} {G : Gc}
theorem ok_grown {f : Addr} {fdt : FuncData} (F : Fun K "_law_grown" "_law_grown" t__law_grown f fdt) (hG : G.K = K) (zl : mg "len" = none) (zt : mg "tuple" = none) (bd : Binds K fdt ["_law_flat_here", "_law_k"] []) (mT : mg "_law_grown" = some (.ref f)) (kT : PySem.W.keepIn K (.ref f) = true) :
    ∀ n : Nat, FnOk P w K mg base CX0 (n + 1) f fdt ["_law_flat_here", "_law_k"] (spP G (cGr n)) := by
  intro n
  induction n using Nat.strongRecOn with
  | ind n ih =>
  refine def_p F scGr (fun ds Kd h => ?_) (fun cdv A outer s0 H E ds Kd hr h => ?_)
  · obtain ⟨s, k, rfl, _⟩ := h
    rfl
  · obtain ⟨s, k0, rfl, hk0, hl, hcnt, kk⟩ := h
    have hN := scGr.nd
    have hls : s.length ≤ sizeLine := Nat.le_trans hl (by decide)
    have hp : ∀ (F : Hp) v, rep G F .non v → decide (v = V.non) = decide (V.non = V.non) := fun F v r => by rw [rep_non r]
    refine wb_cons <| ws_own hN <| wl_lst <| wa_nil ⟨by decide, _, _, (.tl (.tl .hd)), ?_⟩
    refine wb_one <| ws_while (fun m Γ2 => ∃ (done : List Tree) (k : Nat) (t3 t4 t5 : Sl), Γ2 = ([("_law_flat_here", .val (.str s)), ("_law_k", .val (.int (k : Int))), ("_law_found", .own (.lst (done.map t1))), ("_law_last_so", t3), ("_law_tag", t4), ("_law_own", t5)] : En) ∧
      k ≤ s.length ∧ Fs.pre done (grow ((tl s).drop k)) = grow ((tl s).drop k0) ∧ ((tl s).drop k).count 40 ≤ n ∧ done.length ≤ k ∧ m = s.length - k) _ PassesOwn.never ⟨[], k0, .un, .un, .un, rfl, hk0, Fs.pre_nil _, hcnt, Nat.zero_le _, rfl⟩ fun m Γ2 hpv => ?_
    obtain ⟨done, k, t3, t4, t5, rfl, hk, happ, hc40, hdl, hm⟩ := hpv
    refine wt_val <| we_bl ⟨true, rfl, fun _ => ?_, fun h => absurd h (by decide)⟩
    obtain ⟨l, hl0⟩ : ∃ l, l = (tl s).drop k := ⟨_, rfl⟩
    have hll : l.length = s.length - k := by rw [hl0, drop_len hk]
    rw [← hl0] at happ hc40
    refine wb_cons <| ws_set hN <| we_name (.tl .hd) ⟨_, _, (.tl (.tl (.tl .hd))), ?_⟩
    refine wb_cons <| ws_while (fun m2 Γ2 => ∃ j : Nat, Γ2 = ([("_law_flat_here", .val (.str s)), ("_law_k", .val (.int (k : Int))), ("_law_found", .own (.lst (done.map t1))), ("_law_last_so", .val (.int ((k + j : Nat) : Int))), ("_law_tag", t4), ("_law_own", t5)] : En) ∧
      l.take j ++ (l.drop j).takeWhile Fs.low = l.takeWhile Fs.low ∧ (l.drop j).dropWhile Fs.low = l.dropWhile Fs.low ∧ j ≤ l.length ∧ m2 = l.length - j) _ PassesOwn.never ⟨0, rfl, by rw [List.take_zero, List.drop_zero] <;> rfl, by rw [List.drop_zero], Nat.zero_le _, rfl⟩ fun m2 Γ2 hpv => ?_
    obtain ⟨j, rfl, h1, h2, hj, hm2⟩ := hpv
    refine wt_mono (KT := fun b Γ' => b = (match l.drop j with | [] => false | y :: _ => Fs.low y) ∧ Γ' = ([("_law_flat_here", .val (.str s)), ("_law_k", .val (.int (k : Int))), ("_law_found", .own (.lst (done.map t1))), ("_law_last_so", .val (.int ((k + j : Nat) : Int))), ("_law_tag", t4), ("_law_own", t5)] : En)) ?_ fun b Γ' he => ?_
    · refine wt_w <| ww_and <| wt_cmp <| we_name (.tl (.tl (.tl .hd))) <| we_callB (id := "len") (by rfl) zl <| wa_cons <| we_name .hd <| wa_nil <| cd_lenS hls <| bo_lt ⟨_, rfl, fun hb => ?_, fun hb => ?_⟩
      · have hb := of_decide_eq_true hb
        have hjl : j < l.length := by omega
        obtain ⟨y, hy⟩ : ∃ y, l[j]? = some y := ⟨_, List.getElem?_eq_getElem hjl⟩
        have hy2 : (tl s)[k + j]? = some y := by rw [← hy, hl0, List.getElem?_drop]
        rw [drop_cons hy]
        refine ww_and1 <| wt_cmp <| we_ixS <| we_name .hd <| we_name (.tl (.tl (.tl .hd))) ⟨_, _, y, rfl, rfl, hls, atI_at hy2, we_str <| bo_inC ⟨_, rfl, ?_, rfl⟩⟩
        show Ko.low y = Fs.low y
        exact low_eq y
      · have hb := of_decide_eq_false hb
        have e : l.drop j = [] := List.drop_eq_nil_of_le (by omega)
        rw [e]
        exact ⟨rfl, rfl⟩
    obtain ⟨hb, rfl⟩ := he
    refine ⟨fun hc => ?_, fun hc => ?_⟩
    · rw [hc] at hb
      cases q : l.drop j with
      | nil => rw [q] at hb; cases hb
      | cons y t =>
        rw [q] at hb h1 h2
        have hb : Fs.low y = true := hb.symm
        have hjl : j < l.length := by
          by_cases z : j < l.length
          · exact z
          · rw [List.drop_eq_nil_of_le (by omega)] at q
            cases q
        have hy : l[j]? = some y := by
          have := congrArg List.head? q
          rw [List.head?_drop] at this
          exact this
        have ht : l.drop (j + 1) = t := by
          have := drop_cons hy
          rw [q] at this
          exact (List.cons.inj this).2.symm
        rw [List.takeWhile_cons_of_pos hb] at h1
        rw [List.dropWhile_cons_of_pos hb] at h2
        refine wb_one <| ws_set hN <| we_bin <| we_name (.tl (.tl (.tl .hd))) <| we_int <| bo_add ⟨_, _, (.tl (.tl (.tl .hd))), l.length - (j + 1), by omega, j + 1, rfl, ?_, by rw [ht]; exact h2, by omega, rfl⟩
        rw [ht, ← h1, List.take_add_one, hy]
        simp
    rw [hc] at hb
    have e1 : (l.drop j).takeWhile Fs.low = [] ∧ (l.drop j).dropWhile Fs.low = l.drop j := by
      cases q : l.drop j with
      | nil => exact ⟨rfl, rfl⟩
      | cons y t =>
        rw [q] at hb
        have hb : false = Fs.low y := hb
        have hb : ¬ Fs.low y = true := by rw [← hb]; decide
        exact ⟨by rw [List.takeWhile_cons_of_neg hb], by rw [List.dropWhile_cons_of_neg hb]⟩
    rw [e1.1, List.append_nil] at h1
    rw [e1.2] at h2
    have hjt : (l.takeWhile Fs.low).length = j := by rw [← h1, List.length_take]; omega
    have hge := Fs.grow_eq l
    have hnm := nm_tw l
    rw [hjt] at hnm
    refine wb_cons <| ws_if <| wt_mono (KT := fun b Γ' => b = (!nmB (l.takeWhile Fs.low)) ∧ Γ' = ([("_law_flat_here", .val (.str s)), ("_law_k", .val (.int (k : Int))), ("_law_found", .own (.lst (done.map t1))), ("_law_last_so", .val (.int ((k + j : Nat) : Int))), ("_law_tag", t4), ("_law_own", t5)] : En)) ?_ fun b Γ' he => ?_
    · refine wt_not <| wt_chain <| we_int <| we_bin <| we_name (.tl (.tl (.tl .hd))) <| we_name (.tl .hd) <| bo_sub <| bo_lt ⟨_, rfl, fun hb1 => we_int <| bo_lt ⟨_, rfl, ?_, rfl⟩, fun hb1 => ⟨?_, rfl⟩⟩
      · have hb1 := of_decide_eq_true hb1
        rw [hnm, decide_eq_true (show 1 ≤ j by omega), Bool.true_and]
        congr 1
        rw [decide_eq_decide]
        omega
      · have hb1 := of_decide_eq_false hb1
        rw [hnm, decide_eq_false (show ¬ 1 ≤ j by omega)] <;> rfl
    obtain ⟨hb2, rfl⟩ := he
    refine ⟨fun hc2 => ?_, fun hc2 => wb_nil ?_⟩
    · rw [hc2] at hb2
      have hnn : ¬ nmB (l.takeWhile Fs.low) = true := by
        intro z
        rw [z] at hb2
        cases hb2
      rw [if_neg hnn] at hge
      rw [hge] at happ
      rw [← happ] at kk
      exact wb_one <| ws_ret <| we_non kk
    rw [hc2] at hb2
    have hnn : nmB (l.takeWhile Fs.low) = true := by simpa using hb2.symm
    rw [if_pos hnn] at hge
    rw [hge] at happ
    have hj1 : 1 ≤ j := by
      rw [hnn] at hnm
      have := hnm.symm
      simp only [Bool.and_eq_true, decide_eq_true_eq] at this
      exact this.1
    generalize htw : l.takeWhile Fs.low = tw at *
    generalize hdw : l.dropWhile Fs.low = dw at *
    obtain ⟨q, hq⟩ : ∃ q, q = k + j := ⟨_, rfl⟩
    have hqs : q ≤ s.length := by omega
    have hdq : (tl s).drop q = dw := by rw [← h2, hl0, List.drop_drop, hq]
    have hcd : dw.count 40 ≤ n := by
      rw [← h2]
      exact Nat.le_trans (cnt_drop l j) hc40
    rw [← hq]
    refine wb_cons <| ws_par3O (i := 4) (j := 5) (m := 1) rfl hN rfl rfl rfl (by decide) (by decide) (by decide) (by rfl) (by rfl) (by rfl) <| wo_val <| we_cutS <| we_name .hd ⟨_, rfl, hls, .some <| we_name (.tl .hd) ⟨_, rfl, .some <| we_name (.tl (.tl (.tl .hd))) ⟨_, rfl, wo_val <| we_tup <| wa_cons <| we_tup <| wa_nil ⟨by decide, wa_cons <| we_name (.tl (.tl (.tl .hd))) <| wa_nil ⟨by show 2 ≤ 100000; decide, wo_val <| we_name (.tl (.tl (.tl .hd))) <| wo_nil ⟨rfl, _, .cons (.tl (.tl (.tl (.tl .hd)))) (.cons (.tl (.tl (.tl (.tl (.tl .hd))))) (.cons (.tl .hd) .nil)), ?_⟩⟩⟩⟩⟩⟩
    have etag : cutS s (some (k : Int)) (some (q : Int)) = mkS tw := by
      rw [cut_sub s k q hk, ← hl0, ← h1, hq, show k + j - k = j by omega]
    rw [etag]
    refine wb_cons <| ws_mono (K := fun o => match o with
      | .nx Γ' => ∃ (o : Fo) (r : Nat), r ≤ s.length ∧ q ≤ r ∧ opn grow dw = some (o, (tl s).drop r) ∧ ((tl s).drop r).count 40 ≤ n ∧ Γ' = ([("_law_flat_here", .val (.str s)), ("_law_k", .val (.int (q : Int))), ("_law_found", .own (.lst (done.map t1))), ("_law_last_so", .val (.int (q : Int))), ("_law_tag", .val (.str (mkS tw))), ("_law_own", .val (.tup [.tup (fd o), .int (r : Int)]))] : En)
      | .rt d Γ' => d = .non ∧ opn grow dw = none
      | _ => False) ?_ fun o ho => ?_
    · refine ws_if <| wt_cmp <| we_cutS <| we_name .hd ⟨_, rfl, hls, .some <| we_name (.tl .hd) ⟨_, rfl, .some <| we_bin <| we_name (.tl .hd) <| we_int <| bo_add ⟨_, rfl, ?_⟩⟩⟩
      rw [cut_one s q hqs, hdq]
      refine we_str <| o_eqS rfl ⟨_, rfl, fun hc3 => ?_, fun hc3 => ?_⟩
      · have hc3 := of_decide_eq_true hc3
        rw [lp_mk] at hc3
        obtain ⟨t, ht⟩ := one_eq.mp hc3
        have hct : t.count 40 + 1 = dw.count 40 := by rw [ht, List.count_cons_self]
        have hq1 : q + 1 ≤ s.length := by
          have := drop_len hqs
          rw [hdq, ht, List.length_cons] at this
          omega
        have hdt : (tl s).drop (q + 1) = t := by
          rw [← List.drop_drop, hdq, ht] <;> rfl
        have ihc : FnOk P w K mg base CX0 (n - 1 + 1) f fdt ["_law_flat_here", "_law_k"] (spP G (cGr (n - 1))) := ih (n - 1) (by omega)
        refine wb_cons <| ws_set hN <| we_call ihc (hr.mono (by omega)) mT kT bd dfl_nil <| wa_cons <| we_name .hd <| wa_cons <| we_bin <| we_name (.tl .hd) <| we_int <| bo_add <| wa_nil ⟨s, q + 1, rfl, hq1, hl, by rw [hdt]; omega, _, _, (.tl (.tl (.tl (.tl (.tl .hd))))), ?_⟩
        rw [hdt]
        have hop := Fs.opn_40 grow t
        rw [← ht] at hop
        cases hg : grow t with
        | none =>
          rw [hg] at hop
          exact wb_cons <| ws_if <| wt_w <| ww_or <| wt_cmp <| we_name (.tl (.tl (.tl (.tl (.tl .hd))))) <| we_non <| bo_isN hp ⟨_, rfl, fun _ => ⟨fun _ => wb_one <| ws_ret <| we_non ⟨rfl, hop⟩, fun h => absurd h (by decide)⟩, fun h => absurd h (by simp)⟩
        | some pr =>
          obtain ⟨o, u⟩ := pr
          rw [hg] at hop
          obtain ⟨g1, g2, g3⟩ := Fs.gr_sound _ _ _ _ hg
          obtain ⟨r, hr0⟩ : ∃ r, r = s.length - u.length := ⟨_, rfl⟩
          have hlt := drop_len hq1
          rw [hdt, g1, List.length_append] at hlt
          have hrq : r = q + 1 + (tx0 o).length := by omega
          have hdr : (tl s).drop r = u := by
            rw [hrq, ← List.drop_drop, hdt, g1, List.drop_left]
          have hrs : r ≤ s.length := by omega
          have e5 : grD s.length (some (o, u)) = .tup [.tup (fd o), .int (r : Int)] := by rw [hr0] <;> rfl
          rw [e5]
          have hcu : u.count 40 ≤ n := by
            have : u.count 40 ≤ t.count 40 := by rw [g1, List.count_append]; omega
            omega
          refine wb_cons <| ws_if <| wt_w <| ww_or <| wt_cmp <| we_name (.tl (.tl (.tl (.tl (.tl .hd))))) <| we_non <| bo_isN (u := .bl false) (fun F v r => by obtain ⟨a, us, rfl, _⟩ := rep_tup r; rfl) ⟨_, rfl, fun h => absurd h (by simp), fun _ => ?_⟩
          refine ww_or1 <| wt_cmp <| we_cutS <| we_name .hd ⟨_, rfl, hls, .some <| we_ix hG <| we_name (.tl (.tl (.tl (.tl (.tl .hd))))) <| we_int ⟨_, 1, .int (r : Int), .inr rfl, rfl, rfl, _, rfl, .some <| we_bin <| we_ix hG <| we_name (.tl (.tl (.tl (.tl (.tl .hd))))) <| we_int ⟨_, 1, .int (r : Int), .inr rfl, rfl, rfl, we_int <| bo_add ⟨_, rfl, ?_⟩⟩⟩⟩
          rw [cut_one s r hrs, hdr]
          refine we_str <| o_neS rfl ⟨_, rfl, fun hc4 => ?_, fun hc4 => wb_nil ?_⟩
          · have hc4 : decide (mkS (u.take 1) = (")" : Str)) = false := by simpa using hc4
            have hc4 := of_decide_eq_false hc4
            rw [rp_mk, one_eq] at hc4
            refine wb_one <| ws_ret <| we_non ⟨rfl, ?_⟩
            rw [hop]
            cases u with
            | nil => rfl
            | cons c u' =>
              split
              · rename_i a b e
                exfalso
                injection e with e
                injection e with e e'
                exact hc4 ⟨_, e'⟩
              · rfl
          · have hc4 : decide (mkS (u.take 1) = (")" : Str)) = true := by simpa using hc4
            have hc4 := of_decide_eq_true hc4
            rw [rp_mk] at hc4
            obtain ⟨u', hu'⟩ := one_eq.mp hc4
            subst hu'
            have hr1 : r + 1 ≤ s.length := by
              have := drop_len hrs
              rw [hdr, List.length_cons] at this
              omega
            refine wb_one <| ws_set hN <| we_tup <| wa_cons <| we_ix hG <| we_name (.tl (.tl (.tl (.tl (.tl .hd))))) <| we_int ⟨_, 0, .tup (fd o), .inr rfl, rfl, rfl, wa_cons <| we_bin <| we_ix hG <| we_name (.tl (.tl (.tl (.tl (.tl .hd))))) <| we_int ⟨_, 1, .int (r : Int), .inr rfl, rfl, rfl, we_int <| bo_add <| wa_nil ⟨by show 2 ≤ 100000; decide, _, _, (.tl (.tl (.tl (.tl (.tl .hd))))), o, r + 1, hr1, by omega, ?_, ?_, rfl⟩⟩⟩
            · rw [hop, ← List.drop_drop, hdr] <;> rfl
            · rw [← List.drop_drop, hdr]
              exact Nat.le_trans (cnt_drop _ 1) hcu
      · have hc3 := of_decide_eq_false hc3
        rw [lp_mk, one_eq] at hc3
        exact wb_nil ⟨.nil, q, hqs, Nat.le_refl _, by rw [hdq]; exact Fs.opn_ne grow fun t e => hc3 ⟨t, e⟩, by rw [hdq]; exact hcd, rfl⟩
    · cases o with
      | bk Γ' => exact ho.elim
      | ct Γ' => exact ho.elim
      | rt d Γ' =>
        obtain ⟨rfl, ho⟩ := ho
        rw [ho] at happ
        have happ : none = grow ((tl s).drop k0) := happ
        rw [← happ] at kk
        exact kk
      | nx Γ' =>
        obtain ⟨o, r, hrs, hqr, hop, hcr, rfl⟩ := ho
        rw [hop] at happ
        refine wb_cons <| ws_expr <| we_append hN (.tl (.tl .hd)) .own <| wa_cons <| we_tup <| wa_cons <| we_name (.tl (.tl (.tl (.tl .hd)))) <| wa_cons <| we_ix hG <| we_name (.tl (.tl (.tl (.tl (.tl .hd))))) <| we_int ⟨_, 0, .tup (fd o), .inr rfl, rfl, rfl, wa_nil ⟨by show 2 ≤ 100000; decide, wa_nil ⟨_, _, _, _, _, rfl, (.tl (.tl .hd)), .own, by rw [List.length_map]; omega, ?_⟩⟩⟩
        refine wb_cons <| ws_set hN <| we_ix hG <| we_name (.tl (.tl (.tl (.tl (.tl .hd))))) <| we_int ⟨_, 1, .int (r : Int), .inr rfl, rfl, rfl, _, _, (.tl .hd), ?_⟩
        refine wb_cons <| ws_if <| wt_cmp <| we_cutS <| we_name .hd ⟨_, rfl, hls, .some <| we_name (.tl .hd) ⟨_, rfl, .some <| we_bin <| we_name (.tl .hd) <| we_int <| bo_add ⟨_, rfl, ?_⟩⟩⟩
        have efnd : done.map t1 ++ [.tup [.str (mkS tw), .tup (fd o)]] = (done ++ [(tw, o)]).map t1 := by rw [List.map_append] <;> rfl
        rw [cut_one s r hrs, efnd]
        refine we_str <| o_neS rfl ⟨_, rfl, fun hc5 => ?_, fun hc5 => wb_nil ?_⟩
        · have hc5 : decide (mkS (((tl s).drop r).take 1) = (" " : Str)) = false := by simpa using hc5
          have hc5 := of_decide_eq_false hc5
          rw [sp_mk, one_eq] at hc5
          rw [Fs.fin_ne grow tw o fun t e => hc5 ⟨t, e⟩] at happ
          have happ : some (Fs.app done (.cons tw o .nil), (tl s).drop r) = grow ((tl s).drop k0) := happ
          rw [← happ] at kk
          have e6 : grD s.length (some (Fs.app done (.cons tw o .nil), (tl s).drop r)) = .tup [.tup ((done ++ [(tw, o)]).map t1), .int (r : Int)] := by
            show D.tup [.tup (fd (Fs.app done (.cons tw o .nil))), .int ((s.length - ((tl s).drop r).length : Nat) : Int)] = _
            rw [fd_app, drop_len hrs, show s.length - (s.length - r) = r by omega, List.map_append] <;> rfl
          rw [e6] at kk
          exact wb_one <| ws_ret <| we_tup <| wa_cons <| we_callT (T := "tuple") (by rfl) zt <| wa_cons <| we_freeze (.tl (.tl .hd)) <| wa_nil <| cd_tuple hG (.inl rfl) <| wa_cons <| we_name (.tl .hd) <| wa_nil ⟨by show 2 ≤ 100000; decide, kk⟩
        · have hc5 : decide (mkS (((tl s).drop r).take 1) = (" " : Str)) = true := by simpa using hc5
          have hc5 := of_decide_eq_true hc5
          rw [sp_mk] at hc5
          obtain ⟨t, ht⟩ := one_eq.mp hc5
          have hr1 : r + 1 ≤ s.length := by
            have := drop_len hrs
            rw [ht, List.length_cons] at this
            omega
          have hdt : (tl s).drop (r + 1) = t := by
            rw [← List.drop_drop, ht] <;> rfl
          rw [ht, Fs.fin_pre, Fs.pre_pre] at happ
          refine wb_one <| ws_set hN <| we_bin <| we_name (.tl .hd) <| we_int <| bo_add ⟨_, _, (.tl .hd), s.length - (r + 1), by omega, done ++ [(tw, o)], r + 1, _, _, _, rfl, hr1, by rw [hdt]; exact happ, ?_, by rw [List.length_append, List.length_singleton]; omega, rfl⟩
          rw [hdt]
          have : t.count 40 ≤ ((tl s).drop r).count 40 := by rw [ht]; exact List.count_le_count_cons
          omega
end
end Wf

set_option Elab.async false
set_option maxRecDepth 100000
set_option maxHeartbeats 4000000
namespace Wf
open PySem PySem.Spec PyProof.Rows L2 Dv TL
open Ko (mkS nameB okS)
open Fs (Fo ofM readM grow)
/-! ### read -/
def cRd (n : Nat) : List D → (D → Prop) → Prop := fun ds KK => ∃ s : Str, ds = [.str s] ∧ s.length ≤ 999 ∧ s.length ≤ n ∧ KK (heardD s)
abbrev nRd : List Str := ["_law_flat_here", "_law_made"]
theorem scRd : FnScope nRd ["_law_flat_here"] (defScope t__law_read) := ⟨rfl, rfl, rfl, by decide +kernel, rfl, by decide +kernel, by decide +kernel⟩
section
variable {P : Program} {w : World} {K : PySem.W.Frag} {mg : Str → Option Value} {base : Heap} {C : Addr} {G : Gc}
theorem ok_lread {f : Addr} {fdt : FuncData} {n : Nat} (F : Fun K "_law_read" "_law_read" t__law_read f fdt) (hG : G.K = K) (zl : mg "len" = none) (GR : FnC P w K mg base "_law_grown" (n + 1) ["_law_flat_here", "_law_k"] (spP G (cGr n))) : FnOk P w K mg base CX0 (n + 2) f fdt ["_law_flat_here"] (spP G (cRd n)) := by
  refine def_p F scRd (fun ds Kd h => ?_) (fun cdv A outer s0 H E ds Kd hr h => ?_)
  · obtain ⟨s, rfl, _⟩ := h
    rfl
  · obtain ⟨s, rfl, hl, hn, kk⟩ := h
    have hN := scRd.nd
    have hls : s.length ≤ sizeLine := Nat.le_trans hl (by decide)
    have hp : ∀ (F : Hp) v, rep G F .non v → decide (v = V.non) = decide (V.non = V.non) := fun F v r => by rw [rep_non r]
    have hcn : ((tl s).drop 0).count 40 ≤ n := by
      rw [List.drop_zero]
      have := List.count_le_length (a := 40) (l := tl s)
      rw [← len_tl] at this
      omega
    refine wb_cons <| ws_set hN <| we_mono (K := fun d Γ' => d = (if s = "-" then .tup [.tup [], .int 1] else grD s.length (grow (tl s))) ∧ Γ' = ([("_law_flat_here", .val (.str s)), ("_law_made", .un)] : En)) ?_ fun d Γ' he => ?_
    · refine we_if <| wt_cmp <| we_name .hd <| we_str <| o_eqS rfl ⟨_, rfl, fun hc => ?_, fun hc => ?_⟩
      · have hc := of_decide_eq_true hc
        rw [if_pos hc]
        exact we_tup <| wa_cons <| we_tup <| wa_nil ⟨by decide, wa_cons <| we_int <| wa_nil ⟨by show 2 ≤ 100000; decide, rfl, rfl⟩⟩
      · have hc := of_decide_eq_false hc
        rw [if_neg hc]
        refine we_call GR.ok (hr.mono (Nat.le_refl _)) GR.m GR.kp GR.b dfl_nil <| wa_cons <| we_name .hd <| wa_cons <| we_int <| wa_nil ⟨s, 0, rfl, Nat.zero_le _, hl, hcn, ?_, rfl⟩
        rw [List.drop_zero]
    obtain ⟨rfl, rfl⟩ := he
    refine ⟨_, _, (.tl .hd), ?_⟩
    by_cases h1 : s = "-"
    · rw [if_pos h1]
      have hh : heardD s = .tup [] := hear_some (of_minus h1)
      have hs1 : s.length = 1 := by rw [h1]; decide +kernel
      rw [hh] at kk
      refine wb_one <| ws_ret <| we_if <| wt_w <| ww_and <| wt_cmp <| we_name (.tl .hd) <| we_non <| bo_notN (u := .bl false) (fun F v r => by obtain ⟨a, us, rfl, _⟩ := rep_tup r; rfl) ⟨_, rfl, fun _ => ?_, fun h => absurd h (by simp)⟩
      refine ww_and1 <| wt_cmp <| we_ix hG <| we_name (.tl .hd) <| we_int ⟨_, 1, .int 1, .inr rfl, rfl, rfl, we_callB (id := "len") (by rfl) zl <| wa_cons <| we_name .hd <| wa_nil <| cd_lenS hls <| bo_eq rfl rfl rfl ⟨_, rfl, fun _ => ?_, fun h => ?_⟩⟩
      · exact we_ix hG <| we_name (.tl .hd) <| we_int ⟨_, 0, .tup [], .inr rfl, rfl, rfl, kk⟩
      · exfalso
        revert h
        rw [hs1]
        simp
    · rw [if_neg h1]
      have hof : ofM (tl s) = match grow (tl s) with | some (f, []) => some f | _ => none := by
        rw [Fs.of_read]
        unfold readM
        rw [if_neg (tl_minus h1)]
        rfl
      cases hg : grow (tl s) with
      | none =>
        rw [hg] at hof
        rw [hear_none hof] at kk
        exact wb_one <| ws_ret <| we_if <| wt_w <| ww_and <| wt_cmp <| we_name (.tl .hd) <| we_non <| bo_notN hp ⟨_, rfl, fun h => absurd h (by simp), fun _ => ⟨fun h => absurd h (by decide), fun _ => we_non kk⟩⟩
      | some pr =>
        obtain ⟨g, u⟩ := pr
        rw [hg] at hof
        have hul : u.length ≤ s.length := by
          have := (Fs.gr_sound _ _ _ _ hg).1
          rw [len_tl, this, List.length_append]
          omega
        refine wb_one <| ws_ret <| we_if <| wt_w <| ww_and <| wt_cmp <| we_name (.tl .hd) <| we_non <| bo_notN (u := .bl false) (fun F v r => by obtain ⟨a, us, rfl, _⟩ := rep_tup r; rfl) ⟨_, rfl, fun _ => ?_, fun h => absurd h (by simp)⟩
        refine ww_and1 <| wt_cmp <| we_ix hG <| we_name (.tl .hd) <| we_int ⟨_, 1, .int ((s.length - u.length : Nat) : Int), .inr rfl, rfl, rfl, we_callB (id := "len") (by rfl) zl <| wa_cons <| we_name .hd <| wa_nil <| cd_lenS hls <| bo_eq rfl rfl rfl ⟨_, rfl, fun hc => ?_, fun hc => ?_⟩⟩
        · have hc := V.int.inj (of_decide_eq_true hc)
          have : u = [] := List.eq_nil_of_length_eq_zero (by omega)
          subst this
          have hof : ofM (tl s) = some g := hof
          rw [hear_some hof] at kk
          exact we_ix hG <| we_name (.tl .hd) <| we_int ⟨_, 0, .tup (fd g), .inr rfl, rfl, rfl, kk⟩
        · have hc := of_decide_eq_false hc
          cases u with
          | nil => exact absurd rfl hc
          | cons c u =>
            have hof : ofM (tl s) = none := hof
            rw [hear_none hof] at kk
            exact we_non kk
end
/-! ### plain data -/
theorem pl_mono {n m : Nat} {d : D} (h : Pl n d) (l : n ≤ m) : Pl m d := by
  induction l with
  | refl => exact h
  | step _ ih => exact ih.up
theorem pl_fds : ∀ (f : Fo) (n : Nat), (Fs.rw f 1).length ≤ 1000 → 2 * ht f ≤ n → ∀ d ∈ fd f, Pl n d
  | .nil, n, _, _, d, h => by simp [fd] at h
  | .cons nn o r, n, hl, hn, d, h => by
    have e : (Fs.rw (.cons nn o r) 1).length = (Fs.rw o 1).length + (Fs.rw r 1).length + 1 := by
      show (Fs.rw o (1 + 1) ++ Fs.rw r 1).length + 1 = _
      rw [List.length_append, rw_len o (1 + 1) 1]
    have h1 : ht o + 1 ≤ ht (.cons nn o r) := Nat.le_max_left _ _
    have h2 : ht r ≤ ht (.cons nn o r) := Nat.le_max_right _ _
    rcases List.mem_cons.mp h with rfl | h
    · obtain ⟨m, rfl⟩ : ∃ m, n = m + 2 := ⟨n - 2, by omega⟩
      have io := pl_fds o m (by omega) (by omega)
      have lo : (fd o).length ≤ 1000 := by
        rw [fd_it o 1, List.length_map]
        have := it_len o 1
        omega
      refine .tup (fun d hd => ?_) (by show 2 ≤ 1000; decide)
      rcases List.mem_cons.mp hd with rfl | hd
      · exact .str
      · rw [List.mem_singleton.mp hd]
        exact .tup io lo
    · exact pl_fds r n (by omega) (by omega) d h
theorem pl_fd {f : Fo} {n : Nat} (hl : (Fs.rw f 1).length ≤ 1000) (hn : 2 * ht f + 1 ≤ n) : Pl n (.tup (fd f)) := by
  obtain ⟨m, rfl⟩ : ∃ m, n = m + 1 := ⟨n - 1, by omega⟩
  refine .tup (pl_fds f m hl (by omega)) ?_
  rw [fd_it f 1, List.length_map]
  have := it_len f 1
  omega
theorem ht_rows : ∀ f : Fo, ht f ≤ (Fs.rw f 1).length
  | .nil => Nat.le_refl _
  | .cons nn o r => by
    have e : (Fs.rw (.cons nn o r) 1).length = (Fs.rw o 1).length + (Fs.rw r 1).length + 1 := by
      show (Fs.rw o (1 + 1) ++ Fs.rw r 1).length + 1 = _
      rw [List.length_append, rw_len o (1 + 1) 1]
    have h1 := ht_rows o
    have h2 := ht_rows r
    rw [e]
    show max (ht o + 1) (ht r) ≤ _
    omega
theorem of_len {s : Str} {f : Fo} (h : ofM (tl s) = some f) : (Fs.rw f 1).length ≤ s.length + 1 := by
  by_cases h1 : s = "-"
  · rw [of_minus h1] at h
    obtain rfl := Option.some.inj h
    exact Nat.zero_le _
  · rw [(of_rows h h1).1, len_tl]
    exact (rd_len (tl s) [] 1).1
theorem pl_heard {s : Str} {n : Nat} (hl : s.length ≤ 900) (hn : 2 * s.length + 3 ≤ n) : Pl n (heardD s) := by
  cases h : ofM (tl s) with
  | none => rw [hear_none h]; exact .non
  | some f =>
    rw [hear_some h]
    have h1 := of_len h
    have h2 := ht_rows f
    exact pl_fd (by omega) (by omega)
theorem tx_len : ∀ f : Fo, Fs.okF f → (Fs.tx0 f).length ≤ 11 * (Fs.rw f 1).length
  | .nil, _ => Nat.le_refl _
  | .cons nn o r, ⟨h1, h2, h3⟩ => by
    have e : (Fs.rw (.cons nn o r) 1).length = (Fs.rw o 1).length + (Fs.rw r 1).length + 1 := by
      show (Fs.rw o (1 + 1) ++ Fs.rw r 1).length + 1 = _
      rw [List.length_append, rw_len o (1 + 1) 1]
    have i1 := tx_len o h2
    have i2 := tx_len r h3
    have n1 := (Fs.nm_len h1).2
    have b1 : (Fs.bel o).length ≤ (Fs.tx0 o).length + 2 := by
      cases o with
      | nil => exact Nat.zero_le _
      | cons a b c =>
        show (40 :: (Fs.tx0 (.cons a b c) ++ [41])).length ≤ _
        simp
    have b2 : (Fs.beh r).length ≤ (Fs.tx0 r).length + 1 := by
      cases r with
      | nil => exact Nat.zero_le _
      | cons a b c => exact Nat.le_refl _
    rw [e, Fs.tx0_cons]
    simp only [List.length_append]
    omega
theorem tx_pos {f : Fo} (h : Fs.okF f) : 1 ≤ (Fs.tx f).length := by
  cases f with
  | nil => decide
  | cons nn o r =>
    obtain ⟨h1, _⟩ := h
    have n1 := (Fs.nm_len h1).1
    show 1 ≤ (Fs.tx0 (.cons nn o r)).length
    rw [Fs.tx0_cons, List.length_append]
    omega
end Wf

set_option Elab.async false
set_option maxRecDepth 100000
set_option maxHeartbeats 4000000
namespace Wf
open PySem PySem.Spec PyProof.Rows L2 Dv TL
open Ko (mkS nameB okS)
open Fs (Fo ofM rdL)
/-! ### by hand -/
abbrev cn (n : Str) (o r : Fo) : Fo := .cons (tl n) o r
def fine4 : List (Str × Fo) := [("-", .nil), ("a", cn "a" .nil .nil), ("a a", cn "a" .nil (cn "a" .nil .nil)), ("a(b)", cn "a" (cn "b" .nil .nil) .nil)]
def fineE : Str × Fo := ("a(b(c) d) abcdefgh", cn "a" (cn "b" (cn "c" .nil .nil) (cn "d" .nil .nil)) (cn "abcdefgh" .nil .nil))
def fineS : List (Str × Fo) := fine4 ++ [fineE]
def fnD (p : Str × Fo) : D := .tup [.str p.1, .tup (fd p.2)]
def bad1 : List Str := ["", " ", "a()", "a( b)", "a(b", "a)", "a) b", "(a)", "a(b)c", "a (b)", "a((b))", "a,b", "a  b", "a ", "- a"]
def bad2 : List Str := ["a(-)", "A", "a(b c) ", "a(b)(c)", "a\nb", "abcdefghi", "a(b))", ")a(", " a", "a(b )", "a1", "()"]
def bad3 : List Str := ["a(b) (c)", "a(b)\n", "--", "a-b", "a(b(c)", "a(abcdefghi)", "-\n", "a_b", "a[b]", "a(b;c)"]
def badS : List Str := bad1 ++ bad2 ++ bad3
def gOwn : D → D
  | .tup [_, d] => d
  | d => d
def gFlat : D → D
  | .tup [d, _] => d
  | d => d
def gHear : D → D
  | .str s => heardD s
  | d => d
theorem fine_of : ∀ p ∈ fineS, ofM (tl p.1) = some p.2 := fun p hp => of_decide_eq_true (List.all_eq_true.mp (show fineS.all (fun p => decide (ofM (tl p.1) = some p.2)) = true by decide +kernel) p hp)
theorem fine_tx : ∀ p ∈ fineS, mkS (Fs.tx p.2) = p.1 := fun p hp => by
  rw [← (Fs.of_some (fine_of p hp)).1, mk_tl']
theorem fine_len : ∀ p ∈ fineS, p.1.length ≤ 100 := fun p hp => of_decide_eq_true (List.all_eq_true.mp (show fineS.all (fun p => decide (p.1.length ≤ 100)) = true by decide +kernel) p hp)
theorem bad_len : ∀ s ∈ badS, s.length ≤ 100 := fun s hs => of_decide_eq_true (List.all_eq_true.mp (show badS.all (fun s => decide (s.length ≤ 100)) = true by decide +kernel) s hs)
theorem bad_of : ∀ s ∈ badS, ofM (tl s) = none := fun s hs => Option.isNone_iff_eq_none.mp (List.all_eq_true.mp (show badS.all (fun s => (ofM (tl s)).isNone) = true by decide +kernel) s hs)
theorem hear_bad : (badS.map D.str).map gHear = (List.replicate 37 [D.non]).flatten := by
  have e : ∀ l : List Str, (∀ s ∈ l, ofM (tl s) = none) → (l.map D.str).map gHear = (List.replicate l.length [D.non]).flatten := fun l => by
    induction l with
    | nil => exact fun _ => rfl
    | cons s r ih =>
      intro h
      rw [List.map_cons, List.map_cons, ih fun s hs => h s (List.mem_cons_of_mem _ hs), List.length_cons, List.replicate_succ, List.flatten_cons]
      show heardD s :: _ = _
      rw [hear_none (h s List.mem_cons_self)] <;> rfl
  exact e badS bad_of
def longS : Str := Txt.mul "a(" 59 ++ "b" ++ Txt.mul ")" 59
def qS : Str := Txt.mul "q " 99 ++ "q"
def cutL : Str := cutS longS none (some (-1))
theorem long_some : ∃ f, ofM (tl longS) = some f := Option.isSome_iff_exists.mp (by decide +kernel)
theorem q_some : ∃ f, ofM (tl qS) = some f := Option.isSome_iff_exists.mp (by decide +kernel)
theorem cut_none : ofM (tl cutL) = none := Option.isNone_iff_eq_none.mp (by decide +kernel)
theorem long_len : longS.length ≤ 999 := by decide +kernel
theorem q_len : qS.length ≤ 999 := by decide +kernel
theorem cutL_len : cutL.length ≤ 999 := by decide +kernel
theorem long_ne : ¬ longS = "-" := by decide +kernel
theorem q_ne : ¬ qS = "-" := by decide +kernel
theorem long_dp : (60 : Int) ∈ (rdL [] 1 (tl longS)).map (·.2) ∧ ∀ y ∈ (rdL [] 1 (tl longS)).map (·.2), y ≤ 60 := by decide +kernel
theorem q_rows : (rdL [] 1 (tl qS)).length = 100 := by decide +kernel
def got1 : List D := (fineS.map fnD).map gOwn ++ (fineS.map fnD).map gFlat
def got2 : List D := got1 ++ [.int 60, .bl true, .non]
def got3 : List D := got2 ++ [.int 100]
def goal4 : List D := got3 ++ (List.replicate 37 [D.non]).flatten
theorem pl_goal4 : Pl 20 (.lst goal4) := plB_ok (by decide +kernel)
abbrev nHand : List Str := ["_law_fine", "_law_bad", "_law_got", "_law_flat_here", "_law_own", "_law_goal", "_law_long"]
theorem scHand : FnScope nHand [] (defScope tHand) := ⟨rfl, rfl, rfl, by decide +kernel, rfl, by decide +kernel, by decide +kernel⟩
def cHand : List D → (D → Prop) → Prop := fun ds KK => ds = [] ∧ KK (.bl true)
structure Hns (P : Program) (w : World) (K : PySem.W.Frag) (mg : Str → Option Value) (base : Heap) (C : Addr) where
  T : Tx K mg C
  Z : Zs mg
  fI : Addr
  dI : FuncData
  M : Mk K C fI
  I : FnOk P w K mg base CX0 2 fI dI ["self", "trees"] (spU (gc K C) cInit)
  b2 : Binds K dI ["self", "trees"] []
  he : FnC P w K mg base "_law_heard" 5 ["_law_flat_here"] (spP (gc K C) cHeard)
  fO : Addr
  dO : FuncData
  S : Stat K C "of" fO
  OP : FnOk P w K mg base CX0 4 fO dO ["text"] (spP (gc K C) cOfP)
  bO : Binds K dO ["text"] []
  fX : Addr
  pX : Addr
  dX : FuncData
  X : FnOk P w K mg base CX0 3 fX dX ["self"] (spP (gc K C) cText)
  bX : Binds K dX ["self"] []
  hX : PropOf K C "text" pX fX
  fD : Addr
  pD : Addr
  dD : FuncData
  DP : FnOk P w K mg base CX0 1 fD dD ["self"] (spP (gc K C) cDepth)
  bD : Binds K dD ["self"] []
  hD : PropOf K C "depth" pD fD
  fL : Addr
  dL : FuncData
  LN : FnOk P w K mg base CX0 1 fL dL ["self"] (spP (gc K C) cLen)
  bL : Binds K dL ["self"] []
  sL : PySem.W.findIn K (.ref C) "__len__" = some (some (.ref fL))
  nL : PySem.W.isFn K (.ref fL) = true
  sm : ∀ n : Nat, FnC P w K mg base "_law_same" (n + 1) ["_law_got", "_law_goal"] (spP (gc K C) (cSame n))
section
variable {P : Program} {w : World} {K : PySem.W.Frag} {mg : Str → Option Value} {base : Heap} {C : Addr}
theorem mul_okS {z : Str} {n : Int} (hz : z.length ≤ 2) (h0 : 0 ≤ n) (h1 : n ≤ 100) : MulOk z n := mulOk_of 2 100 hz h1 (by omega) (by decide) (by decide)
theorem ok_hand {f : Addr} {fdt : FuncData} (F : Fun K "_law_by_hand_right" "_law_by_hand_right" tHand f fdt) (Z : Hns P w K mg base C) : FnOk P w K mg base CX0 22 f fdt [] (spP (gc K C) cHand) := by
  refine def_p F scHand (fun ds Kd h => ?_) (fun cdv A outer s H E ds Kd hr h => ?_)
  · rw [h.1] <;> rfl
  · obtain ⟨rfl, kk⟩ := h
    have hN := scHand.nd
    obtain ⟨gL, hgL⟩ := long_some
    obtain ⟨gQ, hgQ⟩ := q_some
    have rL := (of_rows hgL long_ne).1
    have rQ := (of_rows hgQ q_ne).1
    refine wb_cons <| ws_own hN <| wl_lits (fine4.map fnD) rfl ⟨_, _, .hd, ?_⟩
    refine wb_cons <| ws_expr <| we_append hN .hd .own <| wa_cons <| we_lit (fnD fineE) rfl <| wa_nil ⟨_, _, _, _, _, rfl, .hd, .own, by decide, ?_⟩
    have e1 : fine4.map fnD ++ [fnD fineE] = fineS.map fnD := by unfold fineS; rw [List.map_append] <;> rfl
    rw [e1]
    refine wb_cons <| ws_set hN <| we_lit (.lst (bad1.map D.str)) rfl ⟨_, _, (.tl .hd), ?_⟩
    refine wb_cons <| ws_set hN <| we_bin <| we_name (.tl .hd) <| we_lit (.lst (bad2.map D.str)) rfl <| bo_catL (xs := bad1.map D.str) (ys := bad2.map D.str) (by decide) ⟨_, _, (.tl .hd), ?_⟩
    refine wb_cons <| ws_set hN <| we_bin <| we_name (.tl .hd) <| we_lit (.lst (bad3.map D.str)) rfl <| bo_catL (xs := bad1.map D.str ++ bad2.map D.str) (ys := bad3.map D.str) (by decide) ⟨_, _, (.tl .hd), ?_⟩
    have e2 : bad1.map D.str ++ bad2.map D.str ++ bad3.map D.str = badS.map D.str := by unfold badS; rw [List.map_append, List.map_append]
    rw [e2]
    -- got
    refine wb_cons <| ws_set hN <| we_bin <| we_new <| wl_map (own := [("_law_flat_here", 3), ("_law_own", 4)]) gOwn rfl rfl hN (blkOk_by (show blkC nHand (defScope tHand) _ _ = true by decide +kernel)) (fun _ _ _ _ _ => tgOk_two hN rfl (h2 := fun i j hi hj => pg_tup rfl (pgs_cons (pg_name hN hi (Or.inl rfl)) (pgs_cons (pg_name hN hj (Or.inl rfl)) pgs_nil)))) <| wi_seq rfl <| we_freeze .hd ⟨_, rfl, _, .cons (.tl (.tl (.tl .hd))) (.cons (.tl (.tl (.tl (.tl .hd)))) .nil), by decide, fun d hd => ?_, ?_⟩
    · obtain ⟨p, hp, rfl⟩ := List.mem_map.mp hd
      have hl := fine_len p hp
      refine ⟨_, _, .two, rfl, .cons (.tl (.tl (.tl .hd))) (.cons (.tl (.tl (.tl (.tl .hd)))) .nil), fun _ _ _ _ _ => we_call Z.he.ok (hr.mono (by decide)) Z.he.m Z.he.kp Z.he.b dfl_nil <| wa_cons <| we_name (.tl (.tl (.tl .hd))) <| wa_nil ⟨p.1, rfl, by omega, hear_some (fine_of p hp), .cons (.tl (.tl (.tl .hd))) (.cons (.tl (.tl (.tl (.tl .hd)))) .nil)⟩⟩
    refine we_new <| wl_map (own := [("_law_flat_here", 3), ("_law_own", 4)]) gFlat rfl rfl hN (blkOk_by (show blkC nHand (defScope tHand) _ _ = true by decide +kernel)) (fun _ _ _ _ _ => tgOk_two hN rfl (h2 := fun i j hi hj => pg_tup rfl (pgs_cons (pg_name hN hi (Or.inl rfl)) (pgs_cons (pg_name hN hj (Or.inl rfl)) pgs_nil)))) <| wi_seq rfl <| we_name .hd ⟨_, rfl, _, .cons (.tl (.tl (.tl .hd))) (.cons (.tl (.tl (.tl (.tl .hd)))) .nil), by decide, fun d hd => ?_, ?_⟩
    · obtain ⟨p, hp, rfl⟩ := List.mem_map.mp hd
      have hl := fine_len p hp
      have hft := of_fit (fine_of p hp) (by omega)
      refine ⟨_, _, .two, rfl, .cons (.tl (.tl (.tl .hd))) (.cons (.tl (.tl (.tl (.tl .hd)))) .nil), fun _ _ _ _ _ => we_prop (n := 0) Z.T.cl Z.hX Z.X (hr.mono (by decide)) Z.bX dfl_nil <| we_make (n := 0) (G := gc K C) Z.M Z.I (hr.mono (by decide)) Z.T.mC Z.b2 dfl_nil <| wa_cons <| we_name (.tl (.tl (.tl (.tl .hd)))) <| wa_nil ⟨p.2, rfl, rfl, hft.1, rfl, _, rfl, _, rfl, p.2, rfl, hft, ?_, .cons (.tl (.tl (.tl .hd))) (.cons (.tl (.tl (.tl (.tl .hd)))) .nil)⟩⟩
      rw [fine_tx p hp] <;> rfl
    refine bo_catL (by decide) ⟨_, _, (.tl (.tl .hd)), ?_⟩
    show WB _ _ [("_law_fine", Sl.val (.lst (fineS.map fnD))), ("_law_bad", .val (.lst (badS.map D.str))), ("_law_got", .val (.lst got1)), ("_law_flat_here", .un), ("_law_own", .un), ("_law_goal", .un), ("_law_long", .un)] _ _
    -- goal
    refine wb_cons <| ws_set hN <| we_bin <| we_new <| wl_map (own := [("_law_flat_here", 3), ("_law_own", 4)]) gOwn rfl rfl hN (blkOk_by (show blkC nHand (defScope tHand) _ _ = true by decide +kernel)) (fun _ _ _ _ _ => tgOk_two hN rfl (h2 := fun i j hi hj => pg_tup rfl (pgs_cons (pg_name hN hi (Or.inl rfl)) (pgs_cons (pg_name hN hj (Or.inl rfl)) pgs_nil)))) <| wi_seq rfl <| we_name .hd ⟨_, rfl, _, .cons (.tl (.tl (.tl .hd))) (.cons (.tl (.tl (.tl (.tl .hd)))) .nil), by decide, fun d hd => ?_, ?_⟩
    · obtain ⟨p, hp, rfl⟩ := List.mem_map.mp hd
      exact ⟨_, _, .two, rfl, .cons (.tl (.tl (.tl .hd))) (.cons (.tl (.tl (.tl (.tl .hd)))) .nil), fun _ _ _ _ _ => we_name (.tl (.tl (.tl (.tl .hd)))) ⟨rfl, .cons (.tl (.tl (.tl .hd))) (.cons (.tl (.tl (.tl (.tl .hd)))) .nil)⟩⟩
    refine we_new <| wl_map (own := [("_law_flat_here", 3), ("_law_own", 4)]) gFlat rfl rfl hN (blkOk_by (show blkC nHand (defScope tHand) _ _ = true by decide +kernel)) (fun _ _ _ _ _ => tgOk_two hN rfl (h2 := fun i j hi hj => pg_tup rfl (pgs_cons (pg_name hN hi (Or.inl rfl)) (pgs_cons (pg_name hN hj (Or.inl rfl)) pgs_nil)))) <| wi_seq rfl <| we_name .hd ⟨_, rfl, _, .cons (.tl (.tl (.tl .hd))) (.cons (.tl (.tl (.tl (.tl .hd)))) .nil), by decide, fun d hd => ?_, ?_⟩
    · obtain ⟨p, hp, rfl⟩ := List.mem_map.mp hd
      exact ⟨_, _, .two, rfl, .cons (.tl (.tl (.tl .hd))) (.cons (.tl (.tl (.tl (.tl .hd)))) .nil), fun _ _ _ _ _ => we_name (.tl (.tl (.tl .hd))) ⟨rfl, .cons (.tl (.tl (.tl .hd))) (.cons (.tl (.tl (.tl (.tl .hd)))) .nil)⟩⟩
    refine bo_catL (by decide) ⟨_, _, (.tl (.tl (.tl (.tl (.tl .hd))))), ?_⟩
    show WB _ _ [("_law_fine", Sl.val (.lst (fineS.map fnD))), ("_law_bad", .val (.lst (badS.map D.str))), ("_law_got", .val (.lst got1)), ("_law_flat_here", .un), ("_law_own", .un), ("_law_goal", .val (.lst got1)), ("_law_long", .un)] _ _
    have hl1 : got1.length = 10 := by decide
    obtain ⟨g1, hg1⟩ : ∃ g1, g1 = got1 := ⟨_, rfl⟩
    rw [← hg1] at hl1 ⊢
    -- long
    have l59 : (Txt.mul "a(" 59).length ≤ 200 := by decide +kernel
    have l59b : (Txt.mul "a(" 59 ++ ("b" : Str)).length ≤ 200 := by decide +kernel
    have l59c : (Txt.mul ")" 59).length ≤ 200 := by decide +kernel
    have l99 : (Txt.mul "q " 99).length ≤ 200 := by decide +kernel
    have lb : ("b" : Str).length ≤ 1 := by decide +kernel
    have lq : ("q" : Str).length ≤ 1 := by decide +kernel
    refine wb_cons <| ws_set hN <| we_bin <| we_bin <| we_bin <| we_str <| we_int <| bo_mulS (mul_okS (by decide +kernel) (by decide) (by decide)) <| we_str <| bo_addS (by rw [size_eq]; omega) <| we_bin <| we_str <| we_int <| bo_mulS (mul_okS (by decide +kernel) (by decide) (by decide)) <| bo_addS (by rw [size_eq]; omega) ⟨_, _, (.tl (.tl (.tl (.tl (.tl (.tl .hd)))))), ?_⟩
    show WB _ _ [("_law_fine", Sl.val (.lst (fineS.map fnD))), ("_law_bad", .val (.lst (badS.map D.str))), ("_law_got", .val (.lst g1)), ("_law_flat_here", .un), ("_law_own", .un), ("_law_goal", .val (.lst g1)), ("_law_long", .val (.str longS))] _ _
    have hfL := of_fit hgL long_len
    have hfQ := of_fit hgQ q_len
    have tL : mkS (Fs.tx gL) = longS := by rw [← (Fs.of_some hgL).1, mk_tl']
    have dL := long_dp
    rw [← rL] at dL
    have lQ := q_rows
    rw [← rQ] at lQ
    have lL := long_len
    have lsz : longS.length ≤ sizeLine := by rw [size_eq]; omega
    have lqq := q_len
    have lcl := cutL_len
    have ecut : cutS longS none (some (-1)) = cutL := rfl
    have eq9 : Txt.mul "q " 99 ++ "q" = qS := rfl
    refine wb_cons <| ws_own hN <| wl_cat <| we_name (.tl (.tl .hd)) <| we_new <| wl_lst <| wa_cons <| we_prop (n := 0) Z.T.cl Z.hD Z.DP (hr.mono (by decide)) Z.bD dfl_nil <| we_stat (by rfl) Z.T.mC Z.S Z.OP (hr.mono (by decide)) Z.bO <| wa_cons <| we_name (.tl (.tl (.tl (.tl (.tl (.tl .hd)))))) <| wa_nil ⟨longS, gL, rfl, lL, hgL, _, rfl, gL, 60, rfl, dL.1, dL.2, ?_⟩
    refine wa_cons <| we_cmp <| we_prop (n := 0) Z.T.cl Z.hX Z.X (hr.mono (by decide)) Z.bX dfl_nil <| we_stat (by rfl) Z.T.mC Z.S Z.OP (hr.mono (by decide)) Z.bO <| wa_cons <| we_name (.tl (.tl (.tl (.tl (.tl (.tl .hd)))))) <| wa_nil ⟨longS, gL, rfl, lL, hgL, _, rfl, gL, rfl, hfL, ?_⟩
    rw [tL]
    refine we_name (.tl (.tl (.tl (.tl (.tl (.tl .hd)))))) <| o_eqS (decide_eq_true rfl) ?_
    refine wa_cons <| we_call Z.he.ok (hr.mono (by decide)) Z.he.m Z.he.kp Z.he.b dfl_nil <| wa_cons <| we_cutS <| we_name (.tl (.tl (.tl (.tl (.tl (.tl .hd)))))) ⟨_, rfl, lsz, .none <| .some <| we_neg <| we_int ⟨1, rfl, -1, rfl, wa_nil ⟨_, rfl, lcl, ?_⟩⟩⟩
    rw [ecut, hear_none cut_none]
    refine wa_nil ⟨by show 3 ≤ 100000; decide, _, _, rfl, rfl, by rw [hl1]; show 10 + 3 ≤ 100000; decide, _, _, (.tl (.tl .hd)), ?_⟩
    refine wb_cons <| ws_expr <| we_append hN (.tl (.tl .hd)) .own <| wa_cons <| we_callB (id := "len") (by rfl) Z.Z.len <| wa_cons <| we_stat (by rfl) Z.T.mC Z.S Z.OP (hr.mono (by decide)) Z.bO <| wa_cons <| we_bin <| we_bin <| we_str <| we_int <| bo_mulS (mul_okS (by decide +kernel) (by decide) (by decide)) <| we_str <| bo_addS (by rw [size_eq]; omega) ?_
    rw [eq9]
    refine wa_nil ⟨qS, gQ, rfl, lqq, hgQ, wa_nil <| cd_lenObj Z.LN (hr.mono (by decide)) Z.bL Z.sL Z.nL ⟨gQ, rfl, 100, by rw [lQ], by decide, wa_nil ⟨_, _, _, _, _, rfl, (.tl (.tl .hd)), .own, by rw [List.length_append, hl1]; show 10 + 3 < 100000; decide, ?_⟩⟩⟩
    -- same
    refine wb_one <| ws_ret <| we_call (Z.sm 20).ok (hr.mono (by decide)) (Z.sm 20).m (Z.sm 20).kp (Z.sm 20).b dfl_nil <| wa_cons <| we_bin <| we_freeze (.tl (.tl .hd)) <| we_new <| wl_map (own := [("_law_flat_here", 3)]) gHear rfl rfl hN (blkOk_by (show blkC nHand (defScope tHand) _ _ = true by decide +kernel)) (fun _ _ _ _ _ => tgOk_name hN) <| wi_seq rfl <| we_name (.tl .hd) ⟨_, rfl, _, .cons (.tl (.tl (.tl .hd))) .nil, by decide, fun d hd => ?_, ?_⟩
    · obtain ⟨x, hx, rfl⟩ := List.mem_map.mp hd
      have hl := bad_len x hx
      exact ⟨_, _, .name, rfl, .cons (.tl (.tl (.tl .hd))) .nil, fun _ _ _ _ _ => we_call Z.he.ok (hr.mono (by decide)) Z.he.m Z.he.kp Z.he.b dfl_nil <| wa_cons <| we_name (.tl (.tl (.tl .hd))) <| wa_nil ⟨x, rfl, by omega, rfl, .cons (.tl (.tl (.tl .hd))) .nil⟩⟩
    rw [hear_bad]
    refine bo_catL ?_ ?_
    · rw [List.length_append, List.length_append, hl1]
      decide
    refine wa_cons <| we_bin <| we_bin <| we_name (.tl (.tl (.tl (.tl (.tl .hd))))) <| we_new <| wl_lst <| wa_cons <| we_int <| wa_cons <| we_bl <| wa_cons <| we_non <| wa_cons <| we_int <| wa_nil ⟨by show 4 ≤ 100000; decide, bo_catL (by rw [hl1]; show 10 + 4 ≤ 100000; decide) ?_⟩
    refine we_bin <| we_new <| wl_lst <| wa_cons <| we_non <| wa_nil ⟨by show 1 ≤ 100000; decide, we_callB (id := "len") (by rfl) Z.Z.len <| wa_cons <| we_name (.tl .hd) <| wa_nil <| cd_len (xs := badS.map D.str) rfl (.inl rfl) <| bo_repL (by decide +kernel) (by decide +kernel) (by decide +kernel) <| bo_catL ?_ <| wa_nil ⟨.lst goal4, ?_, pl_goal4, kk⟩⟩
    · rw [List.length_append, hl1]
      decide
    · have e3 : ((badS.map D.str).length : Int).toNat = 37 := by decide +kernel
      rw [e3, hg1]
      unfold goal4 got3 got2
      simp only [List.append_assoc, List.cons_append, List.nil_append]
      rfl
end
end Wf

set_option Elab.async false
set_option maxRecDepth 100000
set_option maxHeartbeats 4000000
namespace Wf
open PySem PySem.Spec PyProof.Rows L2 Dv TL
open Ko (mkS nameB okS)
open Fs (Fo fo par ofM)
/-! ### right -/
def cRight : Cn → List D → (D → Cn → Prop) → Prop := fun c ds KK => Urn 0 c ∧ ds = [] ∧ ∀ c', KK (.bl true) c'
abbrev nRight : List Str := ["_law_urn", "_law_turn", "_law_rows_so", "_law_trees_so", "_law_flat_here", "_law_lap", "_law_k", "_law_sign", "_law_bent", "_law_own"]
theorem scRight : FnScope nRight ["_law_urn"] (defScope tRight) := ⟨rfl, rfl, rfl, by decide +kernel, rfl, by decide +kernel, by decide +kernel⟩
def sgnS : List Str := [" ", "(", ")", "a", "z", "-", "A", "_", "0"]
theorem sgn_len : ∀ s ∈ sgnS, s.length ≤ 1 := fun s hs => of_decide_eq_true (List.all_eq_true.mp (show sgnS.all (fun s => decide (s.length ≤ 1)) = true by decide +kernel) s hs)
theorem cutA (t : Str) (k : Nat) : (cutS t none (some (k : Int))).length ≤ k ∧ (cutS t none (some (k : Int))).length ≤ t.length := by
  rw [Ko.cut_hd, len_mk, List.length_take, ← len_tl]
  omega
theorem cutB (t : Str) (k : Nat) : (cutS t (some (k : Int)) none).length ≤ t.length - k := by
  rw [Ko.cut_tl, len_mk, List.length_drop, ← len_tl]
  omega
structure Fns (P : Program) (w : World) (K : PySem.W.Frag) (mg : Str → Option Value) (base : Heap) (C : Addr) where
  H : Hns P w K mg base C
  zr : mg "range" = none
  hd : FnC P w K mg base "_law_by_hand_right" 22 [] (spP (gc K C) cHand)
  tg : FnC P w K mg base "_law_tags" 3 ["_law_urn", "_law_many_so"] (spU (gc K C) cTags)
  rw : FnC P w K mg base "_law_rows" 3 ["_law_urn", "_law_tags_here", "_law_most"] (spU (gc K C) cRows)
  tr : FnC P w K mg base "_law_trees" 10 ["_law_rows_so"] (spP (gc K C) (cTr 9))
  fl : FnC P w K mg base "_law_flat" 10 ["_law_trees_so"] (spP (gc K C) (cFl 9))
  tk : FnC P w K mg base "_law_take" 1 ["_law_urn", "_law_low_so"] (spU (gc K C) cTake)
  dr : FnC P w K mg base "_law_of" 2 nDraw (spU (gc K C) cDraw)
  rd : FnC P w K mg base "_law_read" 112 ["_law_flat_here"] (spP (gc K C) (cRd 110))
section
variable {P : Program} {w : World} {K : PySem.W.Frag} {mg : Str → Option Value} {base : Heap} {C : Addr}
theorem ok_right {f : Addr} {fdt : FuncData} (F : Fun K "_law_right" "_law_right" tRight f fdt) (Z : Fns P w K mg base C) : FnOk P w K mg base CX0 212 f fdt ["_law_urn"] (spU (gc K C) cRight) := by
  refine def_u F scRight (fun c ds Kd h => ?_) (fun cdv A outer s H E p c ds Kd hr h => ?_)
  · rw [h.2.1] <;> rfl
  · obtain ⟨hu, rfl, kk⟩ := h
    have hN := scRight.nd
    refine wb_cons (ws_if (wt_not (wt_val (we_call0 Z.hd.ok (hr.mono (by decide)) Z.hd.m Z.hd.kp Z.hd.b dfl_nil ⟨rfl, true, rfl, fun h => absurd h (by decide), fun _ => wb_nil ?_⟩))))
    refine wb_cons (ws_for ["_law_turn"] rfl rfl PassesOwn.never (tgOk_name hN) (wi_range Z.zr (we_int ⟨10, rfl, by decide, by decide,
      fun i Γ2 => ∃ (cc : Cn) (t1 t2 t3 t4 t5 t6 t7 t8 : Sl), Γ2 = ([("_law_urn", .bor p cc), ("_law_turn", t1), ("_law_rows_so", t2), ("_law_trees_so", t3), ("_law_flat_here", t4), ("_law_lap", t5), ("_law_k", t6), ("_law_sign", t7), ("_law_bent", t8), ("_law_own", .un)] : En) ∧ Urn (60 * i) cc,
      ⟨c, .un, .un, .un, .un, .un, .un, .un, .un, rfl, hu⟩, fun i d Γ2 hd hpv => ?_, fun Γ2 hpv => ?_⟩)))
    · obtain ⟨cc, t1, t2, t3, t4, t5, t6, t7, t8, rfl, hu1⟩ := hpv
      have hi : i < 10 := by
        have := (List.getElem?_eq_some_iff.mp hd).1
        rw [List.length_map, List.length_range] at this
        exact this
      refine ⟨_, _, .name, rfl, .cons (.tl .hd) .nil, ?_⟩
      refine wb_cons <| ws_set hN <| we_callU hN Z.rw.ok (hr.mono (by decide)) Z.rw.m Z.rw.kp Z.rw.b dfl_nil .hd .bor <| wa_cons <| we_callU hN Z.tg.ok (hr.mono (by decide)) Z.tg.m Z.tg.kp Z.tg.b dfl_nil .hd .bor <| wa_cons <| we_int <| wa_nil ⟨_, _, .hd, .bor, _, hu1, by omega, rfl, fun ts c1 tg hu2 => ⟨_, _, .bor, .hd, wa_cons <| we_int <| wa_nil ⟨_, _, .hd, .bor, _, ts, hu2, by omega, rfl, tg, fun rows c2 hv hn hl hu3 => ⟨_, _, .bor, .hd, _, _, (.tl (.tl .hd)), ?_⟩⟩⟩⟩
      obtain ⟨g, hg⟩ : ∃ g, g = fo (par rows) := ⟨_, rfl⟩
      have hrw : Fs.rw g 1 = rows := by rw [hg]; exact Fs.rw_par hv
      have hok : Fs.okF g := Fs.rw_ok g 1 (by rw [hrw]; exact hn)
      have hgl : (Fs.rw g 1).length ≤ 9 := by rw [hrw]; exact hl
      have hht := ht_rows g
      have htx := tx_len g hok
      have htp := tx_pos hok
      have hof : ofM (Fs.tx g) = some g := Fs.of_tx hok
      have htl : (mkS (Fs.tx g)).length ≤ 99 := by
        rw [len_mk]
        cases g with
        | nil => decide
        | cons a b c =>
          show (Fs.tx0 (.cons a b c)).length ≤ 99
          omega
      have htp' : 1 ≤ (mkS (Fs.tx g)).length := by rw [len_mk]; exact htp
      obtain ⟨t, ht⟩ : ∃ t, t = mkS (Fs.tx g) := ⟨_, rfl⟩
      have hoft : ofM (tl t) = some g := by rw [ht]; exact hof
      have hfit := of_fit hoft (by rw [ht]; omega)
      refine wb_cons <| ws_set hN <| we_call Z.tr.ok (hr.mono (by decide)) Z.tr.m Z.tr.kp Z.tr.b dfl_nil <| wa_cons <| we_name (.tl (.tl .hd)) <| wa_nil ⟨rows, rfl, hl, by decide, _, _, (.tl (.tl (.tl .hd))), ?_⟩
      rw [← hg]
      refine wb_cons <| ws_set hN <| we_call Z.fl.ok (hr.mono (by decide)) Z.fl.m Z.fl.kp Z.fl.b dfl_nil <| wa_cons <| we_name (.tl (.tl (.tl .hd))) <| wa_nil ⟨g, rfl, by omega, by omega, _, _, (.tl (.tl (.tl (.tl .hd)))), ?_⟩
      rw [← ht] at htl htp' ⊢
      have hls : t.length ≤ sizeLine := by rw [size_eq]; omega
      refine wb_cons <| ws_if <| wt_not <| wt_val <| we_call (Z.H.sm 210).ok (hr.mono (by decide)) (Z.H.sm 210).m (Z.H.sm 210).kp (Z.H.sm 210).b dfl_nil <| wa_cons <| we_new <| wl_lst <| wa_cons <| we_call Z.H.he.ok (hr.mono (by decide)) Z.H.he.m Z.H.he.kp Z.H.he.b dfl_nil <| wa_cons <| we_name (.tl (.tl (.tl (.tl .hd)))) <| wa_nil ⟨t, rfl, by omega, ?_⟩
      rw [hear_some hoft]
      refine wa_cons <| we_prop (n := 0) Z.H.T.cl Z.H.hX Z.H.X (hr.mono (by decide)) Z.H.bX dfl_nil <| we_make (n := 0) (G := gc K C) Z.H.M Z.H.I (hr.mono (by decide)) Z.H.T.mC Z.H.b2 dfl_nil <| wa_cons <| we_name (.tl (.tl (.tl .hd))) <| wa_nil ⟨g, rfl, rfl, hfit.1, rfl, _, rfl, _, rfl, g, rfl, hfit, ?_⟩
      rw [← ht]
      refine wa_nil ⟨by show 2 ≤ 100000; decide, wa_cons <| we_new <| wl_lst <| wa_cons <| we_name (.tl (.tl (.tl .hd))) <| wa_cons <| we_name (.tl (.tl (.tl (.tl .hd)))) <| wa_nil ⟨by show 2 ≤ 100000; decide, wa_nil ⟨.lst [.tup (fd g), .str t], rfl, ?_, true, rfl, fun h => absurd h (by decide), fun _ => wb_nil ?_⟩⟩⟩
      · refine .lst (n := 209) (fun d hd => ?_) (by show 2 ≤ 1000; decide)
        rcases List.mem_cons.mp hd with rfl | hd
        · exact pl_fd hfit.1 (by omega)
        · rw [List.mem_singleton.mp hd]
          exact .str
      refine wb_one (ws_for ["_law_lap"] rfl rfl PassesOwn.never (tgOk_name hN) (wi_range Z.zr (we_int ⟨4, rfl, by decide, by decide,
        fun j Γ2 => ∃ (cc : Cn) (t5 t6 t7 t8 : Sl), Γ2 = ([("_law_urn", .bor p cc), ("_law_turn", .val d), ("_law_rows_so", .val (.tup (rows.map rowD))), ("_law_trees_so", .val (.tup (fd g))), ("_law_flat_here", .val (.str t)), ("_law_lap", t5), ("_law_k", t6), ("_law_sign", t7), ("_law_bent", t8), ("_law_own", .un)] : En) ∧ Urn (60 * i + 9 + 40 + 2 * j) cc,
        ⟨c2, t5, t6, t7, t8, rfl, hu3⟩, fun j d2 Γ2 hd2 hpv => ?_, fun Γ2 hpv => ?_⟩)))
      · obtain ⟨cc, t5, t6, t7, t8, rfl, hu4⟩ := hpv
        have hj : j < 4 := by
          have := (List.getElem?_eq_some_iff.mp hd2).1
          rw [List.length_map, List.length_range] at this
          exact this
        refine ⟨_, _, .name, rfl, .cons (.tl (.tl (.tl (.tl (.tl .hd))))) .nil, ?_⟩
        refine wb_cons <| ws_par (i := 6) (j := 7) rfl hN rfl rfl (by decide) (by rfl) (by rfl) <| wa_cons <| we_callU hN Z.tk.ok (hr.mono (by decide)) Z.tk.m Z.tk.kp Z.tk.b dfl_nil .hd .bor <| wa_cons <| we_callB (id := "len") (by rfl) Z.H.Z.len <| wa_cons <| we_name (.tl (.tl (.tl (.tl .hd)))) <| wa_nil <| cd_lenS hls <| wa_nil ⟨_, _, .hd, .bor, _, _, hu4, by omega, rfl, by omega, by omega, fun k c5 k0 k1 hu5 => ⟨_, _, .bor, .hd, ?_⟩⟩
        refine wa_cons <| we_callU hN Z.dr.ok (hr.mono (by decide)) Z.dr.m Z.dr.kp Z.dr.b dfl_nil .hd .bor <| wa_cons <| we_new <| wl_lits (sgnS.map D.str) rfl <| wa_nil ⟨_, _, .hd, .bor, _, _, hu5, by omega, rfl, by decide, by decide, fun z c6 hz hu6 => ⟨_, _, .bor, .hd, wa_nil ⟨_, _, _, _, _, _, rfl, (.tl (.tl (.tl (.tl (.tl (.tl .hd)))))), (.tl (.tl (.tl (.tl (.tl (.tl (.tl .hd))))))), ?_⟩⟩⟩
        obtain ⟨y, hy, rfl⟩ := List.mem_map.mp hz
        have hyl := sgn_len y hy
        obtain ⟨kn, rfl⟩ : ∃ kn : Nat, k = (kn : Int) := ⟨k.toNat, by omega⟩
        have a1 := cutA t kn
        have b1 := cutB t kn
        have b2 := cutB t (kn + 1)
        rw [show ((kn + 1 : Nat) : Int) = (kn : Int) + 1 by omega] at b2
        generalize hA : cutS t none (some (kn : Int)) = a at *
        generalize hB : cutS t (some (kn : Int)) none = b at *
        generalize hB2 : cutS t (some ((kn : Int) + 1)) none = b' at *
        have sm : ∀ x y : Str, x.length + y.length ≤ 300 → x.length + y.length ≤ sizeLine := fun x y h => by rw [size_eq]; omega
        refine wb_cons <| ws_set hN <| we_new <| wl_lst <| wa_cons <| we_bin <| we_bin <| we_cutS <| we_name (.tl (.tl (.tl (.tl .hd)))) ⟨_, rfl, hls, .none <| .some <| we_name (.tl (.tl (.tl (.tl (.tl (.tl .hd)))))) ⟨_, rfl, we_name (.tl (.tl (.tl (.tl (.tl (.tl (.tl .hd))))))) <| bo_addS (by rw [hA]; exact sm _ _ (by omega)) <| we_cutS <| we_name (.tl (.tl (.tl (.tl .hd)))) ⟨_, rfl, hls, .some <| we_name (.tl (.tl (.tl (.tl (.tl (.tl .hd)))))) ⟨_, rfl, .none <| bo_addS (by rw [hA, hB]; exact sm _ _ (by rw [app_len]; omega)) ?_⟩⟩⟩⟩
        refine wa_cons <| we_bin <| we_cutS <| we_name (.tl (.tl (.tl (.tl .hd)))) ⟨_, rfl, hls, .none <| .some <| we_name (.tl (.tl (.tl (.tl (.tl (.tl .hd)))))) ⟨_, rfl, we_cutS <| we_name (.tl (.tl (.tl (.tl .hd)))) ⟨_, rfl, hls, .some <| we_bin <| we_name (.tl (.tl (.tl (.tl (.tl (.tl .hd)))))) <| we_int <| bo_add ⟨_, rfl, .none <| bo_addS (by rw [hA, hB2]; exact sm _ _ (by omega)) ?_⟩⟩⟩⟩
        refine wa_cons <| we_bin <| we_bin <| we_cutS <| we_name (.tl (.tl (.tl (.tl .hd)))) ⟨_, rfl, hls, .none <| .some <| we_name (.tl (.tl (.tl (.tl (.tl (.tl .hd)))))) ⟨_, rfl, we_name (.tl (.tl (.tl (.tl (.tl (.tl (.tl .hd))))))) <| bo_addS (by rw [hA]; exact sm _ _ (by omega)) <| we_cutS <| we_name (.tl (.tl (.tl (.tl .hd)))) ⟨_, rfl, hls, .some <| we_bin <| we_name (.tl (.tl (.tl (.tl (.tl (.tl .hd)))))) <| we_int <| bo_add ⟨_, rfl, .none <| bo_addS (by rw [hA, hB2]; exact sm _ _ (by rw [app_len]; omega)) ?_⟩⟩⟩⟩
        refine wa_cons <| we_bin <| we_name (.tl (.tl (.tl (.tl .hd)))) <| we_name (.tl (.tl (.tl (.tl (.tl (.tl (.tl .hd))))))) <| bo_addS (sm _ _ (by omega)) <| wa_nil ⟨by show 4 ≤ 100000; decide, _, _, (.tl (.tl (.tl (.tl (.tl (.tl (.tl (.tl .hd)))))))), ?_⟩
        rw [hA, hB, hB2]
        obtain ⟨bs, hbs⟩ : ∃ bs : List Str, bs = [a ++ y ++ b, a ++ b', a ++ y ++ b', t ++ y] := ⟨_, rfl⟩
        have hbl : ∀ x ∈ bs, x.length ≤ 101 := fun x hx => by
          rw [hbs] at hx
          simp only [List.mem_cons, List.not_mem_nil, or_false] at hx
          rcases hx with rfl | rfl | rfl | rfl
          · rw [app_len, app_len]; omega
          · rw [app_len]; omega
          · rw [app_len, app_len]; omega
          · rw [app_len]; omega
        have hb4 : bs.length = 4 := by rw [hbs] <;> rfl
        show WB _ _ [("_law_urn", Sl.bor p c6), ("_law_turn", .val d), ("_law_rows_so", .val (.tup (rows.map rowD))), ("_law_trees_so", .val (.tup (fd g))), ("_law_flat_here", .val (.str t)), ("_law_lap", .val d2), ("_law_k", .val (.int (kn : Int))), ("_law_sign", .val (.str y)), ("_law_bent", .val (.lst ([a ++ y ++ b, a ++ b', a ++ y ++ b', t ++ y].map D.str))), ("_law_own", .un)] _ _
        rw [← hbs]
        refine wb_one <| ws_if <| wt_not <| wt_val <| we_call (Z.H.sm 210).ok (hr.mono (by decide)) (Z.H.sm 210).m (Z.H.sm 210).kp (Z.H.sm 210).b dfl_nil <| wa_cons <| we_new <| wl_map (own := [("_law_own", 9)]) gHear rfl rfl hN (blkOk_by (show blkC nRight (defScope tRight) _ _ = true by decide +kernel)) (fun _ _ _ _ _ => tgOk_name hN) <| wi_seq rfl <| we_name (.tl (.tl (.tl (.tl (.tl (.tl (.tl (.tl .hd)))))))) ⟨_, rfl, _, .cons (.tl (.tl (.tl (.tl (.tl (.tl (.tl (.tl (.tl .hd))))))))) .nil, by rw [List.length_map, hb4]; decide, fun z2 hz2 => ?_, ?_⟩
        · obtain ⟨x, hx, rfl⟩ := List.mem_map.mp hz2
          have hxl := hbl x hx
          exact ⟨_, _, .name, rfl, .cons (.tl (.tl (.tl (.tl (.tl (.tl (.tl (.tl (.tl .hd))))))))) .nil, fun _ _ _ _ _ => we_call Z.H.he.ok (hr.mono (by decide)) Z.H.he.m Z.H.he.kp Z.H.he.b dfl_nil <| wa_cons <| we_name (.tl (.tl (.tl (.tl (.tl (.tl (.tl (.tl (.tl .hd))))))))) <| wa_nil ⟨x, rfl, by omega, rfl, .cons (.tl (.tl (.tl (.tl (.tl (.tl (.tl (.tl (.tl .hd))))))))) .nil⟩⟩
        refine wa_cons <| we_new <| wl_map (own := [("_law_own", 9)]) gHear rfl rfl hN (blkOk_by (show blkC nRight (defScope tRight) _ _ = true by decide +kernel)) (fun _ _ _ _ _ => tgOk_name hN) <| wi_seq rfl <| we_name (.tl (.tl (.tl (.tl (.tl (.tl (.tl (.tl .hd)))))))) ⟨_, rfl, _, .cons (.tl (.tl (.tl (.tl (.tl (.tl (.tl (.tl (.tl .hd))))))))) .nil, by rw [List.length_map, hb4]; decide, fun z2 hz2 => ?_, ?_⟩
        · obtain ⟨x, hx, rfl⟩ := List.mem_map.mp hz2
          have hxl := hbl x hx
          exact ⟨_, _, .name, rfl, .cons (.tl (.tl (.tl (.tl (.tl (.tl (.tl (.tl (.tl .hd))))))))) .nil, fun _ _ _ _ _ => we_call Z.rd.ok (hr.mono (by decide)) Z.rd.m Z.rd.kp Z.rd.b dfl_nil <| wa_cons <| we_name (.tl (.tl (.tl (.tl (.tl (.tl (.tl (.tl (.tl .hd))))))))) <| wa_nil ⟨x, rfl, by omega, by omega, rfl, .cons (.tl (.tl (.tl (.tl (.tl (.tl (.tl (.tl (.tl .hd))))))))) .nil⟩⟩
        refine wa_nil ⟨_, rfl, ?_, true, rfl, fun h => absurd h (by decide), fun _ => wb_nil ⟨c6, _, _, _, _, rfl, hu6.mono (by omega)⟩⟩
        refine .lst (n := 209) (fun z3 hz3 => ?_) (by rw [List.length_map, List.length_map, hb4]; decide)
        rw [List.map_map] at hz3
        obtain ⟨x, hx, rfl⟩ := List.mem_map.mp hz3
        have hxl := hbl x hx
        exact pl_heard (by omega) (by omega)
      · obtain ⟨cc, t5, t6, t7, t8, rfl, hu4⟩ := hpv
        rw [List.length_map, List.length_range] at hu4
        have e4 : (4 : Int).toNat = 4 := rfl
        rw [e4] at hu4
        exact ⟨cc, _, _, _, _, _, _, _, _, rfl, hu4.mono (by omega)⟩
    · obtain ⟨cc, t1, t2, t3, t4, t5, t6, t7, t8, rfl, hu1⟩ := hpv
      exact wb_one (ws_ret (we_bl ⟨_, .hd, kk _⟩))
/-! ### the law -/
abbrev nLaw : List Str := ["_law_script", "_law_cells_here", "_law_k"]
theorem scLaw : FnScope nLaw ["_law_script"] (defScope tLaw) := ⟨rfl, rfl, rfl, by decide +kernel, rfl, by decide +kernel, by decide +kernel⟩
def cLaw : List D → (D → Prop) → Prop := fun ds KK => ∃ (B : Nat) (ns : List Int), ds = [.seq (ns.map .int)] ∧ ns.length ≤ 63 ∧ B ≤ 2000000 ∧ (∀ n ∈ ns, n.natAbs < 2 ^ B) ∧ KK (.bl true)
theorem tr_map : ∀ l : List D, l.map (fun _ => D.bl true) = (List.replicate l.length true).map .bl
  | [] => rfl
  | d :: l => by
    rw [List.map_cons, tr_map l, List.length_cons, List.replicate_succ, List.map_cons]
theorem ok_law {f : Addr} {fd : FuncData} (F : Fun K "law" "law" tLaw f fd) (za : mg "all" = none) (zn : mg "len" = none) (zr : mg "range" = none)
    (ce : FnC P w K mg base "_law_cells" 1 ["_law_script", "_law_top"] (spP (gc K C) cCells)) (bx : FnC P w K mg base "_law_box" 1 ["_law_script", "_law_k"] (spL (gc K C) cBoxL)) (rt : FnC P w K mg base "_law_right" 212 ["_law_urn"] (spU (gc K C) cRight)) :
    FnOk P w K mg base CX0 213 f fd ["_law_script"] (spP (gc K C) cLaw) := by
  refine def_p F scLaw (fun ds Kd h => ?_) (fun cdv A outer s H E ds Kd hr h => ?_)
  · obtain ⟨B, ns, rfl, _⟩ := h
    rfl
  · obtain ⟨B, ns, rfl, hl, hB, hb, k⟩ := h
    have hN := scLaw.nd
    refine wb_cons <| ws_set hN <| we_call ce.ok (hr.mono (by decide)) ce.m ce.kp ce.b dfl_nil <| wa_cons <| we_name .hd <| wa_cons <| we_int <| wa_nil ⟨B, ns, rfl, hl, hB, hb, fun cs c1 c3 cb => ⟨_, _, .tl .hd, ?_⟩⟩
    refine wb_one <| ws_ret <| we_callB (id := "all") (by rfl) za <| wa_cons <| we_new <| wl_map (own := [("_law_k", 2)]) (fun _ => .bl true) rfl rfl hN (blkOk_by (show blkC nLaw (defScope tLaw) _ _ = true by decide +kernel)) (fun _ _ _ _ _ => tgOk_name hN) <|
      wi_range zr <| we_callB (id := "len") (by rfl) zn <| wa_cons <| we_name (.tl .hd) <| wa_nil <| cd_len (xs := cs.map .int) rfl (.inl rfl) ⟨_, rfl, ?_, ?_, _, .cons (.tl (.tl .hd)) .nil, ?_, fun d hd => ?_, ?_⟩
    · rw [List.length_map]
      omega
    · rw [List.length_map]
      omega
    · simp
      omega
    · obtain ⟨i, hi, rfl⟩ := List.mem_map.mp hd
      have hi := List.mem_range.mp hi
      rw [List.length_map] at hi
      refine ⟨_, _, .name, rfl, .cons (.tl (.tl .hd)) .nil, fun _ _ _ _ _ => ?_⟩
      refine we_callUL rt.ok hr rt.m rt.kp rt.b dfl_nil <| wl_call bx.ok (hr.mono (by decide)) bx.m bx.kp bx.b dfl_nil <| wa_cons <| we_name (.tl .hd) <| wa_cons <| we_name (.tl (.tl .hd)) <| wa_nil ⟨B + 14, cs, i, rfl, by omega, c3, by omega, cb, fun a b h0 h1 => ?_⟩
      exact ⟨⟨a, b, 0, rfl, h0, h1, by omega, by omega⟩, rfl, fun _ => ⟨rfl, .cons (.tl (.tl .hd)) .nil⟩⟩
    · rw [tr_map]
      refine wa_nil <| cd_all rfl rfl ?_
      rw [all_true]
      exact k
end
end Wf

set_option Elab.async false
set_option maxRecDepth 100000
set_option maxHeartbeats 4000000
namespace Wf
open PySem PySem.Spec PyProof.Rows L2 Dv
/-! ### what the top has left -/
def GF (K : PySem.W.Frag) (x : Str) (st : Stmt) : Prop := ∃ f fd, PySem.W.nsIn K mainGlobals x = some (some (.ref f)) ∧ Fun K x x st f fd
def MF (K : PySem.W.Frag) (C : Addr) (m qual : Str) (st : Stmt) : Prop := ∃ f fd, PySem.W.findIn K (.ref C) m = some (some (.ref f)) ∧ PySem.W.isFn K (.ref f) = true ∧ Fun K m qual st f fd
def PF (K : PySem.W.Frag) (C : Addr) (m qual : Str) (st : Stmt) : Prop := ∃ p f fd, PropOf K C m p f ∧ Fun K m qual st f fd
section
variable {K : PySem.W.Frag} {C : Addr}
theorem gf_mk {x : Str} {st : Stmt} {f : Addr} {oc : Value} {od an : Option Addr} {osl : Array (Option Value)} {kV doc pm cdv ct : Value} (a : PySem.W.nsIn K mainGlobals x = some (some (.ref f)))
    (l : K.lookup f = some ⟨oc, od, .func (PySem.W.fnOf x x (defArgs st) (defBody st) (defScope st) .none kV doc pm an cdv ct), osl⟩) (c : PySem.W.codeIn K cdv x = true) (k : PySem.W.keepIn K (.ref f) = true) : GF K x st := ⟨f, _, a, fun_mk l c k⟩
theorem mf_mk {m qual : Str} {st : Stmt} {f : Addr} {oc : Value} {od an : Option Addr} {osl : Array (Option Value)} {kV doc pm cdv ct : Value} (a : PySem.W.findIn K (.ref C) m = some (some (.ref f))) (i : PySem.W.isFn K (.ref f) = true)
    (l : K.lookup f = some ⟨oc, od, .func (PySem.W.fnOf m qual (defArgs st) (defBody st) (defScope st) .none kV doc pm an cdv ct), osl⟩) (c : PySem.W.codeIn K cdv qual = true) (k : PySem.W.keepIn K (.ref f) = true) : MF K C m qual st := ⟨f, _, a, i, fun_mk l c k⟩
theorem pf_mk {m qual : Str} {st : Stmt} {p f : Addr} {rest : List Value} {oc : Value} {od an : Option Addr} {osl : Array (Option Value)} {kV doc pm cdv ct : Value} (a : PySem.W.findIn K (.ref C) m = some (some (.ref p))) (g : PySem.W.specialIn K (.ref p) "__get__" = some (some (.builtin "property.__get__")))
    (t : PySem.W.takesIn K (.ref p) = some true) (r : PySem.W.recIn K p "property" = some (.ref f :: rest))
    (l : K.lookup f = some ⟨oc, od, .func (PySem.W.fnOf m qual (defArgs st) (defBody st) (defScope st) .none kV doc pm an cdv ct), osl⟩) (c : PySem.W.codeIn K cdv qual = true) (k : PySem.W.keepIn K (.ref f) = true) : PF K C m qual st := ⟨p, f, _, ⟨a, g, t, rest, r⟩, fun_mk l c k⟩
/-- __init__, with its defaults: the empty tuple -/
def IF (K : PySem.W.Frag) (C : Addr) : Prop := ∃ T E f fd, PySem.W.findIn K (.ref C) "__init__" = some (some (.ref f)) ∧ PySem.W.isFn K (.ref f) = true ∧ FunT K "__init__" "Forest.__init__" mInit T [.ref E] f fd ∧ ∃ (o : Obj) (n : Nat), K.lookup E = some o ∧ o.cls = .type "tuple" ∧ o.data = .seq #[] n
theorem if_mk {T E f : Addr} {oc : Value} {od an dT dE : Option Addr} {osl sT sE : Array (Option Value)} {kV doc pm cdv ct cT : Value} {nT nE : Nat} (a : PySem.W.findIn K (.ref C) "__init__" = some (some (.ref f))) (i : PySem.W.isFn K (.ref f) = true)
    (l : K.lookup f = some ⟨oc, od, .func (PySem.W.fnOf "__init__" "Forest.__init__" (defArgs mInit) (defBody mInit) (defScope mInit) (.ref T) kV doc pm an cdv ct), osl⟩) (c : PySem.W.codeIn K cdv "Forest.__init__" = true) (k : PySem.W.keepIn K (.ref f) = true)
    (t : K.lookup T = some ⟨cT, dT, .seq #[.ref E] nT, sT⟩) (e : K.lookup E = some ⟨.type "tuple", dE, .seq #[] nE, sE⟩) : IF K C := ⟨T, E, f, _, a, i, ⟨⟨oc, od, kV, doc, pm, an, cdv, ct, osl, rfl, l, c⟩, k, _, nT, t, rfl⟩, _, nE, e, rfl, rfl⟩
/-- a static method -/
def SF (K : PySem.W.Frag) (C : Addr) (m qual : Str) (st : Stmt) : Prop := ∃ f fd, Stat K C m f ∧ Fun K m qual st f fd
theorem sf_mk {m qual : Str} {st : Stmt} {p f : Addr} {rest : List Value} {oc : Value} {od an : Option Addr} {osl : Array (Option Value)} {kV doc pm cdv ct : Value} (ga : PySem.W.specialIn K (.ref C) "__getattribute__" = some (some (.builtin "type.__getattribute__")))
    (ty : PySem.W.typeIn K (.ref C) = some (.type "type")) (rd : PySem.W.readsIn K C (.type "type") = true) (a : PySem.W.findCls K (.ref C) (.type "type") m = some (.get (.builtin "staticmethod.__get__") (.ref p) .none (.ref C))) (r : PySem.W.recIn K p "staticmethod" = some (.ref f :: rest))
    (l : K.lookup f = some ⟨oc, od, .func (PySem.W.fnOf m qual (defArgs st) (defBody st) (defScope st) .none kV doc pm an cdv ct), osl⟩) (c : PySem.W.codeIn K cdv qual = true) (k : PySem.W.keepIn K (.ref f) = true) : SF K C m qual st := ⟨f, _, ⟨ga, ty, rd, ⟨p, rest, a, r⟩, k⟩, fun_mk l c k⟩
/-- the class -/
structure CF (K : PySem.W.Frag) (C : Addr) : Prop where
  pg : PySem.W.plainGet K C Str.empty = true
  hd : PySem.W.hasDictIn K C = true
  po : PySem.W.plainOver K C = true
  sa : PySem.W.findIn K (.ref C) "__setattr__" = some (some (.builtin "object.__setattr__"))
  mkI : PySem.W.makesIn K C = true
  kc : PySem.W.keepIn K (.ref C) = true
  nN : PySem.W.findIn K (.ref C) "_names" = some none
  nD : PySem.W.findIn K (.ref C) "_depths" = some none
  nT : PySem.W.findIn K (.ref C) "_trees" = some none
/-- an own error -/
structure EF (K : PySem.W.Frag) (B N : Addr) : Prop where
  kp : PySem.W.keepIn K (.ref B) = true
  ex : PySem.W.excIn K B [.type "ValueError", .type "Exception", .type "BaseException", .type "object"] "ValueError.__new__" = true
  sb : PySem.W.subIn K (.ref B) (.type "BaseException") = some true
  ty : PySem.W.typeIn K (.ref B) = some (.type "type")
  hg : PySem.W.findIn K (.ref B) "__getattribute__" = some (some (.builtin "BaseException.__getattribute__"))
  hk : PySem.W.findIn K (.ref B) "__getattr__" = some none
  hd : PySem.W.hasDictIn K B = true
  ha : PySem.W.findIn K (.ref B) "__class__" = some (some (.builtin "object.__class__"))
  hn : PySem.W.specialIn K (.builtin "object.__class__") "__get__" = some (some (.builtin "getset_descriptor.__get__"))
  ht : PySem.W.takesIn K (.builtin "object.__class__") = some true
  hm : PySem.W.mroIn K B (.type "object") = some true
  nb : PySem.W.subIn K (.ref N) (.type "BaseException") = some true
  nd : PySem.W.hasDictIn K N = true
  nt : PySem.W.typeIn K (.ref N) = some (.type "type")
  bb : PySem.W.subIn K (.ref B) (.ref B) = some true
  bn : PySem.W.subIn K (.ref B) (.ref N) = some false
  sv : PySem.W.subIn K (.ref B) (.type "ValueError") = some true
theorem EF.xm {B N : Addr} (h : EF K B N) : PySem.W.exmAny K (.ref B) [.ref B, .ref N] = some true := by
  have e1 := PySem.W.exm_ref h.sb h.hd h.ty h.bb
  have e2 := PySem.W.exm_ref h.nb h.nd h.nt h.bn
  unfold PySem.W.exmAny
  rw [e1]
  unfold PySem.W.exmAny
  rw [e2]
  rfl
theorem EF.kv {B N : Addr} (h : EF K B N) : PySem.W.kitOne K (.ref B) (.type "ValueError") = some true := by
  unfold PySem.W.kitOne
  rw [if_neg (by simp)]
  show (if PySem.W.kitMeta "ValueError" = true then PySem.W.subIn K (.ref B) (.type "ValueError") else none) = some true
  rw [if_pos (by decide +kernel)]
  exact h.sv
theorem kit_self : PySem.W.kitOne K (.ref C) (.ref C) = some true := by
  unfold PySem.W.kitOne
  rw [if_pos (by simp)]
theorem dfl1 {E : Addr} {o : Obj} {n : Nat} (e : K.lookup E = some o) (h1 : o.cls = .type "tuple") (h2 : o.data = .seq #[] n) : Dfl (gc K C) [.tup []] [.ref E] := by
  refine ⟨[.ref E], .cons rfl .nil, fun F => reps_cons ?_ reps_nil⟩
  unfold rep
  exact ⟨E, [], rfl, .inr ⟨o, #[], n, e, h1, h2, by decide, .nil⟩, reps_nil⟩
theorem in2 {T f : Addr} {a : Value} {fd : FuncData} (F : FunT K "__init__" "Forest.__init__" mInit T [a] f fd) : Binds K fd ["self", "trees"] [] := F.binds 2 1 rfl fun _ _ _ _ _ _ us hl => match us, hl with | [_, _], _ => ⟨_, rfl, rfl⟩
theorem in1 {T f : Addr} {a : Value} {fd : FuncData} (F : FunT K "__init__" "Forest.__init__" mInit T [a] f fd) : Binds K fd ["self", "trees"] [a] := F.binds 1 0 rfl fun _ _ _ _ _ _ us hl => match us, hl with | [_], _ => ⟨_, rfl, rfl⟩
theorem kbn_one {x qual : Str} {st : Stmt} {f : Addr} {fd : FuncData} {t : Str} (F : Fun K x qual st f fd)
    (h : ∀ (oc : Value) (od an : Option Addr) (kV doc pm cdv ct : Value) (osl : Array (Option Value)) (s : Shared) (v : Value), BindsTo s (PySem.W.fnOf x qual (defArgs st) (defBody st) (defScope st) .none kV doc pm an cdv ct) ⟨[], [(t, v)]⟩ [(t, v)]) : KBn K fd [t] 0 [t] (fun us ws => us ++ ws) (fun vs zs => vs ++ zs) := by
  obtain ⟨oc, od, kV, doc, pm, an, cdv, ct, osl, rfl, lk, hcd⟩ := F.ex
  exact ⟨fun s us ws X l1 l2 => match us, ws, l1, l2 with | [], [v], _, _ => h oc od an kV doc pm cdv ct osl s v, fun r1 r2 => r1.append r2⟩
end
def spLaw (K : PySem.W.Frag) : Sp := fun vs H Q _ => ∃ (a : Addr) (ns : List Int), vs = [.ref a] ∧ SqL K H a (ns.map V.int) ∧ ns.length ≤ 63 ∧ (∀ z ∈ ns, Builtin.Int.intBits z ≤ 1048576) ∧ ∀ H', Q (.bl true) H'
theorem ints_reps {G : Gc} {F : Hp} : ∀ ns : List Int, reps G F (ns.map .int) (ns.map .int)
  | [] => reps_nil
  | x :: r => reps_cons r_int (ints_reps r)
theorem bits_lt {z : Int} {B : Nat} (h : Builtin.Int.intBits z ≤ B) : z.natAbs < 2 ^ B := Nat.lt_of_lt_of_le (natAbs_lt_pow_bits z) (Nat.pow_le_pow_right (by decide) h)
theorem sp_law {K : PySem.W.Frag} {C : Addr} : ∀ vs H Q E, spLaw K vs H Q E → spP (gc K C) cLaw vs H Q E := fun vs H Q E h => by
  obtain ⟨a, ns, rfl, hS, hl, hb, q⟩ := h
  refine ⟨H, [.seq (ns.map .int)], fun d => d = .bl true, Evl.Ex.refl H, reps_cons ?_ reps_nil, ⟨1048576, ns, rfl, hl, by decide, fun n hn => bits_lt (hb n hn), rfl⟩, fun d v F' H' hd s r => ?_⟩
  · unfold rep
    exact ⟨a, ns.map .int, rfl, hS, ints_reps ns⟩
  · subst hd
    rw [rep_bl r]
    exact q H'
theorem all {l : PySem.W.OpenLaw} {w : World} {K : PySem.W.Frag} {h : Heap} {mg : Str → Option Value} {fa C fl B_ N_ : Addr} {fdl : FuncData} {tL tM : Tok} (KX : K.In h) (G : h.Ns mainGlobals mg) (hfa : mg "law" = some (.ref fa)) (aC : PySem.W.nsIn K mainGlobals "Forest" = some (some (.ref C)))
    (aB : PySem.W.nsIn K mainGlobals "BadText" = some (some (.ref B_))) (aN : PySem.W.nsIn K mainGlobals "NoPlace" = some (some (.ref N_))) (gL : PySem.W.nsIn K mainGlobals "LETTERS" = some (some (.str "abcdefghijklmnopqrstuvwxyz" tL))) (gM : PySem.W.nsIn K mainGlobals "MOST_LETTERS" = some (some (.int 8 tM)))
    (aL : PySem.W.nsIn K mainGlobals "law" = some (some (.ref fl))) (FL : Fun K "law" "law" tLaw fl fdl) (cf : CF K C) (ef : EF K B_ N_) (i0 : IF K C) (s0 : SF K C "of" "Forest.of" mOf) (g0 : GF K "is_name" t_is_name) (g1 : GF K "flat" t_flat) (g2 : GF K "nested" t_nested) (g3 : GF K "written" t_written) (g4 : GF K "joint" t_joint) (g5 : GF K "read_rows" t_read_rows) (g6 : GF K "_law_box" tBox) (g7 : GF K "_law_take" tTake) (g8 : GF K "_law_cells" tCells) (g9 : GF K "_law_of" t__law_of) (g10 : GF K "_law_same" tSame) (g11 : GF K "_law_mixed" t__law_mixed) (g12 : GF K "_law_tags" t__law_tags) (g13 : GF K "_law_rows" t__law_rows) (g14 : GF K "_law_trees" t__law_trees) (g15 : GF K "_law_flat" t__law_flat) (g16 : GF K "_law_heard" t__law_heard) (g17 : GF K "_law_grown" t__law_grown) (g18 : GF K "_law_read" t__law_read) (g19 : GF K "_law_by_hand_right" tHand) (g20 : GF K "_law_right" tRight) (p0 : PF K C "trees" "Forest.trees" mTrees) (p1 : PF K C "text" "Forest.text" mText) (p2 : PF K C "depth" "Forest.depth" mDepth) (l0 : MF K C "__len__" "Forest.__len__" mLen) (z0 : PySem.W.nsIn K mainGlobals "tuple" = some none) (z1 : PySem.W.nsIn K mainGlobals "isinstance" = some none) (z2 : PySem.W.nsIn K mainGlobals "int" = some none) (z3 : PySem.W.nsIn K mainGlobals "list" = some none) (z4 : PySem.W.nsIn K mainGlobals "len" = some none) (z5 : PySem.W.nsIn K mainGlobals "range" = some none) (z6 : PySem.W.nsIn K mainGlobals "abs" = some none) (z7 : PySem.W.nsIn K mainGlobals "all" = some none) (z8 : PySem.W.nsIn K mainGlobals "enumerate" = some none) (z9 : PySem.W.nsIn K mainGlobals "zip" = some none) (z10 : PySem.W.nsIn K mainGlobals "bool" = some none) (z11 : PySem.W.nsIn K mainGlobals "str" = some none) (z12 : PySem.W.nsIn K mainGlobals "ValueError" = some none) (z13 : PySem.W.nsIn K mainGlobals "reversed" = some none) (z14 : PySem.W.nsIn K mainGlobals "max" = some none) :
    ∃ fd : FuncData, (∀ (s : Shared) (v : Value), BindsTo s fd ⟨[v], []⟩ [("_law_script", v)]) ∧ ∀ base : Heap, K.In base → base.Ns mainGlobals mg → FnOk l.prog w K mg base CX0 213 fa fd ["_law_script"] (spLaw K) := by
  have e := hfa.symm.trans (PySem.W.mg_of KX G aL)
  cases e
  obtain rfl := adr_of aB
  obtain rfl := adr_of aN
  obtain ⟨f0, fd0, a0, F0⟩ := g0
  have e0 := PySem.W.mg_of KX G a0
  have b0 := F0.binds (ps := ["thing"]) fun _ _ _ _ _ _ us hl => match us, hl with | [_], _ => rfl
  obtain ⟨f1, fd1, a1, F1⟩ := g1
  have e1 := PySem.W.mg_of KX G a1
  have b1 := F1.binds (ps := ["trees"]) fun _ _ _ _ _ _ us hl => match us, hl with | [_], _ => rfl
  obtain ⟨f2, fd2, a2, F2⟩ := g2
  have e2 := PySem.W.mg_of KX G a2
  have b2 := F2.binds (ps := ["names", "depths"]) fun _ _ _ _ _ _ us hl => match us, hl with | [_, _], _ => rfl
  obtain ⟨f3, fd3, a3, F3⟩ := g3
  have e3 := PySem.W.mg_of KX G a3
  have b3 := F3.binds (ps := ["names", "depths"]) fun _ _ _ _ _ _ us hl => match us, hl with | [_, _], _ => rfl
  obtain ⟨f4, fd4, a4, F4⟩ := g4
  have e4 := PySem.W.mg_of KX G a4
  have b4 := F4.binds (ps := ["before", "now"]) fun _ _ _ _ _ _ us hl => match us, hl with | [_, _], _ => rfl
  obtain ⟨f5, fd5, a5, F5⟩ := g5
  have e5 := PySem.W.mg_of KX G a5
  have b5 := F5.binds (ps := ["text"]) fun _ _ _ _ _ _ us hl => match us, hl with | [_], _ => rfl
  obtain ⟨f6, fd6, a6, F6⟩ := g6
  have e6 := PySem.W.mg_of KX G a6
  have b6 := F6.binds (ps := ["_law_script", "_law_k"]) fun _ _ _ _ _ _ us hl => match us, hl with | [_, _], _ => rfl
  obtain ⟨f7, fd7, a7, F7⟩ := g7
  have e7 := PySem.W.mg_of KX G a7
  have b7 := F7.binds (ps := ["_law_urn", "_law_low_so"]) fun _ _ _ _ _ _ us hl => match us, hl with | [_, _], _ => rfl
  obtain ⟨f8, fd8, a8, F8⟩ := g8
  have e8 := PySem.W.mg_of KX G a8
  have b8 := F8.binds (ps := ["_law_script", "_law_top"]) fun _ _ _ _ _ _ us hl => match us, hl with | [_, _], _ => rfl
  obtain ⟨f9, fd9, a9, F9⟩ := g9
  have e9 := PySem.W.mg_of KX G a9
  have b9 := F9.binds (ps := ["_law_urn", "_law_some_so"]) fun _ _ _ _ _ _ us hl => match us, hl with | [_, _], _ => rfl
  obtain ⟨f10, fd10, a10, F10⟩ := g10
  have e10 := PySem.W.mg_of KX G a10
  have b10 := F10.binds (ps := ["_law_got", "_law_goal"]) fun _ _ _ _ _ _ us hl => match us, hl with | [_, _], _ => rfl
  obtain ⟨f11, fd11, a11, F11⟩ := g11
  have e11 := PySem.W.mg_of KX G a11
  have b11 := F11.binds (ps := ["_law_urn", "_law_pool"]) fun _ _ _ _ _ _ us hl => match us, hl with | [_, _], _ => rfl
  obtain ⟨f12, fd12, a12, F12⟩ := g12
  have e12 := PySem.W.mg_of KX G a12
  have b12 := F12.binds (ps := ["_law_urn", "_law_many_so"]) fun _ _ _ _ _ _ us hl => match us, hl with | [_, _], _ => rfl
  obtain ⟨f13, fd13, a13, F13⟩ := g13
  have e13 := PySem.W.mg_of KX G a13
  have b13 := F13.binds (ps := ["_law_urn", "_law_tags_here", "_law_most"]) fun _ _ _ _ _ _ us hl => match us, hl with | [_, _, _], _ => rfl
  obtain ⟨f14, fd14, a14, F14⟩ := g14
  have e14 := PySem.W.mg_of KX G a14
  have b14 := F14.binds (ps := ["_law_rows_so"]) fun _ _ _ _ _ _ us hl => match us, hl with | [_], _ => rfl
  obtain ⟨f15, fd15, a15, F15⟩ := g15
  have e15 := PySem.W.mg_of KX G a15
  have b15 := F15.binds (ps := ["_law_trees_so"]) fun _ _ _ _ _ _ us hl => match us, hl with | [_], _ => rfl
  obtain ⟨f16, fd16, a16, F16⟩ := g16
  have e16 := PySem.W.mg_of KX G a16
  have b16 := F16.binds (ps := ["_law_flat_here"]) fun _ _ _ _ _ _ us hl => match us, hl with | [_], _ => rfl
  obtain ⟨f17, fd17, a17, F17⟩ := g17
  have e17 := PySem.W.mg_of KX G a17
  have b17 := F17.binds (ps := ["_law_flat_here", "_law_k"]) fun _ _ _ _ _ _ us hl => match us, hl with | [_, _], _ => rfl
  obtain ⟨f18, fd18, a18, F18⟩ := g18
  have e18 := PySem.W.mg_of KX G a18
  have b18 := F18.binds (ps := ["_law_flat_here"]) fun _ _ _ _ _ _ us hl => match us, hl with | [_], _ => rfl
  obtain ⟨f19, fd19, a19, F19⟩ := g19
  have e19 := PySem.W.mg_of KX G a19
  have b19 := F19.binds (ps := []) fun _ _ _ _ _ _ us hl => match us, hl with | [], _ => rfl
  obtain ⟨f20, fd20, a20, F20⟩ := g20
  have e20 := PySem.W.mg_of KX G a20
  have b20 := F20.binds (ps := ["_law_urn"]) fun _ _ _ _ _ _ us hl => match us, hl with | [_], _ => rfl
  obtain ⟨pp0, pf0, pd0, ph0, PFun0⟩ := p0
  have pb0 := PFun0.binds (ps := ["self"]) fun _ _ _ _ _ _ us hl => match us, hl with | [_], _ => rfl
  obtain ⟨pp1, pf1, pd1, ph1, PFun1⟩ := p1
  have pb1 := PFun1.binds (ps := ["self"]) fun _ _ _ _ _ _ us hl => match us, hl with | [_], _ => rfl
  obtain ⟨pp2, pf2, pd2, ph2, PFun2⟩ := p2
  have pb2 := PFun2.binds (ps := ["self"]) fun _ _ _ _ _ _ us hl => match us, hl with | [_], _ => rfl
  obtain ⟨fL, fdL, aLn, iLn, FLn⟩ := l0
  have bL := FLn.binds (ps := ["self"]) fun _ _ _ _ _ _ us hl => match us, hl with | [_], _ => rfl
  have n0 := PySem.W.mg_none_of KX G z0
  have n1 := PySem.W.mg_none_of KX G z1
  have n2 := PySem.W.mg_none_of KX G z2
  have n3 := PySem.W.mg_none_of KX G z3
  have n4 := PySem.W.mg_none_of KX G z4
  have n5 := PySem.W.mg_none_of KX G z5
  have n6 := PySem.W.mg_none_of KX G z6
  have n7 := PySem.W.mg_none_of KX G z7
  have n8 := PySem.W.mg_none_of KX G z8
  have n9 := PySem.W.mg_none_of KX G z9
  have n10 := PySem.W.mg_none_of KX G z10
  have n11 := PySem.W.mg_none_of KX G z11
  have n12 := PySem.W.mg_none_of KX G z12
  have n13 := PySem.W.mg_none_of KX G z13
  have n14 := PySem.W.mg_none_of KX G z14
  obtain ⟨T, E, fI, dI, aI, iI, FI, oE, nE, lE, cE, sE⟩ := i0
  obtain ⟨fO, dO, SO_, FO⟩ := s0
  have bO := FO.binds (ps := ["text"]) fun _ _ _ _ _ _ us hl => match us, hl with | [_], _ => rfl
  have T_ : Tx K mg C := ⟨⟨cf.pg, cf.hd, cf.po, cf.sa⟩, cf.nN, cf.nD, cf.nT, PySem.W.mg_of KX G aC⟩
  have Z_ : Zs mg := ⟨n1, n3, n0, n4, n7, n9, n10, n11, n2⟩
  have G_ : Gs mg := ⟨⟨_, PySem.W.mg_of KX G gL⟩, ⟨_, PySem.W.mg_of KX G gM⟩⟩
  have M_ : Mk K C fI := ⟨cf.mkI, aI, iI, cf.kc⟩
  have kO := kbn_one (t := "text") FO fun _ _ _ _ _ _ _ _ _ _ _ => .of_eq rfl
  refine ⟨fdl, fun s v => ?_, fun base KB GB => ?_⟩
  · obtain ⟨oc, od, kV, doc, pm, an, cdv, ct, osl, rfl, _, _⟩ := FL.ex
    exact .of_eq rfl
  have NM_ : FnC l.prog w K mg base "is_name" 1 ["thing"] (spP (gc K C) cName) := ⟨f0, fd0, ok_name F0 rfl Z_ G_, b0, e0, F0.kp⟩
  have FT_ : FnC l.prog w K mg base "flat" 1 ["trees"] (spP (gc K C) cFlat) := ⟨f1, fd1, ok_flat F1 rfl n0, b1, e1, F1.kp⟩
  have NE_ : FnC l.prog w K mg base "nested" 1 ["names", "depths"] (spP (gc K C) cNest) := ⟨f2, fd2, ok_nest F2 rfl n0 n4 n5 n13, b2, e2, F2.kp⟩
  have JN_ : FnC l.prog w K mg base "joint" 1 ["before", "now"] (spP (gc K C) cJoin) := ⟨f4, fd4, ok_join F4 rfl, b4, e4, F4.kp⟩
  have WR_ : FnC l.prog w K mg base "written" 2 ["names", "depths"] (spP (gc K C) cWrit) := ⟨f3, fd3, ok_writ F3 rfl n4 n5 JN_, b3, e3, F3.kp⟩
  have RR_ : FnC l.prog w K mg base "read_rows" 1 ["text"] (spP (gc K C) cRead) := ⟨f5, fd5, ok_read F5 rfl, b5, e5, F5.kp⟩
  have I_ : FnOk l.prog w K mg base CX0 2 fI dI ["self", "trees"] (spU (gc K C) cInit) := ok_init FI T_ FT_ NE_
  have TR_ : FnOk l.prog w K mg base CX0 1 pf0 pd0 ["self"] (spP (gc K C) cTrees) := ok_trees PFun0 T_
  have X_ : FnOk l.prog w K mg base CX0 3 pf1 pd1 ["self"] (spP (gc K C) cText) := ok_text PFun1 T_ WR_
  have DP_ : FnOk l.prog w K mg base CX0 1 pf2 pd2 ["self"] (spP (gc K C) cDepth) := ok_depth PFun2 T_ n14
  have LN_ : FnOk l.prog w K mg base CX0 1 fL fdL ["self"] (spP (gc K C) cLen) := ok_len FLn T_ n4
  have O_ : Ofs l.prog w K mg base C := {
    T := T_, za := n7, fI := fI, dI := dI, d1 := [.ref E], M := M_, I := I_, b2 := in2 FI, b1 := in1 FI, e1 := dfl1 lE cE sE
    NM := NM_, RD := RR_, WR := WR_, NE := NE_
    gB := PySem.W.mg_of KX G aB, kB := ef.kp, qB := ef.ex, sB := ef.sb, tB := ef.ty }
  have OF_ : FnOk l.prog w K mg base (L2.CX l.prog w) 4 fO dO ["text"] (spX (gc K C) cOf) := ok_of FO O_
  have OP_ : FnOk l.prog w K mg base CX0 4 fO dO ["text"] (spP (gc K C) cOfP) := ok_ofP FO O_
  have HE_ : FnOk l.prog w K mg base CX0 5 f16 fd16 ["_law_flat_here"] (spP (gc K C) cHeard) := ok_heard F16 {
    T := T_, Z := Z_, gB := PySem.W.mg_of KX G aB, gN := PySem.W.mg_of KX G aN, zV := n12, xB := ef.xm
    cB := ⟨ef.hg, ef.hk, ef.sb, ef.hd, ef.ha, ef.hn, ef.ht, ef.hm⟩, k1 := kit_self, k2 := ef.kv
    fO := fO, dO := dO, O := OF_, S := SO_, gO := _, kO := kO
    fT := pf0, pT := pp0, dT := pd0, TR := TR_, bT := pb0, hT := ph0
    fX := pf1, pX := pp1, dX := pd1, X := X_, bX := pb1, hX := ph1 }
  have SM0 : ∀ n : Nat, FnOk l.prog w K mg base CX0 (n + 1) f10 fd10 ["_law_got", "_law_goal"] (spP (gc K C) (cSame n)) := fun n => ok_same F10 rfl Z_ b10 e10 F10.kp n
  have SM : ∀ n : Nat, FnC l.prog w K mg base "_law_same" (n + 1) ["_law_got", "_law_goal"] (spP (gc K C) (cSame n)) := fun n => ⟨f10, fd10, SM0 n, b10, e10, F10.kp⟩
  have TK : FnOk l.prog w K mg base CX0 1 f7 fd7 ["_law_urn", "_law_low_so"] (spU (gc K C) cTake) := ok_take F7 n2
  have TKC : FnC l.prog w K mg base "_law_take" 1 ["_law_urn", "_law_low_so"] (spU (gc K C) cTake) := ⟨f7, fd7, TK, b7, e7, F7.kp⟩
  have DRC : FnC l.prog w K mg base "_law_of" 2 nDraw (spU (gc K C) cDraw) := ⟨f9, fd9, ok_draw F9 rfl n4 TK b7 e7 F7.kp, b9, e9, F9.kp⟩
  have MX : FnOk l.prog w K mg base CX0 2 f11 fd11 ["_law_urn", "_law_pool"] (spU (gc K C) cMixed) := ok_mixed F11 rfl n3 n4 n5 TK b7 e7 F7.kp
  have HEC : FnC l.prog w K mg base "_law_heard" 5 ["_law_flat_here"] (spP (gc K C) cHeard) := ⟨f16, fd16, HE_, b16, e16, F16.kp⟩
  have GRC : FnC l.prog w K mg base "_law_grown" 111 ["_law_flat_here", "_law_k"] (spP (gc K C) (cGr 110)) := ⟨f17, fd17, ok_grown F17 rfl n4 n0 b17 e17 F17.kp 110, b17, e17, F17.kp⟩
  have H_ : Hns l.prog w K mg base C := {
    T := T_, Z := Z_, fI := fI, dI := dI, M := M_, I := I_, b2 := in2 FI, he := HEC, fO := fO, dO := dO, S := SO_, OP := OP_, bO := bO
    fX := pf1, pX := pp1, dX := pd1, X := X_, bX := pb1, hX := ph1
    fD := pf2, pD := pp2, dD := pd2, DP := DP_, bD := pb2, hD := ph2
    fL := fL, dL := fdL, LN := LN_, bL := bL, sL := aLn, nL := iLn, sm := SM }
  have Zf : Fns l.prog w K mg base C := {
    H := H_, zr := n5
    hd := ⟨f19, fd19, ok_hand F19 H_, b19, e19, F19.kp⟩
    tg := ⟨f12, fd12, ok_tags F12 rfl TK b7 e7 F7.kp MX b11 e11 F11.kp, b12, e12, F12.kp⟩
    rw := ⟨f13, fd13, ok_rows F13 rfl n5 n0 TKC DRC, b13, e13, F13.kp⟩
    tr := ⟨f14, fd14, ok_ltrees F14 rfl n4 n0 b14 e14 F14.kp 9, b14, e14, F14.kp⟩
    fl := ⟨f15, fd15, ok_lflat F15 rfl b15 e15 F15.kp 9, b15, e15, F15.kp⟩
    tk := TKC
    dr := DRC
    rd := ⟨f18, fd18, ok_lread F18 rfl n4 GRC, b18, e18, F18.kp⟩ }
  exact (ok_law FL n7 n4 n5 ⟨f8, fd8, ok_cells F8 rfl n3 n2 n8, b8, e8, F8.kp⟩ ⟨f6, fd6, ok_boxL F6 rfl n6 n2 n4, b6, e6, F6.kp⟩ ⟨f20, fd20, ok_right F20 Zf, b20, e20, F20.kp⟩).imp sp_law
theorem walk {l : PySem.W.OpenLaw} {q : Program} {loose : List Str} {XP : (Str → Option Value) → Heap → Prop} {YP : World → Heap → Prop} {d : DefRec} {K : Params → PySem.W.Frag} (hn : l.most = some 63) (hdf : d.params.defaults = [])
    (hY : ∀ (w : World) (h : Heap), YP w h → (K w.params).In h)
    (F : ∀ (w : World) (mg : Str → Option Value) (fa : Addr) (h : Heap), (K w.params).In h → h.Ns mainGlobals mg → mg d.name = some (.ref fa) →
      ∃ fd : FuncData, (∀ (s : Shared) (u : Value), BindsTo s fd ⟨[u], []⟩ [("_law_script", u)]) ∧ ∀ base : Heap, (K w.params).In base → base.Ns mainGlobals mg → FnOk l.prog w (K w.params) mg base CX0 213 fa fd ["_law_script"] (spLaw (K w.params))) :
    PySem.W.WalkO q loose XP YP l.row.toRowW d [] (fun f vs => PySem.call f vs) :=
  L2.walk_ofB (n := 63) (k := 213) (x := "_law_script") (CX := fun _ => CX0) (sp := fun w => spLaw (K w.params)) hn (by decide) hdf ⟨rfl, by decide, by decide⟩ hY F (fun _ _ a ns hl hb _ hS => ⟨a, ns, rfl, hS, hl, hb, fun H' => rfl⟩) fun _ _ _ _ _ z => z
end Wf

set_option Elab.async false
open PySem PySem.W PyProof.Rows
set_option maxRecDepth 100000 in
set_option maxHeartbeats 0 in
theorem PySem.Challenge.cw_deepcuts_k03_forests_as_texts_holds : PySem.Challenge.rw_deepcuts_k03_forests_as_texts.Holds := by
  w_on; o_law; k_head; (case hw => w_witness2)
  k_fill
  refine Wf.walk (l := PySem.Challenge.rw_deepcuts_k03_forests_as_texts) rfl rfl (fun w h Y => PySem.W.kIn_of Y) ?F
  case F =>
    intro w mg fa h KX G hmg
    refine' Wf.all KX G hmg ?aC ?aB ?aN ?gLx ?gMx ?aL (L2.fun_mk (st := Wf.tLaw) ?lL ?cL ?kL) ?cf ?ef ?i0 ?s0 ?gx0 ?gx1 ?gx2 ?gx3 ?gx4 ?gx5 ?gx6 ?gx7 ?gx8 ?gx9 ?gx10 ?gx11 ?gx12 ?gx13 ?gx14 ?gx15 ?gx16 ?gx17 ?gx18 ?gx19 ?gx20 ?px0 ?px1 ?px2 ?lx0 ?zx0 ?zx1 ?zx2 ?zx3 ?zx4 ?zx5 ?zx6 ?zx7 ?zx8 ?zx9 ?zx10 ?zx11 ?zx12 ?zx13 ?zx14
    (case aC => k_is); (case aB => k_is); (case aN => k_is); (case gLx => k_is); (case gMx => k_is); (case aL => k_is); (case lL => k_is); (case cL => k_is); (case kL => k_is)
    case cf =>
      refine' ⟨?pg, ?hd, ?po, ?sa, ?mk, ?kc, ?nN, ?nD, ?nT⟩
      (case pg => k_is); (case hd => k_is); (case po => k_is); (case sa => k_is); (case mk => k_is); (case kc => k_is); (case nN => k_is); (case nD => k_is); (case nT => k_is)
    case ef =>
      refine' ⟨?kp, ?ex, ?sb, ?ty, ?hg, ?hk, ?hd, ?ha, ?hn, ?ht, ?hm, ?nb, ?nd, ?nt, ?bb, ?bn, ?sv⟩
      (case kp => k_is); (case ex => k_exc); (case sb => k_is); (case ty => k_is); (case hg => k_is); (case hk => k_is); (case hd => k_is); (case ha => k_is); (case hn => k_is); (case ht => k_is); (case hm => k_is); (case nb => k_is); (case nd => k_is); (case nt => k_is); (case bb => k_is); (case bn => k_is); (case sv => k_is)
    case i0 =>
      refine' Wf.if_mk ?a ?i ?l ?c ?k ?t ?e
      (case a => k_is); (case i => k_is); (case l => k_is); (case c => k_is); (case k => k_is); (case t => k_is); (case e => k_is)
    case s0 =>
      refine' Wf.sf_mk ?ga ?ty ?rd ?a ?r ?l ?c ?k
      (case ga => k_is); (case ty => k_is); (case rd => k_is); (case a => k_is); (case r => k_is); (case l => k_is); (case c => k_is); (case k => k_is)
    case gx0 =>
      refine' Wf.gf_mk ?a ?l ?c ?k
      (case a => k_is); (case l => k_is); (case c => k_is); (case k => k_is)
    case gx1 =>
      refine' Wf.gf_mk ?a ?l ?c ?k
      (case a => k_is); (case l => k_is); (case c => k_is); (case k => k_is)
    case gx2 =>
      refine' Wf.gf_mk ?a ?l ?c ?k
      (case a => k_is); (case l => k_is); (case c => k_is); (case k => k_is)
    case gx3 =>
      refine' Wf.gf_mk ?a ?l ?c ?k
      (case a => k_is); (case l => k_is); (case c => k_is); (case k => k_is)
    case gx4 =>
      refine' Wf.gf_mk ?a ?l ?c ?k
      (case a => k_is); (case l => k_is); (case c => k_is); (case k => k_is)
    case gx5 =>
      refine' Wf.gf_mk ?a ?l ?c ?k
      (case a => k_is); (case l => k_is); (case c => k_is); (case k => k_is)
    case gx6 =>
      refine' Wf.gf_mk ?a ?l ?c ?k
      (case a => k_is); (case l => k_is); (case c => k_is); (case k => k_is)
    case gx7 =>
      refine' Wf.gf_mk ?a ?l ?c ?k
      (case a => k_is); (case l => k_is); (case c => k_is); (case k => k_is)
    case gx8 =>
      refine' Wf.gf_mk ?a ?l ?c ?k
      (case a => k_is); (case l => k_is); (case c => k_is); (case k => k_is)
    case gx9 =>
      refine' Wf.gf_mk ?a ?l ?c ?k
      (case a => k_is); (case l => k_is); (case c => k_is); (case k => k_is)
    case gx10 =>
      refine' Wf.gf_mk ?a ?l ?c ?k
      (case a => k_is); (case l => k_is); (case c => k_is); (case k => k_is)
    case gx11 =>
      refine' Wf.gf_mk ?a ?l ?c ?k
      (case a => k_is); (case l => k_is); (case c => k_is); (case k => k_is)
    case gx12 =>
      refine' Wf.gf_mk ?a ?l ?c ?k
      (case a => k_is); (case l => k_is); (case c => k_is); (case k => k_is)
    case gx13 =>
      refine' Wf.gf_mk ?a ?l ?c ?k
      (case a => k_is); (case l => k_is); (case c => k_is); (case k => k_is)
    case gx14 =>
      refine' Wf.gf_mk ?a ?l ?c ?k
      (case a => k_is); (case l => k_is); (case c => k_is); (case k => k_is)
    case gx15 =>
      refine' Wf.gf_mk ?a ?l ?c ?k
      (case a => k_is); (case l => k_is); (case c => k_is); (case k => k_is)
    case gx16 =>
      refine' Wf.gf_mk ?a ?l ?c ?k
      (case a => k_is); (case l => k_is); (case c => k_is); (case k => k_is)
    case gx17 =>
      refine' Wf.gf_mk ?a ?l ?c ?k
      (case a => k_is); (case l => k_is); (case c => k_is); (case k => k_is)
    case gx18 =>
      refine' Wf.gf_mk ?a ?l ?c ?k
      (case a => k_is); (case l => k_is); (case c => k_is); (case k => k_is)
    case gx19 =>
      refine' Wf.gf_mk ?a ?l ?c ?k
      (case a => k_is); (case l => k_is); (case c => k_is); (case k => k_is)
    case gx20 =>
      refine' Wf.gf_mk ?a ?l ?c ?k
      (case a => k_is); (case l => k_is); (case c => k_is); (case k => k_is)
    case px0 =>
      refine' Wf.pf_mk ?a ?g ?t ?r ?l ?c ?k
      (case a => k_is); (case g => k_is); (case t => k_is); (case r => k_is); (case l => k_is); (case c => k_is); (case k => k_is)
    case px1 =>
      refine' Wf.pf_mk ?a ?g ?t ?r ?l ?c ?k
      (case a => k_is); (case g => k_is); (case t => k_is); (case r => k_is); (case l => k_is); (case c => k_is); (case k => k_is)
    case px2 =>
      refine' Wf.pf_mk ?a ?g ?t ?r ?l ?c ?k
      (case a => k_is); (case g => k_is); (case t => k_is); (case r => k_is); (case l => k_is); (case c => k_is); (case k => k_is)
    case lx0 =>
      refine' Wf.mf_mk ?a ?i ?l ?c ?k
      (case a => k_is); (case i => k_is); (case l => k_is); (case c => k_is); (case k => k_is)
    (case zx0 => k_is); (case zx1 => k_is); (case zx2 => k_is); (case zx3 => k_is); (case zx4 => k_is); (case zx5 => k_is); (case zx6 => k_is); (case zx7 => k_is); (case zx8 => k_is); (case zx9 => k_is); (case zx10 => k_is); (case zx11 => k_is); (case zx12 => k_is); (case zx13 => k_is); (case zx14 => k_is)

