import PyProof.Rows.All
import Wide.All
import OpenK.AllK
import Wide.FinOn
import HandS.CallSlots
import HandS.Conv
import HandS.Deep
import HandS.Defaults
import HandS.ExcSuper
import HandS.ForExc
import HandS.ForMost
import HandS.Head2
import HandS.HeadEnd
import HandS.HeadHook2
import HandS.HeadHook4
import HandS.IsInst
import HandS.NoneIn
import HandS.Property
import HandS.Rev
import HandS.RevRange
import HandS.Style
import HandS.TupAny
import HandS.TupMul
import HandS.Walk
import HandS.Wide
import HandS.Zip
import PySem.Challenge.RW_stagesfull_k05_whole_slopes_are_coeffici
set_option Elab.async false
set_option linter.all false
set_option maxRecDepth 100000
set_option maxHeartbeats 2000000
namespace Zy
open PySem PySem.Spec PyProof.Rows L2

abbrev St := L2.St
/-! plain data -/
inductive D where
  | non | bl (b : Bool) | int (i : Int) | str (s : Str)
  | tup (ds : List D) | lst (ds : List D)
  | dK (kvs : List (Key × D)) | dT (kvs : List (List Key × D))
  | ins (c : String) (fs : List (Str × D)) | ref (i : Nat) | scr (ns : List Int)

abbrev Sto := List D
inductive Sl where
  | no | val (d : D) | own (d : D) | bor (d : D)
abbrev Ev := List Sl
inductive Res (α : Type) where
  | ok (a : α) (M : Sto) | exc (c : String) (fs : List (Str × D)) (M : Sto) | fail
def Res.bind {α β : Type} : Res α → (α → Sto → Res β) → Res β
  | .ok a M, k => k a M
  | .exc c fs M, _ => .exc c fs M
  | .fail, _ => .fail
@[simp] theorem Res.bind_ok {α β : Type} (a : α) (M : Sto) (k : α → Sto → Res β) : (Res.ok a M).bind k = k a M := id rfl
@[simp] theorem Res.bind_exc {α β : Type} (c : String) (fs : List (Str × D)) (M : Sto) (k : α → Sto → Res β) : (Res.exc c fs M : Res α).bind k = .exc c fs M := id rfl
@[simp] theorem Res.bind_fail {α β : Type} (k : α → Sto → Res β) : (Res.fail : Res α).bind k = .fail := id rfl

/-! how data lie in the abstract heap -/
structure Gh where
  K : PySem.W.Frag
  cl : String → Option Addr
  N : Addr → Prop
  ph : List Addr
def Gh.off (G : Gh) (a : Addr) : Prop := G.N a ∨ a ∈ G.ph

mutual
inductive Rep (G : Gh) (H : Hp) : V → D → Prop
  | non : Rep G H .non .non
  | bl (b : Bool) : Rep G H (.bl b) (.bl b)
  | int (i : Int) : Rep G H (.int i) (.int i)
  | str (s : Str) : Rep G H (.str s) (.str s)
  | tup {a : Addr} {xs : List V} {ds : List D} (h : H a = some (.tup xs)) (n : ¬ G.off a) (r : RepL G H xs ds) : Rep G H (.ref a) (.tup ds)
  | lst {a : Addr} {xs : List V} {ds : List D} (h : H a = some (.lst xs)) (n : ¬ G.off a) (r : RepL G H xs ds) : Rep G H (.ref a) (.lst ds)
  | dK {a : Addr} {ks : List (Key × V)} {kvs : List (Key × D)} (h : H a = some (.dK ks)) (n : ¬ G.off a) (r : RepP G H Key ks kvs) : Rep G H (.ref a) (.dK kvs)
  | dT {a : Addr} {ks : List (List Key × V)} {kvs : List (List Key × D)} (h : H a = some (.dT ks)) (n : ¬ G.off a) (r : RepP G H (List Key) ks kvs) : Rep G H (.ref a) (.dT kvs)
  | ins {a C dx : Addr} {c : String} {f : List (Str × V)} {fs : List (Str × D)} (h : H a = some (.ins C dx f)) (n : ¬ G.off a) (hc : G.cl c = some C) (r : RepP G H Str f fs) : Rep G H (.ref a) (.ins c fs)
  | ref {a : Addr} {i : Nat} (h : G.ph[i]? = some a) : Rep G H (.ref a) (.ref i)
  | scr {a : Addr} {o : Obj} {ns : List Int} (h : H a = some (.frz o (.lst (ns.map V.int)))) (n : ¬ G.off a) : Rep G H (.ref a) (.scr ns)
  | scrK {a : Addr} {ns : List Int} (h : ∀ H', SqL G.K H' a (ns.map V.int)) : Rep G H (.ref a) (.scr ns)
inductive RepL (G : Gh) (H : Hp) : List V → List D → Prop
  | nil : RepL G H [] []
  | cons {x : V} {d : D} {xs : List V} {ds : List D} (h : Rep G H x d) (t : RepL G H xs ds) : RepL G H (x :: xs) (d :: ds)
inductive RepP (G : Gh) (H : Hp) : (κ : Type) → List (κ × V) → List (κ × D) → Prop
  | nil {κ : Type} : RepP G H κ [] []
  | cons {κ : Type} {k : κ} {x : V} {d : D} {xs : List (κ × V)} {ds : List (κ × D)} (h : Rep G H x d) (t : RepP G H κ xs ds) : RepP G H κ ((k, x) :: xs) ((k, d) :: ds)
end

inductive Cel (G : Gh) (H : Hp) (a : Addr) : D → Prop
  | lst {xs : List V} {ds : List D} (h : H a = some (.lst xs)) (r : RepL G H xs ds) : Cel G H a (.lst ds)
  | dK {ks : List (Key × V)} {kvs : List (Key × D)} (h : H a = some (.dK ks)) (r : RepP G H Key ks kvs) : Cel G H a (.dK kvs)
  | dT {ks : List (List Key × V)} {kvs : List (List Key × D)} (h : H a = some (.dT ks)) (r : RepP G H (List Key) ks kvs) : Cel G H a (.dT kvs)
  | ins {C dx : Addr} {c : String} {f : List (Str × V)} {fs : List (Str × D)} (h : H a = some (.ins C dx f)) (hc : G.cl c = some C) (r : RepP G H Str f fs) : Cel G H a (.ins c fs)

/-- from one heap to a later one -/
structure Mo (G G' : Gh) (H H' : Hp) : Prop where
  keep : ∀ a o, H a = some o → ¬ G.off a → H' a = some o ∧ ¬ G'.off a
  ph : ∀ (i : Nat) a, G.ph[i]? = some a → G'.ph[i]? = some a
  cl : G'.cl = G.cl
  K : G'.K = G.K

mutual
theorem Rep.mo {G G' : Gh} {H H' : Hp} (m : Mo G G' H H') : ∀ {v : V} {d : D}, Rep G H v d → Rep G' H' v d
  | _, _, .non => .non
  | _, _, .bl b => .bl b
  | _, _, .int i => .int i
  | _, _, .str s => .str s
  | _, _, .tup h n r => .tup (m.keep _ _ h n).1 (m.keep _ _ h n).2 (RepL.mo m r)
  | _, _, .lst h n r => .lst (m.keep _ _ h n).1 (m.keep _ _ h n).2 (RepL.mo m r)
  | _, _, .dK h n r => .dK (m.keep _ _ h n).1 (m.keep _ _ h n).2 (RepP.mo m r)
  | _, _, .dT h n r => .dT (m.keep _ _ h n).1 (m.keep _ _ h n).2 (RepP.mo m r)
  | _, _, .ins h n hc r => .ins (m.keep _ _ h n).1 (m.keep _ _ h n).2 (by rw [m.cl]; exact hc) (RepP.mo m r)
  | _, _, .ref h => .ref (m.ph _ _ h)
  | _, _, .scr h n => .scr (m.keep _ _ h n).1 (m.keep _ _ h n).2
  | _, _, .scrK h => .scrK (by rw [m.K]; exact h)
theorem RepL.mo {G G' : Gh} {H H' : Hp} (m : Mo G G' H H') : ∀ {xs : List V} {ds : List D}, RepL G H xs ds → RepL G' H' xs ds
  | _, _, .nil => .nil
  | _, _, .cons h t => .cons (Rep.mo m h) (RepL.mo m t)
theorem RepP.mo {G G' : Gh} {H H' : Hp} (m : Mo G G' H H') : ∀ {κ : Type} {xs : List (κ × V)} {ds : List (κ × D)}, RepP G H κ xs ds → RepP G' H' κ xs ds
  | _, _, _, .nil => .nil
  | _, _, _, .cons h t => .cons (Rep.mo m h) (RepP.mo m t)
end
theorem Cel.mo {G G' : Gh} {H H' : Hp} (m : Mo G G' H H') {a : Addr} (k : ∀ o, H a = some o → H' a = some o) {d : D} : Cel G H a d → Cel G' H' a d
  | .lst h r => .lst (k _ h) (r.mo m)
  | .dK h r => .dK (k _ h) (r.mo m)
  | .dT h r => .dT (k _ h) (r.mo m)
  | .ins h hc r => .ins (k _ h) (by rw [m.cl]; exact hc) (r.mo m)
theorem Cel.there {G : Gh} {H : Hp} {a : Addr} {d : D} : Cel G H a d → ∃ o, H a = some o
  | .lst h _ => ⟨_, h⟩
  | .dK h _ => ⟨_, h⟩
  | .dT h _ => ⟨_, h⟩
  | .ins h _ _ => ⟨_, h⟩
/-- a cell that nothing else may change, as a value -/
theorem Cel.rep {G G' : Gh} {H : Hp} {a : Addr} {d : D} (m : Mo G G' H H) (n : ¬ G'.off a) : Cel G H a d → Rep G' H (.ref a) d
  | .lst h r => .lst h n (r.mo m)
  | .dK h r => .dK h n (r.mo m)
  | .dT h r => .dT h n (r.mo m)
  | .ins h hc r => .ins h n (by rw [m.cl]; exact hc) (r.mo m)
theorem RepL.length {G : Gh} {H : Hp} : ∀ {xs : List V} {ds : List D}, RepL G H xs ds → xs.length = ds.length
  | _, _, .nil => rfl
  | _, _, .cons _ t => by rw [List.length_cons, List.length_cons, RepL.length t]
theorem RepP.length {G : Gh} {H : Hp} : ∀ {κ : Type} {xs : List (κ × V)} {ds : List (κ × D)}, RepP G H κ xs ds → xs.length = ds.length
  | _, _, _, .nil => rfl
  | _, _, _, .cons _ t => by rw [List.length_cons, List.length_cons, RepP.length t]
theorem RepL.app {G : Gh} {H : Hp} : ∀ {xs ys : List V} {ds es : List D}, RepL G H xs ds → RepL G H ys es → RepL G H (xs ++ ys) (ds ++ es)
  | _, _, _, _, .nil, s => s
  | _, _, _, _, .cons h t, s => .cons h (RepL.app t s)
theorem RepL.at {G : Gh} {H : Hp} : ∀ {xs : List V} {ds : List D}, RepL G H xs ds → ∀ {i : Nat} {d : D}, ds[i]? = some d → ∃ x, xs[i]? = some x ∧ Rep G H x d
  | _, _, .nil, i, d, e => by simp at e
  | _, _, .cons h t, 0, d, e => by
    have e' := Option.some.inj e
    subst e'
    exact ⟨_, rfl, h⟩
  | _, _, .cons h t, i + 1, d, e => RepL.at t (i := i) (d := d) (by simpa using e)
theorem RepL.at' {G : Gh} {H : Hp} : ∀ {xs : List V} {ds : List D}, RepL G H xs ds → ∀ {i : Nat} {x : V}, xs[i]? = some x → ∃ d, ds[i]? = some d ∧ Rep G H x d
  | _, _, .nil, i, d, e => by simp at e
  | _, _, .cons h t, 0, d, e => by
    have e' := Option.some.inj e
    subst e'
    exact ⟨_, rfl, h⟩
  | _, _, .cons h t, i + 1, d, e => RepL.at' t (i := i) (x := d) (by simpa using e)
theorem RepL.set {G : Gh} {H : Hp} {x : V} {d : D} (h : Rep G H x d) : ∀ {xs : List V} {ds : List D} (i : Nat), RepL G H xs ds → RepL G H (xs.set i x) (ds.set i d)
  | _, _, _, .nil => .nil
  | _, _, 0, .cons _ t => .cons h t
  | _, _, i + 1, .cons q t => .cons q (RepL.set h i t)
theorem RepL.take {G : Gh} {H : Hp} : ∀ {xs : List V} {ds : List D} (n : Nat), RepL G H xs ds → RepL G H (xs.take n) (ds.take n)
  | _, _, 0, _ => .nil
  | _, _, _ + 1, .nil => .nil
  | _, _, n + 1, .cons h t => .cons h (RepL.take n t)
theorem RepL.drop {G : Gh} {H : Hp} : ∀ {xs : List V} {ds : List D} (n : Nat), RepL G H xs ds → RepL G H (xs.drop n) (ds.drop n)
  | _, _, 0, r => r
  | _, _, _ + 1, .nil => .nil
  | _, _, n + 1, .cons _ t => RepL.drop n t

/-! a def running -/
structure Fr where
  K : PySem.W.Frag
  cl : String → Option Addr
  N0 : Addr → Prop
  H0 : Hp
  ph0 : List Addr
def nof (F : Fr) (env : Ev) (σ : St) : Addr → Prop := fun a => F.N0 a ∨ ∃ (i : Nat) (d : D), env[i]? = some (.own d) ∧ σ[i]? = some (some (.ref a))
def gh (F : Fr) (ph : List Addr) (env : Ev) (σ : St) : Gh := ⟨F.K, F.cl, nof F env σ, ph⟩
structure Sim (F : Fr) (ph : List Addr) (M : Sto) (env : Ev) (σ : St) (H : Hp) : Prop where
  len : env.length = σ.length
  pre : ∃ ps, ph = F.ph0 ++ ps ∧ ∀ a ∈ ps, F.H0 a = none
  keep : ∀ a o, F.H0 a = some o → a ∉ F.ph0 → H a = some o
  n0 : ∀ a, F.N0 a → (∃ o, H a = some o) ∧ a ∉ ph
  ml : M.length = ph.length
  nd : ph.Nodup
  sto : ∀ (i : Nat) d, M[i]? = some d → ∃ a, ph[i]? = some a ∧ Cel (gh F ph env σ) H a d
  val : ∀ (i : Nat) d, env[i]? = some (.val d) → ∃ v, σ[i]? = some (some v) ∧ Rep (gh F ph env σ) H v d
  own : ∀ (i : Nat) d, env[i]? = some (.own d) → ∃ a, σ[i]? = some (some (.ref a)) ∧ Cel (gh F ph env σ) H a d ∧ F.H0 a = none ∧ a ∉ ph ∧ ¬ F.N0 a
  ap : ∀ (i j : Nat) d e a, env[i]? = some (.own d) → env[j]? = some (.own e) → σ[i]? = some (some (.ref a)) → σ[j]? = some (some (.ref a)) → i = j
  brw : ∀ (i : Nat) d, env[i]? = some (.bor d) → ∃ a, σ[i]? = some (some (.ref a)) ∧ F.N0 a ∧ Cel (gh F ph env σ) H a d ∧ ∃ o, F.H0 a = some o
structure Fwd (ph : List Addr) (H : Hp) (ph' : List Addr) (H' : Hp) : Prop where
  ext : ∃ ps, ph' = ph ++ ps ∧ ∀ a ∈ ps, H a = none
  keep : ∀ a o, H a = some o → a ∉ ph → H' a = some o
  there : ∀ a o, H a = some o → ∃ o', H' a = some o'

theorem Fwd.refl {ph : List Addr} {H : Hp} : Fwd ph H ph H := ⟨⟨[], by simp, fun a h => by simp at h⟩, fun _ _ h _ => h, fun _ o h => ⟨o, h⟩⟩
theorem Fwd.trans {p1 p2 p3 : List Addr} {H1 H2 H3 : Hp} (f : Fwd p1 H1 p2 H2) (g : Fwd p2 H2 p3 H3) : Fwd p1 H1 p3 H3 := by
  obtain ⟨a1, e1, n1⟩ := f.ext
  obtain ⟨a2, e2, n2⟩ := g.ext
  have back : ∀ a, H2 a = none → H1 a = none := fun a h => by
    cases q : H1 a with
    | none => rfl
    | some o =>
      obtain ⟨o', z⟩ := f.there a o q
      rw [h] at z
      cases z
  refine ⟨⟨a1 ++ a2, by rw [e2, e1, List.append_assoc], fun a h => ?_⟩, fun a o h n => ?_, fun a o h => ?_⟩
  · rcases List.mem_append.mp h with h | h
    · exact n1 a h
    · exact back a (n2 a h)
  · refine g.keep a o (f.keep a o h n) fun m => ?_
    rw [e1] at m
    rcases List.mem_append.mp m with m | m
    · exact n m
    · rw [n1 a m] at h
      cases h
  · obtain ⟨o', z⟩ := f.there a o h
    exact g.there a o' z
theorem Fwd.back {ph ph' : List Addr} {H H' : Hp} (f : Fwd ph H ph' H') {a : Addr} (h : H' a = none) : H a = none := by
  cases q : H a with
  | none => rfl
  | some o =>
    obtain ⟨o', z⟩ := f.there a o q
    rw [h] at z
    cases z

section
variable {F : Fr} {ph ph' : List Addr} {M M' : Sto} {env env' : Ev} {σ σ' : St} {H H' : Hp} {p a : Addr} {o : HO}
theorem Sim.phIn (S : Sim F ph M env σ H) (h : a ∈ ph) : ∃ o, H a = some o := by
  obtain ⟨i, hi, e⟩ := List.getElem_of_mem h
  have hM : i < M.length := by rw [S.ml]; exact hi
  obtain ⟨b, e1, c⟩ := S.sto i M[i] (by simp [hM])
  have : b = a := by
    rw [List.getElem?_eq_getElem hi, e] at e1
    exact (Option.some.inj e1).symm
  subst this
  exact c.there
theorem Sim.fresh (S : Sim F ph M env σ H) (h : H p = none) : ¬ (gh F ph env σ).off p := by
  intro z
  have no : ∀ o, H p = some o → False := fun o e => by rw [h] at e; cases e
  rcases z with z | z
  · rcases z with z | ⟨i, d, e1, e2⟩
    · obtain ⟨⟨o, q⟩, _⟩ := S.n0 p z
      exact no o q
    · obtain ⟨b, q, c, _⟩ := S.own i d e1
      rw [e2] at q
      cases q
      obtain ⟨o, q⟩ := c.there
      exact no o q
  · obtain ⟨o, q⟩ := S.phIn z
    exact no o q
theorem Sim.h0 (S : Sim F ph M env σ H) (h : H p = none) : F.H0 p = none := by
  cases q : F.H0 p with
  | none => rfl
  | some o =>
    by_cases m : p ∈ F.ph0
    · obtain ⟨ps, e, _⟩ := S.pre
      obtain ⟨u, z⟩ := S.phIn (a := p) (by rw [e]; exact List.mem_append_left _ m)
      rw [h] at z
      cases z
    · rw [S.keep p o q m] at h
      cases h
theorem Fwd.mo (S : Sim F ph M env σ H) (f : Fwd ph H ph' H') : Mo (gh F ph env σ) (gh F ph' env σ) H H' := by
  obtain ⟨ps, e, n⟩ := f.ext
  refine ⟨fun a o h k => ⟨f.keep a o h fun m => k (.inr m), fun z => ?_⟩, fun i a h => ?_, rfl, rfl⟩
  · rcases z with z | z
    · exact k (.inl z)
    · have z' : a ∈ ph' := z
      rw [e] at z'
      rcases List.mem_append.mp z' with m | m
      · exact k (.inr m)
      · rw [n a m] at h
        cases h
  · show ph'[i]? = some a
    have h' : ph[i]? = some a := h
    rw [e, List.getElem?_append_left (List.getElem?_eq_some_iff.mp h').1]
    exact h'
theorem Fwd.alloc (h : H p = none) : Fwd ph H ph (upd H p o) :=
  ⟨⟨[], by simp, fun a h => by simp at h⟩, fun a u e _ => by rw [upd_ne (ne_of_none e h)]; exact e, fun a u e => ⟨u, by rw [upd_ne (ne_of_none e h)]; exact e⟩⟩
theorem Sim.alloc (S : Sim F ph M env σ H) (h : H p = none) : Sim F ph M env σ (upd H p o) := by
  have m : Mo (gh F ph env σ) (gh F ph env σ) H (upd H p o) := (Fwd.alloc h).mo S
  have k : ∀ (a : Addr) u, H a = some u → upd H p o a = some u := fun a u e => by rw [upd_ne (ne_of_none e h)]; exact e
  refine ⟨S.len, S.pre, fun a u e n => k a u (S.keep a u e n), fun a z => ?_, S.ml, S.nd, fun i d e => ?_, fun i d e => ?_, fun i d e => ?_, S.ap, fun i d e => ?_⟩
  · obtain ⟨⟨u, q⟩, n⟩ := S.n0 a z
    exact ⟨⟨u, k a u q⟩, n⟩
  · obtain ⟨a, q, c⟩ := S.sto i d e
    exact ⟨a, q, c.mo m (k a)⟩
  · obtain ⟨v, q, r⟩ := S.val i d e
    exact ⟨v, q, r.mo m⟩
  · obtain ⟨a, q, c, r⟩ := S.own i d e
    exact ⟨a, q, c.mo m (k a), r⟩
  · obtain ⟨a, q, n, c, o⟩ := S.brw i d e
    exact ⟨a, q, n, c.mo m (k a), o⟩
end

/-! what is wanted of a meaning's outcome -/
def Post {α β : Type} (Rl : Gh → Hp → β → α → Prop) (F : Fr) (W : WX) (env : Ev) (σ : St) (ph : List Addr) (H : Hp) (Q : β → Hp → Prop) : Res α → Prop
  | .ok d M' => ∀ ph' H' v, Sim F ph' M' env σ H' → Fwd ph H ph' H' → Rl (gh F ph' env σ) H' v d → Q v H'
  | .exc c fs M' => ∀ ph' H' dx f C, Sim F ph' M' env σ H' → Fwd ph H ph' H' → F.cl c = some C → H' dx = some (.xd f) → RepP (gh F ph' env σ) H' Str f fs → W (.ref C) (some dx) σ H'
  | .fail => False
abbrev PoE := @Post D V Rep
abbrev PoA := @Post (List D) (List V) RepL
def RlB : Gh → Hp → Bool → Bool → Prop := fun _ _ a b => a = b
abbrev PoT := @Post Bool Bool RlB

section
variable {F : Fr} {W : WX} {ph ph' : List Addr} {M M' : Sto} {env : Ev} {σ : St} {H H' : Hp} {α β γ δ : Type} {Rl : Gh → Hp → β → α → Prop} {Rl' : Gh → Hp → δ → γ → Prop}
theorem Post.fwd {Q : β → Hp → Prop} {r : Res α} (P : Post Rl F W env σ ph H Q r) (f : Fwd ph H ph' H') : Post Rl F W env σ ph' H' Q r := by
  cases r with
  | ok d M' => exact fun p1 H1 v S g r => P p1 H1 v S (f.trans g) r
  | exc c fs M' => exact fun p1 H1 dx ff C S g e1 e2 r => P p1 H1 dx ff C S (f.trans g) e1 e2 r
  | fail => exact P
theorem Post.step {Q : δ → Hp → Prop} {Q' : β → Hp → Prop} {r : Res α} {k : α → Sto → Res γ} (P : Post Rl' F W env σ ph H Q (r.bind k))
    (hk : ∀ a M' ph' H' b, Sim F ph' M' env σ H' → Fwd ph H ph' H' → Rl (gh F ph' env σ) H' b a → Post Rl' F W env σ ph' H' Q (k a M') → Q' b H') : Post Rl F W env σ ph H Q' r := by
  cases r with
  | ok d M' => exact fun p1 H1 v S g r => hk d M' p1 H1 v S g r (Post.fwd P g)
  | exc c fs M' => exact P
  | fail => exact P
theorem Post.now {Q : β → Hp → Prop} {d : α} {v : β} (P : Post Rl F W env σ ph H Q (.ok d M)) (S : Sim F ph M env σ H) (r : Rl (gh F ph env σ) H v d) : Q v H := P ph H v S Fwd.refl r
end

/-! meanings -/
abbrev ZX := Ev → Sto → Res D
abbrev ZL := Ev → Sto → Res (List D)
abbrev ZB := Ev → Sto → Res Bool
structure ZE (X : Cx) (W : WX) (cl : String → Option Addr) (e : Expr) (z : ZX) : Prop where
  ex : ∃ t, PE X e t ∧ ∀ F ph M env σ H Q, F.cl = cl → F.K = X.K → Sim F ph M env σ H → PoE F W env σ ph H Q (z env M) → t σ H Q
structure ZA (X : Cx) (W : WX) (cl : String → Option Addr) (es : List Expr) (z : ZL) : Prop where
  ex : ∃ t, PA X es t ∧ ∀ F ph M env σ H Q, F.cl = cl → F.K = X.K → Sim F ph M env σ H → PoA F W env σ ph H Q (z env M) → t σ H Q
structure ZT (X : Cx) (W : WX) (cl : String → Option Addr) (e : Expr) (z : ZB) : Prop where
  ex : ∃ t, PT X e t ∧ ∀ F ph M env σ H Q, F.cl = cl → F.K = X.K → Sim F ph M env σ H → PoT F W env σ ph H Q (z env M) → t σ H Q
end Zy
set_option maxHeartbeats 2000000
namespace Zy
open PySem PySem.Spec PyProof.Rows L2

/-! reading: frozen values, owned slots, cells of the store -/
def deref (M : Sto) : D → Option D
  | .ref j => M[j]?
  | d => some d
def RlC (G : Gh) (H : Hp) (v : V) (d : D) : Prop := Rep G H v d ∨ ∃ a, v = .ref a ∧ Cel G H a d ∧ a ∉ G.ph ∧ G.N a
inductive Lk (G : Gh) (H : Hp) : V → D → Prop
  | of {v : V} {d : D} (h : Rep G H v d) : Lk G H v d
  | cel {a : Addr} {d : D} (h : Cel G H a d) : Lk G H (.ref a) d
abbrev PoC := @Post D V RlC
inductive RcL (G : Gh) (H : Hp) : List V → List D → Prop
  | nil : RcL G H [] []
  | cons {x : V} {d : D} {xs : List V} {ds : List D} (h : RlC G H x d) (t : RcL G H xs ds) : RcL G H (x :: xs) (d :: ds)

section
variable {F : Fr} {W : WX} {ph ph' : List Addr} {M M' : Sto} {env : Ev} {σ : St} {H H' : Hp} {v : V} {d c : D} {G : Gh}
theorem RlC.look (S : Sim F ph M env σ H) (r : RlC (gh F ph env σ) H v d) (e : deref M d = some c) : Lk (gh F ph env σ) H v c := by
  rcases r with r | ⟨a, rfl, r, _, _⟩
  · cases r with
    | @ref a i h =>
      obtain ⟨b, e1, q⟩ := S.sto i c e
      have h' : ph[i]? = some a := h
      rw [h'] at e1
      cases e1
      exact .cel q
    | non => cases e; exact .of .non
    | bl b => cases e; exact .of (.bl b)
    | int i => cases e; exact .of (.int i)
    | str s => cases e; exact .of (.str s)
    | tup h n r => cases e; exact .of (.tup h n r)
    | lst h n r => cases e; exact .of (.lst h n r)
    | dK h n r => cases e; exact .of (.dK h n r)
    | dT h n r => cases e; exact .of (.dT h n r)
    | ins h n hc r => cases e; exact .of (.ins h n hc r)
    | scr h n => cases e; exact .of (.scr h n)
    | scrK h => cases e; exact .of (.scrK h)
  · cases r with
    | lst h r => cases e; exact .cel (.lst h r)
    | dK h r => cases e; exact .cel (.dK h r)
    | dT h r => cases e; exact .cel (.dT h r)
    | ins h hc r => cases e; exact .cel (.ins h hc r)
theorem RlC.fwd (S : Sim F ph M env σ H) (f : Fwd ph H ph' H') (r : RlC (gh F ph env σ) H v d) : RlC (gh F ph' env σ) H' v d := by
  have m := f.mo S
  rcases r with r | ⟨a, e, r, n, hN⟩
  · exact .inl (r.mo m)
  · obtain ⟨o, ho⟩ := r.there
    have n' : a ∉ ph := n
    refine .inr ⟨a, e, r.mo m fun o h => f.keep a o h n', fun z => ?_, hN⟩
    obtain ⟨ps, e1, hn⟩ := f.ext
    have z' : a ∈ ph' := z
    rw [e1] at z'
    rcases List.mem_append.mp z' with q | q
    · exact n' q
    · rw [hn a q] at ho
      cases ho
theorem RcL.fwd (S : Sim F ph M env σ H) (f : Fwd ph H ph' H') : ∀ {xs : List V} {ds : List D}, RcL (gh F ph env σ) H xs ds → RcL (gh F ph' env σ) H' xs ds
  | _, _, .nil => .nil
  | _, _, .cons h t => .cons (h.fwd S f) (RcL.fwd S f t)
theorem Lk.non_inv (h : Lk G H v .non) : v = .non := by cases h with | of h => cases h; rfl | cel h => cases h
theorem Lk.int_inv {i : Int} (h : Lk G H v (.int i)) : v = .int i := by cases h with | of h => cases h; rfl | cel h => cases h
theorem Lk.bl_inv {b : Bool} (h : Lk G H v (.bl b)) : v = .bl b := by cases h with | of h => cases h; rfl | cel h => cases h
theorem Lk.str_inv {s : Str} (h : Lk G H v (.str s)) : v = .str s := by cases h with | of h => cases h; rfl | cel h => cases h
theorem Lk.lst_inv {ds : List D} (h : Lk G H v (.lst ds)) : ∃ a xs, v = .ref a ∧ H a = some (.lst xs) ∧ RepL G H xs ds := by
  cases h with
  | of h => cases h with | lst h n r => exact ⟨_, _, rfl, h, r⟩
  | cel h => cases h with | lst h r => exact ⟨_, _, rfl, h, r⟩
theorem Lk.tup_inv {ds : List D} (h : Lk G H v (.tup ds)) : ∃ a xs, v = .ref a ∧ H a = some (.tup xs) ∧ RepL G H xs ds := by
  cases h with
  | of h => cases h with | tup h n r => exact ⟨_, _, rfl, h, r⟩
  | cel h => cases h
theorem Lk.dK_inv {ds : List (Key × D)} (h : Lk G H v (.dK ds)) : ∃ a xs, v = .ref a ∧ H a = some (.dK xs) ∧ RepP G H Key xs ds := by
  cases h with
  | of h => cases h with | dK h n r => exact ⟨_, _, rfl, h, r⟩
  | cel h => cases h with | dK h r => exact ⟨_, _, rfl, h, r⟩
theorem Lk.dT_inv {ds : List (List Key × D)} (h : Lk G H v (.dT ds)) : ∃ a xs, v = .ref a ∧ H a = some (.dT xs) ∧ RepP G H (List Key) xs ds := by
  cases h with
  | of h => cases h with | dT h n r => exact ⟨_, _, rfl, h, r⟩
  | cel h => cases h with | dT h r => exact ⟨_, _, rfl, h, r⟩
theorem Lk.ins_inv {c : String} {fs : List (Str × D)} (h : Lk G H v (.ins c fs)) : ∃ a C dx f, v = .ref a ∧ H a = some (.ins C dx f) ∧ G.cl c = some C ∧ RepP G H Str f fs := by
  cases h with
  | of h => cases h with | ins h n hc r => exact ⟨_, _, _, _, rfl, h, hc, r⟩
  | cel h => cases h with | ins h hc r => exact ⟨_, _, _, _, rfl, h, hc, r⟩
theorem Lk.scr_inv {ns : List Int} (h : Lk G H v (.scr ns)) : ∃ a, v = .ref a ∧ SqL G.K H a (ns.map V.int) := by
  cases h with
  | of h =>
    cases h with
    | scr h n => exact ⟨_, rfl, .inl (.inr ⟨_, h⟩)⟩
    | scrK h => exact ⟨_, rfl, h H⟩
  | cel h => cases h
theorem Rep.rc (h : Rep G H v d) : RlC G H v d := .inl h
/-- as list or tuple -/
def itemsD : D → Option (List D)
  | .lst ds => some ds
  | .tup ds => some ds
  | .scr ns => some (ns.map .int)
  | _ => none
theorem repL_ints (G : Gh) (H : Hp) : ∀ ns : List Int, RepL G H (ns.map V.int) (ns.map D.int)
  | [] => .nil
  | n :: r => .cons (.int n) (repL_ints G H r)
theorem Lk.seq {ds : List D} (h : Lk G H v c) (e : itemsD c = some ds) : ∃ a xs, v = .ref a ∧ (SqL G.K H a xs ∨ SqT G.K H a xs) ∧ RepL G H xs ds := by
  cases c <;> simp only [itemsD, Option.some.injEq, reduceCtorEq] at e
  · subst e; obtain ⟨a, xs, e, h, r⟩ := h.tup_inv; exact ⟨a, xs, e, .inr (SqT.of h), r⟩
  · subst e; obtain ⟨a, xs, e, h, r⟩ := h.lst_inv; exact ⟨a, xs, e, .inl (SqL.of h), r⟩
  · subst e; obtain ⟨a, e, h⟩ := h.scr_inv; exact ⟨a, _, e, .inl h, repL_ints G H _⟩
end

/-! judgements in the way of reading -/
structure ZC (X : Cx) (W : WX) (cl : String → Option Addr) (e : Expr) (z : ZX) : Prop where
  ex : ∃ t, PE X e t ∧ ∀ F ph M env σ H Q, F.cl = cl → F.K = X.K → Sim F ph M env σ H → PoC F W env σ ph H Q (z env M) → t σ H Q
structure ZK (X : Cx) (W : WX) (cl : String → Option Addr) (es : List Expr) (z : ZL) : Prop where
  ex : ∃ t, PA X es t ∧ ∀ F ph M env σ H Q, F.cl = cl → F.K = X.K → Sim F ph M env σ H → @Post (List D) (List V) RcL F W env σ ph H Q (z env M) → t σ H Q
section
variable {X : Cx} {W : WX} {cl : String → Option Addr} {e a b : Expr} {es : List Expr} {z za zb zc : ZX} {zs : ZL} {pos : Pos} {op : Operator} {co co' : CmpOp}
theorem Post.weak {α β : Type} {Rl Rl' : Gh → Hp → β → α → Prop} {F : Fr} {env : Ev} {σ : St} {ph : List Addr} {H : Hp} {Q : β → Hp → Prop} {r : Res α} (h : ∀ G H v d, Rl G H v d → Rl' G H v d) (P : Post Rl' F W env σ ph H Q r) : Post Rl F W env σ ph H Q r := by
  cases r with
  | ok d M' => exact fun p1 H1 v S g r => P p1 H1 v S g (h _ _ _ _ r)
  | exc c fs M' => exact P
  | fail => exact P
theorem ZE.toC (h : ZE X W cl e z) : ZC X W cl e z := by
  obtain ⟨t, p, q⟩ := h.ex
  exact ⟨t, p, fun F ph M env σ H Q h1 h2 S P => q F ph M env σ H Q h1 h2 S (P.weak fun _ _ _ _ r => .inl r)⟩

/-! names, constants -/
def zVar (i : Nat) : ZX := fun env M => match env[i]? with
  | some (.val d) => .ok d M
  | _ => .fail
def zCv (i : Nat) : ZX := fun env M => match env[i]? with
  | some (.val d) => .ok d M
  | some (.own d) => .ok d M
  | some (.bor d) => .ok d M
  | _ => .fail
theorem ze_var {i : Nat} {x : Str} (hN : X.N[i]? = some x) (hv : Vis X.env.scope x) (hd : (x == ("__debug__" : Str)) = false := by decide) (hc : (x == ("__classdict__" : Str)) = false := by decide) : ZE X W cl (.Name x pos) (zVar i) := by
  refine ⟨_, pe_var hN hv hd hc, fun F ph M env σ H Q _ _ S P => ?_⟩
  unfold zVar at P
  split at P
  · rename_i d e
    obtain ⟨v, e1, r⟩ := S.val i d e
    exact ⟨v, e1, P.now S r⟩
  · exact P.elim
theorem zc_var {i : Nat} {x : Str} (hN : X.N[i]? = some x) (hv : Vis X.env.scope x) (hd : (x == ("__debug__" : Str)) = false := by decide) (hc : (x == ("__classdict__" : Str)) = false := by decide) : ZC X W cl (.Name x pos) (zCv i) := by
  refine ⟨_, pe_var hN hv hd hc, fun F ph M env σ H Q _ _ S P => ?_⟩
  unfold zCv at P
  split at P
  · rename_i d e
    obtain ⟨v, e1, r⟩ := S.val i d e
    exact ⟨v, e1, P.now S (.inl r)⟩
  · rename_i d e
    obtain ⟨a, e1, r, _, n, _⟩ := S.own i d e
    exact ⟨_, e1, P.now S (.inr ⟨a, rfl, r, n, .inr ⟨i, d, e, e1⟩⟩)⟩
  · rename_i d e
    obtain ⟨a, e1, n, r, _⟩ := S.brw i d e
    exact ⟨_, e1, P.now S (.inr ⟨a, rfl, r, (S.n0 a n).2, .inl n⟩)⟩
  · exact P.elim
def zK (d : D) : ZX := fun _ M => .ok d M
theorem ze_const {d : D} {v : V} (h : PE X e (tC v)) (r : ∀ G H, Rep G H v d) : ZE X W cl e (zK d) :=
  ⟨_, h, fun F ph M env σ H Q _ _ S P => P.now S (r _ _)⟩
theorem ze_int {i : Int} {j : Nat} : ZE X W cl (.Constant (.int i) j pos) (zK (.int i)) := ze_const pe_int fun _ _ => .int i
theorem ze_str {s : Str} {j : Nat} : ZE X W cl (.Constant (.str s) j pos) (zK (.str s)) := ze_const pe_str fun _ _ => .str s
theorem ze_bl {b : Bool} {j : Nat} : ZE X W cl (.Constant (.bool b) j pos) (zK (.bl b)) := ze_const pe_bl fun _ _ => .bl b
theorem ze_non {j : Nat} : ZE X W cl (.Constant .none j pos) (zK .non) := ze_const pe_non fun _ _ => .non

/-! operators by values -/
abbrev G2 := D → D → Sto → Res D
def zOp (g : G2) (za zb : ZX) : ZX := fun env M => (za env M).bind fun d M1 => (zb env M1).bind fun e M2 => g d e M2
def OpZ (X : Cx) (W : WX) (cl : String → Option Addr) (r : R2) (g : G2) : Prop := ∀ (F : Fr) (ph : List Addr) (M : Sto) (env : Ev) (σ : St) (H : Hp) (Q : VK) (x y : V) (d e : D), F.cl = cl → F.K = X.K → Sim F ph M env σ H →
  RlC (gh F ph env σ) H x d → RlC (gh F ph env σ) H y e → PoE F W env σ ph H Q (g d e M) → r x y H Q
theorem op_run {r : R2} {g : G2} {ta tb : TE} (hz : OpZ X W cl r g)
    (ha : ∀ F ph M env σ H Q, F.cl = cl → F.K = X.K → Sim F ph M env σ H → PoC F W env σ ph H Q (za env M) → ta σ H Q)
    (hb : ∀ F ph M env σ H Q, F.cl = cl → F.K = X.K → Sim F ph M env σ H → PoC F W env σ ph H Q (zb env M) → tb σ H Q)
    {F : Fr} {ph : List Addr} {M : Sto} {env : Ev} {σ : St} {H : Hp} {Q : VK} (h1 : F.cl = cl) (h2 : F.K = X.K) (S : Sim F ph M env σ H) (P : PoE F W env σ ph H Q (zOp g za zb env M)) : tOp r ta tb σ H Q := by
  refine ha F ph M env σ H _ h1 h2 S (P.step fun d M1 ph1 H1 x S1 f1 r1 P1 => ?_)
  refine hb F ph1 M1 env σ H1 _ h1 h2 S1 (P1.step fun e M2 ph2 H2 y S2 f2 r2 P2 => ?_)
  exact hz F ph2 M2 env σ H2 Q x y d e h1 h2 S2 (r1.fwd S1 f2) r2 P2
theorem ze_op {r : R2} {g : G2} (ho : OpR X (binaryOp op) r) (hz : OpZ X W cl r g) (ha : ZC X W cl a za) (hb : ZC X W cl b zb) : ZE X W cl (.BinOp a op b pos) (zOp g za zb) := by
  obtain ⟨ta, pa, qa⟩ := ha.ex
  obtain ⟨tb, pb, qb⟩ := hb.ex
  exact ⟨_, pe_op ho pa pb, fun F ph M env σ H Q h1 h2 S P => op_run hz qa qb h1 h2 S P⟩
theorem ze_cmp {r : R2} {g : G2} (ho : OpR X (compareOp co) r) (hz : OpZ X W cl r g) (ha : ZC X W cl a za) (hb : ZC X W cl b zb) (hm : behindInMarks co b = false) : ZE X W cl (.Compare a [co] [b] pos) (zOp g za zb) := by
  obtain ⟨ta, pa, qa⟩ := ha.ex
  obtain ⟨tb, pb, qb⟩ := hb.ex
  exact ⟨_, pe_cmpR ho pa pb hm, fun F ph M env σ H Q h1 h2 S P => op_run hz qa qb h1 h2 S P⟩

/-! tests -/
def zTst (z : ZX) : ZB := fun env M => (z env M).bind fun d M1 => match d with
  | .bl b => .ok b M1
  | _ => .fail
theorem post_tst {F : Fr} {env : Ev} {σ : St} {ph : List Addr} {H : Hp} {M : Sto} {Q : Bool → Hp → Prop} (P : PoT F W env σ ph H Q (zTst z env M)) : PoE F W env σ ph H (fun x H' => ∃ k, x = .bl k ∧ Q k H') (z env M) := by
  refine P.step fun d M1 ph1 H1 v S1 f1 r1 P1 => ?_
  cases d with
  | bl b =>
    cases r1
    exact ⟨b, rfl, P1.now S1 rfl⟩
  | _ => exact P1.elim
theorem zt_cmp {r : R2} {g : G2} (ho : OpR X (compareOp co) r) (hz : OpZ X W cl r g) (ha : ZC X W cl a za) (hb : ZC X W cl b zb) (hm : behindInMarks co b = false) : ZT X W cl (.Compare a [co] [b] pos) (zTst (zOp g za zb)) := by
  obtain ⟨ta, pa, qa⟩ := ha.ex
  obtain ⟨tb, pb, qb⟩ := hb.ex
  exact ⟨_, pt_cmpR ho pa pb hm, fun F ph M env σ H Q h1 h2 S P => op_run hz qa qb h1 h2 S (post_tst P)⟩
/-- a < b < c -/
def zCh (g g' : G2) (za zb zc : ZX) : ZX := fun env M => (za env M).bind fun d M1 => (zb env M1).bind fun e M2 => (g d e M2).bind fun k M3 => match k with
  | .bl true => (zc env M3).bind fun c M4 => g' e c M4
  | .bl false => .ok (.bl false) M3
  | _ => .fail
theorem ch_run {r r' : R2} {g g' : G2} {ta tb tc : TE} (hz : OpZ X W cl r g) (hz' : OpZ X W cl r' g')
    (ha : ∀ F ph M env σ H Q, F.cl = cl → F.K = X.K → Sim F ph M env σ H → PoC F W env σ ph H Q (za env M) → ta σ H Q)
    (hb : ∀ F ph M env σ H Q, F.cl = cl → F.K = X.K → Sim F ph M env σ H → PoC F W env σ ph H Q (zb env M) → tb σ H Q)
    (hc : ∀ F ph M env σ H Q, F.cl = cl → F.K = X.K → Sim F ph M env σ H → PoC F W env σ ph H Q (zc env M) → tc σ H Q)
    {F : Fr} {ph : List Addr} {M : Sto} {env : Ev} {σ : St} {H : Hp} {Q : VK} (h1 : F.cl = cl) (h2 : F.K = X.K) (S : Sim F ph M env σ H) (P : PoE F W env σ ph H Q (zCh g g' za zb zc env M)) : tChain r r' ta tb tc σ H Q := by
  refine ha F ph M env σ H _ h1 h2 S (P.step fun d M1 ph1 H1 x S1 f1 r1 P1 => ?_)
  refine hb F ph1 M1 env σ H1 _ h1 h2 S1 (P1.step fun e M2 ph2 H2 y S2 f2 r2 P2 => ?_)
  refine hz F ph2 M2 env σ H2 _ x y d e h1 h2 S2 (r1.fwd S1 f2) r2 (P2.step fun k M3 ph3 H3 w S3 f3 r3 P3 => ?_)
  cases k with
  | bl b =>
    cases r3
    refine ⟨b, rfl, ?_⟩
    cases b with
    | true =>
      refine iteT (hc F ph3 M3 env σ H3 _ h1 h2 S3 (P3.step fun c M4 ph4 H4 u S4 f4 r4 P4 => ?_))
      exact hz' F ph4 M4 env σ H4 Q y u e c h1 h2 S4 ((r2.fwd S2 f3).fwd S3 f4) r4 P4
    | false => exact iteF (P3.now S3 (.bl false))
  | _ => exact P3.elim
theorem ze_ch {r r' : R2} {g g' : G2} {c : Expr} (ho : OpR X (compareOp co) r) (ho' : OpR X (compareOp co') r') (hz : OpZ X W cl r g) (hz' : OpZ X W cl r' g') (ha : ZC X W cl a za) (hb : ZC X W cl b zb) (hc : ZC X W cl c zc)
    (h1 : co ≠ .In ∧ co ≠ .NotIn ∧ co' ≠ .In ∧ co' ≠ .NotIn := by decide) : ZE X W cl (.Compare a [co, co'] [b, c] pos) (zCh g g' za zb zc) := by
  obtain ⟨ta, pa, qa⟩ := ha.ex
  obtain ⟨tb, pb, qb⟩ := hb.ex
  obtain ⟨tc, pc, qc⟩ := hc.ex
  exact ⟨_, pe_chain ho ho' pa pb pc (nobehind _ h1.2.2.1 h1.2.2.2), fun F ph M env σ H Q h1 h2 S P => ch_run hz hz' qa qb qc h1 h2 S P⟩
theorem zt_ch {r r' : R2} {g g' : G2} {c : Expr} (ho : OpR X (compareOp co) r) (ho' : OpR X (compareOp co') r') (hz : OpZ X W cl r g) (hz' : OpZ X W cl r' g') (ha : ZC X W cl a za) (hb : ZC X W cl b zb) (hc : ZC X W cl c zc)
    (h1 : co ≠ .In ∧ co ≠ .NotIn ∧ co' ≠ .In ∧ co' ≠ .NotIn := by decide) : ZT X W cl (.Compare a [co, co'] [b, c] pos) (zTst (zCh g g' za zb zc)) := by
  obtain ⟨ta, pa, qa⟩ := ha.ex
  obtain ⟨tb, pb, qb⟩ := hb.ex
  obtain ⟨tc, pc, qc⟩ := hc.ex
  exact ⟨_, pt_chain ho ho' pa pb pc (nobehind _ h1.2.2.1 h1.2.2.2), fun F ph M env σ H Q h1 h2 S P => ch_run hz hz' qa qb qc h1 h2 S (post_tst P)⟩
/-- and, or, not as tests -/
structure ZW (X : Cx) (W : WX) (cl : String → Option Addr) (e : Expr) (z : ZB) : Prop where
  ex : ∃ t, PW X e t ∧ ∀ F ph M env σ H Q, F.cl = cl → F.K = X.K → Sim F ph M env σ H → PoT F W env σ ph H Q (z env M) → t σ H Q
def zAnd (z y : ZB) : ZB := fun env M => (z env M).bind fun b M1 => if b = true then y env M1 else .ok false M1
def zOr (z y : ZB) : ZB := fun env M => (z env M).bind fun b M1 => if b = true then .ok true M1 else y env M1
def zNot (z : ZB) : ZB := fun env M => (z env M).bind fun b M1 => .ok (!b) M1
variable {y y' : ZB} {rest : List Expr}
theorem ZW.toT (h : ZW X W cl e y) : ZT X W cl e y := by
  obtain ⟨t, p, q⟩ := h.ex
  exact ⟨t, p.pt, q⟩
theorem zw_and1 (h : ZT X W cl a y) : ZW X W cl (.BoolOp .And [a] pos) y := by
  obtain ⟨t, p, q⟩ := h.ex
  exact ⟨t, pw_and1 p, q⟩
theorem zw_or1 (h : ZT X W cl a y) : ZW X W cl (.BoolOp .Or [a] pos) y := by
  obtain ⟨t, p, q⟩ := h.ex
  exact ⟨t, pw_or1 p, q⟩
theorem zw_and (h : ZT X W cl a y) (h' : ZW X W cl (.BoolOp .And (b :: rest) pos) y') : ZW X W cl (.BoolOp .And (a :: b :: rest) pos) (zAnd y y') := by
  obtain ⟨t, p, q⟩ := h.ex
  obtain ⟨t', p', q'⟩ := h'.ex
  refine ⟨_, pw_and p p', fun F ph M env σ H Q h1 h2 S P => q F ph M env σ H _ h1 h2 S (P.step fun k M1 ph1 H1 w S1 f1 r1 P1 => ?_)⟩
  cases (show w = k from r1)
  cases k with
  | true => exact iteT (q' F ph1 M1 env σ H1 Q h1 h2 S1 P1)
  | false => exact iteF (P1.now S1 rfl)
theorem zw_or (h : ZT X W cl a y) (h' : ZW X W cl (.BoolOp .Or (b :: rest) pos) y') : ZW X W cl (.BoolOp .Or (a :: b :: rest) pos) (zOr y y') := by
  obtain ⟨t, p, q⟩ := h.ex
  obtain ⟨t', p', q'⟩ := h'.ex
  refine ⟨_, pw_or p p', fun F ph M env σ H Q h1 h2 S P => q F ph M env σ H _ h1 h2 S (P.step fun k M1 ph1 H1 w S1 f1 r1 P1 => ?_)⟩
  cases (show w = k from r1)
  cases k with
  | true => exact iteT (P1.now S1 rfl)
  | false => exact iteF (q' F ph1 M1 env σ H1 Q h1 h2 S1 P1)
theorem zt_not (h : ZT X W cl a y) : ZT X W cl (.UnaryOp .Not a pos) (zNot y) := by
  obtain ⟨t, p, q⟩ := h.ex
  refine ⟨_, pt_not p, fun F ph M env σ H Q h1 h2 S P => q F ph M env σ H _ h1 h2 S (P.step fun k M1 ph1 H1 w S1 f1 r1 P1 => ?_)⟩
  cases (show w = k from r1)
  exact P1.now S1 rfl
/-- .. as values (bools) -/
def zAndV (z y : ZX) : ZX := fun env M => (z env M).bind fun d M1 => match d with
  | .bl true => y env M1
  | .bl false => .ok (.bl false) M1
  | _ => .fail
def zOrV (z y : ZX) : ZX := fun env M => (z env M).bind fun d M1 => match d with
  | .bl false => y env M1
  | .bl true => .ok (.bl true) M1
  | _ => .fail
def zNotV (z : ZX) : ZX := fun env M => (z env M).bind fun d M1 => match d with
  | .bl b => .ok (.bl (!b)) M1
  | _ => .fail
theorem ze_one {bo : BoolOp} (h : ZE X W cl a z) : ZE X W cl (.BoolOp bo [a] pos) z := by
  obtain ⟨t, p, q⟩ := h.ex
  exact ⟨t, pe_one p, q⟩
theorem ze_and (h : ZE X W cl a z) (h' : ZE X W cl (.BoolOp .And (b :: rest) pos) zb) : ZE X W cl (.BoolOp .And (a :: b :: rest) pos) (zAndV z zb) := by
  obtain ⟨t, p, q⟩ := h.ex
  obtain ⟨t', p', q'⟩ := h'.ex
  refine ⟨_, pe_and p p', fun F ph M env σ H Q h1 h2 S P => q F ph M env σ H _ h1 h2 S (P.step fun k M1 ph1 H1 w S1 f1 r1 P1 => ?_)⟩
  cases k with
  | bl c =>
    cases r1
    refine ⟨c, rfl, ?_⟩
    cases c with
    | true => exact iteT (q' F ph1 M1 env σ H1 Q h1 h2 S1 P1)
    | false => exact iteF (P1.now S1 (.bl false))
  | _ => exact P1.elim
theorem ze_or (h : ZE X W cl a z) (h' : ZE X W cl (.BoolOp .Or (b :: rest) pos) zb) : ZE X W cl (.BoolOp .Or (a :: b :: rest) pos) (zOrV z zb) := by
  obtain ⟨t, p, q⟩ := h.ex
  obtain ⟨t', p', q'⟩ := h'.ex
  refine ⟨_, pe_or p p', fun F ph M env σ H Q h1 h2 S P => q F ph M env σ H _ h1 h2 S (P.step fun k M1 ph1 H1 w S1 f1 r1 P1 => ?_)⟩
  cases k with
  | bl c =>
    cases r1
    refine ⟨c, rfl, ?_⟩
    cases c with
    | true => exact iteT (P1.now S1 (.bl true))
    | false => exact iteF (q' F ph1 M1 env σ H1 Q h1 h2 S1 P1)
  | _ => exact P1.elim
theorem ze_not (h : ZE X W cl a z) : ZE X W cl (.UnaryOp .Not a pos) (zNotV z) := by
  obtain ⟨t, p, q⟩ := h.ex
  refine ⟨_, pe_not p, fun F ph M env σ H Q h1 h2 S P => q F ph M env σ H _ h1 h2 S (P.step fun k M1 ph1 H1 w S1 f1 r1 P1 => ?_)⟩
  cases k with
  | bl c =>
    cases r1
    exact ⟨c, rfl, P1.now S1 (.bl _)⟩
  | _ => exact P1.elim
/-- any value as a test -/
def truD : D → Option Bool
  | .non => some false
  | .bl b => some b
  | .int i => some (i != 0)
  | .str s => if s.length ≤ sizeLine then some ((s.length : Int) != 0) else none
  | .tup ds => some (!ds.isEmpty)
  | .lst ds => some (!ds.isEmpty)
  | .dK ds => some (!ds.isEmpty)
  | _ => none
def zTru (z : ZX) : ZB := fun env M => (z env M).bind fun d M1 => match (deref M1 d).bind truD with
  | some b => .ok b M1
  | none => .fail
theorem empty_len {α β : Type} {xs : List α} {ds : List β} (h : xs.length = ds.length) : (!xs.isEmpty) = (!ds.isEmpty) := by
  cases xs <;> cases ds <;> simp_all
theorem zt_tru (h : ZC X W cl a z) (he : ∀ whole, isTrue a X.env whole = (do let v ← whole; standAt a.pos; holding [v] (truthy v)) := by intro _; rfl) : ZT X W cl a (zTru z) := by
  obtain ⟨t, p, q⟩ := h.ex
  refine ⟨_, pt_truth p he, fun F ph M env σ H Q h1 h2 S P => q F ph M env σ H _ h1 h2 S (P.step fun d M1 ph1 H1 w S1 f1 r1 P1 => ?_)⟩
  cases e : deref M1 d with
  | none => rw [e] at P1; exact P1.elim
  | some c =>
    rw [e] at P1
    have L := r1.look S1 e
    cases e2 : truD c with
    | none => simp only [Option.bind_some, e2] at P1; exact P1.elim
    | some b =>
      simp only [Option.bind_some, e2] at P1
      refine ⟨b, ?_, P1.now S1 rfl⟩
      cases c with
      | non => cases L.non_inv; cases e2; rfl
      | bl x => cases L.bl_inv; cases e2; rfl
      | int i => cases L.int_inv; cases e2; rfl
      | str s =>
        cases L.str_inv
        by_cases hl : s.length ≤ sizeLine
        · have e3 : some ((s.length : Int) != 0) = some b := by rw [← e2]; simp [truD, hl]
          cases e3
          exact ⟨hl, rfl⟩
        · simp [truD, hl] at e2
      | tup ds => obtain ⟨p, xs, rfl, hp, r⟩ := L.tup_inv; cases e2; exact .inr (.inl ⟨xs, SqT.of hp, (empty_len r.length).symm⟩)
      | lst ds => obtain ⟨p, xs, rfl, hp, r⟩ := L.lst_inv; cases e2; exact .inl ⟨xs, SqL.of hp, (empty_len r.length).symm⟩
      | dK ds => obtain ⟨p, xs, rfl, hp, r⟩ := L.dK_inv; cases e2; exact .inr (.inr ⟨xs, hp, (empty_len r.length).symm⟩)
      | dT ds => cases e2
      | ins c fs => cases e2
      | ref i => cases e2
      | scr ns => cases e2
/-- a if t else b -/
def zIf (t : ZB) (za zb : ZX) : ZX := fun env M => (t env M).bind fun b M1 => if b = true then za env M1 else zb env M1
theorem ze_if {c : Expr} (hc : ZT X W cl c y) (ha : ZE X W cl a za) (hb : ZE X W cl b zb) : ZE X W cl (.IfExp c a b pos) (zIf y za zb) := by
  obtain ⟨t, p, q⟩ := hc.ex
  obtain ⟨ta, pa, qa⟩ := ha.ex
  obtain ⟨tb, pb, qb⟩ := hb.ex
  refine ⟨_, pe_ifExp p pa pb, fun F ph M env σ H Q h1 h2 S P => q F ph M env σ H _ h1 h2 S (P.step fun k M1 ph1 H1 w S1 f1 r1 P1 => ?_)⟩
  cases (show w = k from r1)
  cases k with
  | true => exact iteT (qa F ph1 M1 env σ H1 Q h1 h2 S1 P1)
  | false => exact iteF (qb F ph1 M1 env σ H1 Q h1 h2 S1 P1)

/-! arguments -/
def zNil : ZL := fun _ M => .ok [] M
def zCons (z : ZX) (l : ZL) : ZL := fun env M => (z env M).bind fun d M1 => (l env M1).bind fun ds M2 => .ok (d :: ds) M2
def nostar : Expr → Bool
  | .Starred .. => false
  | _ => true
theorem star_ok {e : Expr} {es : List Expr} {env : Env} (h : nostar e = true) : starEach (e :: es) env = (false, eval e env) :: starEach es env := by
  cases e <;> first | rfl | cases h
theorem za_nil : ZA X W cl [] zNil := ⟨_, pa_nil, fun F ph M env σ H Q _ _ S P => P.now S .nil⟩
theorem za_cons (h : ZE X W cl e z) (t : ZA X W cl es zs) (n : nostar e = true := by rfl) : ZA X W cl (e :: es) (zCons z zs) := by
  obtain ⟨te, pe, qe⟩ := h.ex
  obtain ⟨ts, ps, qs⟩ := t.ex
  refine ⟨_, pa_cons pe ps (star_ok n), fun F ph M env σ H Q h1 h2 S P => qe F ph M env σ H _ h1 h2 S (P.step fun d M1 ph1 H1 w S1 f1 r1 P1 => ?_)⟩
  refine qs F ph1 M1 env σ H1 _ h1 h2 S1 (P1.step fun ds M2 ph2 H2 ws S2 f2 r2 P2 => ?_)
  exact P2.now S2 (.cons (r1.mo (f2.mo S1)) r2)
theorem zk_nil : ZK X W cl [] zNil := ⟨_, pa_nil, fun F ph M env σ H Q _ _ S P => P.now S .nil⟩
theorem zk_cons (h : ZC X W cl e z) (t : ZK X W cl es zs) (n : nostar e = true := by rfl) : ZK X W cl (e :: es) (zCons z zs) := by
  obtain ⟨te, pe, qe⟩ := h.ex
  obtain ⟨ts, ps, qs⟩ := t.ex
  refine ⟨_, pa_cons pe ps (star_ok n), fun F ph M env σ H Q h1 h2 S P => qe F ph M env σ H _ h1 h2 S (P.step fun d M1 ph1 H1 w S1 f1 r1 P1 => ?_)⟩
  refine qs F ph1 M1 env σ H1 _ h1 h2 S1 (P1.step fun ds M2 ph2 H2 ws S2 f2 r2 P2 => ?_)
  exact P2.now S2 (.cons (r1.fwd S1 f2) r2)

/-! what is new -/
def Fr.plus (F : Fr) (a : Addr) : Fr := { F with N0 := fun b => F.N0 b ∨ b = a }
def PoF (F : Fr) (W : WX) (env : Ev) (σ : St) (ph : List Addr) (H : Hp) (Q : VK) : Res D → Prop
  | .ok d M' => ∀ ph' H' a, Sim (F.plus a) ph' M' env σ H' → Fwd ph H ph' H' → Cel (gh (F.plus a) ph' env σ) H' a d → H a = none → Q (.ref a) H'
  | .exc c fs M' => ∀ ph' H' dx f C, Sim F ph' M' env σ H' → Fwd ph H ph' H' → F.cl c = some C → H' dx = some (.xd f) → RepP (gh F ph' env σ) H' Str f fs → W (.ref C) (some dx) σ H'
  | .fail => False
structure ZF (X : Cx) (W : WX) (cl : String → Option Addr) (e : Expr) (z : ZX) : Prop where
  ex : ∃ t, PE X e t ∧ ∀ F ph M env σ H Q, F.cl = cl → F.K = X.K → Sim F ph M env σ H → PoF F W env σ ph H Q (z env M) → t σ H Q
theorem Sim.unplus {F : Fr} {ph : List Addr} {M : Sto} {env : Ev} {σ : St} {H : Hp} {p : Addr} (S : Sim (F.plus p) ph M env σ H) (hp : F.H0 p = none) : Sim F ph M env σ H ∧ Mo (gh (F.plus p) ph env σ) (gh F ph env σ) H H := by
  have m : Mo (gh (F.plus p) ph env σ) (gh F ph env σ) H H := ⟨fun a o h n => ⟨h, fun z => n (by
    rcases z with z | z
    · rcases z with z | z
      · exact .inl (.inl (.inl z))
      · exact .inl (.inr z)
    · exact .inr z)⟩, fun _ _ h => h, rfl, rfl⟩
  refine ⟨⟨S.len, S.pre, S.keep, fun a z => S.n0 a (.inl z), S.ml, S.nd, fun i d e => ?_, fun i d e => ?_, fun i d e => ?_, S.ap, fun i d e => ?_⟩, m⟩
  · obtain ⟨a, q, c⟩ := S.sto i d e
    exact ⟨a, q, c.mo m fun _ h => h⟩
  · obtain ⟨v, q, r⟩ := S.val i d e
    exact ⟨v, q, r.mo m⟩
  · obtain ⟨a, q, c, h0, n, k⟩ := S.own i d e
    exact ⟨a, q, c.mo m fun _ h => h, h0, n, fun z => k (.inl z)⟩
  · obtain ⟨a, q, n, c, o, ho⟩ := S.brw i d e
    rcases n with n | n
    · exact ⟨a, q, n, c.mo m fun _ h => h, o, ho⟩
    · have n' : a = p := n
      have ho' : F.H0 a = some o := ho
      rw [n', hp] at ho'
      cases ho'
/-- what is new may be frozen -/
theorem ZF.toE (h : ZF X W cl e z) : ZE X W cl e z := by
  obtain ⟨t, p, q⟩ := h.ex
  refine ⟨t, p, fun F ph M env σ H Q h1 h2 S P => q F ph M env σ H Q h1 h2 S ?_⟩
  cases hz : z env M with
  | fail => rw [hz] at P; exact P
  | exc c fs M' => rw [hz] at P; exact P
  | ok d M' =>
    rw [hz] at P
    intro ph' H' a S' f c hn
    obtain ⟨S1, m⟩ := S'.unplus (S.h0 hn)
    refine P ph' H' (.ref a) S1 f (c.rep m fun z => ?_)
    have na : ∀ o, H a ≠ some o := fun o e => by rw [hn] at e; cases e
    rcases z with z | z
    · rcases z with z | ⟨i, d', e1, e2⟩
      · obtain ⟨⟨o, e⟩, _⟩ := S.n0 a z
        exact na o e
      · obtain ⟨b, e3, c3, _⟩ := S.own i d' e1
        rw [e2] at e3
        cases e3
        obtain ⟨o, e⟩ := c3.there
        exact na o e
    · exact (S'.n0 a (.inr rfl)).2 z
/-- a new cell laid -/
theorem Sim.lay {F : Fr} {ph : List Addr} {M : Sto} {env : Ev} {σ : St} {H : Hp} {p : Addr} {o : HO} (S : Sim F ph M env σ H) (h : H p = none) : Sim (F.plus p) ph M env σ (upd H p o) ∧ Mo (gh F ph env σ) (gh (F.plus p) ph env σ) H (upd H p o) := by
  have k : ∀ (a : Addr) u, H a = some u → upd H p o a = some u := fun a u e => by rw [upd_ne (ne_of_none e h)]; exact e
  have m : Mo (gh F ph env σ) (gh (F.plus p) ph env σ) H (upd H p o) := ⟨fun a u e n => ⟨k a u e, fun z => n (by
    rcases z with z | z
    · rcases z with (z | z) | z
      · exact .inl (.inl z)
      · exact absurd z (ne_of_none e h)
      · exact .inl (.inr z)
    · exact .inr z)⟩, fun _ _ e => e, rfl, rfl⟩
  have hp : p ∉ ph := fun z => by
    obtain ⟨u, e⟩ := S.phIn z
    rw [h] at e
    cases e
  refine ⟨⟨S.len, S.pre, fun a u e n => k a u (S.keep a u e n), fun a z => ?_, S.ml, S.nd, fun i d e => ?_, fun i d e => ?_, fun i d e => ?_, S.ap, fun i d e => ?_⟩, m⟩
  · rcases z with z | z
    · obtain ⟨⟨u, q⟩, n⟩ := S.n0 a z
      exact ⟨⟨u, k a u q⟩, n⟩
    · have z' : a = p := z
      subst z'
      exact ⟨⟨o, upd_same⟩, hp⟩
  · obtain ⟨a, q, c⟩ := S.sto i d e
    exact ⟨a, q, c.mo m (k a)⟩
  · obtain ⟨v, q, r⟩ := S.val i d e
    exact ⟨v, q, r.mo m⟩
  · obtain ⟨a, q, c, h0, n, nn⟩ := S.own i d e
    refine ⟨a, q, c.mo m (k a), h0, n, fun z => ?_⟩
    rcases z with z | z
    · exact nn z
    · obtain ⟨u, hu⟩ := c.there
      exact absurd z (ne_of_none hu h)
  · obtain ⟨a, q, n, c, ho⟩ := S.brw i d e
    exact ⟨a, q, .inl n, c.mo m (k a), ho⟩
/-- a new tuple -/
theorem Post.newTup {F : Fr} {env : Ev} {σ : St} {ph : List Addr} {M : Sto} {H : Hp} {Q : VK} {ds : List D} {xs : List V} {p : Addr} (P : PoE F W env σ ph H Q (.ok (.tup ds) M)) (S : Sim F ph M env σ H) (r : RepL (gh F ph env σ) H xs ds) (hp : H p = none) :
    Q (.ref p) (upd H p (.tup xs)) :=
  P ph _ _ (S.alloc hp) (Fwd.alloc hp) (.tup upd_same (S.fresh hp) (r.mo ((Fwd.alloc hp).mo S)))
theorem Post.newLst {F : Fr} {env : Ev} {σ : St} {ph : List Addr} {M : Sto} {H : Hp} {Q : VK} {ds : List D} {xs : List V} {p : Addr} (P : PoE F W env σ ph H Q (.ok (.lst ds) M)) (S : Sim F ph M env σ H) (r : RepL (gh F ph env σ) H xs ds) (hp : H p = none) :
    Q (.ref p) (upd H p (.lst xs)) :=
  P ph _ _ (S.alloc hp) (Fwd.alloc hp) (.lst upd_same (S.fresh hp) (r.mo ((Fwd.alloc hp).mo S)))
def zTup (l : ZL) : ZX := fun env M => (l env M).bind fun ds M1 => if ds.length ≤ sizeLine then .ok (.tup ds) M1 else .fail
def zLst (l : ZL) : ZX := fun env M => (l env M).bind fun ds M1 => if ds.length ≤ sizeLine then .ok (.lst ds) M1 else .fail
theorem ze_tup {k : Nat} (h : ZA X W cl es zs) : ZE X W cl (.Tuple es k pos) (zTup zs) := by
  obtain ⟨t, p, q⟩ := h.ex
  refine ⟨_, pe_tup p, fun F ph M env σ H Q h1 h2 S P => q F ph M env σ H _ h1 h2 S (P.step fun ds M1 ph1 H1 xs S1 f1 r1 P1 => ?_)⟩
  split at P1
  · rename_i hl
    exact ⟨by rw [r1.length]; exact hl, fun p hp => P1.newTup S1 r1 hp⟩
  · exact P1.elim
theorem zf_lst (h : ZA X W cl es zs) : ZF X W cl (.List es pos) (zLst zs) := by
  obtain ⟨t, p, q⟩ := h.ex
  refine ⟨_, pe_lst p, fun F ph M env σ H Q h1 h2 S P => q F ph M env σ H _ h1 h2 S ?_⟩
  unfold zLst at P
  cases hz : zs env M with
  | fail => rw [hz] at P; exact P
  | exc c fs M' => rw [hz] at P; exact P
  | ok ds M1 =>
    rw [hz] at P
    simp only [Res.bind_ok] at P
    intro ph1 H1 xs S1 f1 r1
    split at P
    · rename_i hl
      refine ⟨by rw [r1.length]; exact hl, fun p hp => ?_⟩
      obtain ⟨S2, m⟩ := S1.lay (o := .lst xs) hp
      exact P ph1 _ p S2 (f1.trans (Fwd.alloc hp)) (.lst upd_same (r1.mo m)) (f1.back hp)
    · exact P.elim
end
end Zy
set_option maxHeartbeats 2000000
namespace Zy
open PySem PySem.Spec PyProof.Rows L2

/-! arithmetic by values -/
def gAdd : G2 := fun d e M => match deref M d, deref M e with
  | some (.int i), some (.int j) => .ok (.int (i + j)) M
  | some (.str a), some (.str b) => if a.length + b.length ≤ sizeLine then .ok (.str (a ++ b)) M else .fail
  | some (.tup a), some (.tup b) => if a.length + b.length ≤ sizeLine then .ok (.tup (a ++ b)) M else .fail
  | some (.lst a), some (.lst b) => if a.length + b.length ≤ sizeLine then .ok (.lst (a ++ b)) M else .fail
  | _, _ => .fail
def gSub : G2 := fun d e M => match deref M d, deref M e with
  | some (.int i), some (.int j) => .ok (.int (i - j)) M
  | _, _ => .fail
def smallI (i : Int) : Prop := -(2 ^ 64) < i ∧ i < 2 ^ 64
instance (i : Int) : Decidable (smallI i) := inferInstanceAs (Decidable (_ ∧ _))
def gMul : G2 := fun d e M => match deref M d, deref M e with
  | some (.int i), some (.int j) => if smallI i ∨ smallI j then .ok (.int (i * j)) M else .fail
  | some (.lst a), some (.int k) => if -(2 ^ 63) ≤ k ∧ k < 2 ^ 63 ∧ a.length * k.toNat ≤ sizeLine then .ok (.lst (List.replicate k.toNat a).flatten) M else .fail
  | some (.tup a), some (.int k) => if k = 1 then .ok (.tup a) M else if a ≠ [] ∧ 2 ≤ k ∧ k ≤ 1000 ∧ a.length ≤ 1000 then .ok (.tup (List.replicate k.toNat a).flatten) M else .fail
  | _, _ => .fail
def gFdiv : G2 := fun d e M => match deref M d, deref M e with
  | some (.int i), some (.int j) => if 0 < j ∧ j.natAbs.log2 < 9000 then .ok (.int (i / j)) M else .fail
  | _, _ => .fail
def gMod : G2 := fun d e M => match deref M d, deref M e with
  | some (.int i), some (.int j) => if 0 < j then .ok (.int (i % j)) M else .fail
  | _, _ => .fail
def gPow : G2 := fun d e M => match deref M d, deref M e with
  | some (.int i), some (.int j) => if 0 ≤ j ∧ j ≤ 1000000 ∧ i.natAbs < 2 ^ 64 then .ok (.int (i ^ j.toNat)) M else .fail
  | _, _ => .fail
def gCmpI (p : Int → Int → Bool) : G2 := fun d e M => match deref M d, deref M e with
  | some (.int i), some (.int j) => .ok (.bl (p i j)) M
  | _, _ => .fail
abbrev gLt : G2 := gCmpI fun i j => decide (i < j)
abbrev gLe : G2 := gCmpI fun i j => decide (i ≤ j)
abbrev gGt : G2 := gCmpI fun i j => decide (j < i)
abbrev gGe : G2 := gCmpI fun i j => decide (j ≤ i)

theorem tuple_mul1 (l : Addr) (items : Array Value) (n : Nat) (dd : Option Addr) (sl : Array (Option Value)) (u : Tok) :
    Meets (Builtin.«tuple.__mul__» ⟨[.ref l, .int 1 u], []⟩) (fun _ R s => s.heap.get? l = some { cls := .type "tuple", dict := dd, data := .seq items n, slots := sl } ∧ R (.ok (.ret (Value.ref l))) s) :=
  .of_wp fun prog w A R s h => by
    obtain ⟨hp, g, d, tk, os⟩ := s
    obtain ⟨hl, h⟩ := h
    have f1 := AutoSeq1.idx_int
    wp_walk using wpAny_loadPart' hl
    all_goals (try (refine wpAny_ite_true (by simp) ?_; wp_walk using wpAny_loadPart' hl))
    exact ⟨_, rfl, h⟩
section
variable {X : Cx} {W : WX} {cl : String → Option Addr}
def rMulT (K : PySem.W.Frag) : R2 := fun x y H Q => ∃ a xs, x = .ref a ∧ y = .int 1 ∧ SqT K H a xs ∧ Q x H
theorem op_mulT1 : OpR X (binaryOp .Mult) (rMulT X.K) := by
  intro pins s σ H x y v u Q I rx ry h
  obtain ⟨l, xs, rfl, rfl, hT, q⟩ := h
  obtain rfl : v = .ref l := rx
  obtain ⟨t, rfl⟩ := ry
  obtain ⟨its, r, ⟨⟨cls, dd, data, sl⟩, ho, hc, n, hd⟩, _⟩ := I.tuple hT
  simp only at hc hd
  subst hc hd
  have ty : s.TypeIs (.ref l) "tuple" := ⟨_, ho, rfl⟩
  refine wpAny_binaryOp_repeat_ref (by decide) ty (fun s' => typeIs_int s' 1 t) noFill_tuple_mul F.fills_int_mul F.slot_int_rmul repeat_tuple F.slot_int_index.lookup ?_
  refine call_meets F.slot_int_rmul (typeIs_int s 1 t) F.entry_int_rmul (F.args_int_rmul_2 _ _) (int_rmul_tuple 1 t l its.toArray n dd sl) ⟨ho, rfl, ty, ?_⟩
  exact call_meets F.slot_tuple_mul ty F.entry_tuple_mul (F.args_tuple_mul_2 _ _) (tuple_mul1 l its.toArray n dd sl t) ⟨ho, ⟨.ref l, H, I, rfl, q⟩⟩
theorem RlC.tupRep {F : Fr} {ph : List Addr} {M : Sto} {env : Ev} {σ : St} {H : Hp} {v : V} {d : D} {ds : List D} (S : Sim F ph M env σ H) (r : RlC (gh F ph env σ) H v d) (e : deref M d = some (.tup ds)) : Rep (gh F ph env σ) H v (.tup ds) := by
  rcases r with r | ⟨p, rfl, r, n, _⟩
  · cases r with
    | tup h n r => cases e; exact .tup h n r
    | ref h =>
      obtain ⟨b, e4, q⟩ := S.sto _ _ e
      cases q
    | _ => cases e
  · cases r <;> cases e
theorem oz_int {g : G2} {C : Int → Int → Prop} {f : Int → Int → D} {fv : Int → Int → V} (hf : ∀ G H i j, Rep G H (fv i j) (f i j))
    (hg : ∀ d e M r, g d e M = r → r = .fail ∨ (∃ i j, deref M d = some (.int i) ∧ deref M e = some (.int j) ∧ C i j ∧ r = .ok (f i j) M)) : OpZ X W cl (rI C fv) g := by
  intro F ph M env σ H Q x y d e h1 h2 S rx ry P
  rcases hg d e M _ rfl with h | ⟨i, j, e1, e2, c, h⟩
  · rw [h] at P; exact P.elim
  · rw [h] at P
    have l1 := (rx.look S e1).int_inv
    have l2 := (ry.look S e2).int_inv
    exact ⟨i, j, l1, l2, c, P.now S (hf _ _ i j)⟩
theorem oz_int0 {g : G2} {f : Int → Int → D} {fv : Int → Int → V} (hf : ∀ G H i j, Rep G H (fv i j) (f i j))
    (hg : ∀ d e M r, g d e M = r → r = .fail ∨ (∃ i j, deref M d = some (.int i) ∧ deref M e = some (.int j) ∧ r = .ok (f i j) M)) : OpZ X W cl (rI0 fv) g := by
  intro F ph M env σ H Q x y d e h1 h2 S rx ry P
  rcases hg d e M _ rfl with h | ⟨i, j, e1, e2, h⟩
  · rw [h] at P; exact P.elim
  · rw [h] at P
    have l1 := (rx.look S e1).int_inv
    have l2 := (ry.look S e2).int_inv
    exact ⟨i, j, l1, l2, P.now S (hf _ _ i j)⟩
theorem oz_sub : OpZ X W cl (rI0 fun i j => .int (i - j)) gSub := oz_int0 (f := fun i j => .int (i - j)) (fun _ _ _ _ => .int _) fun d e M r h => by
  unfold gSub at h
  split at h
  · rename_i i j e1 e2; exact .inr ⟨i, j, e1, e2, h.symm⟩
  · exact .inl h.symm
theorem oz_fdiv : OpZ X W cl (rI CDivW fun i j => .int (i / j)) gFdiv := oz_int (f := fun i j => .int (i / j)) (fun _ _ _ _ => .int _) fun d e M r h => by
  unfold gFdiv at h
  split at h
  · rename_i i j e1 e2
    split at h
    · rename_i c; exact .inr ⟨i, j, e1, e2, c, h.symm⟩
    · exact .inl h.symm
  · exact .inl h.symm
theorem oz_mod : OpZ X W cl (rI (fun _ j => 0 < j) fun i j => .int (i % j)) gMod := oz_int (f := fun i j => .int (i % j)) (fun _ _ _ _ => .int _) fun d e M r h => by
  unfold gMod at h
  split at h
  · rename_i i j e1 e2
    split at h
    · rename_i c; exact .inr ⟨i, j, e1, e2, c, h.symm⟩
    · exact .inl h.symm
  · exact .inl h.symm
theorem oz_pow : OpZ X W cl (rI CPow fun i j => .int (i ^ j.toNat)) gPow := oz_int (f := fun i j => .int (i ^ j.toNat)) (fun _ _ _ _ => .int _) fun d e M r h => by
  unfold gPow at h
  split at h
  · rename_i i j e1 e2
    split at h
    · rename_i c; exact .inr ⟨i, j, e1, e2, c, h.symm⟩
    · exact .inl h.symm
  · exact .inl h.symm
theorem oz_cmp {p : Int → Int → Bool} : OpZ X W cl (rI0 fun i j => .bl (p i j)) (gCmpI p) := oz_int0 (f := fun i j => .bl (p i j)) (fun _ _ _ _ => .bl _) fun d e M r h => by
  unfold gCmpI at h
  split at h
  · rename_i i j e1 e2; exact .inr ⟨i, j, e1, e2, h.symm⟩
  · exact .inl h.symm
theorem oz_add : OpZ X W cl (fun x y H Q => rI0 (fun i j => .int (i + j)) x y H Q ∨ ((∃ i j, x = .str i ∧ y = .str j ∧ i.length + j.length ≤ sizeLine ∧ Q (.str (i ++ j)) H) ∨ (rCatA X.K x y H Q ∨ rCat x y H Q))) gAdd := by
  intro F ph M env σ H Q x y d e h1 h2 S rx ry P
  unfold gAdd at P
  split at P
  · rename_i i j e1 e2
    exact .inl ⟨i, j, (rx.look S e1).int_inv, (ry.look S e2).int_inv, P.now S (.int _)⟩
  · rename_i i j e1 e2
    split at P
    · rename_i c; exact .inr (.inl ⟨i, j, (rx.look S e1).str_inv, (ry.look S e2).str_inv, c, P.now S (.str _)⟩)
    · exact P.elim
  · rename_i i j e1 e2
    split at P
    · rename_i c
      obtain ⟨a, xs, rfl, ha, ra⟩ := (rx.look S e1).tup_inv
      obtain ⟨b, ys, rfl, hb, rb⟩ := (ry.look S e2).tup_inv
      refine .inr (.inr (.inl ⟨a, b, xs, ys, rfl, rfl, SqT.of ha, SqT.of hb, by rw [ra.length, rb.length]; exact c, fun z => ?_, fun _ z => ?_, fun _ _ p hp => P.newTup S (ra.app rb) hp⟩))
      · subst z
        cases ra
        exact P.now S (ry.tupRep S e2)
      · subst z
        cases rb
        refine P.now S ?_
        rw [List.append_nil]
        exact rx.tupRep S e1
    · exact P.elim
  · rename_i i j e1 e2
    split at P
    · rename_i c
      obtain ⟨a, xs, rfl, ha, ra⟩ := (rx.look S e1).lst_inv
      obtain ⟨b, ys, rfl, hb, rb⟩ := (ry.look S e2).lst_inv
      exact .inr (.inr (.inr ⟨a, b, xs, ys, rfl, rfl, ha, hb, by rw [ra.length, rb.length]; exact c, fun p hp => P.newLst S (ra.app rb) hp⟩))
    · exact P.elim
  · exact P.elim
theorem repL_rep {G : Gh} {H : Hp} {xs : List V} {ds : List D} (r : RepL G H xs ds) : ∀ n : Nat, RepL G H (List.replicate n xs).flatten (List.replicate n ds).flatten
  | 0 => .nil
  | n + 1 => by
    rw [List.replicate_succ, List.replicate_succ, List.flatten_cons, List.flatten_cons]
    exact r.app (repL_rep r n)
theorem oz_mul : OpZ X W cl (fun x y H Q => rI CMul (fun i j => .int (i * j)) x y H Q ∨ (rRep x y H Q ∨ (rMulT X.K x y H Q ∨ rRepT X.K x y H Q))) gMul := by
  intro F ph M env σ H Q x y d e h1 h2 S rx ry P
  unfold gMul at P
  split at P
  · rename_i i j e1 e2
    split at P
    · rename_i c
      exact .inl ⟨i, j, (rx.look S e1).int_inv, (ry.look S e2).int_inv, c, P.now S (.int _)⟩
    · exact P.elim
  · rename_i i k e1 e2
    obtain ⟨a, xs, rfl, ha, ra⟩ := (rx.look S e1).lst_inv
    split at P
    · rename_i c
      exact .inr (.inl ⟨a, k, xs, rfl, (ry.look S e2).int_inv, ha, c.1, c.2.1, by rw [ra.length]; exact c.2.2, fun p hp => P.newLst S (repL_rep ra _) hp⟩)
    · exact P.elim
  · rename_i i k e1 e2
    obtain ⟨a, xs, rfl, ha, ra⟩ := (rx.look S e1).tup_inv
    split at P
    · rename_i c
      subst c
      exact .inr (.inr (.inl ⟨a, xs, rfl, (ry.look S e2).int_inv, SqT.of ha, P.now S (rx.tupRep S e1)⟩))
    · split at P
      · rename_i c
        refine .inr (.inr (.inr ⟨a, k, xs, rfl, (ry.look S e2).int_inv, SqT.of ha, fun z => c.1 ?_, c.2.1, c.2.2.1, by rw [ra.length]; exact c.2.2.2, fun p hp => P.newTup S (repL_rep ra _) hp⟩))
        subst z
        cases ra
        rfl
      · exact P.elim
  · exact P.elim

/-! the operators' rules -/
variable {a b : Expr} {za zb : ZX} {pos : Pos}
theorem ze_add (ha : ZC X W cl a za) (hb : ZC X W cl b zb) : ZE X W cl (.BinOp a .Add b pos) (zOp gAdd za zb) := ze_op (op_add.or (op_add_str.or (op_catA.or op_cat))) oz_add ha hb
theorem ze_sub (ha : ZC X W cl a za) (hb : ZC X W cl b zb) : ZE X W cl (.BinOp a .Sub b pos) (zOp gSub za zb) := ze_op op_sub oz_sub ha hb
theorem ze_mul (ha : ZC X W cl a za) (hb : ZC X W cl b zb) : ZE X W cl (.BinOp a .Mult b pos) (zOp gMul za zb) := ze_op (op_mul.or (op_rep.or (op_mulT1.or op_repT))) oz_mul ha hb
theorem ze_fdiv (ha : ZC X W cl a za) (hb : ZC X W cl b zb) : ZE X W cl (.BinOp a .FloorDiv b pos) (zOp gFdiv za zb) := ze_op op_fdivW oz_fdiv ha hb
theorem ze_mod (ha : ZC X W cl a za) (hb : ZC X W cl b zb) : ZE X W cl (.BinOp a .Mod b pos) (zOp gMod za zb) := ze_op op_mod oz_mod ha hb
theorem ze_pow (ha : ZC X W cl a za) (hb : ZC X W cl b zb) : ZE X W cl (.BinOp a .Pow b pos) (zOp gPow za zb) := ze_op op_pow oz_pow ha hb
def zNeg (z : ZX) : ZX := fun env M => (z env M).bind fun d M1 => match d with
  | .int i => .ok (.int (-i)) M1
  | _ => .fail
theorem ze_neg (ha : ZE X W cl a za) : ZE X W cl (.UnaryOp .USub a pos) (zNeg za) := by
  obtain ⟨t, p, q⟩ := ha.ex
  refine ⟨_, pe_un un_neg p, fun F ph M env σ H Q h1 h2 S P => q F ph M env σ H _ h1 h2 S (P.step fun d M1 ph1 H1 w S1 f1 r1 P1 => ?_)⟩
  cases d with
  | int i => cases r1; exact ⟨i, rfl, P1.now S1 (.int _)⟩
  | _ => exact P1.elim
theorem ze_lt (ha : ZC X W cl a za) (hb : ZC X W cl b zb) : ZE X W cl (.Compare a [.Lt] [b] pos) (zOp gLt za zb) := ze_cmp op_lt oz_cmp ha hb (nobehind _ (by decide) (by decide))
theorem ze_le (ha : ZC X W cl a za) (hb : ZC X W cl b zb) : ZE X W cl (.Compare a [.LtE] [b] pos) (zOp gLe za zb) := ze_cmp op_le oz_cmp ha hb (nobehind _ (by decide) (by decide))
theorem ze_gt (ha : ZC X W cl a za) (hb : ZC X W cl b zb) : ZE X W cl (.Compare a [.Gt] [b] pos) (zOp gGt za zb) := ze_cmp op_gt oz_cmp ha hb (nobehind _ (by decide) (by decide))
theorem ze_ge (ha : ZC X W cl a za) (hb : ZC X W cl b zb) : ZE X W cl (.Compare a [.GtE] [b] pos) (zOp gGe za zb) := ze_cmp op_ge oz_cmp ha hb (nobehind _ (by decide) (by decide))
theorem zt_lt (ha : ZC X W cl a za) (hb : ZC X W cl b zb) : ZT X W cl (.Compare a [.Lt] [b] pos) (zTst (zOp gLt za zb)) := zt_cmp op_lt oz_cmp ha hb (nobehind _ (by decide) (by decide))
theorem zt_le (ha : ZC X W cl a za) (hb : ZC X W cl b zb) : ZT X W cl (.Compare a [.LtE] [b] pos) (zTst (zOp gLe za zb)) := zt_cmp op_le oz_cmp ha hb (nobehind _ (by decide) (by decide))
theorem zt_gt (ha : ZC X W cl a za) (hb : ZC X W cl b zb) : ZT X W cl (.Compare a [.Gt] [b] pos) (zTst (zOp gGt za zb)) := zt_cmp op_gt oz_cmp ha hb (nobehind _ (by decide) (by decide))
theorem zt_ge (ha : ZC X W cl a za) (hb : ZC X W cl b zb) : ZT X W cl (.Compare a [.GtE] [b] pos) (zTst (zOp gGe za zb)) := zt_cmp op_ge oz_cmp ha hb (nobehind _ (by decide) (by decide))
end

/-! equality of data -/
mutual
def toPy : D → Option PyData
  | .non => some .none
  | .bl b => some (.bool b)
  | .int i => some (.int i)
  | .str s => some (.str s)
  | .tup ds => (toPys ds).map .tuple
  | .lst ds => (toPys ds).map .list
  | .scr ns => some (.list (ns.map .int))
  | .dK _ | .dT _ | .ins _ _ | .ref _ => none
def toPys : List D → Option (List PyData)
  | [] => some []
  | d :: ds => match toPy d, toPys ds with
    | some x, some xs => some (x :: xs)
    | _, _ => none
end
mutual
theorem Rep.dp {G : Gh} {H : Hp} : ∀ {d : D} {v : V} {p : PyData}, Rep G H v d → toPy d = some p → Dp G.K H v p
  | .non, _, p, .non, e => by cases e; exact .non
  | .bl b, _, p, .bl _, e => by cases e; exact .bl b
  | .int i, _, p, .int _, e => by cases e; exact .int i
  | .str i, _, p, .str _, e => by cases e; exact .str i
  | .tup ds, _, p, .tup h n r, e => by
    simp only [toPy, Option.map_eq_some_iff] at e
    obtain ⟨xs, e1, rfl⟩ := e
    exact .tup (SqT.of h) (RepL.dp r e1)
  | .lst ds, _, p, .lst h n r, e => by
    simp only [toPy, Option.map_eq_some_iff] at e
    obtain ⟨xs, e1, rfl⟩ := e
    exact .lst (SqL.of h) (RepL.dp r e1)
  | .scr ns, _, p, .scr h n, e => by cases e; exact .lst (.inl (.inr ⟨_, h⟩)) (dp_ints G H ns)
  | .scr ns, _, p, .scrK h, e => by cases e; exact .lst (h H) (dp_ints G H ns)
  | .dK _, _, p, _, e => by cases e
  | .dT _, _, p, _, e => by cases e
  | .ins _ _, _, p, _, e => by cases e
  | .ref _, _, p, _, e => by cases e
theorem RepL.dp {G : Gh} {H : Hp} : ∀ {ds : List D} {xs : List V} {ps : List PyData}, RepL G H xs ds → toPys ds = some ps → DpAll G.K H xs ps
  | [], _, ps, .nil, e => by cases e; exact .nil
  | d :: ds, _, ps, .cons h t, e => by
    simp only [toPys] at e
    split at e
    · rename_i x xs e1 e2
      cases e
      exact .cons (Rep.dp h e1) (RepL.dp t e2)
    · cases e
theorem dp_ints (G : Gh) (H : Hp) : ∀ ns : List Int, DpAll G.K H (ns.map V.int) (ns.map PyData.int)
  | [] => .nil
  | n :: r => .cons (.int n) (dp_ints G H r)
end
theorem Lk.dp {G : Gh} {H : Hp} {v : V} {d : D} {p : PyData} (l : Lk G H v d) (e : toPy d = some p) : Dp G.K H v p := by
  cases l with
  | of h => exact h.dp e
  | cel h =>
    cases h with
    | lst h r =>
      simp only [toPy, Option.map_eq_some_iff] at e
      obtain ⟨xs, e1, rfl⟩ := e
      exact .lst (SqL.of h) (r.dp e1)
    | _ => cases e
/-- d == e of data -/
def eqD (d e : D) : Option Bool := match toPy d, toPy e with
  | some p, some q => if SeqAt.shaped p = true ∧ SeqAt.shaped q = true then some (PyData.eqv p q) else none
  | _, _ => none
def strP : D → D → Option Bool
  | .str a, .str b => some (decide (a = b))
  | _, _ => none
def eqD2 (d e : D) : Option Bool := match strP d e with
  | some b => some b
  | none => eqD d e
def gEqB (neg : Bool) : G2 := fun d e M => match (deref M d).bind fun c => (deref M e).bind fun c' => eqD2 c c' with
  | some b => .ok (.bl (if neg then !b else b)) M
  | none => .fail
abbrev gEq : G2 := gEqB false
abbrev gNe : G2 := gEqB true
section
variable {X : Cx} {W : WX} {cl : String → Option Addr} {a b : Expr} {za zb : ZX} {pos : Pos}
theorem strP_inv {d e : D} {k : Bool} (h : strP d e = some k) : ∃ a b, d = .str a ∧ e = .str b ∧ k = decide (a = b) := by
  unfold strP at h
  split at h
  · cases h
    exact ⟨_, _, rfl, rfl, rfl⟩
  · cases h
theorem eq_run {F : Fr} {ph : List Addr} {M : Sto} {env : Ev} {σ : St} {H : Hp} {Q : VK} {x y : V} {d e : D} {neg : Bool} (S : Sim F ph M env σ H) (rx : RlC (gh F ph env σ) H x d) (ry : RlC (gh F ph env σ) H y e)
    (P : PoE F W env σ ph H Q (gEqB neg d e M)) : (scal x y = true ∧ Q (.bl (if neg then !decide (x = y) else decide (x = y))) H) ∨ ∃ p q, Dp F.K H x p ∧ Dp F.K H y q ∧ SeqAt.shaped p = true ∧ SeqAt.shaped q = true ∧ Q (.bl (if neg then !PyData.eqv p q else PyData.eqv p q)) H := by
  unfold gEqB at P
  cases e1 : deref M d with
  | none => rw [e1] at P; exact P.elim
  | some c =>
    cases e2 : deref M e with
    | none => rw [e1, e2] at P; exact P.elim
    | some c' =>
      simp only [e1, e2, Option.bind_some] at P
      cases e4 : strP c c' with
      | some k =>
        obtain ⟨a, b, rfl, rfl, rfl⟩ := strP_inv e4
        simp only [eqD2, e4] at P
        have h1 := (rx.look S e1).str_inv
        have h2 := (ry.look S e2).str_inv
        subst h1 h2
        refine .inl ⟨rfl, ?_⟩
        have := P.now S (.bl _)
        simpa using this
      | none =>
        simp only [eqD2, e4] at P
        refine .inr ?_
        cases e3 : eqD c c' with
        | none => rw [e3] at P; exact P.elim
        | some k =>
          rw [e3] at P
          unfold eqD at e3
          split at e3
          · rename_i p q p1 p2
            split at e3
            · rename_i hs
              cases e3
              exact ⟨p, q, (rx.look S e1).dp p1, (ry.look S e2).dp p2, hs.1, hs.2, P.now S (.bl _)⟩
            · cases e3
          · cases e3
theorem oz_eq : OpZ X W cl (fun x y H Q => rEq x y H Q ∨ rEqD X.K x y H Q) gEq := by
  intro F ph M env σ H Q x y d e h1 h2 S rx ry P
  rcases eq_run (neg := false) S rx ry P with ⟨a1, a2⟩ | ⟨p, q, a1, a2, a3, a4, a5⟩
  · exact .inl ⟨a1, a2⟩
  · rw [h2] at a1 a2
    exact .inr ⟨p, q, a1, a2, a3, a4, a5⟩
theorem oz_ne : OpZ X W cl (fun x y H Q => rNe x y H Q ∨ rNeD X.K x y H Q) gNe := by
  intro F ph M env σ H Q x y d e h1 h2 S rx ry P
  rcases eq_run (neg := true) S rx ry P with ⟨a1, a2⟩ | ⟨p, q, a1, a2, a3, a4, a5⟩
  · exact .inl ⟨a1, a2⟩
  · rw [h2] at a1 a2
    exact .inr ⟨p, q, a1, a2, a3, a4, a5⟩
theorem ze_eq (hu : X.A.units + 64 < cLine) (ha : ZC X W cl a za) (hb : ZC X W cl b zb) : ZE X W cl (.Compare a [.Eq] [b] pos) (zOp gEq za zb) := ze_cmp (op_eq.or (op_eqD hu)) oz_eq ha hb (nobehind _ (by decide) (by decide))
theorem ze_ne (hu : X.A.units + 64 < cLine) (ha : ZC X W cl a za) (hb : ZC X W cl b zb) : ZE X W cl (.Compare a [.NotEq] [b] pos) (zOp gNe za zb) := ze_cmp (op_ne.or (op_neD hu)) oz_ne ha hb (nobehind _ (by decide) (by decide))
theorem zt_eq (hu : X.A.units + 64 < cLine) (ha : ZC X W cl a za) (hb : ZC X W cl b zb) : ZT X W cl (.Compare a [.Eq] [b] pos) (zTst (zOp gEq za zb)) := zt_cmp (op_eq.or (op_eqD hu)) oz_eq ha hb (nobehind _ (by decide) (by decide))
theorem zt_ne (hu : X.A.units + 64 < cLine) (ha : ZC X W cl a za) (hb : ZC X W cl b zb) : ZT X W cl (.Compare a [.NotEq] [b] pos) (zTst (zOp gNe za zb)) := zt_cmp (op_ne.or (op_neD hu)) oz_ne ha hb (nobehind _ (by decide) (by decide))

/-! is None, is True -/
def isNon : D → Bool
  | .non => true
  | _ => false
def gIsB (neg : Bool) : G2 := fun d e M => match e with
  | .non => .ok (.bl (if neg then !isNon d else isNon d)) M
  | .bl b => match d with
    | .bl a => .ok (.bl (if neg then !decide (a = b) else decide (a = b))) M
    | _ => .fail
  | _ => .fail
abbrev gIs : G2 := gIsB false
abbrev gIsNot : G2 := gIsB true
theorem non_iff {G : Gh} {H : Hp} {v : V} {d : D} (r : RlC G H v d) : decide (v = .non) = isNon d := by
  rcases r with r | ⟨a, rfl, r, _, _⟩
  · cases r <;> simp [isNon]
  · cases r <;> simp [isNon]
theorem bl_of {G : Gh} {H : Hp} {v : V} {b : Bool} (r : RlC G H v (.bl b)) : v = .bl b := by
  rcases r with r | ⟨a, rfl, r, _, _⟩
  · cases r; rfl
  · cases r
theorem non_of {G : Gh} {H : Hp} {v : V} (r : RlC G H v .non) : v = .non := by
  rcases r with r | ⟨a, rfl, r, _, _⟩
  · cases r; rfl
  · cases r
theorem oz_is : OpZ X W cl (fun x y H Q => (y = .non ∧ Q (.bl (decide (x = .non))) H) ∨ rIsB x y H Q) gIs := by
  intro F ph M env σ H Q x y d e h1 h2 S rx ry P
  cases e with
  | non =>
    refine .inl ⟨non_of ry, ?_⟩
    rw [non_iff rx]
    exact P.now S (.bl _)
  | bl q =>
    cases d with
    | bl p => exact .inr ⟨p, q, bl_of rx, bl_of ry, P.now S (.bl _)⟩
    | _ => exact P.elim
  | _ => exact P.elim
theorem oz_isNot : OpZ X W cl (fun x y H Q => (y = .non ∧ Q (.bl (!decide (x = .non))) H) ∨ rNotB x y H Q) gIsNot := by
  intro F ph M env σ H Q x y d e h1 h2 S rx ry P
  cases e with
  | non =>
    refine .inl ⟨non_of ry, ?_⟩
    rw [non_iff rx]
    exact P.now S (.bl _)
  | bl q =>
    cases d with
    | bl p => exact .inr ⟨p, q, bl_of rx, bl_of ry, P.now S (.bl _)⟩
    | _ => exact P.elim
  | _ => exact P.elim
theorem ze_is (ha : ZC X W cl a za) (hb : ZC X W cl b zb) : ZE X W cl (.Compare a [.Is] [b] pos) (zOp gIs za zb) := ze_cmp (op_isN.or op_isBl) oz_is ha hb (nobehind _ (by decide) (by decide))
theorem ze_isNot (ha : ZC X W cl a za) (hb : ZC X W cl b zb) : ZE X W cl (.Compare a [.IsNot] [b] pos) (zOp gIsNot za zb) := ze_cmp (op_notN.or op_notBl) oz_isNot ha hb (nobehind _ (by decide) (by decide))
theorem zt_is (ha : ZC X W cl a za) (hb : ZC X W cl b zb) : ZT X W cl (.Compare a [.Is] [b] pos) (zTst (zOp gIs za zb)) := zt_cmp (op_isN.or op_isBl) oz_is ha hb (nobehind _ (by decide) (by decide))
theorem zt_isNot (ha : ZC X W cl a za) (hb : ZC X W cl b zb) : ZT X W cl (.Compare a [.IsNot] [b] pos) (zTst (zOp gIsNot za zb)) := zt_cmp (op_notN.or op_notBl) oz_isNot ha hb (nobehind _ (by decide) (by decide))
end
end Zy
set_option maxHeartbeats 2000000
namespace Zy
open PySem PySem.Spec PyProof.Rows L2

/-! subscripts -/
def gIx : G2 := fun d e M => match (deref M d), e with
  | some c, .int i => match itemsD c with
    | some ds => match atI ds i with
      | some x => .ok x M
      | none => .fail
    | none => match c with
      | .str z => if z.length ≤ sizeLine then match atI z.cps.toList i with
        | some c => .ok (.str ⟨#[c]⟩) M
        | none => .fail else .fail
      | _ => .fail
  | _, _ => .fail
theorem atI_len {α β : Type} {xs : List α} {ds : List β} (h : xs.length = ds.length) {i : Int} : ixN xs.length i = ixN ds.length i := by rw [h]
theorem RepL.atI {G : Gh} {H : Hp} {xs : List V} {ds : List D} (r : RepL G H xs ds) {i : Int} {d : D} (e : L2.atI ds i = some d) : ∃ x, L2.atI xs i = some x ∧ Rep G H x d := by
  unfold L2.atI at e ⊢
  rw [r.length]
  cases q : ixN ds.length i with
  | none => rw [q] at e; cases e
  | some j =>
    rw [q] at e
    exact r.at e
theorem int_of {G : Gh} {H : Hp} {v : V} {i : Int} (r : RlC G H v (.int i)) : v = .int i := by
  rcases r with r | ⟨a, rfl, r, _, _⟩
  · cases r; rfl
  · cases r
theorem str_of {G : Gh} {H : Hp} {v : V} {s : Str} (r : RlC G H v (.str s)) : v = .str s := by
  rcases r with r | ⟨a, rfl, r, _, _⟩
  · cases r; rfl
  · cases r
section
variable {X : Cx} {W : WX} {cl : String → Option Addr} {a b : Expr} {za zb : ZX} {pos : Pos}
theorem oz_ix : OpZ X W cl (rIx X.K) gIx := by
  intro F ph M env σ H Q x y d e h1 h2 S rx ry P
  unfold gIx at P
  cases e1 : deref M d with
  | none => rw [e1] at P; exact P.elim
  | some c =>
    rw [e1] at P
    cases e with
    | int i =>
      simp only at P
      have L := rx.look S e1
      cases e2 : itemsD c with
      | some ds =>
        simp only [e2] at P
        cases e3 : atI ds i with
        | none => rw [e3] at P; exact P.elim
        | some w =>
          rw [e3] at P
          obtain ⟨p, xs, rfl, hq, r⟩ := L.seq e2
          obtain ⟨u, e4, r4⟩ := r.atI e3
          have hK : (gh F ph env σ).K = X.K := h2
          rw [hK] at hq
          rcases hq with hq | hq
          · exact .inl ⟨p, xs, i, u, rfl, int_of ry, hq, e4, P.now S r4⟩
          · exact .inr (.inl ⟨p, xs, i, u, rfl, int_of ry, hq, e4, P.now S r4⟩)
      | none =>
        simp only [e2] at P
        cases c with
        | str z =>
          simp only at P
          split at P
          · rename_i hl
            cases e3 : atI z.cps.toList i with
            | none => rw [e3] at P; exact P.elim
            | some w =>
              rw [e3] at P
              exact .inr (.inr ⟨z, i, w, L.str_inv, int_of ry, hl, e3, P.now S (.str _)⟩)
          · exact P.elim
        | _ => exact P.elim
    | _ => exact P.elim
theorem ze_ix (ha : ZC X W cl a za) (hb : ZC X W cl b zb) (hs : PlainIx b := by exact fun _ _ => rfl) : ZE X W cl (.Subscript a b pos) (zOp gIx za zb) := by
  obtain ⟨ta, pa, qa⟩ := ha.ex
  obtain ⟨tb, pb, qb⟩ := hb.ex
  exact ⟨_, pe_ix ix_seq pa pb hs, fun F ph M env σ H Q h1 h2 S P => op_run oz_ix qa qb h1 h2 S P⟩

/-! slices -/
abbrev ZO := Ev → Sto → Res (Option Int)
def RlO : Gh → Hp → Option Int → Option Int → Prop := fun _ _ a b => a = b
structure ZP (X : Cx) (W : WX) (cl : String → Option Addr) (e : Option Expr) (z : ZO) : Prop where
  ex : ∃ t, PO X e t ∧ ∀ F ph M env σ H Q, F.cl = cl → F.K = X.K → Sim F ph M env σ H → Post RlO F W env σ ph H Q (z env M) → t σ H Q
def zNoP : ZO := fun _ M => .ok none M
def zPart (z : ZX) : ZO := fun env M => (z env M).bind fun d M1 => match d with
  | .int i => .ok (some i) M1
  | _ => .fail
theorem zp_none : ZP X W cl none zNoP := ⟨_, po_none, fun F ph M env σ H Q _ _ S P => P.now S rfl⟩
theorem zp_some (ha : ZE X W cl a za) : ZP X W cl (some a) (zPart za) := by
  obtain ⟨t, p, q⟩ := ha.ex
  refine ⟨_, po_some p, fun F ph M env σ H Q h1 h2 S P => q F ph M env σ H _ h1 h2 S (P.step fun d M1 ph1 H1 w S1 f1 r1 P1 => ?_)⟩
  cases d with
  | int i => cases r1; exact ⟨i, rfl, P1.now S1 rfl⟩
  | _ => exact P1.elim
def cutD (ds : List D) (lo hi : Option Int) : List D := (ds.drop (HT.sIx ds.length 0 lo)).take (HT.sIx ds.length ds.length hi - HT.sIx ds.length 0 lo)
def slD (c : D) (lo hi : Option Int) : Option D := match c with
  | .lst ds => some (.lst (cutD ds lo hi))
  | .tup ds => some (.tup (cutD ds lo hi))
  | .str z => if z.length ≤ sizeLine then some (.str (cutS z lo hi)) else none
  | _ => none
def zSl (z : ZX) (zl zh : ZO) : ZX := fun env M => (z env M).bind fun d M1 => (zl env M1).bind fun lo M2 => (zh env M2).bind fun hi M3 => match (deref M3 d).bind fun c => slD c lo hi with
  | some r => .ok r M3
  | none => .fail
theorem RepL.cut {G : Gh} {H : Hp} {xs : List V} {ds : List D} (r : RepL G H xs ds) (lo hi : Option Int) : RepL G H (cutV xs lo hi) (cutD ds lo hi) := by
  unfold cutV cutD
  rw [r.length]
  exact (r.drop _).take _
theorem cut_all {ds : List D} {lo hi : Option Int} (h : HT.sIx ds.length 0 lo = 0 ∧ HT.sIx ds.length ds.length hi = ds.length) : cutD ds lo hi = ds := by
  unfold cutD
  rw [h.1, h.2]
  simp
theorem ze_sl {e : Expr} {lo hi : Option Expr} {p2 : Pos} {z : ZX} {zl zh : ZO} (he : ZC X W cl e z) (hl : ZP X W cl lo zl) (hh : ZP X W cl hi zh) : ZE X W cl (.Subscript e (.Slice lo hi none p2) pos) (zSl z zl zh) := by
  obtain ⟨t, p, q⟩ := he.ex
  obtain ⟨tl, pl, ql⟩ := hl.ex
  obtain ⟨th, pph, qh⟩ := hh.ex
  refine ⟨_, pe_slice (sl_list.or (sl_tupA.or sl_str)) p pl pph, fun F ph M env σ H Q h1 h2 S P => q F ph M env σ H _ h1 h2 S (P.step fun d M1 ph1 H1 w S1 f1 r1 P1 => ?_)⟩
  refine ql F ph1 M1 env σ H1 _ h1 h2 S1 (P1.step fun lo M2 ph2 H2 lo' S2 f2 r2 P2 => ?_)
  cases (show lo' = lo from r2)
  refine qh F ph2 M2 env σ H2 _ h1 h2 S2 (P2.step fun hi M3 ph3 H3 hi' S3 f3 r3 P3 => ?_)
  cases (show hi' = hi from r3)
  have rr := (r1.fwd S1 f2).fwd S2 f3
  cases e1 : deref M3 d with
  | none => rw [e1] at P3; exact P3.elim
  | some c =>
    rw [e1] at P3
    have L := rr.look S3 e1
    simp only [Option.bind_some] at P3
    cases c with
    | lst ds =>
      obtain ⟨a, xs, rfl, hq, r⟩ := L.lst_inv
      exact .inl ⟨a, xs, rfl, SqL.of hq, fun p hp => P3.newLst S3 (r.cut _ _) hp⟩
    | tup ds =>
      obtain ⟨a, xs, rfl, hq, r⟩ := L.tup_inv
      refine .inr (.inl ⟨a, xs, rfl, SqT.of hq, fun hw => ?_, fun _ p hp => P3.newTup S3 (r.cut _ _) hp⟩)
      rw [r.length] at hw
      refine P3.now S3 ?_
      rw [cut_all hw]
      exact rr.tupRep S3 e1
    | str z =>
      cases L.str_inv
      by_cases hz : z.length ≤ sizeLine
      · simp only [slD, hz, if_true] at P3
        exact .inr (.inr ⟨z, rfl, hz, P3.now S3 (.str _)⟩)
      · simp only [slD, hz, if_false] at P3
        exact P3.elim
    | _ => exact P3.elim
/-- xs[::-1] -/
def zRv (z : ZX) : ZX := fun env M => (z env M).bind fun d M1 => match deref M1 d with
  | some (.lst ds) => .ok (.lst ds.reverse) M1
  | _ => .fail
theorem RepL.rev {G : Gh} {H : Hp} : ∀ {xs : List V} {ds : List D}, RepL G H xs ds → RepL G H xs.reverse ds.reverse
  | _, _, .nil => .nil
  | _, _, .cons h t => by
    rw [List.reverse_cons, List.reverse_cons]
    exact (RepL.rev t).app (.cons h .nil)
theorem ze_rv {e : Expr} {k : Nat} {p1 p2 p3 : Pos} {z : ZX} (he : ZC X W cl e z) : ZE X W cl (.Subscript e (.Slice none none (some (.UnaryOp .USub (.Constant (.int 1) k p1) p2)) p3) pos) (zRv z) := by
  obtain ⟨t, p, q⟩ := he.ex
  refine ⟨_, pe_revL p, fun F ph M env σ H Q h1 h2 S P => q F ph M env σ H _ h1 h2 S (P.step fun d M1 ph1 H1 w S1 f1 r1 P1 => ?_)⟩
  cases e1 : deref M1 d with
  | none => rw [e1] at P1; exact P1.elim
  | some c =>
    rw [e1] at P1
    cases c with
    | lst ds =>
      obtain ⟨a, xs, rfl, hq, r⟩ := (r1.look S1 e1).lst_inv
      exact ⟨a, xs, rfl, SqL.of hq, fun p hp => P1.newLst S1 r.rev hp⟩
    | _ => exact P1.elim

/-! built-ins, by the list of their arguments -/
abbrev GB := List D → Sto → Res D
def zBf (g : GB) (l : ZL) : ZX := fun env M => (l env M).bind fun ds M1 => g ds M1
def BfZ (X : Cx) (W : WX) (cl : String → Option Addr) (r : List V → Hp → VK → Prop) (g : GB) : Prop := ∀ (F : Fr) (ph : List Addr) (M : Sto) (env : Ev) (σ : St) (H : Hp) (Q : VK) (xs : List V) (ds : List D), F.cl = cl → F.K = X.K → Sim F ph M env σ H →
  RcL (gh F ph env σ) H xs ds → PoE F W env σ ph H Q (g ds M) → r xs H Q
variable {x : Str} {p : Pos} {e : Expr} {es : List Expr} {zs : ZL} {id : String} {r : List V → Hp → VK → Prop} {g : GB}
theorem ze_bf (hc : CallR X (.builtin id) r) (hz : BfZ X W cl r g) (hg : Gl X x) (hm : X.mg x = none) (hv : bootBuiltins x = some (.builtin id)) (ha : ZK X W cl (e :: es) zs) (hn : x ≠ "__name__" := by decide) (hdb : (x == ("__debug__" : Str)) = false := by decide)
    (he : nostar e = true := by rfl) (hpl : (backTo pos (starEach es X.env)).any (·.1) = false := by rfl) : ZE X W cl (.Call (.Name x p) (e :: es) [] pos) (zBf g zs) := by
  obtain ⟨t, pa, q⟩ := ha.ex
  exact ⟨_, pe_callB hc hg hm hv pa hn hdb (star_ok he) hpl, fun F ph M env σ H Q h1 h2 S P => q F ph M env σ H _ h1 h2 S (P.step fun ds M1 ph1 H1 xs S1 f1 r1 P1 => hz F ph1 M1 env σ H1 Q xs ds h1 h2 S1 r1 P1)⟩
theorem ze_bt (hc : CallR X (.type id) r) (hz : BfZ X W cl r g) (hg : Gl X x) (hm : X.mg x = none) (hv : bootBuiltins x = some (.type id)) (ha : ZK X W cl (e :: es) zs) (hn : x ≠ "__name__" := by decide) (hdb : (x == ("__debug__" : Str)) = false := by decide)
    (he : nostar e = true := by rfl) (hpl : (backTo pos (starEach es X.env)).any (·.1) = false := by rfl) : ZE X W cl (.Call (.Name x p) (e :: es) [] pos) (zBf g zs) := by
  obtain ⟨t, pa, q⟩ := ha.ex
  exact ⟨_, pe_callTy hc hg hm hv pa hn hdb (star_ok he) hpl, fun F ph M env σ H Q h1 h2 S P => q F ph M env σ H _ h1 h2 S (P.step fun ds M1 ph1 H1 xs S1 f1 r1 P1 => hz F ph1 M1 env σ H1 Q xs ds h1 h2 S1 r1 P1)⟩
theorem CallR.or {f : Value} {r r' : List V → Hp → VK → Prop} (h : CallR X f r) (h' : CallR X f r') : CallR X f (fun xs H Q => r xs H Q ∨ r' xs H Q) := by
  intro pins s σ H xs us Q I rs q
  rcases q with q | q
  · exact h pins s σ H xs us Q I rs q
  · exact h' pins s σ H xs us Q I rs q
def gLen : GB := fun ds M => match ds with
  | [d] => match deref M d with
    | some c => match itemsD c with
      | some ds => .ok (.int ds.length) M
      | none => match c with
        | .str z => if z.length ≤ sizeLine then .ok (.int z.length) M else .fail
        | _ => .fail
    | none => .fail
  | _ => .fail
theorem RcL.one {G : Gh} {H : Hp} {xs : List V} {d : D} (h : RcL G H xs [d]) : ∃ x, xs = [x] ∧ RlC G H x d := by
  cases h with
  | cons h t => cases t; exact ⟨_, rfl, h⟩
theorem RcL.two {G : Gh} {H : Hp} {xs : List V} {d e : D} (h : RcL G H xs [d, e]) : ∃ x y, xs = [x, y] ∧ RlC G H x d ∧ RlC G H y e := by
  cases h with
  | cons h t => cases t with | cons h' t => cases t; exact ⟨_, _, rfl, h, h'⟩
theorem bz_len : BfZ X W cl (fun xs H Q => ∃ x n, xs = [x] ∧ LenV X.K x H n ∧ Q (.int n) H) gLen := by
  intro F ph M env σ H Q xs ds h1 h2 S r P
  unfold gLen at P
  split at P
  · rename_i d
    obtain ⟨x, rfl, rx⟩ := r.one
    cases e1 : deref M d with
    | none => rw [e1] at P; exact P.elim
    | some c =>
      rw [e1] at P
      have L := rx.look S e1
      simp only at P
      cases e2 : itemsD c with
      | some ds =>
        rw [e2] at P
        obtain ⟨p, xs, rfl, hq, r⟩ := L.seq e2
        have hK : (gh F ph env σ).K = X.K := h2
        rw [hK] at hq
        refine ⟨_, ds.length, rfl, ?_, P.now S (.int _)⟩
        rcases hq with hq | hq
        · exact .inl ⟨xs, hq, r.length.symm⟩
        · exact .inr ⟨xs, hq, r.length.symm⟩
      | none =>
        rw [e2] at P
        cases c with
        | str z =>
          simp only at P
          split at P
          · rename_i hl
            exact ⟨_, z.length, rfl, by rw [L.str_inv]; exact ⟨hl, rfl⟩, P.now S (.int _)⟩
          · exact P.elim
        | _ => exact P.elim
  · exact P.elim
def gInt : GB := fun ds M => match ds with
  | [.int i] => .ok (.int i) M
  | [.bl b] => .ok (.int (if b then 1 else 0)) M
  | _ => .fail
theorem bz_int : BfZ X W cl (fun xs H Q => (∃ i, xs = [.int i] ∧ Q (.int i) H) ∨ ∃ k, xs = [.bl k] ∧ Q (.int (if k then 1 else 0)) H) gInt := by
  intro F ph M env σ H Q xs ds h1 h2 S r P
  unfold gInt at P
  split at P
  · rename_i i
    obtain ⟨x, rfl, rx⟩ := r.one
    exact .inl ⟨i, by rw [int_of rx], P.now S (.int _)⟩
  · rename_i i
    obtain ⟨x, rfl, rx⟩ := r.one
    exact .inr ⟨i, by rw [bl_of rx], P.now S (.int _)⟩
  · exact P.elim
def gAbs : GB := fun ds M => match ds with
  | [.int i] => .ok (.int (if i < 0 then -i else i)) M
  | _ => .fail
theorem bz_abs : BfZ X W cl (fun xs H Q => ∃ i, xs = [.int i] ∧ Q (.int (if i < 0 then -i else i)) H) gAbs := by
  intro F ph M env σ H Q xs ds h1 h2 S r P
  unfold gAbs at P
  split at P
  · rename_i i
    obtain ⟨x, rfl, rx⟩ := r.one
    exact ⟨i, by rw [int_of rx], P.now S (.int _)⟩
  · exact P.elim
def gMax2 : GB := fun ds M => match ds with
  | [.int i, .int j] => .ok (.int (if j > i then j else i)) M
  | _ => .fail
def gMin2 : GB := fun ds M => match ds with
  | [.int i, .int j] => .ok (.int (if j < i then j else i)) M
  | _ => .fail
theorem bz_max2 : BfZ X W cl (fun xs H Q => ∃ i j, xs = [.int i, .int j] ∧ Q (.int (if j > i then j else i)) H) gMax2 := by
  intro F ph M env σ H Q xs ds h1 h2 S r P
  unfold gMax2 at P
  split at P
  · rename_i i j
    obtain ⟨x, y, rfl, rx, ry⟩ := r.two
    exact ⟨i, j, by rw [int_of rx, int_of ry], P.now S (.int _)⟩
  · exact P.elim
theorem bz_min2 : BfZ X W cl (fun xs H Q => ∃ i j, xs = [.int i, .int j] ∧ Q (.int (if j < i then j else i)) H) gMin2 := by
  intro F ph M env σ H Q xs ds h1 h2 S r P
  unfold gMin2 at P
  split at P
  · rename_i i j
    obtain ⟨x, y, rfl, rx, ry⟩ := r.two
    exact ⟨i, j, by rw [int_of rx, int_of ry], P.now S (.int _)⟩
  · exact P.elim
/-- all ints; all bools -/
def intsD : List D → Option (List Int)
  | [] => some []
  | .int i :: r => (intsD r).map (i :: ·)
  | _ => none
def blsD : List D → Option (List Bool)
  | [] => some []
  | .bl i :: r => (blsD r).map (i :: ·)
  | _ => none
theorem RepL.ints {G : Gh} {H : Hp} : ∀ {ds : List D} {xs : List V} {ns : List Int}, RepL G H xs ds → intsD ds = some ns → xs = ns.map V.int
  | [], _, ns, .nil, e => by cases e; rfl
  | .int i :: r, _, ns, .cons h t, e => by
    simp only [intsD, Option.map_eq_some_iff] at e
    obtain ⟨ms, e1, rfl⟩ := e
    cases h
    rw [RepL.ints t e1]
    rfl
  | .non :: _, _, _, _, e | .bl _ :: _, _, _, _, e | .str _ :: _, _, _, _, e | .tup _ :: _, _, _, _, e | .lst _ :: _, _, _, _, e | .dK _ :: _, _, _, _, e | .dT _ :: _, _, _, _, e | .ins _ _ :: _, _, _, _, e | .ref _ :: _, _, _, _, e | .scr _ :: _, _, _, _, e => by cases e
theorem RepL.bls {G : Gh} {H : Hp} : ∀ {ds : List D} {xs : List V} {ns : List Bool}, RepL G H xs ds → blsD ds = some ns → xs = ns.map V.bl
  | [], _, ns, .nil, e => by cases e; rfl
  | .bl i :: r, _, ns, .cons h t, e => by
    simp only [blsD, Option.map_eq_some_iff] at e
    obtain ⟨ms, e1, rfl⟩ := e
    cases h
    rw [RepL.bls t e1]
    rfl
  | .non :: _, _, _, _, e | .int _ :: _, _, _, _, e | .str _ :: _, _, _, _, e | .tup _ :: _, _, _, _, e | .lst _ :: _, _, _, _, e | .dK _ :: _, _, _, _, e | .dT _ :: _, _, _, _, e | .ins _ _ :: _, _, _, _, e | .ref _ :: _, _, _, _, e | .scr _ :: _, _, _, _, e => by cases e
end
end Zy
set_option maxHeartbeats 2000000
namespace Zy
open PySem PySem.Spec PyProof.Rows L2

/-! sum, max, min, all, any -/
theorem preSum_get (ns : List Int) : ∀ n, n ≤ ns.length → preSum (fun i => ns.getD i 0) n = (ns.take n).sum
  | 0, _ => by simp [preSum]
  | n + 1, h => by
    have hn : n < ns.length := h
    rw [preSum, preSum_get ns n (Nat.le_of_lt hn), List.take_add_one, List.getElem?_eq_getElem hn, List.sum_append]
    simp [List.getD, List.getElem?_eq_getElem hn]
theorem sum_tupI {prog : Program} {w : World} {A : Around} {E : Value → Shared → Prop} {s : Shared} {t : Addr} {its : List Value} {ns : List Int} {Q : Value → Shared → Prop} (hh : A.handled = none) (ht : IsTup s.heap t its.toArray) (hi : Vals (ns.map V.int) its)
    (h : ∀ h' tk t', (∀ b o, s.heap.get? b = some o → h'.get? b = some o) → Q (.int ns.sum t') { s with heap := h', toks := tk }) : wpAny (model prog w) A (call (.builtin "sum") [.ref t]) Q E s := by
  have hl : its.length = ns.length := by rw [← hi.length, List.length_map]
  obtain ⟨o, ho, hc, n, hd⟩ := ht
  have ht : s.heap.IsTuple t its.toArray := ⟨o, ho, hc, n, hd⟩
  have hlt : t < s.heap.objs.size := Heap.lt_size ho
  refine call_sum_walkG (wpAny_pyIter_tuple ht ?_)
  refine ⟨s.heap.objs.size, _, _, _, _, _, fun i => ns.getD i 0, rfl, Walks.tuple (A := A.in1) hh s.heap.objs.size t (Nat.ne_of_lt hlt) its.toArray, ⟨⟨_, Heap.get?_push_size _ rfl, rfl, rfl⟩, ⟨o, Heap.get?_push_of_some _ ho, hc, n, hd⟩⟩, ?_, fun i v e => ?_, fun h' tk t' hk => ?_⟩
  · intro b hb
    show b < (s.heap.push _).objs.size
    rw [Heap.size_push]
    rcases List.mem_cons.mp hb with e | hb
    · subst e; exact Nat.lt_succ_self _
    · have e : b = t := by simpa using hb
      subst e; exact Nat.lt_succ_of_lt hlt
  · have e' : its[i]? = some v := by simpa using e
    have hi' : i < its.length := (List.getElem?_eq_some_iff.mp e').1
    obtain ⟨u, e2, r⟩ := hi.get (i := i) (x := .int (ns.getD i 0)) (by
      rw [List.getElem?_map, List.getElem?_eq_getElem (by omega)]
      simp [List.getD, List.getElem?_eq_getElem (show i < ns.length by omega)])
    rw [e'] at e2
    cases e2
    exact r
  · have e := preSum_get ns its.toArray.size (by rw [List.size_toArray, hl]; exact Nat.le_refl _)
    have e2 : ns.take its.toArray.size = ns := List.take_of_length_le (by rw [List.size_toArray, hl]; exact Nat.le_refl _)
    rw [e, e2]
    refine h h' tk t' fun b u hb => hk b u (fun hm => ?_) (Heap.get?_push_of_some _ hb)
    have e : b = s.heap.objs.size := by simpa using hm
    subst e
    exact absurd (Heap.lt_size hb) (Nat.lt_irrefl _)
def rSumT (K : PySem.W.Frag) : List V → Hp → VK → Prop := fun vs H Q => ∃ (a : Addr) (ns : List Int), vs = [V.ref a] ∧ SqT K H a (ns.map V.int) ∧ Q (.int ns.sum) H
section
variable {X : Cx} {W : WX} {cl : String → Option Addr} {a b e : Expr} {za zb : ZX} {pos p : Pos} {es : List Expr} {zs : ZL}
theorem cr_sumT (hc : X.calm = true) : CallR X (.builtin "sum") (rSumT X.K) := by
  intro pins s σ H vs us Q I r h
  obtain ⟨a, ns, rfl, hs, q⟩ := h
  obtain ⟨its, rv, ht, _⟩ := I.tuple hs
  rw [Vals.ref1 r]
  exact sum_tupI (I.ok.hd hc) ht rv fun h' tk t' hk => ⟨.int _, H, I.kept hk, ⟨_, rfl⟩, q⟩
def gSum : GB := fun ds M => match ds with
  | [d] => match ((deref M d).bind itemsD).bind intsD with
    | some ns => .ok (.int ns.sum) M
    | none => .fail
  | _ => .fail
theorem seq_ints {F : Fr} {ph : List Addr} {M : Sto} {env : Ev} {σ : St} {H : Hp} {v : V} {d : D} {ns : List Int} (S : Sim F ph M env σ H) (rx : RlC (gh F ph env σ) H v d) (e : ((deref M d).bind itemsD).bind intsD = some ns) :
    ∃ p, v = .ref p ∧ (SqL F.K H p (ns.map V.int) ∨ SqT F.K H p (ns.map V.int)) := by
  cases e1 : deref M d with
  | none => rw [e1] at e; cases e
  | some c =>
    cases e2 : itemsD c with
    | none => simp only [e1, e2, Option.bind_some, Option.bind_none] at e; cases e
    | some ds =>
      simp only [e1, e2, Option.bind_some] at e
      obtain ⟨p, xs, rfl, hq, r⟩ := (rx.look S e1).seq e2
      rw [r.ints e] at hq
      exact ⟨p, rfl, hq⟩
theorem bz_sum : BfZ X W cl (fun xs H Q => rSum X.K xs H Q ∨ rSumT X.K xs H Q) gSum := by
  intro F ph M env σ H Q xs ds h1 h2 S r P
  unfold gSum at P
  split at P
  · rename_i d
    obtain ⟨x, rfl, rx⟩ := r.one
    cases e : ((deref M d).bind itemsD).bind intsD with
    | none => rw [e] at P; exact P.elim
    | some ns =>
      rw [e] at P
      obtain ⟨p, rfl, hq⟩ := seq_ints S rx e
      rw [h2] at hq
      rcases hq with hq | hq
      · exact .inl ⟨p, ns, rfl, hq, P.now S (.int _)⟩
      · exact .inr ⟨p, ns, rfl, hq, P.now S (.int _)⟩
  · exact P.elim
/-- the ints of a list (no tuple) -/
def lintsD : D → Option (List Int)
  | .lst ds => intsD ds
  | _ => none
def lblsD : D → Option (List Bool)
  | .lst ds => blsD ds
  | _ => none
def gMx (f : List Int → Option Int) : GB := fun ds M => match ds with
  | [d] => match ((deref M d).bind lintsD).bind f with
    | some n => .ok (.int n) M
    | none => .fail
  | _ => .fail
abbrev gMax : GB := gMx List.max?
abbrev gMin : GB := gMx List.min?
theorem lints {F : Fr} {ph : List Addr} {M : Sto} {env : Ev} {σ : St} {H : Hp} {v : V} {d : D} {ns : List Int} (S : Sim F ph M env σ H) (rx : RlC (gh F ph env σ) H v d) (e : (deref M d).bind lintsD = some ns) :
    ∃ p, v = .ref p ∧ SqL F.K H p (ns.map V.int) := by
  cases e1 : deref M d with
  | none => rw [e1] at e; cases e
  | some c =>
    simp only [e1, Option.bind_some] at e
    cases c with
    | lst ds =>
      obtain ⟨p, xs, rfl, hq, r⟩ := (rx.look S e1).lst_inv
      rw [r.ints e] at hq
      exact ⟨p, rfl, SqL.of hq⟩
    | _ => cases e
theorem lbls {F : Fr} {ph : List Addr} {M : Sto} {env : Ev} {σ : St} {H : Hp} {v : V} {d : D} {ns : List Bool} (S : Sim F ph M env σ H) (rx : RlC (gh F ph env σ) H v d) (e : (deref M d).bind lblsD = some ns) :
    ∃ p, v = .ref p ∧ SqL F.K H p (ns.map V.bl) := by
  cases e1 : deref M d with
  | none => rw [e1] at e; cases e
  | some c =>
    simp only [e1, Option.bind_some] at e
    cases c with
    | lst ds =>
      obtain ⟨p, xs, rfl, hq, r⟩ := (rx.look S e1).lst_inv
      rw [r.bls e] at hq
      exact ⟨p, rfl, SqL.of hq⟩
    | _ => cases e
theorem bz_max : BfZ X W cl (rMax X.K) gMax := by
  intro F ph M env σ H Q xs ds h1 h2 S r P
  unfold gMax gMx at P
  split at P
  · rename_i d
    obtain ⟨x, rfl, rx⟩ := r.one
    cases e : (deref M d).bind lintsD with
    | none => rw [e] at P; exact P.elim
    | some ns =>
      obtain ⟨p, rfl, hq⟩ := lints S rx e
      rw [h2] at hq
      cases e2 : ns.max? with
      | none => simp only [e, Option.bind_some, e2] at P; exact P.elim
      | some n =>
        simp only [e, Option.bind_some, e2] at P
        have hm := List.max?_eq_some_iff.mp e2
        refine ⟨p, ns, rfl, hq, List.length_pos_of_mem hm.1, fun m m1 m2 => ?_⟩
        have : m = n := Int.le_antisymm (hm.2 m m1) (m2 n hm.1)
        subst this
        exact P.now S (.int _)
  · exact P.elim
theorem bz_min : BfZ X W cl (rMin X.K) gMin := by
  intro F ph M env σ H Q xs ds h1 h2 S r P
  unfold gMin gMx at P
  split at P
  · rename_i d
    obtain ⟨x, rfl, rx⟩ := r.one
    cases e : (deref M d).bind lintsD with
    | none => rw [e] at P; exact P.elim
    | some ns =>
      obtain ⟨p, rfl, hq⟩ := lints S rx e
      rw [h2] at hq
      cases e2 : ns.min? with
      | none => simp only [e, Option.bind_some, e2] at P; exact P.elim
      | some n =>
        simp only [e, Option.bind_some, e2] at P
        have hm := List.min?_eq_some_iff.mp e2
        refine ⟨p, ns, rfl, hq, List.length_pos_of_mem hm.1, fun m m1 m2 => ?_⟩
        have : m = n := Int.le_antisymm (m2 n hm.1) (hm.2 m m1)
        subst this
        exact P.now S (.int _)
  · exact P.elim
def gQuant (f : List Bool → Bool) : GB := fun ds M => match ds with
  | [d] => match (deref M d).bind lblsD with
    | some bs => .ok (.bl (f bs)) M
    | none => .fail
  | _ => .fail
abbrev gAll : GB := gQuant fun bs => bs.all id
abbrev gAny : GB := gQuant fun bs => bs.any id
theorem bz_all : BfZ X W cl (rAll X.K) gAll := by
  intro F ph M env σ H Q xs ds h1 h2 S r P
  unfold gAll gQuant at P
  split at P
  · rename_i d
    obtain ⟨x, rfl, rx⟩ := r.one
    cases e : (deref M d).bind lblsD with
    | none => rw [e] at P; exact P.elim
    | some ns =>
      rw [e] at P
      obtain ⟨p, rfl, hq⟩ := lbls S rx e
      rw [h2] at hq
      exact ⟨p, ns, rfl, hq, P.now S (.bl _)⟩
  · exact P.elim
theorem bz_any : BfZ X W cl (rAny X.K) gAny := by
  intro F ph M env σ H Q xs ds h1 h2 S r P
  unfold gAny gQuant at P
  split at P
  · rename_i d
    obtain ⟨x, rfl, rx⟩ := r.one
    cases e : (deref M d).bind lblsD with
    | none => rw [e] at P; exact P.elim
    | some ns =>
      rw [e] at P
      obtain ⟨p, rfl, hq⟩ := lbls S rx e
      rw [h2] at hq
      exact ⟨p, ns, rfl, hq, P.now S (.bl _)⟩
  · exact P.elim
section
variable (hm : X.mg "len" = none)
theorem ze_len (hg : Gl X "len") (hm : X.mg "len" = none) (ha : ZC X W cl a za) (n : nostar a = true := by rfl) : ZE X W cl (.Call (.Name "len" p) [a] [] pos) (zBf gLen (zCons za zNil)) := ze_bf call_len bz_len hg hm PySem.boot_len (zk_cons ha zk_nil n) (he := n)
theorem ze_callInt (hg : Gl X "int") (hm : X.mg "int" = none) (ha : ZC X W cl a za) (n : nostar a = true := by rfl) : ZE X W cl (.Call (.Name "int" p) [a] [] pos) (zBf gInt (zCons za zNil)) := ze_bt call_int1 bz_int hg hm (by decide +kernel) (zk_cons ha zk_nil n) (he := n)
theorem ze_abs (hg : Gl X "abs") (hm : X.mg "abs" = none) (ha : ZC X W cl a za) (n : nostar a = true := by rfl) : ZE X W cl (.Call (.Name "abs" p) [a] [] pos) (zBf gAbs (zCons za zNil)) := ze_bf call_abs bz_abs hg hm (by decide +kernel) (zk_cons ha zk_nil n) (he := n)
theorem ze_sum (hc : X.calm = true) (hg : Gl X "sum") (hm : X.mg "sum" = none) (ha : ZC X W cl a za) (n : nostar a = true := by rfl) : ZE X W cl (.Call (.Name "sum" p) [a] [] pos) (zBf gSum (zCons za zNil)) := ze_bf (CallR.or (cr_sum hc) (cr_sumT hc)) bz_sum hg hm (by decide +kernel) (zk_cons ha zk_nil n) (he := n)
theorem ze_max (hc : X.calm = true) (hg : Gl X "max") (hm : X.mg "max" = none) (ha : ZC X W cl a za) (n : nostar a = true := by rfl) : ZE X W cl (.Call (.Name "max" p) [a] [] pos) (zBf gMax (zCons za zNil)) := ze_bf (cr_max hc) bz_max hg hm (by decide +kernel) (zk_cons ha zk_nil n) (he := n)
theorem ze_min (hc : X.calm = true) (hg : Gl X "min") (hm : X.mg "min" = none) (ha : ZC X W cl a za) (n : nostar a = true := by rfl) : ZE X W cl (.Call (.Name "min" p) [a] [] pos) (zBf gMin (zCons za zNil)) := ze_bf (cr_min hc) bz_min hg hm (by decide +kernel) (zk_cons ha zk_nil n) (he := n)
theorem ze_all (hc : X.calm = true) (hg : Gl X "all") (hm : X.mg "all" = none) (ha : ZC X W cl a za) (n : nostar a = true := by rfl) : ZE X W cl (.Call (.Name "all" p) [a] [] pos) (zBf gAll (zCons za zNil)) := ze_bf (cr_all hc) bz_all hg hm (by decide +kernel) (zk_cons ha zk_nil n) (he := n)
theorem ze_any (hc : X.calm = true) (hg : Gl X "any") (hm : X.mg "any" = none) (ha : ZC X W cl a za) (n : nostar a = true := by rfl) : ZE X W cl (.Call (.Name "any" p) [a] [] pos) (zBf gAny (zCons za zNil)) := ze_bf (cr_any hc) bz_any hg hm (by decide +kernel) (zk_cons ha zk_nil n) (he := n)
theorem backTo_two (n' : nostar b = true) : (backTo pos (starEach [b] X.env)).any (·.1) = false := by
  rw [star_ok n']
  rfl
theorem ze_max2 (hc : X.calm = true) (hg : Gl X "max") (hm : X.mg "max" = none) (ha : ZC X W cl a za) (hb : ZC X W cl b zb) (n : nostar a = true := by rfl) (n' : nostar b = true := by rfl) : ZE X W cl (.Call (.Name "max" p) [a, b] [] pos) (zBf gMax2 (zCons za (zCons zb zNil))) :=
  ze_bf (call_max2 hc) bz_max2 hg hm (by decide +kernel) (zk_cons ha (zk_cons hb zk_nil n') n) (he := n) (hpl := backTo_two n')
theorem ze_min2 (hc : X.calm = true) (hg : Gl X "min") (hm : X.mg "min" = none) (ha : ZC X W cl a za) (hb : ZC X W cl b zb) (n : nostar a = true := by rfl) (n' : nostar b = true := by rfl) : ZE X W cl (.Call (.Name "min" p) [a, b] [] pos) (zBf gMin2 (zCons za (zCons zb zNil))) :=
  ze_bf (call_min2 hc) bz_min2 hg hm (by decide +kernel) (zk_cons ha (zk_cons hb zk_nil n') n) (he := n) (hpl := backTo_two n')
end

/-! tuple(..), list(..), ranges -/
def zTupOf (z : ZX) : ZX := fun env M => (z env M).bind fun d M1 => match (deref M1 d).bind itemsD with
  | some ds => .ok (.tup ds) M1
  | none => .fail
theorem ze_tupOf (hg : Gl X "tuple") (hm : X.mg "tuple" = none) (ha : ZC X W cl a za) (n : nostar a = true := by rfl) : ZE X W cl (.Call (.Name "tuple" p) [a] [] pos) (zTupOf za) := by
  obtain ⟨t, pa, q⟩ := ha.ex
  refine ⟨_, pe_tupleOf hg hm pa (star_ok n), fun F ph M env σ H Q h1 h2 S P => q F ph M env σ H _ h1 h2 S (P.step fun d M1 ph1 H1 w S1 f1 r1 P1 => ?_)⟩
  cases e1 : deref M1 d with
  | none => rw [e1] at P1; exact P1.elim
  | some c =>
    rw [e1] at P1
    have L := r1.look S1 e1
    simp only [Option.bind_some] at P1
    cases c with
    | tup ds =>
      obtain ⟨a, xs, rfl, hq, r⟩ := L.tup_inv
      exact .inr ⟨a, xs, rfl, SqT.of hq, P1.now S1 (r1.tupRep S1 e1)⟩
    | lst ds =>
      obtain ⟨a, xs, rfl, hq, r⟩ := L.lst_inv
      exact .inl ⟨a, xs, rfl, SqL.of hq, fun p hp => P1.newTup S1 r hp⟩
    | scr ns =>
      obtain ⟨a, rfl, hq⟩ := L.scr_inv
      rw [show (gh F ph1 env σ).K = X.K from h2] at hq
      exact .inl ⟨a, _, rfl, hq, fun p hp => P1.newTup S1 (repL_ints _ _ _) hp⟩
    | _ => exact P1.elim
theorem PoF.newLst {F : Fr} {env : Ev} {σ : St} {ph : List Addr} {M : Sto} {H : Hp} {Q : VK} {ds : List D} {xs : List V} {p : Addr} (P : PoF F W env σ ph H Q (.ok (.lst ds) M)) (S : Sim F ph M env σ H) (r : RepL (gh F ph env σ) H xs ds) (hp : H p = none) :
    Q (.ref p) (upd H p (.lst xs)) := by
  obtain ⟨S2, m⟩ := S.lay (o := .lst xs) hp
  exact P ph _ p S2 (Fwd.alloc hp) (.lst upd_same (r.mo m)) hp
theorem PoF.step {α β : Type} {Rl : Gh → Hp → β → α → Prop} {F : Fr} {env : Ev} {σ : St} {ph : List Addr} {H : Hp} {Q : VK} {Q' : β → Hp → Prop} {r : Res α} {k : α → Sto → Res D} (P : PoF F W env σ ph H Q (r.bind k))
    (hk : ∀ a M' ph' H' b, Sim F ph' M' env σ H' → Fwd ph H ph' H' → Rl (gh F ph' env σ) H' b a → PoF F W env σ ph' H' Q (k a M') → Q' b H') : Post Rl F W env σ ph H Q' r := by
  cases r with
  | ok d M' =>
    intro p1 H1 v S g r
    refine hk d M' p1 H1 v S g r ?_
    have P' : PoF F W env σ ph H Q (k d M') := P
    revert P'
    cases k d M' with
    | ok d2 M2 => exact fun P' p2 H2 a S2 g2 c hn => P' p2 H2 a S2 (g.trans g2) c (g.back hn)
    | exc c fs M2 => exact fun P' p2 H2 dx f C S2 g2 e1 e2 r => P' p2 H2 dx f C S2 (g.trans g2) e1 e2 r
    | fail => exact fun P' => P'
  | exc c fs M' => exact P
  | fail => exact P
def zLstOf (z : ZX) : ZX := fun env M => (z env M).bind fun d M1 => match (deref M1 d).bind itemsD with
  | some ds => .ok (.lst ds) M1
  | none => .fail
theorem zf_lstOf (hg : Gl X "list") (hm : X.mg "list" = none) (ha : ZC X W cl a za) (n : nostar a = true := by rfl) : ZF X W cl (.Call (.Name "list" p) [a] [] pos) (zLstOf za) := by
  obtain ⟨t, pa, q⟩ := ha.ex
  refine ⟨_, pe_callTy call_list_of hg hm (by decide +kernel) (pa_cons pa pa_nil (star_ok n)) (by decide) (by decide) (star_ok n), fun F ph M env σ H Q h1 h2 S P => q F ph M env σ H _ h1 h2 S (P.step fun d M1 ph1 H1 w S1 f1 r1 P1 => ?_)⟩
  cases e1 : deref M1 d with
  | none => rw [e1] at P1; exact P1.elim
  | some c =>
    rw [e1] at P1
    have L := r1.look S1 e1
    simp only [Option.bind_some] at P1
    cases e2 : itemsD c with
    | none => rw [e2] at P1; exact P1.elim
    | some ds =>
      rw [e2] at P1
      obtain ⟨a, xs, rfl, hq, r⟩ := L.seq e2
      rw [show (gh F ph1 env σ).K = X.K from h2] at hq
      exact ⟨a, xs, rfl, hq, fun p hp => P1.newLst S1 r hp⟩
/-- range(..) as it stands in tuple(..), list(..), reversed(..) -/
abbrev ZR := Ev → Sto → Res (Int × Int)
def RlR : Gh → Hp → Int × Int → Int × Int → Prop := fun _ _ a b => a = b
structure ZRg (X : Cx) (W : WX) (cl : String → Option Addr) (e : Expr) (z : ZR) : Prop where
  ex : ∃ t, PRg X e t ∧ ∀ F ph M env σ H Q, F.cl = cl → F.K = X.K → Sim F ph M env σ H → Post RlR F W env σ ph H (fun p H' => Q p.1 p.2 H') (z env M) → t σ H Q
def zRg1 (z : ZX) : ZR := fun env M => (z env M).bind fun d M1 => match d with
  | .int i => .ok (0, i) M1
  | _ => .fail
def zRg2 (z y : ZX) : ZR := fun env M => (z env M).bind fun d M1 => (y env M1).bind fun e M2 => match d, e with
  | .int i, .int j => .ok (i, j) M2
  | _, _ => .fail
theorem zr_1 (hg : Gl X "range") (hm : X.mg "range" = none) (ha : ZE X W cl a za) (n : nostar a = true := by rfl) : ZRg X W cl (.Call (.Name "range" p) [a] [] pos) (zRg1 za) := by
  obtain ⟨t, pa, q⟩ := ha.ex
  refine ⟨_, prg_1 hg hm pa (star_ok n), fun F ph M env σ H Q h1 h2 S P => q F ph M env σ H _ h1 h2 S (P.step fun d M1 ph1 H1 w S1 f1 r1 P1 => ?_)⟩
  cases d with
  | int i => cases r1; exact ⟨i, rfl, P1 ph1 H1 (0, i) S1 Fwd.refl rfl⟩
  | _ => exact P1.elim
theorem zr_2 (hg : Gl X "range") (hm : X.mg "range" = none) (ha : ZE X W cl a za) (hb : ZE X W cl b zb) (n : nostar a = true := by rfl) (n' : nostar b = true := by rfl) : ZRg X W cl (.Call (.Name "range" p) [a, b] [] pos) (zRg2 za zb) := by
  obtain ⟨t, pa, q⟩ := ha.ex
  obtain ⟨t', pb, q'⟩ := hb.ex
  refine ⟨_, prg_2 hg hm pa pb (star_ok n) (star_ok n') (hp := backTo_two n'), fun F ph M env σ H Q h1 h2 S P => q F ph M env σ H _ h1 h2 S (P.step fun d M1 ph1 H1 w S1 f1 r1 P1 => ?_)⟩
  refine q' F ph1 M1 env σ H1 _ h1 h2 S1 (P1.step fun e M2 ph2 H2 w2 S2 f2 r2 P2 => ?_)
  cases d with
  | int i =>
    cases e with
    | int j => cases r1; cases r2; exact ⟨i, j, rfl, rfl, P2 ph2 H2 (i, j) S2 Fwd.refl rfl⟩
    | _ => exact P2.elim
  | _ => exact P2.elim
def rngD (a b : Int) : List D := (List.range (b - a).toNat).map fun i => D.int (a + (i : Nat))
theorem repL_map {G : Gh} {H : Hp} {α : Type} (f : α → V) (g : α → D) (h : ∀ x, Rep G H (f x) (g x)) : ∀ l : List α, RepL G H (l.map f) (l.map g)
  | [] => .nil
  | x :: l => .cons (h x) (repL_map f g h l)
theorem repL_rng (G : Gh) (H : Hp) (a b : Int) : RepL G H (rgV a b) (rngD a b) := repL_map _ _ (fun i => .int _) _
def zTupRg (z : ZR) : ZX := fun env M => (z env M).bind fun p M1 => if -(2 ^ 62) ≤ p.1 ∧ p.1 < 2 ^ 62 ∧ -(2 ^ 62) ≤ p.2 ∧ p.2 < 2 ^ 62 ∧ (p.2 - p.1).toNat ≤ 2 ^ 24 then .ok (.tup (rngD p.1 p.2)) M1 else .fail
def zLstRg (z : ZR) : ZX := fun env M => (z env M).bind fun p M1 => if -(2 ^ 62) ≤ p.1 ∧ p.1 < 2 ^ 62 ∧ -(2 ^ 62) ≤ p.2 ∧ p.2 < 2 ^ 62 ∧ (p.2 - p.1).toNat ≤ 2 ^ 24 then .ok (.lst (rngD p.1 p.2)) M1 else .fail
theorem ze_tupRg {z : ZR} (hc : X.calm = true) (hg : Gl X "tuple") (hm : X.mg "tuple" = none) (he : ZRg X W cl e z) (n : nostar e = true := by rfl) : ZE X W cl (.Call (.Name "tuple" p) [e] [] pos) (zTupRg z) := by
  obtain ⟨t, pa, q⟩ := he.ex
  refine ⟨_, pe_tupRg hc hg hm pa (star_ok n), fun F ph M env σ H Q h1 h2 S P => q F ph M env σ H _ h1 h2 S (P.step fun d M1 ph1 H1 w S1 f1 r1 P1 => ?_)⟩
  cases (show w = d from r1)
  split at P1
  · rename_i c
    exact ⟨c, fun p hp => P1.newTup S1 (repL_rng _ _ _ _) hp⟩
  · exact P1.elim
theorem zf_lstRg {z : ZR} (hc : X.calm = true) (hg : Gl X "list") (hm : X.mg "list" = none) (he : ZRg X W cl e z) (n : nostar e = true := by rfl) : ZF X W cl (.Call (.Name "list" p) [e] [] pos) (zLstRg z) := by
  obtain ⟨t, pa, q⟩ := he.ex
  refine ⟨_, pe_listRg hc hg hm pa (star_ok n), fun F ph M env σ H Q h1 h2 S P => q F ph M env σ H _ h1 h2 S (P.step fun d M1 ph1 H1 w S1 f1 r1 P1 => ?_)⟩
  cases (show w = d from r1)
  split at P1
  · rename_i c
    exact ⟨c, fun p hp => P1.newLst S1 (repL_rng _ _ _ _) hp⟩
  · exact P1.elim
end
end Zy
set_option maxHeartbeats 2000000
namespace Zy
open PySem PySem.Spec PyProof.Rows L2

/-! statements -/
inductive Out where
  | nx (env : Ev) (M : Sto) | bk (env : Ev) (M : Sto) | ct (env : Ev) (M : Sto) | rt (d : D) (M : Sto) | exc (c : String) (fs : List (Str × D)) (env : Ev) (M : Sto) | fail
def Res.toS {α : Type} (r : Res α) (env : Ev) (k : α → Sto → Out) : Out := match r with
  | .ok a M => k a M
  | .exc c fs M => .exc c fs env M
  | .fail => .fail
@[simp] theorem Res.toS_ok {α : Type} (a : α) (M : Sto) (env : Ev) (k : α → Sto → Out) : (Res.ok a M).toS env k = k a M := id rfl
@[simp] theorem Res.toS_fail {α : Type} (env : Ev) (k : α → Sto → Out) : (Res.fail : Res α).toS env k = .fail := id rfl
@[simp] theorem Res.toS_exc {α : Type} (c : String) (fs : List (Str × D)) (M : Sto) (env : Ev) (k : α → Sto → Out) : (Res.exc c fs M : Res α).toS env k = .exc c fs env M := id rfl
/-- what a def hands back is read without the def's own cells -/
def gh0 (F : Fr) (ph : List Addr) : Gh := ⟨F.K, F.cl, F.N0, ph⟩
structure Fws (F : Fr) (ph : List Addr) (env : Ev) (σ : St) (H : Hp) (ph' : List Addr) (env' : Ev) (σ' : St) (H' : Hp) : Prop where
  ext : ∃ ps, ph' = ph ++ ps ∧ ∀ a ∈ ps, H a = none
  keep : ∀ a o, H a = some o → ¬ (gh F ph env σ).off a → H' a = some o
  own : ∀ a, nof F env' σ' a → nof F env σ a ∨ H a = none
  there : ∀ a o, H a = some o → ∃ o', H' a = some o'
def PoS (F : Fr) (W : WX) (env : Ev) (σ : St) (ph : List Addr) (H : Hp) (B : Ends) : Out → Prop
  | .nx env' M => ∀ ph' σ' H', Sim F ph' M env' σ' H' → Fws F ph env σ H ph' env' σ' H' → B.nx σ' H'
  | .bk env' M => ∀ ph' σ' H', Sim F ph' M env' σ' H' → Fws F ph env σ H ph' env' σ' H' → B.bk σ' H'
  | .ct env' M => ∀ ph' σ' H', Sim F ph' M env' σ' H' → Fws F ph env σ H ph' env' σ' H' → B.ct σ' H'
  | .rt d M => ∀ ph' env' σ' H' v, Sim F ph' M env' σ' H' → Fws F ph env σ H ph' env' σ' H' → Rep (gh0 F ph') H' v d → B.rt v H'
  | .exc c fs env' M => ∀ ph' σ' H' dx f C, Sim F ph' M env' σ' H' → Fws F ph env σ H ph' env' σ' H' → F.cl c = some C → H' dx = some (.xd f) → RepP (gh F ph' env' σ') H' Str f fs → W (.ref C) (some dx) σ' H'
  | .fail => False
section
variable {F : Fr} {W : WX} {ph ph' : List Addr} {M M' : Sto} {env env' : Ev} {σ σ' : St} {H H' : Hp} {α β : Type} {Rl : Gh → Hp → β → α → Prop} {B B' : Ends} {o : Out}
theorem Fwd.ws (f : Fwd ph H ph' H') : Fws F ph env σ H ph' env σ H' := ⟨f.ext, fun a o h n => f.keep a o h fun z => n (.inr z), fun a h => .inl h, f.there⟩
theorem Fws.refl : Fws F ph env σ H ph env σ H := Fwd.refl.ws
theorem Fws.back (f : Fws F ph env σ H ph' env' σ' H') {a : Addr} (h : H' a = none) : H a = none := by
  cases q : H a with
  | none => rfl
  | some o =>
    obtain ⟨o', z⟩ := f.there a o q
    rw [h] at z
    cases z
theorem Fws.mo (f : Fws F ph env σ H ph' env' σ' H') : Mo (gh F ph env σ) (gh F ph' env' σ') H H' := by
  obtain ⟨ps, e, n⟩ := f.ext
  refine ⟨fun a o h k => ⟨f.keep a o h k, fun z => ?_⟩, fun i a h => ?_, rfl, rfl⟩
  · rcases z with z | z
    · rcases f.own a z with z | z
      · exact k (.inl z)
      · rw [h] at z; cases z
    · have z' : a ∈ ph' := z
      rw [e] at z'
      rcases List.mem_append.mp z' with m | m
      · exact k (.inr m)
      · rw [n a m] at h
        cases h
  · show ph'[i]? = some a
    have h' : ph[i]? = some a := h
    rw [e, List.getElem?_append_left (List.getElem?_eq_some_iff.mp h').1]
    exact h'
theorem Fws.trans {p1 p2 p3 : List Addr} {e1 e2 e3 : Ev} {s1 s2 s3 : St} {H1 H2 H3 : Hp} (f : Fws F p1 e1 s1 H1 p2 e2 s2 H2) (g : Fws F p2 e2 s2 H2 p3 e3 s3 H3) : Fws F p1 e1 s1 H1 p3 e3 s3 H3 := by
  have m := f.mo
  obtain ⟨a1, q1, n1⟩ := f.ext
  obtain ⟨a2, q2, n2⟩ := g.ext
  refine ⟨⟨a1 ++ a2, by rw [q2, q1, List.append_assoc], fun a h => ?_⟩, fun a o h n => ?_, fun a h => ?_, fun a o h => ?_⟩
  · rcases List.mem_append.mp h with h | h
    · exact n1 a h
    · exact f.back (n2 a h)
  · obtain ⟨h2, n2⟩ := m.keep a o h n
    exact g.keep a o h2 n2
  · rcases g.own a h with h | h
    · exact f.own a h
    · exact .inr (f.back h)
  · obtain ⟨o', z⟩ := f.there a o h
    exact g.there a o' z
theorem PoS.fwd (P : PoS F W env σ ph H B o) (f : Fws F ph env σ H ph' env' σ' H') : PoS F W env' σ' ph' H' B o := by
  cases o with
  | nx env M => exact fun p1 s1 H1 S g => P p1 s1 H1 S (f.trans g)
  | bk env M => exact fun p1 s1 H1 S g => P p1 s1 H1 S (f.trans g)
  | ct env M => exact fun p1 s1 H1 S g => P p1 s1 H1 S (f.trans g)
  | rt d M => exact fun p1 e1 s1 H1 v S g => P p1 e1 s1 H1 v S (f.trans g)
  | exc c fs env M => exact fun p1 s1 H1 dx ff C S g => P p1 s1 H1 dx ff C S (f.trans g)
  | fail => exact P
theorem PoS.step {Q : β → Hp → Prop} {r : Res α} {k : α → Sto → Out} (P : PoS F W env σ ph H B (r.toS env k))
    (hk : ∀ a M' ph' H' b, Sim F ph' M' env σ H' → Fwd ph H ph' H' → Rl (gh F ph' env σ) H' b a → PoS F W env σ ph' H' B (k a M') → Q b H') : Post Rl F W env σ ph H Q r := by
  cases r with
  | ok d M' => exact fun p1 H1 v S g r => hk d M' p1 H1 v S g r (PoS.fwd P g.ws)
  | exc c fs M' => exact fun p1 H1 dx f C S g => P p1 σ H1 dx f C S g.ws
  | fail => exact P
/-- fewer cells of one's own -/
theorem gh_mo (h : ∀ a, nof F env' σ' a → nof F env σ a) : Mo (gh F ph env σ) (gh F ph env' σ') H H :=
  ⟨fun a o e n => ⟨e, fun z => n (z.elim (fun z => .inl (h a z)) .inr)⟩, fun _ _ h => h, rfl, rfl⟩
theorem gh0_mo : Mo (gh F ph env σ) (gh0 F ph) H H :=
  ⟨fun a o e n => ⟨e, fun z => n (z.elim (fun z => .inl (.inl z)) .inr)⟩, fun _ _ h => h, rfl, rfl⟩
theorem getE_set {α : Type} {l : List α} {i j : Nat} {x y : α} (h : (l.set i x)[j]? = some y) : (j = i ∧ y = x) ∨ (j ≠ i ∧ l[j]? = some y) := by
  by_cases e : i = j
  · subst e
    by_cases hl : i < l.length
    · rw [List.getElem?_set_self hl] at h
      exact .inl ⟨rfl, (Option.some.inj h).symm⟩
    · rw [List.getElem?_eq_none (by rw [List.length_set]; omega)] at h
      cases h
  · rw [List.getElem?_set_ne e] at h
    exact .inr ⟨fun z => e z.symm, h⟩
/-- slots i of env and σ are set, what is new there is no cell of one's own -/
theorem Sim.setSlot {i : Nat} {w : Sl} {v : V} (S : Sim F ph M env σ H) (hi : i < σ.length) (h1 : ∀ d, w ≠ .own d)
    (h2 : ∀ d, w = .val d → Rep (gh F ph env σ) H v d) (h3 : ∀ d, w = .bor d → ∃ a, v = .ref a ∧ F.N0 a ∧ Cel (gh F ph env σ) H a d ∧ ∃ o, F.H0 a = some o) : Sim F ph M (env.set i w) (σ.set i (some v)) H := by
  have sub : ∀ a, nof F (env.set i w) (σ.set i (some v)) a → nof F env σ a := fun a z => by
    rcases z with z | ⟨j, d, e1, e2⟩
    · exact .inl z
    · rcases getE_set e1 with ⟨_, e⟩ | ⟨ne, e⟩
      · exact absurd e.symm (h1 d)
      · rcases getE_set e2 with ⟨e', _⟩ | ⟨_, e'⟩
        · exact absurd e' ne
        · exact .inr ⟨j, d, e, e'⟩
  have m : Mo (gh F ph env σ) (gh F ph (env.set i w) (σ.set i (some v))) H H := gh_mo sub
  refine ⟨by rw [List.length_set, List.length_set]; exact S.len, S.pre, S.keep, S.n0, S.ml, S.nd, fun j d e => ?_, fun j d e => ?_, fun j d e => ?_, fun j k d e a e1 e2 e3 e4 => ?_, fun j d e => ?_⟩
  · obtain ⟨a, q, c⟩ := S.sto j d e
    exact ⟨a, q, c.mo m fun _ h => h⟩
  · rcases getE_set e with ⟨rfl, ee⟩ | ⟨ne, e⟩
    · exact ⟨v, by rw [List.getElem?_set_self hi], (h2 d ee.symm).mo m⟩
    · obtain ⟨u, q, r⟩ := S.val j d e
      exact ⟨u, by rw [List.getElem?_set_ne ne.symm]; exact q, r.mo m⟩
  · rcases getE_set e with ⟨rfl, ee⟩ | ⟨ne, e⟩
    · exact absurd ee.symm (h1 d)
    · obtain ⟨a, q, c, h⟩ := S.own j d e
      exact ⟨a, by rw [List.getElem?_set_ne ne.symm]; exact q, c.mo m fun _ h => h, h⟩
  · rcases getE_set e1 with ⟨_, z⟩ | ⟨n1, e1⟩
    · exact absurd z.symm (h1 d)
    rcases getE_set e2 with ⟨_, z⟩ | ⟨n2, e2⟩
    · exact absurd z.symm (h1 e)
    rw [List.getElem?_set_ne n1.symm] at e3
    rw [List.getElem?_set_ne n2.symm] at e4
    exact S.ap j k d e a e1 e2 e3 e4
  · rcases getE_set e with ⟨rfl, ee⟩ | ⟨ne, e⟩
    · obtain ⟨a, rfl, n, c, o⟩ := h3 d ee.symm
      exact ⟨a, by rw [List.getElem?_set_self hi], n, c.mo m fun _ h => h, o⟩
    · obtain ⟨a, q, n, c, o⟩ := S.brw j d e
      exact ⟨a, by rw [List.getElem?_set_ne ne.symm]; exact q, n, c.mo m fun _ h => h, o⟩
theorem Sim.setVal {i : Nat} {v : V} {d : D} (S : Sim F ph M env σ H) (hi : i < σ.length) (r : Rep (gh F ph env σ) H v d) : Sim F ph M (env.set i (.val d)) (σ.set i (some v)) H :=
  S.setSlot hi (fun _ e => nomatch e) (fun d' e => by cases e; exact r) (fun _ e => nomatch e)
/-- a new cell becomes the slot's own -/
theorem Sim.setOwn {i : Nat} {a : Addr} {d : D} (S : Sim (F.plus a) ph M env σ H) (hi : i < σ.length) (c : Cel (gh (F.plus a) ph env σ) H a d) (h0 : F.H0 a = none) (n0 : ¬ F.N0 a) :
    Sim F ph M (env.set i (.own d)) (σ.set i (some (.ref a))) H := by
  have hne : i < env.length := by rw [S.len]; exact hi
  have sub : ∀ b, nof F (env.set i (.own d)) (σ.set i (some (.ref a))) b → nof (F.plus a) env σ b := fun b z => by
    rcases z with z | ⟨j, d', e1, e2⟩
    · exact .inl (.inl z)
    · rcases getE_set e1 with ⟨rfl, _⟩ | ⟨ne, e⟩
      · rcases getE_set e2 with ⟨_, e'⟩ | ⟨n, _⟩
        · cases e'
          exact .inl (.inr rfl)
        · exact absurd rfl n
      · rcases getE_set e2 with ⟨e', _⟩ | ⟨_, e'⟩
        · exact absurd e' ne
        · exact .inr ⟨j, d', e, e'⟩
  have m : Mo (gh (F.plus a) ph env σ) (gh F ph (env.set i (.own d)) (σ.set i (some (.ref a)))) H H :=
    ⟨fun b o e n => ⟨e, fun z => n (z.elim (fun z => .inl (sub b z)) .inr)⟩, fun _ _ h => h, rfl, rfl⟩
  have na : a ∉ ph := (S.n0 a (.inr rfl)).2
  refine ⟨by rw [List.length_set, List.length_set]; exact S.len, S.pre, S.keep, fun b z => S.n0 b (.inl z), S.ml, S.nd, fun j d e => ?_, fun j d e => ?_, fun j d e => ?_, fun j k d e b e1 e2 e3 e4 => ?_, fun j d e => ?_⟩
  · obtain ⟨a, q, c⟩ := S.sto j d e
    exact ⟨a, q, c.mo m fun _ h => h⟩
  · rcases getE_set e with ⟨_, e⟩ | ⟨ne, e⟩
    · cases e
    · obtain ⟨u, q, r⟩ := S.val j d e
      exact ⟨u, by rw [List.getElem?_set_ne ne.symm]; exact q, r.mo m⟩
  · rcases getE_set e with ⟨rfl, ee⟩ | ⟨ne, e⟩
    · cases ee
      exact ⟨a, by rw [List.getElem?_set_self hi], c.mo m fun _ h => h, h0, na, n0⟩
    · obtain ⟨b, q, c, h, n, k⟩ := S.own j d e
      exact ⟨b, by rw [List.getElem?_set_ne ne.symm]; exact q, c.mo m fun _ h => h, h, n, fun z => k (.inl z)⟩
  · rcases getE_set e1 with ⟨rfl, z⟩ | ⟨n1, e1'⟩
    · rw [List.getElem?_set_self hi] at e3
      cases e3
      rcases getE_set e2 with ⟨rfl, z⟩ | ⟨n2, e2'⟩
      · rfl
      · rw [List.getElem?_set_ne n2.symm] at e4
        obtain ⟨b, q, _, _, _, kk⟩ := S.own k e e2'
        rw [e4] at q
        cases q
        exact absurd (.inr rfl) kk
    · rw [List.getElem?_set_ne n1.symm] at e3
      rcases getE_set e2 with ⟨rfl, z⟩ | ⟨n2, e2'⟩
      · rw [List.getElem?_set_self hi] at e4
        cases e4
        obtain ⟨b, q, _, _, _, kk⟩ := S.own j d e1'
        rw [e3] at q
        cases q
        exact absurd (.inr rfl) kk
      · rw [List.getElem?_set_ne n2.symm] at e4
        exact S.ap j k d e b e1' e2' e3 e4
  · rcases getE_set e with ⟨_, e⟩ | ⟨ne, e⟩
    · cases e
    · obtain ⟨b, q, n, c, o, ho⟩ := S.brw j d e
      rcases n with n | n
      · exact ⟨b, by rw [List.getElem?_set_ne ne.symm]; exact q, n, c.mo m fun _ h => h, o, ho⟩
      · have n' : b = a := n
        have ho' : F.H0 b = some o := ho
        rw [n', h0] at ho'
        cases ho'
/-- one's own cell is frozen -/
theorem Sim.freeze {i : Nat} {d : D} (S : Sim F ph M env σ H) (e0 : env[i]? = some (.own d)) : Sim F ph M (env.set i (.val d)) σ H := by
  obtain ⟨a, q0, c0, h0, n0, k0⟩ := S.own i d e0
  have hi : i < env.length := (List.getElem?_eq_some_iff.mp e0).1
  have sub : ∀ b, nof F (env.set i (.val d)) σ b → nof F env σ b := fun b z => by
    rcases z with z | ⟨j, d', e1, e2⟩
    · exact .inl z
    · rcases getE_set e1 with ⟨_, e⟩ | ⟨ne, e⟩
      · cases e
      · exact .inr ⟨j, d', e, e2⟩
  have m : Mo (gh F ph env σ) (gh F ph (env.set i (.val d)) σ) H H := gh_mo sub
  have off : ¬ (gh F ph (env.set i (.val d)) σ).off a := fun z => by
    rcases z with z | z
    · rcases z with z | ⟨j, d', e1, e2⟩
      · exact k0 z
      · rcases getE_set e1 with ⟨_, e⟩ | ⟨ne, e⟩
        · cases e
        · exact ne (S.ap j i d' d a e e0 e2 q0)
    · exact n0 z
  refine ⟨by rw [List.length_set]; exact S.len, S.pre, S.keep, S.n0, S.ml, S.nd, fun j d e => ?_, fun j d' e => ?_, fun j d' e => ?_, fun j k d e b e1 e2 e3 e4 => ?_, fun j d e => ?_⟩
  · obtain ⟨a, q, c⟩ := S.sto j d e
    exact ⟨a, q, c.mo m fun _ h => h⟩
  · rcases getE_set e with ⟨rfl, ee⟩ | ⟨ne, e⟩
    · cases ee
      exact ⟨.ref a, q0, c0.rep m off⟩
    · obtain ⟨u, q, r⟩ := S.val j d' e
      exact ⟨u, q, r.mo m⟩
  · rcases getE_set e with ⟨_, e⟩ | ⟨ne, e⟩
    · cases e
    · obtain ⟨b, q, c, h⟩ := S.own j d' e
      exact ⟨b, q, c.mo m fun _ h => h, h⟩
  · rcases getE_set e1 with ⟨_, z⟩ | ⟨n1, e1⟩
    · cases z
    rcases getE_set e2 with ⟨_, z⟩ | ⟨n2, e2⟩
    · cases z
    exact S.ap j k d e b e1 e2 e3 e4
  · rcases getE_set e with ⟨_, e⟩ | ⟨ne, e⟩
    · cases e
    · obtain ⟨b, q, n, c, o⟩ := S.brw j d e
      exact ⟨b, q, n, c.mo m fun _ h => h, o⟩
/-- one's own cell is written -/
theorem Sim.wrOwn {i : Nat} {d d' : D} {a : Addr} {o' : HO} (S : Sim F ph M env σ H) (e0 : env[i]? = some (.own d)) (q0 : σ[i]? = some (some (.ref a)))
    (c' : Cel (gh F ph env σ) (upd H a o') a d') : Sim F ph M (env.set i (.own d')) σ (upd H a o') ∧ Fws F ph env σ H ph (env.set i (.own d')) σ (upd H a o') := by
  obtain ⟨a', q, c0, h0, n0, k0⟩ := S.own i d e0
  rw [q0] at q
  cases q
  have hi : i < env.length := (List.getElem?_eq_some_iff.mp e0).1
  have offa : (gh F ph env σ).off a := .inl (.inr ⟨i, d, e0, q0⟩)
  have sub : ∀ b, nof F (env.set i (.own d')) σ b → nof F env σ b := fun b z => by
    rcases z with z | ⟨j, d2, e1, e2⟩
    · exact .inl z
    · rcases getE_set e1 with ⟨rfl, e⟩ | ⟨ne, e⟩
      · exact .inr ⟨j, d, e0, e2⟩
      · exact .inr ⟨j, d2, e, e2⟩
  have m : Mo (gh F ph env σ) (gh F ph (env.set i (.own d')) σ) H (upd H a o') := ⟨fun b o e n => by
    have nb : b ≠ a := fun z => n (by rw [z]; exact offa)
    exact ⟨by rw [upd_ne nb]; exact e, fun z => n (z.elim (fun z => .inl (sub b z)) .inr)⟩, fun _ _ h => h, rfl, rfl⟩
  have m2 : Mo (gh F ph env σ) (gh F ph (env.set i (.own d')) σ) (upd H a o') (upd H a o') := gh_mo sub
  have kp : ∀ b, b ≠ a → ∀ o, H b = some o → upd H a o' b = some o := fun b nb o e => by rw [upd_ne nb]; exact e
  have there : ∀ b o, H b = some o → ∃ u, upd H a o' b = some u := fun b o e => by
    by_cases nb : b = a
    · exact ⟨o', by rw [nb]; exact upd_same⟩
    · exact ⟨o, kp b nb o e⟩
  refine ⟨⟨by rw [List.length_set]; exact S.len, S.pre, fun b u e n => ?_, fun b z => ?_, S.ml, S.nd, fun j d e => ?_, fun j d2 e => ?_, fun j d2 e => ?_, fun j k d2 e b e1 e2 e3 e4 => ?_, fun j d2 e => ?_⟩,
    ⟨⟨[], by simp, fun b h => by simp at h⟩, fun b o e n => (m.keep b o e n).1, fun b z => .inl (sub b z), there⟩⟩
  · refine kp b (fun z => ?_) u (S.keep b u e n)
    rw [z, h0] at e
    cases e
  · obtain ⟨⟨o, q⟩, n⟩ := S.n0 b z
    exact ⟨there b o q, n⟩
  · obtain ⟨b, q, c⟩ := S.sto j d e
    refine ⟨b, q, c.mo m (kp b fun z => n0 ?_)⟩
    rw [← z]
    exact List.mem_of_getElem? q
  · rcases getE_set e with ⟨_, e⟩ | ⟨ne, e⟩
    · cases e
    · obtain ⟨u, q, r⟩ := S.val j d2 e
      exact ⟨u, q, r.mo m⟩
  · rcases getE_set e with ⟨rfl, ee⟩ | ⟨ne, e⟩
    · cases ee
      exact ⟨a, q0, c'.mo m2 fun _ h => h, h0, n0, k0⟩
    · obtain ⟨b, q, c, h⟩ := S.own j d2 e
      refine ⟨b, q, c.mo m (kp b fun z => ne ?_), h⟩
      rw [z] at q
      exact S.ap j i d2 d a e e0 q q0
  · rcases getE_set e1 with ⟨rfl, z⟩ | ⟨n1, e1'⟩
    · rcases getE_set e2 with ⟨rfl, z⟩ | ⟨n2, e2'⟩
      · rfl
      · exact S.ap j k d e b e0 e2' e3 e4
    · rcases getE_set e2 with ⟨rfl, z⟩ | ⟨n2, e2'⟩
      · exact S.ap j k d2 d b e1' e0 e3 e4
      · exact S.ap j k d2 e b e1' e2' e3 e4
  · rcases getE_set e with ⟨_, e⟩ | ⟨ne, e⟩
    · cases e
    · obtain ⟨b, q, n, c, o⟩ := S.brw j d2 e
      refine ⟨b, q, n, c.mo m (kp b fun z => k0 ?_), o⟩
      rw [← z]
      exact n
end
end Zy
set_option maxHeartbeats 2000000
namespace Zy
open PySem PySem.Spec PyProof.Rows L2

abbrev ZS := Ev → Sto → Out
structure Zs (X : Cx) (W : WX) (cl : String → Option Addr) (st : Stmt) (z : ZS) : Prop where
  ex : ∃ t, PS X st t ∧ ∀ F ph M env σ H B, F.cl = cl → F.K = X.K → Sim F ph M env σ H → PoS F W env σ ph H B (z env M) → t B σ H
structure Zb (X : Cx) (W : WX) (cl : String → Option Addr) (sts : List Stmt) (z : ZS) : Prop where
  ex : ∃ t, PSs X sts t ∧ ∀ F ph M env σ H B, F.cl = cl → F.K = X.K → Sim F ph M env σ H → PoS F W env σ ph H B (z env M) → t B σ H
section
variable {F : Fr} {W : WX} {ph ph' : List Addr} {M M' : Sto} {env env' : Ev} {σ σ' : St} {H H' : Hp} {B : Ends}
theorem set_out {α : Type} {l : List α} {i : Nat} {x : α} (h : ¬ i < l.length) : l.set i x = l := by
  apply List.ext_getElem?
  intro j
  by_cases e : i = j
  · subst e
    rw [List.getElem?_eq_none (by rw [List.length_set]; omega), List.getElem?_eq_none (by omega)]
  · rw [List.getElem?_set_ne e]
theorem Sim.setV {i : Nat} {v : V} {d : D} (S : Sim F ph M env σ H) (r : Rep (gh F ph env σ) H v d) : Sim F ph M (env.set i (.val d)) (σ.set i (some v)) H := by
  by_cases hi : i < σ.length
  · exact S.setVal hi r
  · rw [set_out hi, set_out (by rw [S.len]; exact hi)]
    exact S
/-- setting a slot frees at most a cell of one's own -/
theorem Fws.setV {i : Nat} {w : Sl} {v : Option V} (h : ∀ d, w ≠ .own d) : Fws F ph env σ H ph (env.set i w) (σ.set i v) H := by
  refine ⟨⟨[], by simp, fun a h => by simp at h⟩, fun _ _ e _ => e, fun a z => .inl ?_, fun a o e => ⟨o, e⟩⟩
  rcases z with z | ⟨j, d, e1, e2⟩
  · exact .inl z
  · rcases getE_set e1 with ⟨_, e⟩ | ⟨ne, e⟩
    · exact absurd e.symm (h d)
    · rcases getE_set e2 with ⟨e', _⟩ | ⟨_, e'⟩
      · exact absurd e' ne
      · exact .inr ⟨j, d, e, e'⟩
theorem Fws.frz {i : Nat} {d : D} : Fws F ph env σ H ph (env.set i (.val d)) σ H := by
  refine ⟨⟨[], by simp, fun a h => by simp at h⟩, fun _ _ e _ => e, fun a z => .inl ?_, fun a o e => ⟨o, e⟩⟩
  rcases z with z | ⟨j, d, e1, e2⟩
  · exact .inl z
  · rcases getE_set e1 with ⟨_, e⟩ | ⟨ne, e⟩
    · cases e
    · exact .inr ⟨j, d, e, e2⟩
/-- a statement's way on -/
theorem PoS.nxt (P : PoS F W env σ ph H B (.nx env' M')) (S : Sim F ph' M' env' σ' H') (f : Fws F ph env σ H ph' env' σ' H') : B.nx σ' H' := P ph' σ' H' S f
theorem PoS.setV {i : Nat} {v : V} {d : D} (P : PoS F W env σ ph H B (.nx (env.set i (.val d)) M)) (S : Sim F ph M env σ H) (r : Rep (gh F ph env σ) H v d) : B.nx (σ.set i (some v)) H :=
  P ph _ H (S.setV r) (Fws.setV fun _ e => nomatch e)
end
section
variable {X : Cx} {W : WX} {cl : String → Option Addr} {e a b : Expr} {es : List Expr} {z za zb zc : ZX} {zs : ZL} {pos pos' : Pos} {st : Stmt} {sts : List Stmt} {y y' : ZS} {yb : ZB} {i j : Nat} {x : Str}
theorem zb_nil : Zb X W cl [] fun env M => .nx env M := ⟨_, pss_nil, fun F ph M env σ H B _ _ S P => P.nxt S Fws.refl⟩
def zSeq (y y' : ZS) : ZS := fun env M => match y env M with
  | .nx env M => y' env M
  | o => o
theorem pos_seq {F : Fr} {ph : List Addr} {M : Sto} {env : Ev} {σ : St} {H : Hp} {B : Ends} {nx' : St → Hp → Prop} (P : PoS F W env σ ph H B (zSeq y y' env M))
    (h : ∀ ph' M' env' σ' H', Sim F ph' M' env' σ' H' → PoS F W env' σ' ph' H' B (y' env' M') → nx' σ' H') : PoS F W env σ ph H { B with nx := nx' } (y env M) := by
  unfold zSeq at P
  cases q : y env M with
  | nx env' M' =>
    rw [q] at P
    exact fun ph' σ' H' S f => h ph' M' env' σ' H' S (PoS.fwd P f)
  | bk env' M' => rw [q] at P; exact P
  | ct env' M' => rw [q] at P; exact P
  | rt d M' => rw [q] at P; exact P
  | exc c fs env' M' => rw [q] at P; exact P
  | fail => rw [q] at P; exact P
theorem zb_cons (h1 : Zs X W cl st y) (h2 : Zb X W cl sts y') : Zb X W cl (st :: sts) (zSeq y y') := by
  obtain ⟨t, p, q⟩ := h1.ex
  obtain ⟨t', p', q'⟩ := h2.ex
  exact ⟨_, pss_cons p p', fun F ph M env σ H B h1 h2 S P => q F ph M env σ H _ h1 h2 S (pos_seq P fun ph' M' env' σ' H' S' P' => q' F ph' M' env' σ' H' B h1 h2 S' P')⟩
theorem zs_pass : Zs X W cl (.Pass pos) fun env M => .nx env M := ⟨_, ps_pass, fun F ph M env σ H B _ _ S P => P.nxt S Fws.refl⟩
theorem zs_break : Zs X W cl (.Break pos) fun env M => .bk env M := ⟨_, ps_break, fun F ph M env σ H B _ _ S P => P ph σ H S Fws.refl⟩
theorem zs_continue : Zs X W cl (.Continue pos) fun env M => .ct env M := ⟨_, ps_continue, fun F ph M env σ H B _ _ S P => P ph σ H S Fws.refl⟩
theorem zs_never : Zs X W cl st fun _ _ => .fail := ⟨_, ps_never, fun F ph M env σ H B _ _ S P => P⟩
/-- one's own cells at these slots are frozen first -/
def frz (env : Ev) : List Nat → Ev
  | [] => env
  | i :: is => frz (match env[i]? with
    | some (.own d) => env.set i (.val d)
    | _ => env) is
theorem Sim.frz {F : Fr} {ph : List Addr} {M : Sto} {σ : St} {H : Hp} : ∀ {is : List Nat} {env : Ev}, Sim F ph M env σ H → Sim F ph M (Zy.frz env is) σ H ∧ Fws F ph env σ H ph (Zy.frz env is) σ H
  | [], env, S => ⟨S, Fws.refl⟩
  | i :: is, env, S => by
    unfold Zy.frz
    split
    · rename_i d e
      obtain ⟨S1, f1⟩ := Sim.frz (is := is) (S.freeze e)
      exact ⟨S1, Fws.trans Fws.frz f1⟩
    · exact Sim.frz S
def zFrz (is : List Nat) (y : ZS) : ZS := fun env M => y (frz env is) M
theorem zs_frz {is : List Nat} (h : Zs X W cl st y) : Zs X W cl st (zFrz is y) := by
  obtain ⟨t, p, q⟩ := h.ex
  refine ⟨t, p, fun F ph M env σ H B h1 h2 S P => ?_⟩
  obtain ⟨S1, f1⟩ := Sim.frz (is := is) S
  exact q F ph M _ σ H B h1 h2 S1 (PoS.fwd P f1)
def zDrop (z : ZX) : ZS := fun env M => (z env M).toS env fun _ M1 => .nx env M1
theorem zs_expr (h : ZC X W cl e z) (hs : swapsWith e none pos.line X.env = pure false) : Zs X W cl (.Expr e pos) (zDrop z) := by
  obtain ⟨t, p, q⟩ := h.ex
  exact ⟨_, ps_expr p hs, fun F ph M env σ H B h1 h2 S P => q F ph M env σ H _ h1 h2 S (PoS.step P fun d M1 ph1 H1 v S1 f1 r1 P1 => P1.nxt S1 Fws.refl)⟩
def zRet (z : ZX) : ZS := fun env M => (z env M).toS env fun d M1 => .rt d M1
theorem zs_ret (h : ZE X W cl e z) : Zs X W cl (.Return (some e) pos) (zRet z) := by
  obtain ⟨t, p, q⟩ := h.ex
  exact ⟨_, ps_ret p, fun F ph M env σ H B h1 h2 S P => q F ph M env σ H _ h1 h2 S (PoS.step P fun d M1 ph1 H1 v S1 f1 r1 P1 => P1 ph1 env σ H1 v S1 Fws.refl (r1.mo gh0_mo))⟩
theorem zs_retN : Zs X W cl (.Return none pos) fun _ M => .rt .non M := ⟨_, ps_retN, fun F ph M env σ H B _ _ S P => P ph env σ H .non S Fws.refl .non⟩
/-- x = e -/
def zSet (i : Nat) (z : ZX) : ZS := fun env M => (z env M).toS env fun d M1 => .nx (env.set i (.val d)) M1
theorem zs_set (hN : X.N.Nodup) (hi : X.N[i]? = some x) (hx : Loc X.env.scope x) (hf : X.fn x = true ∨ X.env.scope.names.lookup x = some .local) (h : ZE X W cl e z)
    (hs : swapsWith e (some (.Name x pos')) pos.line X.env = pure false) : Zs X W cl (.Assign [.Name x pos'] e pos) (zSet i z) := by
  obtain ⟨t, p, q⟩ := h.ex
  exact ⟨_, ps_set hN hi hx p hs hf, fun F ph M env σ H B h1 h2 S P => q F ph M env σ H _ h1 h2 S (PoS.step P fun d M1 ph1 H1 v S1 f1 r1 P1 => P1.setV S1 r1)⟩
/-- from a fresh value: what is wanted of the new cell -/
theorem PoS.stepF {F : Fr} {ph : List Addr} {M : Sto} {env : Ev} {σ : St} {H : Hp} {B : Ends} {Q : VK} {r : Res D} {k : D → Sto → Out} (P : PoS F W env σ ph H B (r.toS env k))
    (hk : ∀ d M' ph' H' a, Sim (F.plus a) ph' M' env σ H' → Fwd ph H ph' H' → Cel (gh (F.plus a) ph' env σ) H' a d → H a = none → PoS F W env σ ph' H' B (k d M') → Q (.ref a) H') : PoF F W env σ ph H Q r := by
  cases r with
  | ok d M' => exact fun p1 H1 a S f c hn => hk d M' p1 H1 a S f c hn (PoS.fwd P f.ws)
  | exc c fs M' => exact fun p1 H1 dx f C S g => P p1 σ H1 dx f C S g.ws
  | fail => exact P
def zSetO (i : Nat) (z : ZX) : ZS := fun env M => (z env M).toS env fun d M1 => .nx (env.set i (.own d)) M1
theorem Sim.setO {F : Fr} {ph : List Addr} {M : Sto} {env : Ev} {σ : St} {H : Hp} {i : Nat} {a : Addr} {d : D} (S : Sim (F.plus a) ph M env σ H) (c : Cel (gh (F.plus a) ph env σ) H a d) (h0 : F.H0 a = none) (n0 : ¬ F.N0 a) :
    Sim F ph M (env.set i (.own d)) (σ.set i (some (.ref a))) H := by
  by_cases hi : i < σ.length
  · exact S.setOwn hi c h0 n0
  · rw [set_out hi, set_out (by rw [S.len]; exact hi)]
    exact (S.unplus h0).1
theorem nof_none {F : Fr} {ph : List Addr} {M : Sto} {env : Ev} {σ : St} {H : Hp} {a : Addr} (S : Sim F ph M env σ H) (h : H a = none) : ¬ nof F env σ a := fun z => S.fresh h (.inl z)
theorem n0_none {F : Fr} {ph : List Addr} {M : Sto} {env : Ev} {σ : St} {H : Hp} {a : Addr} (S : Sim F ph M env σ H) (h : H a = none) : ¬ F.N0 a := fun z => S.fresh h (.inl (.inl z))
theorem own_ws {F : Fr} {ph ph' : List Addr} {M : Sto} {env : Ev} {σ : St} {H H' : Hp} {i : Nat} {a : Addr} {d : D} (f : Fwd ph H ph' H') (h : H a = none) : Fws F ph env σ H ph' (env.set i (.own d)) (σ.set i (some (.ref a))) H' := by
  refine ⟨f.ext, fun b o e n => f.keep b o e fun z => n (.inr z), fun b z => ?_, f.there⟩
  rcases z with z | ⟨j, d', e1, e2⟩
  · exact .inl (.inl z)
  · rcases getE_set e1 with ⟨rfl, _⟩ | ⟨ne, e⟩
    · rcases getE_set e2 with ⟨_, e'⟩ | ⟨n, _⟩
      · cases e'
        exact .inr h
      · exact absurd rfl n
    · rcases getE_set e2 with ⟨e', _⟩ | ⟨_, e'⟩
      · exact absurd e' ne
      · exact .inl (.inr ⟨j, d', e, e'⟩)
/-- what reads a fresh value and goes on with it as a new own slot -/
theorem post_own {F : Fr} {ph : List Addr} {M : Sto} {env : Ev} {σ : St} {H : Hp} {B : Ends} (S : Sim F ph M env σ H) (P : PoS F W env σ ph H B (zSetO i z env M)) : PoF F W env σ ph H (fun v H1 => gName i v σ H1 B.nx) (z env M) := by
  unfold zSetO at P
  cases q : z env M with
  | ok d M' =>
    rw [q] at P
    exact fun p1 H1 a S1 f c hn => PoS.nxt P (S1.setO c (S.h0 hn) (n0_none S hn)) (own_ws (M := M') f hn)
  | exc c fs M' =>
    rw [q] at P
    exact fun p1 H1 dx f C S1 g => P p1 σ H1 dx f C S1 g.ws
  | fail => rw [q] at P; exact P
theorem zs_setO (hN : X.N.Nodup) (hi : X.N[i]? = some x) (hx : Loc X.env.scope x) (hf : X.fn x = true ∨ X.env.scope.names.lookup x = some .local) (h : ZF X W cl e z)
    (hs : swapsWith e (some (.Name x pos')) pos.line X.env = pure false) : Zs X W cl (.Assign [.Name x pos'] e pos) (zSetO i z) := by
  obtain ⟨t, p, q⟩ := h.ex
  exact ⟨_, ps_set hN hi hx p hs hf, fun F ph M env σ H B h1 h2 S P => q F ph M env σ H _ h1 h2 S (post_own S P)⟩
/-- .. as a new cell of the store -/
def zSetC (i : Nat) (z : ZX) : ZS := fun env M => (z env M).toS env fun d M1 => .nx (env.set i (.val (.ref M1.length))) (M1 ++ [d])
theorem Sim.toSto {F : Fr} {ph : List Addr} {M : Sto} {env : Ev} {σ : St} {H : Hp} {a : Addr} {d : D} (S : Sim (F.plus a) ph M env σ H) (c : Cel (gh (F.plus a) ph env σ) H a d) (h0 : F.H0 a = none) (n0 : ¬ F.N0 a) : Sim F (ph ++ [a]) (M ++ [d]) env σ H ∧ (ph ++ [a])[M.length]? = some a := by
  have na : a ∉ ph := (S.n0 a (.inr rfl)).2
  have m : Mo (gh (F.plus a) ph env σ) (gh F (ph ++ [a]) env σ) H H := by
    refine ⟨fun b o e n => ⟨e, fun z => n ?_⟩, fun j b e => ?_, rfl, rfl⟩
    · rcases z with z | z
      · rcases z with z | z
        · exact .inl (.inl (.inl z))
        · exact .inl (.inr z)
      · rcases List.mem_append.mp (show b ∈ ph ++ [a] from z) with z | z
        · exact .inr z
        · exact .inl (.inl (.inr (by simpa using z)))
    · have e' : ph[j]? = some b := e
      show (ph ++ [a])[j]? = some b
      rw [List.getElem?_append_left (List.getElem?_eq_some_iff.mp e').1]
      exact e'
  have la : (ph ++ [a])[M.length]? = some a := by rw [S.ml]; simp
  refine ⟨⟨S.len, ?_, S.keep, fun b z => ?_, by rw [List.length_append, List.length_append, S.ml]; rfl, ?_, fun j d' e => ?_, fun j d' e => ?_, fun j d' e => ?_, S.ap, fun j d' e => ?_⟩, la⟩
  · obtain ⟨ps, e, n⟩ := S.pre
    refine ⟨ps ++ [a], by rw [e]; exact List.append_assoc _ _ _, fun b z => ?_⟩
    rcases List.mem_append.mp z with z | z
    · exact n b z
    · have z' : b = a := by simpa using z
      rw [z']
      exact h0
  · obtain ⟨q, n⟩ := S.n0 b (.inl z)
    refine ⟨q, fun k => ?_⟩
    rcases List.mem_append.mp k with k | k
    · exact n k
    · have k' : b = a := by simpa using k
      subst k'
      exact n0 z
  · rw [List.nodup_append]
    exact ⟨S.nd, by simp, fun b hb c hc => by
      have hc' : c = a := by simpa using hc
      rw [hc']
      exact fun z => na (z ▸ hb)⟩
  · by_cases hj : j < M.length
    · rw [List.getElem?_append_left hj] at e
      obtain ⟨b, q, c⟩ := S.sto j d' e
      exact ⟨b, by rw [List.getElem?_append_left (by rw [← S.ml]; exact hj)]; exact q, c.mo m fun _ h => h⟩
    · have hj' : j = M.length := by
        have := (List.getElem?_eq_some_iff.mp e).1
        simp at this
        omega
      subst hj'
      have e' : d = d' := by simpa using e
      subst e'
      exact ⟨a, la, c.mo m fun _ h => h⟩
  · obtain ⟨v, q, r⟩ := S.val j d' e
    exact ⟨v, q, r.mo m⟩
  · obtain ⟨b, q, c, h, n, k⟩ := S.own j d' e
    refine ⟨b, q, c.mo m fun _ h => h, h, fun z => ?_, fun z => k (.inl z)⟩
    rcases List.mem_append.mp z with z | z
    · exact n z
    · exact k (.inr (by simpa using z))
  · obtain ⟨b, q, n, c, o, ho⟩ := S.brw j d' e
    rcases n with n | n
    · exact ⟨b, q, n, c.mo m fun _ h => h, o, ho⟩
    · have n' : b = a := n
      have ho' : F.H0 b = some o := ho
      rw [n', h0] at ho'
      cases ho'
theorem post_cel {F : Fr} {ph : List Addr} {M : Sto} {env : Ev} {σ : St} {H : Hp} {B : Ends} (S : Sim F ph M env σ H) (P : PoS F W env σ ph H B (zSetC i z env M)) : PoF F W env σ ph H (fun v H1 => gName i v σ H1 B.nx) (z env M) := by
  unfold zSetC at P
  cases q : z env M with
  | ok d M' =>
    rw [q] at P
    intro p1 H1 a S1 f c hn
    obtain ⟨S2, la⟩ := S1.toSto c (S.h0 hn) (n0_none S hn)
    have r : Rep (gh F (p1 ++ [a]) env σ) H1 (.ref a) (.ref M'.length) := .ref la
    obtain ⟨ps, e1, hps⟩ := f.ext
    refine PoS.nxt P (S2.setV r) (Fws.trans (Fwd.ws (ph' := p1 ++ [a]) ⟨⟨ps ++ [a], by rw [e1]; exact List.append_assoc _ _ _, fun b z => ?_⟩, f.keep, f.there⟩) (Fws.setV fun _ e => nomatch e))
    rcases List.mem_append.mp z with z | z
    · exact hps b z
    · have z' : b = a := by simpa using z
      rw [z']
      exact hn
  | exc c fs M' =>
    rw [q] at P
    exact fun p1 H1 dx f C S1 g => P p1 σ H1 dx f C S1 g.ws
  | fail => rw [q] at P; exact P
theorem zs_setC (hN : X.N.Nodup) (hi : X.N[i]? = some x) (hx : Loc X.env.scope x) (hf : X.fn x = true ∨ X.env.scope.names.lookup x = some .local) (h : ZF X W cl e z)
    (hs : swapsWith e (some (.Name x pos')) pos.line X.env = pure false) : Zs X W cl (.Assign [.Name x pos'] e pos) (zSetC i z) := by
  obtain ⟨t, p, q⟩ := h.ex
  exact ⟨_, ps_set hN hi hx p hs hf, fun F ph M env σ H B h1 h2 S P => q F ph M env σ H _ h1 h2 S (post_cel S P)⟩
/-! targets -/
theorem PG.or {tg : Expr} {g g' : TG} (h : PG X tg g) (h' : PG X tg g') : PG X tg fun v σ H Q => g v σ H Q ∨ g' v σ H Q :=
  ⟨fun pins s σ H v u Q I r q => q.elim (h.run pins s σ H v u Q I r) (h'.run pins s σ H v u Q I r)⟩
abbrev ZTg := D → Ev → Option Ev
structure Zg (X : Cx) (tg : Expr) (gz : ZTg) : Prop where
  ex : ∃ g, PG X tg g ∧ ∀ F ph M env σ H (Q : St → Hp → Prop) v d env', F.K = X.K → Sim F ph M env σ H → Rep (gh F ph env σ) H v d → gz d env = some env' → (∀ σ', Sim F ph M env' σ' H → Fws F ph env σ H ph env' σ' H → Q σ' H) → g v σ H Q
def tgN (i : Nat) : ZTg := fun d env => some (env.set i (.val d))
theorem zg_name (hN : X.N.Nodup) (hi : X.N[i]? = some x) (hx : Loc X.env.scope x) (hf : X.fn x = true ∨ X.env.scope.names.lookup x = some .local) : Zg X (.Name x pos) (tgN i) :=
  ⟨_, pg_name hN hi hx hf, fun F ph M env σ H Q v d env' _ S r e k => by
    cases e
    exact k _ (S.setV r) (Fws.setV fun _ e => nomatch e)⟩
def setAll (env : Ev) : List Nat → List D → Option Ev
  | [], [] => some env
  | i :: is, d :: ds => setAll (env.set i (.val d)) is ds
  | _, _ => none
def gNms : List Nat → TGs
  | [] => gNil
  | i :: is => gCons (gName i) (gNms is)
theorem nms_run {F : Fr} {ph : List Addr} {M : Sto} {H : Hp} : ∀ {is : List Nat} {env : Ev} {σ : St} {xs : List V} {ds : List D} {env' : Ev} {Q : St → Hp → Prop}, Sim F ph M env σ H → RepL (gh F ph env σ) H xs ds → setAll env is ds = some env' →
    (∀ σ', Sim F ph M env' σ' H → Fws F ph env σ H ph env' σ' H → Q σ' H) → gNms is xs σ H Q
  | [], env, σ, xs, ds, env', Q, S, r, e, k => by
    cases ds with
    | nil =>
      cases r
      cases e
      exact ⟨rfl, k σ S Fws.refl⟩
    | cons d ds => cases e
  | i :: is, env, σ, xs, ds, env', Q, S, r, e, k => by
    cases ds with
    | nil => cases e
    | cons d ds =>
      cases r with
      | @cons v _ _ _ h t =>
        refine ⟨_, _, rfl, ?_⟩
        have f : Fws F ph env σ H ph (env.set i (.val d)) (σ.set i (some v)) H := Fws.setV fun _ e => nomatch e
        exact nms_run (is := is) (S.setV h) (RepL.mo f.mo t) e fun σ' S' f' => k σ' S' (f.trans f')
theorem setAll_len : ∀ {is : List Nat} {ds : List D} {env env' : Ev}, setAll env is ds = some env' → ds.length = is.length
  | [], [], _, _, _ => rfl
  | [], _ :: _, _, _, e => by cases e
  | _ :: _, [], _, _, e => by cases e
  | i :: is, d :: ds, env, env', e => by
    rw [List.length_cons, List.length_cons, setAll_len (is := is) (ds := ds) (env := env.set i (.val d)) e]
structure NamesAt (X : Cx) (es : List Expr) (is : List Nat) : Prop where
  gs : PGs X es (gNms is)
  len : (assignEach es X.env).length = is.length
  st : (assignEach es X.env).findIdx? (·.1) = none
theorem namesAt_nil : NamesAt X [] [] := ⟨pgs_nil, rfl, rfl⟩
theorem namesAt_cons {is : List Nat} (hN : X.N.Nodup) (hi : X.N[i]? = some x) (hx : Loc X.env.scope x) (hf : X.fn x = true ∨ X.env.scope.names.lookup x = some .local) (h : NamesAt X es is) : NamesAt X (.Name x pos :: es) (i :: is) := by
  have e : assignEach (.Name x pos :: es) X.env = (false, assign (.Name x pos) X.env) :: assignEach es X.env := rfl
  refine ⟨pgs_cons (pg_name hN hi hx hf) h.gs, ?_, ?_⟩
  · rw [e, List.length_cons, List.length_cons, h.len]
  · rw [e, List.findIdx?_cons]
    simp [h.st]
def tgT (is : List Nat) : ZTg := fun d env => (itemsD d).bind (setAll env is)
theorem zg_names {k : Nat} {is : List Nat} (hc : X.calm = true) (g : NamesAt X es is) : Zg X (.Tuple es k pos) (tgT is) := by
  refine ⟨_, PG.or (pg_tup (n := is.length) hc g.gs g.len g.st) (pg_unl (n := is.length) hc g.gs g.len g.st), fun F ph M env σ H Q v d env' hK S r e k => ?_⟩
  unfold tgT at e
  cases e1 : itemsD d with
  | none => rw [e1] at e; cases e
  | some ds =>
    rw [e1] at e
    have e2 : setAll env is ds = some env' := e
    obtain ⟨a, xs, rfl, hq, rr⟩ := (Lk.of r).seq e1
    have hK' : (gh F ph env σ).K = X.K := hK
    rw [hK'] at hq
    have hl : xs.length = is.length := by rw [rr.length, setAll_len e2]
    have run := nms_run S rr e2 k
    rcases hq with hq | hq
    · exact .inr ⟨a, xs, rfl, hq, hl, run⟩
    · exact .inl ⟨a, xs, rfl, hq, hl, run⟩
def zAsg (gz : ZTg) (z : ZX) : ZS := fun env M => (z env M).toS env fun d M1 => match gz d env with
  | some env' => .nx env' M1
  | none => .fail
theorem zs_asg {tg : Expr} {gz : ZTg} (h : ZE X W cl e z) (g : Zg X tg gz) (hs : swapsWithSole [tg] e pos.line X.env = pure false) (hw : swappedStores [tg] e X.env = pure none) (h1 : (assignEach [tg] X.env).map (·.2) = [assign tg X.env]) :
    Zs X W cl (.Assign [tg] e pos) (zAsg gz z) := by
  obtain ⟨t, p, q⟩ := h.ex
  obtain ⟨tg', pg, qg⟩ := g.ex
  refine ⟨_, ps_asg p pg hs hw h1, fun F ph M env σ H B h1 h2 S P => q F ph M env σ H _ h1 h2 S (PoS.step P fun d M1 ph1 H1 v S1 f1 r1 P1 => ?_)⟩
  cases e1 : gz d env with
  | none => rw [e1] at P1; exact P1.elim
  | some env' =>
    rw [e1] at P1
    exact qg F ph1 M1 env σ H1 _ v d env' h2 S1 r1 e1 fun σ' S' f' => P1.nxt S' f'
/-- a, b = x, y -/
def zPar (i j : Nat) (l : ZL) : ZS := fun env M => (l env M).toS env fun ds M1 => match ds with
  | [d, e] => .nx ((env.set i (.val d)).set j (.val e)) M1
  | _ => .fail
theorem zs_par {x2 : Str} {px py pt pt2 : Pos} {kt k2 : Nat} (hc : X.calm = true) (hN : X.N.Nodup) (hi : X.N[i]? = some x) (hj : X.N[j]? = some x2) (hij : i ≠ j) (hx : X.env.scope.names.lookup x = some .local) (hy : X.env.scope.names.lookup x2 = some .local)
    (h : ZA X W cl [a, b] zs) (hw : swappedStores [.Tuple [.Name x px, .Name x2 py] kt pt] (.Tuple [a, b] k2 pt2) X.env = pure (some [x, x2])) (hs : swapsWithSole [.Tuple [.Name x px, .Name x2 py] kt pt] (.Tuple [a, b] k2 pt2) pos.line X.env = pure false) :
    Zs X W cl (.Assign [.Tuple [.Name x px, .Name x2 py] kt pt] (.Tuple [a, b] k2 pt2) pos) (zPar i j zs) := by
  obtain ⟨t, p, q⟩ := h.ex
  refine ⟨_, ps_par hc hN hi hj hij hx hy p hw hs, fun F ph M env σ H B h1 h2 S P => q F ph M env σ H _ h1 h2 S (PoS.step P fun ds M1 ph1 H1 vs S1 f1 r1 P1 => ?_)⟩
  match ds, r1, P1 with
  | [d, e], .cons (x := v) h (.cons (x := w) h' .nil), P1 =>
    refine ⟨v, w, rfl, ?_⟩
    have f : Fws F ph1 env σ H1 ph1 (env.set i (.val d)) (σ.set i (some v)) H1 := Fws.setV fun _ e => nomatch e
    have S2 := S1.setV (i := i) h
    exact P1.nxt (S2.setV (i := j) (h'.mo f.mo)) (f.trans (Fws.setV fun _ e => nomatch e))
  | [], r, P1 => exact P1.elim
  | [_], r, P1 => exact P1.elim
  | _ :: _ :: _ :: _, r, P1 => exact P1.elim
/-! tests, loops -/
def zIfS (t : ZB) (y y' : ZS) : ZS := fun env M => (t env M).toS env fun b M1 => if b = true then y env M1 else y' env M1
theorem zs_if {c : Expr} {sa sb : List Stmt} {ya yb' : ZS} (hc : ZT X W cl c yb) (ha : Zb X W cl sa ya) (hb : Zb X W cl sb yb') : Zs X W cl (.If c sa sb pos) (zIfS yb ya yb') := by
  obtain ⟨t, p, q⟩ := hc.ex
  obtain ⟨ta, pa, qa⟩ := ha.ex
  obtain ⟨tb, pb, qb⟩ := hb.ex
  refine ⟨_, ps_if p pa pb, fun F ph M env σ H B h1 h2 S P => q F ph M env σ H _ h1 h2 S (PoS.step P fun k M1 ph1 H1 w S1 f1 r1 P1 => ?_)⟩
  cases (show w = k from r1)
  cases k with
  | true => exact iteT (qa F ph1 M1 env σ H1 B h1 h2 S1 P1)
  | false => exact iteF (qb F ph1 M1 env σ H1 B h1 h2 S1 P1)
def zWh (c : ZB) (y : ZS) : Nat → ZS
  | 0 => fun _ _ => .fail
  | n + 1 => fun env M => (c env M).toS env fun b M1 => if b = true then match y env M1 with
    | .nx env' M' => zWh c y n env' M'
    | .ct env' M' => zWh c y n env' M'
    | .bk env' M' => .nx env' M'
    | o => o else .nx env M1
/-- the loop's own outcome, from its body's -/
def loopO (k : Ev → Sto → Out) : Out → Out
  | .nx env M => k env M
  | .ct env M => k env M
  | .bk env M => .nx env M
  | o => o
theorem pos_loop {F : Fr} {ph : List Addr} {env : Ev} {σ : St} {H : Hp} {B : Ends} {k : Ev → Sto → Out} {N : St → Hp → Prop} {o : Out} (P : PoS F W env σ ph H B (loopO k o))
    (h : ∀ ph' M' env' σ' H', Sim F ph' M' env' σ' H' → Fws F ph env σ H ph' env' σ' H' → PoS F W env' σ' ph' H' B (k env' M') → N σ' H') : PoS F W env σ ph H { B with nx := N, ct := N, bk := B.nx } o := by
  cases o with
  | nx env' M' => exact fun ph' σ' H' S f => h ph' M' env' σ' H' S f (PoS.fwd P f)
  | ct env' M' => exact fun ph' σ' H' S f => h ph' M' env' σ' H' S f (PoS.fwd P f)
  | bk env' M' => exact P
  | rt d M' => exact P
  | exc c fs env' M' => exact P
  | fail => exact P
theorem zs_while {c : Expr} {body : List Stmt} {n : Nat} (hp : PassesOwn (model X.prog X.w) X.A X.env X.xe) (hc : ZT X W cl c yb) (hb : Zb X W cl body y) : Zs X W cl (.While c body [] pos) (zWh yb y n) := by
  obtain ⟨t, p, q⟩ := hc.ex
  obtain ⟨ta, pa, qa⟩ := hb.ex
  refine ⟨_, ps_while hp p pa, fun F ph M env σ H B h1 h2 S P => ?_⟩
  refine ⟨fun m σ H => ∃ ph M env, Sim F ph M env σ H ∧ PoS F W env σ ph H B (zWh yb y m env M), ⟨n, ph, M, env, S, P⟩, ?_⟩
  rintro m σ H ⟨ph, M, env, S, P⟩
  cases m with
  | zero => exact P.elim
  | succ m =>
    refine q F ph M env σ H _ h1 h2 S (PoS.step P fun k M1 ph1 H1 w S1 f1 r1 P1 => ?_)
    cases (show w = k from r1)
    cases k with
    | true =>
      refine iteT ⟨fun σ' H' => ∃ ph M env, Sim F ph M env σ' H' ∧ PoS F W env σ' ph H' B (zWh yb y m env M), fun σ' H' h => ⟨m, Nat.lt_succ_self m, h⟩, ?_⟩
      refine qa F ph1 M1 env σ H1 _ h1 h2 S1 (pos_loop (k := zWh yb y m) (B := B) ?_ fun ph' M' env' σ' H' S' f' P' => ⟨ph', M', env', S', P'⟩)
      rw [if_pos rfl] at P1
      cases e : y env M1 <;> rw [e] at P1 <;> exact P1
    | false => exact iteF (P1.nxt S1 Fws.refl)
/-! for -/
/-- the same frame, with more cells that are not to be frozen (new ones) -/
structure FrEx (F F' : Fr) (H : Hp) : Prop where
  K : F'.K = F.K
  cl : F'.cl = F.cl
  H0 : F'.H0 = F.H0
  ph0 : F'.ph0 = F.ph0
  up : ∀ a, F.N0 a → F'.N0 a
  dn : ∀ a, F'.N0 a → F.N0 a ∨ H a = none
theorem FrEx.refl {F : Fr} {H : Hp} : FrEx F F H := ⟨rfl, rfl, rfl, rfl, fun _ z => z, fun _ z => .inl z⟩
theorem FrEx.plus {F : Fr} {H : Hp} {a : Addr} (h : H a = none) : FrEx F (F.plus a) H := ⟨rfl, rfl, rfl, rfl, fun _ z => .inl z, fun b z => z.elim .inl fun z => .inr (by rw [z]; exact h)⟩
def ItOk (F : Fr) (ph : List Addr) (env : Ev) (σ : St) (H : Hp) (J : It) (ds : List D) : Prop :=
  ∀ F' ph2 M2 env2 σ2 H2, FrEx F F' H → Sim F' ph2 M2 env2 σ2 H2 → Fws F ph env σ H ph2 env2 σ2 H2 →
    J.stop ds.length H2 ∧ ∀ (i : Nat) d, ds[i]? = some d → J.go i H2 ∧ ∀ x H3, J.yld i H2 x H3 → Sim F' ph2 M2 env2 σ2 H3 ∧ Fwd ph2 H2 ph2 H3 ∧ Rep (gh F' ph2 env2 σ2) H3 x d
theorem Fws.moX {F F' : Fr} {ph ph' : List Addr} {env env' : Ev} {σ σ' : St} {H H' : Hp} (f : Fws F ph env σ H ph' env' σ' H') (x : FrEx F F' H) : Mo (gh F ph env σ) (gh F' ph' env' σ') H H' := by
  have m := f.mo
  refine ⟨fun a o e n => ?_, m.ph, x.cl, x.K⟩
  obtain ⟨h1, h2⟩ := m.keep a o e n
  refine ⟨h1, fun z => ?_⟩
  rcases z with (z | z) | z
  · rcases x.dn a z with z | z
    · exact h2 (.inl (.inl z))
    · rw [e] at z; cases z
  · exact h2 (.inl (.inr z))
  · exact h2 (.inr z)
abbrev PoI (F : Fr) (W : WX) (env : Ev) (σ : St) (ph : List Addr) (H : Hp) (R : It → Hp → Prop) : Res (List D) → Prop :=
  @Post (List D) It (fun G H' J ds => ItOk F G.ph env σ H' J ds) F W env σ ph H R
structure Zi (X : Cx) (W : WX) (cl : String → Option Addr) (tg e : Expr) (z : ZL) : Prop where
  ex : ∃ wi, PI X tg e wi ∧ ∀ F ph M env σ H R, F.cl = cl → F.K = X.K → Sim F ph M env σ H → PoI F W env σ ph H R (z env M) → wi σ H R
def zForL (gz : ZTg) (y : ZS) : List D → ZS
  | [] => fun env M => .nx env M
  | d :: ds => fun env M => match gz d env with
    | some env1 => loopO (zForL gz y ds) (y env1 M)
    | none => .fail
def zFor (zi : ZL) (gz : ZTg) (y : ZS) : ZS := fun env M => (zi env M).toS env fun ds M1 => zForL gz y ds env M1
theorem zs_for {tg iter : Expr} {body : List Stmt} {zi : ZL} {gz : ZTg} (hp : PassesOwn (model X.prog X.w) X.A X.env X.xe) (hc : X.calm = true) (hi : Zi X W cl tg iter zi) (hg : Zg X tg gz) (hb : Zb X W cl body y)
    (hs : ∀ x, foldedSetIterable iter X.env x = pure x) : Zs X W cl (.For tg iter body [] pos) (zFor zi gz y) := by
  obtain ⟨wi, pi, qi⟩ := hi.ex
  obtain ⟨g, pg, qg⟩ := hg.ex
  obtain ⟨tb, pb, qb⟩ := hb.ex
  refine ⟨_, ps_for hp hc pi pg pb hs, fun F ph M env σ H B h1 h2 S P => qi F ph M env σ H _ h1 h2 S (PoS.step P fun ds M1 ph1 H1 J S1 f1 r1 P1 => ?_)⟩
  have IO : ItOk F ph1 env σ H1 J ds := r1
  refine ⟨fun i m σ2 H2 => m = ds.length - i ∧ i ≤ ds.length ∧ ∃ ph2 M2 env2, Sim F ph2 M2 env2 σ2 H2 ∧ Fws F ph1 env σ H1 ph2 env2 σ2 H2 ∧ PoS F W env2 σ2 ph2 H2 B (zForL gz y (ds.drop i) env2 M2),
    ⟨ds.length, rfl, Nat.zero_le _, ph1, M1, env, S1, Fws.refl, P1⟩, ?_⟩
  rintro i m σ2 H2 ⟨rfl, hi, ph2, M2, env2, S2, f2, P2⟩
  obtain ⟨st, go⟩ := IO F ph2 M2 env2 σ2 H2 FrEx.refl S2 f2
  by_cases hlt : i < ds.length
  · have ed : ds.drop i = ds[i] :: ds.drop (i + 1) := List.drop_eq_getElem_cons hlt
    obtain ⟨g1, yl⟩ := go i ds[i] (List.getElem?_eq_getElem hlt)
    refine .inr ⟨g1, fun σ' H' => ∃ ph' M' env', Sim F ph' M' env' σ' H' ∧ Fws F ph1 env σ H1 ph' env' σ' H' ∧ PoS F W env' σ' ph' H' B (zForL gz y (ds.drop (i + 1)) env' M'),
      fun σ' H' q => ⟨ds.length - (i + 1), by omega, rfl, hlt, q⟩, fun x H3 hy => ?_⟩
    obtain ⟨S3, f3, r3⟩ := yl x H3 hy
    rw [ed] at P2
    unfold zForL at P2
    cases e1 : gz ds[i] env2 with
    | none => rw [e1] at P2; exact P2.elim
    | some env3 =>
      rw [e1] at P2
      have P3 : PoS F W env2 σ2 ph2 H3 B (loopO (zForL gz y (ds.drop (i + 1))) (y env3 M2)) := PoS.fwd P2 f3.ws
      refine qg F ph2 M2 env2 σ2 H3 _ x _ env3 h2 S3 r3 e1 fun σ4 S4 f4 => ?_
      have P4 := PoS.fwd P3 f4
      refine qb F ph2 M2 env3 σ4 H3 _ h1 h2 S4 (pos_loop P4 fun ph' M' env' σ' H' S' f' P' => ⟨ph', M', env', S', ((f2.trans f3.ws).trans f4).trans f', P'⟩)
  · have e : i = ds.length := by omega
    subst e
    rw [List.drop_length] at P2
    exact .inl ⟨st, P2.nxt S2 Fws.refl⟩
/-! what is iterated -/
/-- read without keeping: no cell of one's own -/
def zBv (i : Nat) : ZX := fun env M => match env[i]? with
  | some (.val d) => .ok d M
  | some (.bor d) => .ok d M
  | _ => .fail
def RlB' (F : Fr) : Gh → Hp → V → D → Prop := fun G H v d => Rep G H v d ∨ ∃ a, v = .ref a ∧ F.N0 a ∧ Cel G H a d ∧ ∃ o, F.H0 a = some o
structure ZBm (X : Cx) (W : WX) (cl : String → Option Addr) (e : Expr) (z : ZX) : Prop where
  ex : ∃ t, PE X e t ∧ ∀ F ph M env σ H Q, F.cl = cl → F.K = X.K → Sim F ph M env σ H → @Post D V (RlB' F) F W env σ ph H Q (z env M) → t σ H Q
theorem ZE.toB (h : ZE X W cl e z) : ZBm X W cl e z := by
  obtain ⟨t, p, q⟩ := h.ex
  exact ⟨t, p, fun F ph M env σ H Q h1 h2 S P => q F ph M env σ H Q h1 h2 S (P.weak fun _ _ _ _ r => .inl r)⟩
theorem zbm_var (hN : X.N[i]? = some x) (hv : Vis X.env.scope x) (hd : (x == ("__debug__" : Str)) = false) (hc : (x == ("__classdict__" : Str)) = false) : ZBm X W cl (.Name x pos) (zBv i) := by
  refine ⟨_, pe_var hN hv hd hc, fun F ph M env σ H Q _ _ S P => ?_⟩
  unfold zBv at P
  split at P
  · rename_i d e
    obtain ⟨v, e1, r⟩ := S.val i d e
    exact ⟨v, e1, P.now S (.inl r)⟩
  · rename_i d e
    obtain ⟨a, e1, n, r, o⟩ := S.brw i d e
    exact ⟨_, e1, P.now S (.inr ⟨a, rfl, n, r, o⟩)⟩
  · exact P.elim
/-- such a value stays -/
theorem seq_stay {F : Fr} {ph : List Addr} {M : Sto} {env : Ev} {σ : St} {H : Hp} {v : V} {d : D} {ds : List D} (S : Sim F ph M env σ H) (r : RlB' F (gh F ph env σ) H v d) (e : itemsD d = some ds) :
    ∃ a xs, v = .ref a ∧ ((SqL F.K H a xs ∧ ∀ F' ph2 M2 env2 σ2 H2, FrEx F F' H → Sim F' ph2 M2 env2 σ2 H2 → Fws F ph env σ H ph2 env2 σ2 H2 → SqL F.K H2 a xs) ∨ (SqT F.K H a xs ∧ ∀ F' ph2 M2 env2 σ2 H2, FrEx F F' H → Sim F' ph2 M2 env2 σ2 H2 → Fws F ph env σ H ph2 env2 σ2 H2 → SqT F.K H2 a xs)) ∧ RepL (gh F ph env σ) H xs ds := by
  rcases r with r | ⟨a, rfl, n, c, o, ho⟩
  · cases r with
    | lst h n r =>
      cases e
      exact ⟨_, _, rfl, .inl ⟨SqL.of h, fun F' ph2 M2 env2 σ2 H2 _ S2 f => SqL.of (f.keep _ _ h n)⟩, r⟩
    | tup h n r =>
      cases e
      exact ⟨_, _, rfl, .inr ⟨SqT.of h, fun F' ph2 M2 env2 σ2 H2 _ S2 f => SqT.of (f.keep _ _ h n)⟩, r⟩
    | scr h n =>
      cases e
      exact ⟨_, _, rfl, .inl ⟨.inl (.inr ⟨_, h⟩), fun F' ph2 M2 env2 σ2 H2 _ S2 f => .inl (.inr ⟨_, f.keep _ _ h n⟩)⟩, repL_ints _ _ _⟩
    | scrK h =>
      cases e
      exact ⟨_, _, rfl, .inl ⟨h _, fun F' ph2 M2 env2 σ2 H2 _ S2 f => h _⟩, repL_ints _ _ _⟩
    | _ => cases e
  · have na : ∀ {F' ph2 M2 env2 σ2 H2}, FrEx F F' H → Sim F' ph2 M2 env2 σ2 H2 → H2 a = some o := fun {F' ph2 M2 env2 σ2 H2} x S2 => S2.keep a o (by rw [x.H0]; exact ho) fun z => by
      obtain ⟨ps, e1, _⟩ := S2.pre
      exact (S2.n0 a (x.up a n)).2 (by rw [e1]; exact List.mem_append_left _ z)
    cases c with
    | lst h r =>
      cases e
      have h' := na FrEx.refl S
      rw [h] at h'
      cases h'
      exact ⟨_, _, rfl, .inl ⟨SqL.of h, fun F' ph2 M2 env2 σ2 H2 x S2 f => SqL.of (na x S2)⟩, r⟩
    | _ => cases e
def itemsM (d : D) : Res (List D) := match itemsD d with
  | some ds => .ok ds []
  | none => .fail
def zSeqI (z : ZX) : ZL := fun env M => (z env M).bind fun d M1 => match itemsD d with
  | some ds => .ok ds M1
  | none => .fail
theorem PI.or {tg : Expr} {w1 w2 : TI} (h1 : PI X tg e w1) (h2 : PI X tg e w2) : PI X tg e fun σ H R => w1 σ H R ∨ w2 σ H R :=
  ⟨fun pins s σ H R I q => q.elim (h1.run pins s σ H R I) (h2.run pins s σ H R I)⟩
theorem itok_seq {F : Fr} {ph : List Addr} {env : Ev} {σ : St} {H : Hp} {J : It} {xs : List V} {ds : List D} {G : Hp → Prop} (w : Walk J xs.length G (YAt xs)) (r : RepL (gh F ph env σ) H xs ds)
    (st : ∀ F' ph2 M2 env2 σ2 H2, FrEx F F' H → Sim F' ph2 M2 env2 σ2 H2 → Fws F ph env σ H ph2 env2 σ2 H2 → G H2) : ItOk F ph env σ H J ds := by
  intro F' ph2 M2 env2 σ2 H2 fx S2 f
  have g := st F' ph2 M2 env2 σ2 H2 fx S2 f
  have hl := r.length
  refine ⟨by rw [← hl]; exact w.stops H2 g, fun i d e => ?_⟩
  have hi : i < ds.length := (List.getElem?_eq_some_iff.mp e).1
  refine ⟨w.goes i H2 (by omega) g, fun x H3 hy => ?_⟩
  obtain ⟨rfl, ex⟩ := w.yields i H2 x H3 (by omega) g hy
  obtain ⟨u, e2, r2⟩ := (RepL.mo (f.moX fx) r).at e
  rw [ex] at e2
  cases e2
  exact ⟨S2, Fwd.refl, r2⟩
/-- a list or a tuple, whichever has come -/
def iSeq (K : PySem.W.Frag) (tl : TE) : TI := fun σ H R => tl σ H fun x H1 => ∃ a, x = .ref a ∧ (((∃ xs, SqL K H1 a xs) ∧ R (Itl K a) H1) ∨ ((∃ xs, SqT K H1 a xs) ∧ R (Itt K a) H1))
theorem pi_seq {tg l : Expr} {tl : TE} (hl : PE X l tl) : PI X tg l (iSeq X.K tl) := by
  refine ⟨fun pn s0 σ0 H0 R I0 hw => thn (hl.run pn s0 σ0 H0 _ I0 hw) fun v s1 ⟨x, H1, J1, r1, a, ea, q⟩ => ?_⟩
  subst ea
  cases r1
  have fin : ∀ b ∈ [s1.heap.objs.size], FpOk X pn H1 b := fun b hb => by
    rw [List.mem_singleton.mp hb]
    exact J1.fpOk (Nat.le_refl _) (J1.hok.fresh (Nat.le_refl _))
  have J2 : ∀ o : Obj, Inv X pn σ0 H1 { s1 with heap := s1.heap.push o } := fun o => J1.kept (t' := s1.toks) fun b u z => Heap.get?_push_of_some _ z
  rcases q with ⟨⟨xs, hq⟩, q⟩ | ⟨⟨xs, hq⟩, q⟩
  · obtain ⟨its, _, pl, _⟩ := J1.list hq
    exact wpAny_pyIter_list pl.isList ⟨_, [s1.heap.objs.size], _, _, H1, rfl, J2 _, turn_list a _, ⟨_, Heap.get?_push_size _ rfl, rfl, rfl⟩, fin, q⟩
  · obtain ⟨its, _, pl, _⟩ := J1.tuple hq
    have it : s1.heap.IsTuple a its.toArray := pl
    exact wpAny_pyIter_tuple it ⟨_, [s1.heap.objs.size], _, _, H1, rfl, J2 _, turn_tuple a _, ⟨_, Heap.get?_push_size _ rfl, rfl, rfl⟩, fin, q⟩
theorem zi_seq {tg : Expr} (h : ZBm X W cl e z) : Zi X W cl tg e (zSeqI z) := by
  obtain ⟨t, p, q⟩ := h.ex
  refine ⟨_, pi_seq p, fun F ph M env σ H R h1 h2 S P => ?_⟩
  refine q F ph M env σ H _ h1 h2 S (Post.step P fun d M1 ph1 H1 v S1 f1 r1 P1 => ?_)
  cases e1 : itemsD d with
  | none => rw [e1] at P1; exact P1.elim
  | some ds =>
    rw [e1] at P1
    obtain ⟨a, xs, rfl, hq, rr⟩ := seq_stay S1 r1 e1
    rw [h2] at hq
    rcases hq with ⟨hq, st⟩ | ⟨hq, st⟩
    · exact ⟨a, rfl, .inl ⟨⟨xs, hq⟩, P1.now S1 (itok_seq walk_list rr st)⟩⟩
    · exact ⟨a, rfl, .inr ⟨⟨xs, hq⟩, P1.now S1 (itok_seq walk_tup rr st)⟩⟩
/-! ranges -/
def stpD (lo c : Int) (n : Nat) : List D := (List.range n).map fun i => D.int (lo + (i : Nat) * c)
theorem stpD_at {lo c : Int} {n i : Nat} {d : D} (e : (stpD lo c n)[i]? = some d) : i < n ∧ d = .int (lo + (i : Nat) * c) := by
  unfold stpD at e
  rw [List.getElem?_map] at e
  cases q : (List.range n)[i]? with
  | none => rw [q] at e; cases e
  | some j =>
    rw [q] at e
    have hi : i < n := by simpa using (List.getElem?_eq_some_iff.mp q).1
    rw [List.getElem?_range hi] at q
    cases q
    cases e
    exact ⟨hi, rfl⟩
theorem itok_fn {F : Fr} {ph : List Addr} {env : Ev} {σ : St} {H : Hp} {J : It} {n : Nat} {lo c : Int} (w : Walk J n (fun _ => True) (YFn fun i => .int (lo + (i : Nat) * c))) : ItOk F ph env σ H J (stpD lo c n) := by
  intro F' ph2 M2 env2 σ2 H2 _ S2 f
  have hl : (stpD lo c n).length = n := by simp [stpD]
  refine ⟨by rw [hl]; exact w.stops H2 trivial, fun i d e => ?_⟩
  obtain ⟨hi, rfl⟩ := stpD_at e
  refine ⟨w.goes i H2 hi trivial, fun x H3 hy => ?_⟩
  obtain ⟨rfl, rfl⟩ := w.yields i H2 x H3 hi trivial hy
  exact ⟨S2, Fwd.refl, .int _⟩
def sm62 (i : Int) : Bool := decide (-(2 ^ 62) ≤ i) && decide (i < 2 ^ 62)
theorem sm62_ok {i : Int} (h : sm62 i = true) : -(2 ^ 62) ≤ i ∧ i < 2 ^ 62 := by
  unfold sm62 at h
  simpa using h
theorem rng_one {lo : Int} : (fun i : Nat => V.int (lo + (i : Nat) * (1 : Int))) = fun i => V.int (lo + (i : Nat)) := by
  funext i
  rw [Int.mul_one]
theorem walk_rng1 {lo : Int} {n : Nat} : Walk (Itr lo n) n (fun _ => True) (YFn fun i => .int (lo + (i : Nat) * (1 : Int))) := by
  rw [rng_one]
  exact walk_range
def zRng1 (l : ZL) : ZL := fun env M => (l env M).bind fun ds M1 => match ds with
  | [.int j] => if sm62 j then .ok (stpD 0 1 j.toNat) M1 else .fail
  | _ => .fail
def zRng2 (l : ZL) : ZL := fun env M => (l env M).bind fun ds M1 => match ds with
  | [.int i, .int j] => if sm62 i && sm62 j then .ok (stpD i 1 (j - i).toNat) M1 else .fail
  | _ => .fail
def zRng3 (l : ZL) : ZL := fun env M => (l env M).bind fun ds M1 => match ds with
  | [.int i, .int j, .int c] => if decide (c ≠ 0) && (decide (c.natAbs < 1073741824) && (Builtin.Range.small i j c && decide (Builtin.Range.rangeSize i j c = ((Builtin.Range.rangeSize i j c).toNat : Int)))) then .ok (stpD i c (Builtin.Range.rangeSize i j c).toNat) M1 else .fail
  | _ => .fail
theorem one_int {G : Gh} {H : Hp} {vs : List V} {i : Int} (r : RepL G H vs [.int i]) : vs = [.int i] := by
  cases r with | cons r t => cases r; cases t; rfl
theorem two_int {G : Gh} {H : Hp} {vs : List V} {i j : Int} (r : RepL G H vs [.int i, .int j]) : vs = [.int i, .int j] := by
  cases r with | cons r t => cases r; cases one_int t; rfl
theorem three_int {G : Gh} {H : Hp} {vs : List V} {i j k : Int} (r : RepL G H vs [.int i, .int j, .int k]) : vs = [.int i, .int j, .int k] := by
  cases r with | cons r t => cases r; cases two_int t; rfl
theorem zi_range1 {tg : Expr} {p : Pos} (hg : Gl X "range") (hm : X.mg "range" = none) (h : ZA X W cl [a] zs) (hs : nostar a = true) : Zi X W cl tg (.Call (.Name "range" p) [a] [] pos) (zRng1 zs) := by
  obtain ⟨t, pa, q⟩ := h.ex
  refine ⟨_, pi_range1 hg hm pa (star_ok hs), fun F ph M env σ H R h1 h2 S P => q F ph M env σ H _ h1 h2 S (Post.step P fun ds M1 ph1 H1 vs S1 f1 r1 P1 => ?_)⟩
  split at P1
  · rename_i j
    split at P1
    · rename_i hs
      obtain ⟨b1, b2⟩ := sm62_ok hs
      exact ⟨j, one_int r1, b1, b2, P1.now S1 (itok_fn walk_rng1)⟩
    · exact P1.elim
  · exact P1.elim
theorem zi_range2 {tg : Expr} {p : Pos} (hg : Gl X "range") (hm : X.mg "range" = none) (h : ZA X W cl [a, b] zs) (hs : nostar a = true) (hs2 : nostar b = true) : Zi X W cl tg (.Call (.Name "range" p) [a, b] [] pos) (zRng2 zs) := by
  obtain ⟨t, pa, q⟩ := h.ex
  refine ⟨_, pi_range2 hg hm pa ((star_ok hs).trans (congrArg _ (star_ok hs2))) (star_ok hs2), fun F ph M env σ H R h1 h2 S P => q F ph M env σ H _ h1 h2 S (Post.step P fun ds M1 ph1 H1 vs S1 f1 r1 P1 => ?_)⟩
  split at P1
  · rename_i i j
    split at P1
    · rename_i hs
      simp only [Bool.and_eq_true] at hs
      obtain ⟨b1, b2⟩ := sm62_ok hs.1
      obtain ⟨b3, b4⟩ := sm62_ok hs.2
      exact ⟨i, j, two_int r1, ⟨b1, b2, b3, b4⟩, P1.now S1 (itok_fn walk_rng1)⟩
    · exact P1.elim
  · exact P1.elim
theorem zi_range3 {tg c : Expr} {p : Pos} (hg : Gl X "range") (hm : X.mg "range" = none) (h : ZA X W cl [a, b, c] zs) (hs : nostar a = true) (hs2 : nostar b = true) (hs3 : nostar c = true) : Zi X W cl tg (.Call (.Name "range" p) [a, b, c] [] pos) (zRng3 zs) := by
  obtain ⟨t, pa, q⟩ := h.ex
  have hpl : (backTo pos (starEach [b, c] X.env)).any (·.1) = false := by rw [star_ok hs2, star_ok hs3]; rfl
  refine ⟨_, pi_range3 hg hm pa (star_ok hs) hpl, fun F ph M env σ H R h1 h2 S P => q F ph M env σ H _ h1 h2 S (Post.step P fun ds M1 ph1 H1 vs S1 f1 r1 P1 => ?_)⟩
  split at P1
  · rename_i i j k
    split at P1
    · rename_i hs
      simp only [Bool.and_eq_true, decide_eq_true_eq] at hs
      exact ⟨i, j, k, _, three_int r1, ⟨hs.1, hs.2.1, hs.2.2.1, hs.2.2.2⟩, P1.now S1 (itok_fn walk_rangeC)⟩
    · exact P1.elim
  · exact P1.elim
end
end Zy
set_option maxHeartbeats 2000000
namespace Zy
open PySem PySem.Spec PyProof.Rows L2

/-! what may be changed: one's own slot, a cell of the store -/
def getPl (env : Ev) (M : Sto) (i : Nat) : Option D := match env[i]? with
  | some (.own d) => some d
  | some (.val (.ref c)) => M[c]?
  | _ => none
def setPl (env : Ev) (M : Sto) (i : Nat) (d : D) : Ev × Sto := match env[i]? with
  | some (.own _) => (env.set i (.own d), M)
  | some (.val (.ref c)) => (env, M.set c d)
  | _ => (env, M)
section
variable {F : Fr} {W : WX} {ph ph' : List Addr} {M M' : Sto} {env env' : Ev} {σ σ' : St} {H H' : Hp} {B : Ends} {G : Gh}
theorem mo_wr {a : Addr} {o' : HO} (h : G.off a) : Mo G G H (upd H a o') := ⟨fun b o e n => by
  have nb : b ≠ a := fun z => n (by rw [z]; exact h)
  exact ⟨by rw [upd_ne nb]; exact e, n⟩, fun _ _ h => h, rfl, rfl⟩
theorem Sim.wrCel {c : Nat} {d' : D} {a : Addr} {o' : HO} (S : Sim F ph M env σ H) (hc : ph[c]? = some a) (c' : Cel (gh F ph env σ) (upd H a o') a d') :
    Sim F ph (M.set c d') env σ (upd H a o') ∧ Fws F ph env σ H ph env σ (upd H a o') := by
  have ha : a ∈ ph := List.mem_of_getElem? hc
  have offa : (gh F ph env σ).off a := .inr ha
  have m : Mo (gh F ph env σ) (gh F ph env σ) H (upd H a o') := mo_wr offa
  have kp : ∀ b, b ≠ a → ∀ o, H b = some o → upd H a o' b = some o := fun b nb o e => by rw [upd_ne nb]; exact e
  have there : ∀ b o, H b = some o → ∃ u, upd H a o' b = some u := fun b o e => by
    by_cases nb : b = a
    · exact ⟨o', by rw [nb]; exact upd_same⟩
    · exact ⟨o, kp b nb o e⟩
  refine ⟨⟨S.len, S.pre, fun b u e n => ?_, fun b z => ?_, by rw [List.length_set]; exact S.ml, S.nd, fun j d e => ?_, fun j d e => ?_, fun j d e => ?_, S.ap, fun j d e => ?_⟩,
    ⟨⟨[], by simp, fun b h => by simp at h⟩, fun b o e n => (m.keep b o e n).1, fun b z => .inl z, there⟩⟩
  · refine kp b (fun z => ?_) u (S.keep b u e n)
    obtain ⟨ps, e1, hps⟩ := S.pre
    rw [z] at n e
    rw [e1] at ha
    rcases List.mem_append.mp ha with q | q
    · exact n q
    · rw [hps a q] at e
      cases e
  · obtain ⟨⟨o, q⟩, n⟩ := S.n0 b z
    exact ⟨there b o q, n⟩
  · by_cases hj : j = c
    · subst hj
      refine ⟨a, hc, ?_⟩
      have hl : j < M.length := by rw [S.ml]; exact (List.getElem?_eq_some_iff.mp hc).1
      rw [List.getElem?_set_self hl] at e
      cases e
      exact c'
    · rw [List.getElem?_set_ne (fun z => hj z.symm)] at e
      obtain ⟨b, q, cc⟩ := S.sto j d e
      refine ⟨b, q, cc.mo m (kp b fun z => hj ?_)⟩
      rw [z] at q
      exact (List.getElem?_inj (List.getElem?_eq_some_iff.mp q).1 S.nd).mp (q.trans hc.symm)
  · obtain ⟨v, q, r⟩ := S.val j d e
    exact ⟨v, q, r.mo m⟩
  · obtain ⟨b, q, cc, h, n, k⟩ := S.own j d e
    exact ⟨b, q, cc.mo m (kp b fun z => n (z ▸ ha)), h, n, k⟩
  · obtain ⟨b, q, n, cc, o⟩ := S.brw j d e
    exact ⟨b, q, n, cc.mo m (kp b fun z => (S.n0 b n).2 (z ▸ ha)), o⟩
theorem Sim.place {i : Nat} {d : D} (S : Sim F ph M env σ H) (e : getPl env M i = some d) :
    ∃ a, σ[i]? = some (some (.ref a)) ∧ Cel (gh F ph env σ) H a d ∧ (gh F ph env σ).off a ∧
      ∀ o' d', Cel (gh F ph env σ) (upd H a o') a d' → Sim F ph (setPl env M i d').2 (setPl env M i d').1 σ (upd H a o') ∧ Fws F ph env σ H ph (setPl env M i d').1 σ (upd H a o') := by
  unfold getPl at e
  unfold setPl
  split at e
  · rename_i d0 e0
    cases e
    obtain ⟨a, q, c, _⟩ := S.own i _ e0
    refine ⟨a, q, c, .inl (.inr ⟨i, _, e0, q⟩), fun o' d' c' => ?_⟩
    exact S.wrOwn e0 q c'
  · rename_i c0 e0
    obtain ⟨v, q, r⟩ := S.val i _ e0
    cases r with
    | @ref a _ h =>
      obtain ⟨b, q2, c⟩ := S.sto c0 d e
      have h' : ph[c0]? = some a := h
      rw [h'] at q2
      cases q2
      exact ⟨a, q, c, .inr (List.mem_of_getElem? h'), fun o' d' c' => S.wrCel h' c'⟩
  · cases e
end
section
variable {X : Cx} {W : WX} {cl : String → Option Addr} {e a b : Expr} {es : List Expr} {z za zb zc : ZX} {zs : ZL} {pos pos' p1 p2 p3 : Pos} {i j : Nat} {x : Str}
/-- x[k] = e -/
def putL (env : Ev) (M : Sto) (i : Nat) (k v : D) : Out := match getPl env M i, k with
  | some (.lst ds), .int n => match ixN ds.length n with
    | some j => .nx (setPl env M i (.lst (ds.set j v))).1 (setPl env M i (.lst (ds.set j v))).2
    | none => .fail
  | _, _ => .fail
def zPut (i : Nat) (ze zi : ZX) : ZS := fun env M => (ze env M).toS env fun v M1 => match getPl env M1 i with
  | some _ => (zi env M1).toS env fun k M2 => putL env M2 i k v
  | none => .fail
theorem putL_run {F : Fr} {ph : List Addr} {M : Sto} {env : Ev} {σ : St} {H : Hp} {B : Ends} {k v : D} {kv vv : V} (S : Sim F ph M env σ H) (rk : Rep (gh F ph env σ) H kv k) (rv : Rep (gh F ph env σ) H vv v) (P : PoS F W env σ ph H B (putL env M i k v)) :
    ∃ o, σ[i]? = some (some o) ∧ rSetL o kv vv H fun H3 => B.nx σ H3 := by
  unfold putL at P
  split at P
  · rename_i ds n e1
    split at P
    · rename_i j e2
      obtain ⟨p, q, c, off, wr⟩ := S.place e1
      cases c with
      | @lst xs _ h r =>
        cases rk
        have r2 : RepL (gh F ph env σ) (upd H p (.lst (xs.set j vv))) (xs.set j vv) (ds.set j v) := RepL.mo (mo_wr off) (r.set rv j)
        obtain ⟨S', f'⟩ := wr (.lst (xs.set j vv)) (.lst (ds.set j v)) (.lst upd_same r2)
        refine ⟨_, q, p, xs, n, j, rfl, rfl, h, by rw [r.length]; exact e2, P.nxt S' f'⟩
    · exact P.elim
  · exact P.elim
theorem zs_put (hN : X.N[i]? = some x) (hv : Vis X.env.scope x) (hd : (x == ("__debug__" : Str)) = false) (hcd : (x == ("__classdict__" : Str)) = false) (h : ZE X W cl e z) (hk : ZE X W cl b zb)
    (hs : swapsWithSole [.Subscript (.Name x p1) b p2] e pos.line X.env = pure false) (hw : swappedStores [.Subscript (.Name x p1) b p2] e X.env = pure none)
    (h1 : (assignEach [.Subscript (.Name x p1) b p2] X.env).map (·.2) = [assign (.Subscript (.Name x p1) b p2) X.env])
    (ha : ∀ v, assign (.Subscript (.Name x p1) b p2) X.env v = (do
      let ov ← holding [v] (eval (.Name x p1) X.env)
      let iv ← holding [v, ov] (eval b X.env)
      standAt p2
      holding [v, ov, iv] (setItem ov iv v)
      release [v, ov, iv] [])) :
    Zs X W cl (.Assign [.Subscript (.Name x p1) b p2] e pos) (zPut i z zb) := by
  obtain ⟨t, p, q⟩ := h.ex
  obtain ⟨tb, pb, qb⟩ := hk.ex
  refine ⟨_, ps_asg p (pg_sub (pe_var hN hv hd hcd) pb set_list ha) hs hw h1, fun F ph M env σ H B h1 h2 S P => q F ph M env σ H _ h1 h2 S (PoS.step P fun v M1 ph1 H1 vv S1 f1 r1 P1 => ?_)⟩
  cases e1 : getPl env M1 i with
  | none => rw [e1] at P1; exact P1.elim
  | some d0 =>
    rw [e1] at P1
    obtain ⟨a, q0, _⟩ := S1.place e1
    refine ⟨.ref a, q0, qb F ph1 M1 env σ H1 _ h1 h2 S1 (PoS.step P1 fun k M2 ph2 H2 kv S2 f2 r2 P2 => ?_)⟩
    obtain ⟨o, q1, r⟩ := putL_run S2 r2 (r1.mo (f2.mo S1)) P2
    rw [q0] at q1
    cases q1
    exact r
/-- x.append(e) -/
def zApp (i : Nat) (z : ZX) : ZS := fun env M => match getPl env M i with
  | some (.lst _) => (z env M).toS env fun v M1 => match getPl env M1 i with
    | some (.lst ds) => if ds.length < sizeLine then .nx (setPl env M1 i (.lst (ds ++ [v]))).1 (setPl env M1 i (.lst (ds ++ [v]))).2 else .fail
    | _ => .fail
  | _ => .fail
theorem cel_lst {G : Gh} {H : Hp} {a : Addr} {ds : List D} (c : Cel G H a (.lst ds)) : ∃ xs, H a = some (.lst xs) ∧ RepL G H xs ds := by
  cases c with | lst h r => exact ⟨_, h, r⟩
theorem zs_app (hN : X.N[i]? = some x) (hv : Vis X.env.scope x) (hd : (x == ("__debug__" : Str)) = false) (hcd : (x == ("__classdict__" : Str)) = false) (h : ZE X W cl e z) (hn : nostar e = true) (hs : swapsWith (.Call (.Attribute (.Name x p1) "append" p2) [e] [] p3) none pos.line X.env = pure false)
    (hline : (p2.endLine == p3.line) = true) : Zs X W cl (.Expr (.Call (.Attribute (.Name x p1) "append" p2) [e] [] p3) pos) (zApp i z) := by
  obtain ⟨t, p, q⟩ := h.ex
  refine ⟨_, ps_expr (pe_bm PySem.F.plainAttrs_list PySem.F.slot_list_append PySem.F.type_list_append mt_append (pe_var hN hv hd hcd) (pa_cons p pa_nil (star_ok hn)) (hbase := by rfl) (hfew := ?_) (hline := hline) (hs := star_ok hn) (hplain := by rfl)) hs, fun F ph M env σ H B h1 h2 S P => ?_⟩
  · rw [star_ok hn]; rfl
  · unfold zApp at P
    split at P
    · rename_i ds0 e0
      obtain ⟨a, q0, c0, off0, _⟩ := S.place e0
      obtain ⟨xs0, hx0, _⟩ := cel_lst c0
      refine ⟨.ref a, q0, .inl ⟨rfl, xs0, SqL.of hx0⟩, q F ph M env σ H _ h1 h2 S (PoS.step P fun v M1 ph1 H1 vv S1 f1 r1 P1 => ?_)⟩
      split at P1
      · rename_i ds e1
        obtain ⟨a1, q1, c1, off, wr⟩ := S1.place e1
        rw [q0] at q1
        cases q1
        split at P1
        · rename_i hl
          obtain ⟨xs, hx, rx⟩ := cel_lst c1
          have r2 : RepL (gh F ph1 env σ) (upd H1 a (.lst (xs ++ [vv]))) (xs ++ [vv]) (ds ++ [v]) := RepL.mo (mo_wr off) (rx.app (.cons r1 .nil))
          obtain ⟨S', f'⟩ := wr (.lst (xs ++ [vv])) (.lst (ds ++ [v])) (.lst upd_same r2)
          exact ⟨a, xs, vv, rfl, rfl, hx, by rw [rx.length]; exact hl, P1.nxt S' f'⟩
        · exact P1.elim
      · exact P1.elim
    · exact P.elim
/-- x op= e, a number -/
def zAugN (i : Nat) (g : Int → Int → Int) (z : ZX) : ZS := fun env M => match env[i]? with
  | some (.val (.int n)) => (z env M).toS env fun v M1 => match v with
    | .int m => .nx (env.set i (.val (.int (g n m)))) M1
    | _ => .fail
  | _ => .fail
theorem zs_aug {op : Operator} {g : Int → Int → Int} (ho : PIp X op (ipI g)) (hN : X.N.Nodup) (hi : X.N[i]? = some x) (hx : Loc X.env.scope x) (hf : X.fn x = true ∨ X.env.scope.names.lookup x = some .local) (h : ZE X W cl e z) :
    Zs X W cl (.AugAssign (.Name x pos') op e pos) (zAugN i g z) := by
  obtain ⟨t, p, q⟩ := h.ex
  refine ⟨_, ps_aug hN hi hx p ho hf, fun F ph M env σ H B h1 h2 S P => ?_⟩
  unfold zAugN at P
  split at P
  · rename_i n e0
    obtain ⟨v, q0, r0⟩ := S.val i _ e0
    cases r0
    refine ⟨.int n, q0, q F ph M env σ H _ h1 h2 S (PoS.step P fun d M1 ph1 H1 vv S1 f1 r1 P1 => ?_)⟩
    split at P1
    · rename_i m
      cases r1
      exact ⟨n, m, rfl, rfl, P1.setV S1 (.int _)⟩
    · exact P1.elim
  · exact P.elim
end
end Zy
set_option maxHeartbeats 2000000
namespace Zy
open PySem PySem.Spec PyProof.Rows L2

/-! one reading for each meaning -/
def tE (W : WX) (cl : String → Option Addr) (K : PySem.W.Frag) (z : ZX) : TE := fun σ H Q => ∃ F ph M env, F.cl = cl ∧ F.K = K ∧ Sim F ph M env σ H ∧ PoE F W env σ ph H Q (z env M)
def tB (W : WX) (cl : String → Option Addr) (K : PySem.W.Frag) (z : ZB) : TT := fun σ H Q => ∃ F ph M env, F.cl = cl ∧ F.K = K ∧ Sim F ph M env σ H ∧ PoT F W env σ ph H Q (z env M)
section
variable {X : Cx} {W : WX} {cl : String → Option Addr} {e : Expr} {z : ZX} {y : ZB}
theorem ZE.pe (h : ZE X W cl e z) : PE X e (tE W cl X.K z) := by
  obtain ⟨t, p, q⟩ := h.ex
  exact ⟨fun pins s σ H Q I ⟨F, ph, M, env, h1, h2, S, P⟩ => p.run pins s σ H Q I (q F ph M env σ H Q h1 h2 S P)⟩
theorem ZT.pt (h : ZT X W cl e y) : PT X e (tB W cl X.K y) := by
  obtain ⟨t, p, q⟩ := h.ex
  exact ⟨fun pins s σ H Q I ⟨F, ph, M, env, h1, h2, S, P⟩ => p.run pins s σ H Q I (q F ph M env σ H Q h1 h2 S P)⟩
end
section
variable {F F' : Fr} {W : WX} {ph ph' : List Addr} {M M' : Sto} {env env' : Ev} {σ σ' : St} {H H' : Hp}
/-- back in the frame around, behind what ran in another -/
theorem Sim.back (S : Sim F ph M env σ H) (S' : Sim F' ph' M' env' σ' H') (f : Fwd ph H ph' H') (hK : F'.K = F.K) (hc : F'.cl = F.cl) (hN : ∀ a, nof F env σ a → nof F' env' σ' a) : Sim F ph' M' env σ H' := by
  have m : Mo (gh F ph env σ) (gh F ph' env σ) H H' := f.mo S
  have m' : Mo (gh F' ph' env' σ') (gh F ph' env σ) H' H' := ⟨fun a o e n => ⟨e, fun z => n (z.elim (fun z => .inl (hN a z)) .inr)⟩, fun _ _ e => e, hc.symm, hK.symm⟩
  obtain ⟨ps, e1, n1⟩ := S.pre
  obtain ⟨qs, e2, n2⟩ := f.ext
  have nph : ∀ a o, F.H0 a = some o → a ∉ F.ph0 → a ∉ ph := fun a o e n z => by
    rw [e1] at z
    rcases List.mem_append.mp z with z | z
    · exact n z
    · rw [n1 a z] at e
      cases e
  have old : ∀ a, a ∉ ph → (∃ o, H a = some o) → a ∉ ph' := fun a n ⟨o, e⟩ z => by
    rw [e2] at z
    rcases List.mem_append.mp z with z | z
    · exact n z
    · rw [n2 a z] at e
      cases e
  refine ⟨S.len, ⟨ps ++ qs, by rw [e2, e1, List.append_assoc], fun a z => ?_⟩, fun a o e n => f.keep a o (S.keep a o e n) (nph a o e n), fun a z => ?_, S'.ml, S'.nd, fun i d e => ?_, fun i d e => ?_, fun i d e => ?_, S.ap, fun i d e => ?_⟩
  · rcases List.mem_append.mp z with z | z
    · exact n1 a z
    · exact S.h0 (n2 a z)
  · obtain ⟨⟨o, q⟩, n⟩ := S.n0 a z
    exact ⟨f.there a o q, old a n ⟨o, q⟩⟩
  · obtain ⟨a, q, c⟩ := S'.sto i d e
    exact ⟨a, q, c.mo m' fun _ h => h⟩
  · obtain ⟨v, q, r⟩ := S.val i d e
    exact ⟨v, q, r.mo m⟩
  · obtain ⟨a, q, c, h0, n, k⟩ := S.own i d e
    exact ⟨a, q, c.mo m fun o h => f.keep a o h n, h0, old a n c.there, k⟩
  · obtain ⟨a, q, n, c, o⟩ := S.brw i d e
    exact ⟨a, q, n, c.mo m fun o h => f.keep a o h (S.n0 a n).2, o⟩
/-! a block's own names -/
def wipeE (env : Ev) : List Nat → Ev
  | [] => env
  | v :: vs => (wipeE env vs).set v .no
theorem wipeE_some {i : Nat} {w : Sl} : ∀ {vs : List Nat}, (wipeE env vs)[i]? = some w → w ≠ .no → env[i]? = some w ∧ i ∉ vs
  | [], h, _ => ⟨h, by simp⟩
  | v :: vs, h, n => by
    unfold wipeE at h
    rcases getE_set h with ⟨_, e⟩ | ⟨ne, e⟩
    · exact absurd e n
    · obtain ⟨h1, h2⟩ := wipeE_some e n
      exact ⟨h1, by simp only [List.mem_cons, not_or]; exact ⟨ne, h2⟩⟩
theorem wipeE_len : ∀ {vs : List Nat}, (wipeE env vs).length = env.length
  | [] => rfl
  | v :: vs => by unfold wipeE; rw [List.length_set, wipeE_len]
theorem wipe_keep {i : Nat} : ∀ {vs : List Nat}, i ∉ vs → (wipe σ vs)[i]? = σ[i]?
  | [], _ => rfl
  | v :: vs, h => by
    simp only [List.mem_cons, not_or] at h
    unfold wipe
    rw [List.getElem?_set_ne (fun z => h.1 z.symm), wipe_keep h.2]
theorem wipeE_keep {i : Nat} : ∀ {vs : List Nat}, i ∉ vs → (wipeE env vs)[i]? = env[i]?
  | [], _ => rfl
  | v :: vs, h => by
    simp only [List.mem_cons, not_or] at h
    unfold wipeE
    rw [List.getElem?_set_ne (fun z => h.1 z.symm), wipeE_keep h.2]
theorem wipe_in {i : Nat} : ∀ {vs : List Nat}, i ∈ vs → (wipe σ vs)[i]? = σ[i]?.map fun _ => none
  | [], h => by simp at h
  | v :: vs, h => by
    unfold wipe
    by_cases e : v = i
    · subst e
      by_cases hl : v < σ.length
      · rw [List.getElem?_set_self (by rw [wipe_length]; exact hl), List.getElem?_eq_getElem hl]
        rfl
      · rw [List.getElem?_eq_none (by rw [List.length_set, wipe_length]; omega), List.getElem?_eq_none (by omega)]
        rfl
    · rw [List.getElem?_set_ne e]
      have h' : i ∈ vs := by
        rcases List.mem_cons.mp h with h | h
        · exact absurd h.symm e
        · exact h
      exact wipe_in h'
theorem wipe_eq {vs : List Nat} (h : ∀ i, i ∉ vs → σ'[i]? = σ[i]?) (hl : σ'.length = σ.length) : wipe σ' vs = wipe σ vs := by
  apply List.ext_getElem?
  intro i
  by_cases hi : i ∈ vs
  · rw [wipe_in hi, wipe_in hi]
    by_cases hb : i < σ.length
    · rw [List.getElem?_eq_getElem hb, List.getElem?_eq_getElem (by omega)]
      rfl
    · rw [List.getElem?_eq_none (by omega), List.getElem?_eq_none (by omega)]
  · rw [wipe_keep hi, wipe_keep hi, h i hi]
def noOwn (env : Ev) (vs : List Nat) : Bool := vs.all fun i => match env[i]? with
  | some (.own _) => false
  | _ => true
theorem noOwn_at {vs : List Nat} (h : noOwn env vs = true) {i : Nat} (hi : i ∈ vs) {d : D} : env[i]? ≠ some (.own d) := fun e => by
  have := List.all_eq_true.mp h i hi
  rw [e] at this
  cases this
theorem nof_wipe {vs : List Nat} (h : noOwn env vs = true) (a : Addr) : nof F (wipeE env vs) (wipe σ vs) a ↔ nof F env σ a := by
  constructor
  · rintro (z | ⟨i, d, e1, e2⟩)
    · exact .inl z
    · obtain ⟨h1, h2⟩ := wipeE_some e1 (fun z => nomatch z)
      rw [wipe_keep h2] at e2
      exact .inr ⟨i, d, h1, e2⟩
  · rintro (z | ⟨i, d, e1, e2⟩)
    · exact .inl z
    · have hi : i ∉ vs := fun hi => noOwn_at h hi e1
      exact .inr ⟨i, d, by rw [wipeE_keep hi]; exact e1, by rw [wipe_keep hi]; exact e2⟩
theorem Sim.block {vs : List Nat} (S : Sim F ph M env σ H) (h : noOwn env vs = true) : Sim F ph M (wipeE env vs) (wipe σ vs) H := by
  have m : Mo (gh F ph env σ) (gh F ph (wipeE env vs) (wipe σ vs)) H H := gh_mo fun a z => (nof_wipe h a).mp z
  refine ⟨by rw [wipeE_len, wipe_length]; exact S.len, S.pre, S.keep, S.n0, S.ml, S.nd, fun i d e => ?_, fun i d e => ?_, fun i d e => ?_, fun i j d e a e1 e2 e3 e4 => ?_, fun i d e => ?_⟩
  · obtain ⟨a, q, c⟩ := S.sto i d e
    exact ⟨a, q, c.mo m fun _ h => h⟩
  · obtain ⟨h1, h2⟩ := wipeE_some e (fun z => nomatch z)
    obtain ⟨v, q, r⟩ := S.val i d h1
    exact ⟨v, by rw [wipe_keep h2]; exact q, r.mo m⟩
  · obtain ⟨h1, h2⟩ := wipeE_some e (fun z => nomatch z)
    obtain ⟨a, q, c, r⟩ := S.own i d h1
    exact ⟨a, by rw [wipe_keep h2]; exact q, c.mo m fun _ h => h, r⟩
  · obtain ⟨h1, h2⟩ := wipeE_some e1 (fun z => nomatch z)
    obtain ⟨h3, h4⟩ := wipeE_some e2 (fun z => nomatch z)
    rw [wipe_keep h2] at e3
    rw [wipe_keep h4] at e4
    exact S.ap i j d e a h1 h3 e3 e4
  · obtain ⟨h1, h2⟩ := wipeE_some e (fun z => nomatch z)
    obtain ⟨a, q, n, c, o⟩ := S.brw i d h1
    exact ⟨a, by rw [wipe_keep h2]; exact q, n, c.mo m fun _ h => h, o⟩
end
/-! targets within a block -/
def RunT (K : PySem.W.Frag) (is : List Nat) (gz : ZTg) (g : TG) : Prop := ∀ F ph M env σ H (Q : St → Hp → Prop) v d env', F.K = K → Sim F ph M env σ H → Rep (gh F ph env σ) H v d → gz d env = some env' →
    (∀ σ', Sim F ph M env' σ' H → (∀ a, nof F env' σ' a → nof F env σ a) → (∀ i, i ∉ is → σ'[i]? = σ[i]? ∧ env'[i]? = env[i]?) → σ'.length = σ.length → Q σ' H) → g v σ H Q
structure Zgb (X : Cx) (tg : Expr) (is : List Nat) (gz : ZTg) (g : TG) : Prop where
  pg : PG X tg g
  run : RunT X.K is gz g
section
variable {X : Cx} {i : Nat} {x : Str} {pos : Pos} {es : List Expr}
theorem zgb_name (hN : X.N.Nodup) (hi : X.N[i]? = some x) (hx : Loc X.env.scope x) (hf : X.fn x = true ∨ X.env.scope.names.lookup x = some .local) : Zgb X (.Name x pos) [i] (tgN i) (gName i) :=
  ⟨pg_name hN hi hx hf, fun F ph M env σ H Q v d env' _ S r e k => by
    cases e
    refine k _ (S.setV r) (fun a z => ?_) (fun j hj => ?_) (List.length_set ..)
    · rcases z with z | ⟨j, d', e1, e2⟩
      · exact .inl z
      · rcases getE_set e1 with ⟨_, e⟩ | ⟨ne, e⟩
        · cases e
        · rcases getE_set e2 with ⟨e', _⟩ | ⟨_, e'⟩
          · exact absurd e' ne
          · exact .inr ⟨j, d', e, e'⟩
    · exact ⟨List.getElem?_set_ne fun z => hj (by simp [z]), List.getElem?_set_ne fun z => hj (by simp [z])⟩⟩
theorem nms_runB {F : Fr} {ph : List Addr} {M : Sto} {H : Hp} : ∀ {is : List Nat} {env : Ev} {σ : St} {xs : List V} {ds : List D} {env' : Ev} {Q : St → Hp → Prop}, Sim F ph M env σ H → RepL (gh F ph env σ) H xs ds → setAll env is ds = some env' →
    (∀ σ', Sim F ph M env' σ' H → (∀ a, nof F env' σ' a → nof F env σ a) → (∀ i, i ∉ is → σ'[i]? = σ[i]? ∧ env'[i]? = env[i]?) → σ'.length = σ.length → Q σ' H) → gNms is xs σ H Q
  | [], env, σ, xs, ds, env', Q, S, r, e, k => by
    cases ds with
    | nil =>
      cases r
      cases e
      exact ⟨rfl, k σ S (fun _ z => z) (fun _ _ => ⟨rfl, rfl⟩) rfl⟩
    | cons d ds => cases e
  | i :: is, env, σ, xs, ds, env', Q, S, r, e, k => by
    cases ds with
    | nil => cases e
    | cons d ds =>
      cases r with
      | @cons v _ _ _ h t =>
        refine ⟨_, _, rfl, ?_⟩
        have f : Fws F ph env σ H ph (env.set i (.val d)) (σ.set i (some v)) H := Fws.setV fun _ e => nomatch e
        refine nms_runB (is := is) (S.setV h) (RepL.mo f.mo t) e fun σ' S' n' k' l' => k σ' S' (fun a z => ?_) (fun j hj => ?_) (l'.trans (List.length_set ..))
        · rcases n' a z with z | ⟨j, d', e1, e2⟩
          · exact .inl z
          · rcases getE_set e1 with ⟨_, e⟩ | ⟨ne, e⟩
            · cases e
            · rcases getE_set e2 with ⟨e', _⟩ | ⟨_, e'⟩
              · exact absurd e' ne
              · exact .inr ⟨j, d', e, e'⟩
        · simp only [List.mem_cons, not_or] at hj
          exact ⟨by rw [(k' j hj.2).1, List.getElem?_set_ne fun z => hj.1 z.symm], by rw [(k' j hj.2).2, List.getElem?_set_ne fun z => hj.1 z.symm]⟩
theorem zgb_names {k : Nat} {is : List Nat} (hc : X.calm = true) (g : NamesAt X es is) : Zgb X (.Tuple es k pos) is (tgT is) (fun v σ H Q => gTup X.K is.length (gNms is) v σ H Q ∨ gUnl X.K is.length (gNms is) v σ H Q) := by
  refine ⟨PG.or (pg_tup (n := is.length) hc g.gs g.len g.st) (pg_unl (n := is.length) hc g.gs g.len g.st), fun F ph M env σ H Q v d env' hK S r e k => ?_⟩
  unfold tgT at e
  cases e1 : itemsD d with
  | none => rw [e1] at e; cases e
  | some ds =>
    rw [e1] at e
    have e2 : setAll env is ds = some env' := e
    obtain ⟨a, xs, rfl, hq, rr⟩ := (Lk.of r).seq e1
    have hK' : (gh F ph env σ).K = X.K := hK
    rw [hK'] at hq
    have hl : xs.length = is.length := by rw [rr.length, setAll_len e2]
    have run := nms_runB S rr e2 k
    rcases hq with hq | hq
    · exact .inr ⟨a, xs, rfl, hq, hl, run⟩
    · exact .inl ⟨a, xs, rfl, hq, hl, run⟩
end
/-! list comprehensions -/
def Wf : WX := fun _ _ _ _ => False
def zLcL (gz : ZTg) (zt : ZB) (ze : ZX) (envb : Ev) : List D → List D → Sto → Res D
  | [], acc, M => .ok (.lst acc) M
  | d :: ds, acc, M => match gz d envb with
    | some envc => match zt envc M with
      | .ok true M1 => match ze envc M1 with
        | .ok y M2 => if acc.length < sizeLine then zLcL gz zt ze envb ds (acc ++ [y]) M2 else .fail
        | _ => .fail
      | .ok false M1 => zLcL gz zt ze envb ds acc M1
      | _ => .fail
    | none => .fail
def zLc (zi : ZL) (gz : ZTg) (zt : ZB) (ze : ZX) (vs : List Nat) : ZX := fun env M => (zi env M).bind fun ds M1 => if noOwn env vs = true then zLcL gz zt ze (wipeE env vs) ds [] M1 else .fail
/-- a value read in a block, of no wish for exceptions -/
theorem post_block {α β : Type} {Rl : Gh → Hp → β → α → Prop} {F : Fr} {env : Ev} {σ : St} {ph : List Addr} {H : Hp} {Q : β → Hp → Prop} {r : Res α} (h : ∀ a M', r = .ok a M' → ∀ ph' H' b, Sim F ph' M' env σ H' → Fwd ph H ph' H' → Rl (gh F ph' env σ) H' b a → Q b H') (hn : ∃ a M', r = .ok a M') :
    Post Rl F Wf env σ ph H Q r := by
  obtain ⟨a, M', rfl⟩ := hn
  exact fun ph' H' b S f r => h a M' rfl ph' H' b S f r
/-- a cell that the frame leaves alone is written -/
theorem Sim.wrN0 {F : Fr} {ph : List Addr} {M : Sto} {env : Ev} {σ : St} {H : Hp} {a : Addr} {o' : HO} (S : Sim F ph M env σ H) (hn : F.N0 a) (h0 : F.H0 a = none) : Sim F ph M env σ (upd H a o') := by
  have offa : (gh F ph env σ).off a := .inl (.inl hn)
  have m : Mo (gh F ph env σ) (gh F ph env σ) H (upd H a o') := mo_wr offa
  have na : a ∉ ph := (S.n0 a hn).2
  have kp : ∀ b, b ≠ a → ∀ o, H b = some o → upd H a o' b = some o := fun b nb o e => by rw [upd_ne nb]; exact e
  refine ⟨S.len, S.pre, fun b u e n => kp b (fun z => ?_) u (S.keep b u e n), fun b z => ?_, S.ml, S.nd, fun j d e => ?_, fun j d e => ?_, fun j d e => ?_, S.ap, fun j d e => ?_⟩
  · rw [z, h0] at e
    cases e
  · obtain ⟨⟨o, q⟩, n⟩ := S.n0 b z
    refine ⟨?_, n⟩
    by_cases nb : b = a
    · exact ⟨o', by rw [nb]; exact upd_same⟩
    · exact ⟨o, kp b nb o q⟩
  · obtain ⟨b, q, c⟩ := S.sto j d e
    exact ⟨b, q, c.mo m (kp b fun z => na (z ▸ List.mem_of_getElem? q))⟩
  · obtain ⟨v, q, r⟩ := S.val j d e
    exact ⟨v, q, r.mo m⟩
  · obtain ⟨b, q, c, h, n, k⟩ := S.own j d e
    exact ⟨b, q, c.mo m (kp b fun z => k (z ▸ hn)), h, n, k⟩
  · obtain ⟨b, q, n, c, o, ho⟩ := S.brw j d e
    exact ⟨b, q, n, c.mo m (kp b fun z => by rw [z, h0] at ho; cases ho), o, ho⟩
section
variable {X : Cx} {W : WX} {cl : String → Option Addr}
theorem lc_run {zi : ZL} {gz : ZTg} {zt : ZB} {ze : ZX} {is vs : List Nat} {wi : TI} {g : TG} {F : Fr} {ph : List Addr} {M : Sto} {env : Ev} {σ : St} {H : Hp} {Q : VK}
    (qi : ∀ F ph M env σ H R, F.cl = cl → F.K = X.K → Sim F ph M env σ H → PoI F W env σ ph H R (zi env M) → wi σ H R)
    (hg : RunT X.K is gz g)
    (hv : ∀ i ∈ is, i ∈ vs) (h1 : F.cl = cl) (h2 : F.K = X.K) (S : Sim F ph M env σ H) (P : PoF F W env σ ph H Q (zLc zi gz zt ze vs env M)) :
    tLc wi g (tB Wf cl X.K zt) (tE Wf cl X.K ze) vs σ H Q := by
  refine qi F ph M env σ H _ h1 h2 S (PoF.step P fun ds M1 ph1 H1 J S1 f1 r1 P1 => ?_)
  have IO : ItOk F ph1 env σ H1 J ds := r1
  by_cases hno : noOwn env vs = true
  · rw [if_pos hno] at P1
    intro A hA
    obtain ⟨S2, m2⟩ := S1.lay (o := .lst []) hA
    refine ⟨fun i m H2 => m = ds.length - i ∧ i ≤ ds.length ∧ ∃ ph2 M2 acc xs, Sim (F.plus A) ph2 M2 env σ H2 ∧ Fwd ph1 H1 ph2 H2 ∧ H2 A = some (.lst xs) ∧ RepL (gh (F.plus A) ph2 env σ) H2 xs acc ∧
      PoF F W env σ ph1 H1 Q (zLcL gz zt ze (wipeE env vs) (ds.drop i) acc M2), ⟨ds.length, rfl, Nat.zero_le _, ph1, M1, [], [], S2, Fwd.alloc hA, upd_same, .nil, P1⟩, ?_⟩
    rintro i m H2 ⟨rfl, hi, ph2, M2, acc, xs, S3, f3, hx, rx, P3⟩
    obtain ⟨st, go⟩ := IO (F.plus A) ph2 M2 env σ H2 (FrEx.plus hA) S3 f3.ws
    by_cases hlt : i < ds.length
    · have ed : ds.drop i = ds[i] :: ds.drop (i + 1) := List.drop_eq_getElem_cons hlt
      obtain ⟨g1, yl⟩ := go i ds[i] (List.getElem?_eq_getElem hlt)
      rw [ed] at P3
      unfold zLcL at P3
      refine .inr ⟨g1, fun H' => ∃ ph2 M2 acc xs, Sim (F.plus A) ph2 M2 env σ H' ∧ Fwd ph1 H1 ph2 H' ∧ H' A = some (.lst xs) ∧ RepL (gh (F.plus A) ph2 env σ) H' xs acc ∧ PoF F W env σ ph1 H1 Q (zLcL gz zt ze (wipeE env vs) (ds.drop (i + 1)) acc M2),
        fun H' q => ⟨ds.length - (i + 1), by omega, rfl, hlt, q⟩, fun x H3 hy => ?_⟩
      obtain ⟨S4, f4, r4⟩ := yl x H3 hy
      have hA2 : A ∉ ph2 := (S3.n0 A (.inr rfl)).2
      have S5 := S4.block hno
      have rb : Rep (gh (F.plus A) ph2 (wipeE env vs) (wipe σ vs)) H3 x ds[i] := r4.mo (gh_mo fun a z => (nof_wipe hno a).mp z)
      cases e1 : gz ds[i] (wipeE env vs) with
      | none => rw [e1] at P3; exact P3.elim
      | some envc =>
        simp only [e1] at P3
        refine hg (F.plus A) ph2 M2 _ _ H3 _ x _ envc h2 S5 rb e1 fun σc S6 n6 k6 l6 => ⟨wipe_eq (fun j hj => ?_) (l6.trans (wipe_length ..)), ?_⟩
        · rw [(k6 j (fun z => hj (hv j z))).1, wipe_keep hj]
        · have nback : ∀ a, nof (F.plus A) env σ a → nof (F.plus A) envc σc a := fun a z => by
            rcases z with z | ⟨j, d, q1, q2⟩
            · exact .inl z
            · have hj : j ∉ vs := fun z => noOwn_at hno z q1
              obtain ⟨k7, k8⟩ := k6 j (fun z => hj (hv j z))
              exact .inr ⟨j, d, by rw [k8, wipeE_keep hj]; exact q1, by rw [k7, wipe_keep hj]; exact q2⟩
          refine ⟨F.plus A, ph2, M2, envc, h1, h2, S6, ?_⟩
          cases e2 : zt envc M2 with
          | ok b M4 =>
            simp only [e2] at P3
            intro ph4 H4 b' S7 f7 rb'
            cases (show b' = b from rb')
            have S8 : Sim (F.plus A) ph4 M4 env σ H4 := S4.back S7 f7 rfl rfl nback
            have mo8 := f7.mo S4
            have hx4 : H4 A = some (.lst xs) := f7.keep A _ (f4.keep A _ hx hA2) hA2
            have rx4 : RepL (gh (F.plus A) ph4 env σ) H4 xs acc := RepL.mo mo8 (RepL.mo (f4.mo S3) rx)
            cases b with
            | false =>
              refine iteF ⟨ph4, M4, acc, xs, S8, (f3.trans f4).trans f7, hx4, rx4, P3⟩
            | true =>
              refine iteT ⟨F.plus A, ph4, M4, envc, h1, h2, S7, ?_⟩
              cases e3 : ze envc M4 with
              | ok y M5 =>
                simp only [e3] at P3
                by_cases hl : acc.length < sizeLine
                · rw [if_pos hl] at P3
                  intro ph5 H5 v S9 f9 r9
                  have hA4 : A ∉ ph4 := (S8.n0 A (.inr rfl)).2
                  have hx5 : H5 A = some (.lst xs) := f9.keep A _ hx4 hA4
                  have S10 : Sim (F.plus A) ph5 M5 env σ H5 := S8.back S9 f9 rfl rfl nback
                  have rx5 : RepL (gh (F.plus A) ph5 env σ) H5 xs acc := RepL.mo (f9.mo S8) rx4
                  have r10 : Rep (gh (F.plus A) ph5 env σ) H5 v y := r9.mo (gh_mo nback)
                  refine ⟨xs, hx5, by rw [rx5.length]; exact hl, ph5, M5, acc ++ [y], xs ++ [v], ?_, ?_, upd_same, ?_, P3⟩
                  · exact S10.wrN0 (.inr rfl) (S.h0 (f1.back hA))
                  · refine ⟨((f3.trans f4).trans (f7.trans f9)).ext, fun a o e n => ?_, fun a o e => ?_⟩
                    · rw [upd_ne (ne_of_none e hA)]
                      exact ((f3.trans f4).trans (f7.trans f9)).keep a o e n
                    · rw [upd_ne (ne_of_none e hA)]
                      exact ((f3.trans f4).trans (f7.trans f9)).there a o e
                  · exact RepL.mo (mo_wr (show (gh (F.plus A) ph5 env σ).off A from .inl (.inl (.inr rfl)))) (rx5.app (.cons r10 .nil))
                · rw [if_neg hl] at P3; exact P3.elim
              | exc c fs M5 => simp only [e3] at P3; exact P3.elim
              | fail => simp only [e3] at P3; exact P3.elim
          | exc c fs M4 => simp only [e2] at P3; exact P3.elim
          | fail => simp only [e2] at P3; exact P3.elim
    · have e : i = ds.length := by omega
      subst e
      rw [List.drop_length] at P3
      exact .inl ⟨st, P3 ph2 H2 A S3 f3 (.lst hx rx) hA⟩
  · rw [if_neg hno] at P1
    exact P1.elim
theorem pof_of {F : Fr} {env : Ev} {σ : St} {ph : List Addr} {M : Sto} {H : Hp} {Q : VK} {r : Res D} (S : Sim F ph M env σ H) (P : PoE F W env σ ph H Q r) : PoF F W env σ ph H Q r := by
  cases r with
  | fail => exact P
  | exc c fs M' => exact P
  | ok d M' =>
    intro ph' H' a S' f c hn
    obtain ⟨S1, m⟩ := S'.unplus (S.h0 hn)
    refine P ph' H' (.ref a) S1 f (c.rep m fun z => ?_)
    rcases z with z | z
    · exact nof_none (M := M) (ph := ph) (H := H) (F := F) (env := env) (σ := σ) S hn (by
        rcases z with z | ⟨i, d', e1, e2⟩
        · exact .inl z
        · exact .inr ⟨i, d', e1, e2⟩)
    · exact (S'.n0 a (.inr rfl)).2 z
/-- what a comprehension asks of its parts -/
structure LcOk (X : Cx) (cl : String → Option Addr) (W : WX) (tg iter elt : Expr) (ifs : List Expr) (scope : Scope) (own : List (Str × Nat)) (zi : ZL) (gz : ZTg) (zt : ZB) (ze : ZX) : Prop where
  it : Zi X W cl tg iter zi
  blk : BlkOk X.N X.env.scope scope own
  tgt : ∃ is g, (∀ i ∈ is, i ∈ own.map (·.2)) ∧ RunT X.K is gz g ∧ ∀ (s : Shared) (H : Hp) (C : Addr) (cs : List (Str × Addr)) (fp : List Addr), PG (X.blk s H scope (compEnvC scope cs C X.env) fp) tg g
  tst : (ifs = [] ∧ zt = fun _ M => .ok true M) ∨ ∃ c, ifs = [c] ∧ ∀ (s : Shared) (H : Hp) (C : Addr) (cs : List (Str × Addr)) (fp : List Addr), ZT (X.blk s H scope (compEnvC scope cs C X.env) fp) Wf cl c zt
  el : ∀ (s : Shared) (H : Hp) (C : Addr) (cs : List (Str × Addr)) (fp : List Addr), ZE (X.blk s H scope (compEnvC scope cs C X.env) fp) Wf cl elt ze
  fold : ∀ x, foldedSetIterable iter X.env x = pure x
variable {tg iter elt : Expr} {ifs : List Expr} {scope : Scope} {own : List (Str × Nat)} {zi : ZL} {gz : ZTg} {zt : ZB} {ze : ZX} {pos pos' spos : Pos} {i : Nat} {x : Str}
theorem pts_of {Y : Cx} (hK : Y.K = X.K) (h : (ifs = [] ∧ zt = fun _ M => .ok true M) ∨ ∃ c, ifs = [c] ∧ ZT Y Wf cl c zt) : PTs Y ifs (tB Wf cl X.K zt) := by
  rcases h with ⟨rfl, rfl⟩ | ⟨c, rfl, h⟩
  · exact ⟨fun pins s σ H Q I ⟨F, ph, M, env, h1, h2, S, P⟩ => pts_nil.run pins s σ H Q I (P ph H true S Fwd.refl rfl)⟩
  · rw [← hK]
    exact pts_one h.pt
theorem LcOk.parts (L : LcOk X cl W tg iter elt ifs scope own zi gz zt ze) (hc : X.calm = true) (hN : X.N.Nodup) :
    ∃ t, PE X (.ListComp elt [⟨tg, iter, ifs, 0⟩] scope pos) t ∧ (∀ py y sp i, X.N[i]? = some y → X.env.scope.names.lookup y = some .local → swapsWith (.ListComp elt [⟨tg, iter, ifs, 0⟩] scope pos) (some (.Name y py)) sp.line X.env = pure true →
      PS X (.Assign [.Name y py] (.ListComp elt [⟨tg, iter, ifs, 0⟩] scope pos) sp) (tAsg t (gName i))) ∧
      ∀ F ph M env σ H Q, F.cl = cl → F.K = X.K → Sim F ph M env σ H → PoF F W env σ ph H Q (zLc zi gz zt ze (own.map (·.2)) env M) → t σ H Q := by
  obtain ⟨wi, pi, qi⟩ := L.it.ex
  obtain ⟨is, g, hv, hr, hg⟩ := L.tgt
  have ht : ∀ (s : Shared) (H : Hp) (C : Addr) (cs : List (Str × Addr)) (fp : List Addr), PTs (X.blk s H scope (compEnvC scope cs C X.env) fp) ifs (tB Wf cl X.K zt) := fun s H C cs fp => by
    refine pts_of (X := X) rfl ?_
    rcases L.tst with h | ⟨c, h, q⟩
    · exact .inl h
    · exact .inr ⟨c, h, q s H C cs fp⟩
  have he : ∀ (s : Shared) (H : Hp) (C : Addr) (cs : List (Str × Addr)) (fp : List Addr), PE (X.blk s H scope (compEnvC scope cs C X.env) fp) elt (tE Wf cl X.K ze) := fun s H C cs fp => (L.el s H C cs fp).pe
  exact ⟨_, pe_lc hc hN pi L.blk hg ht he L.fold, fun py y sp i h1 h2 h3 => ps_setLc hc hN h1 h2 h3 pi L.blk hg ht he L.fold, fun F ph M env σ H Q h1 h2 S P => lc_run (X := X) qi hr hv h1 h2 S P⟩
theorem zf_lc (L : LcOk X cl W tg iter elt ifs scope own zi gz zt ze) (hc : X.calm = true) (hN : X.N.Nodup) : ZF X W cl (.ListComp elt [⟨tg, iter, ifs, 0⟩] scope pos) (zLc zi gz zt ze (own.map (·.2))) := by
  obtain ⟨t, p, _, q⟩ := L.parts (pos := pos) hc hN
  exact ⟨t, p, q⟩
/-- x = [..] on one line -/
theorem zs_setLc (L : LcOk X cl W tg iter elt ifs scope own zi gz zt ze) (hc : X.calm = true) (hN : X.N.Nodup) (hi : X.N[i]? = some x) (hx : X.env.scope.names.lookup x = some .local)
    (hs : swapsWith (.ListComp elt [⟨tg, iter, ifs, 0⟩] scope pos) (some (.Name x pos')) spos.line X.env = pure true) : Zs X W cl (.Assign [.Name x pos'] (.ListComp elt [⟨tg, iter, ifs, 0⟩] scope pos) spos) (zSet i (zLc zi gz zt ze (own.map (·.2)))) := by
  obtain ⟨t, _, p, q⟩ := L.parts (pos := pos) hc hN
  refine ⟨_, p pos' x spos i hi hx hs, fun F ph M env σ H B h1 h2 S P => q F ph M env σ H _ h1 h2 S (pof_of S ?_)⟩
  exact PoS.step P fun d M1 ph1 H1 v S1 f1 r1 P1 => P1.setV S1 r1
theorem zs_setLcO (L : LcOk X cl W tg iter elt ifs scope own zi gz zt ze) (hc : X.calm = true) (hN : X.N.Nodup) (hi : X.N[i]? = some x) (hx : X.env.scope.names.lookup x = some .local)
    (hs : swapsWith (.ListComp elt [⟨tg, iter, ifs, 0⟩] scope pos) (some (.Name x pos')) spos.line X.env = pure true) : Zs X W cl (.Assign [.Name x pos'] (.ListComp elt [⟨tg, iter, ifs, 0⟩] scope pos) spos) (zSetO i (zLc zi gz zt ze (own.map (·.2)))) := by
  obtain ⟨t, _, p, q⟩ := L.parts (pos := pos) hc hN
  exact ⟨_, p pos' x spos i hi hx hs, fun F ph M env σ H B h1 h2 S P => q F ph M env σ H _ h1 h2 S (post_own S P)⟩
theorem zs_setLcC (L : LcOk X cl W tg iter elt ifs scope own zi gz zt ze) (hc : X.calm = true) (hN : X.N.Nodup) (hi : X.N[i]? = some x) (hx : X.env.scope.names.lookup x = some .local)
    (hs : swapsWith (.ListComp elt [⟨tg, iter, ifs, 0⟩] scope pos) (some (.Name x pos')) spos.line X.env = pure true) : Zs X W cl (.Assign [.Name x pos'] (.ListComp elt [⟨tg, iter, ifs, 0⟩] scope pos) spos) (zSetC i (zLc zi gz zt ze (own.map (·.2)))) := by
  obtain ⟨t, _, p, q⟩ := L.parts (pos := pos) hc hN
  exact ⟨_, p pos' x spos i hi hx hs, fun F ph M env σ H B h1 h2 S P => q F ph M env σ H _ h1 h2 S (post_cel S P)⟩
end
end Zy
set_option maxHeartbeats 2000000
namespace Zy
open PySem PySem.Spec PyProof.Rows L2

/-! a def's promise where nothing is guarded (repr) -/
structure FnG (P : Program) (w : World) (K : PySem.W.Frag) (mg : Str → Option Value) (base : Heap) (CX : CXT) (k : Nat) (f : Addr) (fd : FuncData) (ps : List Str) (sp : Sp) : Prop where
  len : ∀ vs H Q E, sp vs H Q E → vs.length = ps.length
  run : ∀ (A : Around) (outer : List Env) (s : Shared) (H : Hp) (args : Args) (us : List Value) (vs : List V) (Q : VK) (E : XK), A.guards = some [] → Room k A → Env0 P w K mg base A outer s H → BindsTo s fd args (ps.zip us) → Vals vs us → sp vs H Q E →
    codeAny (model P w) A (.call (.ref f) args) (CR CX outer P w H s Q E) s
theorem FnG.mono {P : Program} {w : World} {K : PySem.W.Frag} {mg : Str → Option Value} {base : Heap} {CX : CXT} {j k : Nat} {f : Addr} {fd : FuncData} {ps : List Str} {sp : Sp} (F : FnG P w K mg base CX j f fd ps sp) (h : j ≤ k) : FnG P w K mg base CX k f fd ps sp :=
  ⟨F.len, fun A outer s H args us vs Q E hg hr => F.run A outer s H args us vs Q E hg (hr.mono h)⟩
/-- a def of the text, by its body -/
theorem fnG_of {CX : CXT} {P : Program} {w : World} {K : PySem.W.Frag} {mg : Str → Option Value} {base : Heap} {xn qual : Str} {params : Arguments} {body : List Stmt} {scope : Scope} {dvs : List V} {dk : List (Str × V)} {f : Addr} {fd : FuncData} {N ps : List Str} {k : Nat} {sp : Sp}
    (Fd : FunD K xn qual params body scope dvs dk f fd) (S : FnScope N ps scope) (len : ∀ vs H Q E, sp vs H Q E → vs.length = ps.length)
    (hb : ∀ (cdv : Value) (A : Around) (outer : List Env) (s : Shared) (H : Hp) (vs : List V) (Q : VK) (E : XK), A.guards = some [] → Room k (A.deeper (envOfC qual scope s.heap.objs.size f cdv)) → sp vs H Q E →
      ∃ t, PSs (cxOf CX P w K mg base N qual scope f cdv A outer s H E) body t ∧ t { nx := fun _ H' => Q .non H', rt := Q } (L2.start N vs) H) : FnG P w K mg base CX (k + 1) f fd ps sp := by
  obtain ⟨oc, od, dV, kV, doc, pm, an, cdv, ct, osl, rfl, lk, hcd, _, _⟩ := Fd.ex
  refine ⟨len, fun A outer s H args us vs Q E hg hr e0 hbind r hsp => ?_⟩
  have inn : ∀ b o, base.get? b = some o → s.heap.get? b = some o := fun b o e => (e0.bs b o e).1
  have kx : K.In s.heap := e0.mod.kin.keeps inn
  refine codeAny_call_function hr.depth (kx _ _ lk) rfl S.co S.gen rfl (PySem.W.codeRec_of kx hcd) (hbind _ _ _ _ ?_)
  refine wpAny_newFunctionEnv_cells S.kind (fun y hy => ?_) fun env he s1 x => ?_
  · rcases S.par y.1 (List.of_mem_zip hy).1 with q | q
    · exact .inl q
    · exact .inr ⟨q, PySem.W.cellsFrom_some _ _ _ (.inl q)⟩
  · subst he
    refine ⟨(e0.mod.nolimit.keeps inn).keeps x.toInCall.keep, codeAny_func ?_⟩
    obtain ⟨t, ht, hq⟩ := hb cdv A outer s H vs Q E hg (hr.deeper _) hsp
    have J0 := inv_start (CX := CX) (N := N) (E := E) S hr.hd e0 (len _ _ _ _ hsp) r x
    refine wpAny_mono (ht.run [] s1 _ H _ J0 hq) (fun fl s' hs => ?_) fun _ _ z => z
    match fl, hs with
    | .ret u, ⟨v, _, H', J, rv, q⟩ => exact ⟨v, H', J.os, J.bare, J.base, J.hok, rv, q⟩
    | .next, ⟨_, H', J, q⟩ => exact ⟨V.non, H', J.os, J.bare, J.base, J.hok, rfl, q⟩
    | .brk, ⟨_, _, _, q⟩ => exact q.elim
    | .cont, ⟨_, _, _, q⟩ => exact q.elim
/-! arguments as slots -/
def RlS (G : Gh) (H : Hp) (v : V) : Sl → Prop
  | .val d => Rep G H v d
  | .bor d => ∃ a, v = .ref a ∧ Cel G H a d ∧ a ∉ G.ph ∧ G.N a
  | _ => False
inductive RsL (G : Gh) (H : Hp) : List V → List Sl → Prop
  | nil : RsL G H [] []
  | cons {x : V} {d : Sl} {xs : List V} {ds : List Sl} (h : RlS G H x d) (t : RsL G H xs ds) : RsL G H (x :: xs) (d :: ds)
theorem RsL.length {G : Gh} {H : Hp} : ∀ {xs : List V} {ds : List Sl}, RsL G H xs ds → xs.length = ds.length
  | _, _, .nil => rfl
  | _, _, .cons _ t => by rw [List.length_cons, List.length_cons, RsL.length t]
theorem RsL.app {G : Gh} {H : Hp} : ∀ {xs ys : List V} {ds es : List Sl}, RsL G H xs ds → RsL G H ys es → RsL G H (xs ++ ys) (ds ++ es)
  | _, _, _, _, .nil, s => s
  | _, _, _, _, .cons h t, s => .cons h (RsL.app t s)
theorem RsL.at {G : Gh} {H : Hp} : ∀ {xs : List V} {ds : List Sl}, RsL G H xs ds → ∀ {i : Nat} {d : Sl}, ds[i]? = some d → ∃ x, xs[i]? = some x ∧ RlS G H x d
  | _, _, .nil, i, d, e => by simp at e
  | _, _, .cons h t, 0, d, e => by
    have e' := Option.some.inj e
    subst e'
    exact ⟨_, rfl, h⟩
  | _, _, .cons h t, i + 1, d, e => RsL.at t (i := i) (d := d) (by simpa using e)
theorem rsl_vals {G : Gh} {H : Hp} : ∀ {xs : List V} {ds : List D}, RepL G H xs ds → RsL G H xs (ds.map .val)
  | _, _, .nil => .nil
  | _, _, .cons h t => .cons h (rsl_vals t)
abbrev ZSl := Ev → Sto → Res (List Sl)
section
variable {F : Fr} {W : WX} {ph ph' : List Addr} {M M' : Sto} {env : Ev} {σ : St} {H H' : Hp} {v : V} {d : Sl}
theorem RlS.fwd (S : Sim F ph M env σ H) (f : Fwd ph H ph' H') (r : RlS (gh F ph env σ) H v d) : RlS (gh F ph' env σ) H' v d := by
  cases d with
  | val d => exact Rep.mo (f.mo S) r
  | bor d =>
    obtain ⟨a, e, c, n, hN⟩ := r
    rcases (RlC.fwd (d := d) S f (.inr ⟨a, e, c, n, hN⟩)) with q | q
    · obtain ⟨o, ho⟩ := c.there
      subst e
      have m := f.mo S
      refine ⟨a, rfl, c.mo m fun o h => f.keep a o h n, fun z => ?_, hN⟩
      obtain ⟨ps, e1, hn⟩ := f.ext
      have z' : a ∈ ph' := z
      rw [e1] at z'
      rcases List.mem_append.mp z' with q | q
      · exact n q
      · rw [hn a q] at ho
        cases ho
    · exact q
  | no => exact r
  | own d => exact r
theorem RsL.fwd (S : Sim F ph M env σ H) (f : Fwd ph H ph' H') : ∀ {xs : List V} {ds : List Sl}, RsL (gh F ph env σ) H xs ds → RsL (gh F ph' env σ) H' xs ds
  | _, _, .nil => .nil
  | _, _, .cons h t => .cons (h.fwd S f) (RsL.fwd S f t)
end
structure ZSa (X : Cx) (W : WX) (cl : String → Option Addr) (es : List Expr) (z : ZSl) : Prop where
  ex : ∃ t, PA X es t ∧ ∀ F ph M env σ H Q, F.cl = cl → F.K = X.K → Sim F ph M env σ H → @Post (List Sl) (List V) RsL F W env σ ph H Q (z env M) → t σ H Q
structure ZSk (X : Cx) (W : WX) (cl : String → Option Addr) (kws : List Keyword) (z : ZSl) : Prop where
  ex : ∃ t, PK X kws t ∧ ∀ F ph M env σ H Q, F.cl = cl → F.K = X.K → Sim F ph M env σ H → @Post (List Sl) (List V) RsL F W env σ ph H Q (z env M) → t σ H Q
abbrev ZS1 := Ev → Sto → Res Sl
structure ZS1j (X : Cx) (W : WX) (cl : String → Option Addr) (e : Expr) (z : ZS1) : Prop where
  ex : ∃ t, PE X e t ∧ ∀ F ph M env σ H Q, F.cl = cl → F.K = X.K → Sim F ph M env σ H → @Post Sl V RlS F W env σ ph H Q (z env M) → t σ H Q
def zSv (i : Nat) : ZS1 := fun env M => match env[i]? with
  | some (.val d) => .ok (.val d) M
  | some (.own d) => .ok (.bor d) M
  | some (.bor d) => .ok (.bor d) M
  | _ => .fail
def zVl (z : ZX) : ZS1 := fun env M => (z env M).bind fun d M1 => .ok (.val d) M1
def sNil : ZSl := fun _ M => .ok [] M
def sCons (z : ZS1) (l : ZSl) : ZSl := fun env M => (z env M).bind fun d M1 => (l env M1).bind fun ds M2 => .ok (d :: ds) M2
section
variable {X : Cx} {W : WX} {cl : String → Option Addr} {e : Expr} {es : List Expr} {kws : List Keyword} {z : ZX} {z1 : ZS1} {zs zk : ZSl} {pos p kpos : Pos} {i : Nat} {x : Str} {nm : Option Str}
theorem zs1_var (hN : X.N[i]? = some x) (hv : Vis X.env.scope x) (hd : (x == ("__debug__" : Str)) = false) (hc : (x == ("__classdict__" : Str)) = false) : ZS1j X W cl (.Name x pos) (zSv i) := by
  refine ⟨_, pe_var hN hv hd hc, fun F ph M env σ H Q _ _ S P => ?_⟩
  unfold zSv at P
  split at P
  · rename_i d e
    obtain ⟨v, e1, r⟩ := S.val i d e
    exact ⟨v, e1, P.now S r⟩
  · rename_i d e
    obtain ⟨a, e1, r, _, n, _⟩ := S.own i d e
    exact ⟨_, e1, P.now S ⟨a, rfl, r, n, .inr ⟨i, d, e, e1⟩⟩⟩
  · rename_i d e
    obtain ⟨a, e1, n, r, _⟩ := S.brw i d e
    exact ⟨_, e1, P.now S ⟨a, rfl, r, (S.n0 a n).2, .inl n⟩⟩
  · exact P.elim
theorem ZE.to1 (h : ZE X W cl e z) : ZS1j X W cl e (zVl z) := by
  obtain ⟨t, p, q⟩ := h.ex
  exact ⟨t, p, fun F ph M env σ H Q h1 h2 S P => q F ph M env σ H Q h1 h2 S (Post.step P fun d M1 ph1 H1 v S1 f1 r1 P1 => P1.now S1 r1)⟩
theorem zsa_nil : ZSa X W cl [] sNil := ⟨_, pa_nil, fun F ph M env σ H Q _ _ S P => P.now S .nil⟩
theorem zsa_cons (h : ZS1j X W cl e z1) (t : ZSa X W cl es zs) (n : nostar e = true) : ZSa X W cl (e :: es) (sCons z1 zs) := by
  obtain ⟨te, pe, qe⟩ := h.ex
  obtain ⟨ts, ps, qs⟩ := t.ex
  refine ⟨_, pa_cons pe ps (star_ok n), fun F ph M env σ H Q h1 h2 S P => qe F ph M env σ H _ h1 h2 S (P.step fun d M1 ph1 H1 v S1 f1 r1 P1 => ?_)⟩
  refine qs F ph1 M1 env σ H1 _ h1 h2 S1 (P1.step fun ds M2 ph2 H2 ws S2 f2 r2 P2 => ?_)
  exact P2.now S2 (.cons (r1.fwd S1 f2) r2)
theorem zsk_nil : ZSk X W cl [] sNil := ⟨_, pk_nil, fun F ph M env σ H Q _ _ S P => P.now S .nil⟩
theorem zsk_cons (h : ZS1j X W cl e z1) (t : ZSk X W cl kws zk) : ZSk X W cl (⟨nm, e, kpos⟩ :: kws) (sCons z1 zk) := by
  obtain ⟨te, pe, qe⟩ := h.ex
  obtain ⟨ts, ps, qs⟩ := t.ex
  refine ⟨_, pk_cons pe ps, fun F ph M env σ H Q h1 h2 S P => qe F ph M env σ H _ h1 h2 S (P.step fun d M1 ph1 H1 v S1 f1 r1 P1 => ?_)⟩
  refine qs F ph1 M1 env σ H1 _ h1 h2 S1 (P1.step fun ds M2 ph2 H2 ws S2 f2 r2 P2 => ?_)
  exact P2.now S2 (.cons (r1.fwd S1 f2) r2)
/-! a def's promise -/
abbrev Sem1 := List Sl → Sto → Res D
def spZ (cl : String → Option Addr) (K : PySem.W.Frag) (n : Nat) (f : Sem1) : Sp := fun vs H Q E => vs.length = n ∧ ∃ F ph M env σ as, F.cl = cl ∧ F.K = K ∧ Sim F ph M env σ H ∧ RsL (gh F ph env σ) H vs as ∧
  PoE F (fun c d _ H' => E c d H') env σ ph H Q (f as M)
/-- the parameters' places among what is written and the defaults -/
def perm {α : Type} (l : List α) : List Nat → Option (List α)
  | [] => some []
  | i :: is => match l[i]?, perm l is with
    | some x, some xs => some (x :: xs)
    | _, _ => none
theorem perm_vals {α β : Type} {R : α → β → Prop} {l : List α} {m : List β} (h : ∀ (i : Nat) b, m[i]? = some b → ∃ a, l[i]? = some a ∧ R a b) : ∀ {is : List Nat} {ys : List β}, perm m is = some ys → ∃ xs, perm l is = some xs ∧ Paired R xs ys
  | [], ys, e => by
    cases e
    exact ⟨[], rfl, .nil⟩
  | i :: is, ys, e => by
    unfold perm at e
    cases e1 : m[i]? with
    | none => rw [e1] at e; cases e
    | some b =>
      cases e2 : perm m is with
      | none => rw [e1, e2] at e; cases e
      | some bs =>
        rw [e1, e2] at e
        cases e
        obtain ⟨a, q1, r1⟩ := h i b e1
        obtain ⟨as, q2, r2⟩ := perm_vals h e2
        exact ⟨a :: as, by unfold perm; rw [q1, q2], .cons r1 r2⟩
theorem perm_len {α : Type} {l : List α} : ∀ {is : List Nat} {ys : List α}, perm l is = some ys → ys.length = is.length
  | [], ys, e => by cases e; rfl
  | i :: is, ys, e => by
    unfold perm at e
    cases e1 : l[i]? with
    | none => rw [e1] at e; cases e
    | some b =>
      cases e2 : perm l is with
      | none => rw [e1, e2] at e; cases e
      | some bs =>
        rw [e1, e2] at e
        cases e
        rw [List.length_cons, List.length_cons, perm_len e2]
structure Pat (K : PySem.W.Frag) (fd : FuncData) (ps : List Str) (n : Nat) (ks : List Str) (is : List Nat) (dd : List D) : Prop where
  len : is.length = ps.length
  ex : ∃ (dv : List V) (du : List Value), Vals dv du ∧ (∀ G H, RepL G H dv dd) ∧ ∀ (s : Shared) (us ws ys : List Value), K.In s.heap → us.length = n → ws.length = ks.length → perm (us ++ ws ++ du) is = some ys → BindsTo s fd ⟨us, ks.zip ws⟩ (ps.zip ys)
def zCall (f : Sem1) (n m : Nat) (is : List Nat) (dd : List D) (zs zk : ZSl) : ZX := fun env M => (zs env M).bind fun as M1 => (zk env M1).bind fun bs M2 =>
  if as.length = n ∧ bs.length = m then match perm (as ++ bs ++ dd.map .val) is with
    | some ys => f ys M2
    | none => .fail else .fail
theorem RsL.paired {G : Gh} {H : Hp} : ∀ {xs : List V} {ds : List Sl}, Paired (RlS G H) xs ds → RsL G H xs ds
  | _, _, .nil => .nil
  | _, _, .cons h t => .cons h (RsL.paired t)
theorem callG {CX : CXT} {k : Nat} {f : Addr} {fd : FuncData} {ps ks : List Str} {sp : Sp} {E : St → XK} {pins : List (Addr × Obj)} {σ : St} {H : Hp} {s : Shared} {Q : VK} {us ws ys : List Value} {zs : List V} (F : FnG X.prog X.w X.K X.mg X.base CX k f fd ps sp) (hgd : X.A.guards = some []) (hr : Room k X.A)
    (hx : PassesAt CX X σ (E σ)) (I : Inv X pins σ H s) (hb : BindsTo s fd ⟨us, ks.zip ws⟩ (ps.zip ys)) (r : Vals zs ys) (h : sp zs H Q (E σ)) :
    wpAny (model X.prog X.w) X.A (call (.ref f) us (ks.zip ws)) (EP X pins σ Q) X.xe s := by
  refine wpAny_call (codeAny_mono (F.run X.A X.stack s H ⟨us, ks.zip ws⟩ ys zs Q (E σ) hgd hr I.env0 hb r h) fun res s' hq => ?_)
  match res, hq with
  | .error e, hq => exact hx pins H s e s' I hq
  | .ok (.ret u), hq => exact I.after hq
theorem call_fin {k : Nat} {f : Addr} {fd : FuncData} {ps ks : List Str} {n : Nat} {is : List Nat} {dd : List D} {g : Sem1} {dv : List V} {du : List Value} (F : FnG X.prog X.w X.K X.mg X.base (L2.CX X.prog X.w) k f fd ps (spZ cl X.K ps.length g)) (hgd : X.A.guards = some []) (hr : Room k X.A) (tk : Takes X W)
    (rdu : Vals dv du) (hB : ∀ (s : Shared) (us ws ys : List Value), X.K.In s.heap → us.length = n → ws.length = ks.length → perm (us ++ ws ++ du) is = some ys → BindsTo s fd ⟨us, ks.zip ws⟩ (ps.zip ys))
    {pins : List (Addr × Obj)} {σ : St} {Q : VK} {us ws : List Value} {s2 : Shared} {vs zs : List V} {H2 : Hp} (I2 : Inv X pins σ H2 s2) (r1 : Vals vs us) (r2 : Vals zs ws) (h : vs.length = n ∧ zs.length = ks.length ∧ ∃ ys, perm (vs ++ zs ++ dv) is = some ys ∧ spZ cl X.K ps.length g ys H2 Q (WE W σ)) :
    X.K.In s2.heap ∧ wpAny (model X.prog X.w) X.A (call (.ref f) us (ks.zip ws)) (EP X pins σ Q) X.xe s2 := by
  obtain ⟨l1, l2, ys, hp, hsp⟩ := h
  have rr : Vals (vs ++ zs ++ dv) (us ++ ws ++ du) := (r1.append r2).append rdu
  have look : ∀ (i : Nat) (b : V), (vs ++ zs ++ dv)[i]? = some b → ∃ a, (us ++ ws ++ du)[i]? = some a ∧ (fun (a : Value) (b : V) => RelV b a) a b := fun i b e => rr.get e
  obtain ⟨yv, hp2, py⟩ := perm_vals (R := fun (a : Value) (b : V) => RelV b a) look hp
  have ry : Vals ys yv := by
    clear hp hp2 hsp
    induction py with
    | nil => exact .nil
    | cons h t ih => exact .cons h ih
  exact ⟨I2.kIn, callG (E := WE W) F hgd hr (passAt tk σ) I2 (hB s2 us ws yv I2.kIn (by rw [← r1.length]; exact l1) (by rw [← r2.length]; exact l2) hp2) ry hsp⟩
theorem call_post {ps ks : List Str} {n : Nat} {is : List Nat} {dd : List D} {g : Sem1} {dv : List V} {F : Fr} {ph : List Addr} {M2 : Sto} {env : Ev} {σ : St} {H : Hp} {Q : VK} {as bs : List Sl} {vs zv : List V} (h1 : F.cl = cl) (h2 : F.K = X.K) (S2 : Sim F ph M2 env σ H)
    (hlen : is.length = ps.length) (r1 : RsL (gh F ph env σ) H vs as) (r2 : RsL (gh F ph env σ) H zv bs) (rdv : RepL (gh F ph env σ) H dv dd)
    (P2 : PoE F W env σ ph H Q (if as.length = n ∧ bs.length = ks.length then match perm (as ++ bs ++ dd.map .val) is with
      | some ys => g ys M2
      | none => .fail else .fail)) : vs.length = n ∧ zv.length = ks.length ∧ ∃ ys, perm (vs ++ zv ++ dv) is = some ys ∧ spZ cl X.K ps.length g ys H Q (WE W σ) := by
  split at P2
  · rename_i hl
    cases e1 : perm (as ++ bs ++ dd.map .val) is with
    | none => rw [e1] at P2; exact P2.elim
    | some ys =>
      rw [e1] at P2
      have rr : RsL (gh F ph env σ) H (vs ++ zv ++ dv) (as ++ bs ++ dd.map .val) := (r1.app r2).app (rsl_vals rdv)
      obtain ⟨yv, hp2, py⟩ := perm_vals (R := RlS (gh F ph env σ) H) (fun i b e => rr.at e) e1
      exact ⟨by rw [r1.length]; exact hl.1, by rw [r2.length]; exact hl.2, yv, hp2, by rw [perm_len hp2, hlen], F, ph, M2, env, σ, ys, h1, h2, S2, RsL.paired py, P2⟩
  · exact P2.elim
/-- f(e, .., k = v, ..) of a def of the module -/
theorem ze_call {k : Nat} {f : Addr} {fd : FuncData} {ps ks : List Str} {n : Nat} {is : List Nat} {dd : List D} {g : Sem1} (F : FnG X.prog X.w X.K X.mg X.base (L2.CX X.prog X.w) k f fd ps (spZ cl X.K ps.length g)) (hgd : X.A.guards = some []) (hr : Room k X.A) (tk : Takes X W)
    (hg : Gl X x) (hm : X.mg x = some (.ref f)) (hk : PySem.W.keepIn X.K (.ref f) = true) (B : Pat X.K fd ps n ks is dd) (hdb : (x == ("__debug__" : Str)) = false) (ha : ZSa X W cl (e :: es) zs) (hkw : ZSk X W cl kws zk)
    (hst : nostar e = true) (hall : (backToKw pos (keywordEach kws X.env)).all (·.1.isSome) = true) (hks : (backToKw pos (keywordEach kws X.env)).filterMap (·.1) = ks)
    (hpl : ((backTo pos (starEach (e :: es) X.env)).any (·.1) || (backToKw pos (keywordEach kws X.env)).any (·.1.isNone)) = false) :
    ZE X W cl (.Call (.Name x p) (e :: es) kws pos) (zCall g n ks.length is dd zs zk) := by
  obtain ⟨t, pa, qa⟩ := ha.ex
  obtain ⟨tk', pk, qk⟩ := hkw.ex
  obtain ⟨dv, du, rdu, rdv, hB⟩ := B.ex
  refine ⟨fun σ H Q => t σ H fun vs H1 => tk' σ H1 fun zs H2 => vs.length = n ∧ zs.length = ks.length ∧ ∃ ys, perm (vs ++ zs ++ dv) is = some ys ∧ spZ cl X.K ps.length g ys H2 Q (WE W σ), ⟨fun pins s σ H Q I h => ?_⟩, fun F ph M env σ H Q h1 h2 S P => ?_⟩
  · refine wpAny_Call_Name_kw (ld_glob I hg hm ?_ hdb)
    refine PySem.W.callWith_KW (h₀ := X.base) I.ok.mod.kin hk hall (thn (pa.run pos pins s σ H _ I h) fun us s1 ⟨vs, H1, I1, r1, q⟩ => ?_) hpl (star_ok hst)
    refine thn (pk.run pos pins s1 σ H1 _ I1 q) fun ws s2 ⟨zs, H2, I2, r2, q2⟩ => ?_
    rw [hks]
    exact call_fin (dd := dd) F hgd hr tk rdu hB I2 r1 r2 q2
  · refine qa F ph M env σ H _ h1 h2 S (P.step fun as M1 ph1 H1 vs S1 f1 r1 P1 => ?_)
    refine qk F ph1 M1 env σ H1 _ h1 h2 S1 (P1.step fun bs M2 ph2 H2 zv S2 f2 r2 P2 => ?_)
    exact call_post h1 h2 S2 B.len (r1.fwd S1 f2) r2 (rdv _ _) P2
/-- f(k = v, ..) -/
theorem ze_call0 {k : Nat} {f : Addr} {fd : FuncData} {ps ks : List Str} {is : List Nat} {dd : List D} {g : Sem1} (F : FnG X.prog X.w X.K X.mg X.base (L2.CX X.prog X.w) k f fd ps (spZ cl X.K ps.length g)) (hgd : X.A.guards = some []) (hr : Room k X.A) (tk : Takes X W)
    (hg : Gl X x) (hm : X.mg x = some (.ref f)) (hk : PySem.W.keepIn X.K (.ref f) = true) (B : Pat X.K fd ps 0 ks is dd) (hdb : (x == ("__debug__" : Str)) = false) (hkw : ZSk X W cl kws zk)
    (hall : (backToKw pos (keywordEach kws X.env)).all (·.1.isSome) = true) (hks : (backToKw pos (keywordEach kws X.env)).filterMap (·.1) = ks) (hpl : ((backTo pos (starEach [] X.env)).any (·.1) || (backToKw pos (keywordEach kws X.env)).any (·.1.isNone)) = false) :
    ZE X W cl (.Call (.Name x p) [] kws pos) (zCall g 0 ks.length is dd sNil zk) := by
  obtain ⟨tk', pk, qk⟩ := hkw.ex
  obtain ⟨dv, du, rdu, rdv, hB⟩ := B.ex
  refine ⟨fun σ H Q => tk' σ H fun zs H2 => ([] : List V).length = 0 ∧ zs.length = ks.length ∧ ∃ ys, perm ([] ++ zs ++ dv) is = some ys ∧ spZ cl X.K ps.length g ys H2 Q (WE W σ), ⟨fun pins s σ H Q I h => ?_⟩, fun F ph M env σ H Q h1 h2 S P => ?_⟩
  · refine wpAny_Call_Name_kw (ld_glob I hg hm ?_ hdb)
    refine PySem.W.callWith_KW0 (h₀ := X.base) I.ok.mod.kin hk hall ?_ hpl
    refine thn (pk.run pos pins s σ H _ I h) fun ws s2 ⟨zs, H2, I2, r2, q2⟩ => ?_
    rw [hks]
    exact call_fin (us := []) (vs := []) (dd := dd) F hgd hr tk rdu hB I2 .nil r2 q2
  · refine qk F ph M env σ H _ h1 h2 S ((show PoE F W env σ ph H Q ((zk env M).bind _) from P).step fun bs M2 ph2 H2 zv S2 f2 r2 P2 => ?_)
    exact call_post h1 h2 S2 B.len .nil r2 (rdv _ _) P2
/-! a def by its body -/
def zFun (np nN : Nat) (y : ZS) : Sem1 := fun as M => if as.length = np then match y (as ++ List.replicate (nN - np) .no) M with
  | .rt d M' => .ok d M'
  | .nx _ M' => .ok .non M'
  | .exc c fs _ M' => .exc c fs M'
  | _ => .fail else .fail
theorem sim_start {F : Fr} {ph : List Addr} {M : Sto} {env : Ev} {σ : St} {H : Hp} {N : List Str} {vs : List V} {as : List Sl} {m : Nat} (S : Sim F ph M env σ H) (r : RsL (gh F ph env σ) H vs as) (hm : N.length - vs.length = m) :
    Sim ⟨F.K, F.cl, nof F env σ, H, ph⟩ ph M (as ++ List.replicate m .no) (L2.start N vs) H := by
  have slot : ∀ {i : Nat} {d : Sl}, (as ++ List.replicate m Sl.no)[i]? = some d → d ≠ .no → ∃ v, (L2.start N vs)[i]? = some (some v) ∧ RlS (gh F ph env σ) H v d := fun {i d} e n => by
    by_cases hi : i < as.length
    · rw [List.getElem?_append_left hi] at e
      obtain ⟨v, q, rr⟩ := r.at e
      refine ⟨v, ?_, rr⟩
      unfold L2.start
      rw [List.getElem?_append_left (by rw [List.length_map, r.length]; exact hi), List.getElem?_map, q]
      rfl
    · rw [List.getElem?_append_right (by omega), List.getElem?_replicate] at e
      split at e
      · exact absurd (Option.some.inj e).symm n
      · cases e
  have noown : ∀ {i : Nat} {d : D}, (as ++ List.replicate m Sl.no)[i]? ≠ some (.own d) := fun {i d} e => by
    obtain ⟨v, _, rr⟩ := slot e (fun z => nomatch z)
    exact rr
  have m0 : Mo (gh F ph env σ) (gh ⟨F.K, F.cl, nof F env σ, H, ph⟩ ph (as ++ List.replicate m .no) (L2.start N vs)) H H := by
    refine ⟨fun a o e n => ⟨e, fun z => n ?_⟩, fun _ _ e => e, rfl, rfl⟩
    rcases z with (z | ⟨i, d, e1, _⟩) | z
    · exact .inl z
    · exact absurd e1 noown
    · exact .inr z
  refine ⟨?_, ⟨[], by simp, fun a z => by simp at z⟩, fun a o e _ => e, fun a z => ?_, S.ml, S.nd, fun i d e => ?_, fun i d e => ?_, fun i d e => absurd e noown, fun i j d e a e1 => absurd e1 noown, fun i d e => ?_⟩
  · unfold L2.start
    rw [List.length_append, List.length_append, List.length_map, List.length_replicate, List.length_replicate, r.length, ← hm, r.length]
  · have z' : nof F env σ a := z
    rcases z' with z' | ⟨i, d, e1, e2⟩
    · exact S.n0 a z'
    · obtain ⟨b, q, c, _, n, _⟩ := S.own i d e1
      rw [e2] at q
      cases q
      exact ⟨c.there, n⟩
  · obtain ⟨a, q, c⟩ := S.sto i d e
    exact ⟨a, q, c.mo m0 fun _ h => h⟩
  · obtain ⟨v, q, rr⟩ := slot e (fun z => nomatch z)
    exact ⟨v, q, Rep.mo m0 rr⟩
  · obtain ⟨v, q, a, ev, c, n, hN⟩ := slot e (fun z => nomatch z)
    subst ev
    exact ⟨a, q, hN, c.mo m0 fun _ h => h, c.there⟩
theorem start_fwd {F : Fr} {ph ph' : List Addr} {M : Sto} {N0 : Addr → Prop} {env env' : Ev} {σ σ' : St} {H H' : Hp} (f : Fws ⟨F.K, F.cl, N0, H, ph⟩ ph env σ H ph' env' σ' H') (S' : Sim ⟨F.K, F.cl, N0, H, ph⟩ ph' M env' σ' H') : Fwd ph H ph' H' :=
  ⟨f.ext, fun a o e n => S'.keep a o e n, f.there⟩
theorem fn_run {P : Program} {w : World} {K : PySem.W.Frag} {mg : Str → Option Value} {base : Heap} {qual xn : Str} {params : Arguments} {body : List Stmt} {scope : Scope} {dvs : List V} {dk : List (Str × V)} {f : Addr} {fd : FuncData} {N ps : List Str} {k : Nat} {y : ZS}
    (Fd : FunD K xn qual params body scope dvs dk f fd) (S : FnScope N ps scope)
    (hb : ∀ (cdv : Value) (A : Around) (outer : List Env) (s : Shared) (H : Hp) (E : XK) (W : WX), A.guards = some [] → Room k (A.deeper (envOfC qual scope s.heap.objs.size f cdv)) → Takes (cxOf (L2.CX P w) P w K mg base N qual scope f cdv A outer s H E) W →
      PassesOwn (model P w) (cxOf (L2.CX P w) P w K mg base N qual scope f cdv A outer s H E).A (cxOf (L2.CX P w) P w K mg base N qual scope f cdv A outer s H E).env (cxOf (L2.CX P w) P w K mg base N qual scope f cdv A outer s H E).xe →
      Zb (cxOf (L2.CX P w) P w K mg base N qual scope f cdv A outer s H E) W cl body y) :
    FnG P w K mg base (L2.CX P w) (k + 1) f fd ps (spZ cl K ps.length (zFun ps.length N.length y)) := by
  refine fnG_of Fd S (fun vs H Q E h => h.1) fun cdv A outer s H vs Q E hgd hr h => ?_
  obtain ⟨hl, F, ph, M, env, σ, as, h1, h2, S0, r, P0⟩ := h
  obtain ⟨t, p, q⟩ := (hb cdv A outer s H E (fun c d _ H' => E c d H') hgd hr (takes_of rfl rfl rfl rfl) (passes_of rfl)).ex
  refine ⟨t, p, q ⟨F.K, F.cl, nof F env σ, H, ph⟩ ph M (as ++ List.replicate (N.length - ps.length) .no) (L2.start N vs) H _ h1 h2 (sim_start S0 r (by rw [hl])) ?_⟩
  unfold zFun at P0
  split at P0
  · rename_i hl2
    have key : ∀ {ph' M' env' σ' H'}, Sim ⟨F.K, F.cl, nof F env σ, H, ph⟩ ph' M' env' σ' H' → Fws ⟨F.K, F.cl, nof F env σ, H, ph⟩ ph (as ++ List.replicate (N.length - ps.length) .no) (L2.start N vs) H ph' env' σ' H' →
        Sim F ph' M' env σ H' ∧ Fwd ph H ph' H' := fun {ph' M' env' σ' H'} S' f => by
      have g := start_fwd (F := F) (N0 := nof F env σ) f S'
      exact ⟨S0.back S' g rfl rfl fun a z => .inl z, g⟩
    cases hz : y (as ++ List.replicate (N.length - ps.length) .no) M with
    | nx env' M' =>
      rw [hz] at P0
      intro ph' σ' H' S' f
      obtain ⟨S1, g⟩ := key S' f
      exact P0 ph' H' .non S1 g .non
    | bk env' M' => rw [hz] at P0; exact P0.elim
    | ct env' M' => rw [hz] at P0; exact P0.elim
    | rt d M' =>
      rw [hz] at P0
      intro ph' env' σ' H' v S' f rv
      obtain ⟨S1, g⟩ := key S' f
      exact P0 ph' H' v S1 g (rv.mo ⟨fun a o e n => ⟨e, n⟩, fun _ _ e => e, rfl, rfl⟩)
    | exc c fs env' M' =>
      rw [hz] at P0
      intro ph' σ' H' dx ff C S' f e1 e2 rr
      obtain ⟨S1, g⟩ := key S' f
      refine P0 ph' H' dx ff C S1 g e1 e2 (RepP.mo ?_ rr)
      exact ⟨fun a o e n => ⟨e, fun z => n (z.elim (fun z => .inl (.inl z)) .inr)⟩, fun _ _ e => e, rfl, rfl⟩
    | fail => rw [hz] at P0; exact P0.elim
  · exact P0.elim
end
end Zy
set_option maxHeartbeats 2000000
namespace Zy
open PySem PySem.Spec PyProof.Rows L2

/-! repr -/
def rRepr (K : PySem.W.Frag) : List V → Hp → VK → Prop := fun xs H Q => ∃ x d, xs = [x] ∧ Dp K H x d ∧ d.showable = true ∧ d.hasDict = false ∧ d.depth ≤ 60 ∧ d.shown.length ≤ sizeLine ∧ Q (.str d.shown) H
section
variable {X : Cx} {W : WX} {cl : String → Option Addr} {a b e : Expr} {za zb : ZX} {pos pos' p p2 p3 : Pos}
theorem cr_repr (hgd : X.A.guards = some []) (hu : X.A.units + 64 < cLine) : CallR X (.builtin "repr") (rRepr X.K) := by
  intro pins s σ H xs us Q I r h
  obtain ⟨x, d, rfl, hd, h1, h2, h3, h4, q⟩ := h
  obtain ⟨u, rfl, ru⟩ := vals1 r
  obtain ⟨as, rr⟩ := Dp.reads I d x u hd ru
  have big : ∀ a, u = .ref a → wpAny (model X.prog X.w) X.A (call (.builtin "repr") [u]) (EP X pins σ Q) X.xe s := fun a e => by
    subst e
    exact repr_of_reads' rr h1 (PyData.noDict_hsm h2) hgd (by omega) (fun _ _ z => z) (fun h' t tk hk => ⟨.str d.shown, H, I.kept hk, ⟨_, rfl⟩, q⟩) h4
  cases rr with
  | none => exact PySem.P.repr_of_none ⟨.str _, H, I.tok _, ⟨_, rfl⟩, q⟩
  | bool b => exact PySem.P.repr_of_bool ⟨.str _, H, I.tok _, ⟨_, rfl⟩, q⟩
  | int i t => exact PySem.P.repr_of_int (by simpa [PyData.showable] using h1) ⟨.str _, H, I.tok _, ⟨_, rfl⟩, q⟩
  | str x t => exact PySem.P.repr_of_str ⟨.str _, H, I.tok _, ⟨_, rfl⟩, q⟩ h4
  | list _ _ _ _ => exact big _ rfl
  | tuple _ _ _ _ => exact big _ rfl
  | dict _ _ _ _ _ => exact big _ rfl
def reprD (d : D) : Option Str := match toPy d with
  | some p => if p.showable = true ∧ p.hasDict = false ∧ p.depth ≤ 60 ∧ p.shown.length ≤ sizeLine then some p.shown else none
  | none => none
def gRepr : GB := fun ds M => match ds with
  | [d] => match (deref M d).bind reprD with
    | some s => .ok (.str s) M
    | none => .fail
  | _ => .fail
theorem bz_repr : BfZ X W cl (rRepr X.K) gRepr := by
  intro F ph M env σ H Q xs ds h1 h2 S r P
  unfold gRepr at P
  split at P
  · rename_i d
    obtain ⟨x, rfl, rx⟩ := r.one
    cases e1 : deref M d with
    | none => rw [e1] at P; exact P.elim
    | some c =>
      rw [e1] at P
      have L := rx.look S e1
      rw [show (gh F ph env σ) = (gh F ph env σ) from rfl] at L
      cases e2 : toPy c with
      | none => simp only [Option.bind_some, reprD, e2] at P; exact P.elim
      | some q =>
        simp only [Option.bind_some, reprD, e2] at P
        by_cases hc : q.showable = true ∧ q.hasDict = false ∧ q.depth ≤ 60 ∧ q.shown.length ≤ sizeLine
        · rw [if_pos hc] at P
          have hd := L.dp e2
          rw [show (gh F ph env σ).K = X.K from h2] at hd
          exact ⟨x, q, rfl, hd, hc.1, hc.2.1, hc.2.2.1, hc.2.2.2, P.now S (.str _)⟩
        · rw [if_neg hc] at P; exact P.elim
  · exact P.elim
theorem ze_repr (hgd : X.A.guards = some []) (hu : X.A.units + 64 < cLine) (hg : Gl X "repr") (hm : X.mg "repr" = none) (ha : ZC X W cl a za) (n : nostar a = true) : ZE X W cl (.Call (.Name "repr" p) [a] [] pos) (zBf gRepr (zCons za zNil)) :=
  ze_bf (cr_repr hgd hu) bz_repr hg hm (by decide +kernel) (zk_cons ha zk_nil n) (he := n)
/-! isinstance against built-in types -/
def tyD : D → Option String
  | .non => some "NoneType"
  | .bl _ => some "bool"
  | .int _ => some "int"
  | .str _ => some "str"
  | .tup _ => some "tuple"
  | .lst _ => some "list"
  | .scr _ => some "list"
  | .dK _ => some "dict"
  | .dT _ => some "dict"
  | _ => none
def isTy (t T : String) : Bool := t == T || (t == "bool" && T == "int")
def okTy (T : String) : Bool := T == "int" || (T == "bool" || (T == "list" || (T == "tuple" || (T == "str" || T == "dict"))))
theorem kitB_ok {t T : String} {d : D} (h : tyD d = some t) (hT : okTy T = true) : kitB t T = some (isTy t T) := by
  have hT' : T = "int" ∨ T = "bool" ∨ T = "list" ∨ T = "tuple" ∨ T = "str" ∨ T = "dict" := by
    simpa [okTy] using hT
  have ht : t = "NoneType" ∨ t = "bool" ∨ t = "int" ∨ t = "str" ∨ t = "tuple" ∨ t = "list" ∨ t = "dict" := by
    cases d <;> simp [tyD] at h <;> subst h <;> simp
  rcases ht with rfl | rfl | rfl | rfl | rfl | rfl | rfl <;> rcases hT' with rfl | rfl | rfl | rfl | rfl | rfl <;> decide +kernel
theorem tyX_of {G : Gh} {H : Hp} {v : V} {d : D} {t : String} (L : Lk G H v d) (e : tyD d = some t) (hs : ∀ a ns, d = .scr ns → v = .ref a → TyX G.K H v (.type "list")) : TyX G.K H v (.type t) := by
  cases d with
  | non => cases e; rw [L.non_inv]; exact .base .non
  | bl b => cases e; rw [L.bl_inv]; exact .base (.bl _)
  | int i => cases e; rw [L.int_inv]; exact .base (.int _)
  | str s => cases e; rw [L.str_inv]; exact .base (.str _)
  | tup ds => cases e; obtain ⟨a, xs, rfl, h, _⟩ := L.tup_inv; exact .base (.tup h)
  | lst ds => cases e; obtain ⟨a, xs, rfl, h, _⟩ := L.lst_inv; exact .base (.lst h)
  | dK ds => cases e; obtain ⟨a, xs, rfl, h, _⟩ := L.dK_inv; exact .base (.dK h)
  | dT ds => cases e; obtain ⟨a, xs, rfl, h, _⟩ := L.dT_inv; exact .base (.dT h)
  | scr ns => cases e; obtain ⟨a, rfl, h⟩ := L.scr_inv; exact hs a ns rfl rfl
  | ins c fs => cases e
  | ref i => cases e
def isiD (Ts : List String) : D → Option Bool
  | .scr _ => none
  | d => (tyD d).map fun t => Ts.any (isTy t)
theorem isiD_ok {G : Gh} {H : Hp} {v : V} {d : D} {Ts : List String} {b : Bool} (L : Lk G H v d) (e : isiD Ts d = some b) : ∃ t, TyX G.K H v (.type t) ∧ tyD d = some t ∧ b = Ts.any (isTy t) := by
  have key : ∀ t, tyD d = some t → (∀ ns, d ≠ .scr ns) → TyX G.K H v (.type t) := fun t h n => tyX_of L h fun a ns z => absurd z (n ns)
  cases d with
  | scr ns => cases e
  | ref i => cases e
  | ins c fs => cases e
  | _ => cases e; exact ⟨_, key _ rfl (fun _ z => nomatch z), rfl, rfl⟩
def zIsi (Ts : List String) (z : ZX) : ZX := fun env M => (z env M).bind fun d M1 => match (deref M1 d).bind (isiD Ts) with
  | some b => .ok (.bl b) M1
  | none => .fail
theorem ze_isi {T : Str} {n : String} (hg : Gl X "isinstance") (hm : X.mg "isinstance" = none) (hgT : Gl X T) (hmT : X.mg T = none) (hvT : bootBuiltins T = some (.type n)) (hn : T ≠ "__name__") (hd : (T == ("__debug__" : Str)) = false) (hok : okTy n = true)
    (ha : ZC X W cl a za) (hst : nostar a = true) : ZE X W cl (.Call (.Name "isinstance" p) [a, .Name T p2] [] pos) (zIsi [n] za) := by
  obtain ⟨t, pa, q⟩ := ha.ex
  refine ⟨_, pe_callB call_isi hg hm (by decide +kernel) (pa_cons pa (pa_cons (pe_bltn (v := .ty n) hgT hmT hvT rfl hn hd) pa_nil) (star_ok hst)) (by decide) (by decide) (star_ok hst) (by rfl), fun F ph M env σ H Q h1 h2 S P => q F ph M env σ H _ h1 h2 S (P.step fun d M1 ph1 H1 v S1 f1 r1 P1 => ?_)⟩
  cases e1 : deref M1 d with
  | none => rw [e1] at P1; exact P1.elim
  | some c =>
    cases e2 : isiD [n] c with
    | none => simp only [e1, Option.bind_some, e2] at P1; exact P1.elim
    | some b =>
      simp only [e1, Option.bind_some, e2] at P1
      obtain ⟨ty, h3, h4, rfl⟩ := isiD_ok (r1.look S1 e1) e2
      rw [show (gh F ph1 env σ).K = X.K from h2] at h3
      exact ⟨v, .ty n, .type ty, .type n, _, rfl, .ty n, h3, kit_ty (kitB_ok h4 hok), P1.now S1 (by simp; exact .bl _)⟩
theorem ze_isi2 {T U : Str} {n m : String} {k : Nat} (hg : Gl X "isinstance") (hm : X.mg "isinstance" = none) (hgT : Gl X T) (hmT : X.mg T = none) (hvT : bootBuiltins T = some (.type n)) (hn : T ≠ "__name__") (hd : (T == ("__debug__" : Str)) = false) (hok : okTy n = true)
    (hgU : Gl X U) (hmU : X.mg U = none) (hvU : bootBuiltins U = some (.type m)) (hnU : U ≠ "__name__") (hdU : (U == ("__debug__" : Str)) = false) (hokU : okTy m = true)
    (ha : ZC X W cl a za) (hst : nostar a = true) : ZE X W cl (.Call (.Name "isinstance" p) [a, .Tuple [.Name T p2, .Name U p3] k pos'] [] pos) (zIsi [n, m] za) := by
  obtain ⟨t, pa, q⟩ := ha.ex
  refine ⟨_, pe_callB call_isiT hg hm (by decide +kernel) (pa_cons pa (pa_cons (pe_tup (pa_cons (pe_bltn (v := .ty n) hgT hmT hvT rfl hn hd) (pa_cons (pe_bltn (v := .ty m) hgU hmU hvU rfl hnU hdU) pa_nil))) pa_nil) (star_ok hst)) (by decide) (by decide) (star_ok hst) (by rfl), fun F ph M env σ H Q h1 h2 S P => q F ph M env σ H _ h1 h2 S (P.step fun d M1 ph1 H1 v S1 f1 r1 P1 => ?_)⟩
  cases e1 : deref M1 d with
  | none => rw [e1] at P1; exact P1.elim
  | some c =>
    cases e2 : isiD [n, m] c with
    | none => simp only [e1, Option.bind_some, e2] at P1; exact P1.elim
    | some b =>
      simp only [e1, Option.bind_some, e2] at P1
      refine ⟨by show 2 ≤ sizeLine; rw [sizeLine_eq]; decide, fun tp hp => ?_⟩
      have S2 := S1.alloc (o := .tup [.ty n, .ty m]) hp
      have f2 : Fwd ph1 H1 ph1 (upd H1 tp (.tup [.ty n, .ty m])) := Fwd.alloc hp
      obtain ⟨ty, h3, h4, rfl⟩ := isiD_ok ((r1.fwd S1 f2).look S2 e1) e2
      rw [show (gh F ph1 env σ).K = X.K from h2] at h3
      have kA : PySem.W.kitAny X.K (.type ty) [.type n, .type m] = some ([n, m].any (isTy ty)) := by
        have k1 := kit_ty (K := X.K) (kitB_ok h4 hok)
        have k2 := kit_ty (K := X.K) (kitB_ok h4 hokU)
        refine kitAny_cons k1 (fun e => kitAny_cons k2 (fun e' => ?_) fun e' => ?_) fun e => ?_
        · rw [kitAny_nil]; simp [e, e']
        · simp [e']
        · simp [e]
      exact ⟨v, tp, [.ty n, .ty m], .type ty, [.type n, .type m], _, rfl, upd_same, .cons (.ty n) (.cons (.ty m) .nil), h3, kA, Post.now (Post.fwd P1 f2) S2 (.bl _)⟩
end
end Zy

set_option maxHeartbeats 2000000
namespace Zy
open PySem PySem.Spec PyProof.Rows L2
/-! l.index(x) of whole numbers -/
section
variable {X : Cx} {W : WX} {cl : String → Option Addr} {o b : Expr} {za zb : ZX} {apos pos p : Pos}
def gIdx : G2 := fun d e M => match deref M d, e with
  | some (.lst ds), .int i => match intsD ds with
    | some ns => match ns.findIdx? (· == i) with
      | some j => .ok (.int (j : Nat)) M
      | none => .fail
    | none => .fail
  | _, _ => .fail
def zIdx (z y : ZX) : ZX := fun env M => (z env M).bind fun d M1 => match deref M1 d with
  | some (.lst _) => (y env M1).bind fun e M2 => gIdx d e M2
  | _ => .fail
theorem flat_ints : ∀ ns : List Int, (ns.map V.int).all flatV = true
  | [] => rfl
  | n :: ns => by
    rw [List.map_cons, List.all_cons, flat_ints ns]
    rfl
theorem ze_idx {x : Str} (ha : ZC X W cl (.Name x p) za) (hb : ZE X W cl b zb) (hn : nostar b = true) (hline : (apos.endLine == pos.line) = true) : ZE X W cl (.Call (.Attribute (.Name x p) "index" apos) [b] [] pos) (zIdx za zb) := by
  obtain ⟨ta, pa, qa⟩ := ha.ex
  obtain ⟨tb, pb, qb⟩ := hb.ex
  refine ⟨_, pe_bm PySem.F.plainAttrs_list PySem.F.slot_list_index PySem.F.type_list_index mt_index pa (pa_cons pb pa_nil (star_ok hn)) (hbase := by rfl) (hfew := ?_) (hline := hline) (hs := star_ok hn) (hplain := by rfl), fun F ph M env σ H Q h1 h2 S P => ?_⟩
  · rw [star_ok hn]; rfl
  · refine qa F ph M env σ H _ h1 h2 S (P.step fun d M1 ph1 H1 v S1 f1 r1 P1 => ?_)
    split at P1
    · rename_i ds0 e1
      obtain ⟨a, xs, rfl, ha, ra⟩ := (r1.look S1 e1).lst_inv
      refine ⟨.inl ⟨rfl, xs, SqL.of ha⟩, ?_⟩
      refine qb F ph1 M1 env σ H1 _ h1 h2 S1 (P1.step fun e M2 ph2 H2 w S2 f2 r2 P2 => ?_)
      unfold gIdx at P2
      split at P2
      · rename_i ds i e2 
        obtain ⟨a', ys, e3, ha', ra'⟩ := ((r1.fwd S1 f2).look S2 e2).lst_inv
        cases e3
        split at P2
        · rename_i ns hns
          split at P2
          · rename_i j hj
            have hy := ra'.ints hns
            subst hy
            cases r2
            obtain ⟨hlt, h3, h4⟩ := List.findIdx?_eq_some_iff_getElem.mp hj
            refine ⟨_, _, _, j, .int ns[j], rfl, rfl, SqL.of ha', rfl, flat_ints ns, ?_, ?_, fun m z' hm hz => ?_, P2.now S2 (.int _)⟩
            · rw [List.getElem?_map, List.getElem?_eq_getElem hlt]; rfl
            · exact h3
            · rw [List.getElem?_map, List.getElem?_eq_getElem (Nat.lt_trans hm hlt)] at hz
              cases hz
              have := h4 m hm
              simpa [eqV] using this
          · exact P2.elim
        · exact P2.elim
      · exact P2.elim
    · exact P1.elim
end
end Zy
set_option maxHeartbeats 2000000
namespace Zy
open PySem PySem.Spec PyProof.Rows L2

/-! references below n -/
mutual
def lowD (n : Nat) : D → Bool
  | .non | .bl _ | .int _ | .str _ | .scr _ => true
  | .tup ds => lowL n ds
  | .lst ds => lowL n ds
  | .dK ds => lowK n ds
  | .dT ds => lowT n ds
  | .ins _ ds => lowS n ds
  | .ref i => decide (i < n)
def lowL (n : Nat) : List D → Bool
  | [] => true
  | d :: ds => lowD n d && lowL n ds
def lowK (n : Nat) : List (Key × D) → Bool
  | [] => true
  | (_, d) :: ds => lowD n d && lowK n ds
def lowT (n : Nat) : List (List Key × D) → Bool
  | [] => true
  | (_, d) :: ds => lowD n d && lowT n ds
def lowS (n : Nat) : List (Str × D) → Bool
  | [] => true
  | (_, d) :: ds => lowD n d && lowS n ds
end
theorem lowK_all {n : Nat} : ∀ {ds : List (Key × D)}, lowK n ds = true → ∀ q ∈ ds, lowD n q.2 = true
  | [], _, _, m => by simp at m
  | (k, d) :: ds, h, q, m => by
    simp only [lowK, Bool.and_eq_true] at h
    rcases List.mem_cons.mp m with rfl | m
    · exact h.1
    · exact lowK_all h.2 q m
theorem lowT_all {n : Nat} : ∀ {ds : List (List Key × D)}, lowT n ds = true → ∀ q ∈ ds, lowD n q.2 = true
  | [], _, _, m => by simp at m
  | (k, d) :: ds, h, q, m => by
    simp only [lowT, Bool.and_eq_true] at h
    rcases List.mem_cons.mp m with rfl | m
    · exact h.1
    · exact lowT_all h.2 q m
theorem lowS_all {n : Nat} : ∀ {ds : List (Str × D)}, lowS n ds = true → ∀ q ∈ ds, lowD n q.2 = true
  | [], _, _, m => by simp at m
  | (k, d) :: ds, h, q, m => by
    simp only [lowS, Bool.and_eq_true] at h
    rcases List.mem_cons.mp m with rfl | m
    · exact h.1
    · exact lowS_all h.2 q m
/-- the same cells below n -/
structure Lo (n : Nat) (G G' : Gh) : Prop where
  off : ∀ a, ¬ G.off a → ¬ G'.off a
  ph : ∀ (i : Nat) a, i < n → G.ph[i]? = some a → G'.ph[i]? = some a
  cl : G'.cl = G.cl
  K : G'.K = G.K
mutual
theorem Rep.low {n : Nat} {G G' : Gh} {H : Hp} (l : Lo n G G') : ∀ {v : V} {d : D}, Rep G H v d → lowD n d = true → Rep G' H v d
  | _, _, .non, _ => .non
  | _, _, .bl b, _ => .bl b
  | _, _, .int i, _ => .int i
  | _, _, .str s, _ => .str s
  | _, _, .tup h m r, e => .tup h (l.off _ m) (RepL.low l r (by simpa only [lowD] using e))
  | _, _, .lst h m r, e => .lst h (l.off _ m) (RepL.low l r (by simpa only [lowD] using e))
  | _, _, .dK h m r, e => .dK h (l.off _ m) (RepP.low l r (lowK_all (by simpa only [lowD] using e)))
  | _, _, .dT h m r, e => .dT h (l.off _ m) (RepP.low l r (lowT_all (by simpa only [lowD] using e)))
  | _, _, .ins h m hc r, e => .ins h (l.off _ m) (by rw [l.cl]; exact hc) (RepP.low l r (lowS_all (by simpa only [lowD] using e)))
  | _, _, .ref h, e => .ref (l.ph _ _ (by simpa only [lowD, decide_eq_true_eq] using e) h)
  | _, _, .scr h m, _ => .scr h (l.off _ m)
  | _, _, .scrK h, _ => .scrK (by rw [l.K]; exact h)
theorem RepL.low {n : Nat} {G G' : Gh} {H : Hp} (l : Lo n G G') : ∀ {xs : List V} {ds : List D}, RepL G H xs ds → lowL n ds = true → RepL G' H xs ds
  | _, _, .nil, _ => .nil
  | _, _, .cons h t, e => by
    simp only [lowL, Bool.and_eq_true] at e
    exact .cons (Rep.low l h e.1) (RepL.low l t e.2)
theorem RepP.low {n : Nat} {G G' : Gh} {H : Hp} (l : Lo n G G') : ∀ {κ : Type} {xs : List (κ × V)} {ds : List (κ × D)}, RepP G H κ xs ds → (∀ q ∈ ds, lowD n q.2 = true) → RepP G' H κ xs ds
  | _, _, _, .nil, _ => .nil
  | _, _, _, .cons h t, e => .cons (Rep.low l h (e _ (List.mem_cons_self ..))) (RepP.low l t fun q m => e q (List.mem_cons_of_mem _ m))
end
theorem Cel.low {n : Nat} {G G' : Gh} {H : Hp} {a : Addr} (l : Lo n G G') {d : D} (e : lowD n d = true) : Cel G H a d → Cel G' H a d
  | .lst h r => .lst h (r.low l (by simpa only [lowD] using e))
  | .dK h r => .dK h (r.low l (lowK_all (by simpa only [lowD] using e)))
  | .dT h r => .dT h (r.low l (lowT_all (by simpa only [lowD] using e)))
  | .ins h hc r => .ins h (by rw [l.cl]; exact hc) (r.low l (lowS_all (by simpa only [lowD] using e)))

/-! the youngest cell leaves the store -/
section
variable {F : Fr} {ph ph3 : List Addr} {M M3 : Sto} {env : Ev} {σ : St} {H H1 H' : Hp} {x : Addr} {d : D}
theorem Sim.pop (S : Sim F ph M env σ H) (hx : H x = none) (k1 : ∀ a o, H a = some o → H1 a = some o) (f : Fwd (ph ++ [x]) H1 ph3 H') (S3 : Sim F ph3 M3 env σ H') (hl : M3.length = M.length + 1)
    (hlow : ∀ i e, i < M.length → M3[i]? = some e → lowD M.length e = true) (hd : M3[M.length]? = some d) (hd2 : lowD M.length d = true) :
    ph3 = ph ++ [x] ∧ Lo M.length (gh F ph3 env σ) (gh (F.plus x) ph env σ) ∧ Sim (F.plus x) ph (M3.take M.length) env σ H' ∧ Fwd ph H ph H' ∧ Cel (gh (F.plus x) ph env σ) H' x d := by
  obtain ⟨ps, e1, _⟩ := f.ext
  have hps : ps = [] := by
    have q := S3.ml
    have q2 := S.ml
    rw [hl, e1] at q
    simp only [List.length_append, List.length_singleton] at q
    exact List.length_eq_zero_iff.mp (by omega)
  subst hps
  rw [List.append_nil] at e1
  subst e1
  have hn : M.length = ph.length := S.ml
  have nx : x ∉ ph := fun z => by
    obtain ⟨o, e⟩ := S.phIn z
    rw [hx] at e
    cases e
  have ne : ∀ a o, H a = some o → a ≠ x := fun a o e z => by rw [z, hx] at e; cases e
  have kp : ∀ a o, H a = some o → a ∉ ph → H' a = some o := fun a o e n => f.keep a o (k1 a o e) fun z => by
    rcases List.mem_append.mp z with z | z
    · exact n z
    · exact ne a o e (by simpa using z)
  have th : ∀ a o, H a = some o → ∃ u, H' a = some u := fun a o e => f.there a o (k1 a o e)
  have lo : Lo M.length (gh F (ph ++ [x]) env σ) (gh (F.plus x) ph env σ) := by
    refine ⟨fun a n z => n ?_, fun i a hi e => ?_, rfl, rfl⟩
    · rcases z with z | z
      · rcases z with (z | z) | z
        · exact .inl (.inl z)
        · have z' : a = x := z
          exact .inr (by rw [z']; exact List.mem_append_right _ (List.mem_singleton.mpr rfl))
        · exact .inl (.inr z)
      · exact .inr (List.mem_append_left _ z)
    · have e' : (ph ++ [x])[i]? = some a := e
      rw [List.getElem?_append_left (by omega)] at e'
      exact e'
  have mo : Mo (gh F ph env σ) (gh (F.plus x) ph env σ) H H' := by
    refine ⟨fun a o e n => ⟨kp a o e fun z => n (.inr z), fun z => n ?_⟩, fun _ _ e => e, rfl, rfl⟩
    rcases z with z | z
    · rcases z with (z | z) | z
      · exact .inl (.inl z)
      · exact absurd z (ne a o e)
      · exact .inl (.inr z)
    · exact .inr z
  have at_ : (ph ++ [x])[M.length]? = some x := by rw [hn]; simp
  obtain ⟨xa, qa, ca⟩ := S3.sto _ d hd
  rw [at_] at qa
  cases qa
  refine ⟨rfl, lo, ⟨S.len, S.pre, S3.keep, fun a z => ?_, by rw [List.length_take, hl, S.ml]; omega, S.nd, fun i e he => ?_, fun i e he => ?_, fun i e he => ?_, S.ap, fun i e he => ?_⟩, ⟨⟨[], by simp, fun a h => by simp at h⟩, kp, th⟩, ca.low lo hd2⟩
  · rcases z with z | z
    · obtain ⟨q, n⟩ := S3.n0 a z
      exact ⟨q, fun z => n (List.mem_append_left _ z)⟩
    · have z' : a = x := z
      rw [z']
      exact ⟨ca.there, nx⟩
  · have hi : i < M.length := by
      have := (List.getElem?_eq_some_iff.mp he).1
      rw [List.length_take] at this
      omega
    rw [List.getElem?_take_of_lt hi] at he
    obtain ⟨a, q, c⟩ := S3.sto i e he
    refine ⟨a, lo.ph i a hi q, c.low lo (hlow i e hi he)⟩
  · obtain ⟨v, q, r⟩ := S.val i e he
    exact ⟨v, q, r.mo mo⟩
  · obtain ⟨a, q, c, h0, n, k⟩ := S.own i e he
    obtain ⟨o, ho⟩ := c.there
    exact ⟨a, q, c.mo mo fun o h => kp a o h n, h0, n, fun z => z.elim k fun z => ne a o ho z⟩
  · obtain ⟨a, q, n, c, o⟩ := S.brw i e he
    exact ⟨a, q, .inl n, c.mo mo fun o h => kp a o h (S.n0 a n).2, o⟩
end
def popR (n : Nat) (M : Sto) : Option (D × Sto) := match M[n]? with
  | some d => if M.length = n + 1 ∧ (M.take n).all (lowD n) = true ∧ lowD n d = true then some (d, M.take n) else none
  | none => none
theorem popR_inv {n : Nat} {M M4 : Sto} {d : D} (h : popR n M = some (d, M4)) : M[n]? = some d ∧ M.length = n + 1 ∧ (∀ i e, i < n → M[i]? = some e → lowD n e = true) ∧ lowD n d = true ∧ M4 = M.take n := by
  unfold popR at h
  split at h
  · rename_i e he
    split at h
    · rename_i hc
      cases h
      refine ⟨he, hc.1, fun i e hi q => List.all_eq_true.mp hc.2.1 e ?_, hc.2.2, rfl⟩
      refine List.mem_of_getElem? (i := i) ?_
      rw [List.getElem?_take_of_lt hi]
      exact q
    · cases h
  · cases h

/-! C(..): a new instance -/
def mkO (n : Nat) (r : Res D) : Res D := match r with
  | .ok .non M3 => (match popR n M3 with
    | some (d, M4) => .ok d M4
    | none => .fail)
  | .exc e fs M3 => (match popR n M3 with
    | some (_, M4) => if fs.all (fun q => lowD n q.2) = true then .exc e fs M4 else .fail
    | none => .fail)
  | _ => .fail
def zMake (c : String) (f : Sem1) (n m : Nat) (is : List Nat) (dd : List D) (zs zk : ZSl) : ZX := fun env M => (zs env M).bind fun as M1 => (zk env M1).bind fun bs M2 =>
  if as.length = n ∧ bs.length = m then match perm ((.val (.ref M2.length) :: as) ++ bs ++ dd.map .val) is with
    | some ys => mkO M2.length (f ys (M2 ++ [.ins c []]))
    | none => .fail else .fail
section
variable {X : Cx} {W : WX} {cl : String → Option Addr} {e : Expr} {es : List Expr} {kws : List Keyword} {zs zk : ZSl} {pos p : Pos} {x : Str} {k n : Nat} {f C : Addr} {fd : FuncData} {ps ks : List Str} {is : List Nat} {dd : List D} {g : Sem1} {c : String}
theorem under_guards {A : Around} {C : Addr} {us : List Value} {kw : List (Str × Value)} (h : A.guards = some []) : (A.under (.builtin "type.__call__" ⟨.ref C :: us, kw⟩)).guards = some [] := by
  first | exact h | (simpa [Around.under, Code.guards, Code.isGuard, guardIds, pushGuards] using h)
theorem makeG {dv : List V} {du : List Value} (Mk' : Mk X.K C f) (F : FnG X.prog X.w X.K X.mg X.base (L2.CX X.prog X.w) k f fd ps (spZ cl X.K ps.length g)) (hgd : X.A.guards = some []) (hr : Room (k + 1) X.A) (tk : Takes X W)
    (rdu : Vals dv du) (hB : ∀ (s : Shared) (us ws ys : List Value), X.K.In s.heap → us.length = n + 1 → ws.length = ks.length → perm (us ++ ws ++ du) is = some ys → BindsTo s fd ⟨us, ks.zip ws⟩ (ps.zip ys))
    {pins : List (Addr × Obj)} {σ : St} {Q : VK} {us ws : List Value} {s : Shared} {vs zv : List V} {H : Hp} (I : Inv X pins σ H s) (r1 : Vals vs us) (r2 : Vals zv ws) (l1 : vs.length = n) (l2 : zv.length = ks.length)
    (h : ∀ y dx, H y = none → H dx = none → dx ≠ y → ∃ ys, perm ((.ref y :: vs) ++ zv ++ dv) is = some ys ∧ spZ cl X.K ps.length g ys (upd (upd H dx (.own y)) y (.ins C dx [])) (fun v H3 => v = .non ∧ Q (.ref y) H3) (WE W σ)) :
    wpAny (model X.prog X.w) X.A (call (.ref C) us (ks.zip ws)) (EP X pins σ Q) X.xe s := by
  obtain ⟨ys, hp, hsp⟩ := h (s.heap.objs.size + 1) s.heap.objs.size (I.hok.fresh (Nat.le_succ _)) (I.hok.fresh (Nat.le_refl _)) (Nat.ne_of_lt (Nat.lt_succ_self _))
  have I2 := Inv.made (C := C) I
  have rs : Vals (V.ref (s.heap.objs.size + 1) :: vs) (Value.ref (s.heap.objs.size + 1) :: us) := .cons rfl r1
  have rr : Vals ((V.ref (s.heap.objs.size + 1) :: vs) ++ zv ++ dv) ((Value.ref (s.heap.objs.size + 1) :: us) ++ ws ++ du) := (rs.append r2).append rdu
  obtain ⟨yv, hp2, py⟩ := perm_vals (R := fun (a : Value) (b : V) => RelV b a) (fun i b e => rr.get e) hp
  have ry : Vals ys yv := by
    clear hp hp2 hsp
    induction py with
    | nil => exact .nil
    | cons h t ih => exact .cons h ih
  have lu : (Value.ref (s.heap.objs.size + 1) :: us).length = n + 1 := by rw [List.length_cons, ← r1.length, l1]
  have lw : ws.length = ks.length := by rw [← r2.length]; exact l2
  refine wpAny_call (make_map (f := f) I.kIn Mk'.makes Mk'.init (beq_iff_eq.mp Mk'.fn) (codeAny_mono (F.run _ X.stack _ _ ⟨Value.ref (s.heap.objs.size + 1) :: us, ks.zip ws⟩ yv ys _ (WE W σ) (under_guards hgd) (hr.make C us (ks.zip ws))
    (I2.env0.make C us (ks.zip ws)) (hB _ _ ws yv I2.kIn lu lw hp2) ry hsp) fun res s' hq => ?_))
  match res, hq with
  | .error e, hq => exact passAt tk σ pins _ _ e s' I2 hq
  | .ok (.ret u), hq =>
    obtain ⟨v, H', I3, rv, ev, q3⟩ := I2.after hq
    subst ev
    exact ⟨rv, ⟨V.ref (s.heap.objs.size + 1), H', I3, rfl, q3⟩⟩
theorem make_post {dv : List V} {F : Fr} {ph : List Addr} {M : Sto} {env : Ev} {σ : St} {H : Hp} {Q : VK} {as bs : List Sl} {vs zv : List V} (hC : cl c = some C) (h1 : F.cl = cl) (h2 : F.K = X.K) (S : Sim F ph M env σ H)
    (hlen : is.length = ps.length) (r1 : RsL (gh F ph env σ) H vs as) (r2 : RsL (gh F ph env σ) H zv bs) (rdv : ∀ G H, RepL G H dv dd)
    (P : PoF F W env σ ph H Q (if as.length = n ∧ bs.length = ks.length then match perm ((.val (.ref M.length) :: as) ++ bs ++ dd.map .val) is with
      | some ys => mkO M.length (g ys (M ++ [.ins c []]))
      | none => .fail else .fail)) :
    vs.length = n ∧ zv.length = ks.length ∧ ∀ y dx, H y = none → H dx = none → dx ≠ y → ∃ ys, perm ((.ref y :: vs) ++ zv ++ dv) is = some ys ∧ spZ cl X.K ps.length g ys (upd (upd H dx (.own y)) y (.ins C dx [])) (fun v H3 => v = .non ∧ Q (.ref y) H3) (WE W σ) := by
  split at P
  · rename_i hl
    refine ⟨by rw [r1.length]; exact hl.1, by rw [r2.length]; exact hl.2, fun y dx hy hdx ne => ?_⟩
    cases e1 : perm ((.val (.ref M.length) :: as) ++ bs ++ dd.map .val) is with
    | none => rw [e1] at P; exact P.elim
    | some ys =>
      simp only [e1] at P
      have S1 : Sim F ph M env σ (upd H dx (.own y)) := S.alloc hdx
      have hy1 : upd H dx (.own y) y = none := by rw [upd_ne (fun z => ne z.symm)]; exact hy
      obtain ⟨S2, m2⟩ := S1.lay (o := .ins C dx []) hy1
      have cel : Cel (gh (F.plus y) ph env σ) (upd (upd H dx (.own y)) y (.ins C dx [])) y (.ins c []) := .ins upd_same (by show F.cl c = _; rw [h1]; exact hC) .nil
      obtain ⟨S3, at_⟩ := S2.toSto cel (S.h0 hy) (n0_none S hy)
      have f3 : Fwd ph H (ph ++ [y]) (upd (upd H dx (.own y)) y (.ins C dx [])) := by
        have g1 : Fwd ph H ph (upd H dx (.own y)) := Fwd.alloc hdx
        have g2 : Fwd ph (upd H dx (.own y)) ph (upd (upd H dx (.own y)) y (.ins C dx [])) := Fwd.alloc hy1
        have g := g1.trans g2
        exact ⟨⟨[y], rfl, fun a z => by rw [List.mem_singleton.mp z]; exact hy⟩, g.keep, g.there⟩
      have k1 : ∀ a o, H a = some o → upd (upd H dx (.own y)) y (.ins C dx []) a = some o := fun a o e => by
        rw [upd_ne (ne_of_none e hy), upd_ne (ne_of_none e hdx)]
        exact e
      have hself : RlS (gh F (ph ++ [y]) env σ) (upd (upd H dx (.own y)) y (.ins C dx [])) (.ref y) (.val (.ref M.length)) := Rep.ref at_
      have rr : RsL (gh F (ph ++ [y]) env σ) (upd (upd H dx (.own y)) y (.ins C dx [])) ((.ref y :: vs) ++ zv ++ dv) ((.val (.ref M.length) :: as) ++ bs ++ dd.map .val) :=
        (RsL.app (.cons hself (r1.fwd S f3)) (r2.fwd S f3)).app (rsl_vals (rdv _ _))
      obtain ⟨yv, hp2, py⟩ := perm_vals (R := RlS (gh F (ph ++ [y]) env σ) (upd (upd H dx (.own y)) y (.ins C dx []))) (fun i b e => rr.at e) e1
      refine ⟨yv, hp2, by rw [perm_len hp2, hlen], F, ph ++ [y], M ++ [.ins c []], env, σ, ys, h1, h2, S3, RsL.paired py, ?_⟩
      cases hg : g ys (M ++ [.ins c []]) with
      | fail => rw [hg] at P; exact P
      | ok d M3 =>
        rw [hg] at P
        cases d with
        | non =>
          simp only [mkO] at P
          cases e2 : popR M.length M3 with
          | none => rw [e2] at P; exact P.elim
          | some q =>
            obtain ⟨d, M4⟩ := q
            rw [e2] at P
            obtain ⟨a1, a2, a3, a4, rfl⟩ := popR_inv e2
            intro ph' H' v S' f r
            cases r
            obtain ⟨rfl, lo, S5, f5, c5⟩ := Sim.pop S hy k1 f S' a2 a3 a1 a4
            exact ⟨rfl, P ph H' y S5 f5 c5 hy⟩
        | _ => exact P.elim
      | exc ec fs M3 =>
        rw [hg] at P
        simp only [mkO] at P
        cases e2 : popR M.length M3 with
        | none => rw [e2] at P; exact P.elim
        | some q =>
          obtain ⟨d, M4⟩ := q
          rw [e2] at P
          simp only at P
          obtain ⟨a1, a2, a3, a4, rfl⟩ := popR_inv e2
          split at P
          · rename_i hfs
            intro ph' H' dx' ff C' S' f hc hx rp
            obtain ⟨rfl, lo, S5, f5, c5⟩ := Sim.pop S hy k1 f S' a2 a3 a1 a4
            obtain ⟨S6, m6⟩ := S5.unplus (S.h0 hy)
            refine P ph H' dx' ff C' S6 f5 hc hx (RepP.mo m6 (RepP.low lo rp fun q m => ?_))
            exact List.all_eq_true.mp hfs q m
          · exact P.elim
  · exact P.elim
theorem zf_make (Mk' : Mk X.K C f) (F : FnG X.prog X.w X.K X.mg X.base (L2.CX X.prog X.w) k f fd ps (spZ cl X.K ps.length g)) (hgd : X.A.guards = some []) (hr : Room (k + 1) X.A) (tk : Takes X W)
    (hg : Gl X x) (hm : X.mg x = some (.ref C)) (hC : cl c = some C) (B : Pat X.K fd ps (n + 1) ks is dd) (hdb : (x == ("__debug__" : Str)) = false) (ha : ZSa X W cl (e :: es) zs) (hkw : ZSk X W cl kws zk)
    (hst : nostar e = true) (hall : (backToKw pos (keywordEach kws X.env)).all (·.1.isSome) = true) (hks : (backToKw pos (keywordEach kws X.env)).filterMap (·.1) = ks)
    (hpl : ((backTo pos (starEach (e :: es) X.env)).any (·.1) || (backToKw pos (keywordEach kws X.env)).any (·.1.isNone)) = false) :
    ZF X W cl (.Call (.Name x p) (e :: es) kws pos) (zMake c g n ks.length is dd zs zk) := by
  obtain ⟨t, pa, qa⟩ := ha.ex
  obtain ⟨tk', pk, qk⟩ := hkw.ex
  obtain ⟨dv, du, rdu, rdv, hB⟩ := B.ex
  refine ⟨fun σ H Q => t σ H fun vs H1 => tk' σ H1 fun zs H2 => vs.length = n ∧ zs.length = ks.length ∧ ∀ y dx, H2 y = none → H2 dx = none → dx ≠ y → ∃ ys, perm ((.ref y :: vs) ++ zs ++ dv) is = some ys ∧
    spZ cl X.K ps.length g ys (upd (upd H2 dx (.own y)) y (.ins C dx [])) (fun v H3 => v = .non ∧ Q (.ref y) H3) (WE W σ), ⟨fun pins s σ H Q I h => ?_⟩, fun F' ph M env σ H Q h1 h2 S P => ?_⟩
  · refine wpAny_Call_Name_kw (ld_glob I hg hm ?_ hdb)
    refine PySem.W.callWith_KW (h₀ := X.base) I.ok.mod.kin Mk'.kp hall (thn (pa.run pos pins s σ H _ I h) fun us s1 ⟨vs, H1, I1, r1, q⟩ => ?_) hpl (star_ok hst)
    refine thn (pk.run pos pins s1 σ H1 _ I1 q) fun ws s2 ⟨zs, H2, I2, r2, l1, l2, q2⟩ => ⟨I2.kIn, ?_⟩
    rw [hks]
    exact makeG Mk' F hgd hr tk rdu hB I2 r1 r2 l1 l2 q2
  · refine qa F' ph M env σ H _ h1 h2 S (PoF.step P fun as M1 ph1 H1 vs S1 f1 r1 P1 => ?_)
    refine qk F' ph1 M1 env σ H1 _ h1 h2 S1 (PoF.step P1 fun bs M2 ph2 H2 zv S2 f2 r2 P2 => ?_)
    exact make_post hC h1 h2 S2 B.len (r1.fwd S1 f2) r2 rdv P2
theorem zf_make0 (Mk' : Mk X.K C f) (F : FnG X.prog X.w X.K X.mg X.base (L2.CX X.prog X.w) k f fd ps (spZ cl X.K ps.length g)) (hgd : X.A.guards = some []) (hr : Room (k + 1) X.A) (tk : Takes X W)
    (hg : Gl X x) (hm : X.mg x = some (.ref C)) (hC : cl c = some C) (B : Pat X.K fd ps 1 ks is dd) (hdb : (x == ("__debug__" : Str)) = false) (hkw : ZSk X W cl kws zk)
    (hall : (backToKw pos (keywordEach kws X.env)).all (·.1.isSome) = true) (hks : (backToKw pos (keywordEach kws X.env)).filterMap (·.1) = ks)
    (hpl : ((backTo pos (starEach [] X.env)).any (·.1) || (backToKw pos (keywordEach kws X.env)).any (·.1.isNone)) = false) :
    ZF X W cl (.Call (.Name x p) [] kws pos) (zMake c g 0 ks.length is dd sNil zk) := by
  obtain ⟨tk', pk, qk⟩ := hkw.ex
  obtain ⟨dv, du, rdu, rdv, hB⟩ := B.ex
  refine ⟨fun σ H Q => tk' σ H fun zs H2 => ([] : List V).length = 0 ∧ zs.length = ks.length ∧ ∀ y dx, H2 y = none → H2 dx = none → dx ≠ y → ∃ ys, perm ((.ref y :: []) ++ zs ++ dv) is = some ys ∧
    spZ cl X.K ps.length g ys (upd (upd H2 dx (.own y)) y (.ins C dx [])) (fun v H3 => v = .non ∧ Q (.ref y) H3) (WE W σ), ⟨fun pins s σ H Q I h => ?_⟩, fun F' ph M env σ H Q h1 h2 S P => ?_⟩
  · refine wpAny_Call_Name_kw (ld_glob I hg hm ?_ hdb)
    refine PySem.W.callWith_KW0 (h₀ := X.base) I.ok.mod.kin Mk'.kp hall ?_ hpl
    refine thn (pk.run pos pins s σ H _ I h) fun ws s2 ⟨zs, H2, I2, r2, l1, l2, q2⟩ => ⟨I2.kIn, ?_⟩
    rw [hks]
    exact makeG (us := []) (vs := []) Mk' F hgd hr tk rdu hB I2 .nil r2 l1 l2 q2
  · refine qk F' ph M env σ H _ h1 h2 S (PoF.step (show PoF F' W env σ ph H Q ((zk env M).bind _) from P) fun bs M2 ph2 H2 zv S2 f2 r2 P2 => ?_)
    exact make_post (as := []) (vs := []) hC h1 h2 S2 B.len .nil r2 rdv P2
end
end Zy
set_option maxHeartbeats 2000000
namespace Zy
open PySem PySem.Spec PyProof.Rows L2

/-! attributes of instances -/
theorem RepP.look {G : Gh} {H : Hp} {f : Str} {d : D} : ∀ {xs : List (Str × V)} {ds : List (Str × D)}, RepP G H Str xs ds → ds.lookup f = some d → ∃ v, xs.lookup f = some v ∧ Rep G H v d
  | _, _, .nil, e => by cases e
  | _, _, .cons (k := k) (x := x) (d := d') h t, e => by
    by_cases q : f == k
    · rw [List.lookup_cons, q] at e ⊢
      cases e
      exact ⟨_, rfl, h⟩
    · have q' : (f == k) = false := by simpa using q
      rw [List.lookup_cons, q'] at e ⊢
      exact RepP.look t e
theorem RepP.none {G : Gh} {H : Hp} {f : Str} : ∀ {xs : List (Str × V)} {ds : List (Str × D)}, RepP G H Str xs ds → ds.lookup f = none → xs.lookup f = none
  | _, _, .nil, _ => rfl
  | _, _, .cons (k := k) h t, e => by
    by_cases q : f == k
    · rw [List.lookup_cons, q] at e
      cases e
    · have q' : (f == k) = false := by simpa using q
      rw [List.lookup_cons, q'] at e ⊢
      exact RepP.none t e
def putD (f : Str) (v : D) : List (Str × D) → List (Str × D)
  | [] => [(f, v)]
  | (g, x) :: r => if g = f then (g, v) :: r else (g, x) :: putD f v r
theorem RepP.put {G : Gh} {H : Hp} {f : Str} {v : V} {d : D} (h0 : Rep G H v d) : ∀ {xs : List (Str × V)} {ds : List (Str × D)}, RepP G H Str xs ds → RepP G H Str (putF f v xs) (putD f d ds)
  | _, _, .nil => .cons h0 .nil
  | _, _, .cons (k := k) h t => by
    unfold putF putD
    by_cases q : k = f
    · rw [if_pos q, if_pos q]
      exact .cons h0 t
    · rw [if_neg q, if_neg q]
      exact .cons h (RepP.put h0 t)
/-- what is known of the classes: where an attribute may be read -/
abbrev Ats := String → Str → Bool
def AtsOk (K : PySem.W.Frag) (cl : String → Option Addr) (ok : Ats) : Prop := ∀ c f C, ok c f = true → cl c = some C → Cls K C ∧ NoAttr K C f
def zAt (ok : Ats) (f : Str) (z : ZX) : ZX := fun env M => (z env M).bind fun d M1 => match deref M1 d with
  | some (.ins c fs) => if ok c f = true then (match fs.lookup f with
    | some v => .ok v M1
    | none => .fail) else .fail
  | _ => .fail
section
variable {X : Cx} {W : WX} {cl : String → Option Addr} {a b e : Expr} {z za : ZX} {pos pos' p p1 p2 : Pos} {f x : Str} {i : Nat} {ok : Ats}
theorem ze_at (ho : AtsOk X.K cl ok) (he : ZC X W cl a z) (hb : attributeBase a f X.env (eval a X.env) = eval a X.env) : ZE X W cl (.Attribute a f pos) (zAt ok f z) := by
  obtain ⟨t, pa, q⟩ := he.ex
  refine ⟨_, pe_fld pa hb, fun F ph M env σ H Q h1 h2 S P => q F ph M env σ H _ h1 h2 S (P.step fun d M1 ph1 H1 w S1 f1 r1 P1 => ?_)⟩
  split at P1
  · rename_i c fs e1
    split at P1
    · rename_i hok
      split at P1
      · rename_i v hv
        obtain ⟨y, C, dx, ff, rfl, hy, hc, r⟩ := (r1.look S1 e1).ins_inv
        have hc' : cl c = some C := by rw [← h1]; exact hc
        obtain ⟨k1, k2⟩ := ho c f C hok hc'
        obtain ⟨u, q1, q2⟩ := r.look hv
        exact ⟨y, C, dx, ff, u, rfl, hy, k1, k2, q1, P1.now S1 q2⟩
      · exact P1.elim
    · exact P1.elim
  · exact P1.elim
/-- x.f = e, x an instance in the store or one's own -/
def putA (ok : Ats) (env : Ev) (M : Sto) (i : Nat) (f : Str) (v : D) : Out := match getPl env M i with
  | some (.ins c fs) => if ok c f = true ∧ fs.length < 1000 then .nx (setPl env M i (.ins c (putD f v fs))).1 (setPl env M i (.ins c (putD f v fs))).2 else .fail
  | _ => .fail
def zPutA (ok : Ats) (i : Nat) (f : Str) (z : ZX) : ZS := fun env M => (z env M).toS env fun v M1 => putA ok env M1 i f v
theorem putA_run (ho : AtsOk X.K cl ok) {F : Fr} {ph : List Addr} {M : Sto} {env : Ev} {σ : St} {H : Hp} {B : Ends} {v : D} {vv : V} (h1 : F.cl = cl) (S : Sim F ph M env σ H) (rv : Rep (gh F ph env σ) H vv v) (P : PoS F W env σ ph H B (putA ok env M i f v)) :
    ∃ y C dx fs, σ[i]? = some (some (.ref y)) ∧ H y = some (.ins C dx fs) ∧ Cls X.K C ∧ NoAttr X.K C f ∧ fs.length < 1000 ∧ B.nx σ (upd H y (.ins C dx (putF f vv fs))) := by
  unfold putA at P
  split at P
  · rename_i c fs e1
    split at P
    · rename_i hok
      obtain ⟨y, q, ce, off, wr⟩ := S.place e1
      cases ce with
      | @ins C dx _ ff _ h hc r =>
        have hc' : cl c = some C := by rw [← h1]; exact hc
        obtain ⟨k1, k2⟩ := ho c f C hok.1 hc'
        have r2 : RepP (gh F ph env σ) (upd H y (.ins C dx (putF f vv ff))) Str (putF f vv ff) (putD f v fs) := RepP.mo (mo_wr off) (r.put rv)
        obtain ⟨S', f'⟩ := wr (.ins C dx (putF f vv ff)) (.ins c (putD f v fs)) (.ins upd_same hc r2)
        exact ⟨y, C, dx, ff, q, h, k1, k2, by rw [r.length]; exact hok.2, P.nxt S' f'⟩
    · exact P.elim
  · exact P.elim
theorem zs_putA (ho : AtsOk X.K cl ok) (hN : X.N[i]? = some x) (hv : Vis X.env.scope x) (hd : (x == ("__debug__" : Str)) = false) (hcd : (x == ("__classdict__" : Str)) = false) (h : ZE X W cl e z)
    (hs : swapsWith e (some (.Attribute (.Name x p1) f p2)) pos.line X.env = pure false) : Zs X W cl (.Assign [.Attribute (.Name x p1) f p2] e pos) (zPutA ok i f z) := by
  obtain ⟨t, pa, q⟩ := h.ex
  refine ⟨_, ps_fld (pe_var hN hv hd hcd) pa hs, fun F ph M env σ H B h1 h2 S P => q F ph M env σ H _ h1 h2 S (PoS.step P fun v M1 ph1 H1 vv S1 f1 r1 P1 => ?_)⟩
  obtain ⟨y, C, dx, fs, q1, q2, k1, k2, k3, k4⟩ := putA_run ho h1 S1 r1 P1
  exact ⟨.ref y, q1, y, C, dx, fs, rfl, q2, k1, k2, k3, k4⟩

/-! len(x): an own __len__ too -/
def slD2 (M : Sto) : Sl → Option D
  | .val d => deref M d
  | .bor d => some d
  | _ => none
def slV : Sl → D
  | .val d => d
  | .bor d => d
  | _ => .non
theorem RlS.toC {G : Gh} {H : Hp} {v : V} : ∀ {s : Sl}, RlS G H v s → RlC G H v (slV s)
  | .val _, h => .inl h
  | .bor _, h => by
    obtain ⟨a, e, c, n, m⟩ := h
    exact .inr ⟨a, e, c, n, m⟩
  | .no, h => h.elim
  | .own _, h => h.elim
abbrev Lens := String → Option Sem1
def zLen (lf : Lens) (z : ZS1) : ZX := fun env M => (z env M).bind fun s M1 => match deref M1 (slV s) with
  | some (.ins c _) => (match lf c with
    | some g => (g [s] M1).bind fun r M2 => match r with
      | .int n => if 0 ≤ n ∧ n < 2 ^ 63 then .ok (.int n) M2 else .fail
      | _ => .fail
    | none => .fail)
  | _ => gLen [slV s] M1
/-- a method, by its promise -/
def MethOk (X : Cx) (cl : String → Option Addr) (k : Nat) (m : Str) (c : String) (g : Sem1) : Prop := ∀ C, cl c = some C → ∃ f fd ps, PySem.W.findIn X.K (.ref C) m = some (some (.ref f)) ∧ PySem.W.isFn X.K (.ref f) = true ∧ Pat X.K fd ps 1 [] [0] [] ∧
  FnG X.prog X.w X.K X.mg X.base (L2.CX X.prog X.w) k f fd ps (spZ cl X.K ps.length g)
theorem in1_guards {A : Around} (h : A.guards = some []) : A.in1.guards = some [] := h
theorem run_one {k : Nat} {f : Addr} {fd : FuncData} {ps : List Str} {g : Sem1} {A : Around} {E : St → XK} (F : FnG X.prog X.w X.K X.mg X.base (L2.CX X.prog X.w) k f fd ps (spZ cl X.K ps.length g)) (B : Pat X.K fd ps 1 [] [0] []) (hgd : A.guards = some []) (hr : Room k A)
    {pins : List (Addr × Obj)} {σ : St} {H : Hp} {s : Shared} {Q : VK} {y : Addr} (e0 : Env0 X.prog X.w X.K X.mg X.base A X.stack s H) (hx : PassesAt (L2.CX X.prog X.w) X σ (E σ)) (I : Inv X pins σ H s) (h : spZ cl X.K ps.length g [.ref y] H Q (E σ)) :
    wpAny (model X.prog X.w) A (call (.ref f) [.ref y]) (EP X pins σ Q) X.xe s := by
  obtain ⟨dv, du, rdu, rdv, hB⟩ := B.ex
  have hdu : du = [] := by
    have e : dv = [] := by
      cases rdv ⟨X.K, cl, fun _ => False, []⟩ H
      rfl
    subst e
    cases rdu
    rfl
  subst hdu
  have hb := hB s [.ref y] [] [.ref y] I.kIn rfl rfl rfl
  refine wpAny_call (codeAny_mono (F.run A X.stack s H ⟨[.ref y], []⟩ [.ref y] [.ref y] Q (E σ) hgd hr e0 hb (.cons rfl .nil) h) fun res s' hq => ?_)
  match res, hq with
  | .error er, hq => exact hx pins H s er s' I hq
  | .ok (.ret u), hq => exact I.after hq
theorem len_ins {k : Nat} {f : Addr} {fd : FuncData} {ps : List Str} {g : Sem1} (F : FnG X.prog X.w X.K X.mg X.base (L2.CX X.prog X.w) k f fd ps (spZ cl X.K ps.length g)) (B : Pat X.K fd ps 1 [] [0] []) (hgd : X.A.guards = some []) (hr : Room (k + 1) X.A) (tk : Takes X W)
    {pins : List (Addr × Obj)} {σ : St} {H : Hp} {s : Shared} {Q : VK} {y C dx : Addr} {fs : List (Str × V)} (hs : PySem.W.findIn X.K (.ref C) "__len__" = some (some (.ref f))) (hf : PySem.W.isFn X.K (.ref f) = true) (I : Inv X pins σ H s) (hy : H y = some (.ins C dx fs))
    (h : spZ cl X.K ps.length g [.ref y] H (fun v H' => ∃ n, v = .int n ∧ 0 ≤ n ∧ n < 2 ^ 63 ∧ Q (.int n) H') (WE W σ)) :
    wpAny (model X.prog X.w) X.A (call (.builtin "len") [.ref y]) (EP X pins σ Q) X.xe s := by
  obtain ⟨mA, O, _, _, _, _⟩ := ins_get I.hok hy
  obtain ⟨od, J, _⟩ := O.look
  refine Calls.call_function_entry kind_len plain_len entry_len (args_len1 _) ?_
  unfold Builtin.«len»
  refine wpAny_bind (m := oneArg "len" _) (wpAny_pure ?_)
  refine wpAny_bind (m := callSpecial? (.ref y) (Str.ofString "__len__")) (PySem.W.special_fn I.kIn J hs (beq_iff_eq.mp hf) (wpAny_mono (run_one (E := WE W) F B (in1_guards hgd) hr.in1 I.env0.in1 (passAt tk σ) I h) (fun r s' hq => ?_) fun _ _ z => z))
  obtain ⟨v, H', I', rv, n, rfl, n0, n1, q⟩ := hq
  obtain ⟨t, rfl⟩ := rv
  refine wpAny_bind (wpAny_holding (wpAny_pure ?_))
  refine wpAny_bind (wpAny_letGo ?_)
  show wpAny _ _ (if n < 0 then _ else _) _ _ _
  rw [if_neg (by omega)]
  show wpAny _ _ (if n ≥ 2 ^ 63 then _ else _) _ _ _
  rw [if_neg (by omega)]
  exact wpAny_bind (wpAny_mkInt (wpAny_pure ⟨_, rfl, .int n, H', I'.tok _, ⟨_, rfl⟩, q⟩))
/-- what is wanted of the value whose length is asked -/
def LenG (X : Cx) (W : WX) (cl : String → Option Addr) (k : Nat) (σ : St) (Q : VK) (v : V) (H1 : Hp) : Prop := (∃ y C dx fs f fd ps g, v = .ref y ∧ H1 y = some (.ins C dx fs) ∧ PySem.W.findIn X.K (.ref C) "__len__" = some (some (.ref f)) ∧ PySem.W.isFn X.K (.ref f) = true ∧ Pat X.K fd ps 1 [] [0] [] ∧
      FnG X.prog X.w X.K X.mg X.base (L2.CX X.prog X.w) k f fd ps (spZ cl X.K ps.length g) ∧ spZ cl X.K ps.length g [.ref y] H1 (fun v H' => ∃ n, v = .int n ∧ 0 ≤ n ∧ n < 2 ^ 63 ∧ Q (.int n) H') (WE W σ)) ∨ ∃ n, LenV X.K v H1 n ∧ Q (.int n) H1
def One (Q : VK) : List V → Hp → Prop := fun vs H => match vs with
  | [v] => Q v H
  | _ => False
theorem gLen_run {F : Fr} {ph : List Addr} {M : Sto} {env : Ev} {σ : St} {H : Hp} {Q : VK} {x : V} {d : D} (h2 : F.K = X.K) (h1 : F.cl = cl) (S : Sim F ph M env σ H) (r : RlC (gh F ph env σ) H x d) (P : PoE F W env σ ph H Q (gLen [d] M)) : ∃ n, LenV X.K x H n ∧ Q (.int n) H := by
  obtain ⟨x', n, e, l, q⟩ := bz_len F ph M env σ H Q [x] [d] h1 h2 S (.cons r .nil) P
  cases e
  exact ⟨n, l, q⟩
theorem ze_lenO {k : Nat} {lf : Lens} {z1 : ZS1} (hlf : ∀ c g, lf c = some g → MethOk X cl k "__len__" c g) (hgd : X.A.guards = some []) (hr : Room (k + 1) X.A) (tk : Takes X W) (hg : Gl X "len") (hm : X.mg "len" = none) (ha : ZS1j X W cl a z1) (n : nostar a = true) :
    ZE X W cl (.Call (.Name "len" p) [a] [] pos) (zLen lf z1) := by
  obtain ⟨t, pa, q⟩ := ha.ex
  refine ⟨fun σ H Q => t σ H (LenG X W cl k σ Q), ⟨fun pins s σ H Q I h => ?_⟩, fun F ph M env σ H Q h1 h2 S P => q F ph M env σ H _ h1 h2 S (P.step fun sl M1 ph1 H1 w S1 f1 r1 P1 => ?_)⟩
  · refine wpAny_Call_Name_kw (ld_blt I hg hm PySem.boot_len ?_ (by decide) (by decide))
    refine PyProof.Rows.callWith_builtin1 (thn ((pa_cons pa pa_nil (star_ok n)).run pos pins s σ H (One (LenG X W cl k σ Q)) I h) fun us s1 ⟨vs, H1, I1, r1, q1⟩ => ?_) (star_ok n) (by rfl)
    match vs, r1, q1 with
    | [v], r1, q1 =>
      obtain ⟨u, rfl, ru⟩ := vals1 r1
      have q1' : LenG X W cl k σ Q v H1 := q1
      rcases q1' with ⟨y, C, dx, fs, f, fd, ps, g, rfl, hy, hs, hf, B, F, hsp⟩ | ⟨n, hn, hq⟩
      · obtain rfl : u = Value.ref y := ru
        exact len_ins F B hgd hr tk hs hf I1 hy hsp
      · exact call_len pins s1 σ H1 [v] [u] Q I1 r1 ⟨v, n, rfl, hn, hq⟩
    | [], _, q1 => exact False.elim q1
    | _ :: _ :: _, _, q1 => exact False.elim q1
  · have rc := r1.toC
    cases e1 : deref M1 (slV sl) with
    | none =>
      simp only [e1] at P1
      exact .inr (gLen_run h2 h1 S1 rc P1)
    | some c =>
      simp only [e1] at P1
      cases c with
      | ins c fs =>
        simp only at P1
        cases e2 : lf c with
        | none => rw [e2] at P1; exact P1.elim
        | some g =>
          rw [e2] at P1
          obtain ⟨y, C, dx, ff, rfl, hy, hc, r⟩ := (rc.look S1 e1).ins_inv
          have hc' : cl c = some C := by rw [← h1]; exact hc
          obtain ⟨f, fd, ps, k1, k2, B, FF⟩ := hlf c g e2 C hc'
          refine .inl ⟨y, C, dx, ff, f, fd, ps, g, rfl, hy, k1, k2, B, FF, by rw [← B.len]; rfl, F, ph1, M1, env, σ, [sl], h1, h2, S1, .cons r1 .nil, ?_⟩
          refine (Post.step P1 fun r2 M2 ph2 H2 w2 S2 f2 rr P2 => ?_)
          split at P2
          · rename_i n
            split at P2
            · rename_i hn
              cases rr
              exact ⟨n, rfl, hn.1, hn.2, P2.now S2 (.int _)⟩
            · exact P2.elim
          · exact P2.elim
      | _ => exact .inr (gLen_run h2 h1 S1 rc P1)

/-! x.f, a property -/
/-- where a property stands, and what its getter answers (it raises nothing) -/
def PropOk (X : Cx) (cl : String → Option Addr) (k : Nat) (m : Str) (c : String) (g : Sem1) : Prop := ∀ C, cl c = some C → ∃ p f fd ps, Cls X.K C ∧ PropOf X.K C m p f ∧ Pat X.K fd ps 1 [] [0] [] ∧
  FnG X.prog X.w X.K X.mg X.base (L2.CX X.prog X.w) k f fd ps (spZ cl X.K ps.length g)
def noX : Res D → Res D
  | .ok d M => .ok d M
  | _ => .fail
def zProp (pf : Lens) (z : ZS1) : ZX := fun env M => (z env M).bind fun s M1 => match deref M1 (slV s) with
  | some (.ins c _) => (match pf c with
    | some g => noX (g [s] M1)
    | none => .fail)
  | _ => .fail
theorem prop_run {k : Nat} {q f C dx : Addr} {fd : FuncData} {ps : List Str} {g : Sem1} {fs : List (Str × V)} {m : Str} (c : Cls X.K C) (hp : PropOf X.K C m q f) (F : FnG X.prog X.w X.K X.mg X.base (L2.CX X.prog X.w) k f fd ps (spZ cl X.K ps.length g)) (B : Pat X.K fd ps 1 [] [0] [])
    (hgd : X.A.guards = some []) (hr : Room (k + 1) X.A) {pins : List (Addr × Obj)} {σ : St} {H : Hp} {s : Shared} {Q : VK} {y : Addr} {b : Bool} {E' : Value → Shared → Prop} (I : Inv X pins σ H s) (hy : H y = some (.ins C dx fs)) (h : spZ cl X.K ps.length g [.ref y] H Q fun _ _ _ => False) :
    wpAny (model X.prog X.w) X.A (getAttr (.ref y) m b) (EP X pins σ Q) E' s := by
  obtain ⟨mA, O, _, _, _, _⟩ := ins_get I.hok hy
  obtain ⟨od, J, _⟩ := O.look
  obtain ⟨rest, hrec⟩ := hp.rec_
  have I1 := I.tok (s.toks + 1)
  obtain ⟨dv, du, rdu, rdv, hB⟩ := B.ex
  have hdu : du = [] := by
    have e : dv = [] := by
      cases rdv ⟨X.K, cl, fun _ => False, []⟩ H
      rfl
    subst e
    cases rdu
    rfl
  subst hdu
  have hb := hB { s with toks := s.toks + 1 } [.ref y] [] [.ref y] I1.kIn rfl rfl rfl
  have hc : (PySem.W.clsIn X.K C).isSome = true := by
    obtain ⟨cd, hc, _⟩ := PySem.W.any_some c.hd
    rw [hc]
    rfl
  refine PySem.W.get_bind I.kIn J (PySem.W.plainGet_of (c.get m)).1 (PySem.W.findObj_data hc hp.at_ hp.get hp.tak) (PySem.W.plainGet_of (c.get m)).2 (wpAny_call (PySem.W.prop_get (s := { s with toks := s.toks + 1 }) I.kIn hrec ?_))
  refine codeAny_mono (F.run X.A.in1 X.stack { s with toks := s.toks + 1 } H ⟨[.ref y], []⟩ [.ref y] [.ref y] Q (fun _ _ _ => False) (in1_guards hgd) hr.in1 I1.env0.in1 hb (.cons rfl .nil) h) fun r s' hq => ?_
  match r, hq with
  | .error er, hq =>
    obtain ⟨_, _, _, _, _, _, _, _, _, _, _, _, z⟩ := hq
    exact z.elim
  | .ok (.ret u), hq =>
    obtain ⟨v, H', I3, rv, q3⟩ := I1.after hq
    show wpAny _ _ (handedOut u) _ _ _
    rw [PySem.W.handedOut_of (handed_of rv)]
    exact wpAny_pure ⟨v, H', I3, rv, q3⟩
theorem ze_prop {k : Nat} {pf : Lens} {z1 : ZS1} (hpf : ∀ c g, pf c = some g → PropOk X cl k f c g) (hgd : X.A.guards = some []) (hr : Room (k + 1) X.A) (ha : ZS1j X W cl a z1) (hb : attributeBase a f X.env (eval a X.env) = eval a X.env) :
    ZE X W cl (.Attribute a f pos) (zProp pf z1) := by
  obtain ⟨t, pa, q⟩ := ha.ex
  refine ⟨fun σ H Q => t σ H fun v H1 => ∃ y C dx fs p g fd ps gg, v = .ref y ∧ H1 y = some (.ins C dx fs) ∧ Cls X.K C ∧ PropOf X.K C f p g ∧ Pat X.K fd ps 1 [] [0] [] ∧ FnG X.prog X.w X.K X.mg X.base (L2.CX X.prog X.w) k g fd ps (spZ cl X.K ps.length gg) ∧
      spZ cl X.K ps.length gg [.ref y] H1 Q fun _ _ _ => False, ⟨fun pins s σ H Q I h => ?_⟩, fun F ph M env σ H Q h1 h2 S P => q F ph M env σ H _ h1 h2 S (P.step fun sl M1 ph1 H1 w S1 f1 r1 P1 => ?_)⟩
  · refine attr_of hb (thn (pa.run pins s σ H _ I h) fun u s1 ⟨x, H1, I1, rx, y, C, dx, fs, p, g, fd, ps, gg, ex, hy, c, hp, B, F, hsp⟩ => ?_)
    subst ex
    obtain rfl : u = Value.ref y := rx
    exact prop_run c hp F B hgd hr I1 hy hsp
  · have rc := r1.toC
    split at P1
    · rename_i c fs e1
      split at P1
      · rename_i g e2
        obtain ⟨y, C, dx, ff, rfl, hy, hc, r⟩ := (rc.look S1 e1).ins_inv
        have hc' : cl c = some C := by rw [← h1]; exact hc
        obtain ⟨p, f', fd, ps, k0, k1, B, FF⟩ := hpf c g e2 C hc'
        refine ⟨y, C, dx, ff, p, f', fd, ps, g, rfl, hy, k0, k1, B, FF, by rw [← B.len]; rfl, F, ph1, M1, env, σ, [sl], h1, h2, S1, .cons r1 .nil, ?_⟩
        cases hg : g [sl] M1 with
        | ok d M2 =>
          rw [hg] at P1
          exact P1
        | exc c fs M2 => rw [hg] at P1; exact P1.elim
        | fail => rw [hg] at P1; exact P1.elim
      · exact P1.elim
    · exact P1.elim
end
end Zy
set_option maxHeartbeats 4000000
/-! zip of two sequences, each a list or a tuple -/
namespace Zy
open PySem PySem.Spec PyProof.Rows L2
def SqA (b : Bool) (h : Heap) (l : Addr) (its : Array Value) : Prop := match b with
  | true => h.IsList l its
  | false => h.IsTuple l its
def ItA (b : Bool) (h : Heap) (it l : Addr) (k : Nat) : Prop := match b with
  | true => h.IsListIter it l k
  | false => h.IsTupleIter it l k
section
variable {b b1 b2 : Bool} {h h' : Heap} {a c l it : Addr} {k : Nat} {its : Array Value}
theorem SqA.ext (x : SqA b h a its) (e : Heap.ExtBut c h h') (n : a ≠ c) : SqA b h' a its := by
  cases b with
  | true => exact Heap.IsList.extBut x e n
  | false => exact Heap.IsTuple.extBut x e n
theorem ItA.ext (x : ItA b h a l k) (e : Heap.ExtBut c h h') (n : a ≠ c) : ItA b h' a l k := by
  cases b with
  | true => exact Heap.IsListIter.extBut x e n
  | false => exact Heap.IsTupleIter.extBut x e n
theorem ItA.at (x : ItA b h a l k) (e : ∀ o, h.get? a = some o → h'.get? a = some o) : ItA b h' a l k := by
  cases b with
  | true => exact Heap.IsListIter.at x e
  | false => exact Heap.IsTupleIter.at x e
theorem SqA.push (x : SqA b h a its) (o : Obj) : SqA b (h.push o) a its := by
  cases b with
  | true => exact Heap.IsList.push x o
  | false => exact Heap.IsTuple.push x o
theorem ItA.obj (x : ItA b h a l k) : ∃ o, h.get? a = some o ∧ o.data = .fields #[.ref l, .int k 0] := by
  cases b with
  | true => obtain ⟨o, e, _, d⟩ := x; exact ⟨o, e, d⟩
  | false => obtain ⟨o, e, _, d⟩ := x; exact ⟨o, e, d⟩
theorem SqA.lt (x : SqA b h a its) : a < h.objs.size := by
  cases b with
  | true => obtain ⟨o, e, _⟩ := x; exact Heap.lt_size e
  | false => obtain ⟨o, e, _⟩ := x; exact Heap.lt_size e
variable {prog : Program} {w : World} {A : Around} {E : Value → Shared → Prop} {s : Shared}
theorem nextA_item {x : Value} {Q : Value → Shared → Prop} (hi : ItA b s.heap it l k) (hl : SqA b s.heap l its) (hx : its[k]? = some x) (hQ : ∀ h', ItA b h' it l (k + 1) → Heap.SameBut it s.heap h' → Q x { s with heap := h' }) :
    wpAny (model prog w) A (Builtin.SmallTypes.nextOf (.ref it)) Q E s := by
  cases b with
  | true => exact wpAny_nextOf_list_item hi hl hx hQ
  | false => exact RZ.nextOf_tuple_item hi hl hx hQ
theorem nextA_end {Q : Value → Shared → Prop} (hh : A.handled = none) (hi : ItA b s.heap it l k) (hl : SqA b s.heap l its) (hx : its[k]? = none)
    (hE : ∀ h' e, Heap.ExtBut it s.heap h' → (∃ o, h'.get? e = some o ∧ o.cls = .type "StopIteration") → E (.ref e) { s with heap := h' }) : wpAny (model prog w) A (Builtin.SmallTypes.nextOf (.ref it)) Q E s := by
  cases b with
  | true => exact wpAny_nextOf_list_end hh hi hl hx hE
  | false => exact RZ.nextOf_tuple_end hh hi hl hx hE
variable {z ti to i1 i2 l1 l2 : Addr} {k1 k2 : Nat} {xs ys : Array Value} {x y u v : Value}
theorem zipA_item {Q : Value → Shared → Prop} (D : ZipApart z ti to i1 i2 l1 l2) (hz : IsZip s.heap z ti to .none) (pi : IsPair s.heap ti (.ref i1) (.ref i2)) (po : IsPair s.heap to u v) (h1 : ItA b1 s.heap i1 l1 k1) (h2 : ItA b2 s.heap i2 l2 k2)
    (q1 : SqA b1 s.heap l1 xs) (q2 : SqA b2 s.heap l2 ys) (hx : xs[k1]? = some x) (hy : ys[k2]? = some y)
    (hQ : ∀ h', IsZip h' z ti to (rawInt s.heap.objs.size) → IsPair h' to x y → ItA b1 h' i1 l1 (k1 + 1) → ItA b2 h' i2 l2 (k2 + 1) → IsPair h' s.heap.objs.size x y → h'.objs.size = s.heap.objs.size + 1 →
      (∀ c o, c ≠ z → c ≠ to → c ≠ i1 → c ≠ i2 → s.heap.get? c = some o → h'.get? c = some o) → Q (.ref s.heap.objs.size) { s with heap := h' }) :
    wpAny (model prog w) A (Builtin.«zip.__next__» ⟨[.ref z], []⟩) (fun fin s' => ∃ v, fin = .done (.ret v) ∧ Q v s') E s := by
  show wpAny _ _ (field (.ref z) 2 >>= _) _ _ _; refine wpAny_bind (wpAny_field hz rfl (x := .bool false) rfl ?_)
  show wpAny _ _ (field (.ref z) 3 >>= _) _ _ _; refine wpAny_bind (wpAny_field hz rfl (x := .ref ti) rfl (wpAny_bind (wpAny_seqItems pi rfl ?_)))
  show wpAny _ _ (Builtin.SmallTypes.ownedTupleIsFree (.ref z) >>= _) _ _ _; refine wpAny_bind ?_; unfold Builtin.SmallTypes.ownedTupleIsFree
  refine wpAny_bind (wpAny_field hz rfl (x := .none) rfl (wpAny_pure ?_)); simp only [if_true]
  refine wpAny_bind (wpAny_rule ?_); refine wpAny_bind (wpAny_field hz rfl (x := .ref to) rfl ?_); refine wpAny_bind (wpAny_setField_rec hz (by simp) fun g1 z1 s1 => ?_)
  replace z1 : IsZip g1 z ti to .ellipsis := z1
  refine wpAny_bind ?_; simp only [List.zipIdx_cons, List.zipIdx_nil, List.forIn_cons, List.forIn_nil]; refine wpAny_bind (wpAny_bind (wpAny_onRaise ?_))
  show wpAny _ _ (Builtin.SmallTypes.nextOf (.ref i1) >>= _) _ _ _; refine wpAny_bind (nextA_item (h1.ext s1.extBut D.i1z) (q1.ext s1.extBut D.l1z) hx fun g2 n1 s2 => wpAny_pure ?_)
  have p2 : IsPair g2 to u v := s2.extBut _ _ D.TOi1 (s1.extBut _ _ D.TOz po)
  refine wpAny_bind (wpAny_seqItems p2 rfl ?_); refine wpAny_bind (wpAny_updateSeq_pair p2 fun g3 p3 s3 => ?_)
  replace p3 : IsPair g3 to x v := p3
  refine wpAny_bind (wpAny_letGo (wpAny_pure ?_)); refine wpAny_bind (wpAny_bind (wpAny_onRaise ?_))
  show wpAny _ _ (Builtin.SmallTypes.nextOf (.ref i2) >>= _) _ _ _
  refine wpAny_bind (nextA_item (((h2.ext s1.extBut D.i2z).ext s2.extBut D.i12.symm).ext s3.extBut D.TOi2.symm) (((q2.ext s1.extBut D.l2z).ext s2.extBut D.l2i1).ext s3.extBut D.l2TO) hy fun g4 n2 s4 => wpAny_pure ?_)
  have p4 : IsPair g4 to x v := s4.extBut _ _ D.TOi2 p3
  refine wpAny_bind (wpAny_seqItems p4 rfl ?_); refine wpAny_bind (wpAny_updateSeq_pair p4 fun g5 p5 s5 => ?_)
  replace p5 : IsPair g5 to x y := p5
  refine wpAny_bind (wpAny_letGo (wpAny_pure (wpAny_pure ?_))); refine wpAny_bind (wpAny_seqItems p5 rfl ?_); refine wpAny_bind (wpAny_newTuple ?_)
  have hsz : g5.objs.size = s.heap.objs.size := by rw [s5.1, s4.1, s3.1, s2.1, s1.1]
  have z5 : IsZip g5 z ti to .ellipsis := s5.extBut _ _ D.TOz.symm (s4.extBut _ _ D.i2z.symm (s3.extBut _ _ D.TOz.symm (s2.extBut _ _ D.i1z.symm z1)))
  have k5 : ∀ c o, c ≠ z → c ≠ to → c ≠ i1 → c ≠ i2 → s.heap.get? c = some o → g5.get? c = some o := fun c o c1 c2 c3 c4 e => s5.extBut _ _ c2 (s4.extBut _ _ c4 (s3.extBut _ _ c2 (s2.extBut _ _ c3 (s1.extBut _ _ c1 e))))
  have m1 : ItA b1 g5 i1 l1 (k1 + 1) := ((n1.ext s3.extBut D.TOi1.symm).ext s4.extBut D.i12).ext s5.extBut D.TOi1.symm
  have m2 : ItA b2 g5 i2 l2 (k2 + 1) := n2.ext s5.extBut D.TOi2.symm
  have hzlt : z < g5.objs.size := Heap.lt_size z5
  show wpAny _ _ (Builtin.SmallTypes.ownedTupleHandOut (.ref z) (.ref g5.objs.size) >>= _) _ _ _
  refine wpAny_bind ?_; unfold Builtin.SmallTypes.ownedTupleHandOut
  have z6 : IsZip (g5.push { cls := .type "tuple", data := .seq #[x, y] }) z ti to .ellipsis := Heap.get?_push_of_some _ z5
  refine wpAny_bind (wpAny_setField_rec z6 (by simp) fun g7 z7 s7 => ?_)
  replace z7 : IsZip g7 z ti to (rawInt g5.objs.size) := z7
  refine wpAny_setField_rec z7 (by simp) fun g8 z8 s8 => ?_
  replace z8 : IsZip g8 z ti to (rawInt g5.objs.size) := z8
  have up : ∀ c o, c ≠ z → g5.get? c = some o → g8.get? c = some o := fun c o c1 e => s8.extBut _ _ c1 (s7.extBut _ _ c1 (Heap.get?_push_of_some _ e))
  have t8 : IsPair g8 g5.objs.size x y := s8.extBut _ _ (Nat.ne_of_gt hzlt) (s7.extBut _ _ (Nat.ne_of_gt hzlt) (Heap.get?_push_size _ rfl))
  have e8 : g8.objs.size = g5.objs.size + 1 := by rw [s8.1, s7.1, Heap.size_push]
  rw [hsz] at z8 t8 e8; refine wpAny_pure ⟨_, rfl, ?_⟩; show Q (.ref g5.objs.size) _; rw [hsz]
  exact hQ g8 z8 (up _ _ D.TOz p5) (m1.at fun o e => up _ o D.i1z e) (m2.at fun o e => up _ o D.i2z e) t8 e8 fun c o c1 c2 c3 c4 e => up c o c1 (k5 c o c1 c2 c3 c4 e)
theorem zipA_end {Q : Fin → Shared → Prop} (hh : A.handled = none) (D : ZipApart z ti to i1 i2 l1 l2) (hz : IsZip s.heap z ti to .none) (pi : IsPair s.heap ti (.ref i1) (.ref i2)) (po : IsPair s.heap to u v) (h1 : ItA b1 s.heap i1 l1 k1) (h2 : ItA b2 s.heap i2 l2 k2)
    (q1 : SqA b1 s.heap l1 xs) (q2 : SqA b2 s.heap l2 ys) (hend : xs[k1]? = none ∨ ys[k2]? = none)
    (hE : ∀ h' e, (∀ c o, c ≠ z → c ≠ to → c ≠ i1 → c ≠ i2 → s.heap.get? c = some o → h'.get? c = some o) → (∃ o, h'.get? e = some o ∧ o.cls = .type "StopIteration") → E (.ref e) { s with heap := h' }) :
    wpAny (model prog w) A (Builtin.«zip.__next__» ⟨[.ref z], []⟩) Q E s := by
  show wpAny _ _ (field (.ref z) 2 >>= _) _ _ _; refine wpAny_bind (wpAny_field hz rfl (x := .bool false) rfl ?_)
  show wpAny _ _ (field (.ref z) 3 >>= _) _ _ _; refine wpAny_bind (wpAny_field hz rfl (x := .ref ti) rfl (wpAny_bind (wpAny_seqItems pi rfl ?_)))
  show wpAny _ _ (Builtin.SmallTypes.ownedTupleIsFree (.ref z) >>= _) _ _ _; refine wpAny_bind ?_; unfold Builtin.SmallTypes.ownedTupleIsFree
  refine wpAny_bind (wpAny_field hz rfl (x := .none) rfl (wpAny_pure ?_)); simp only [if_true]
  refine wpAny_bind (wpAny_rule ?_); refine wpAny_bind (wpAny_field hz rfl (x := .ref to) rfl ?_); refine wpAny_bind (wpAny_setField_rec hz (by simp) fun g1 z1 s1 => ?_)
  replace z1 : IsZip g1 z ti to .ellipsis := z1
  refine wpAny_bind ?_; simp only [List.zipIdx_cons, List.zipIdx_nil, List.forIn_cons, List.forIn_nil]; refine wpAny_bind (wpAny_bind (wpAny_onRaise ?_))
  show wpAny _ _ (Builtin.SmallTypes.nextOf (.ref i1) >>= _) _ _ _
  cases hx : xs[k1]? with
  | none =>
    refine wpAny_bind (nextA_end hh (h1.ext s1.extBut D.i1z) (q1.ext s1.extBut D.l1z) hx fun g2 e s2 he => ?_); obtain ⟨oe, eo, ec⟩ := he
    have z2 : IsZip g2 z ti to .ellipsis := s2 _ _ D.i1z.symm z1
    have ez : e ≠ z := fun q => by subst q; rw [z2] at eo; cases eo; simp at ec
    refine wpAny_setField_rec z2 (by simp) fun g3 _ s3 => hE g3 e (fun c o c1 _ c3 _ q => s3.extBut _ _ c1 (s2 _ _ c3 (s1.extBut _ _ c1 q))) ⟨oe, s3.extBut _ _ ez eo, ec⟩
  | some x =>
    have hy : ys[k2]? = none := by rcases hend with q | q; rw [hx] at q; cases q; exact q
    refine wpAny_bind (nextA_item (h1.ext s1.extBut D.i1z) (q1.ext s1.extBut D.l1z) hx fun g2 n1 s2 => wpAny_pure ?_)
    have p2 : IsPair g2 to u v := s2.extBut _ _ D.TOi1 (s1.extBut _ _ D.TOz po)
    refine wpAny_bind (wpAny_seqItems p2 rfl ?_); refine wpAny_bind (wpAny_updateSeq_pair p2 fun g3 p3 s3 => ?_); refine wpAny_bind (wpAny_letGo (wpAny_pure ?_)); refine wpAny_bind (wpAny_bind (wpAny_onRaise ?_))
    show wpAny _ _ (Builtin.SmallTypes.nextOf (.ref i2) >>= _) _ _ _
    refine wpAny_bind (nextA_end hh (((h2.ext s1.extBut D.i2z).ext s2.extBut D.i12.symm).ext s3.extBut D.TOi2.symm) (((q2.ext s1.extBut D.l2z).ext s2.extBut D.l2i1).ext s3.extBut D.l2TO) hy fun g4 e s4 he => ?_)
    obtain ⟨oe, eo, ec⟩ := he
    have z4 : IsZip g4 z ti to .ellipsis := s4 _ _ D.i2z.symm (s3.extBut _ _ D.TOz.symm (s2.extBut _ _ D.i1z.symm z1))
    have ez : e ≠ z := fun q => by subst q; rw [z4] at eo; cases eo; simp at ec
    refine wpAny_setField_rec z4 (by simp) fun g5 _ s5 => hE g5 e (fun c o c1 c2 c3 c4 q => s5.extBut _ _ c1 (s4 _ _ c4 (s3.extBut _ _ c2 (s2.extBut _ _ c3 (s1.extBut _ _ c1 q))))) ⟨oe, s5.extBut _ _ ez eo, ec⟩
end
end Zy
set_option maxHeartbeats 4000000
/-! zip, further: its making, its turns, its walk -/
namespace Zy
open PySem PySem.Spec PyProof.Rows L2
section
variable {prog : Program} {w : World} {A : Around} {E : Value → Shared → Prop} {s : Shared} {b1 b2 : Bool} {z ti to i1 i2 l1 l2 : Addr} {k1 k2 : Nat} {xs ys : Array Value} {x y u v : Value}
theorem nextZ_item {Q : Option Value → Shared → Prop} (D : ZipApart z ti to i1 i2 l1 l2) (hz : IsZip s.heap z ti to .none) (pi : IsPair s.heap ti (.ref i1) (.ref i2)) (po : IsPair s.heap to u v) (h1 : ItA b1 s.heap i1 l1 k1) (h2 : ItA b2 s.heap i2 l2 k2)
    (q1 : SqA b1 s.heap l1 xs) (q2 : SqA b2 s.heap l2 ys) (hx : xs[k1]? = some x) (hy : ys[k2]? = some y)
    (hQ : ∀ h', IsZip h' z ti to (rawInt s.heap.objs.size) → IsPair h' to x y → ItA b1 h' i1 l1 (k1 + 1) → ItA b2 h' i2 l2 (k2 + 1) → IsPair h' s.heap.objs.size x y → h'.objs.size = s.heap.objs.size + 1 →
      (∀ c o, c ≠ z → c ≠ to → c ≠ i1 → c ≠ i2 → s.heap.get? c = some o → h'.get? c = some o) → Q (some (.ref s.heap.objs.size)) { s with heap := h' }) : wpAny (model prog w) A (pyNext (.ref z)) Q E s := by
  have tz : s.TypeIs (.ref z) "zip" := ⟨_, hz, rfl⟩
  unfold pyNext
  exact wpAny_bind (wpAny_attempt (wpAny_callSpecial?_slot (name := Str.ofString "__next__") tz F.slot_zip_next (wpAny_call_entry F.slot_zip_next tz F.entry_zip_next
    (zipA_item D hz pi po h1 h2 q1 q2 hx hy fun h' a1 a2 a3 a4 a5 a6 a7 => wpAny_pure (hQ h' a1 a2 a3 a4 a5 a6 a7)) (F.args_zip_next_1 _))))
theorem nextZ_end {Q : Option Value → Shared → Prop} (hh : A.handled = none) (D : ZipApart z ti to i1 i2 l1 l2) (hz : IsZip s.heap z ti to .none) (pi : IsPair s.heap ti (.ref i1) (.ref i2)) (po : IsPair s.heap to u v) (h1 : ItA b1 s.heap i1 l1 k1) (h2 : ItA b2 s.heap i2 l2 k2)
    (q1 : SqA b1 s.heap l1 xs) (q2 : SqA b2 s.heap l2 ys) (hend : xs[k1]? = none ∨ ys[k2]? = none)
    (hQ : ∀ h', (∀ c o, c ≠ z → c ≠ to → c ≠ i1 → c ≠ i2 → s.heap.get? c = some o → h'.get? c = some o) → Q none { s with heap := h' }) : wpAny (model prog w) A (pyNext (.ref z)) Q E s := by
  have tz : s.TypeIs (.ref z) "zip" := ⟨_, hz, rfl⟩
  unfold pyNext
  refine wpAny_bind (wpAny_attempt (wpAny_callSpecial?_slot (name := Str.ofString "__next__") tz F.slot_zip_next (wpAny_call_entry F.slot_zip_next tz F.entry_zip_next (zipA_end hh D hz pi po h1 h2 q1 q2 hend fun h' e hk he => ?_) (F.args_zip_next_1 _))))
  obtain ⟨o, ho, hc⟩ := he
  exact wpAny_bind (wpAny_isInstance (T := "StopIteration") (b := true) ⟨o, ho, hc⟩ isSubtype_stop (wpAny_pure (hQ _ hk)))
def itC : Bool → String
  | true => "list_iterator"
  | false => "tuple_iterator"
abbrev gA (b : Bool) (h : Heap) (l : Addr) : Heap := h.push { cls := .type (itC b), data := .fields #[.ref l, .int 0 0] }
abbrev gB (b1 b2 : Bool) (h : Heap) (l1 l2 : Addr) : Heap := gA b2 (gA b1 h l1) l2
abbrev gC (b1 b2 : Bool) (h : Heap) (l1 l2 : Addr) : Heap := (gB b1 b2 h l1 l2).push { cls := .type "tuple", data := .seq #[.ref h.objs.size, .ref (gA b1 h l1).objs.size] }
abbrev gD (b1 b2 : Bool) (h : Heap) (l1 l2 : Addr) : Heap := (gC b1 b2 h l1 l2).push { cls := .type "tuple", data := .seq #[.none, .none] }
abbrev gE (b1 b2 : Bool) (h : Heap) (l1 l2 : Addr) : Heap := (gD b1 b2 h l1 l2).push { cls := .type "zip", data := .fields #[.none, .bool false, .bool false, .ref (gB b1 b2 h l1 l2).objs.size, .ref (gC b1 b2 h l1 l2).objs.size] }
theorem zipM_lt (l1 l2 : Addr) (xs ys : Array Value) :
    Meets (Builtin.«zip.__new__» ⟨[.type "zip", .ref l1, .ref l2], []⟩) (fun _ R s => SqA true s.heap l1 xs ∧ SqA false s.heap l2 ys ∧ R (.ok (.ret (.ref (gD true false s.heap l1 l2).objs.size))) { s with heap := gE true false s.heap l1 l2 }) :=
  .of_wp fun prog w A R s h => by
    obtain ⟨hp, g, d, tk, os⟩ := s; obtain ⟨q1, q2, h⟩ := h
    have hsub := sub_zip
    have m1 : Heap.IsList (Shared.heap ⟨hp, g, d, tk, os⟩) l1 xs := q1
    have m2 : Heap.IsTuple (Shared.heap ⟨hp.push { cls := .type "list_iterator", data := .fields #[.ref l1, .int 0 0] }, g, d, tk, os⟩) l2 ys := Heap.IsTuple.push q2 _
    wp_walk using wpAny_pyIter_list m1, wpAny_pyIter_tuple m2
    exact ⟨_, rfl, h⟩
theorem zipM_tl (l1 l2 : Addr) (xs ys : Array Value) :
    Meets (Builtin.«zip.__new__» ⟨[.type "zip", .ref l1, .ref l2], []⟩) (fun _ R s => SqA false s.heap l1 xs ∧ SqA true s.heap l2 ys ∧ R (.ok (.ret (.ref (gD false true s.heap l1 l2).objs.size))) { s with heap := gE false true s.heap l1 l2 }) :=
  .of_wp fun prog w A R s h => by
    obtain ⟨hp, g, d, tk, os⟩ := s; obtain ⟨q1, q2, h⟩ := h
    have hsub := sub_zip
    have m1 : Heap.IsTuple (Shared.heap ⟨hp, g, d, tk, os⟩) l1 xs := q1
    have m2 : Heap.IsList (Shared.heap ⟨hp.push { cls := .type "tuple_iterator", data := .fields #[.ref l1, .int 0 0] }, g, d, tk, os⟩) l2 ys := Heap.IsList.push q2 _
    wp_walk using wpAny_pyIter_tuple m1, wpAny_pyIter_list m2
    exact ⟨_, rfl, h⟩
theorem zipA_new : ∀ (b1 b2 : Bool) (l1 l2 : Addr) (xs ys : Array Value),
    Meets (Builtin.«zip.__new__» ⟨[.type "zip", .ref l1, .ref l2], []⟩) (fun _ R s => SqA b1 s.heap l1 xs ∧ SqA b2 s.heap l2 ys ∧ R (.ok (.ret (.ref (gD b1 b2 s.heap l1 l2).objs.size))) { s with heap := gE b1 b2 s.heap l1 l2 })
  | true, true, l1, l2, xs, ys => meets_zip_new l1 l2 xs ys
  | false, false, l1, l2, xs, ys => RZ.meets_zipT_new l1 l2 xs ys
  | true, false, l1, l2, xs, ys => zipM_lt l1 l2 xs ys
  | false, true, l1, l2, xs, ys => zipM_tl l1 l2 xs ys
theorem itC_at {b : Bool} {h : Heap} {i l : Addr} (e : h.get? i = some { cls := .type (itC b), data := .fields #[.ref l, .int 0 0] }) : ItA b h i l 0 := by
  cases b with
  | true => exact ⟨_, e, rfl, rfl⟩
  | false => exact ⟨_, e, rfl, rfl⟩
theorem zipA_call {Q : Value → Shared → Prop} (q1 : SqA b1 s.heap l1 xs) (q2 : SqA b2 s.heap l2 ys)
    (h : ∀ h', IsZip h' (s.heap.objs.size + 4) (s.heap.objs.size + 2) (s.heap.objs.size + 3) .none → IsPair h' (s.heap.objs.size + 2) (.ref s.heap.objs.size) (.ref (s.heap.objs.size + 1)) →
      IsPair h' (s.heap.objs.size + 3) .none .none → ItA b1 h' s.heap.objs.size l1 0 → ItA b2 h' (s.heap.objs.size + 1) l2 0 → h'.objs.size = s.heap.objs.size + 5 →
      (∀ c o, s.heap.get? c = some o → h'.get? c = some o) → Q (.ref (s.heap.objs.size + 4)) { s with heap := h' }) : wpAny (model prog w) A (call (.type "zip") [.ref l1, .ref l2]) Q E s := by
  refine callType_new F.called_zip (by decide) (F.typeCall_zip_2 _ _) (F.newCall_zip_2 _ _) (fun obj => F.args_object_init_3 obj _ _) F.entry_zip_new (zipA_new b1 b2 l1 l2 xs ys) ⟨q1, q2, ?_⟩
  have n1 : (gA b1 s.heap l1).objs.size = s.heap.objs.size + 1 := Heap.size_push ..
  have n2 : (gB b1 b2 s.heap l1 l2).objs.size = s.heap.objs.size + 2 := by rw [Heap.size_push, n1]
  have n3 : (gC b1 b2 s.heap l1 l2).objs.size = s.heap.objs.size + 3 := by rw [Heap.size_push, n2]
  have n4 : (gD b1 b2 s.heap l1 l2).objs.size = s.heap.objs.size + 4 := by rw [Heap.size_push, n3]
  have n5 : (gE b1 b2 s.heap l1 l2).objs.size = s.heap.objs.size + 5 := by rw [Heap.size_push, n4]
  have p5 : (gE b1 b2 s.heap l1 l2).get? (gD b1 b2 s.heap l1 l2).objs.size = some _ := Heap.get?_push_size _ rfl
  have p4 : (gE b1 b2 s.heap l1 l2).get? (gC b1 b2 s.heap l1 l2).objs.size = some _ := Heap.get?_push_of_some _ (Heap.get?_push_size _ rfl)
  have p3 : (gE b1 b2 s.heap l1 l2).get? (gB b1 b2 s.heap l1 l2).objs.size = some _ := Heap.get?_push_of_some _ (Heap.get?_push_of_some _ (Heap.get?_push_size _ rfl))
  have p2 : (gE b1 b2 s.heap l1 l2).get? (gA b1 s.heap l1).objs.size = some _ := Heap.get?_push_of_some _ (Heap.get?_push_of_some _ (Heap.get?_push_of_some _ (Heap.get?_push_size _ rfl)))
  have p1 : (gE b1 b2 s.heap l1 l2).get? s.heap.objs.size = some _ := Heap.get?_push_of_some _ (Heap.get?_push_of_some _ (Heap.get?_push_of_some _ (Heap.get?_push_of_some _ (Heap.get?_push_size _ rfl))))
  show _ ∧ _
  rw [n2, n3, n4] at p5
  rw [n1, n2] at p3
  rw [n3] at p4
  rw [n1] at p2
  rw [n4]
  exact ⟨⟨_, p5, rfl⟩, h _ p5 p3 p4 (itC_at p1) (itC_at p2) n5 fun c o e => Heap.get?_push_of_some _ (Heap.get?_push_of_some _ (Heap.get?_push_of_some _ (Heap.get?_push_of_some _ (Heap.get?_push_of_some _ e))))⟩
end
/-- as list or tuple in the abstract heap -/
def SqV (b : Bool) (K : PySem.W.Frag) (H : Hp) (a : Addr) (xs : List V) : Prop := match b with
  | true => SqL K H a xs
  | false => SqT K H a xs
theorem SqV.get {X : Cx} {pins : List (Addr × Obj)} {σ : St} {H : Hp} {s : Shared} {b : Bool} {a : Addr} {xs : List V} (q : SqV b X.K H a xs) (I : Inv X pins σ H s) : ∃ its, Vals xs its ∧ SqA b s.heap a its.toArray := by
  cases b with
  | true => obtain ⟨its, r, p, _⟩ := I.list q; exact ⟨its, r, p.isList⟩
  | false => obtain ⟨its, r, p, _⟩ := I.tuple q; exact ⟨its, r, p⟩
def ItzA (b1 b2 : Bool) (K : PySem.W.Frag) (a b : Addr) (xs ys : List V) : It :=
  ⟨fun i H => SqV b1 K H a xs ∧ SqV b2 K H b ys ∧ i < xs.length ∧ i < ys.length,
    fun i H v H' => ∃ T x y, v = .ref T ∧ H T = none ∧ H' = upd H T (.tup [x, y]) ∧ xs[i]? = some x ∧ ys[i]? = some y,
    fun i H => SqV b1 K H a xs ∧ SqV b2 K H b ys ∧ (xs.length ≤ i ∨ ys.length ≤ i)⟩
theorem turn_zipM {P : Program} {w : World} {K : PySem.W.Frag} {elts : List Expr} {kk : Nat} {tpos : Pos} {a b z ti to i1 i2 : Addr} {b1 b2 : Bool} {xs ys : List V} (D : ZipApart z ti to i1 i2 a b) :
    Turn P w K (.Tuple elts kk tpos) (ItzA b1 b2 K a b xs ys) [z, ti, to, i1, i2] z (fun i h => IsZip h z ti to .none ∧ IsPair h ti (.ref i1) (.ref i2) ∧ (∃ x y, IsPair h to x y) ∧ ItA b1 h i1 a i ∧ ItA b2 h i2 b i) where
  mem := by simp
  obj := fun i h st c hc => by
    obtain ⟨hz, p1, ⟨x, y, p2⟩, m1, m2⟩ := st
    obtain ⟨o1, e1, d1⟩ := m1.obj
    obtain ⟨o2, e2, d2⟩ := m2.obj
    have e' : c = z ∨ c = ti ∨ c = to ∨ c = i1 ∨ c = i2 := by simpa using hc
    rcases e' with rfl | rfl | rfl | rfl | rfl
    · exact ⟨_, hz, fun v q => nomatch q⟩
    · exact ⟨_, p1, fun v q => nomatch q⟩
    · exact ⟨_, p2, fun v q => nomatch q⟩
    · exact ⟨o1, e1, fun v q => by rw [d1] at q; cases q⟩
    · exact ⟨o2, e2, fun v q => by rw [d2] at q; cases q⟩
  keep := fun i h h' st k => by
    obtain ⟨hz, p1, ⟨x, y, p2⟩, m1, m2⟩ := st
    exact ⟨k z (by simp) _ hz, k ti (by simp) _ p1, ⟨x, y, k to (by simp) _ p2⟩, m1.at fun o q => k i1 (by simp) o q, m2.at fun o q => k i2 (by simp) o q⟩
  item := by
    intro X hP hw hK hc i pins s σ H E I hf st hg
    subst hP hw hK
    obtain ⟨hz, p1, ⟨x0, y0, p2⟩, m1, m2⟩ := st
    obtain ⟨hqx, hqy, l1, l2⟩ := hg
    have hx : xs[i]? = some xs[i] := List.getElem?_eq_getElem l1
    have hy : ys[i]? = some ys[i] := List.getElem?_eq_getElem l2
    obtain ⟨its, rv, t1⟩ := hqx.get I
    obtain ⟨its2, rv2, t2⟩ := hqy.get I
    obtain ⟨u, hu, ru⟩ := rv.get hx
    obtain ⟨u2, hu2, ru2⟩ := rv2.get hy
    have hzl : z < s.heap.objs.size := Heap.lt_size hz
    refine nextZ_item D hz p1 p2 m1 m2 t1 t2 (x := u) (y := u2) (by simpa using hu) (by simpa using hu2) fun h' z' to' m1' m2' hT hsz hk => ?_
    refine ⟨_, rfl, wpAny_letOwnedTupleGo_zip (s := { s with heap := h' }) z' fun h'' z'' sb => ?_⟩
    have hT2 : h''.get? s.heap.objs.size = some { cls := .type "tuple", data := .seq #[u, u2] } := (sb.2 _ (Nat.ne_of_gt hzl)).trans hT
    have new : ObjOk X.prog X.w (upd H s.heap.objs.size (.tup [xs[i], ys[i]])) h'' s.heap.objs.size (.tup [xs[i], ys[i]]) := ⟨by show 2 ≤ sizeLine; decide, [u, u2], .cons ru (.cons ru2 .nil), ⟨_, hT2, rfl, _, rfl⟩⟩
    have I1 : Inv X pins σ (upd H s.heap.objs.size (.tup [xs[i], ys[i]])) { s with heap := h'' } :=
      I.turnedNew (t' := s.toks) (ch := [z, ti, to, i1, i2]) (fun c o hb q => by
        simp only [List.mem_cons, List.not_mem_nil, or_false, not_or] at hb
        exact (sb.2 c hb.1).trans (hk c o hb.1 hb.2.2.1 hb.2.2.2.1 hb.2.2.2.2 q)) hf (Nat.le_refl _) new
    refine ⟨.ref s.heap.objs.size, _, I1, rfl, ⟨_, xs[i], ys[i], rfl, I.hok.fresh (Nat.le_refl _), rfl, hx, hy⟩, ⟨z'', (sb.2 _ D.TIz).trans (hk _ _ D.TIz D.TITO D.TIi1 D.TIi2 p1), ⟨u, u2, (sb.2 _ D.TOz).trans to'⟩, m1'.at fun o q => (sb.2 _ D.i1z).trans q, m2'.at fun o q => (sb.2 _ D.i2z).trans q⟩, fun c hcm => ?_⟩
    have hlt : c < s.heap.objs.size := by
      have e' : c = z ∨ c = ti ∨ c = to ∨ c = i1 ∨ c = i2 := by simpa using hcm
      rcases e' with rfl | rfl | rfl | rfl | rfl
      · exact hzl
      · exact Heap.lt_size p1
      · exact Heap.lt_size p2
      · obtain ⟨_, e1, _⟩ := m1.obj; exact Heap.lt_size e1
      · obtain ⟨_, e2, _⟩ := m2.obj; exact Heap.lt_size e2
    rw [upd_ne (Nat.ne_of_lt hlt)]
    exact (hf c hcm).1
  done := by
    intro X hP hw hK hc i pins s σ H E I hf st hg
    subst hP hw hK
    obtain ⟨hz, p1, ⟨x0, y0, p2⟩, m1, m2⟩ := st
    obtain ⟨hqx, hqy, hend⟩ := hg
    obtain ⟨its, rv, t1⟩ := hqx.get I
    obtain ⟨its2, rv2, t2⟩ := hqy.get I
    have e1 := rv.length
    have e2 := rv2.length
    have he : its.toArray[i]? = none ∨ its2.toArray[i]? = none := by
      rcases hend with q | q
      · exact .inl (by simp; omega)
      · exact .inr (by simp; omega)
    exact nextZ_end (I.ok.hd hc) D hz p1 p2 m1 m2 t1 t2 he fun h' hk => ⟨rfl, I.turnedL (t' := s.toks) (ch := [z, ti, to, i1, i2]) (fun c o hb q => by
      simp only [List.mem_cons, List.not_mem_nil, or_false, not_or] at hb
      exact hk c o hb.1 hb.2.2.1 hb.2.2.2.1 hb.2.2.2.2 q) hf⟩
  self := fun A i s Q E st h => wpAny_pyIter_zip st.1 h
def iZipM (K : PySem.W.Frag) (ta : TA) : TI := fun σ H R => ta σ H fun vs H1 => ∃ b1 b2 a b xs ys, vs = [.ref a, .ref b] ∧ SqV b1 K H1 a xs ∧ SqV b2 K H1 b ys ∧ R (ItzA b1 b2 K a b xs ys) H1
theorem pi_zipM {X : Cx} {e e2 : Expr} {ta : TA} {p pos tpos : Pos} {elts : List Expr} {kk : Nat} (hg : Gl X "zip") (hm : X.mg "zip" = none) (ha : PA X [e, e2] ta)
    (hs : starEach [e, e2] X.env = (false, eval e X.env) :: starEach [e2] X.env) (hpl : (backTo pos (starEach [e2] X.env)).any (·.1) = false) :
    PI X (.Tuple elts kk tpos) (.Call (.Name "zip" p) [e, e2] [] pos) (iZipM X.K ta) := by
  refine ⟨fun pins s σ H R I h => ?_⟩
  refine Call_ (ld_blt I hg hm PyProof.Rows.boot_zip (PyProof.Rows.callWith_type1 (thn (ha.run pos pins s σ H _ I h) fun us s1 ⟨vs, H1, I1, r1, q1⟩ => ?_) hs hpl))
  obtain ⟨b1, b2, a, b, xs, ys, ex, hqx, hqy, q⟩ := q1
  subst ex
  cases r1 with
  | cons r rr =>
    cases rr with
    | cons r' rr =>
      cases rr
      cases r
      cases r'
      obtain ⟨its, rv, t1⟩ := hqx.get I1
      obtain ⟨its2, rv2, t2⟩ := hqy.get I1
      have la : a < s1.heap.objs.size := t1.lt
      have lb : b < s1.heap.objs.size := t2.lt
      refine zipA_call t1 t2 fun h' hz p1 p2 m1 m2 hsz hk => wpAny_pyIter_zip hz ?_
      have I2 : Inv X pins σ H1 { s1 with heap := h' } := I1.kept (t' := s1.toks) hk
      refine ⟨s1.heap.objs.size + 4, [s1.heap.objs.size + 4, s1.heap.objs.size + 2, s1.heap.objs.size + 3, s1.heap.objs.size, s1.heap.objs.size + 1], _, _, H1, rfl, I2, turn_zipM (PySem.W.ktu_apart s1.heap.objs.size a b la lb), ⟨hz, p1, ⟨_, _, p2⟩, m1, m2⟩, fun c hcm => ?_, q⟩
      have e' : c = s1.heap.objs.size + 4 ∨ c = s1.heap.objs.size + 2 ∨ c = s1.heap.objs.size + 3 ∨ c = s1.heap.objs.size ∨ c = s1.heap.objs.size + 1 := by simpa using hcm
      have hge : s1.heap.objs.size ≤ c := by
        rcases e' with rfl | rfl | rfl | rfl | rfl
        · exact Nat.le_add_right _ _
        · exact Nat.le_add_right _ _
        · exact Nat.le_add_right _ _
        · exact Nat.le_refl _
        · exact Nat.le_add_right _ _
      exact I1.fpOk hge (I1.hok.fresh hge)
end Zy
set_option maxHeartbeats 2000000
namespace Zy
open PySem PySem.Spec PyProof.Rows L2
section
variable {F : Fr} {W : WX} {ph ph' : List Addr} {M M' : Sto} {env env' : Ev} {σ σ' : St} {H H' : Hp} {v : V} {d : D} {ds es : List D}
theorem RlB'.fwd (S : Sim F ph M env σ H) (f : Fwd ph H ph' H') (r : RlB' F (gh F ph env σ) H v d) : RlB' F (gh F ph' env σ) H' v d := by
  rcases r with r | ⟨a, e, n, c, o⟩
  · exact .inl (r.mo (f.mo S))
  · exact .inr ⟨a, e, n, c.mo (f.mo S) fun o h => f.keep a o h (S.n0 a n).2, o⟩
/-- which kind -/
theorem seq_kind (S : Sim F ph M env σ H) (r : RlB' F (gh F ph env σ) H v d) (e : itemsD d = some ds) :
    ∃ b a xs, v = .ref a ∧ SqV b F.K H a xs ∧ (∀ F' ph2 M2 env2 σ2 H2, FrEx F F' H → Sim F' ph2 M2 env2 σ2 H2 → Fws F ph env σ H ph2 env2 σ2 H2 → SqV b F.K H2 a xs) ∧ RepL (gh F ph env σ) H xs ds := by
  obtain ⟨a, xs, rfl, hq, rr⟩ := seq_stay S r e
  rcases hq with ⟨h1, h2⟩ | ⟨h1, h2⟩
  · exact ⟨true, a, xs, rfl, h1, h2, rr⟩
  · exact ⟨false, a, xs, rfl, h1, h2, rr⟩
def zipD (ds es : List D) : List D := (ds.zip es).map fun p => .tup [p.1, p.2]
theorem zipD_at {i : Nat} {c : D} (h : (zipD ds es)[i]? = some c) : ∃ x y, ds[i]? = some x ∧ es[i]? = some y ∧ c = .tup [x, y] := by
  unfold zipD at h
  rw [List.getElem?_map] at h
  cases q : (ds.zip es)[i]? with
  | none => rw [q] at h; cases h
  | some p =>
    rw [q] at h
    cases h
    obtain ⟨x, y⟩ := p
    rw [List.getElem?_zip_eq_some] at q
    exact ⟨x, y, q.1, q.2, rfl⟩
theorem zipD_len : (zipD ds es).length = min ds.length es.length := by
  unfold zipD
  rw [List.length_map, List.length_zip]
theorem itok_zip {b1 b2 : Bool} {a b : Addr} {xs ys : List V} (rx : RepL (gh F ph env σ) H xs ds) (ry : RepL (gh F ph env σ) H ys es)
    (sx : ∀ F' ph2 M2 env2 σ2 H2, FrEx F F' H → Sim F' ph2 M2 env2 σ2 H2 → Fws F ph env σ H ph2 env2 σ2 H2 → SqV b1 F.K H2 a xs) (sy : ∀ F' ph2 M2 env2 σ2 H2, FrEx F F' H → Sim F' ph2 M2 env2 σ2 H2 → Fws F ph env σ H ph2 env2 σ2 H2 → SqV b2 F.K H2 b ys) :
    ItOk F ph env σ H (ItzA b1 b2 F.K a b xs ys) (zipD ds es) := by
  intro F' ph2 M2 env2 σ2 H2 fx S2 f
  have q1 := sx F' ph2 M2 env2 σ2 H2 fx S2 f
  have q2 := sy F' ph2 M2 env2 σ2 H2 fx S2 f
  have l1 := rx.length
  have l2 := ry.length
  refine ⟨⟨q1, q2, by rw [zipD_len, ← l1, ← l2]; omega⟩, fun i c hc => ?_⟩
  obtain ⟨x, y, e1, e2, rfl⟩ := zipD_at hc
  have k1 := (List.getElem?_eq_some_iff.mp e1).1
  have k2 := (List.getElem?_eq_some_iff.mp e2).1
  refine ⟨⟨q1, q2, by omega, by omega⟩, fun w H3 hy => ?_⟩
  obtain ⟨T, u, u', rfl, hT, rfl, ex, ey⟩ := hy
  have g : Fwd ph2 H2 ph2 (upd H2 T (.tup [u, u'])) := Fwd.alloc hT
  have m := g.mo S2
  obtain ⟨v1, p1, r1⟩ := (RepL.mo (f.moX fx) rx).at e1
  obtain ⟨v2, p2, r2⟩ := (RepL.mo (f.moX fx) ry).at e2
  rw [ex] at p1
  rw [ey] at p2
  cases p1
  cases p2
  exact ⟨S2.alloc hT, g, .tup upd_same (S2.fresh hT) (.cons (r1.mo m) (.cons (r2.mo m) .nil))⟩
end
section
variable {X : Cx} {W : WX} {cl : String → Option Addr} {a b e : Expr} {za zb z : ZX} {zr : ZR} {p pos tpos : Pos} {elts : List Expr} {kk : Nat} {tg : Expr}
def zZip (za zb : ZX) : ZL := fun env M => (za env M).bind fun d M1 => (zb env M1).bind fun e M2 => match itemsD d, itemsD e with
  | some ds, some es => .ok (zipD ds es) M2
  | _, _ => .fail
theorem zi_zip (hg : Gl X "zip") (hm : X.mg "zip" = none) (ha : ZBm X W cl a za) (hb : ZBm X W cl b zb) (hs : nostar a = true) (hs2 : nostar b = true) : Zi X W cl (.Tuple elts kk tpos) (.Call (.Name "zip" p) [a, b] [] pos) (zZip za zb) := by
  obtain ⟨ta, pa, qa⟩ := ha.ex
  obtain ⟨tb, pb, qb⟩ := hb.ex
  refine ⟨_, pi_zipM hg hm (pa_cons pa (pa_cons pb pa_nil (star_ok hs2)) (star_ok hs)) (star_ok hs) (backTo_two hs2), fun F ph M env σ H R h1 h2 S P => ?_⟩
  refine qa F ph M env σ H _ h1 h2 S (Post.step P fun d M1 ph1 H1 v S1 f1 r1 P1 => ?_)
  refine qb F ph1 M1 env σ H1 _ h1 h2 S1 (Post.step P1 fun e M2 ph2 H2 w S2 f2 r2 P2 => ?_)
  have r1' := RlB'.fwd S1 f2 r1
  split at P2
  · rename_i ds es e1 e2
    obtain ⟨b1, x, xs, rfl, q1, s1, rx⟩ := seq_kind S2 r1' e1
    obtain ⟨b2, y, ys, rfl, q2, s2, ry⟩ := seq_kind S2 r2 e2
    rw [h2] at q1 q2
    refine ⟨b1, b2, x, y, xs, ys, rfl, q1, q2, P2.now S2 ?_⟩
    have io := itok_zip rx ry s1 s2
    rw [h2] at io
    exact io
  · exact P2.elim
/-- reversed(range(..)) -/
def zRevR (z : ZR) : ZL := fun env M => (z env M).bind fun p M1 => if -(2 ^ 62) ≤ p.1 ∧ p.1 < 2 ^ 62 ∧ -(2 ^ 62) ≤ p.2 ∧ p.2 < 2 ^ 62 then .ok (stpD (p.1 + (((p.2 - p.1).toNat : Nat) : Int) - 1) (-1) (p.2 - p.1).toNat) M1 else .fail
theorem zi_revR (hg : Gl X "reversed") (hm : X.mg "reversed" = none) (he : ZRg X W cl e zr) (n : nostar e = true) : Zi X W cl tg (.Call (.Name "reversed" p) [e] [] pos) (zRevR zr) := by
  obtain ⟨t, pa, q⟩ := he.ex
  refine ⟨_, pi_revR hg hm pa (star_ok n), fun F ph M env σ H R h1 h2 S P => q F ph M env σ H _ h1 h2 S (Post.step P fun d M1 ph1 H1 w S1 f1 r1 P1 => ?_)⟩
  cases (show w = d from r1)
  split at P1
  · rename_i c
    exact ⟨c.1, c.2.1, c.2.2.1, c.2.2.2, P1.now S1 (itok_fn walk_rangeC)⟩
  · exact P1.elim
/-- reversed(xs) -/
def zRev (z : ZX) : ZL := fun env M => (z env M).bind fun d M1 => match itemsD d with
  | some ds => .ok ds.reverse M1
  | none => .fail
theorem walk_revT {K : PySem.W.Frag} {y : Addr} {xs : List V} : Walk (RT.ItvT K y xs.length) xs.length (fun H => SqT K H y xs) (fun i H x H' => H' = H ∧ xs[xs.length - 1 - i]? = some x) :=
  ⟨fun i _ hi q => ⟨hi, xs, xs[xs.length - 1 - i]'(by omega), q, by simp [show xs.length - 1 - i < xs.length by omega]⟩, fun _ _ => Nat.le_refl _, fun _ _ _ _ _ q y => ⟨y.1, y.2 xs q⟩⟩
theorem itok_rev {F : Fr} {ph : List Addr} {env : Ev} {σ : St} {H : Hp} {J : It} {xs : List V} {ds : List D} {G : Hp → Prop} (w : Walk J xs.length G (fun i H x H' => H' = H ∧ xs[xs.length - 1 - i]? = some x)) (r : RepL (gh F ph env σ) H xs ds)
    (st : ∀ F' ph2 M2 env2 σ2 H2, FrEx F F' H → Sim F' ph2 M2 env2 σ2 H2 → Fws F ph env σ H ph2 env2 σ2 H2 → G H2) : ItOk F ph env σ H J ds.reverse := by
  intro F' ph2 M2 env2 σ2 H2 fx S2 f
  have g := st F' ph2 M2 env2 σ2 H2 fx S2 f
  have hl := r.length
  refine ⟨by rw [List.length_reverse, ← hl]; exact w.stops H2 g, fun i d e => ?_⟩
  have hi : i < ds.length := by
    have := (List.getElem?_eq_some_iff.mp e).1
    rwa [List.length_reverse] at this
  rw [List.getElem?_reverse hi] at e
  refine ⟨w.goes i H2 (by omega) g, fun x H3 hy => ?_⟩
  obtain ⟨rfl, ex⟩ := w.yields i H2 x H3 (by omega) g hy
  obtain ⟨u, e2, r2⟩ := (RepL.mo (f.moX fx) r).at e
  rw [hl] at ex
  rw [ex] at e2
  cases e2
  exact ⟨S2, Fwd.refl, r2⟩
theorem zi_rev (hg : Gl X "reversed") (hm : X.mg "reversed" = none) (he : ZBm X W cl e z) (n : nostar e = true) : Zi X W cl tg (.Call (.Name "reversed" p) [e] [] pos) (zRev z) := by
  obtain ⟨t, pa, q⟩ := he.ex
  refine ⟨_, RT.pi_revA hg hm pa (star_ok n), fun F ph M env σ H R h1 h2 S P => q F ph M env σ H _ h1 h2 S (Post.step P fun d M1 ph1 H1 w S1 f1 r1 P1 => ?_)⟩
  cases e1 : itemsD d with
  | none => rw [e1] at P1; exact P1.elim
  | some ds =>
    rw [e1] at P1
    obtain ⟨y, xs, rfl, hq, rr⟩ := seq_stay S1 r1 e1
    rw [h2] at hq
    rcases hq with ⟨hq, st⟩ | ⟨hq, st⟩
    · exact ⟨y, xs, rfl, .inl ⟨hq, P1.now S1 (itok_rev walk_rev rr st)⟩⟩
    · exact ⟨y, xs, rfl, .inr ⟨hq, P1.now S1 (itok_rev walk_revT rr st)⟩⟩
theorem lst_stay {F : Fr} {ph : List Addr} {M : Sto} {env : Ev} {σ : St} {H : Hp} {v : V} {ds : List D} (S : Sim F ph M env σ H) (r : RlB' F (gh F ph env σ) H v (.lst ds)) :
    ∃ a xs, v = .ref a ∧ SqL F.K H a xs ∧ (∀ F' ph2 M2 env2 σ2 H2, FrEx F F' H → Sim F' ph2 M2 env2 σ2 H2 → Fws F ph env σ H ph2 env2 σ2 H2 → SqL F.K H2 a xs) ∧ RepL (gh F ph env σ) H xs ds := by
  rcases r with r | ⟨a, rfl, n, c, o, ho⟩
  · cases r with
    | lst h n r => exact ⟨_, _, rfl, SqL.of h, fun F' ph2 M2 env2 σ2 H2 _ S2 f => SqL.of (f.keep _ _ h n), r⟩
  · cases c with
    | lst h r =>
      have na : ∀ {F' ph2 M2 env2 σ2 H2}, FrEx F F' H → Sim F' ph2 M2 env2 σ2 H2 → H2 a = some o := fun {F' ph2 M2 env2 σ2 H2} x S2 => S2.keep a o (by rw [x.H0]; exact ho) fun z => by
        obtain ⟨ps, e1, _⟩ := S2.pre
        exact (S2.n0 a (x.up a n)).2 (by rw [e1]; exact List.mem_append_left _ z)
      have h' := na FrEx.refl S
      rw [h] at h'
      cases h'
      exact ⟨_, _, rfl, SqL.of h, fun F' ph2 M2 env2 σ2 H2 x S2 f => SqL.of (na x S2), r⟩
/-- enumerate(xs), xs a list -/
def enumD (ds : List D) : List D := zipD (stpD 0 1 ds.length) ds
def zEnum (z : ZX) : ZL := fun env M => (z env M).bind fun d M1 => match d with
  | .lst ds => .ok (enumD ds) M1
  | _ => .fail
theorem enumD_at {ds : List D} {i : Nat} {c : D} (h : (enumD ds)[i]? = some c) : ∃ y, ds[i]? = some y ∧ c = .tup [.int (i : Nat), y] := by
  obtain ⟨x, y, e1, e2, rfl⟩ := zipD_at h
  obtain ⟨_, rfl⟩ := stpD_at e1
  exact ⟨y, e2, by simp⟩
theorem enumD_len {ds : List D} : (enumD ds).length = ds.length := by
  unfold enumD
  rw [zipD_len]
  simp [stpD]
theorem zi_enum (hg : Gl X "enumerate") (hm : X.mg "enumerate" = none) (he : ZBm X W cl e z) (n : nostar e = true) : Zi X W cl (.Tuple elts kk tpos) (.Call (.Name "enumerate" p) [e] [] pos) (zEnum z) := by
  obtain ⟨t, pa, q⟩ := he.ex
  have hs1 : starEach [e] X.env = [(false, eval e X.env)] := star_ok n
  refine ⟨_, pi_enum hg hm (pa_cons pa pa_nil (star_ok n)) hs1, fun F ph M env σ H R h1 h2 S P => q F ph M env σ H _ h1 h2 S (Post.step P fun d M1 ph1 H1 w S1 f1 r1 P1 => ?_)⟩
  split at P1
  · rename_i ds
    obtain ⟨y, xs, rfl, hq, st, rr⟩ := lst_stay S1 r1
    rw [h2] at hq st
    refine ⟨y, xs, rfl, hq, P1.now S1 ?_⟩
    intro F' ph2 M2 env2 σ2 H2 fx S2 f
    have g := st F' ph2 M2 env2 σ2 H2 fx S2 f
    have hl := rr.length
    refine ⟨by rw [enumD_len, ← hl]; exact walk_enum.stops H2 g, fun i c hc => ?_⟩
    obtain ⟨c', e2, rfl⟩ := enumD_at hc
    have hi : i < ds.length := (List.getElem?_eq_some_iff.mp e2).1
    refine ⟨walk_enum.goes i H2 (by omega) g, fun x H3 hy => ?_⟩
    obtain ⟨T, u, u', rfl, hT, rfl, ex, ey⟩ := walk_enum.yields i H2 x H3 (by omega) g hy
    have gg : Fwd ph2 H2 ph2 (upd H2 T (.tup [u, u'])) := Fwd.alloc hT
    obtain ⟨v2, p2, r2⟩ := (RepL.mo (f.moX fx) rr).at e2
    have ey' : xs[i]? = some u' := ey
    rw [ey'] at p2
    cases p2
    cases ex
    exact ⟨S2.alloc hT, gg, .tup upd_same (S2.fresh hT) (.cons (.int _) (.cons (r2.mo (gg.mo S2)) .nil))⟩
  · exact P1.elim
end
end Zy
set_option maxHeartbeats 2000000
/-! what the head tells: defs anywhere (a class's methods, a property's getter), and any decided fact of the written part -/
namespace Zy
open PySem PySem.Spec PyProof.Rows L2

abbrev Fg := PySem.W.Frag
/-- the getter behind a property of the class x -/
def propA (x f : Str) (K : Fg) : Addr := match K.lookup (He.ma K (He.ga K x) f) with
  | some ⟨_, _, .fields vs, _⟩ => (match vs.toList with
      | Value.ref g :: _ => g
      | _ => 0)
  | _ => 0
inductive Wh where
  | glo (x : Str) | meth (x m : Str) | prop (x m : Str)
def Wh.adr (K : Fg) : Wh → Addr
  | .glo x => He.ga K x
  | .meth x m => He.ma K (He.ga K x) m
  | .prop x m => propA x m K
/-- a def of the text: where it stands, what it is -/
structure DfZ where
  wh : Wh
  name : Str
  qual : Str
  params : Arguments
  body : List Stmt
  scope : Scope
  dfl : List He.Dv := []
  kwd : List (Str × He.Dv) := []
def DfZ.adr (K : Fg) (d : DfZ) : Addr := d.wh.adr K
def DfZ.dvs (K : Fg) (d : DfZ) : List V := d.dfl.map (He.Dv.v K)
def DfZ.kws (K : Fg) (d : DfZ) : List (Str × V) := d.kwd.map fun q => (q.1, q.2.v K)
def seenZ (K : Fg) (a : Addr) : He.FnW := match K.lookup a with
  | some ob => (match ob.data with
    | .func fd => some (fd.name, fd.qualname, fd.params, fd.body, fd.scope, fd.globals, fd.closure, fd.builtins)
    | _ => none)
  | none => none
def DfZ.saidZ (d : DfZ) : He.FnW := some (d.name, d.qual, d.params, .stmts d.body, d.scope, mainGlobals, [], builtinsNs)
def DfZ.okZ (K : Fg) (d : DfZ) : Bool := PySem.W.keepIn K (.ref (d.adr K)) && match K.lookup (d.adr K) with
  | some ob => (match ob.data with
    | .func fd => PySem.W.codeIn K fd.code d.qual && (He.dflB K fd.defaults (d.dvs K) && He.kwdB K fd.kwdefaults (d.kws K))
    | _ => false)
  | none => false
theorem DfZ.fun_ {K : Fg} {d : DfZ} (e : seenZ K (d.adr K) = d.saidZ) (c : d.okZ K = true) : ∃ fd, FunD K d.name d.qual d.params d.body d.scope (d.dvs K) (d.kws K) (d.adr K) fd := by
  unfold DfZ.okZ at c
  rw [Bool.and_eq_true] at c
  obtain ⟨kp, c⟩ := c
  unfold seenZ DfZ.saidZ at e
  cases q : K.lookup (d.adr K) with
  | none => rw [q] at e; cases e
  | some ob =>
    obtain ⟨oc, od, dt, osl⟩ := ob
    rw [q] at e c
    cases dt with
    | func fd =>
      obtain ⟨m1, m2, m3, m4, m5, m6, m7, m8, m9, m10, m11, m12, m13, m14, m15⟩ := fd
      simp only [Bool.and_eq_true] at c
      simp only [Option.some.injEq, Prod.mk.injEq] at e
      obtain ⟨rfl, rfl, rfl, rfl, rfl, rfl, rfl, rfl⟩ := e
      exact ⟨_, ⟨oc, od, m8, m9, m10, m11, m12, m13, m14, osl, rfl, q, c.1, He.dflB_ok c.2.1, He.kwdB_ok c.2.2⟩, kp⟩
    | _ => cases c
abbrev AlZ : Type := Bool × List He.FnW
def tellZ (fx : Fg → Bool) (fn : List DfZ) (K : Fg) : AlZ := (fx K && fn.all (DfZ.okZ K), fn.map fun d => seenZ K (d.adr K))
def wantZ (fn : List DfZ) : AlZ := (true, fn.map DfZ.saidZ)
def tellG (n : Nat) (fx : Fg → Bool) (fn : List DfZ) (g : Addr → Option Obj) : AlZ := tellZ fx fn (He.frG g (He.asD g n))
def hookZ (n : Nat) (fx : Fg → Bool) (fn : List DfZ) : PySem.W.Hook where
  α := AlZ
  obs := fun s => tellG n fx fn s.heap.get?
  val := fun _ => wantZ fn
  says := fun _ h => ∃ K : Fg, K.In h ∧ tellZ fx fn K = wantZ fn
  of := fun _ _ e => ⟨_, He.frG_in, e⟩
  keeps := fun _ _ _ ⟨K, X, c⟩ k => ⟨K, PySem.W.Frag.In.keeps X k, c⟩
theorem tellG_eq {n : Nat} {fx : Fg → Bool} {fn : List DfZ} {g : Addr → Option Obj} {s : Shared} (h : ∀ a, g a = s.heap.get? a) : tellG n fx fn g = (hookZ n fx fn).obs s := by
  show tellG n fx fn g = tellG n fx fn s.heap.get?
  rw [funext h]
theorem told_fx {fx : Fg → Bool} {fn : List DfZ} {K : Fg} (c : tellZ fx fn K = wantZ fn) : fx K = true := by
  have h := congrArg Prod.fst c
  simp only [tellZ, wantZ, Bool.and_eq_true] at h
  exact h.1
theorem told_fn {fx : Fg → Bool} {fn : List DfZ} {K : Fg} (c : tellZ fx fn K = wantZ fn) {d : DfZ} (hd : d ∈ fn) : ∃ fd, FunD K d.name d.qual d.params d.body d.scope (d.dvs K) (d.kws K) (d.adr K) fd := by
  have h := congrArg Prod.fst c
  have h2 := congrArg Prod.snd c
  simp only [tellZ, wantZ, Bool.and_eq_true, List.all_eq_true] at h
  refine DfZ.fun_ ?_ (h.2 d hd)
  exact List.map_inj_left.mp h2 d hd

/-! classes -/
structure Ci where
  c : String
  name : Str
  ats : List Str
  /-- key, number of positional arguments behind self, keywords, places -/
  make : List (Str × Nat × List Str × List Nat)
  len : Option Str
  props : List (Str × Str)
def eqF (a b : Option (Option Value)) : Bool := decide (a = b)
def clsB (K : Fg) (x : Str) : Bool := PySem.W.plainGet K (He.ga K x) Str.empty && (PySem.W.hasDictIn K (He.ga K x) && (PySem.W.plainOver K (He.ga K x) && eqF (PySem.W.findIn K (.ref (He.ga K x)) "__setattr__") (some (some (.builtin "object.__setattr__")))))
def noatB (K : Fg) (x f : Str) : Bool := eqF (PySem.W.findIn K (.ref (He.ga K x)) f) (some none)
def mkB (K : Fg) (x : Str) : Bool := PySem.W.makesIn K (He.ga K x) && (eqF (PySem.W.findIn K (.ref (He.ga K x)) "__init__") (some (some (.ref (He.ma K (He.ga K x) "__init__")))) && (PySem.W.isFn K (.ref (He.ma K (He.ga K x) "__init__")) && PySem.W.keepIn K (.ref (He.ga K x))))
def insB (K : Fg) (x : Str) : Bool := eqF (PySem.W.findIn K (.ref (He.ga K x)) "__class__") (some (some (.builtin "object.__class__"))) && (eqF (PySem.W.specialIn K (.builtin "object.__class__") "__get__") (some (some (.builtin "getset_descriptor.__get__"))) &&
  (decide (PySem.W.takesIn K (.builtin "object.__class__") = some true) && decide (PySem.W.mroIn K (He.ga K x) (.type "object") = some true)))
/-- what isinstance asks of a class -/
structure InsK (K : Fg) (C : Addr) : Prop where
  kl : Cls K C
  h1 : PySem.W.findIn K (.ref C) "__class__" = some (some (.builtin "object.__class__"))
  h2 : PySem.W.specialIn K (.builtin "object.__class__") "__get__" = some (some (.builtin "getset_descriptor.__get__"))
  h3 : PySem.W.takesIn K (.builtin "object.__class__") = some true
  h4 : PySem.W.mroIn K C (.type "object") = some true
def methB (K : Fg) (x m : Str) : Bool := eqF (PySem.W.findIn K (.ref (He.ga K x)) m) (some (some (.ref (He.ma K (He.ga K x) m)))) && PySem.W.isFn K (.ref (He.ma K (He.ga K x) m))
def propB (K : Fg) (x m : Str) : Bool := eqF (PySem.W.findIn K (.ref (He.ga K x)) m) (some (some (.ref (He.ma K (He.ga K x) m)))) && (eqF (PySem.W.specialIn K (.ref (He.ma K (He.ga K x) m)) "__get__") (some (some (.builtin "property.__get__"))) &&
  (decide (PySem.W.takesIn K (.ref (He.ma K (He.ga K x) m)) = some true) && match PySem.W.recIn K (He.ma K (He.ga K x) m) "property" with
    | some (.ref g :: _) => decide (g = propA x m K)
    | _ => false))
def gloB (K : Fg) (x : Str) : Bool := eqF (PySem.W.nsIn K mainGlobals x) (some (some (.ref (He.ga K x))))
def freeB (K : Fg) (x : Str) : Bool := eqF (PySem.W.nsIn K mainGlobals x) (some none)
def ciB (K : Fg) (c : Ci) : Bool := gloB K c.name && ((clsB K c.name && insB K c.name) && (c.ats.all (noatB K c.name) && (c.make.isEmpty || mkB K c.name) && ((c.len.isNone || methB K c.name "__len__") && c.props.all fun q => propB K c.name q.1)))
section
variable {K : Fg} {h : Heap} {mg : Str → Option Value} {x f m : Str}
theorem eqF_ok {a b : Option (Option Value)} (h : eqF a b = true) : a = b := of_decide_eq_true h
theorem gloB_ok (X : K.In h) (G : h.Ns mainGlobals mg) (c : gloB K x = true) : mg x = some (.ref (He.ga K x)) := PySem.W.mg_of X G (eqF_ok c)
theorem freeB_ok (X : K.In h) (G : h.Ns mainGlobals mg) (c : freeB K x = true) : mg x = none := PySem.W.mg_none_of X G (eqF_ok c)
theorem clsB_ok (c : clsB K x = true) : Cls K (He.ga K x) := by
  simp only [clsB, Bool.and_eq_true] at c
  exact ⟨c.1, c.2.1, c.2.2.1, eqF_ok c.2.2.2⟩
theorem insB_ok (k : Cls K (He.ga K x)) (c : insB K x = true) : InsK K (He.ga K x) := by
  simp only [insB, Bool.and_eq_true, decide_eq_true_eq] at c
  exact ⟨k, eqF_ok c.1, eqF_ok c.2.1, c.2.2.1, c.2.2.2⟩
theorem noatB_ok (c : noatB K x f = true) : NoAttr K (He.ga K x) f := eqF_ok c
theorem mkB_ok (c : mkB K x = true) : Mk K (He.ga K x) (He.ma K (He.ga K x) "__init__") := by
  simp only [mkB, Bool.and_eq_true] at c
  exact ⟨c.1, eqF_ok c.2.1, c.2.2.1, c.2.2.2⟩
theorem methB_ok (c : methB K x m = true) : PySem.W.findIn K (.ref (He.ga K x)) m = some (some (.ref (He.ma K (He.ga K x) m))) ∧ PySem.W.isFn K (.ref (He.ma K (He.ga K x) m)) = true := by
  simp only [methB, Bool.and_eq_true] at c
  exact ⟨eqF_ok c.1, c.2⟩
theorem propB_ok (c : propB K x m = true) : PropOf K (He.ga K x) m (He.ma K (He.ga K x) m) (propA x m K) := by
  simp only [propB, Bool.and_eq_true, decide_eq_true_eq] at c
  obtain ⟨c1, c2, c3, c4⟩ := c
  refine ⟨eqF_ok c1, eqF_ok c2, c3, ?_⟩
  split at c4
  · rename_i g rest e
    rw [of_decide_eq_true c4] at e
    exact ⟨rest, e⟩
  · cases c4
end
end Zy
set_option maxHeartbeats 2000000
namespace Zy
open PySem PySem.Spec PyProof.Rows L2
/-! isinstance of an own class -/
theorem isC_ok {X : Cx} {C : Addr} (k : InsK X.K C) : CallR X (.builtin "isinstance") (fun xs H Q => ∃ y dx ff, xs = [.ref y, .ref C] ∧ H y = some (.ins C dx ff) ∧ Q (.bl true) H) := by
  intro pins s σ H xs us Q I r h
  obtain ⟨y, dx, ff, rfl, hy, q⟩ := h
  obtain ⟨u1, u2, rfl, r1, r2⟩ := vals2 r
  cases r2
  have me : PySem.W.kitOne X.K (.ref C) (.ref C) = some true := if_pos (beq_self_eq_true _)
  exact isinst_ok I r1 (TyOf.ins hy k.kl k.h1 k.h2 k.h3 k.h4) me fun tk => ⟨.bl true, H, I.tok _, rfl, q⟩
def zIsC (n : String) (z : ZX) : ZX := fun env M => (z env M).bind fun d M1 => match deref M1 d with
  | some (.ins c fs) => if c = n then .ok (.bl true) M1 else .fail
  | _ => .fail
section
variable {X : Cx} {W : WX} {cl : String → Option Addr} {a : Expr} {za : ZX} {p p2 pos : Pos}
theorem ze_isC {T : Str} {C : Addr} {n : String} (hg : Gl X "isinstance") (hm : X.mg "isinstance" = none) (hgT : Gl X T) (hmT : X.mg T = some (.ref C)) (hd : (T == ("__debug__" : Str)) = false) (hC : cl n = some C) (k : InsK X.K C)
    (ha : ZC X W cl a za) (hst : nostar a = true) : ZE X W cl (.Call (.Name "isinstance" p) [a, .Name T p2] [] pos) (zIsC n za) := by
  obtain ⟨t, pa, q⟩ := ha.ex
  refine ⟨_, pe_callB (isC_ok k) hg hm (by decide +kernel) (pa_cons pa (pa_cons (pe_glob (v := .ref C) hgT hmT rfl hd) pa_nil) (star_ok hst)) (by decide) (by decide) (star_ok hst) (by rfl), fun F ph M env σ H Q h1 h2 S P => q F ph M env σ H _ h1 h2 S (P.step fun d M1 ph1 H1 v S1 f1 r1 P1 => ?_)⟩
  split at P1
  · rename_i c fs e1
    split at P1
    · rename_i hcn
      subst hcn
      obtain ⟨y, C', dx, ff, rfl, hy, hc, r⟩ := (r1.look S1 e1).ins_inv
      have hc' : cl c = some C' := by rw [← h1]; exact hc
      rw [hC] at hc'
      cases hc'
      exact ⟨y, dx, ff, rfl, hy, P1.now S1 (.bl _)⟩
    · exact P1.elim
  · exact P1.elim
end
end Zy
set_option maxHeartbeats 2000000
namespace Zy
open PySem PySem.Spec PyProof.Rows L2

/-! the text's own meaning -/
structure Pt where
  name : Str
  n : Nat
  ks : List Str
  is : List Nat
  dd : List D
structure Px where
  free : List Str
  pats : List Pt
  cls : List Ci
structure Stt where
  px : Px
  call : Str → Sem1
  N : List Str
  sc : Scope
  owns : List Str
  cels : List Str
def failX : ZX := fun _ _ => .fail
def failL : ZL := fun _ _ => .fail
def failS : ZS := fun _ _ => .fail
def ixOf (N : List Str) (x : Str) : Option Nat := N.findIdx? (· == x)
def isVis (sc : Scope) (x : Str) : Bool := match sc.names.lookup x with
  | some .local | some .cell | some .free => true
  | _ => false
def isGlo (sc : Scope) (x : Str) : Bool := match sc.names.lookup x with
  | some .globalImplicit => true
  | _ => false
def plainN (x : Str) : Bool := !(x == ("__debug__" : Str)) && !(x == ("__classdict__" : Str))
/-- a built-in name that the module leaves alone -/
def Stt.bi (st : Stt) (x : Str) : Bool := isGlo st.sc x && st.px.free.contains x
def slotOf (st : Stt) (x : Str) : Option Nat := if isVis st.sc x && plainN x then ixOf st.N x else none
/-- what the text's classes are -/
def Stt.ci (st : Stt) (c : String) : Option Ci := st.px.cls.find? fun q => decide (q.c = c)
def Stt.ats (st : Stt) : Ats := fun c f => match st.ci c with
  | some q => q.ats.contains f
  | none => false
def Stt.lens (st : Stt) : Lens := fun c => match st.ci c with
  | some q => q.len.map st.call
  | none => none
def Stt.prp (st : Stt) (f : Str) : Lens := fun c => match st.ci c with
  | some q => (q.props.find? fun z => decide (z.1 = f)).map fun z => st.call z.2
  | none => none
def Stt.isPrp (st : Stt) (f : Str) : Bool := st.px.cls.any fun q => q.props.any fun z => decide (z.1 = f)
def atBase : Expr → Bool
  | .Name .. | .Attribute .. | .Subscript .. => true
  | _ => false
def cmpG : CmpOp → Option G2
  | .Eq => some gEq
  | .NotEq => some gNe
  | .Lt => some gLt
  | .LtE => some gLe
  | .Gt => some gGt
  | .GtE => some gGe
  | .Is => some gIs
  | .IsNot => some gIsNot
  | _ => none
def binG : Operator → Option G2
  | .Add => some gAdd
  | .Sub => some gSub
  | .Mult => some gMul
  | .FloorDiv => some gFdiv
  | .Mod => some gMod
  | .Pow => some gPow
  | _ => none
/-- reading a name, or what r makes of it -/
def rdC (st : Stt) (r : Expr → ZX) : Expr → ZX
  | .Name x _ => match slotOf st x with
    | some i => zCv i
    | none => failX
  | e => r e
def rdB (st : Stt) (r : Expr → ZX) : Expr → ZX
  | .Name x _ => match slotOf st x with
    | some i => zBv i
    | none => failX
  | e => r e
def rdS (st : Stt) (r : Expr → ZX) : Expr → ZS1
  | .Name x _ => match slotOf st x with
    | some i => zSv i
    | none => fun _ _ => .fail
  | e => zVl (r e)
def andV (r : Expr → ZX) : List Expr → ZX
  | [] => failX
  | [a] => r a
  | a :: es => zAndV (r a) (andV r es)
def orV (r : Expr → ZX) : List Expr → ZX
  | [] => failX
  | [a] => r a
  | a :: es => zOrV (r a) (orV r es)
def andT (r : Expr → ZB) : List Expr → ZB
  | [] => fun _ _ => .fail
  | [a] => r a
  | a :: es => zAnd (r a) (andT r es)
def orT (r : Expr → ZB) : List Expr → ZB
  | [] => fun _ _ => .fail
  | [a] => r a
  | a :: es => zOr (r a) (orT r es)
def rdA (r : Expr → ZX) : List Expr → ZL
  | [] => zNil
  | e :: es => if nostar e = true then zCons (r e) (rdA r es) else failL
def rdSs (r : Expr → ZS1) : List Expr → ZSl
  | [] => sNil
  | e :: es => if nostar e = true then sCons (r e) (rdSs r es) else fun _ _ => .fail
def rdKs (r : Expr → ZS1) : List Keyword → ZSl
  | [] => sNil
  | k :: ks => sCons (r k.value) (rdKs r ks)
def rdP (r : Expr → ZX) : Option Expr → ZO
  | none => zNoP
  | some e => zPart (r e)
/-- subscripts that are no slices -/
def plainSub : Expr → Bool
  | .Name .. | .Constant (.int _) .. | .BinOp .. | .Call .. | .Subscript .. | .Attribute .. => true
  | .UnaryOp .. => true
  | _ => false
def truE : Expr → Bool
  | .Name .. | .Call .. | .Subscript .. | .Attribute .. => true
  | _ => false
def foldOk : Expr → Bool
  | .Name .. | .Call .. | .Subscript .. | .Attribute .. | .List .. | .Tuple .. | .BinOp .. | .ListComp .. => true
  | _ => false
def tyName (x : Str) : Option String :=
  if x = ("int" : Str) then some "int" else if x = ("bool" : Str) then some "bool" else if x = ("list" : Str) then some "list" else if x = ("tuple" : Str) then some "tuple" else if x = ("str" : Str) then some "str" else if x = ("dict" : Str) then some "dict" else none
def Stt.rng (st : Stt) (r : Expr → ZX) : Expr → Option ZR
  | .Call (.Name x _) [a] [] _ => if x = ("range" : Str) ∧ st.bi x = true ∧ nostar a = true then some (zRg1 (r a)) else none
  | .Call (.Name x _) [a, b] [] _ => if x = ("range" : Str) ∧ st.bi x = true ∧ nostar a = true ∧ nostar b = true then some (zRg2 (r a) (r b)) else none
  | _ => none
/-- a built-in of one argument -/
def bi1 (st : Stt) (r : Expr → ZX) (x : Str) (a : Expr) : ZX :=
  if x = ("len" : Str) then zLen st.lens (rdS st r a) else
  if x = ("int" : Str) then zBf gInt (zCons (rdC st r a) zNil) else
  if x = ("abs" : Str) then zBf gAbs (zCons (rdC st r a) zNil) else
  if x = ("sum" : Str) then zBf gSum (zCons (rdC st r a) zNil) else
  if x = ("max" : Str) then zBf gMax (zCons (rdC st r a) zNil) else
  if x = ("min" : Str) then zBf gMin (zCons (rdC st r a) zNil) else
  if x = ("all" : Str) then zBf gAll (zCons (rdC st r a) zNil) else
  if x = ("any" : Str) then zBf gAny (zCons (rdC st r a) zNil) else
  if x = ("repr" : Str) then zBf gRepr (zCons (rdC st r a) zNil) else
  if x = ("tuple" : Str) then (match st.rng r a with
    | some z => zTupRg z
    | none => zTupOf (rdC st r a)) else
  if x = ("list" : Str) then (match st.rng r a with
    | some z => zLstRg z
    | none => zLstOf (rdC st r a)) else failX
def bi2 (st : Stt) (r : Expr → ZX) (x : Str) (a b : Expr) : ZX :=
  if x = ("max" : Str) then zBf gMax2 (zCons (rdC st r a) (zCons (rdC st r b) zNil)) else
  if x = ("min" : Str) then zBf gMin2 (zCons (rdC st r a) (zCons (rdC st r b) zNil)) else
  if x = ("isinstance" : Str) then (match b with
    | .Name T _ => if st.bi T = true then (match tyName T with
      | some n => zIsi [n] (rdC st r a)
      | none => failX) else (match st.px.cls.find? fun q => decide (q.name = T) with
      | some q => if (isGlo st.sc T && plainN T) = true then zIsC q.c (rdC st r a) else failX
      | none => failX)
    | .Tuple [.Name T _, .Name U _] _ _ => if st.bi T = true ∧ st.bi U = true then (match tyName T, tyName U with
      | some n, some m => zIsi [n, m] (rdC st r a)
      | _, _ => failX) else failX
    | _ => failX) else failX
def kwNames : List Keyword → List Str
  | [] => []
  | k :: ks => match k.arg with
    | some x => x :: kwNames ks
    | none => kwNames ks
/-- a call of a def -/
def usr (st : Stt) (r : Expr → ZX) (x : Str) (es : List Expr) (kws : List Keyword) : ZX :=
  if isGlo st.sc x = true ∧ plainN x = true ∧ es.all nostar = true ∧ kws.all (fun k => k.arg.isSome) = true then
    match st.px.pats.find? fun p => decide (p.name = x) && (decide (p.n = es.length) && decide (p.ks = kwNames kws)) with
    | some p => zCall (st.call x) p.n p.ks.length p.is p.dd (rdSs (rdS st r) es) (rdKs (rdS st r) kws)
    | none => failX
  else failX
/-- a call of a class -/
def mkE (st : Stt) (r : Expr → ZX) (x : Str) (es : List Expr) (kws : List Keyword) : Option ZX :=
  if isGlo st.sc x = true ∧ plainN x = true ∧ es.all nostar = true ∧ kws.all (fun k => k.arg.isSome) = true then
    match st.px.cls.find? fun q => decide (q.name = x) with
    | some c => (match c.make.find? fun p => decide (p.2.1 = es.length) && decide (p.2.2.1 = kwNames kws) with
      | some p => some (zMake c.c (st.call p.1) es.length p.2.2.1.length p.2.2.2 [] (rdSs (rdS st r) es) (rdKs (rdS st r) kws))
      | none => none)
    | none => none
  else none
def isTg : Expr → Bool
  | .Tuple .. => true
  | _ => false
def strOf : Str → Str := id
/-- what is walked by a built-in -/
def rdW (st : Stt) (r : Expr → ZX) (tg : Expr) (x : Str) : List Expr → Option ZL
  | [a] => if nostar a = true then (if x = ("reversed" : Str) then (match st.rng r a with
      | some z => some (zRevR z)
      | none => some (zRev (rdB st r a))) else if x = ("enumerate" : Str) ∧ isTg tg = true then some (zEnum (rdB st r a)) else none) else none
  | [a, b] => if nostar a = true ∧ nostar b = true ∧ x = ("zip" : Str) ∧ isTg tg = true then some (zZip (rdB st r a) (rdB st r b)) else none
  | _ => none
/-- what is iterated -/
def rdI (st : Stt) (r : Expr → ZX) (tg : Expr) : Expr → ZL
  | .Call (.Name x p) es kws pos => if x = ("range" : Str) ∧ st.bi x = true ∧ kws.isEmpty = true then (match es with
      | [a] => if nostar a = true then zRng1 (rdA r [a]) else failL
      | [a, b] => if nostar a = true ∧ nostar b = true then zRng2 (rdA r [a, b]) else failL
      | [a, b, c] => if nostar a = true ∧ nostar b = true ∧ nostar c = true then zRng3 (rdA r [a, b, c]) else failL
      | _ => failL) else if st.bi x = true ∧ kws.isEmpty = true then (match rdW st r tg x es with
      | some z => z
      | none => zSeqI (rdB st r (.Call (.Name x p) es kws pos))) else zSeqI (rdB st r (.Call (.Name x p) es kws pos))
  | e => zSeqI (rdB st r e)
/-- the slots of names -/
def slots (N : List Str) (ok : Str → Bool) : List Expr → Option (List Nat)
  | [] => some []
  | .Name x _ :: es => if ok x = true then (match ixOf N x, slots N ok es with
    | some i, some is => some (i :: is)
    | _, _ => none) else none
  | _ => none
def rdG (N : List Str) (ok : Str → Bool) : Expr → Option (List Nat × ZTg)
  | .Name x _ => if ok x = true then (match ixOf N x with
    | some i => some ([i], tgN i)
    | none => none) else none
  | .Tuple es _ _ => match slots N ok es with
    | some is => some (is, tgT is)
    | none => none
  | _ => none
/-- a comprehension's own names and their slots -/
def ownOf (N : List Str) (scope : Scope) : List (Str × Nat) := scope.names.filterMap fun y => match y.2 with
  | .local | .cell => (ixOf N y.1).map fun i => (y.1, i)
  | _ => none
def okStore (scope : Scope) (sc : Scope) (x : Str) : Bool := match (relS scope sc).names.lookup x with
  | some .local => true
  | some .cell => scope.names.lookup x == some .cell
  | _ => false
def Stt.blk (st : Stt) (scope : Scope) : Stt := { st with sc := relS scope st.sc }
def subset (a b : List Nat) : Bool := a.all b.contains
def ev : Nat → Stt → Expr → ZX × ZB
  | 0, _, _ => (failX, fun _ _ => .fail)
  | n + 1, st, e =>
    let r := fun e => (ev n st e).1
    let t := fun e => (ev n st e).2
    (match e with
    | .Constant .none _ _ => zK .non
    | .Constant (.bool b) _ _ => zK (.bl b)
    | .Constant (.int i) _ _ => zK (.int i)
    | .Constant (.str s) _ _ => zK (.str s)
    | .Name x _ => match slotOf st x with
      | some i => zVar i
      | none => failX
    | .BinOp a op b _ => match binG op with
      | some g => zOp g (rdC st r a) (rdC st r b)
      | none => failX
    | .UnaryOp .USub a _ => zNeg (r a)
    | .UnaryOp .Not a _ => zNotV (r a)
    | .Compare a [o] [b] _ => match cmpG o with
      | some g => zOp g (rdC st r a) (rdC st r b)
      | none => failX
    | .Compare a [o, o'] [b, c] _ => match cmpG o, cmpG o' with
      | some g, some g' => zCh g g' (rdC st r a) (rdC st r b) (rdC st r c)
      | _, _ => failX
    | .BoolOp .And es _ => andV r es
    | .BoolOp .Or es _ => orV r es
    | .IfExp c a b _ => zIf (t c) (r a) (r b)
    | .Tuple es _ _ => zTup (rdA r es)
    | .List es _ => zLst (rdA r es)
    | .Subscript a (.Slice lo hi none _) _ => zSl (rdC st r a) (rdP r lo) (rdP r hi)
    | .Subscript a (.Slice none none (some (.UnaryOp .USub (.Constant (.int 1) _ _) _)) _) _ => zRv (rdC st r a)
    | .Subscript a b _ => if plainSub b = true then zOp gIx (rdC st r a) (rdC st r b) else failX
    | .ListComp elt [⟨tg, iter, ifs, 0⟩] scope _ => match rdG st.N (okStore scope st.sc) tg with
      | some (is, gz) => if blkC st.N st.sc scope (ownOf st.N scope) = true ∧ subset is ((ownOf st.N scope).map (·.2)) = true ∧ foldOk iter = true then
          (match ifs with
          | [] => zLc (rdI st r tg iter) gz (fun _ M => .ok true M) (ev n (st.blk scope) elt).1 ((ownOf st.N scope).map (·.2))
          | [c] => zLc (rdI st r tg iter) gz (ev n (st.blk scope) c).2 (ev n (st.blk scope) elt).1 ((ownOf st.N scope).map (·.2))
          | _ => failX) else failX
      | none => failX
    | .Call (.Name x _) es kws _ => if st.bi x = true then (match es, kws with
        | [a], [] => if nostar a = true then bi1 st r x a else failX
        | [a, b], [] => if nostar a = true ∧ nostar b = true then bi2 st r x a b else failX
        | _, _ => failX) else (match mkE st r x es kws with
        | some z => z
        | none => usr st r x es kws)
    | .Attribute a f _ => if atBase a = true then (if st.isPrp f = true then zProp (st.prp f) (rdS st r a) else zAt st.ats f (rdC st r a)) else failX
    | .Call (.Attribute (.Name x _) m p2) [b] [] p3 => match slotOf st x with
      | some i => if m = ("index" : Str) ∧ nostar b = true ∧ (p2.endLine == p3.line) = true then zIdx (zCv i) (r b) else failX
      | none => failX
    | _ => failX,
    match e with
    | .Compare a [o] [b] _ => match cmpG o with
      | some g => zTst (zOp g (rdC st r a) (rdC st r b))
      | none => fun _ _ => .fail
    | .Compare a [o, o'] [b, c] _ => match cmpG o, cmpG o' with
      | some g, some g' => zTst (zCh g g' (rdC st r a) (rdC st r b) (rdC st r c))
      | _, _ => fun _ _ => .fail
    | .BoolOp .And es _ => andT t es
    | .BoolOp .Or es _ => orT t es
    | .UnaryOp .Not a _ => zNot (t a)
    | e => if truE e = true then zTru (rdC st r e) else fun _ _ => .fail)
end Zy
set_option maxHeartbeats 4000000
namespace Zy
open PySem PySem.Spec PyProof.Rows L2

structure ClsAt (P : Program) (w : World) (K : PySem.W.Frag) (mg : Str → Option Value) (base : Heap) (cl : String → Option Addr) (k : Nat) (call : Str → Sem1) (c : Ci) : Prop where
  ex : ∃ C, cl c.c = some C ∧ mg c.name = some (.ref C) ∧ Cls K C ∧ (∀ f ∈ c.ats, NoAttr K C f) ∧
    (∀ p ∈ c.make, ∃ f fd ps, Mk K C f ∧ Pat K fd ps (p.2.1 + 1) p.2.2.1 p.2.2.2 [] ∧ FnG P w K mg base (L2.CX P w) k f fd ps (spZ cl K ps.length (call p.1))) ∧
    (∀ m, c.len = some m → ∃ f fd ps, PySem.W.findIn K (.ref C) "__len__" = some (some (.ref f)) ∧ PySem.W.isFn K (.ref f) = true ∧ Pat K fd ps 1 [] [0] [] ∧ FnG P w K mg base (L2.CX P w) k f fd ps (spZ cl K ps.length (call m))) ∧
    (∀ z ∈ c.props, ∃ p g fd ps, PropOf K C z.1 p g ∧ Pat K fd ps 1 [] [0] [] ∧ FnG P w K mg base (L2.CX P w) k g fd ps (spZ cl K ps.length (call z.2)))
  ik : ∀ C, cl c.c = some C → InsK K C
structure Tab (P : Program) (w : World) (K : PySem.W.Frag) (mg : Str → Option Value) (base : Heap) (cl : String → Option Addr) (k : Nat) (px : Px) (call : Str → Sem1) : Prop where
  free : ∀ x, x ∈ px.free → mg x = none
  fn : ∀ p, p ∈ px.pats → ∃ f fd ps, mg p.name = some (.ref f) ∧ PySem.W.keepIn K (.ref f) = true ∧ Pat K fd ps p.n p.ks p.is p.dd ∧ FnG P w K mg base (L2.CX P w) k f fd ps (spZ cl K ps.length (call p.name))
  cls : ∀ c ∈ px.cls, ClsAt P w K mg base cl k call c
structure Ct (X : Cx) (W : WX) (cl : String → Option Addr) (k : Nat) (st : Stt) : Prop where
  N : X.N = st.N
  sc : X.env.scope = st.sc
  calm : X.calm = true
  nd : st.N.Nodup
  tk : Takes X W
  room : Room (k + 1) X.A
  gd : X.A.guards = some []
  tab : Tab X.prog X.w X.K X.mg X.base cl k st.px st.call
  kind : st.sc.kind = .function
section
variable {X : Cx} {W : WX} {cl : String → Option Addr} {k : Nat} {st : Stt} {e a b : Expr} {es : List Expr} {r : Expr → ZX} {t : Expr → ZB} {x : Str} {i : Nat}
theorem ze_fail : ZE X W cl e failX := ⟨fun _ _ _ => False, ⟨fun _ _ _ _ _ _ h => h.elim⟩, fun F ph M env σ H Q _ _ S P => P⟩
theorem zt_fail : ZT X W cl e fun _ _ => .fail := ⟨fun _ _ _ => False, ⟨fun _ _ _ _ _ _ h => h.elim⟩, fun F ph M env σ H Q _ _ S P => P⟩
theorem za_fail : ZA X W cl es failL := ⟨fun _ _ _ => False, ⟨fun _ _ _ _ _ _ _ h => h.elim⟩, fun F ph M env σ H Q _ _ S P => P⟩
theorem zsa_fail : ZSa X W cl es fun _ _ => .fail := ⟨fun _ _ _ => False, ⟨fun _ _ _ _ _ _ _ h => h.elim⟩, fun F ph M env σ H Q _ _ S P => P⟩
theorem zi_fail {tg : Expr} : Zi X W cl tg e failL := ⟨fun _ _ _ => False, ⟨fun _ _ _ _ _ _ h => h.elim⟩, fun F ph M env σ H Q _ _ S P => P⟩
theorem zs1_fail : ZS1j X W cl e fun _ _ => .fail := ⟨fun _ _ _ => False, ⟨fun _ _ _ _ _ _ h => h.elim⟩, fun F ph M env σ H Q _ _ S P => P⟩
theorem ixOf_at {N : List Str} {x : Str} {i : Nat} (h : ixOf N x = some i) : N[i]? = some x := by
  obtain ⟨hi, h1, _⟩ := List.findIdx?_eq_some_iff_getElem.mp h
  rw [List.getElem?_eq_getElem hi]
  exact congrArg some (eq_of_beq h1)
theorem isVis_ok {sc : Scope} (h : isVis sc x = true) : Vis sc x := by
  unfold isVis at h
  unfold Vis
  split at h <;> simp_all
theorem isGlo_ok (c : Ct X W cl k st) (h : isGlo st.sc x = true) : Gl X x := by
  unfold isGlo at h
  unfold Gl
  show X.env.scope.names.lookup x = _
  rw [c.sc]
  split at h <;> simp_all
theorem plainN_ok (h : plainN x = true) : (x == ("__debug__" : Str)) = false ∧ (x == ("__classdict__" : Str)) = false := by
  unfold plainN at h
  simpa using h
theorem slotOf_ok (c : Ct X W cl k st) (h : slotOf st x = some i) : X.N[i]? = some x ∧ Vis X.env.scope x ∧ (x == ("__debug__" : Str)) = false ∧ (x == ("__classdict__" : Str)) = false := by
  unfold slotOf at h
  split at h
  · rename_i hc
    simp only [Bool.and_eq_true] at hc
    rw [c.N, c.sc]
    exact ⟨ixOf_at h, isVis_ok hc.1, plainN_ok hc.2⟩
  · cases h
theorem bi_ok (c : Ct X W cl k st) (h : st.bi x = true) : Gl X x ∧ X.mg x = none := by
  unfold Stt.bi at h
  simp only [Bool.and_eq_true] at h
  exact ⟨isGlo_ok c h.1, c.tab.free x (by simpa using h.2)⟩
theorem rdC_ok (c : Ct X W cl k st) (hr : ∀ e, ZE X W cl e (r e)) : ∀ e, ZC X W cl e (rdC st r e) := by
  intro e
  unfold rdC
  split
  · rename_i x p
    split
    · rename_i i h
      obtain ⟨h1, h2, h3, h4⟩ := slotOf_ok c h
      exact zc_var h1 h2 h3 h4
    · exact ze_fail.toC
  · exact (hr _).toC
theorem rdB_ok (c : Ct X W cl k st) (hr : ∀ e, ZE X W cl e (r e)) : ∀ e, ZBm X W cl e (rdB st r e) := by
  intro e
  unfold rdB
  split
  · split
    · rename_i i h
      obtain ⟨h1, h2, h3, h4⟩ := slotOf_ok c h
      exact zbm_var h1 h2 h3 h4
    · exact ze_fail.toB
  · exact (hr _).toB
theorem rdS_ok (c : Ct X W cl k st) (hr : ∀ e, ZE X W cl e (r e)) : ∀ e, ZS1j X W cl e (rdS st r e) := by
  intro e
  unfold rdS
  split
  · split
    · rename_i i h
      obtain ⟨h1, h2, h3, h4⟩ := slotOf_ok c h
      exact zs1_var h1 h2 h3 h4
    · exact zs1_fail
  · exact (hr _).to1
theorem andV_ok {pos : Pos} (hr : ∀ e, ZE X W cl e (r e)) : ∀ es, ZE X W cl (.BoolOp .And es pos) (andV r es)
  | [] => ze_fail
  | [a] => ze_one (hr a)
  | a :: b :: es => ze_and (hr a) (andV_ok hr (b :: es))
theorem orV_ok {pos : Pos} (hr : ∀ e, ZE X W cl e (r e)) : ∀ es, ZE X W cl (.BoolOp .Or es pos) (orV r es)
  | [] => ze_fail
  | [a] => ze_one (hr a)
  | a :: b :: es => ze_or (hr a) (orV_ok hr (b :: es))
theorem zw_fail : ZW X W cl e fun _ _ => .fail := ⟨fun _ _ _ => False, ⟨fun _ _ _ _ _ _ _ h => h.elim⟩, fun F ph M env σ H Q _ _ S P => P⟩
theorem andT_ok {pos : Pos} (ht : ∀ e, ZT X W cl e (t e)) : ∀ es, ZW X W cl (.BoolOp .And es pos) (andT t es)
  | [] => zw_fail
  | [a] => zw_and1 (ht a)
  | a :: b :: es => zw_and (ht a) (andT_ok ht (b :: es))
theorem orT_ok {pos : Pos} (ht : ∀ e, ZT X W cl e (t e)) : ∀ es, ZW X W cl (.BoolOp .Or es pos) (orT t es)
  | [] => zw_fail
  | [a] => zw_or1 (ht a)
  | a :: b :: es => zw_or (ht a) (orT_ok ht (b :: es))
theorem rdA_ok (hr : ∀ e, ZE X W cl e (r e)) : ∀ es, ZA X W cl es (rdA r es)
  | [] => za_nil
  | e :: es => by
    unfold rdA
    split
    · rename_i h
      exact za_cons (hr e) (rdA_ok hr es) h
    · exact za_fail
theorem rdSs_ok {r : Expr → ZS1} (hr : ∀ e, ZS1j X W cl e (r e)) : ∀ es, ZSa X W cl es (rdSs r es)
  | [] => zsa_nil
  | e :: es => by
    unfold rdSs
    split
    · rename_i h
      exact zsa_cons (hr e) (rdSs_ok hr es) h
    · exact zsa_fail
theorem rdKs_ok {r : Expr → ZS1} (hr : ∀ e, ZS1j X W cl e (r e)) : ∀ ks, ZSk X W cl ks (rdKs r ks)
  | [] => zsk_nil
  | ⟨nm, e, p⟩ :: ks => zsk_cons (hr e) (rdKs_ok hr ks)
theorem rdP_ok (hr : ∀ e, ZE X W cl e (r e)) : ∀ o, ZP X W cl o (rdP r o)
  | none => zp_none
  | some e => zp_some (hr e)
theorem plainSub_ok (h : plainSub b = true) : PlainIx b := by
  cases b with
  | Constant c k p => cases c <;> first | exact fun _ _ => rfl | cases h
  | _ => first | exact fun _ _ => rfl | cases h
theorem truE_ok (h : truE a = true) : ∀ whole, isTrue a X.env whole = (do let v ← whole; standAt a.pos; holding [v] (truthy v)) := by
  cases a <;> first | exact fun _ => rfl | cases h
theorem foldOk_ok (h : foldOk a = true) : ∀ x, foldedSetIterable a X.env x = pure x := by
  cases a <;> first | exact fun _ => rfl | cases h
theorem Ct.units (c : Ct X W cl k st) : X.A.units + 64 < cLine := c.room.units
theorem tyName_ok {n : String} (h : tyName x = some n) : bootBuiltins x = some (.type n) ∧ x ≠ "__name__" ∧ (x == ("__debug__" : Str)) = false ∧ okTy n = true := by
  unfold tyName at h
  split at h
  · rename_i e; cases h; subst e; exact ⟨by decide +kernel, by decide +kernel, by decide +kernel, rfl⟩
  split at h
  · rename_i e; cases h; subst e; exact ⟨by decide +kernel, by decide +kernel, by decide +kernel, by decide +kernel⟩
  split at h
  · rename_i e; cases h; subst e; exact ⟨by decide +kernel, by decide +kernel, by decide +kernel, by decide +kernel⟩
  split at h
  · rename_i e; cases h; subst e; exact ⟨by decide +kernel, by decide +kernel, by decide +kernel, by decide +kernel⟩
  split at h
  · rename_i e; cases h; subst e; exact ⟨by decide +kernel, by decide +kernel, by decide +kernel, by decide +kernel⟩
  split at h
  · rename_i e; cases h; subst e; exact ⟨by decide +kernel, by decide +kernel, by decide +kernel, by decide +kernel⟩
  · cases h
theorem bin_ok (c : Ct X W cl k st) {op : Operator} {g : G2} {pos : Pos} {za zb : ZX} (h : binG op = some g) (ha : ZC X W cl a za) (hb : ZC X W cl b zb) : ZE X W cl (.BinOp a op b pos) (zOp g za zb) := by
  cases op <;> simp only [binG, Option.some.injEq, reduceCtorEq] at h <;> subst h
  · exact ze_add ha hb
  · exact ze_sub ha hb
  · exact ze_mul ha hb
  · exact ze_mod ha hb
  · exact ze_pow ha hb
  · exact ze_fdiv ha hb
theorem cmp_ok (c : Ct X W cl k st) {op : CmpOp} {g : G2} (h : cmpG op = some g) : ∃ r, OpR X (compareOp op) r ∧ OpZ X W cl r g ∧ op ≠ .In ∧ op ≠ .NotIn := by
  cases op <;> simp only [cmpG, Option.some.injEq, reduceCtorEq] at h <;> subst h
  · exact ⟨_, op_eq.or (op_eqD c.units), oz_eq, by decide, by decide⟩
  · exact ⟨_, op_ne.or (op_neD c.units), oz_ne, by decide, by decide⟩
  · exact ⟨_, op_lt, oz_cmp, by decide, by decide⟩
  · exact ⟨_, op_le, oz_cmp, by decide, by decide⟩
  · exact ⟨_, op_gt, oz_cmp, by decide, by decide⟩
  · exact ⟨_, op_ge, oz_cmp, by decide, by decide⟩
  · exact ⟨_, op_isN.or op_isBl, oz_is, by decide, by decide⟩
  · exact ⟨_, op_notN.or op_notBl, oz_isNot, by decide, by decide⟩
theorem rng_ok (c : Ct X W cl k st) (hr : ∀ e, ZE X W cl e (r e)) {z : ZR} (h : st.rng r e = some z) : ZRg X W cl e z ∧ nostar e = true := by
  unfold Stt.rng at h
  split at h
  · split at h
    · rename_i hc
      obtain ⟨rfl, h2, h3⟩ := hc
      cases h
      obtain ⟨g1, g2⟩ := bi_ok c h2
      exact ⟨zr_1 g1 g2 (hr _) h3, rfl⟩
    · cases h
  · split at h
    · rename_i hc
      obtain ⟨rfl, h2, h3, h4⟩ := hc
      cases h
      obtain ⟨g1, g2⟩ := bi_ok c h2
      exact ⟨zr_2 g1 g2 (hr _) (hr _) h3 h4, rfl⟩
    · cases h
  · cases h
theorem ci_ok {n : String} {q : Ci} (h : st.ci n = some q) : q ∈ st.px.cls ∧ q.c = n := by
  unfold Stt.ci at h
  exact ⟨List.mem_of_find?_eq_some h, by simpa using List.find?_some h⟩
theorem ats_ok (c : Ct X W cl k st) : AtsOk X.K cl st.ats := by
  intro n f C h hC
  unfold Stt.ats at h
  split at h
  · rename_i q hq
    obtain ⟨m, rfl⟩ := ci_ok hq
    obtain ⟨C', e1, _, k1, k2, _⟩ := (c.tab.cls q m).ex
    rw [hC] at e1
    cases e1
    exact ⟨k1, k2 f (by simpa using h)⟩
  · cases h
theorem lens_ok (c : Ct X W cl k st) {n : String} {g : Sem1} (h : st.lens n = some g) : MethOk X cl k "__len__" n g := by
  intro C hC
  unfold Stt.lens at h
  split at h
  · rename_i q hq
    obtain ⟨m, rfl⟩ := ci_ok hq
    obtain ⟨C', e1, _, _, _, _, k3, _⟩ := (c.tab.cls q m).ex
    rw [hC] at e1
    cases e1
    cases e2 : q.len with
    | none => rw [e2] at h; cases h
    | some key =>
      rw [e2] at h
      cases h
      exact k3 key e2
  · cases h
theorem prp_ok (c : Ct X W cl k st) {n : String} {f : Str} {g : Sem1} (h : st.prp f n = some g) : PropOk X cl k f n g := by
  intro C hC
  unfold Stt.prp at h
  split at h
  · rename_i q hq
    obtain ⟨m, rfl⟩ := ci_ok hq
    obtain ⟨C', e1, _, k1, _, _, _, k4⟩ := (c.tab.cls q m).ex
    rw [hC] at e1
    cases e1
    rw [Option.map_eq_some_iff] at h
    obtain ⟨z, hz, rfl⟩ := h
    have hm := List.mem_of_find?_eq_some hz
    have hf : z.1 = f := by simpa using List.find?_some hz
    subst hf
    obtain ⟨p, g', fd, ps, a1, a2, a3⟩ := k4 z hm
    exact ⟨p, g', fd, ps, k1, a1, a2, a3⟩
  · cases h
theorem atBase_ok (h : atBase a = true) {f : Str} : attributeBase a f X.env (eval a X.env) = eval a X.env := by
  cases a <;> first | rfl | cases h
theorem bi1_ok (c : Ct X W cl k st) (hr : ∀ e, ZE X W cl e (r e)) {p pos : Pos} (hb : st.bi x = true) (hn : nostar a = true) : ZE X W cl (.Call (.Name x p) [a] [] pos) (bi1 st r x a) := by
  obtain ⟨hg, hm⟩ := bi_ok c hb
  have ha := rdC_ok c hr a
  unfold bi1
  split
  · rename_i e; subst e; exact ze_lenO (fun _ _ h => lens_ok c h) c.gd c.room c.tk hg hm (rdS_ok c hr a) hn
  split
  · rename_i e; subst e; exact ze_callInt hg hm ha hn
  split
  · rename_i e; subst e; exact ze_abs hg hm ha hn
  split
  · rename_i e; subst e; exact ze_sum c.calm hg hm ha hn
  split
  · rename_i e; subst e; exact ze_max c.calm hg hm ha hn
  split
  · rename_i e; subst e; exact ze_min c.calm hg hm ha hn
  split
  · rename_i e; subst e; exact ze_all c.calm hg hm ha hn
  split
  · rename_i e; subst e; exact ze_any c.calm hg hm ha hn
  split
  · rename_i e; subst e; exact ze_repr c.gd c.units hg hm ha hn
  split
  · rename_i e
    subst e
    split
    · rename_i z h
      exact ze_tupRg c.calm hg hm (rng_ok c hr h).1 hn
    · exact ze_tupOf hg hm ha hn
  split
  · rename_i e
    subst e
    split
    · rename_i z h
      exact (zf_lstRg c.calm hg hm (rng_ok c hr h).1 hn).toE
    · exact (zf_lstOf hg hm ha hn).toE
  · exact ze_fail
theorem bi2_ok (c : Ct X W cl k st) (hr : ∀ e, ZE X W cl e (r e)) {p pos : Pos} (hb : st.bi x = true) (hn : nostar a = true) (hn2 : nostar b = true) : ZE X W cl (.Call (.Name x p) [a, b] [] pos) (bi2 st r x a b) := by
  obtain ⟨hg, hm⟩ := bi_ok c hb
  have ha := rdC_ok c hr a
  unfold bi2
  split
  · rename_i e; subst e; exact ze_max2 c.calm hg hm ha (rdC_ok c hr b) hn hn2
  split
  · rename_i e; subst e; exact ze_min2 c.calm hg hm ha (rdC_ok c hr b) hn hn2
  split
  · rename_i e
    subst e
    split
    · split
      · rename_i hT
        split
        · rename_i n h
          obtain ⟨g1, g2⟩ := bi_ok c hT
          obtain ⟨t1, t2, t3, t4⟩ := tyName_ok h
          exact ze_isi hg hm g1 g2 t1 t2 t3 t4 ha hn
        · exact ze_fail
      · split
        · rename_i q hq
          split
          · rename_i hg2
            simp only [Bool.and_eq_true] at hg2
            have hmem := List.mem_of_find?_eq_some hq
            have hname := List.find?_some hq
            simp only [decide_eq_true_eq] at hname
            obtain ⟨C, k1, k2, _⟩ := (c.tab.cls q hmem).ex
            rw [hname] at k2
            exact ze_isC hg hm (isGlo_ok c hg2.1) k2 (plainN_ok hg2.2).1 k1 ((c.tab.cls q hmem).ik C k1) ha hn
          · exact ze_fail
        · exact ze_fail
    · split
      · rename_i hT
        split
        · rename_i n m h h'
          obtain ⟨g1, g2⟩ := bi_ok c hT.1
          obtain ⟨g3, g4⟩ := bi_ok c hT.2
          obtain ⟨t1, t2, t3, t4⟩ := tyName_ok h
          obtain ⟨u1, u2, u3, u4⟩ := tyName_ok h'
          exact ze_isi2 hg hm g1 g2 t1 t2 t3 t4 g3 g4 u1 u2 u3 u4 ha hn
        · exact ze_fail
      · exact ze_fail
    · exact ze_fail
  · exact ze_fail
theorem starAny : ∀ {es : List Expr} {env : Env} {pos : Pos}, es.all nostar = true → (backTo pos (starEach es env)).any (·.1) = false
  | [], _, _, _ => rfl
  | e :: es, env, pos, h => by
    simp only [List.all_cons, Bool.and_eq_true] at h
    rw [star_ok h.1]
    show (false || (backTo pos (starEach es env)).any (·.1)) = false
    rw [starAny h.2]
    rfl
theorem kwAll : ∀ {ks : List Keyword} {env : Env} {pos : Pos}, ks.all (fun k => k.arg.isSome) = true → (backToKw pos (keywordEach ks env)).all (·.1.isSome) = true ∧ (backToKw pos (keywordEach ks env)).any (·.1.isNone) = false ∧ (backToKw pos (keywordEach ks env)).filterMap (·.1) = kwNames ks
  | [], _, _, _ => ⟨rfl, rfl, rfl⟩
  | ⟨some x, e, p⟩ :: ks, env, pos, h => by
    simp only [List.all_cons, Bool.and_eq_true] at h
    obtain ⟨h1, h2, h3⟩ := kwAll (env := env) (pos := pos) h.2
    refine ⟨?_, ?_, ?_⟩
    · show (true && (backToKw pos (keywordEach ks env)).all (·.1.isSome)) = true
      rw [h1]; rfl
    · show (false || (backToKw pos (keywordEach ks env)).any (·.1.isNone)) = false
      rw [h2]; rfl
    · show x :: (backToKw pos (keywordEach ks env)).filterMap (·.1) = x :: kwNames ks
      rw [h3]
  | ⟨none, e, p⟩ :: ks, env, pos, h => by simp at h
theorem usr_ok (c : Ct X W cl k st) (hr : ∀ e, ZE X W cl e (r e)) {p pos : Pos} {kws : List Keyword} : ZE X W cl (.Call (.Name x p) es kws pos) (usr st r x es kws) := by
  unfold usr
  split
  · rename_i hc
    obtain ⟨h1, h2, h3, h4⟩ := hc
    split
    · rename_i q hq
      have hmem := List.mem_of_find?_eq_some hq
      have hp := List.find?_some hq
      simp only [Bool.and_eq_true, decide_eq_true_eq] at hp
      obtain ⟨p1, p2, p3⟩ := hp
      obtain ⟨f, fd, ps, hm, hk, B, F⟩ := c.tab.fn q hmem
      rw [p1] at hm F
      obtain ⟨k1, k2, k3⟩ := kwAll (env := X.env) (pos := pos) h4
      have hpl : ((backTo pos (starEach es X.env)).any (·.1) || (backToKw pos (keywordEach kws X.env)).any (·.1.isNone)) = false := by rw [starAny h3, k2]; rfl
      cases es with
      | nil =>
        have p2' : q.n = 0 := p2
        rw [p2'] at B ⊢
        exact ze_call0 F c.gd (c.room.mono (Nat.le_succ k)) c.tk (isGlo_ok c h1) hm hk B (plainN_ok h2).1 (rdKs_ok (rdS_ok c hr) kws) k1 (k3.trans p3.symm) hpl
      | cons e es =>
        have h3' := h3
        simp only [List.all_cons, Bool.and_eq_true] at h3'
        exact ze_call F c.gd (c.room.mono (Nat.le_succ k)) c.tk (isGlo_ok c h1) hm hk B (plainN_ok h2).1 (rdSs_ok (rdS_ok c hr) (e :: es)) (rdKs_ok (rdS_ok c hr) kws) h3'.1 k1 (k3.trans p3.symm) hpl
    · exact ze_fail
  · exact ze_fail
theorem mkE_ok (c : Ct X W cl k st) (hr : ∀ e, ZE X W cl e (r e)) {p pos : Pos} {kws : List Keyword} {z : ZX} (h : mkE st r x es kws = some z) : ZF X W cl (.Call (.Name x p) es kws pos) z := by
  unfold mkE at h
  split at h
  · rename_i hc
    obtain ⟨h1, h2, h3, h4⟩ := hc
    split at h
    · rename_i q hq
      have hmem := List.mem_of_find?_eq_some hq
      have hn : q.name = x := by simpa using List.find?_some hq
      obtain ⟨C, e1, e2, _, _, k2, _, _⟩ := (c.tab.cls q hmem).ex
      rw [hn] at e2
      split at h
      · rename_i m hm
        cases h
        have hmm := List.mem_of_find?_eq_some hm
        have hp := List.find?_some hm
        simp only [Bool.and_eq_true, decide_eq_true_eq] at hp
        obtain ⟨p1, p2⟩ := hp
        obtain ⟨f, fd, ps, Mk', B, F⟩ := k2 m hmm
        rw [p1] at B
        obtain ⟨k1, k2, k3⟩ := kwAll (env := X.env) (pos := pos) h4
        have hpl : ((backTo pos (starEach es X.env)).any (·.1) || (backToKw pos (keywordEach kws X.env)).any (·.1.isNone)) = false := by rw [starAny h3, k2]; rfl
        cases es with
        | nil => exact zf_make0 Mk' F c.gd c.room c.tk (isGlo_ok c h1) e2 e1 B (plainN_ok h2).1 (rdKs_ok (rdS_ok c hr) kws) k1 (k3.trans p2.symm) hpl
        | cons e es =>
          have h3' := h3
          simp only [List.all_cons, Bool.and_eq_true] at h3'
          exact zf_make Mk' F c.gd c.room c.tk (isGlo_ok c h1) e2 e1 B (plainN_ok h2).1 (rdSs_ok (rdS_ok c hr) (e :: es)) (rdKs_ok (rdS_ok c hr) kws) h3'.1 k1 (k3.trans p2.symm) hpl
      · cases h
    · cases h
  · cases h
theorem rdW_ok (c : Ct X W cl k st) (hr : ∀ e, ZE X W cl e (r e)) {tg : Expr} {p pos : Pos} {z : ZL} (hb : st.bi x = true) (h : rdW st r tg x es = some z) : Zi X W cl tg (.Call (.Name x p) es [] pos) z := by
  obtain ⟨hg, hm⟩ := bi_ok c hb
  unfold rdW at h
  split at h
  · split at h
    · rename_i hn
      split at h
      · rename_i e
        subst e
        split at h
        · rename_i zr hz
          cases h
          exact zi_revR hg hm (rng_ok c hr hz).1 hn
        · cases h
          exact zi_rev hg hm (rdB_ok c hr _) hn
      · split at h
        · rename_i e
          obtain ⟨rfl, ht⟩ := e
          cases h
          cases tg <;> first | (cases ht; done) | exact zi_enum hg hm (rdB_ok c hr _) hn
        · cases h
    · cases h
  · split at h
    · rename_i hn
      obtain ⟨n1, n2, rfl, ht⟩ := hn
      cases h
      cases tg <;> first | (cases ht; done) | exact zi_zip hg hm (rdB_ok c hr _) (rdB_ok c hr _) n1 n2
    · cases h
  · cases h
theorem rdI_ok (c : Ct X W cl k st) (hr : ∀ e, ZE X W cl e (r e)) {tg : Expr} : ∀ e, Zi X W cl tg e (rdI st r tg e) := by
  intro e
  unfold rdI
  split
  · split
    · rename_i hc
      obtain ⟨rfl, h2, h3⟩ := hc
      obtain ⟨g1, g2⟩ := bi_ok c h2
      rename_i kws pos
      have h3' : kws = [] := by simpa using h3
      subst h3'
      split
      · split
        · rename_i h
          exact zi_range1 g1 g2 (rdA_ok hr _) h
        · exact zi_fail
      · split
        · rename_i h
          exact zi_range2 g1 g2 (rdA_ok hr _) h.1 h.2
        · exact zi_fail
      · split
        · rename_i h
          exact zi_range3 g1 g2 (rdA_ok hr _) h.1 h.2.1 h.2.2
        · exact zi_fail
      · exact zi_fail
    · split
      · rename_i hc
        rename_i kws' pos' _
        have h3' : kws' = [] := by simpa using hc.2
        subst h3'
        split
        · rename_i z hz
          exact rdW_ok c hr hc.1 hz
        · exact zi_seq (rdB_ok c hr _)
      · exact zi_seq (rdB_ok c hr _)
  · exact zi_seq (rdB_ok c hr _)
end
end Zy
set_option maxHeartbeats 4000000
namespace Zy
open PySem PySem.Spec PyProof.Rows L2

section
variable {X : Cx} {W : WX} {cl : String → Option Addr} {k : Nat} {st : Stt} {e a b : Expr} {es : List Expr} {r : Expr → ZX} {t : Expr → ZB} {x : Str} {i : Nat}
theorem slots_ok {N : List Str} {ok : Str → Bool} (hN : X.N = N) (nd : N.Nodup) (h : ∀ x, ok x = true → Loc X.env.scope x ∧ (X.fn x = true ∨ X.env.scope.names.lookup x = some .local)) : ∀ {es : List Expr} {is : List Nat}, slots N ok es = some is → NamesAt X es is
  | [], is, e => by
    cases e
    exact namesAt_nil
  | e :: es, is, q => by
    cases e with
    | Name x p =>
      simp only [slots] at q
      split at q
      · rename_i hx
        split at q
        · rename_i i is' h1 h2
          cases q
          exact namesAt_cons (by rw [hN]; exact nd) (by rw [hN]; exact ixOf_at h1) (h x hx).1 (h x hx).2 (slots_ok hN nd h h2)
        · cases q
      · cases q
    | _ => simp [slots] at q
/-- a target of names: its index list, its meaning; the reading is told by the list alone -/
def gOf (K : PySem.W.Frag) : Expr → List Nat → TG
  | .Name .., [i] => gName i
  | _, is => fun v σ H Q => gTup K is.length (gNms is) v σ H Q ∨ gUnl K is.length (gNms is) v σ H Q
theorem rdG_ok {N : List Str} {ok : Str → Bool} {tg : Expr} {is : List Nat} {gz : ZTg} (hN : X.N = N) (nd : N.Nodup) (hc : X.calm = true) (h : ∀ x, ok x = true → Loc X.env.scope x ∧ (X.fn x = true ∨ X.env.scope.names.lookup x = some .local)) (q : rdG N ok tg = some (is, gz)) :
    Zgb X tg is gz (gOf X.K tg is) ∧ Zg X tg gz := by
  unfold rdG at q
  split at q
  · split at q
    · rename_i hx
      split at q
      · rename_i i h1
        cases q
        obtain ⟨l, f⟩ := h _ hx
        have hi := ixOf_at h1
        rw [← hN] at hi nd
        exact ⟨zgb_name nd hi l f, zg_name nd hi l f⟩
      · cases q
    · cases q
  · split at q
    · rename_i is' h1
      cases q
      have hs := slots_ok hN nd h h1
      exact ⟨zgb_names hc hs, zg_names hc hs⟩
    · cases q
  · cases q
theorem Ct.block (c : Ct X W cl k st) {scope : Scope} (hk : scope.kind = .function) (s : Shared) (H : Hp) (C : Addr) (cs : List (Str × Addr)) (fp : List Addr) : Ct (X.blk s H scope (compEnvC scope cs C X.env) fp) Wf cl k (st.blk scope) :=
  ⟨c.N, by show relS scope X.env.scope = relS scope st.sc; rw [c.sc], c.calm, c.nd, takes0, c.room, c.gd, c.tab, hk⟩
theorem blkC_kind {N : List Str} {sc scope : Scope} {own : List (Str × Nat)} (h : blkC N sc scope own = true) : scope.kind = .function := (blkOk_by h).kind
/-- the parts of a comprehension -/
theorem lcOk (c : Ct X W cl k st) {tg iter elt : Expr} {ifs : List Expr} {scope : Scope} {is : List Nat} {gz : ZTg} {zt : ZB} {ze : ZX} (hr : ∀ e, ZE X W cl e (r e)) (hg : rdG st.N (okStore scope st.sc) tg = some (is, gz))
    (hb : blkC st.N st.sc scope (ownOf st.N scope) = true) (hs : subset is ((ownOf st.N scope).map (·.2)) = true) (hf : foldOk iter = true)
    (ht : (ifs = [] ∧ zt = fun _ M => .ok true M) ∨ ∃ c, ifs = [c] ∧ ∀ X' W', Ct X' W' cl k (st.blk scope) → ZT X' W' cl c zt) (he : ∀ X' W', Ct X' W' cl k (st.blk scope) → ZE X' W' cl elt ze) :
    LcOk X cl W tg iter elt ifs scope (ownOf st.N scope) (rdI st r tg iter) gz zt ze := by
  have hk := blkC_kind hb
  have hstore : ∀ (s : Shared) (H : Hp) (C : Addr) (cs : List (Str × Addr)) (fp : List Addr) x, okStore scope st.sc x = true → Loc (X.blk s H scope (compEnvC scope cs C X.env) fp).env.scope x ∧ ((X.blk s H scope (compEnvC scope cs C X.env) fp).fn x = true ∨ (X.blk s H scope (compEnvC scope cs C X.env) fp).env.scope.names.lookup x = some .local) := by
    intro s H C cs fp x h
    have e : (X.blk s H scope (compEnvC scope cs C X.env) fp).env.scope = relS scope st.sc := (c.block hk s H C cs fp).sc
    rw [e]
    unfold okStore at h
    split at h
    · rename_i q
      exact ⟨.inl q, .inr q⟩
    · rename_i q
      exact ⟨.inr q, .inl h⟩
    · cases h
  refine ⟨rdI_ok c hr iter, ?_, ⟨is, gOf X.K tg is, fun i hi => ?_, ?_, fun s H C cs fp => ?_⟩, ?_, fun s H C cs fp => he _ _ (c.block hk s H C cs fp), foldOk_ok hf⟩
  · rw [c.N, c.sc]
    exact blkOk_by hb
  · have := List.all_eq_true.mp hs i hi
    simpa using this
  · -- the reading of the target hangs on the written part alone
    unfold rdG at hg
    split at hg
    · split at hg
      · split at hg
        · cases hg
          exact fun F ph M env σ H Q v d env' _ S r e k => by
            cases e
            refine k _ (S.setV r) (fun a z => ?_) (fun j hj => ?_) (List.length_set ..)
            · rcases z with z | ⟨j, d', e1, e2⟩
              · exact .inl z
              · rcases getE_set e1 with ⟨_, e⟩ | ⟨ne, e⟩
                · cases e
                · rcases getE_set e2 with ⟨e', _⟩ | ⟨_, e'⟩
                  · exact absurd e' ne
                  · exact .inr ⟨j, d', e, e'⟩
            · exact ⟨List.getElem?_set_ne fun z => hj (by simp [z]), List.getElem?_set_ne fun z => hj (by simp [z])⟩
        · cases hg
      · cases hg
    · split at hg
      · rename_i is' h1
        cases hg
        intro F ph M env σ H Q v d env' hK S r e k
        unfold tgT at e
        cases e1 : itemsD d with
        | none => rw [e1] at e; cases e
        | some ds =>
          rw [e1] at e
          have e2 : setAll env is ds = some env' := e
          obtain ⟨a, xs, rfl, hq, rr⟩ := (Lk.of r).seq e1
          have hK' : (gh F ph env σ).K = X.K := hK
          rw [hK'] at hq
          have hl : xs.length = is.length := by rw [rr.length, setAll_len e2]
          have run := nms_runB S rr e2 k
          rcases hq with hq | hq
          · exact .inr ⟨a, xs, rfl, hq, hl, run⟩
          · exact .inl ⟨a, xs, rfl, hq, hl, run⟩
      · cases hg
    · cases hg
  · exact (rdG_ok (X := X.blk s H scope (compEnvC scope cs C X.env) fp) c.N c.nd c.calm (hstore s H C cs fp) hg).1.pg
  · rcases ht with h | ⟨q, h, h'⟩
    · exact .inl h
    · exact .inr ⟨q, h, fun s H C cs fp => h' _ _ (c.block hk s H C cs fp)⟩
end
theorem sound {cl : String → Option Addr} {k : Nat} : ∀ (n : Nat) (st : Stt) (e : Expr), (∀ X W, Ct X W cl k st → ZE X W cl e (ev n st e).1) ∧ (∀ X W, Ct X W cl k st → ZT X W cl e (ev n st e).2)
  | 0, st, e => ⟨fun _ _ _ => ze_fail, fun _ _ _ => zt_fail⟩
  | n + 1, st, e => by
    have ih := sound (cl := cl) (k := k) n
    refine ⟨fun X W c => ?_, fun X W c => ?_⟩
    · have hr : ∀ e, ZE X W cl e ((fun e => (ev n st e).1) e) := fun e => (ih st e).1 X W c
      have ht : ∀ e, ZT X W cl e ((fun e => (ev n st e).2) e) := fun e => (ih st e).2 X W c
      unfold ev
      simp only
      split
      · exact ze_non
      · exact ze_bl
      · exact ze_int
      · exact ze_str
      · split
        · rename_i i h
          obtain ⟨h1, h2, h3, h4⟩ := slotOf_ok c h
          exact ze_var h1 h2 h3 h4
        · exact ze_fail
      · split
        · rename_i g h
          exact bin_ok c h (rdC_ok c hr _) (rdC_ok c hr _)
        · exact ze_fail
      · exact ze_neg (hr _)
      · exact ze_not (hr _)
      · split
        · rename_i g h
          obtain ⟨q, h1, h2, h3, h4⟩ := cmp_ok c h
          exact ze_cmp h1 h2 (rdC_ok c hr _) (rdC_ok c hr _) (nobehind _ h3 h4)
        · exact ze_fail
      · split
        · rename_i g g' h h'
          obtain ⟨q, h1, h2, h3, h4⟩ := cmp_ok c h
          obtain ⟨q', h5, h6, h7, h8⟩ := cmp_ok c h'
          exact ze_ch h1 h5 h2 h6 (rdC_ok c hr _) (rdC_ok c hr _) (rdC_ok c hr _) ⟨h3, h4, h7, h8⟩
        · exact ze_fail
      · exact andV_ok hr _
      · exact orV_ok hr _
      · exact ze_if (ht _) (hr _) (hr _)
      · exact ze_tup (rdA_ok hr _)
      · exact (zf_lst (rdA_ok hr _)).toE
      · exact ze_sl (rdC_ok c hr _) (rdP_ok hr _) (rdP_ok hr _)
      · exact ze_rv (rdC_ok c hr _)
      · split
        · rename_i h
          exact ze_ix (rdC_ok c hr _) (rdC_ok c hr _) (plainSub_ok h)
        · exact ze_fail
      · split
        · rename_i is gz hg
          split
          · rename_i hc
            split
            · exact (zf_lc (lcOk c hr hg hc.1 hc.2.1 hc.2.2 (.inl ⟨rfl, rfl⟩) fun X' W' c' => (ih _ _).1 X' W' c') c.calm (by rw [c.N]; exact c.nd)).toE
            · exact (zf_lc (lcOk c hr hg hc.1 hc.2.1 hc.2.2 (.inr ⟨_, rfl, fun X' W' c' => (ih _ _).2 X' W' c'⟩) fun X' W' c' => (ih _ _).1 X' W' c') c.calm (by rw [c.N]; exact c.nd)).toE
            · exact ze_fail
          · exact ze_fail
        · exact ze_fail
      · split
        · rename_i hb
          split
          · split
            · rename_i hn
              exact bi1_ok c hr hb hn
            · exact ze_fail
          · split
            · rename_i hn
              exact bi2_ok c hr hb hn.1 hn.2
            · exact ze_fail
          · exact ze_fail
        · split
          · rename_i z hz
            exact (mkE_ok c hr hz).toE
          · exact usr_ok c hr
      · split
        · rename_i hb
          split
          · exact ze_prop (fun _ _ h => prp_ok c h) c.gd c.room (rdS_ok c hr _) (atBase_ok hb)
          · exact ze_at (ats_ok c) (rdC_ok c hr _) (atBase_ok hb)
        · exact ze_fail
      · split
        · rename_i i h
          split
          · rename_i hc
            obtain ⟨h1, h2, h3, h4⟩ := slotOf_ok c h
            obtain ⟨rfl, hn, hl⟩ := hc
            exact ze_idx (zc_var h1 h2 h3 h4) (hr _) hn hl
          · exact ze_fail
        · exact ze_fail
      · exact ze_fail
    · have hr : ∀ e, ZE X W cl e ((fun e => (ev n st e).1) e) := fun e => (ih st e).1 X W c
      have ht : ∀ e, ZT X W cl e ((fun e => (ev n st e).2) e) := fun e => (ih st e).2 X W c
      unfold ev
      simp only
      split
      · split
        · rename_i g h
          obtain ⟨q, h1, h2, h3, h4⟩ := cmp_ok c h
          exact zt_cmp h1 h2 (rdC_ok c hr _) (rdC_ok c hr _) (nobehind _ h3 h4)
        · exact zt_fail
      · split
        · rename_i g g' h h'
          obtain ⟨q, h1, h2, h3, h4⟩ := cmp_ok c h
          obtain ⟨q', h5, h6, h7, h8⟩ := cmp_ok c h'
          exact zt_ch h1 h5 h2 h6 (rdC_ok c hr _) (rdC_ok c hr _) (rdC_ok c hr _) ⟨h3, h4, h7, h8⟩
        · exact zt_fail
      · exact (andT_ok ht _).toT
      · exact (orT_ok ht _).toT
      · exact zt_not (ht _)
      · split
        · rename_i h
          exact zt_tru (rdC_ok c hr _) (truE_ok h)
        · exact zt_fail
end Zy
set_option maxHeartbeats 4000000
namespace Zy
open PySem PySem.Spec PyProof.Rows L2

/-! statements of the text -/
def vmC (f : Expr → List Str) : Expr → List Str
  | .Name .. => []
  | e => f e
/-- the names that stand where a value is kept -/
def vmE : Nat → Expr → List Str
  | 0, _ => []
  | n + 1, e => let f := vmE n
    match e with
    | .Name x _ => [x]
    | .BinOp a _ b _ => vmC f a ++ vmC f b
    | .UnaryOp _ a _ => vmC f a
    | .Compare a _ bs _ => vmC f a ++ bs.flatMap (vmC f)
    | .BoolOp _ es _ => es.flatMap f
    | .IfExp c a b _ => vmC f c ++ f a ++ f b
    | .Tuple es _ _ => es.flatMap f
    | .List es _ => es.flatMap f
    | .Subscript a (.Slice lo hi _ _) _ => vmC f a ++ lo.toList.flatMap f ++ hi.toList.flatMap f
    | .Subscript a b _ => vmC f a ++ vmC f b
    | .ListComp elt gs _ _ => f elt ++ gs.flatMap fun g => f g.iter ++ g.ifs.flatMap (vmC f)
    | .Call _ es kws _ => es.flatMap (vmC f) ++ kws.flatMap fun k => vmC f k.value
    | .Attribute a _ _ => vmC f a
    | _ => []
def vmS (st : Stmt) : List Str := match st with
  | .Return (some e) _ => vmE 60 e
  | .Assign [.Subscript _ b _] e _ => vmE 60 e ++ vmE 60 b
  | .Assign _ e _ => vmE 60 e
  | .AugAssign _ _ e _ => vmE 60 e
  | .Expr (.Call (.Attribute _ _ _) es _ _) _ => es.flatMap (vmE 60)
  | .Expr e _ => vmC (vmE 60) e
  | .If c _ _ _ => vmC (vmE 60) c
  | .While c _ _ _ => vmC (vmE 60) c
  | .For _ it _ _ _ => vmE 60 it
  | _ => []
def frzS (st : Stt) (s : Stmt) : List Nat := ((vmS s).filter st.owns.contains).filterMap (ixOf st.N)
def okLoc (sc : Scope) (x : Str) : Bool := match sc.names.lookup x with
  | some .local | some .cell => true
  | _ => false
def swapB (sc : Scope) (x : Str) (p : Pos) : Expr → Bool
  | .ListComp _ _ scope vp => (sc.names.lookup x == some .local) && (p.line == vp.line) && !(scope.names.any fun (n, k) => n == x && (k == .local || k == .cell))
  | _ => false
def isComp : Expr → Bool
  | .ListComp .. | .SetComp .. | .DictComp .. => true
  | _ => false
def lcZ (n : Nat) (st : Stt) (elt tg iter : Expr) (ifs : List Expr) (scope : Scope) : Option ZX :=
  match rdG st.N (okStore scope st.sc) tg with
  | some (is, gz) => if blkC st.N st.sc scope (ownOf st.N scope) = true ∧ subset is ((ownOf st.N scope).map (·.2)) = true ∧ foldOk iter = true then
      (match ifs with
      | [] => some (zLc (rdI st (fun e => (ev n st e).1) tg iter) gz (fun _ M => .ok true M) (ev n (st.blk scope) elt).1 ((ownOf st.N scope).map (·.2)))
      | [c] => some (zLc (rdI st (fun e => (ev n st e).1) tg iter) gz (ev n (st.blk scope) c).2 (ev n (st.blk scope) elt).1 ((ownOf st.N scope).map (·.2)))
      | _ => none) else none
  | none => none
/-- what is new -/
def frE (n : Nat) (st : Stt) (e : Expr) : Option ZX :=
  let r := fun e => (ev n st e).1
  match e with
  | .List es _ => some (zLst (rdA r es))
  | .ListComp elt [⟨tg, iter, ifs, 0⟩] scope _ => lcZ n st elt tg iter ifs scope
  | .Call (.Name x _) [a] [] _ => if x = ("list" : Str) ∧ st.bi x = true ∧ nostar a = true then (match st.rng r a with
    | some z => some (zLstRg z)
    | none => some (zLstOf (rdC st r a))) else mkE st r x [a] []
  | .Call (.Name x _) es kws _ => mkE st r x es kws
  | _ => none
def asgN (n : Nat) (st : Stt) (x : Str) (e : Expr) : ZS := if okLoc st.sc x = true then match ixOf st.N x with
    | some i => if st.owns.contains x = true then (match frE n st e with
        | some z => zSetO i z
        | none => failS) else if st.cels.contains x = true then (match frE n st e with
        | some z => zSetC i z
        | none => failS) else if isComp e = true then (match frE n st e with
        | some z => zSet i z
        | none => failS) else zSet i (ev n st e).1
    | none => failS else failS
def parB (x y : Str) (px py : Pos) (a b : Expr) : Bool := !(x == y) && (py.line == px.line) && nostar a && nostar b && !([a, b].all (foldedForSure 8)) && !([a, b].all (constantsAlone 8))
def isLoc (sc : Scope) (x : Str) : Bool := match sc.names.lookup x with
  | some .local => true
  | _ => false
def notTup : Expr → Bool
  | .Tuple .. => false
  | _ => true
def augG : Operator → Option (Int → Int → Int)
  | .Add => some fun i j => i + j
  | .Sub => some fun i j => i - j
  | _ => none
def exL (f : Stmt → ZS) : List Stmt → ZS
  | [] => fun env M => .nx env M
  | s :: ss => zSeq (f s) (exL f ss)
def ex1 (n : Nat) (st : Stt) (f : Stmt → ZS) (s : Stmt) : ZS :=
  let r := fun e => (ev n st e).1
  match s with
  | .Pass _ => fun env M => .nx env M
  | .Break _ => fun env M => .bk env M
  | .Continue _ => fun env M => .ct env M
  | .Return (some e) _ => zRet (r e)
  | .Return none _ => fun _ M => .rt .non M
  | .Assign [.Name x _] e _ => asgN n st x e
  | .Assign [.Tuple [.Name x px, .Name y py] _ _] (.Tuple [a, b] _ _) _ => if parB x y px py a b = true ∧ isLoc st.sc x = true ∧ isLoc st.sc y = true then (match ixOf st.N x, ixOf st.N y with
    | some i, some j => zPar i j (rdA r [a, b])
    | _, _ => failS) else failS
  | .Assign [.Tuple es k p] e _ => if notTup e = true then (match rdG st.N (okLoc st.sc) (.Tuple es k p) with
    | some (_, gz) => zAsg gz (r e)
    | none => failS) else failS
  | .Assign [.Subscript (.Name x _) b _] e _ => if plainSub b = true then (match slotOf st x with
    | some i => zPut i (r e) (r b)
    | none => failS) else failS
  | .Assign [.Attribute (.Name x _) f _] e _ => if isComp e = true then failS else (match slotOf st x with
    | some i => zPutA st.ats i f (r e)
    | none => failS)
  | .AugAssign (.Name x _) op e _ => if okLoc st.sc x = true then (match ixOf st.N x, augG op with
    | some i, some g => zAugN i g (r e)
    | _, _ => failS) else failS
  | .Expr (.Call (.Attribute (.Name x _) m ap) [e] [] cp) _ => if m = ("append" : Str) ∧ nostar e = true ∧ (ap.endLine == cp.line) = true then (match slotOf st x with
    | some i => zApp i (r e)
    | none => failS) else failS
  | .Expr e _ => if isComp e = true then failS else zDrop (rdC st r e)
  | .If c a b _ => zIfS (ev n st c).2 (exL f a) (exL f b)
  | .While c body [] _ => zWh (ev n st c).2 (exL f body) 100000
  | .For tg iter body [] _ => if foldOk iter = true then (match rdG st.N (okLoc st.sc) tg with
    | some (_, gz) => zFor (rdI st r tg iter) gz (exL f body)
    | none => failS) else failS
  | _ => failS
def exS : Nat → Stt → Stmt → ZS
  | 0, _, _ => failS
  | n + 1, st, s => zFrz (frzS st s) (ex1 60 st (exS n st) s)
def exB (st : Stt) (ss : List Stmt) : ZS := exL (exS 40 st) ss
section
variable {X : Cx} {W : WX} {cl : String → Option Addr} {k : Nat} {st : Stt} {e a b : Expr} {es : List Expr} {x : Str} {i n : Nat} {pos pos' : Pos} {s : Stmt}
theorem zs_fail : Zs X W cl s failS := zs_never
theorem blockKind_ok (c : Ct X W cl k st) : X.env.blockKind = .function := by
  have hk : X.env.scope.kind = .function := by rw [c.sc]; exact c.kind
  unfold Env.blockKind
  rw [hk]
  rfl
theorem swap_ok (c : Ct X W cl k st) {l : Nat} (h : isComp e = false ∨ ∃ el gs sc p, e = .ListComp el gs sc p) : swapsWith e (some (.Name x pos)) l X.env = pure (swapB st.sc x pos e) := by
  rcases h with h | ⟨el, gs, sc, p, rfl⟩
  · cases e <;> first | rfl | cases h
  · have hb := blockKind_ok c
    have hk : X.env.kindOf x = st.sc.names.lookup x := by show X.env.scope.names.lookup x = _; rw [c.sc]
    unfold swapsWith swapB
    simp only [hb, hk, Expr.pos, beq_self_eq_true, Bool.true_and]
theorem swapN_ok {l : Nat} {t : Expr} (h : ∀ x p, t ≠ .Name x p) : swapsWithSole [t] e l X.env = pure false := by
  show swapsWith e (some t) l X.env = pure false
  cases e <;> first
    | rfl
    | (cases t <;> first | rfl | exact absurd rfl (h _ _))
theorem swap0_ok {l : Nat} (h : isComp e = false) : swapsWith e none l X.env = pure false := by
  cases e <;> first | rfl | cases h
theorem swapA_ok {l : Nat} {o : Expr} {f : Str} {p : Pos} (h : isComp e = false) : swapsWith e (some (.Attribute o f p)) l X.env = pure false := by
  cases e <;> first | rfl | cases h
theorem okLoc_ok (c : Ct X W cl k st) (h : okLoc st.sc x = true) : Loc X.env.scope x := by
  rw [c.sc]
  unfold okLoc at h
  unfold L2.Loc
  split at h <;> simp_all
theorem isLoc_ok (c : Ct X W cl k st) (h : isLoc st.sc x = true) : X.env.scope.names.lookup x = some .local := by
  rw [c.sc]
  unfold isLoc at h
  split at h <;> simp_all
theorem lcZ_ok (c : Ct X W cl k st) {tg iter elt : Expr} {ifs : List Expr} {scope : Scope} {z : ZX} (h : lcZ n st elt tg iter ifs scope = some z) :
    ∃ gz zt ze, LcOk X cl W tg iter elt ifs scope (ownOf st.N scope) (rdI st (fun e => (ev n st e).1) tg iter) gz zt ze ∧ z = zLc (rdI st (fun e => (ev n st e).1) tg iter) gz zt ze ((ownOf st.N scope).map (·.2)) := by
  unfold lcZ at h
  split at h
  · rename_i is gz hg
    split at h
    · rename_i hc
      have hr : ∀ e, ZE X W cl e ((fun e => (ev n st e).1) e) := fun e => (sound (cl := cl) (k := k) n st e).1 X W c
      split at h
      · cases h
        exact ⟨_, _, _, lcOk c hr hg hc.1 hc.2.1 hc.2.2 (.inl ⟨rfl, rfl⟩) fun X' W' c' => (sound n _ _).1 X' W' c', rfl⟩
      · cases h
        exact ⟨_, _, _, lcOk c hr hg hc.1 hc.2.1 hc.2.2 (.inr ⟨_, rfl, fun X' W' c' => (sound n _ _).2 X' W' c'⟩) fun X' W' c' => (sound n _ _).1 X' W' c', rfl⟩
      · cases h
    · cases h
  · cases h
theorem frE_ok (c : Ct X W cl k st) {z : ZX} (h : frE n st e = some z) : ZF X W cl e z := by
  have hr : ∀ e, ZE X W cl e ((fun e => (ev n st e).1) e) := fun e => (sound (cl := cl) (k := k) n st e).1 X W c
  unfold frE at h
  simp only at h
  split at h
  · cases h
    exact zf_lst (rdA_ok hr _)
  · obtain ⟨gz, zt, ze, L, rfl⟩ := lcZ_ok c h
    exact zf_lc L c.calm (by rw [c.N]; exact c.nd)
  · split at h
    · rename_i hc
      obtain ⟨rfl, h2, h3⟩ := hc
      obtain ⟨g1, g2⟩ := bi_ok c h2
      split at h
      · rename_i z' hz
        cases h
        exact zf_lstRg c.calm g1 g2 (rng_ok c hr hz).1 h3
      · cases h
        exact zf_lstOf g1 g2 (rdC_ok c hr _) h3
    · exact mkE_ok c hr h
  · exact mkE_ok c hr h
  · cases h
/-- a comprehension is given to a name: by either way -/
theorem asgC_ok (c : Ct X W cl k st) (hf : ∀ x, X.fn x = true) {z : ZX} (hx : okLoc st.sc x = true) (hi : ixOf st.N x = some i) (h : frE n st e = some z) (hcomp : isComp e = true) :
    Zs X W cl (.Assign [.Name x pos'] e pos) (zSet i z) ∧ Zs X W cl (.Assign [.Name x pos'] e pos) (zSetO i z) ∧ Zs X W cl (.Assign [.Name x pos'] e pos) (zSetC i z) := by
  have hN : X.N.Nodup := by rw [c.N]; exact c.nd
  have hi' : X.N[i]? = some x := by rw [c.N]; exact ixOf_at hi
  have hF := frE_ok c h
  have hform : ∃ el tg iter ifs sc p, e = .ListComp el [⟨tg, iter, ifs, 0⟩] sc p := by
    unfold frE at h
    simp only at h
    split at h
    · cases hcomp
    · exact ⟨_, _, _, _, _, _, rfl⟩
    · cases hcomp
    · cases hcomp
    · cases h
  obtain ⟨el, tg, iter, ifs, sc, p, rfl⟩ := hform
  cases hs : swapB st.sc x pos' (.ListComp el [⟨tg, iter, ifs, 0⟩] sc p) with
  | false =>
    have sw := (swap_ok c (x := x) (pos := pos') (l := pos.line) (.inr ⟨el, _, sc, p, rfl⟩)).trans (congrArg pure hs)
    exact ⟨zs_set hN hi' (okLoc_ok c hx) (.inl (hf x)) hF.toE sw, zs_setO hN hi' (okLoc_ok c hx) (.inl (hf x)) hF sw, zs_setC hN hi' (okLoc_ok c hx) (.inl (hf x)) hF sw⟩
  | true =>
    have sw := (swap_ok c (x := x) (pos := pos') (l := pos.line) (.inr ⟨el, _, sc, p, rfl⟩)).trans (congrArg pure hs)
    have hl : X.env.scope.names.lookup x = some .local := by
      rw [c.sc]
      simp only [swapB, Bool.and_eq_true] at hs
      exact eq_of_beq hs.1.1
    unfold frE at h
    simp only at h
    obtain ⟨gz, zt, ze, L, rfl⟩ := lcZ_ok c h
    exact ⟨zs_setLc L c.calm hN hi' hl sw, zs_setLcO L c.calm hN hi' hl sw, zs_setLcC L c.calm hN hi' hl sw⟩
theorem asgN_ok (c : Ct X W cl k st) (hf : ∀ x, X.fn x = true) : Zs X W cl (.Assign [.Name x pos'] e pos) (asgN n st x e) := by
  have hN : X.N.Nodup := by rw [c.N]; exact c.nd
  unfold asgN
  split
  · rename_i hx
    split
    · rename_i i hi
      have hi' : X.N[i]? = some x := by rw [c.N]; exact ixOf_at hi
      have plain : isComp e = false → swapsWith e (some (.Name x pos')) pos.line X.env = pure false := fun h => by
        cases e <;> first | rfl | cases h
      split
      · split
        · rename_i z hz
          cases hc : isComp e with
          | true => exact (asgC_ok c hf hx hi hz hc).2.1
          | false => exact zs_setO hN hi' (okLoc_ok c hx) (.inl (hf x)) (frE_ok c hz) (plain hc)
        · exact zs_fail
      · split
        · split
          · rename_i z hz
            cases hc : isComp e with
            | true => exact (asgC_ok c hf hx hi hz hc).2.2
            | false => exact zs_setC hN hi' (okLoc_ok c hx) (.inl (hf x)) (frE_ok c hz) (plain hc)
          · exact zs_fail
        · split
          · rename_i hc
            split
            · rename_i z hz
              exact (asgC_ok c hf hx hi hz hc).1
            · exact zs_fail
          · rename_i hc
            exact zs_set hN hi' (okLoc_ok c hx) (.inl (hf x)) ((sound (cl := cl) (k := k) n st e).1 X W c) (plain (by simpa using hc))
    · exact zs_fail
  · exact zs_fail
theorem par_ok (c : Ct X W cl k st) {y : Str} {px py pt pt2 : Pos} {kt k2 : Nat} (h : parB x y px py a b = true) (hx : isLoc st.sc x = true) (hy : isLoc st.sc y = true) :
    swappedStores [.Tuple [.Name x px, .Name y py] kt pt] (.Tuple [a, b] k2 pt2) X.env = pure (some [x, y]) ∧ x ≠ y ∧ nostar a = true ∧ nostar b = true := by
  unfold parB at h
  simp only [Bool.and_eq_true, Bool.not_eq_true', beq_eq_false_iff_ne, ne_eq, beq_iff_eq] at h
  obtain ⟨⟨⟨⟨⟨h1, h2⟩, h3⟩, h4⟩, h5⟩, h6⟩ := h
  refine ⟨?_, h1, h3, h4⟩
  have hb := blockKind_ok c
  have kx : X.env.kindOf x = some .local := isLoc_ok c hx
  have ky : X.env.kindOf y = some .local := isLoc_ok c hy
  have e1 : (x == y) = false := beq_eq_false_iff_ne.mpr h1
  have e2 : (y == x) = false := beq_eq_false_iff_ne.mpr fun z => h1 z.symm
  have st1 : ([a, b].any fun | .Starred .. => true | _ => false) = false := by
    cases a <;> cases b <;> first | rfl | exact Bool.noConfusion h3 | exact Bool.noConfusion h4
  unfold swappedStores
  simp only [hb, List.length_cons, List.length_nil, Expr.pos, List.head?_cons, Option.map_some, Option.getD_some, List.filterMap_cons, kx, ky, h2, beq_self_eq_true, Bool.and_self, if_true, List.filterMap_nil, st1, h5, h6]
  simp [List.eraseDups_cons, e1, e2]
  rintro (h | h)
  · cases a <;> first | exact Bool.noConfusion h | exact Bool.noConfusion h3
  · cases b <;> first | exact Bool.noConfusion h | exact Bool.noConfusion h4
theorem assign_sub {p1 p2 : Pos} (h : plainSub b = true) : ∀ v, assign (.Subscript (.Name x p1) b p2) X.env v = (do
      let ov ← holding [v] (eval (.Name x p1) X.env)
      let iv ← holding [v, ov] (eval b X.env)
      standAt p2
      holding [v, ov, iv] (setItem ov iv v)
      release [v, ov, iv] []) := by
  cases b with
  | Constant c k p => cases c <;> first | exact fun _ => rfl | cases h
  | _ => first | exact fun _ => rfl | cases h
theorem aug_ok {op : Operator} {g : Int → Int → Int} (h : augG op = some g) : PIp X op (ipI g) := by
  cases op <;> simp only [augG, Option.some.injEq, reduceCtorEq] at h <;> subst h
  · exact ip_add
  · exact ip_sub
theorem swTup_none {es : List Expr} {kk : Nat} (h : notTup e = true) : swappedStores [.Tuple es kk pos'] e X.env = pure none := by
  cases e <;> first | rfl | exact Bool.noConfusion h
theorem exL_ok {f : Stmt → ZS} (hf : ∀ s, Zs X W cl s (f s)) : ∀ ss, Zb X W cl ss (exL f ss)
  | [] => zb_nil
  | s :: ss => zb_cons (hf s) (exL_ok hf ss)
theorem ex1_ok (c : Ct X W cl k st) (hfn : ∀ x, X.fn x = true) (hp : PassesOwn (model X.prog X.w) X.A X.env X.xe) {f : Stmt → ZS} (hf : ∀ s, Zs X W cl s (f s)) (s : Stmt) : Zs X W cl s (ex1 n st f s) := by
  have hr : ∀ e, ZE X W cl e ((fun e => (ev n st e).1) e) := fun e => (sound (cl := cl) (k := k) n st e).1 X W c
  have ht : ∀ e, ZT X W cl e (ev n st e).2 := fun e => (sound (cl := cl) (k := k) n st e).2 X W c
  have hN : X.N.Nodup := by rw [c.N]; exact c.nd
  have at_ : ∀ {x i}, ixOf st.N x = some i → X.N[i]? = some x := fun h => by rw [c.N]; exact ixOf_at h
  have hG : ∀ {tg is gz}, rdG st.N (okLoc st.sc) tg = some (is, gz) → Zg X tg gz := fun {tg is gz} h => (rdG_ok c.N c.nd c.calm (fun x hx => ⟨okLoc_ok c hx, .inl (hfn x)⟩) h).2
  unfold ex1
  simp only
  split
  · exact zs_pass
  · exact zs_break
  · exact zs_continue
  · exact zs_ret (hr _)
  · exact zs_retN
  · exact asgN_ok c hfn
  · split
    · rename_i hc
      split
      · rename_i i j hi hj
        obtain ⟨h1, h2, h3, h4⟩ := par_ok c hc.1 hc.2.1 hc.2.2
        refine zs_par c.calm hN (at_ hi) (at_ hj) (fun z => h2 ?_) (isLoc_ok c hc.2.1) (isLoc_ok c hc.2.2) (rdA_ok hr _) h1 (swapN_ok fun _ _ z => nomatch z)
        subst z
        have e1 := at_ hi
        rw [at_ hj] at e1
        exact (Option.some.inj e1).symm
      · exact zs_fail
    · exact zs_fail
  · split
    · rename_i hc
      split
      · rename_i gz hg
        exact zs_asg (hr _) (hG hg) (swapN_ok fun _ _ z => nomatch z) (swTup_none hc) rfl
      · exact zs_fail
    · exact zs_fail
  · split
    · rename_i hc
      split
      · rename_i i hi
        obtain ⟨h1, h2, h3, h4⟩ := slotOf_ok c hi
        exact zs_put h1 h2 h3 h4 (hr _) (hr _) (swapN_ok fun _ _ z => nomatch z) rfl rfl (assign_sub hc)
      · exact zs_fail
    · exact zs_fail
  · split
    · exact zs_fail
    · rename_i hcp
      split
      · rename_i i hi
        obtain ⟨h1, h2, h3, h4⟩ := slotOf_ok c hi
        exact zs_putA (ats_ok c) h1 h2 h3 h4 (hr _) (swapA_ok (by simpa using hcp))
      · exact zs_fail
  · split
    · rename_i hx
      split
      · rename_i i g hi hg
        exact zs_aug (aug_ok hg) hN (at_ hi) (okLoc_ok c hx) (.inl (hfn _)) (hr _)
      · exact zs_fail
    · exact zs_fail
  · split
    · rename_i hc
      obtain ⟨rfl, h5, h6⟩ := hc
      split
      · rename_i i hi
        obtain ⟨h1, h2, h3, h4⟩ := slotOf_ok c hi
        exact zs_app h1 h2 h3 h4 (hr _) h5 rfl h6
      · exact zs_fail
    · exact zs_fail
  · split
    · exact zs_fail
    · rename_i hc
      exact zs_expr (rdC_ok c hr _) (swap0_ok (by simpa using hc))
  · exact zs_if (ht _) (exL_ok hf _) (exL_ok hf _)
  · exact zs_while hp (ht _) (exL_ok hf _)
  · split
    · rename_i hc
      split
      · rename_i gz hg
        exact zs_for hp c.calm (rdI_ok c hr _) (hG hg) (exL_ok hf _) (foldOk_ok hc)
      · exact zs_fail
    · exact zs_fail
  · exact zs_fail
theorem exS_ok (c : Ct X W cl k st) (hfn : ∀ x, X.fn x = true) (hp : PassesOwn (model X.prog X.w) X.A X.env X.xe) : ∀ (m : Nat) (s : Stmt), Zs X W cl s (exS m st s)
  | 0, s => zs_fail
  | m + 1, s => zs_frz (ex1_ok c hfn hp (exS_ok c hfn hp m) s)
theorem exB_ok (c : Ct X W cl k st) (hfn : ∀ x, X.fn x = true) (hp : PassesOwn (model X.prog X.w) X.A X.env X.xe) (ss : List Stmt) : Zb X W cl ss (exB st ss) := exL_ok (exS_ok c hfn hp 40) ss
end
end Zy
set_option maxHeartbeats 4000000
namespace Zy
open PySem PySem.Spec PyProof.Rows L2

/-! the text's defs -/
structure Fi where
  d : DfZ
  ps : List Str
  N : List Str
  owns : List Str
  cels : List Str
def Fi.stt (f : Fi) (px : Px) (call : Str → Sem1) : Stt := ⟨px, call, f.N, f.d.scope, f.owns, f.cels⟩
def callF (fns : List Fi) (px : Px) : Nat → Str → Sem1
  | 0 => fun _ _ _ => .fail
  | k + 1 => fun x => match fns.find? fun f => decide (f.d.qual = x) with
    | some f => zFun f.ps.length f.N.length (exB (f.stt px (callF fns px k)) f.d.body)
    | none => fun _ _ => .fail
/-- what the text says of its classes -/
def lensP (px : Px) (C : Str → Sem1) : Lens := fun c => match px.cls.find? fun q => decide (q.c = c) with
  | some q => q.len.map C
  | none => none
def atsP (px : Px) : Ats := fun c f => match px.cls.find? fun q => decide (q.c = c) with
  | some q => q.ats.contains f
  | none => false
def prpP (px : Px) (f : Str) (C : Str → Sem1) : Lens := fun c => match px.cls.find? fun q => decide (q.c = c) with
  | some q => (q.props.find? fun z => decide (z.1 = f)).map fun z => C z.2
  | none => none
def scopeB (N ps : List Str) (sc : Scope) : Bool :=
  (match sc.kind with | .function => true | _ => false) && !sc.isCoroutine && !sc.isGenerator && decide N.Nodup && decide (N.take ps.length = ps) &&
    (ps.all fun x => match sc.names.lookup x with | some .local | some .cell => true | _ => false) && (sc.names.all fun y => match y.2 with | .free => false | _ => true)
theorem scopeB_ok {N ps : List Str} {sc : Scope} (h : scopeB N ps sc = true) : FnScope N ps sc := by
  unfold scopeB at h
  simp only [Bool.and_eq_true, Bool.not_eq_true', decide_eq_true_eq, List.all_eq_true] at h
  obtain ⟨⟨⟨⟨⟨⟨h1, h2⟩, h3⟩, h4⟩, h5⟩, h6⟩, h7⟩ := h
  refine ⟨?_, h2, h3, h4, h5, fun x hx => ?_, fun y hy e => ?_⟩
  · split at h1 <;> simp_all
  · have := h6 x hx
    split at this <;> simp_all
  · have := h7 y hy
    rw [e] at this
    cases this
/-- how a def without defaults is bound -/
structure Bnd (f : Fi) (n : Nat) (ks : List Str) (is : List Nat) : Prop where
  no : f.d.dfl = [] ∧ f.d.kwd = []
  len : is.length = f.ps.length
  eq : ∀ (kV doc pm : Value) (an : Option Addr) (cdv ct : Value) (us ws : List Value), us.length = n → ws.length = ks.length →
    ∃ ys, perm (us ++ ws) is = some ys ∧ bindArgs (PySem.W.fnOf f.d.name f.d.qual f.d.params f.d.body f.d.scope .none kV doc pm an cdv ct) ⟨us, ks.zip ws⟩ = pure (f.ps.zip ys)
def isAt (fns : List Fi) (key : Str) (wh : Wh) (f : Fi) : Prop := f ∈ fns ∧ fns.find? (fun g => decide (g.d.qual = key)) = some f ∧ f.d.qual = key ∧ f.d.wh = wh
/-- what is decided of a class -/
structure CiOk (fns : List Fi) (c : Ci) : Prop where
  make : ∀ p ∈ c.make, ∃ f, isAt fns p.1 (.meth c.name "__init__") f ∧ Bnd f (p.2.1 + 1) p.2.2.1 p.2.2.2
  len : ∀ m, c.len = some m → ∃ f, isAt fns m (.meth c.name "__len__") f ∧ Bnd f 1 [] [0]
  props : ∀ z ∈ c.props, ∃ f, isAt fns z.2 (.prop c.name z.1) f ∧ Bnd f 1 [] [0]
/-- what is decided of the text -/
structure TextOk (fns : List Fi) (px : Px) : Prop where
  at_ : ∀ f ∈ fns, scopeB f.N f.ps f.d.scope = true
  pats : ∀ p ∈ px.pats, ∃ f, isAt fns p.name (.glo p.name) f ∧ p.dd = [] ∧ Bnd f p.n p.ks p.is
  cls : ∀ c ∈ px.cls, px.cls.find? (fun q => decide (q.c = c.c)) = some c ∧ CiOk fns c
/-- .. and of what stands behind the top -/
def fxB (px : Px) (gl : List Str) (K : Fg) : Bool := px.free.all (freeB K) && (gl.all (gloB K) && px.cls.all (ciB K))
def clOf (px : Px) (K : Fg) (c : String) : Option Addr := (px.cls.find? fun q => decide (q.c = c)).map fun q => He.ga K q.name
structure HeadOk (fns : List Fi) (px : Px) (K : PySem.W.Frag) (mg : Str → Option Value) : Prop where
  fn : ∀ f ∈ fns, ∃ fd, FunD K f.d.name f.d.qual f.d.params f.d.body f.d.scope (f.d.dvs K) (f.d.kws K) (f.d.adr K) fd
  glo : ∀ p ∈ px.pats, mg p.name = some (.ref (He.ga K p.name))
  free : ∀ x ∈ px.free, mg x = none
  cls : ∀ c ∈ px.cls, mg c.name = some (.ref (He.ga K c.name)) ∧ ciB K c = true
section
variable {fns : List Fi} {px : Px} {P : Program} {w : World} {K : PySem.W.Frag} {mg : Str → Option Value} {base : Heap} {cl : String → Option Addr}
theorem fnG_fail {k : Nat} {f : Addr} {fd : FuncData} {ps : List Str} : FnG P w K mg base (L2.CX P w) k f fd ps (spZ cl K ps.length fun _ _ => .fail) :=
  ⟨fun vs H Q E h => h.1, fun A outer s H args us vs Q E hg hr he hb hv h => by
    obtain ⟨_, F, ph, M, env, σ, as, _, _, _, _, P⟩ := h
    exact P.elim⟩
theorem pat_of {f : Fi} {fd : FuncData} {n : Nat} {ks : List Str} {is : List Nat} {a : Addr} (B : Bnd f n ks is) (Fd : FunD K f.d.name f.d.qual f.d.params f.d.body f.d.scope (f.d.dvs K) (f.d.kws K) a fd) : Pat K fd f.ps n ks is [] := by
  refine ⟨B.len, [], [], .nil, fun _ _ => .nil, fun s us ws ys X h1 h2 hp => ?_⟩
  obtain ⟨oc, od, dV, kV, doc, pm, an, cdv, ct, osl, rfl, lk, hcd, hD, hK⟩ := Fd.ex
  have e0 : f.d.dvs K = [] := by unfold DfZ.dvs; rw [B.no.1]; rfl
  rw [e0] at hD
  rcases hD with ⟨_, rfl⟩ | ⟨z, _⟩
  · obtain ⟨ys', q1, q2⟩ := B.eq kV doc pm an cdv ct us ws h1 h2
    rw [List.append_nil] at hp
    rw [q1] at hp
    cases hp
    exact .of_eq q2
  · exact absurd rfl z
theorem callF_at {k : Nat} {f : Fi} {key : Str} (h : fns.find? (fun g => decide (g.d.qual = key)) = some f) : callF fns px (k + 1) key = zFun f.ps.length f.N.length (exB (f.stt px (callF fns px k)) f.d.body) := by
  show (match fns.find? (fun g => decide (g.d.qual = key)) with
    | some f => zFun f.ps.length f.N.length (exB (f.stt px (callF fns px k)) f.d.body)
    | none => fun _ _ => .fail) = _
  rw [h]
theorem fnG_all (hcl : cl = clOf px K) (T : TextOk fns px) (Hd : HeadOk fns px K mg) : ∀ k, (∀ f ∈ fns, fns.find? (fun g => decide (g.d.qual = f.d.qual)) = some f → ∀ fd, FunD K f.d.name f.d.qual f.d.params f.d.body f.d.scope (f.d.dvs K) (f.d.kws K) (f.d.adr K) fd →
      FnG P w K mg base (L2.CX P w) (2 * k) (f.d.adr K) fd f.ps (spZ cl K f.ps.length (callF fns px k f.d.qual)))
  | 0, f, hf, hq, fd, Fd => fnG_fail
  | k + 1, f, hf, hq, fd, Fd => by
    have ih : ∀ {key : Str} {wh : Wh} {g : Fi}, isAt fns key wh g → ∃ gd, FunD K g.d.name g.d.qual g.d.params g.d.body g.d.scope (g.d.dvs K) (g.d.kws K) (wh.adr K) gd ∧ FnG P w K mg base (L2.CX P w) (2 * k) (wh.adr K) gd g.ps (spZ cl K g.ps.length (callF fns px k key)) := fun {key wh g} h => by
      obtain ⟨hg, h2, h3, h4⟩ := h
      obtain ⟨gd, Gd⟩ := Hd.fn g hg
      have e : g.d.adr K = wh.adr K := by unfold DfZ.adr; rw [h4]
      have F := fnG_all hcl T Hd k g hg (by rw [h3]; exact h2) gd Gd
      rw [h3] at F
      rw [e] at F Gd
      exact ⟨gd, Gd, F⟩
    have tab : Tab P w K mg base cl (2 * k) px (callF fns px k) := by
      refine ⟨Hd.free, fun p hp => ?_, fun c hc => ⟨?_, ?_⟩⟩
      · obtain ⟨g, hg, hdd, B⟩ := T.pats p hp
        obtain ⟨gd, Gd, F⟩ := ih hg
        rw [hdd]
        exact ⟨_, gd, g.ps, Hd.glo p hp, Gd.kp, pat_of B Gd, F⟩
      · obtain ⟨hfi, ok⟩ := T.cls c hc
        obtain ⟨m1, m2⟩ := Hd.cls c hc
        simp only [ciB, Bool.and_eq_true, List.all_eq_true, Bool.or_eq_true] at m2
        obtain ⟨_, ⟨c1, _⟩, ⟨c2, c3⟩, c4, c5⟩ := m2
        refine ⟨He.ga K c.name, by rw [hcl]; unfold clOf; rw [hfi]; rfl, m1, clsB_ok c1, fun f hf => noatB_ok (c2 f hf), fun p hp => ?_, fun m hm => ?_, fun z hz => ?_⟩
        · obtain ⟨g, hg, B⟩ := ok.make p hp
          obtain ⟨gd, Gd, F⟩ := ih hg
          have mk : mkB K c.name = true := by
            rcases c3 with q | q
            · have q' : c.make = [] := by simpa using q
              rw [q'] at hp
              simp at hp
            · exact q
          exact ⟨_, gd, g.ps, mkB_ok mk, pat_of B Gd, F⟩
        · obtain ⟨g, hg, B⟩ := ok.len m hm
          obtain ⟨gd, Gd, F⟩ := ih hg
          have mm : methB K c.name "__len__" = true := by
            rcases c4 with q | q
            · rw [hm] at q
              cases q
            · exact q
          exact ⟨_, gd, g.ps, (methB_ok mm).1, (methB_ok mm).2, pat_of B Gd, F⟩
        · obtain ⟨g, hg, B⟩ := ok.props z hz
          obtain ⟨gd, Gd, F⟩ := ih hg
          exact ⟨_, _, gd, g.ps, propB_ok (c5 z hz), pat_of B Gd, F⟩
      · intro C hC
        obtain ⟨hfi, _⟩ := T.cls c hc
        have m2 := (Hd.cls c hc).2
        simp only [ciB, Bool.and_eq_true] at m2
        rw [hcl] at hC
        unfold clOf at hC
        rw [hfi] at hC
        cases hC
        exact insB_ok (clsB_ok m2.2.1.1) m2.2.1.2
    have hS := scopeB_ok (T.at_ f hf)
    rw [callF_at hq]
    have F1 : FnG P w K mg base (L2.CX P w) (2 * k + 1 + 1) (f.d.adr K) fd f.ps (spZ cl K f.ps.length (zFun f.ps.length f.N.length (exB (f.stt px (callF fns px k)) f.d.body))) :=
      fn_run Fd hS fun cdv A outer s H E W hgd hr tk hp => exB_ok (k := 2 * k) (st := f.stt px (callF fns px k)) ⟨rfl, rfl, rfl, hS.nd, tk, hr, hgd, tab, hS.kind⟩ (fun _ => rfl) hp f.d.body
    exact F1
/-- the script's list, as it stands at the law's entry -/
theorem law_g {k : Nat} {fa a : Addr} {fd : FuncData} {x : Str} {sp : Sp} {s₁ : Shared} {vs : List Value} {ns : List Int} {mb : Str → Option Value}
    (KX : K.In s₁.heap) (hns : s₁.heap.Ns mainGlobals mg) (hb : s₁.heap.Ns builtinsNs mb) (hbb : ∀ x : Str, x ≠ "__name__" → mb x = bootBuiltins x) (hlim : s₁.heap.NoLimit) (hg : s₁.gens = #[])
    (ha : s₁.heap.get? a = some { cls := .type "list", data := .seq vs.toArray }) (hi : IntsAre vs ns) (hl : ns.length ≤ sizeLine) (hr : Room k callerA)
    (G : ∀ base : Heap, K.In base → base.Ns mainGlobals mg → FnG P w K mg base (L2.CX P w) k fa fd [x] sp) (hbind : ∀ (s : Shared) (u : Value), BindsTo s fd ⟨[u], []⟩ [(x, u)])
    (hsp : ∀ H : Hp, (∀ b u, H b = some u → ∃ ob xs, u = .frz ob (.lst xs)) → SqL K H a (ns.map V.int) → sp [.ref a] H (fun v _ => v = .bl true) fun _ _ _ => False) :
    codeAny (model P w) callerA (.call (.ref fa) ⟨[.ref a], []⟩) (fun r s' => r = .ok (.ret (.bool true)) ∧ OldK s₁.heap s'.heap ∧ s'.os = s₁.os ∧ AllBare s'.gens) s₁ := by
  have rv := vals_ints hi
  generalize hob : ({ cls := .type "list", data := .seq vs.toArray } : Obj) = ob at ha
  -- tracked: the script, unless it is an object of the written part
  obtain ⟨H, hH, hS, hok, hKa, hfz⟩ : ∃ H : Hp, (∀ b, H b = none ∨ b = a) ∧ SqL K H a (ns.map V.int) ∧ HOk P w H s₁.heap ∧ (H a ≠ none → K.lookup a = none) ∧ (∀ b u, H b = some u → ∃ xs, u = .frz ob (.lst xs)) := by
    cases hk : K.lookup a with
    | some o =>
      have e := KX a o hk
      rw [ha] at e
      cases e
      subst hob
      refine ⟨fun _ => none, fun _ => .inl rfl, .inr ⟨_, vs.toArray, _, hk, rfl, rfl, rfl, ?_, by simpa using rv⟩, ?_, ?_, ?_⟩
      · rw [List.size_toArray, hi.length]
        exact hl
      · intro b u z
        cases (show (none : Option HO) = some u from z)
      · exact fun z => absurd rfl z
      · intro b u z
        cases (show (none : Option HO) = some u from z)
    | none =>
      have at_ : ∀ b u, (if b = a then some (HO.frz ob (.lst (ns.map V.int))) else none) = some u → b = a ∧ u = .frz ob (.lst (ns.map V.int)) := fun b u z => by
        by_cases q : b = a
        · rw [if_pos q] at z
          exact ⟨q, (Option.some.inj z).symm⟩
        · rw [if_neg q] at z
          cases z
      refine ⟨fun b => if b = a then some (.frz ob (.lst (ns.map V.int))) else none, fun b => ?_, .inl (.inr ⟨ob, if_pos rfl⟩), ?_, fun _ => rfl, fun b u z => ⟨_, (at_ b u z).2⟩⟩
      · by_cases q : b = a
        · exact .inr q
        · exact .inl (if_neg q)
      · intro b u z
        obtain ⟨rfl, rfl⟩ := at_ b u z
        subst hob
        exact ⟨ha, by rw [List.length_map]; exact hl, vs, _, rv, ha⟩
  have dict_free : ∀ {b : Addr} {o : Obj} {es : Array DictEntry} {ep : Nat}, s₁.heap.get? b = some o → o.data = .dict es ep → H b = none := fun {b o es ep} e d => by
    rcases hH b with q | q
    · exact q
    · rw [q, ha] at e
      cases e
      rw [← hob] at d
      cases d
  have ns_base : ∀ {b : Addr} {m : Str → Option Value}, s₁.heap.Ns b m → (hidT s₁.heap H).Ns b m := fun {b m} ⟨o, es, ep, e, d, r⟩ => ⟨o, es, ep, hidT_get e (dict_free e d), d, r⟩
  have kin : K.In (hidT s₁.heap H) := fun b o e => hidT_get (KX b o e) (by
    rcases hH b with q | q
    · exact q
    · cases z : H b with
      | none => rfl
      | some u =>
        rw [q] at z e
        rw [hKa (by rw [z]; simp)] at e
        cases e)
  have md : Mod K mg (hidT s₁.heap H) := ⟨kin, ns_base hns, ⟨mb, ns_base hb, hbb⟩, hlim.imp fun mc h => ⟨ns_base h.1, h.2⟩⟩
  have e0 : Env0 P w K mg (hidT s₁.heap H) callerA [] s₁ H := ⟨rfl, md, fun b o e => of_hidT e, Nat.le_of_eq (hidT_size _ _), trivial, fun b z => by simp [frs] at z, hok, .of_eq hg⟩
  refine codeAny_mono ((G _ kin (ns_base hns)).run callerA [] s₁ H ⟨[.ref a], []⟩ [.ref a] [.ref a] _ _ rfl hr e0 (hbind s₁ (.ref a)) (.cons rfl .nil) (hsp H (fun b u z => ⟨ob, hfz b u z⟩) hS)) fun r s' h => ?_
  match r, h with
  | .error e, h =>
    obtain ⟨_, _, _, _, _, _, _, _, _, _, _, _, z⟩ := h
    exact z.elim
  | .ok (.ret u), ⟨v, H', os, bare, un, hok', r', q⟩ =>
    have q' : v = .bl true := q
    subst q'
    obtain rfl : u = Value.bool true := r'
    refine ⟨rfl, OldK.of_keep fun b o e => ?_, os, bare⟩
    cases q : H b with
    | none => exact un.keep b o e q (by simp [frs]) (by simp)
    | some u =>
      obtain ⟨xs, rfl⟩ := hfz b u q
      obtain ⟨e1, _⟩ := hok b _ q
      obtain ⟨e2, _⟩ := hok' b _ (un.frzs b ob _ q)
      rw [e] at e1
      cases e1
      exact e2
/-- the goal of the head, from the law's promise -/
theorem walk_g {l : PySem.W.OpenLaw} {n k : Nat} {q : Program} {loose : List Str} {XP : (Str → Option Value) → Heap → Prop} {YP : World → Heap → Prop} {d : DefRec} {x : Str}
    (hn : l.most = some n) (hn2 : n ≤ sizeLine) (hdf : d.params.defaults = []) (hr : Room k callerA)
    (G : ∀ (w : World) (mg : Str → Option Value) (fa : Addr) (h : Heap), YP w h → h.Ns mainGlobals mg → mg d.name = some (.ref fa) →
      ∃ (K : PySem.W.Frag) (fd : FuncData) (sp : Sp), K.In h ∧ (∀ (s : Shared) (u : Value), BindsTo s fd ⟨[u], []⟩ [(x, u)]) ∧
        (∀ (H : Hp) (a : Addr) (ns : List Int), ns.length ≤ n → (∀ b u, H b = some u → ∃ ob xs, u = .frz ob (.lst xs)) → SqL K H a (ns.map V.int) → sp [.ref a] H (fun v _ => v = .bl true) fun _ _ _ => False) ∧
        ∀ base : Heap, K.In base → base.Ns mainGlobals mg → FnG l.prog w K mg base (L2.CX l.prog w) k fa fd [x] sp) :
    PySem.W.WalkO q loose XP YP l.row.toRowW d [] (fun f vs => PySem.call f vs) := by
  refine Att.attach_call hn hdf fun w s₀ s₁ mg mb fa o pm cd doc a vs ns Gr Y ho hd hcd hmg hobj hints hlen hg => ?_
  obtain ⟨K, fd, sp, KX, hb, hsp, hG⟩ := G w mg fa _ Y Gr.T.g hmg
  exact law_g KX Gr.T.g Gr.T.b Gr.T.builtins Gr.T.nolimit hg hobj hints (Nat.le_trans hlen hn2) hr hG hb fun H hH hS => hsp H a ns hlen hH hS
/-- the law's promise from its meaning -/
theorem law_sp {a : Addr} {H : Hp} {ns : List Int} {f : Sem1} (hH : ∀ b u, H b = some u → ∃ ob xs, u = .frz ob (.lst xs)) (hS : SqL K H a (ns.map V.int)) (h : ∃ M', f [.val (.scr ns)] [] = .ok (.bl true) M') :
    spZ cl K 1 f [.ref a] H (fun v _ => v = .bl true) fun _ _ _ => False := by
  have S : Sim ⟨K, cl, fun _ => False, H, []⟩ [] [] [] [] H :=
    ⟨rfl, ⟨[], rfl, fun a z => by simp at z⟩, fun a o e _ => e, fun a z => z.elim, rfl, List.nodup_nil, fun i d e => by simp at e, fun i d e => by simp at e, fun i d e => by simp at e, fun i j d e a e1 => by simp at e1, fun i d e => by simp at e⟩
  refine ⟨rfl, ⟨K, cl, fun _ => False, H, []⟩, [], [], [], [], [.val (.scr ns)], rfl, rfl, S, .cons ?_ .nil, ?_⟩
  · have off : ¬ (gh ⟨K, cl, fun _ => False, H, []⟩ [] [] []).off a := fun z => by
      rcases z with (z | ⟨i, d, e, _⟩) | z
      · exact z
      · simp at e
      · have z' : a ∈ ([] : List Addr) := z
        simp at z'
    rcases hS with (h | ⟨o, h⟩) | h
    · obtain ⟨ob, xs, e⟩ := hH a _ h
      cases e
    · exact .scr h off
    · exact .scrK fun H' => .inr h
  · obtain ⟨M', e⟩ := h
    rw [e]
    intro ph' H' v _ _ r
    cases r
    rfl
/-- what the head tells -/
theorem head_of {gl : List Str} (hgl : ∀ p ∈ px.pats, p.name ∈ gl) {h : Heap} (X : K.In h) (G : h.Ns mainGlobals mg) (c : tellZ (fxB px gl) (fns.map (·.d)) K = wantZ (fns.map (·.d))) : HeadOk fns px K mg := by
  have fx := told_fx c
  simp only [fxB, Bool.and_eq_true, List.all_eq_true] at fx
  refine ⟨fun f hf => told_fn c (List.mem_map_of_mem hf), fun p hp => gloB_ok X G (fx.2.1 _ (hgl p hp)), fun x hx => freeB_ok X G (fx.1 x hx), fun c hc => ?_⟩
  have h2 := fx.2.2 c hc
  refine ⟨?_, h2⟩
  simp only [ciB, Bool.and_eq_true] at h2
  exact gloB_ok X G h2.1
theorem all_nil {α : Type} {q : α → Prop} : ∀ x ∈ ([] : List α), q x := fun _ h => by simp at h
theorem all_cons {α : Type} {q : α → Prop} {a : α} {l : List α} (h : q a) (t : ∀ x ∈ l, q x) : ∀ x ∈ a :: l, q x := fun x hx => by
  rcases List.mem_cons.mp hx with rfl | hx
  · exact h
  · exact t x hx
theorem all_some {α : Type} {q : α → Prop} {a : α} (h : q a) : ∀ m, (some a : Option α) = some m → q m := fun m e => by cases e; exact h
theorem all_none {α : Type} {q : α → Prop} : ∀ m, (none : Option α) = some m → q m := fun m e => by cases e
theorem at_ok {f : Fi} {key : Str} {wh : Wh} (i : Nat) (hi : fns[i]? = some f) (hf : fns.find? (fun g => decide (g.d.qual = key)) = some f) (hn : f.d.qual = key) (hw : f.d.wh = wh) : isAt fns key wh f := ⟨List.mem_of_getElem? hi, hf, hn, hw⟩
/-- the end of a law: the facts of its text, and its meaning -/
theorem law_end {gl : List Str} {l : PySem.W.OpenLaw} {k j : Nat} {q : Program} {loose : List Str} {XP : (Str → Option Value) → Heap → Prop} {d : DefRec} {lf : Fi} {x : Str}
    (hn : l.most = some 63) (hdf : d.params.defaults = []) (hr : Room (2 * k) callerA) (hgl : ∀ p ∈ px.pats, p.name ∈ gl) (T : TextOk fns px) (hl : lf ∈ fns) (hfi : fns.find? (fun g => decide (g.d.qual = lf.d.qual)) = some lf) (hps : lf.ps = [x]) (hd0 : lf.d.dfl = [] ∧ lf.d.kwd = []) (hname : d.name = lf.d.qual)
    (hwh : lf.d.wh = .glo lf.d.qual) (hlg : lf.d.qual ∈ gl)
    (hb : ∀ (kV doc pm : Value) (an : Option Addr) (cdv ct : Value) (us : List Value), us.length = 1 → bindArgs (PySem.W.fnOf lf.d.name lf.d.qual lf.d.params lf.d.body lf.d.scope .none kV doc pm an cdv ct) ⟨us, []⟩ = pure (([x] : List Str).zip us))
    (h : ∀ ns : List Int, ns.length ≤ 63 → ∃ M', callF fns px k lf.d.qual [.val (.scr ns)] [] = .ok (.bl true) M') :
    PySem.W.WalkO q loose XP (hookZ j (fxB px gl) (fns.map (·.d))).says l.row.toRowW d [] (fun f vs => PySem.call f vs) := by
  refine walk_g (x := x) (k := 2 * k) hn (by decide) hdf hr fun w mg fa hh Y G hmg => ?_
  obtain ⟨K, KX, c⟩ := Y
  have Hd := head_of hgl KX G c
  have fx := told_fx c
  simp only [fxB, Bool.and_eq_true, List.all_eq_true] at fx
  obtain ⟨fd, Fd⟩ := Hd.fn lf hl
  have hm := gloB_ok KX G (fx.2.1 _ hlg)
  have ea : lf.d.adr K = He.ga K lf.d.qual := by unfold DfZ.adr; rw [hwh]; rfl
  rw [hname, hm] at hmg
  cases hmg
  rw [ea] at Fd
  refine ⟨K, fd, spZ (clOf px K) K 1 (callF fns px k lf.d.qual), KX, fun s u => ?_, fun H a ns hlen hH hS => law_sp hH hS (h ns hlen), fun base kin hns => ?_⟩
  · obtain ⟨oc, od, dV, kV, doc, pm, an, cdv, ct, osl, rfl, lk, hcd, hD, hK⟩ := Fd.ex
    have e0 : lf.d.dvs K = [] := by unfold DfZ.dvs; rw [hd0.1]; rfl
    rw [e0] at hD
    rcases hD with ⟨_, rfl⟩ | ⟨z, _⟩
    · exact .of_eq (hb kV doc pm an cdv ct [u] rfl)
    · exact absurd rfl z
  · rw [← ea] at Fd
    have F := fnG_all (P := l.prog) (w := w) (base := base) (cl := clOf px K) rfl T Hd k lf hl hfi fd Fd
    rw [hps, ea] at F
    exact F
end
end Zy
set_option maxHeartbeats 2000000
namespace Zy
open PySem PySem.Spec PyProof.Rows L2
def zNx : ZS := fun env M => .nx env M
def zBk : ZS := fun env M => .bk env M
def zCt : ZS := fun env M => .ct env M

/-! ### the pure half: loops and comprehensions by what holds between their turns -/
/-- what a turn has to reach -/
def stepO (N : Ev → Sto → Prop) (Q : Out → Prop) : Out → Prop
  | .nx e m => N e m
  | .ct e m => N e m
  | .bk e m => Q (.nx e m)
  | o => Q o
theorem zForL_gen {gz : ZTg} {y : ZS} (I : Nat → Ev → Sto → Prop) (Q : Out → Prop) : ∀ {ds : List D} {n : Nat} {env : Ev} {M : Sto}, I n env M →
    (∀ (i : Nat) d env M, ds[i]? = some d → I (n + i) env M → ∃ env1, gz d env = some env1 ∧ stepO (I (n + i + 1)) Q (y env1 M)) → (∀ env M, I (n + ds.length) env M → Q (.nx env M)) → Q (zForL gz y ds env M)
  | [], n, env, M, h0, _, he => he env M h0
  | d :: ds, n, env, M, h0, st, he => by
    obtain ⟨env1, e1, s1⟩ := st 0 d env M rfl h0
    unfold zForL
    rw [e1]
    have go : ∀ e m, I (n + 0 + 1) e m → Q (zForL gz y ds e m) := fun e m h => by
      refine zForL_gen (n := n + 1) I Q (by simpa using h) (fun i d' env' M' hi h' => ?_) fun env' M' h' => ?_
      · have := st (i + 1) d' env' M' (by simpa using hi) (by rw [show n + (i + 1) = n + 1 + i by omega]; exact h')
        rw [show n + 1 + i + 1 = n + (i + 1) + 1 by omega]
        exact this
      · refine he env' M' ?_
        rw [List.length_cons, show n + (ds.length + 1) = n + 1 + ds.length by omega]
        exact h'
    show Q (loopO (zForL gz y ds) (y env1 M))
    cases q : y env1 M with
    | nx e m => rw [q] at s1; exact go e m s1
    | ct e m => rw [q] at s1; exact go e m s1
    | bk e m => rw [q] at s1; exact s1
    | rt d m => rw [q] at s1; exact s1
    | exc c fs e m => rw [q] at s1; exact s1
    | fail => rw [q] at s1; exact s1
theorem zFor_gen {zi : ZL} {gz : ZTg} {y : ZS} {ds : List D} {env : Ev} {M M1 : Sto} (hi : zi env M = .ok ds M1) (I : Nat → Ev → Sto → Prop) (Q : Out → Prop) (h0 : I 0 env M1)
    (st : ∀ (i : Nat) d env M, ds[i]? = some d → I i env M → ∃ env1, gz d env = some env1 ∧ stepO (I (i + 1)) Q (y env1 M)) (he : ∀ env M, I ds.length env M → Q (.nx env M)) : Q (zFor zi gz y env M) := by
  unfold zFor
  rw [hi]
  exact zForL_gen (n := 0) I Q h0 (fun i d e m hi h => by simpa using st i d e m hi (by simpa using h)) (fun e m h => he e m (by simpa using h))
theorem zWh_gen {c : ZB} {y : ZS} (I : Ev → Sto → Prop) (μ : Ev → Sto → Nat) (Q : Out → Prop) (st : ∀ env M, I env M → ∃ b M1, c env M = .ok b M1 ∧ (if b = true then stepO (fun e m => I e m ∧ μ e m < μ env M) Q (y env M1) else Q (.nx env M1))) :
    ∀ {n : Nat} {env : Ev} {M : Sto}, I env M → μ env M < n → Q (zWh c y n env M)
  | 0, env, M, _, h => absurd h (Nat.not_lt_zero _)
  | n + 1, env, M, h, hn => by
    obtain ⟨b, M1, e1, s1⟩ := st env M h
    unfold zWh
    rw [e1]
    show Q (if b = true then _ else _)
    cases b with
    | false => exact s1
    | true =>
      rw [if_pos rfl] at s1 ⊢
      cases q : y env M1 with
      | nx e m => rw [q] at s1; exact zWh_gen I μ Q st s1.1 (Nat.lt_of_lt_of_le s1.2 (Nat.le_of_lt_succ hn))
      | ct e m => rw [q] at s1; exact zWh_gen I μ Q st s1.1 (Nat.lt_of_lt_of_le s1.2 (Nat.le_of_lt_succ hn))
      | bk e m => rw [q] at s1; exact s1
      | rt d m => rw [q] at s1; exact s1
      | exc c fs e m => rw [q] at s1; exact s1
      | fail => rw [q] at s1; exact s1
theorem zLcL_gen {gz : ZTg} {zt : ZB} {ze : ZX} {envb : Ev} (I : Nat → List D → Sto → Prop) : ∀ {ds : List D} {n : Nat} {acc : List D} {M : Sto}, I n acc M →
    (∀ (i : Nat) d acc M, ds[i]? = some d → I (n + i) acc M → ∃ envc b M1, gz d envb = some envc ∧ zt envc M = .ok b M1 ∧ (if b = true then ∃ y M2, ze envc M1 = .ok y M2 ∧ acc.length < sizeLine ∧ I (n + i + 1) (acc ++ [y]) M2 else I (n + i + 1) acc M1)) →
    ∃ acc' M', zLcL gz zt ze envb ds acc M = .ok (.lst acc') M' ∧ I (n + ds.length) acc' M'
  | [], n, acc, M, h0, _ => ⟨acc, M, rfl, h0⟩
  | d :: ds, n, acc, M, h0, st => by
    obtain ⟨envc, b, M1, e1, e2, s1⟩ := st 0 d acc M rfl h0
    have go : ∀ acc M, I (n + 0 + 1) acc M → ∃ acc' M', zLcL gz zt ze envb ds acc M = .ok (.lst acc') M' ∧ I (n + (d :: ds).length) acc' M' := fun acc M h => by
      rw [List.length_cons, show n + (ds.length + 1) = n + 1 + ds.length by omega]
      refine zLcL_gen (n := n + 1) I (by simpa using h) fun i d' acc' M' hi h' => ?_
      have := st (i + 1) d' acc' M' (by simpa using hi) (by rw [show n + (i + 1) = n + 1 + i by omega]; exact h')
      rw [show n + 1 + i + 1 = n + (i + 1) + 1 by omega]
      exact this
    unfold zLcL
    simp only [e1, e2]
    cases b with
    | false => exact go acc M1 s1
    | true =>
      rw [if_pos rfl] at s1
      obtain ⟨y, M2, e3, hl, s2⟩ := s1
      simp only [e3, if_pos hl]
      exact go _ _ s2
theorem zLc_gen {zi : ZL} {gz : ZTg} {zt : ZB} {ze : ZX} {vs : List Nat} {env : Ev} {ds : List D} {M M1 : Sto} (hi : zi env M = .ok ds M1) (hno : noOwn env vs = true) (I : Nat → List D → Sto → Prop) (h0 : I 0 [] M1)
    (st : ∀ (i : Nat) d acc M, ds[i]? = some d → I i acc M → ∃ envc b M1, gz d (wipeE env vs) = some envc ∧ zt envc M = .ok b M1 ∧ (if b = true then ∃ y M2, ze envc M1 = .ok y M2 ∧ acc.length < sizeLine ∧ I (i + 1) (acc ++ [y]) M2 else I (i + 1) acc M1)) :
    ∃ acc' M', zLc zi gz zt ze vs env M = .ok (.lst acc') M' ∧ I ds.length acc' M' := by
  unfold zLc
  rw [hi]
  show ∃ acc' M', (if noOwn env vs = true then zLcL gz zt ze (wipeE env vs) ds [] M1 else .fail) = .ok (.lst acc') M' ∧ _
  rw [if_pos hno]
  have := zLcL_gen (n := 0) (acc := []) I h0 fun i d acc M hi h => by simpa using st i d acc M hi (by simpa using h)
  simpa using this
/-- [f(d) for d in ds], nothing changed -/
theorem zLc_map {zi : ZL} {gz : ZTg} {ze : ZX} {vs : List Nat} {env : Ev} {ds : List D} {M M1 : Sto} (f : D → D) (hi : zi env M = .ok ds M1) (hno : noOwn env vs = true) (hl : ds.length ≤ sizeLine)
    (st : ∀ d ∈ ds, ∃ envc, gz d (wipeE env vs) = some envc ∧ ze envc M1 = .ok (f d) M1) : zLc zi gz (fun _ M => .ok true M) ze vs env M = .ok (.lst (ds.map f)) M1 := by
  obtain ⟨acc, M', e, h1, h2⟩ := zLc_gen (zt := fun _ M => .ok true M) (ze := ze) (gz := gz) hi hno (fun i acc M => acc = (ds.take i).map f ∧ M = M1) ⟨by simp, rfl⟩ fun i d acc M hd h => by
    obtain ⟨rfl, rfl⟩ := h
    obtain ⟨envc, e1, e2⟩ := st d (List.mem_of_getElem? hd)
    have hi := (List.getElem?_eq_some_iff.mp hd).1
    refine ⟨envc, true, M, e1, rfl, ?_⟩
    rw [if_pos rfl]
    refine ⟨f d, M, e2, by rw [List.length_map, List.length_take]; omega, ?_, rfl⟩
    rw [List.take_add_one, hd]
    simp
  rw [e, h1, h2, List.take_length]

/-! ### the law's own draws -/
def takeY (lf : Lens) : ZS :=
  (zSeq (zFrz [] (zSet 2 (zOp gIx (zCv 0) (zK (.int 1)))))
      (zSeq (zFrz [] (zPut 0 (zOp gAdd (zCv 2) (zK (.int 1))) (zK (.int 1))))
      (zSeq (zFrz [] (zSet 3 (zOp gIx (zCv 0) (zK (.int 0)))))
      (zSeq (zFrz [] (zIfS (zTst (zOp gGe (zCv 2) (zLen lf (zSv 3))))
    (zSeq (zFrz [] (zRet (zK (.int 0))))
      zNx)
    zNx))
      (zSeq (zFrz [] (zRet (zOp gMod (zOp gFdiv (zBf gInt (zCons (zOp gIx (zCv 3) (zCv 2)) zNil)) (zK (.int 7))) (zCv 1))))
      zNx)))))
theorem take_ok {lf : Lens} {h : Nat} {M : Sto} {ns : List Int} {p m : Int} (hM : M[h]? = some (.lst [.lst (ns.map .int), .int p])) (hp : 0 ≤ p) (hm : 0 < m) :
    ∃ r, 0 ≤ r ∧ r < m ∧ zFun 2 4 (takeY lf) [.val (.ref h), .val (.int m)] M = .ok (.int r) (M.set h (.lst [.lst (ns.map .int), .int (p + 1)])) := by
  have hh : h < M.length := (List.getElem?_eq_some_iff.mp hM).1
  have hS : (M.set h (.lst [.lst (ns.map .int), .int (p + 1)]))[h]? = some (.lst [.lst (ns.map .int), .int (p + 1)]) := by rw [List.getElem?_set_self hh]
  by_cases hg : (ns.length : Int) ≤ p
  · refine ⟨0, Int.le_refl _, hm, ?_⟩
    simp [zFun, takeY, zSeq, zFrz, frz, zSet, zPut, zOp, zCv, zK, gIx, gAdd, deref, hM, hS, itemsD, atI, ixN, putL, getPl, setPl, zIfS, zTst, gCmpI, zBf, zCons, zNil, gLen, zLen, zSv, slV, zRet, Res.toS, Res.bind, hg]
  · have hlt : p.toNat < ns.length := by omega
    have hlt2 : p < (ns.length : Int) := by omega
    have lg : (7 : Int).natAbs.log2 < 9000 := by decide
    have lg2 : Nat.log2 7 < 9000 := by decide
    refine ⟨ns[p.toNat] / 7 % m, Int.emod_nonneg _ (by omega), Int.emod_lt_of_pos _ hm, ?_⟩
    simp [zFun, takeY, zSeq, zFrz, frz, zSet, zPut, zOp, zCv, zK, gIx, gAdd, deref, hM, hS, itemsD, atI, ixN, putL, getPl, setPl, zIfS, zTst, gCmpI, zBf, zCons, zNil, gLen, zLen, zSv, slV, zRet, Res.toS, Res.bind, hg, hp, gInt, gFdiv, gMod, zNx, hm, hlt, hlt2, lg, lg2]
end Zy
set_option maxHeartbeats 2000000
namespace Zy
open PySem PySem.Spec PyProof.Rows L2
section
variable {env : Ev} {M : Sto} {y y' : ZS} {z za zb zc : ZX} {l : ZL} {i j : Nat} {g : G2} {d e : D}
@[simp] theorem zNx_z : zNx env M = .nx env M := id rfl
@[simp] theorem zBk_z : zBk env M = .bk env M := id rfl
@[simp] theorem zCt_z : zCt env M = .ct env M := id rfl
@[simp] theorem zSeq_z : zSeq y y' env M = match y env M with
  | .nx env M => y' env M
  | o => o := id rfl
@[simp] theorem zFrz_z : zFrz [] y = y := id rfl
@[simp] theorem zSet_z : zSet i z env M = (z env M).toS env fun d M1 => .nx (env.set i (.val d)) M1 := id rfl
@[simp] theorem zSetO_z : zSetO i z env M = (z env M).toS env fun d M1 => .nx (env.set i (.own d)) M1 := id rfl
@[simp] theorem zSetC_z : zSetC i z env M = (z env M).toS env fun d M1 => .nx (env.set i (.val (.ref M1.length))) (M1 ++ [d]) := id rfl
@[simp] theorem zRet_z : zRet z env M = (z env M).toS env fun d M1 => .rt d M1 := id rfl
@[simp] theorem zDrop_z : zDrop z env M = (z env M).toS env fun _ M1 => .nx env M1 := id rfl
@[simp] theorem zIfS_z {t : ZB} : zIfS t y y' env M = (t env M).toS env fun b M1 => if b = true then y env M1 else y' env M1 := id rfl
@[simp] theorem zVar_z : zVar i env M = match env[i]? with
  | some (.val d) => .ok d M
  | _ => .fail := id rfl
@[simp] theorem zBv_z : zBv i env M = match env[i]? with
  | some (.val d) => .ok d M
  | some (.bor d) => .ok d M
  | _ => .fail := id rfl
@[simp] theorem zCv_z : zCv i env M = match env[i]? with
  | some (.val d) => .ok d M
  | some (.own d) => .ok d M
  | some (.bor d) => .ok d M
  | _ => .fail := id rfl
@[simp] theorem zK_z : zK d env M = .ok d M := id rfl
@[simp] theorem zOp_z : zOp g za zb env M = (za env M).bind fun d M1 => (zb env M1).bind fun e M2 => g d e M2 := id rfl
@[simp] theorem zTst_z : zTst z env M = (z env M).bind fun d M1 => match d with
  | .bl b => .ok b M1
  | _ => .fail := id rfl
@[simp] theorem zAnd_z {t u : ZB} : zAnd t u env M = (t env M).bind fun b M1 => if b = true then u env M1 else .ok false M1 := id rfl
@[simp] theorem zOr_z {t u : ZB} : zOr t u env M = (t env M).bind fun b M1 => if b = true then .ok true M1 else u env M1 := id rfl
@[simp] theorem zNot_z {t : ZB} : zNot t env M = (t env M).bind fun b M1 => .ok (!b) M1 := id rfl
@[simp] theorem zTru_z : zTru z env M = (z env M).bind fun d M1 => match (deref M1 d).bind truD with
  | some b => .ok b M1
  | none => .fail := id rfl
@[simp] theorem zAndV_z : zAndV z za env M = (z env M).bind fun d M1 => match d with
  | .bl true => za env M1
  | .bl false => .ok (.bl false) M1
  | _ => .fail := id rfl
@[simp] theorem zNotV_z : zNotV z env M = (z env M).bind fun d M1 => match d with
  | .bl b => .ok (.bl (!b)) M1
  | _ => .fail := id rfl
@[simp] theorem zNil_z : zNil env M = .ok [] M := id rfl
@[simp] theorem zCons_z : zCons z l env M = (z env M).bind fun d M1 => (l env M1).bind fun ds M2 => .ok (d :: ds) M2 := id rfl
@[simp] theorem zTup_z : zTup l env M = (l env M).bind fun ds M1 => if ds.length ≤ sizeLine then .ok (.tup ds) M1 else .fail := id rfl
@[simp] theorem zLst_z : zLst l env M = (l env M).bind fun ds M1 => if ds.length ≤ sizeLine then .ok (.lst ds) M1 else .fail := id rfl
@[simp] theorem zBf_z {g : GB} : zBf g l env M = (l env M).bind fun ds M1 => g ds M1 := id rfl
@[simp] theorem zNeg_z : zNeg z env M = (z env M).bind fun d M1 => match d with
  | .int i => .ok (.int (-i)) M1
  | _ => .fail := id rfl
@[simp] theorem sNil_z : sNil env M = .ok [] M := id rfl
@[simp] theorem sCons_z {s : ZS1} {l : ZSl} : sCons s l env M = (s env M).bind fun d M1 => (l env M1).bind fun ds M2 => .ok (d :: ds) M2 := id rfl
@[simp] theorem zSv_z : zSv i env M = match env[i]? with
  | some (.val d) => .ok (.val d) M
  | some (.own d) => .ok (.bor d) M
  | some (.bor d) => .ok (.bor d) M
  | _ => .fail := id rfl
@[simp] theorem zVl_z : zVl z env M = (z env M).bind fun d M1 => .ok (.val d) M1 := id rfl
@[simp] theorem zTupOf_z : zTupOf z env M = (z env M).bind fun d M1 => match (deref M1 d).bind itemsD with
  | some ds => .ok (.tup ds) M1
  | none => .fail := id rfl
@[simp] theorem zLstOf_z : zLstOf z env M = (z env M).bind fun d M1 => match (deref M1 d).bind itemsD with
  | some ds => .ok (.lst ds) M1
  | none => .fail := id rfl
@[simp] theorem zSeqI_z : zSeqI z env M = (z env M).bind fun d M1 => match itemsD d with
  | some ds => .ok ds M1
  | none => .fail := id rfl
/-- what len answers -/
def lenR (lf : Lens) (s : Sl) (M1 : Sto) : Res D := match deref M1 (slV s) with
  | some (.ins c _) => (match lf c with
    | some g => (g [s] M1).bind fun r M2 => match r with
      | .int n => if 0 ≤ n ∧ n < 2 ^ 63 then .ok (.int n) M2 else .fail
      | _ => .fail
    | none => .fail)
  | _ => gLen [slV s] M1
@[simp] theorem zLen_z {lf : Lens} {s : ZS1} : zLen lf s env M = (s env M).bind (lenR lf) := id rfl
@[simp] theorem lenR_lst {lf : Lens} {ds : List D} : lenR lf (.val (.lst ds)) M = .ok (.int ds.length) M := id rfl
@[simp] theorem lenR_blst {lf : Lens} {ds : List D} : lenR lf (.bor (.lst ds)) M = .ok (.int ds.length) M := id rfl
@[simp] theorem lenR_tup {lf : Lens} {ds : List D} : lenR lf (.val (.tup ds)) M = .ok (.int ds.length) M := id rfl
@[simp] theorem lenR_scr {lf : Lens} {ns : List Int} : lenR lf (.val (.scr ns)) M = .ok (.int ns.length) M := by simp [lenR, slV, deref, gLen, itemsD]
theorem lenR_ins {lf : Lens} {c : String} {fs : List (Str × D)} {g : Sem1} {n : Int} {M2 : Sto} (h : lf c = some g) (hg : g [.val (.ins c fs)] M = .ok (.int n) M2) (h0 : 0 ≤ n) (h1 : n ≤ 1000000) : lenR lf (.val (.ins c fs)) M = .ok (.int n) M2 := by
  have h2 : (1000000 : Int) < 2 ^ 63 := by decide
  unfold lenR
  simp only [slV, deref, h, hg, Res.bind_ok]
  rw [if_pos ⟨h0, Int.lt_of_le_of_lt h1 h2⟩]
/-- an attribute's value -/
def atR (ok : Ats) (f : Str) (d : D) (M1 : Sto) : Res D := match deref M1 d with
  | some (.ins c fs) => if ok c f = true then (match fs.lookup f with
    | some v => .ok v M1
    | none => .fail) else .fail
  | _ => .fail
@[simp] theorem zAt_z {ok : Ats} {f : Str} : zAt ok f z env M = (z env M).bind (atR ok f) := id rfl
theorem atR_ok {ok : Ats} {f : Str} {c : String} {fs : List (Str × D)} {v : D} (h : ok c f = true) (hv : fs.lookup f = some v) : atR ok f (.ins c fs) M = .ok v M := by
  unfold atR
  simp only [deref, h, if_true, hv]
@[simp] theorem zPutA_z {ok : Ats} {f : Str} : zPutA ok i f z env M = (z env M).toS env fun v M1 => putA ok env M1 i f v := id rfl
def propR (pf : Lens) (s : Sl) (M1 : Sto) : Res D := match deref M1 (slV s) with
  | some (.ins c _) => (match pf c with
    | some g => noX (g [s] M1)
    | none => .fail)
  | _ => .fail
@[simp] theorem zProp_z {pf : Lens} {s : ZS1} : zProp pf s env M = (s env M).bind (propR pf) := id rfl
theorem propR_ok {pf : Lens} {c : String} {fs : List (Str × D)} {g : Sem1} {d : D} {M2 : Sto} (h : pf c = some g) (hg : g [.val (.ins c fs)] M = .ok d M2) : propR pf (.val (.ins c fs)) M = .ok d M2 := by
  unfold propR
  simp only [slV, deref, h, hg, noX]
def zipR (d e : D) (M2 : Sto) : Res (List D) := match itemsD d, itemsD e with
  | some ds, some es => .ok (zipD ds es) M2
  | _, _ => .fail
@[simp] theorem zZip_z : zZip za zb env M = (za env M).bind fun d M1 => (zb env M1).bind fun e M2 => zipR d e M2 := id rfl
theorem zipR_ok {ds es : List D} (h1 : itemsD d = some ds) (h2 : itemsD e = some es) : zipR d e M = .ok (zipD ds es) M := by
  unfold zipR
  rw [h1, h2]
def revR (p : Int × Int) (M1 : Sto) : Res (List D) := if -(2 ^ 62) ≤ p.1 ∧ p.1 < 2 ^ 62 ∧ -(2 ^ 62) ≤ p.2 ∧ p.2 < 2 ^ 62 then .ok (stpD (p.1 + (((p.2 - p.1).toNat : Nat) : Int) - 1) (-1) (p.2 - p.1).toNat) M1 else .fail
@[simp] theorem zRevR_z {r : ZR} : zRevR r env M = (r env M).bind revR := id rfl
theorem revR_ok {n : Nat} (h : n ≤ 1000000) : revR (0, (n : Int)) M = .ok (stpD ((n : Int) - 1) (-1) n) M := by
  unfold revR
  have h4 : (1000000 : Int) < 2 ^ 62 := by decide
  have h5 : (-(2 ^ 62) : Int) ≤ 0 := by decide
  have h6 : (0 : Int) < 2 ^ 62 := by decide
  rw [if_pos ⟨h5, h6, by omega, by omega⟩]
  simp
@[simp] theorem zRev_z : zRev z env M = (z env M).bind fun d M1 => match itemsD d with
  | some ds => .ok ds.reverse M1
  | none => .fail := id rfl
@[simp] theorem zEnum_z : zEnum z env M = (z env M).bind fun d M1 => match d with
  | .lst ds => .ok (enumD ds) M1
  | _ => .fail := id rfl
@[simp] theorem zRg1_z : zRg1 z env M = (z env M).bind fun d M1 => match d with
  | .int i => .ok ((0 : Int), i) M1
  | _ => .fail := id rfl
@[simp] theorem zLstRg_z {r : ZR} : zLstRg r env M = (r env M).bind fun p M1 => if -(2 ^ 62) ≤ p.1 ∧ p.1 < 2 ^ 62 ∧ -(2 ^ 62) ≤ p.2 ∧ p.2 < 2 ^ 62 ∧ (p.2 - p.1).toNat ≤ 2 ^ 24 then .ok (.lst (rngD p.1 p.2)) M1 else .fail := id rfl
def makeR (c : String) (f : Sem1) (n m : Nat) (is : List Nat) (dd : List D) (as bs : List Sl) (M2 : Sto) : Res D := if as.length = n ∧ bs.length = m then match perm ((.val (.ref M2.length) :: as) ++ bs ++ dd.map .val) is with
    | some ys => mkO M2.length (f ys (M2 ++ [.ins c []]))
    | none => .fail else .fail
@[simp] theorem zMake_z {c : String} {f : Sem1} {n m : Nat} {is : List Nat} {dd : List D} {zs zk : ZSl} : zMake c f n m is dd zs zk env M = (zs env M).bind fun as M1 => (zk env M1).bind fun bs M2 => makeR c f n m is dd as bs M2 := id rfl
@[simp] theorem zIf_z {t : ZB} : zIf t za zb env M = (t env M).bind fun b M1 => if b = true then za env M1 else zb env M1 := id rfl
@[simp] theorem zOrV_z : zOrV z za env M = (z env M).bind fun d M1 => match d with
  | .bl false => za env M1
  | .bl true => .ok (.bl true) M1
  | _ => .fail := id rfl
@[simp] theorem zAsg_z {gz : ZTg} : zAsg gz z env M = (z env M).toS env fun d M1 => match gz d env with
  | some env' => .nx env' M1
  | none => .fail := id rfl
@[simp] theorem zPar_z : zPar i j l env M = (l env M).toS env fun ds M1 => match ds with
  | [d, e] => .nx ((env.set i (.val d)).set j (.val e)) M1
  | _ => .fail := id rfl
def rngR (ds : List D) (M : Sto) : Res (List D) := match ds with
  | [.int j] => if sm62 j then .ok (stpD 0 1 j.toNat) M else .fail
  | _ => .fail
@[simp] theorem zRng1_z : zRng1 l env M = (l env M).bind rngR := id rfl
@[simp] theorem rngR_nat (n : Nat) (h : n ≤ 1000000000) : rngR [.int (n : Int)] M = .ok (stpD 0 1 n) M := by
  have : sm62 (n : Int) = true := by
    simp only [sm62, Bool.and_eq_true, decide_eq_true_eq]
    have : (1000000000 : Int) < 2 ^ 62 := by decide
    have : (-(2 ^ 62) : Int) ≤ 0 := by decide
    omega
  unfold rngR
  simp only [this, if_true, Int.toNat_natCast]
theorem rngR_lit {j : Int} (h : sm62 j = true) : rngR [.int j] M = .ok (stpD 0 1 j.toNat) M := by
  unfold rngR
  simp only [h, if_true]
def tupR (p : Int × Int) (M : Sto) : Res D := if -(2 ^ 62) ≤ p.1 ∧ p.1 < 2 ^ 62 ∧ -(2 ^ 62) ≤ p.2 ∧ p.2 < 2 ^ 62 ∧ (p.2 - p.1).toNat ≤ 2 ^ 24 then .ok (.tup (rngD p.1 p.2)) M else .fail
@[simp] theorem zTupRg_z {r : ZR} : zTupRg r env M = (r env M).bind tupR := id rfl
theorem tupR_ok {a b : Int} (h0 : 0 ≤ a) (h1 : a ≤ 1000000) (h2 : 0 ≤ b) (h3 : b ≤ 1000000) : tupR (a, b) M = .ok (.tup (rngD a b)) M := by
  unfold tupR
  rw [if_pos]
  have h4 : (1000000 : Int) < 2 ^ 62 := by decide
  have h5 : (-(2 ^ 62) : Int) ≤ 0 := by decide
  refine ⟨Int.le_trans h5 h0, Int.lt_of_le_of_lt h1 h4, Int.le_trans h5 h2, Int.lt_of_le_of_lt h3 h4, ?_⟩
  have h6 : 1000000 ≤ 2 ^ 24 := by decide
  show (b - a).toNat ≤ _
  omega
@[simp] theorem zRg2_z : zRg2 za zb env M = (za env M).bind fun d M1 => (zb env M1).bind fun e M2 => match d, e with
  | .int i, .int j => .ok (i, j) M2
  | _, _ => .fail := id rfl
@[simp] theorem zIsi_z {Ts : List String} : zIsi Ts z env M = (z env M).bind fun d M1 => match (deref M1 d).bind (isiD Ts) with
  | some b => .ok (.bl b) M1
  | none => .fail := id rfl
@[simp] theorem zIsC_z {n : String} : zIsC n z env M = (z env M).bind fun d M1 => match deref M1 d with
  | some (.ins c fs) => if c = n then .ok (.bl true) M1 else .fail
  | _ => .fail := id rfl
@[simp] theorem zPart_z : zPart z env M = (z env M).bind fun d M1 => match d with
  | .int i => .ok (some i) M1
  | _ => .fail := id rfl
@[simp] theorem zNoP_z : zNoP env M = .ok none M := id rfl
@[simp] theorem zPut_z : zPut i z za env M = (z env M).toS env fun v M1 => match getPl env M1 i with
  | some _ => (za env M1).toS env fun k M2 => putL env M2 i k v
  | none => .fail := id rfl
@[simp] theorem zApp_z : zApp i z env M = match getPl env M i with
  | some (.lst _) => (z env M).toS env fun v M1 => match getPl env M1 i with
    | some (.lst ds) => if ds.length < sizeLine then .nx (setPl env M1 i (.lst (ds ++ [v]))).1 (setPl env M1 i (.lst (ds ++ [v]))).2 else .fail
    | _ => .fail
  | _ => .fail := id rfl
@[simp] theorem zAugN_z {g : Int → Int → Int} : zAugN i g z env M = match env[i]? with
  | some (.val (.int n)) => (z env M).toS env fun v M1 => match v with
    | .int m => .nx (env.set i (.val (.int (g n m)))) M1
    | _ => .fail
  | _ => .fail := id rfl
@[simp] theorem gAdd_int {a b : Int} : gAdd (.int a) (.int b) M = .ok (.int (a + b)) M := id rfl
@[simp] theorem gSub_int {a b : Int} : gSub (.int a) (.int b) M = .ok (.int (a - b)) M := id rfl
@[simp] theorem gMul_int {a b : Int} : gMul (.int a) (.int b) M = if smallI a ∨ smallI b then .ok (.int (a * b)) M else .fail := id rfl
@[simp] theorem gFdiv_int {a b : Int} : gFdiv (.int a) (.int b) M = if 0 < b ∧ b.natAbs.log2 < 9000 then .ok (.int (a / b)) M else .fail := id rfl
@[simp] theorem gMod_int {a b : Int} : gMod (.int a) (.int b) M = if 0 < b then .ok (.int (a % b)) M else .fail := id rfl
@[simp] theorem gPow_int {a b : Int} : gPow (.int a) (.int b) M = if 0 ≤ b ∧ b ≤ 1000000 ∧ a.natAbs < 2 ^ 64 then .ok (.int (a ^ b.toNat)) M else .fail := id rfl
@[simp] theorem gCmpI_int {p : Int → Int → Bool} {a b : Int} : gCmpI p (.int a) (.int b) M = .ok (.bl (p a b)) M := id rfl
@[simp] theorem gInt_int {a : Int} : gInt [.int a] M = .ok (.int a) M := id rfl
@[simp] theorem gAbs_int {a : Int} : gAbs [.int a] M = .ok (.int (if a < 0 then -a else a)) M := id rfl
@[simp] theorem gLen_lst {ds : List D} : gLen [.lst ds] M = .ok (.int ds.length) M := id rfl
@[simp] theorem gLen_tup {ds : List D} : gLen [.tup ds] M = .ok (.int ds.length) M := id rfl
@[simp] theorem gLen_scr {ns : List Int} : gLen [.scr ns] M = .ok (.int ns.length) M := by simp [gLen, deref, itemsD]
theorem gIx_of {c : D} {ds : List D} (h : itemsD c = some ds) {n : Nat} {x : D} (hx : ds[n]? = some x) (hn : deref M c = some c) : gIx c (.int n) M = .ok x M := by
  have hl := (List.getElem?_eq_some_iff.mp hx).1
  have : (n : Int) < ds.length := by omega
  simp [gIx, hn, h, atI, ixN, this, hx]
theorem gIx_lst {ds : List D} {n : Int} {x : D} (h0 : 0 ≤ n) (hx : ds[n.toNat]? = some x) : gIx (.lst ds) (.int n) M = .ok x M := by
  have := gIx_of (M := M) (c := .lst ds) rfl hx rfl
  rwa [Int.toNat_of_nonneg h0] at this
theorem gIx_tup {ds : List D} {n : Int} {x : D} (h0 : 0 ≤ n) (hx : ds[n.toNat]? = some x) : gIx (.tup ds) (.int n) M = .ok x M := by
  have := gIx_of (M := M) (c := .tup ds) rfl hx rfl
  rwa [Int.toNat_of_nonneg h0] at this
theorem gIx_scr {ns : List Int} {n : Int} {x : Int} (h0 : 0 ≤ n) (hx : ns[n.toNat]? = some x) : gIx (.scr ns) (.int n) M = .ok (.int x) M := by
  have := gIx_of (M := M) (c := .scr ns) rfl (x := .int x) (n := n.toNat) (by simp [hx]) rfl
  rwa [Int.toNat_of_nonneg h0] at this
theorem stpD_get {a c : Int} {n i : Nat} {d : D} (h : (stpD a c n)[i]? = some d) : d = .int (a + i * c) ∧ i < n := by
  simp only [stpD, List.getElem?_map] at h
  cases q : (List.range n)[i]? with
  | none => simp [q] at h
  | some k =>
    have := List.getElem?_eq_some_iff.mp q
    obtain ⟨h1, h2⟩ := this
    simp at h1 h2
    subst h2
    simp [q] at h
    exact ⟨h.symm, h1⟩
@[simp] theorem stpD_len {a c : Int} {n : Nat} : (stpD a c n).length = n := by simp [stpD]
end
def pyAbs (i : Int) : Int := if i < 0 then -i else i
def drawsTail : ZS :=
      (zSeq (zFrz [] (zSet 6 (zOp gMod (zBf gInt (zCons (zOp gAdd (zOp gAdd (zOp gMul (zCv 5) (zK (.int 48271))) (zOp gMul (zCv 4) (zK (.int 69621)))) (zK (.int 11))) zNil)) (zK (.int 2147483647)))))
      (zSeq (zFrz [] (zSet 6 (zOp gMod (zBf gInt (zCons (zOp gAdd (zOp gFdiv (zOp gMul (zCv 6) (zCv 6)) (zK (.int 4096))) (zCv 6)) zNil)) (zK (.int 2147483629)))))
      (zSeq (zFrz [] (zApp 3 (zOp gMod (zBf gInt (zCons (zOp gAdd (zOp gFdiv (zOp gMul (zCv 6) (zCv 6)) (zK (.int 4096))) (zOp gMul (zCv 4) (zK (.int 7919)))) zNil)) (zK (.int 2147483629)))))
      zNx)))
def drawsBody (lf : Lens) : ZS :=
    (zSeq (zFrz [] (zSet 5 (zVar 4)))
      (zSeq (zFrz [] (zIfS (zTst (zOp gGt (zLen lf (zSv 0)) (zK (.int 0))))
    (zSeq (zFrz [] (zSet 7 (zOp gMod (zCv 4) (zLen lf (zSv 0)))))
      (zSeq (zFrz [] (zSet 5 (zBf gInt (zCons (zOp gIx (zCv 0) (zCv 7)) zNil))))
      (zSeq (zFrz [] (zIfS (zAnd (zTst (zOp gGe (zCv 5) (zOp gPow (zK (.int 10)) (zK (.int 18))))) (zTst (zOp gGt (zOp gIx (zCv 2) (zCv 7)) (zK (.int 0)))))
    (zSeq (zFrz [] (zApp 3 (zOp gMod (zBf gInt (zCons (zOp gIx (zCv 2) (zCv 7)) zNil)) (zK (.int 1000003)))))
      (zSeq (zFrz [] (zPut 2 (zOp gFdiv (zBf gInt (zCons (zOp gIx (zCv 2) (zCv 7)) zNil)) (zK (.int 1000003))) (zVar 7)))
      (zSeq (zFrz [] zCt)
      zNx)))
    zNx))
      zNx)))
    zNx))
      drawsTail))
def drawsY (lf : Lens) : ZS :=
  (zSeq (zFrz [] (zSetO 2 (zLc (zSeqI (zBv 0)) (tgN 5) (fun _ M => .ok true M) (zBf gAbs (zCons (zBf gInt (zCons (zCv 5) zNil)) zNil)) [5])))
      (zSeq (zFrz [] (zSetO 3 (zLst zNil)))
      (zSeq (zFrz [] (zFor (zRng1 (zCons (zVar 1) zNil)) (tgN 4) (drawsBody lf)))
      (zSeq (zFrz [3] (zRet (zVar 3)))
      zNx))))
theorem small_mod {a b : Int} (h : 0 < b) (hb : b < 2 ^ 64) : smallI (a % b) := ⟨by have := Int.emod_nonneg a (b := b) (by omega); omega, by have := Int.emod_lt_of_pos a h; omega⟩
theorem sm1 : smallI 48271 := by decide
theorem sm2 : smallI 69621 := by decide
theorem sm3 : smallI 7919 := by decide
theorem lg4096 : (4096 : Int).natAbs.log2 < 9000 := by decide
theorem lg4096' : Nat.log2 4096 < 9000 := by decide
theorem lgM : Nat.log2 1000003 < 9000 := by decide
theorem drawsTail_ok {s n e2 e6 e7 : Sl} {M : Sto} {ds : List D} {k c : Int} (hl : ds.length < sizeLine) : ∃ x y, drawsTail [s, n, e2, .own (.lst ds), .val (.int k), .val (.int c), e6, e7] M = .nx [s, n, e2, .own (.lst (ds ++ [.int x])), .val (.int k), .val (.int c), y, e7] M := by
  have s6 : ∀ z : Int, smallI (z % 2147483647) := fun z => small_mod (by decide) (by decide)
  have s7 : ∀ z : Int, smallI (z % 2147483629) := fun z => small_mod (by decide) (by decide)
  simp [drawsTail, sm1, sm2, sm3, s6, s7, lg4096', getPl, setPl, hl]
theorem drawsBody_ok {lf : Lens} {n e4 e5 e6 e7 : Sl} {M : Sto} {ns rs : List Int} {ds : List D} {k : Nat} (hr : rs.length = ns.length) (hl : ds.length < sizeLine) :
    ∃ x e5' e6' e7', ∃ rs' : List Int, rs'.length = ns.length ∧ (drawsBody lf [.val (.scr ns), n, .own (.lst (rs.map .int)), .own (.lst ds), .val (.int (k : Nat)), e5, e6, e7] M = .nx [.val (.scr ns), n, .own (.lst (rs'.map .int)), .own (.lst (ds ++ [.int x])), .val (.int (k : Nat)), e5', e6', e7'] M ∨ drawsBody lf [.val (.scr ns), n, .own (.lst (rs.map .int)), .own (.lst ds), .val (.int (k : Nat)), e5, e6, e7] M = .ct [.val (.scr ns), n, .own (.lst (rs'.map .int)), .own (.lst (ds ++ [.int x])), .val (.int (k : Nat)), e5', e6', e7'] M) := by
  by_cases h0 : ns = []
  · subst h0
    obtain ⟨x, y, e⟩ := drawsTail_ok (s := .val (.scr [])) (n := n) (e2 := .own (.lst (rs.map .int))) (e6 := e6) (e7 := e7) (M := M) (ds := ds) (k := k) (c := k) hl
    refine ⟨x, .val (.int k), y, e7, rs, hr, .inl ?_⟩
    simp [drawsBody, e]
  · have hp : 0 < ns.length := List.length_pos_iff.mpr h0
    have hm : k % ns.length < ns.length := Nat.mod_lt _ hp
    have hm' : k % ns.length < rs.length := by omega
    have gs : gIx (.scr ns) (.int ((k : Int) % (ns.length : Int))) M = .ok (.int ns[k % ns.length]) M := gIx_scr (by omega) (by rw [← Int.natCast_emod, Int.toNat_natCast]; exact List.getElem?_eq_getElem hm)
    have gr : ∀ M, gIx (.lst (rs.map .int)) (.int ((k : Int) % (ns.length : Int))) M = .ok (.int rs[k % ns.length]) M := fun M => gIx_lst (by omega) (by rw [← Int.natCast_emod, Int.toNat_natCast, List.getElem?_map, List.getElem?_eq_getElem hm']; rfl)
    by_cases hc : (10 : Int) ^ 18 ≤ ns[k % ns.length] ∧ 0 < rs[k % ns.length]
    · refine ⟨rs[k % ns.length] % 1000003, .val (.int ns[k % ns.length]), e6, .val (.int ((k : Int) % ns.length)), rs.set (k % ns.length) (rs[k % ns.length] / 1000003), by simpa using hr, .inr ?_⟩
      have h1 : (1000000000000000000 : Int) ≤ ns[k % ns.length] := hc.1
      have h3 : ((k : Int) % (ns.length : Int)) < (rs.length : Int) := by rw [← Int.natCast_emod]; omega
      have h4 : 0 ≤ ((k : Int) % (ns.length : Int)) := by omega
      have h6 : ((k : Int) % (ns.length : Int)).toNat = k % ns.length := by rw [← Int.natCast_emod, Int.toNat_natCast]
      simp [drawsBody, hp, gs, gr, h1, hc.2, lgM, getPl, setPl, hl, putL, ixN, h3, h4, h6]
    · obtain ⟨x, y, e⟩ := drawsTail_ok (s := .val (.scr ns)) (n := n) (e2 := .own (.lst (rs.map .int))) (e6 := e6) (e7 := .val (.int ((k : Int) % ns.length))) (M := M) (ds := ds) (k := k) (c := ns[k % ns.length]) hl
      refine ⟨x, .val (.int ns[k % ns.length]), y, .val (.int ((k : Int) % ns.length)), rs, hr, .inl ?_⟩
      rw [← e]
      by_cases h1 : (1000000000000000000 : Int) ≤ ns[k % ns.length]
      · have h2 : ¬ 0 < rs[k % ns.length] := fun h => hc ⟨h1, h⟩
        simp [drawsBody, hp, gs, gr, h1, h2]
      · simp [drawsBody, hp, gs, gr, h1]
theorem draws_rests {M : Sto} {ns : List Int} {m : Nat} (hns : ns.length ≤ 1000) : zLc (zSeqI (zBv 0)) (tgN 5) (fun _ M => .ok true M) (zBf gAbs (zCons (zBf gInt (zCons (zCv 5) zNil)) zNil)) [5] [.val (.scr ns), .val (.int m), .no, .no, .no, .no, .no, .no] M = .ok (.lst ((ns.map pyAbs).map .int)) M := by
  have c1 : zLc (zSeqI (zBv 0)) (tgN 5) (fun _ M => .ok true M) (zBf gAbs (zCons (zBf gInt (zCons (zCv 5) zNil)) zNil)) [5] [.val (.scr ns), .val (.int m), .no, .no, .no, .no, .no, .no] M = .ok (.lst ((ns.map D.int).map fun d => match d with
      | D.int i => D.int (pyAbs i)
      | d => d)) M := by
    refine zLc_map _ (ds := ns.map .int) rfl rfl (by rw [List.length_map]; exact Nat.le_trans hns (by decide)) fun d hd => ?_
    obtain ⟨n, _, rfl⟩ := List.mem_map.mp hd
    exact ⟨_, rfl, by simp [wipeE, pyAbs]⟩
  rw [List.map_map] at c1
  have c2 : (fun d => match d with
      | D.int i => D.int (pyAbs i)
      | d => d) ∘ D.int = D.int ∘ pyAbs := rfl
  rw [c2, ← List.map_map] at c1
  exact c1
end Zy
set_option maxHeartbeats 2000000
namespace Zy
open PySem PySem.Spec PyProof.Rows L2
def BodyOk (y : ZS) : Prop := ∀ {n e5 e6 e7 : Sl} {M : Sto} {ns rs : List Int} {ds : List D} {k : Nat}, rs.length = ns.length → ds.length < sizeLine →
    ∃ x e5' e6' e7', ∃ rs' : List Int, rs'.length = ns.length ∧ (y [.val (.scr ns), n, .own (.lst (rs.map .int)), .own (.lst ds), .val (.int (k : Nat)), e5, e6, e7] M = .nx [.val (.scr ns), n, .own (.lst (rs'.map .int)), .own (.lst (ds ++ [.int x])), .val (.int (k : Nat)), e5', e6', e7'] M ∨ y [.val (.scr ns), n, .own (.lst (rs.map .int)), .own (.lst ds), .val (.int (k : Nat)), e5, e6, e7] M = .ct [.val (.scr ns), n, .own (.lst (rs'.map .int)), .own (.lst (ds ++ [.int x])), .val (.int (k : Nat)), e5', e6', e7'] M)
theorem bodyOk {lf : Lens} : BodyOk (drawsBody lf) := fun h1 h2 => drawsBody_ok (e4 := .no) h1 h2
theorem draws_loop {y : ZS} (hy : BodyOk y) {M : Sto} {ns rs0 : List Int} {m : Nat} (hr0 : rs0.length = ns.length) (hm : m ≤ 1000) :
    ∃ e2 e4 e5 e6 e7, ∃ ds : List Int, zFor (zRng1 (zCons (zVar 1) zNil)) (tgN 4) y [.val (.scr ns), .val (.int m), .own (.lst (rs0.map .int)), .own (.lst []), .no, .no, .no, .no] M = .nx [.val (.scr ns), .val (.int m), e2, .own (.lst (ds.map .int)), e4, e5, e6, e7] M := by
  have hz : zRng1 (zCons (zVar 1) zNil) [.val (.scr ns), .val (.int m), .own (.lst (rs0.map .int)), .own (.lst []), .no, .no, .no, .no] M = .ok (stpD 0 1 m) M := by simp [rngR_nat m (by omega)]
  refine zFor_gen (I := fun i env M' => ∃ e4 e5 e6 e7, ∃ rs ds : List Int, env = [.val (.scr ns), .val (.int m), .own (.lst (rs.map .int)), .own (.lst (ds.map .int)), e4, e5, e6, e7] ∧ rs.length = ns.length ∧ ds.length = i ∧ M' = M)
    (Q := fun o => ∃ e2 e4 e5 e6 e7, ∃ ds : List Int, o = .nx [.val (.scr ns), .val (.int m), e2, .own (.lst (ds.map .int)), e4, e5, e6, e7] M) hz
    ⟨.no, .no, .no, .no, rs0, [], rfl, hr0, rfl, rfl⟩ (fun i d env M' hi h => ?_) fun env M' h => ?_
  · obtain ⟨e4, e5, e6, e7, rs, ds, rfl, h1, h2, rfl⟩ := h
    obtain ⟨rfl, hlt⟩ := stpD_get hi
    obtain ⟨x, e5', e6', e7', rs', h3, h4⟩ := hy (n := .val (.int m)) (e5 := e5) (e6 := e6) (e7 := e7) (M := M') (ns := ns) (rs := rs) (ds := ds.map .int) (k := i) h1 (by rw [List.length_map, h2]; exact Nat.lt_of_lt_of_le hlt (Nat.le_trans hm (by decide)))
    refine ⟨_, rfl, ?_⟩
    simp only [Int.zero_add, Int.mul_one, List.set_cons_succ, List.set_cons_zero]
    rcases h4 with h4 | h4 <;> rw [h4] <;> exact ⟨.val (.int i), e5', e6', e7', rs', ds ++ [x], by simp, h3, by simp [h2], rfl⟩
  · obtain ⟨e4, e5, e6, e7, rs, ds, rfl, h1, h2, rfl⟩ := h
    exact ⟨_, _, _, _, _, ds, rfl⟩
theorem draws_seq {z : ZX} {y : ZS} {M : Sto} {ns : List Int} {m : Nat} {r : D}
    (c1 : z [.val (.scr ns), .val (.int m), .no, .no, .no, .no, .no, .no] M = .ok r M) {e2 e4 e5 e6 e7 : Sl} {ds : List Int}
    (c3 : y [.val (.scr ns), .val (.int m), .own r, .own (.lst []), .no, .no, .no, .no] M = .nx [.val (.scr ns), .val (.int m), e2, .own (.lst (ds.map .int)), e4, e5, e6, e7] M) :
    zFun 2 8 (zSeq (zFrz [] (zSetO 2 z)) (zSeq (zFrz [] (zSetO 3 (zLst zNil))) (zSeq (zFrz [] y) (zSeq (zFrz [3] (zRet (zVar 3))) zNx)))) [.val (.scr ns), .val (.int m)] M = .ok (.lst (ds.map .int)) M := by
  unfold zFun
  simp [c1, c3, zFrz, frz]
theorem draws_ok {lf : Lens} {M : Sto} {ns : List Int} {m : Nat} (hns : ns.length ≤ 1000) (hm : m ≤ 1000) : ∃ ds : List Int, zFun 2 8 (drawsY lf) [.val (.scr ns), .val (.int m)] M = .ok (.lst (ds.map .int)) M := by
  obtain ⟨e2, e4, e5, e6, e7, ds, c3⟩ := draws_loop (bodyOk (lf := lf)) (M := M) (ns := ns) (rs0 := ns.map pyAbs) (m := m) (List.length_map ..) hm
  exact ⟨ds, draws_seq (draws_rests (M := M) (m := m) hns) c3⟩
end Zy
set_option maxHeartbeats 2000000
namespace Zy
open PySem PySem.Spec PyProof.Rows L2
/-! what many laws share: the hand, plain values, cuts -/
section
variable {M : Sto}
@[simp] theorem gEq_int {a b : Int} : gEq (.int a) (.int b) M = .ok (.bl (decide (a = b))) M := by
  show (match eqD2 (.int a) (.int b) with
    | some b => Res.ok (D.bl (if false then !b else b)) M
    | none => .fail) = _
  have : eqD2 (.int a) (.int b) = some (decide (a = b)) := by
    show (if SeqAt.shaped (.int a) = true ∧ SeqAt.shaped (.int b) = true then some (PyData.eqv (.int a) (.int b)) else none) = _
    rw [if_pos ⟨rfl, rfl⟩]
    simp [PyData.eqv, Bool.beq_eq_decide_eq]
  rw [this]; rfl
theorem gNe_bl {a : Bool} : gNe (.bl a) (.bl a) M = .ok (.bl false) M := by
  cases a <;> rfl
theorem gNe_str {a b : Str} : gNe (.str a) (.str b) M = .ok (.bl (!decide (a = b))) M := rfl
@[simp] theorem gNe_strs {a : Str} : gNe (.str a) (.str a) M = .ok (.bl false) M := by
  rw [gNe_str]; simp
theorem gAdd_tup {a b : List D} (h : a.length + b.length ≤ 1000) : gAdd (.tup a) (.tup b) M = .ok (.tup (a ++ b)) M := by
  show (if a.length + b.length ≤ sizeLine then Res.ok (D.tup (a ++ b)) M else .fail) = _
  rw [if_pos (Nat.le_trans h (by decide))]
theorem cutD_len (ds : List D) (lo hi : Option Int) : (cutD ds lo hi).length ≤ ds.length := by
  unfold cutD
  rw [List.length_take, List.length_drop]
  omega
theorem cutD_mem {ds : List D} {lo hi : Option Int} {d : D} (h : d ∈ cutD ds lo hi) : d ∈ ds := List.mem_of_mem_drop (List.mem_of_mem_take h)
end
/-- values without hidden parts -/
def pl : D → Bool
  | .non | .bl _ | .int _ | .str _ | .tup _ | .lst _ => true
  | _ => false
def Pls (ds : List D) : Prop := ∀ d ∈ ds, pl d = true
theorem Pls.app {a b : List D} (h : Pls a) (k : Pls b) : Pls (a ++ b) := fun d m => (List.mem_append.mp m).elim (h d) (k d)
theorem Pls.cut {a : List D} {lo hi : Option Int} (h : Pls a) : Pls (cutD a lo hi) := fun d m => h d (cutD_mem m)
theorem Pls.ints (ns : List Int) : Pls (ns.map .int) := fun d m => by
  obtain ⟨n, _, rfl⟩ := List.mem_map.mp m
  rfl
/-- a value and its parts -/
def Plv (d : D) : Prop := pl d = true ∧ ∀ ds, itemsD d = some ds → Pls ds
theorem pl_deref {d : D} {M : Sto} (h : pl d = true) : deref M d = some d := by
  cases d <;> first | rfl | cases h
def okC : D → Bool
  | .int i => decide (1 ≤ i)
  | _ => false
def sumD (ds : List D) : Int := ((intsD ds).getD []).sum
def cutV (n : Int) (d : D) : Bool := match d with
  | .tup ds | .lst ds => ds.all okC && decide (sumD ds = n)
  | _ => false
theorem okC_ints : ∀ {ds : List D}, ds.all okC = true → ∃ ns : List Int, ds = ns.map .int
  | [], _ => ⟨[], rfl⟩
  | d :: ds, h => by
    rw [List.all_cons, Bool.and_eq_true] at h
    obtain ⟨ns, rfl⟩ := okC_ints h.2
    cases d with
    | int i => exact ⟨i :: ns, rfl⟩
    | _ => cases h.1
theorem intsD_ints : ∀ ns : List Int, intsD (ns.map .int) = some ns
  | [] => rfl
  | n :: ns => by simp [intsD, intsD_ints ns]
/-- the hand of the laws: one cell -/
def Hd (M : Sto) : Prop := ∃ (ns : List Int) (p : Int), M = [.lst [.lst (ns.map .int), .int p]] ∧ 0 ≤ p
def TakeOk (f : Sem1) : Prop := ∀ M (m : Int), Hd M → 0 < m → ∃ r M', 0 ≤ r ∧ r < m ∧ Hd M' ∧ f [.val (.ref 0), .val (.int m)] M = .ok (.int r) M'
theorem takeOk {lf : Lens} : TakeOk (zFun 2 4 (takeY lf)) := fun M m h hm => by
  obtain ⟨ns, p, rfl, hp⟩ := h
  obtain ⟨r, h1, h2, h3⟩ := take_ok (h := 0) (M := [.lst [.lst (ns.map .int), .int p]]) (ns := ns) (p := p) (m := m) rfl hp hm
  exact ⟨r, _, h1, h2, ⟨ns, p + 1, rfl, by omega⟩, h3⟩
theorem len_le_sum : ∀ {cs : List Int}, (∀ c ∈ cs, 1 ≤ c) → (cs.length : Int) ≤ cs.sum
  | [], _ => Int.le_refl _
  | c :: cs, h => by
    have h1 := h c (List.mem_cons_self ..)
    have h2 := len_le_sum fun d m => h d (List.mem_cons_of_mem _ m)
    rw [List.length_cons, List.sum_cons]
    omega
/-- a drawn cut of n into parts that are at least 1 -/
def Cut (n : Nat) (cs : List Int) : Prop := (∀ c ∈ cs, 1 ≤ c) ∧ cs.sum = n
theorem Cut.len {n : Nat} {cs : List Int} (h : Cut n cs) : cs.length ≤ n := by
  have := len_le_sum h.1
  rw [h.2] at this
  omega
theorem zCall2 {f : Sem1} {zs : ZSl} {env : Ev} {M M1 : Sto} {a b : Sl} (h : zs env M = .ok [a, b] M1) : zCall f 2 0 [0, 1] [] zs sNil env M = f [a, b] M1 := by
  unfold zCall
  rw [h]
  rfl
theorem zCall1 {f : Sem1} {zs : ZSl} {env : Ev} {M M1 : Sto} {a : Sl} (h : zs env M = .ok [a] M1) : zCall f 1 0 [0] [] zs sNil env M = f [a] M1 := by
  unfold zCall
  rw [h]
  rfl
theorem zCall3 {f : Sem1} {zs : ZSl} {env : Ev} {M M1 : Sto} {a b c : Sl} (h : zs env M = .ok [a, b, c] M1) : zCall f 3 0 [0, 1, 2] [] zs sNil env M = f [a, b, c] M1 := by
  unfold zCall
  rw [h]
  rfl
theorem zCallK1 {f : Sem1} {zk : ZSl} {env : Ev} {M M1 : Sto} {a : Sl} (h : zk env M = .ok [a] M1) : zCall f 0 1 [0] [] sNil zk env M = f [a] M1 := by
  unfold zCall
  show ((zk env M).bind _) = _
  rw [h]
  rfl
theorem zCallK2 {f : Sem1} {zk : ZSl} {env : Ev} {M M1 : Sto} {a b : Sl} (h : zk env M = .ok [a, b] M1) : zCall f 0 2 [0, 1] [] sNil zk env M = f [a, b] M1 := by
  unfold zCall
  show ((zk env M).bind _) = _
  rw [h]
  rfl
end Zy
set_option maxHeartbeats 2000000
namespace Zy
open PySem PySem.Spec PyProof.Rows L2
def callR (f : Sem1) (n m : Nat) (is : List Nat) (dd : List D) (as bs : List Sl) (M : Sto) : Res D := if as.length = n ∧ bs.length = m then match perm (as ++ bs ++ dd.map .val) is with
    | some ys => f ys M
    | none => .fail else .fail
@[simp] theorem zCall_z {f : Sem1} {n m : Nat} {is : List Nat} {dd : List D} {zs zk : ZSl} {env : Ev} {M : Sto} : zCall f n m is dd zs zk env M = (zs env M).bind fun as M1 => (zk env M1).bind fun bs M2 => callR f n m is dd as bs M2 := id rfl
@[simp] theorem callR1 {f : Sem1} {a : Sl} {M : Sto} : callR f 1 0 [0] [] [a] [] M = f [a] M := id rfl
@[simp] theorem callR2 {f : Sem1} {a b : Sl} {M : Sto} : callR f 2 0 [0, 1] [] [a, b] [] M = f [a, b] M := id rfl
@[simp] theorem callR3 {f : Sem1} {a b c : Sl} {M : Sto} : callR f 3 0 [0, 1, 2] [] [a, b, c] [] M = f [a, b, c] M := id rfl
@[simp] theorem callRk1 {f : Sem1} {a : Sl} {M : Sto} : callR f 0 1 [0] [] [] [a] M = f [a] M := id rfl
@[simp] theorem callRk2 {f : Sem1} {a b : Sl} {M : Sto} : callR f 0 2 [0, 1] [] [] [a, b] M = f [a, b] M := id rfl
@[simp] theorem sizeLine_big {n : Nat} (h : n ≤ 1000) : n ≤ sizeLine := Nat.le_trans h (by decide)
theorem gIx_get {ds : List D} {n : Int} {M : Sto} (h0 : 0 ≤ n) (h1 : n < ds.length) : ∃ x, x ∈ ds ∧ ds[n.toNat]? = some x ∧ gIx (.lst ds) (.int n) M = .ok x M := by
  have hl : n.toNat < ds.length := by omega
  exact ⟨ds[n.toNat], List.getElem_mem hl, List.getElem?_eq_getElem hl, gIx_lst h0 (List.getElem?_eq_getElem hl)⟩

/-! what repr answers, by size -/
structure Sm (k w : Nat) (p : PyData) : Prop where
  sh : p.showable = true
  hd : p.hasDict = false
  dp : p.depth ≤ k
  lv : p.leavesShort 13 = true
  we : p.weight ≤ w
theorem log_small {k : Nat} (h : k ≤ 1000) : k.log2 < 10 := by
  by_cases hn : k = 0
  · subst hn; decide
  · exact (Nat.log2_lt hn).mpr (Nat.lt_of_le_of_lt h (by decide))
theorem Sm.int {i : Int} (h0 : 0 ≤ i) (h : i ≤ 1000) : Sm 0 10 (.int i) := by
  refine ⟨?_, rfl, Nat.le_refl _, ?_, ?_⟩
  · simp only [PyData.showable, decide_eq_true_eq]
    exact Nat.lt_trans (log_small (by omega)) (by decide)
  · simp only [PyData.leavesShort, decide_eq_true_eq]
    exact PyData.shown_int_le (Nat.lt_of_le_of_lt (show i.natAbs ≤ 1000 by omega) (by decide))
  · simp only [PyData.weight]
    split
    · decide
    · have := log_small (k := i.natAbs) (by omega)
      omega
theorem smAll {k w : Nat} : ∀ {xs : List PyData}, (∀ x ∈ xs, Sm k w x) → PyData.showableAll xs = true ∧ PyData.hasDictAll xs = false ∧ PyData.depthAll xs ≤ k ∧ PyData.leavesShortAll 13 xs = true ∧ PyData.weightAll xs ≤ xs.length * (w + 1)
  | [], _ => ⟨rfl, rfl, Nat.zero_le _, rfl, Nat.zero_le _⟩
  | x :: xs, h => by
    obtain ⟨a1, a2, a3, a4, a5⟩ := smAll fun y m => h y (List.mem_cons_of_mem _ m)
    obtain ⟨b1, b2, b3, b4, b5⟩ := h x (List.mem_cons_self ..)
    refine ⟨?_, ?_, ?_, ?_, ?_⟩
    · simp [PyData.showableAll, a1, b1]
    · simp [PyData.hasDictAll, a2, b2]
    · simp only [PyData.depthAll]; omega
    · simp [PyData.leavesShortAll, a4, b4]
    · simp only [PyData.weightAll, List.length_cons]
      rw [Nat.add_mul]
      omega
theorem Sm.list {k w m : Nat} {xs : List PyData} (h : ∀ x ∈ xs, Sm k w x) (hl : xs.length ≤ m) : Sm (k + 1) (m * (w + 1)) (.list xs) := by
  obtain ⟨a1, a2, a3, a4, a5⟩ := smAll h
  refine ⟨by simpa only [PyData.showable] using a1, by simpa only [PyData.hasDict] using a2, ?_, by simpa only [PyData.leavesShort] using a4, ?_⟩
  · simp only [PyData.depth]; omega
  · simp only [PyData.weight]; exact Nat.le_trans a5 (Nat.mul_le_mul_right _ hl)
theorem Sm.tuple {k w m : Nat} {xs : List PyData} (h : ∀ x ∈ xs, Sm k w x) (hl : xs.length ≤ m) : Sm (k + 1) (m * (w + 1)) (.tuple xs) := by
  obtain ⟨a1, a2, a3, a4, a5⟩ := smAll h
  refine ⟨by simpa only [PyData.showable] using a1, by simpa only [PyData.hasDict] using a2, ?_, by simpa only [PyData.leavesShort] using a4, ?_⟩
  · simp only [PyData.depth]; omega
  · simp only [PyData.weight]; exact Nat.le_trans a5 (Nat.mul_le_mul_right _ hl)
def RD (k w : Nat) (d : D) : Prop := ∃ p, toPy d = some p ∧ Sm k w p
theorem RD.all {k w : Nat} : ∀ {ds : List D}, (∀ d ∈ ds, RD k w d) → ∃ ps, toPys ds = some ps ∧ ps.length = ds.length ∧ ∀ p ∈ ps, Sm k w p
  | [], _ => ⟨[], rfl, rfl, fun _ m => nomatch m⟩
  | d :: ds, h => by
    obtain ⟨ps, e, l, s⟩ := RD.all fun y m => h y (List.mem_cons_of_mem _ m)
    obtain ⟨p, e1, s1⟩ := h d (List.mem_cons_self ..)
    exact ⟨p :: ps, by simp [toPys, e, e1], by simp [l], fun q m => (List.mem_cons.mp m).elim (fun z => z ▸ s1) (s q)⟩
theorem RD.tup {k w m : Nat} {ds : List D} (h : ∀ d ∈ ds, RD k w d) (hl : ds.length ≤ m) : RD (k + 1) (m * (w + 1)) (.tup ds) := by
  obtain ⟨ps, e, l, s⟩ := RD.all h
  exact ⟨.tuple ps, by simp [toPy, e], Sm.tuple s (by omega)⟩
theorem RD.lst {k w m : Nat} {ds : List D} (h : ∀ d ∈ ds, RD k w d) (hl : ds.length ≤ m) : RD (k + 1) (m * (w + 1)) (.lst ds) := by
  obtain ⟨ps, e, l, s⟩ := RD.all h
  exact ⟨.list ps, by simp [toPy, e], Sm.list s (by omega)⟩
theorem RD.int {i : Int} (h0 : 0 ≤ i) (h : i ≤ 1000) : RD 0 10 (.int i) := ⟨.int i, rfl, Sm.int h0 h⟩
def ReprOk (d : D) : Prop := ∃ s, ∀ M, gRepr [d] M = .ok (.str s) M
theorem toPy_deref {d : D} {p : PyData} {M : Sto} (h : toPy d = some p) : deref M d = some d := by
  cases d <;> first | rfl | (cases h; done)
theorem RD.repr {k w : Nat} {d : D} (h : RD k w d) (hk : k ≤ 60) (hw : w ≤ 2 ^ 20) : ReprOk d := by
  obtain ⟨p, e, s⟩ := h
  refine ⟨p.shown, fun M => ?_⟩
  have hr : reprD d = some p.shown := by
    unfold reprD
    rw [e]
    exact if_pos ⟨s.sh, s.hd, Nat.le_trans s.dp hk, PyData.shown_fits (by decide) (by decide) s.lv (Nat.le_trans s.we hw)⟩
  unfold gRepr
  simp only [toPy_deref e, Option.bind_some, hr]
end Zy
set_option maxHeartbeats 2000000
namespace Zy
open PySem PySem.Spec PyProof.Rows L2
@[simp] theorem itemsD_lst {ds : List D} : itemsD (.lst ds) = some ds := id rfl
@[simp] theorem itemsD_tup {ds : List D} : itemsD (.tup ds) = some ds := id rfl
/-! comprehensions over plain data -/
abbrev yes : ZB := fun _ M => .ok true M
section
variable {env : Ev} {M M1 : Sto} {z za zb ze : ZX} {vs : List Nat} {i j : Nat} {d e : D} {α β : Type}
theorem lcSeq {r : List α} {ga : α → D} (f : α → D) (ha : za env M = .ok d M1) (hd : itemsD d = some (r.map ga)) (hno : noOwn env vs = true) (hl : r.length ≤ 1000)
    (hz : ∀ x ∈ r, ze ((wipeE env vs).set i (.val (ga x))) M1 = .ok (f x) M1) : zLc (zSeqI za) (tgN i) yes ze vs env M = .ok (.lst (r.map f)) M1 := by
  obtain ⟨acc, M', e0, h1, h2⟩ := zLc_gen (zt := yes) (ze := ze) (gz := tgN i) (ds := r.map ga) (M1 := M1) (show zSeqI za env M = .ok (r.map ga) M1 by simp only [zSeqI_z, ha, Res.bind_ok, hd]) hno (fun k acc M => acc = (r.take k).map f ∧ M = M1) ⟨by simp, rfl⟩ fun k x acc M hx h => by
    obtain ⟨rfl, rfl⟩ := h
    rw [List.getElem?_map] at hx
    cases q : r[k]? with
    | none => rw [q] at hx; cases hx
    | some y =>
      rw [q] at hx
      cases hx
      have hk := (List.getElem?_eq_some_iff.mp q).1
      refine ⟨_, true, M, rfl, rfl, ?_⟩
      rw [if_pos rfl]
      refine ⟨f y, M, hz y (List.mem_of_getElem? q), ?_, ?_, rfl⟩
      · rw [List.length_map, List.length_take]
        exact Nat.lt_of_lt_of_le (show min k r.length < 1001 by omega) (by decide)
      · rw [List.take_add_one, q]
        simp
  rw [e0, h1, h2, List.length_map, List.take_length]
theorem lcZip {r : List α} {v : List β} {ga : α → D} {gb : β → D} (f : α → β → D) (ha : za env M = .ok d M) (hb : zb env M = .ok e M) (hd : itemsD d = some (r.map ga)) (he : itemsD e = some (v.map gb)) (hno : noOwn env vs = true) (hl : r.length ≤ 1000)
    (hz : ∀ x ∈ r, ∀ y ∈ v, ze (((wipeE env vs).set i (.val (ga x))).set j (.val (gb y))) M = .ok (f x y) M) : zLc (zZip za zb) (tgT [i, j]) yes ze vs env M = .ok (.lst (List.zipWith f r v)) M := by
  have hlen : (zipD (r.map ga) (v.map gb)).length = min r.length v.length := by rw [zipD_len, List.length_map, List.length_map]
  obtain ⟨acc, M', e0, h1, h2⟩ := zLc_gen (zt := yes) (ze := ze) (gz := tgT [i, j]) (ds := zipD (r.map ga) (v.map gb)) (M1 := M) (show zZip za zb env M = .ok _ M by simp only [zZip_z, ha, hb, Res.bind_ok]; exact zipR_ok hd he) hno (fun k acc M2 => acc = (List.zipWith f r v).take k ∧ M2 = M) ⟨by simp, rfl⟩ fun k x acc M2 hx h => by
    obtain ⟨rfl, rfl⟩ := h
    obtain ⟨x1, y1, q1, q2, rfl⟩ := zipD_at hx
    rw [List.getElem?_map] at q1 q2
    cases p1 : r[k]? with
    | none => rw [p1] at q1; cases q1
    | some a =>
      cases p2 : v[k]? with
      | none => rw [p2] at q2; cases q2
      | some b =>
        rw [p1] at q1
        rw [p2] at q2
        cases q1
        cases q2
        have hk := (List.getElem?_eq_some_iff.mp p1).1
        refine ⟨_, true, M2, rfl, rfl, ?_⟩
        rw [if_pos rfl]
        refine ⟨f a b, M2, hz a (List.mem_of_getElem? p1) b (List.mem_of_getElem? p2), ?_, ?_, rfl⟩
        · rw [List.length_take, List.length_zipWith]
          exact Nat.lt_of_lt_of_le (show min k (min r.length v.length) < 1001 by omega) (by decide)
        · rw [List.take_add_one, List.getElem?_zipWith, p1, p2]
          simp
  rw [e0, h1, h2, hlen, List.take_of_length_le (by rw [List.length_zipWith]; exact Nat.le_refl _)]
theorem lcRng {n : Nat} (f : Nat → D) (ha : za env M = .ok (.int n) M1) (hno : noOwn env vs = true) (hl : n ≤ 1000)
    (hz : ∀ k, k < n → ze ((wipeE env vs).set i (.val (.int (k : Nat)))) M1 = .ok (f k) M1) : zLc (zRng1 (zCons za zNil)) (tgN i) yes ze vs env M = .ok (.lst ((List.range n).map f)) M1 := by
  have hr : zRng1 (zCons za zNil) env M = .ok (stpD 0 1 n) M1 := by simp [ha, rngR_nat n (by omega)]
  obtain ⟨acc, M', e0, h1, h2⟩ := zLc_gen (zt := yes) (ze := ze) (gz := tgN i) hr hno (fun k acc M => acc = ((List.range n).map f).take k ∧ M = M1) ⟨by simp, rfl⟩ fun k x acc M hx h => by
    obtain ⟨rfl, rfl⟩ := h
    obtain ⟨rfl, hk⟩ := stpD_get hx
    refine ⟨_, true, M, rfl, rfl, ?_⟩
    rw [if_pos rfl]
    refine ⟨f k, M, ?_, ?_, ?_, rfl⟩
    · have := hz k hk
      simpa using this
    · rw [List.length_take, List.length_map, List.length_range]
      exact Nat.lt_of_lt_of_le (show min k n < 1001 by omega) (by decide)
    · rw [List.take_add_one, List.getElem?_map, List.getElem?_range hk]
      simp
  rw [e0, h1, h2, stpD_len, List.take_of_length_le (by rw [List.length_map, List.length_range]; exact Nat.le_refl _)]
/-- [.. for k in range(n)], the store changes -/
theorem lcRngS {n : Nat} (P : Nat → List D → Sto → Prop) (ha : za env M = .ok (.int n) M1) (hno : noOwn env vs = true) (hl : n ≤ 1000) (h0 : P 0 [] M1)
    (hz : ∀ k acc M2, k < n → acc.length = k → P k acc M2 → ∃ y M3, ze ((wipeE env vs).set i (.val (.int (k : Nat)))) M2 = .ok y M3 ∧ P (k + 1) (acc ++ [y]) M3) :
    ∃ acc M', zLc (zRng1 (zCons za zNil)) (tgN i) yes ze vs env M = .ok (.lst acc) M' ∧ acc.length = n ∧ P n acc M' := by
  have hr : zRng1 (zCons za zNil) env M = .ok (stpD 0 1 n) M1 := by simp [ha, rngR_nat n (by omega)]
  obtain ⟨acc, M', e0, h1, h2⟩ := zLc_gen (zt := yes) (ze := ze) (gz := tgN i) hr hno (fun k acc M => acc.length = k ∧ P k acc M) ⟨rfl, h0⟩ fun k x acc M hx h => by
    obtain ⟨rfl, hk⟩ := stpD_get hx
    obtain ⟨y, M3, e1, p1⟩ := hz k acc M hk h.1 h.2
    refine ⟨_, true, M, rfl, rfl, ?_⟩
    rw [if_pos rfl]
    refine ⟨y, M3, ?_, ?_, ?_, p1⟩
    · simpa using e1
    · rw [h.1]
      exact Nat.lt_of_lt_of_le (show k < 1001 by omega) (by decide)
    · simp [h.1]
  rw [stpD_len] at h1 h2
  exact ⟨acc, M', e0, h1, h2⟩
theorem deref_items {ds : List D} (h : itemsD d = some ds) : deref M d = some d := by
  cases d <;> first | rfl | (cases h; done)
theorem tupOf_lst {ds : List D} (h : z env M = .ok (.lst ds) M1) : zTupOf z env M = .ok (.tup ds) M1 := by simp [h, deref, itemsD]
theorem tupOf_items {ds : List D} (h : z env M = .ok d M1) (hd : itemsD d = some ds) : zTupOf z env M = .ok (.tup ds) M1 := by simp [h, deref_items hd, hd]
theorem gSum_ints {ns : List Int} : gSum [.lst (ns.map .int)] M = .ok (.int ns.sum) M := by
  simp [gSum, deref, itemsD, intsD_ints]
theorem gIx_map {ga : α → D} {r : List α} {k : Nat} {x : α} (h : r[k]? = some x) (hd : itemsD d = some (r.map ga)) : gIx d (.int (k : Nat)) M = .ok (ga x) M := gIx_of hd (by rw [List.getElem?_map, h]; rfl) (deref_items hd)
theorem gIx_last {ga : α → D} {r : List α} {x : α} (h : r.getLast? = some x) (hd : itemsD d = some (r.map ga)) : gIx d (.int (-1)) M = .ok (ga x) M := by
  have hne : r ≠ [] := fun z => by rw [z] at h; cases h
  have hl : 0 < r.length := List.length_pos_iff.mpr hne
  rw [List.getLast?_eq_getElem?] at h
  have hx : (r.map ga)[r.length - 1]? = some (ga x) := by rw [List.getElem?_map, h]; rfl
  have e : L2.atI (r.map ga) (-1) = some (ga x) := by
    unfold L2.atI
    rw [List.length_map]
    have hix : ixN r.length (-1) = some (r.length - 1) := by
      unfold ixN
      simp only [show ¬ (0 : Int) ≤ -1 by decide, false_and, if_false]
      rw [if_pos (by omega)]
      congr 1
      omega
    rw [hix]
    exact hx
  unfold gIx
  simp only [deref_items hd, hd, e]
end
/-! vectors, matrices, nets -/
abbrev Vec := List Int
abbrev Mat := List Vec
def rowD (r : Vec) : D := .tup (r.map .int)
def matD (m : Mat) : D := .tup (m.map rowD)
def wsD (ws : List Mat) : D := .tup (ws.map matD)
def kS (k : Bool) : Str := if k then "square" else "line"
def kD (k : Bool) : D := .str (kS k)
def netO (p : Int) (ws : List Mat) (ks : List Bool) : D := .ins "Net" [("prime", .int p), ("weights", wsD ws), ("kinds", .tup (ks.map kD))]
def netT (p : Int) (ws : List Mat) (ks : List Bool) : D := .tup [.int p, wsD ws, .tup (ks.map kD)]
def VecD (d : D) (v : Vec) : Prop := d = .tup (v.map .int) ∨ d = .lst (v.map .int)
theorem VecD.items {d : D} {v : Vec} (h : VecD d v) : itemsD d = some (v.map .int) := by rcases h with rfl | rfl <;> rfl
theorem VecD.row (v : Vec) : VecD (rowD v) v := .inl rfl
/-- numbers below p -/
def Lt (p : Int) (v : Vec) : Prop := ∀ x ∈ v, 0 ≤ x ∧ x < p
def MatOk (w : Nat) (p : Int) (m : Mat) : Prop := m.length = w ∧ ∀ r ∈ m, r.length = w ∧ Lt p r
def primes97 : List Int := [2, 3, 5, 7, 11, 13, 17, 19, 23, 29, 31, 37, 41, 43, 47, 53, 59, 61, 67, 71, 73, 79, 83, 89, 97]
structure NetS (w : Nat) (p : Int) (ws : List Mat) (ks : List Bool) : Prop where
  hp : p ∈ primes97
  w1 : 1 ≤ w
  w3 : w ≤ 3
  n1 : 1 ≤ ws.length
  n6 : ws.length ≤ 6
  kl : ks.length = ws.length
  ms : ∀ m ∈ ws, MatOk w p m
theorem primes_le {p : Int} (h : p ∈ primes97) : 2 ≤ p ∧ p ≤ 97 := by
  have : ∀ q ∈ primes97, 2 ≤ q ∧ q ≤ 97 := by decide
  exact this p h
theorem small_of {x : Int} (h0 : -1000000 ≤ x) (h1 : x ≤ 1000000) : smallI x := by
  have h2 : (1000000 : Int) < 2 ^ 64 := by decide
  have h3 : -(2 ^ 64) < (-1000000 : Int) := by decide
  exact ⟨Int.lt_of_lt_of_le h3 h0, Int.lt_of_le_of_lt h1 h2⟩
def dot (r v : Vec) : Int := (List.zipWith (· * ·) r v).sum
def prodV (p : Int) (m : Mat) (v : Vec) : Vec := m.map fun r => dot r v % p
def fwdV (p : Int) (m : Mat) (k : Bool) (v : Vec) : Vec := if k then (prodV p m v).map fun y => y * y % p else prodV p m v
theorem Lt.mod {p : Int} (hp : 0 < p) {α : Type} (l : List α) (f : α → Int) : Lt p (l.map fun x => f x % p) := fun x hx => by
  obtain ⟨y, _, rfl⟩ := List.mem_map.mp hx
  exact ⟨Int.emod_nonneg _ (by omega), Int.emod_lt_of_pos _ hp⟩
theorem prodV_lt {p : Int} (hp : 0 < p) (m : Mat) (v : Vec) : Lt p (prodV p m v) := Lt.mod hp m _
theorem fwdV_lt {p : Int} (hp : 0 < p) (m : Mat) (k : Bool) (v : Vec) : Lt p (fwdV p m k v) := by
  unfold fwdV
  split
  · exact Lt.mod hp _ _
  · exact prodV_lt hp m v
theorem prodV_len {p : Int} {m : Mat} {v : Vec} : (prodV p m v).length = m.length := List.length_map ..
theorem fwdV_len {p : Int} {m : Mat} {k : Bool} {v : Vec} : (fwdV p m k v).length = m.length := by
  unfold fwdV
  split
  · rw [List.length_map, prodV_len]
  · exact prodV_len
/-- what a text must know of class Net -/
structure NetAts (ats : Ats) : Prop where
  prime : ats "Net" "prime" = true
  weights : ats "Net" "weights" = true
  kinds : ats "Net" "kinds" = true
section
variable {ats : Ats} {M : Sto} {p : Int} {ws : List Mat} {ks : List Bool}
theorem at_prime (h : NetAts ats) : atR ats "prime" (netO p ws ks) M = .ok (.int p) M := atR_ok h.prime (by kernel_rfl)
theorem at_weights (h : NetAts ats) : atR ats "weights" (netO p ws ks) M = .ok (wsD ws) M := atR_ok h.weights (by kernel_rfl)
theorem at_kinds (h : NetAts ats) : atR ats "kinds" (netO p ws ks) M = .ok (.tup (ks.map kD)) M := atR_ok h.kinds (by kernel_rfl)
theorem ix_mat {l : Nat} {m : Mat} (h : ws[l]? = some m) : gIx (wsD ws) (.int (l : Nat)) M = .ok (matD m) M := gIx_map h rfl
theorem ix_kind {l : Nat} {k : Bool} (h : ks[l]? = some k) : gIx (.tup (ks.map kD)) (.int (l : Nat)) M = .ok (kD k) M := gIx_map h rfl
theorem gEq_kind {k : Bool} : gEq (kD k) (.str "square") M = .ok (.bl k) M := by cases k <;> rfl
end
end Zy
set_option maxHeartbeats 2000000
namespace Zy
open PySem PySem.Spec PyProof.Rows L2
/-! class Net: its checks and its making -/
def rngR2 (ds : List D) (M : Sto) : Res (List D) := match ds with
  | [.int i, .int j] => if sm62 i && sm62 j then .ok (stpD i 1 (j - i).toNat) M else .fail
  | _ => .fail
@[simp] theorem zRng2_z {l : ZL} {env : Ev} {M : Sto} : zRng2 l env M = (l env M).bind rngR2 := id rfl
theorem rngR2_ok {a b : Int} {M : Sto} (h0 : 0 ≤ a) (h1 : a ≤ 1000000) (h2 : 0 ≤ b) (h3 : b ≤ 1000000) : rngR2 [.int a, .int b] M = .ok (stpD a 1 (b - a).toNat) M := by
  have h4 : (1000000 : Int) < 2 ^ 62 := by decide
  have h5 : (-(2 ^ 62) : Int) ≤ 0 := by decide
  have s : ∀ x : Int, 0 ≤ x → x ≤ 1000000 → sm62 x = true := fun x k1 k2 => by
    simp only [sm62, Bool.and_eq_true, decide_eq_true_eq]
    exact ⟨Int.le_trans h5 k1, Int.lt_of_le_of_lt k2 h4⟩
  unfold rngR2
  simp only [s a h0 h1, s b h2 h3, Bool.and_self, if_true]
theorem lcRng2 {env : Ev} {M M1 : Sto} {l : ZL} {ze : ZX} {vs : List Nat} {i : Nat} {a b : Int} (f : Int → D) (ha : l env M = .ok [.int a, .int b] M1) (h0 : 0 ≤ a) (h1 : a ≤ 1000) (h2 : 0 ≤ b) (h3 : b ≤ 1000) (hno : noOwn env vs = true)
    (hz : ∀ k : Int, a ≤ k → k < b → ze ((wipeE env vs).set i (.val (.int k))) M1 = .ok (f k) M1) : zLc (zRng2 l) (tgN i) yes ze vs env M = .ok (.lst ((List.range (b - a).toNat).map fun k => f (a + (k : Nat)))) M1 := by
  have hr : zRng2 l env M = .ok (stpD a 1 (b - a).toNat) M1 := by simp only [zRng2_z, ha, Res.bind_ok]; exact rngR2_ok h0 (by omega) h2 (by omega)
  obtain ⟨acc, M', e0, k1, k2⟩ := zLc_gen (zt := yes) (ze := ze) (gz := tgN i) hr hno (fun k acc M => acc = ((List.range (b - a).toNat).map fun k => f (a + (k : Nat))).take k ∧ M = M1) ⟨by simp, rfl⟩ fun k x acc M hx h => by
    obtain ⟨rfl, rfl⟩ := h
    obtain ⟨rfl, hk⟩ := stpD_get hx
    refine ⟨_, true, M, rfl, rfl, ?_⟩
    rw [if_pos rfl]
    refine ⟨f (a + (k : Nat)), M, ?_, ?_, ?_, rfl⟩
    · have := hz (a + (k : Nat)) (by omega) (by omega)
      simpa using this
    · rw [List.length_take, List.length_map, List.length_range]
      exact Nat.lt_of_lt_of_le (show min k (b - a).toNat < 1001 by omega) (by decide)
    · rw [List.take_add_one, List.getElem?_map, List.getElem?_range hk]
      simp
  rw [e0, k1, k2, stpD_len, List.take_of_length_le (by rw [List.length_map, List.length_range]; exact Nat.le_refl _)]
@[simp] theorem callR0_4 {f : Sem1} {a b c d : Sl} {M : Sto} : callR f 4 0 [0, 1, 2, 3] [] [a, b, c, d] [] M = f [a, b, c, d] M := id rfl
@[simp] theorem callRk3' {f : Sem1} {a b c : Sl} {M : Sto} : callR f 0 3 [0, 1, 2] [] [] [a, b, c] M = f [a, b, c] M := id rfl
@[simp] theorem callRk4' {f : Sem1} {a b c d : Sl} {M : Sto} : callR f 0 4 [0, 1, 2, 3] [] [] [a, b, c, d] M = f [a, b, c, d] M := id rfl
def nIsInt : ZS := (zSeq (zFrz [] (zRet (zAndV (zIsi ["int"] (zCv 0)) (zNotV (zIsi ["bool"] (zCv 0)))))) zNx)
def nBetween (C : Str → Sem1) : ZS := (zSeq (zFrz [] (zRet (zAndV (zCall (C "is_integer") 1 0 [0] [] (sCons (zSv 0) sNil) sNil) (zCh gLe gLe (zCv 1) (zCv 0) (zCv 2))))) zNx)
def nIsSeq : ZS := (zSeq (zFrz [] (zRet (zIsi ["tuple", "list"] (zCv 0)))) zNx)
def nAsT (C : Str → Sem1) : ZS :=
  (zSeq (zFrz [] (zIfS (zTru (zCall (C "is_sequence") 1 0 [0] [] (sCons (zSv 0) sNil) sNil))
    (zSeq (zFrz [] (zRet (zTupOf (zLc (zSeqI (zBv 0)) (tgN 1) (fun _ M => .ok true M) (zCall (C "as_tuples") 1 0 [0] [] (sCons (zSv 1) sNil) sNil) [1]))))
      zNx)
    zNx))
      (zSeq (zFrz [] (zRet (zVar 0)))
      zNx))
def nPrime (C : Str → Sem1) : ZS :=
  (zSeq (zFrz [] (zRet (zAndV (zCall (C "is_between") 3 0 [0, 1, 2] [] (sCons (zSv 0) (sCons (zVl (zK (.int 2))) (sCons (zVl (zK (.int 97))) sNil))) sNil) (zBf gAll (zCons (zLc (zRng2 (zCons (zK (.int 2)) (zCons (zVar 0) zNil))) (tgN 1) (fun _ M => .ok true M) (zOp gNe (zOp gMod (zCv 0) (zCv 1)) (zK (.int 0))) [1]) zNil)))))
      zNx)
def nInit (ats : Ats) (C : Str → Sem1) : ZS :=
  (zSeq (zFrz [] (zIfS (zNot (zTru (zCall (C "is_net_prime") 1 0 [0] [] (sCons (zSv 1) sNil) sNil)))
    (zSeq (zFrz [] failS)
      zNx)
    zNx))
      (zSeq (zFrz [] (zPutA ats 0 "prime" (zVar 1)))
      (zSeq (zFrz [] (zPutA ats 0 "weights" (zCall (C "as_tuples") 1 0 [0] [] (sCons (zSv 2) sNil) sNil)))
      (zSeq (zFrz [] (zPutA ats 0 "kinds" (zTupOf (zCv 3))))
      zNx))))
def IntOk (f : Sem1) : Prop := ∀ M (i : Int), f [.val (.int i)] M = .ok (.bl true) M
def BetOk (f : Sem1) : Prop := ∀ M (i a b : Int), f [.val (.int i), .val (.int a), .val (.int b)] M = .ok (.bl (decide (a ≤ i) && decide (i ≤ b))) M
def SqOk (f : Sem1) : Prop := (∀ M ds, f [.val (.tup ds)] M = .ok (.bl true) M) ∧ (∀ M ds, f [.val (.lst ds)] M = .ok (.bl true) M) ∧ ∀ M i, f [.val (.int i)] M = .ok (.bl false) M
def PrimeOk (f : Sem1) : Prop := ∀ M p, p ∈ primes97 → f [.val (.int p)] M = .ok (.bl true) M
theorem isiD_int {Ts : List String} {i : Int} : isiD Ts (.int i) = some (Ts.any (isTy "int")) := rfl
@[simp] theorem deref_bl {M : Sto} {b : Bool} : deref M (.bl b) = some (.bl b) := id rfl
@[simp] theorem deref_str {M : Sto} {b : Str} : deref M (.str b) = some (.str b) := id rfl
@[simp] theorem deref_int {M : Sto} {i : Int} : deref M (.int i) = some (.int i) := id rfl
@[simp] theorem deref_tup {M : Sto} {ds : List D} : deref M (.tup ds) = some (.tup ds) := id rfl
@[simp] theorem deref_lst {M : Sto} {ds : List D} : deref M (.lst ds) = some (.lst ds) := id rfl
theorem intOk : IntOk (zFun 1 1 nIsInt) := fun M i => by
  have h1 : isiD ["int"] (.int i) = some true := by
    simp only [isiD, tyD, Option.map_some]
    exact congrArg some (by decide)
  have h2 : isiD ["bool"] (.int i) = some false := by
    simp only [isiD, tyD, Option.map_some]
    exact congrArg some (by decide)
  simp [zFun, nIsInt, h1, h2]
theorem betOk {C : Str → Sem1} (h : IntOk (C "is_integer")) : BetOk (zFun 3 3 (nBetween C)) := fun M i a b => by
  unfold zFun
  by_cases h1 : a ≤ i <;> simp [nBetween, h M i, zCh, h1]
theorem sqOk : SqOk (zFun 1 1 nIsSeq) := by
  refine ⟨fun M ds => ?_, fun M ds => ?_, fun M i => ?_⟩
  · have h : isiD ["tuple", "list"] (.tup ds) = some true := by
      simp only [isiD, tyD, Option.map_some]
      exact congrArg some (by decide)
    simp [zFun, nIsSeq, h]
  · have h : isiD ["tuple", "list"] (.lst ds) = some true := by
      simp only [isiD, tyD, Option.map_some]
      exact congrArg some (by decide)
    simp [zFun, nIsSeq, h]
  · have h : isiD ["tuple", "list"] (.int i) = some false := by
      simp only [isiD, tyD, Option.map_some]
      exact congrArg some (by decide)
    simp [zFun, nIsSeq, h]
theorem gAll_true {bs : List Bool} {M : Sto} (h : ∀ b ∈ bs, b = true) : gAll [.lst (bs.map .bl)] M = .ok (.bl true) M := by
  have hb : ∀ bs : List Bool, blsD (bs.map .bl) = some bs := fun bs => by
    induction bs with
    | nil => rfl
    | cons b bs ih => simp [blsD, ih]
  have : bs.all id = true := List.all_eq_true.mpr fun b hb => h b hb
  simp [gQuant, lblsD, hb, this]
theorem gNe_int {a b : Int} {M : Sto} : gNe (.int a) (.int b) M = .ok (.bl (!decide (a = b))) M := by
  show (match eqD2 (.int a) (.int b) with
    | some b => Res.ok (D.bl (if true then !b else b)) M
    | none => .fail) = _
  have : eqD2 (.int a) (.int b) = some (decide (a = b)) := by
    show (if SeqAt.shaped (.int a) = true ∧ SeqAt.shaped (.int b) = true then some (PyData.eqv (.int a) (.int b)) else none) = _
    rw [if_pos ⟨rfl, rfl⟩]
    simp [PyData.eqv, Bool.beq_eq_decide_eq]
  rw [this]; rfl
theorem primes_div : ∀ p ∈ primes97, ∀ k : Nat, k < (p - 2).toNat → p % (2 + (k : Int)) ≠ 0 := by
  have : ∀ p ∈ primes97, ∀ k ∈ List.range 95, k < (p - 2).toNat → p % (2 + (k : Int)) ≠ 0 := by decide +kernel
  intro p hp k hk
  refine this p hp k (List.mem_range.mpr ?_) hk
  have := primes_le hp
  omega
theorem primeOk {C : Str → Sem1} (h : BetOk (C "is_between")) : PrimeOk (zFun 1 2 (nPrime C)) := fun M p hp => by
  have hb := primes_le hp
  obtain ⟨bs, hbs, hl⟩ : ∃ bs : List Bool, (∀ b ∈ bs, b = true) ∧ zLc (zRng2 (zCons (zK (.int 2)) (zCons (zVar 0) zNil))) (tgN 1) (fun _ M => .ok true M) (zOp gNe (zOp gMod (zCv 0) (zCv 1)) (zK (.int 0))) [1] [.val (.int p), .no] M = .ok (.lst (bs.map .bl)) M := by
    refine ⟨(List.range (p - 2).toNat).map fun k => decide (p % (2 + (k : Nat)) ≠ 0), fun b hb => ?_, ?_⟩
    · obtain ⟨k, hk, rfl⟩ := List.mem_map.mp hb
      have := primes_div p hp k (List.mem_range.mp hk)
      simpa using this
    · have l := lcRng2 (env := [.val (.int p), .no]) (M := M) (M1 := M) (l := zCons (zK (.int 2)) (zCons (zVar 0) zNil)) (ze := zOp gNe (zOp gMod (zCv 0) (zCv 1)) (zK (.int 0))) (vs := [1]) (i := 1) (a := 2) (b := p) (fun k => .bl (decide (p % k ≠ 0))) (by simp) (by decide) (by decide) (by omega) (by omega) rfl fun k k1 k2 => by
        have : 0 < k := by omega
        simp [wipeE, this, gNe_int]
      rw [List.map_map]
      exact l
  have ha := gAll_true (M := M) hbs
  unfold zFun
  simp [nPrime, h M p 2 97, hb.1, hb.2, hl, ha]
/-- rows, matrices, weights as tuples -/
structure AsOk (f : Sem1) : Prop where
  int : ∀ M i, f [.val (.int i)] M = .ok (.int i) M
theorem as_int {C : Str → Sem1} (hs : SqOk (C "is_sequence")) (M : Sto) (i : Int) : zFun 1 2 (nAsT C) [.val (.int i)] M = .ok (.int i) M := by
  simp [zFun, nAsT, hs.2.2 M i, truD, deref]
theorem as_lvl {C : Str → Sem1} {α : Type} {r : List α} {ga gb : α → D} {d : D} (hs : SqOk (C "is_sequence")) (hd : d = .tup (r.map ga) ∨ d = .lst (r.map ga)) (hl : r.length ≤ 1000) (M : Sto) (hi : ∀ x ∈ r, C "as_tuples" [.val (ga x)] M = .ok (gb x) M) :
    zFun 1 2 (nAsT C) [.val d] M = .ok (.tup (r.map gb)) M := by
  have hq : C "is_sequence" [.val d] M = .ok (.bl true) M := by
    rcases hd with rfl | rfl
    · exact hs.1 M _
    · exact hs.2.1 M _
  have hit : itemsD d = some (r.map ga) := by rcases hd with rfl | rfl <;> rfl
  have l := lcSeq (env := [.val d, .no]) (M := M) (M1 := M) (za := zBv 0) (ze := zCall (C "as_tuples") 1 0 [0] [] (sCons (zSv 1) sNil) sNil) (vs := [1]) (i := 1) (r := r) (ga := ga) gb (by simp) hit rfl hl fun x hx => by simp [wipeE, hi x hx]
  unfold zFun
  simp [nAsT, hq, truD, deref, l, itemsD]
/-- the making of a Net -/
def InitOk (f : Sem1) : Prop := ∀ (M : Sto) (w : Nat) p ws ks (dw dk : D), NetS w p ws ks → (dw = .tup (ws.map matD) ∨ dw = .lst (ws.map matD)) → (dk = .tup (ks.map kD) ∨ dk = .lst (ks.map kD)) →
  f [.val (.ref M.length), .val (.int p), .val dw, .val dk] (M ++ [.ins "Net" []]) = .ok .non (M ++ [netO p ws ks])
theorem getPl_top {M : Sto} {d : D} {env : Ev} {i : Nat} (h : env[i]? = some (.val (.ref M.length))) : getPl env (M ++ [d]) i = some d := by
  unfold getPl
  rw [h]
  simp
theorem setPl_top {M : Sto} {d e : D} {env : Ev} {i : Nat} (h : env[i]? = some (.val (.ref M.length))) : setPl env (M ++ [d]) i e = (env, M ++ [e]) := by
  unfold setPl
  rw [h]
  simp [List.set_append_right]
theorem putA_top {ok : Ats} {M : Sto} {c : String} {fs : List (Str × D)} {env : Ev} {i : Nat} {f : Str} {v : D} (h : env[i]? = some (.val (.ref M.length))) (hk : ok c f = true) (hl : fs.length < 1000) :
    putA ok env (M ++ [.ins c fs]) i f v = .nx env (M ++ [.ins c (putD f v fs)]) := by
  unfold putA
  rw [getPl_top h]
  simp only [hk, hl, and_self, if_true]
  rw [setPl_top h]
def AsWs (f : Sem1) : Prop := ∀ M (ws : List Mat) d, (∀ m ∈ ws, m.length ≤ 10 ∧ ∀ r ∈ m, r.length ≤ 10) → ws.length ≤ 10 → (d = .tup (ws.map matD) ∨ d = .lst (ws.map matD)) → f [.val d] M = .ok (wsD ws) M
theorem initOk {C : Str → Sem1} {ats : Ats} (ha : NetAts ats) (hp : PrimeOk (C "is_net_prime")) (ht : AsWs (C "as_tuples")) : InitOk (zFun 4 4 (nInit ats C)) := fun M w p ws ks dw dk hn hw hk => by
  have h1 := hp (M ++ [.ins "Net" []]) p hn.hp
  have h2 := ht (M ++ [.ins "Net" [("prime", .int p)]]) ws dw (fun m hm => by
    obtain ⟨a1, a2⟩ := hn.ms m hm
    have := hn.w3
    exact ⟨by omega, fun r hr => by have := (a2 r hr).1; omega⟩) (by have := hn.n6; omega) hw
  have h3 : ∀ M', (deref M' dk).bind itemsD = some (ks.map kD) := fun M' => by rcases hk with rfl | rfl <;> rfl
  have e0 : ([.val (.ref M.length), .val (.int p), .val dw, .val dk] : Ev)[0]? = some (.val (.ref M.length)) := rfl
  have p1 := putA_top (ok := ats) (M := M) (c := "Net") (fs := []) (f := "prime") (v := .int p) e0 ha.prime (by decide)
  have p2 := putA_top (ok := ats) (M := M) (c := "Net") (fs := [(("prime" : Str), D.int p)]) (f := "weights") (v := wsD ws) e0 ha.weights (by simp)
  have p3 := putA_top (ok := ats) (M := M) (c := "Net") (fs := [(("prime" : Str), D.int p), (("weights" : Str), wsD ws)]) (f := "kinds") (v := .tup (ks.map kD)) e0 ha.kinds (by simp)
  have q1 : putD "prime" (.int p) [] = [(("prime" : Str), D.int p)] := rfl
  have q2 : putD "weights" (wsD ws) [(("prime" : Str), D.int p)] = [(("prime" : Str), D.int p), (("weights" : Str), wsD ws)] := by kernel_rfl
  have q3 : putD "kinds" (.tup (ks.map kD)) [(("prime" : Str), D.int p), (("weights" : Str), wsD ws)] = [(("prime" : Str), D.int p), (("weights" : Str), wsD ws), (("kinds" : Str), D.tup (ks.map kD))] := by kernel_rfl
  rw [q1] at p1
  rw [q2] at p2
  rw [q3] at p3
  unfold zFun netO
  simp only [nInit, zSeq_z, zFrz_z, zIfS_z, zNot_z, zTru_z, zCall_z, sCons_z, sNil_z, zSv_z, zPutA_z, zVar_z, zTupOf_z, zCv_z, List.length_cons, List.length_nil, Nat.reduceAdd, Nat.reduceSub, List.replicate_zero, List.append_nil, if_true, List.getElem?_cons_succ, List.getElem?_cons_zero, Res.bind_ok, callR1, h1, h2, h3, deref_bl, truD, Option.bind_some, Bool.not_true, Res.toS_ok, Bool.false_eq_true, if_false, zNx_z, p1, p2, p3]
theorem lowL_map {α : Type} {n : Nat} {g : α → D} : ∀ l : List α, (∀ x ∈ l, lowD n (g x) = true) → lowL n (l.map g) = true
  | [], _ => rfl
  | x :: l, h => by
    rw [List.map_cons, lowL, h x (List.mem_cons_self ..), lowL_map l fun y m => h y (List.mem_cons_of_mem _ m)]
    rfl
theorem low_row {n : Nat} (r : Vec) : lowD n (rowD r) = true := by
  unfold rowD
  rw [lowD]
  exact lowL_map r fun _ _ => by simp [lowD]
theorem low_mat {n : Nat} (m : Mat) : lowD n (matD m) = true := by
  unfold matD
  rw [lowD]
  exact lowL_map m fun r _ => low_row r
theorem low_net {n : Nat} {p : Int} {ws : List Mat} {ks : List Bool} : lowD n (netO p ws ks) = true := by
  unfold netO wsD
  simp only [lowD, lowS, Bool.and_true, Bool.true_and, Bool.and_eq_true]
  exact ⟨lowL_map ws fun m _ => low_mat m, lowL_map ks fun k _ => by cases k <;> simp [kD, lowD]⟩
theorem low_hand {M : Sto} (h : Hd M) : M.all (lowD M.length) = true := by
  obtain ⟨ns, p, rfl, _⟩ := h
  simp only [List.all_cons, List.all_nil, Bool.and_true, lowD, lowL, Bool.and_eq_true, and_true]
  exact lowL_map ns fun _ _ => by simp [lowD]
theorem make_net {f : Sem1} (hf : InitOk f) {M : Sto} {w : Nat} {p : Int} {ws : List Mat} {ks : List Bool} {dw dk : D} (hM : M.all (lowD M.length) = true) (hn : NetS w p ws ks) (hw : dw = .tup (ws.map matD) ∨ dw = .lst (ws.map matD)) (hk : dk = .tup (ks.map kD) ∨ dk = .lst (ks.map kD)) :
    makeR "Net" f 3 0 [0, 1, 2, 3] [] [.val (.int p), .val dw, .val dk] [] M = .ok (netO p ws ks) M := by
  have h := hf M w p ws ks dw dk hn hw hk
  have hp : popR M.length (M ++ [netO p ws ks]) = some (netO p ws ks, M) := by
    unfold popR
    have e1 : (M ++ [netO p ws ks])[M.length]? = some (netO p ws ks) := by simp
    have e2 : (M ++ [netO p ws ks]).take M.length = M := by simp
    rw [e1, e2]
    simp only [List.length_append, List.length_singleton, hM, low_net, and_self, if_true]
  show mkO M.length (f [.val (.ref M.length), .val (.int p), .val dw, .val dk] (M ++ [.ins "Net" []])) = _
  rw [h]
  simp only [mkO, hp]
end Zy
set_option maxHeartbeats 2000000
namespace Zy
open PySem PySem.Spec PyProof.Rows L2
/-! forward and back through a layer -/
def prodRow : ZX := zLc (zZip (zBv 3) (zBv 2)) (tgT [4, 5]) (fun _ M => .ok true M) (zOp gMul (zCv 4) (zCv 5)) [4, 5]
def prodAll (ats : Ats) : ZX := zLc (zSeqI (zOp gIx (zAt ats "weights" (zCv 0)) (zCv 1))) (tgN 3) (fun _ M => .ok true M) (zOp gMod (zBf gSum (zCons prodRow zNil)) (zAt ats "prime" (zCv 0))) [3]
def nProduct (ats : Ats) : ZS := (zSeq (zFrz [] (zRet (zTupOf (prodAll ats)))) zNx)
def nLayer (ats : Ats) (C : Str → Sem1) : ZS :=
  (zSeq (zFrz [] (zSet 3 (zCall (C "_product") 3 0 [0, 1, 2] [] (sCons (zSv 0) (sCons (zSv 1) (sCons (zSv 2) sNil))) sNil)))
      (zSeq (zFrz [] (zIfS (zTst (zOp gEq (zOp gIx (zAt ats "kinds" (zCv 0)) (zCv 1)) (zK (.str "square"))))
    (zSeq (zFrz [] (zRet (zTupOf (zLc (zSeqI (zBv 3)) (tgN 4) (fun _ M => .ok true M) (zOp gMod (zOp gMul (zCv 4) (zCv 4)) (zAt ats "prime" (zCv 0))) [4]))))
      zNx)
    zNx))
      (zSeq (zFrz [] (zRet (zVar 3)))
      zNx)))
theorem zipWith_int (f : Int → Int → Int) (r v : Vec) : List.zipWith (fun x y => D.int (f x y)) r v = (List.zipWith f r v).map .int := by
  rw [List.map_zipWith]
theorem rows_at {w : Nat} {p : Int} {ws : List Mat} {ks : List Bool} (h : NetS w p ws ks) {l : Nat} {m : Mat} (hm : ws[l]? = some m) : MatOk w p m := h.ms m (List.mem_of_getElem? hm)
theorem NetS.p0 {w : Nat} {p : Int} {ws : List Mat} {ks : List Bool} (h : NetS w p ws ks) : 0 < p := by have := primes_le h.hp; omega
theorem NetS.p97 {w : Nat} {p : Int} {ws : List Mat} {ks : List Bool} (h : NetS w p ws ks) : p ≤ 97 := (primes_le h.hp).2
def ProdOk (f : Sem1) : Prop := ∀ M w p ws ks (l : Nat) m d v, NetS w p ws ks → ws[l]? = some m → VecD d v → f [.val (netO p ws ks), .val (.int l), .val d] M = .ok (rowD (prodV p m v)) M
theorem prodRow_ok {M : Sto} {a0 a1 : Sl} {p : Int} {d : D} {r v : Vec} (hp2 : p ≤ 97) (hr : Lt p r) (hl : r.length ≤ 1000) (hv : VecD d v) :
    prodRow [a0, a1, .val d, .val (rowD r), .no, .no] M = .ok (.lst ((List.zipWith (· * ·) r v).map .int)) M := by
  have l := lcZip (env := [a0, a1, .val d, .val (rowD r), .no, .no]) (M := M) (za := zBv 3) (zb := zBv 2) (ze := zOp gMul (zCv 4) (zCv 5)) (vs := [4, 5]) (i := 4) (j := 5) (d := rowD r) (e := d) (r := r) (v := v) (ga := D.int) (gb := D.int) (fun x y => .int (x * y)) (by simp) (by simp) rfl hv.items rfl hl
    fun x hx y hy => by
      have hs : smallI x := by have := hr x hx; exact small_of (by omega) (by omega)
      simp [wipeE, hs]
  rw [zipWith_int] at l
  exact l
theorem prodAll_ok {ats : Ats} (ha : NetAts ats) {M : Sto} {w : Nat} {p : Int} {ws : List Mat} {ks : List Bool} {l : Nat} {m : Mat} {d : D} {v : Vec} (h : NetS w p ws ks) (hm : ws[l]? = some m) (hv : VecD d v) :
    prodAll ats [.val (netO p ws ks), .val (.int l), .val d, .no, .no, .no] M = .ok (.lst ((prodV p m v).map .int)) M := by
  have mo := rows_at h hm
  have w3 := h.w3
  have c := lcSeq (env := [.val (netO p ws ks), .val (.int l), .val d, .no, .no, .no]) (M := M) (M1 := M) (za := zOp gIx (zAt ats "weights" (zCv 0)) (zCv 1)) (ze := zOp gMod (zBf gSum (zCons prodRow zNil)) (zAt ats "prime" (zCv 0))) (vs := [3]) (i := 3) (d := matD m) (r := m) (ga := rowD) (fun r => .int (dot r v % p))
    (by simp [at_weights ha, ix_mat hm]) rfl rfl (by have := mo.1; omega) fun r hr => by
      have q := prodRow_ok (a0 := .val (netO p ws ks)) (a1 := .val (.int l)) (M := M) (d := d) (r := r) (v := v) h.p97 (mo.2 r hr).2 (by have := (mo.2 r hr).1; omega) hv
      have p0 := h.p0
      simp [wipeE, q, gSum_ints, at_prime ha, p0, dot, -List.map_zipWith]
  have e : (prodV p m v).map D.int = m.map fun r => .int (dot r v % p) := by unfold prodV; rw [List.map_map]; rfl
  rw [e]
  exact c
theorem prodOk {ats : Ats} (ha : NetAts ats) : ProdOk (zFun 3 6 (nProduct ats)) := fun M w p ws ks l m d v h hm hv => by
  have q := prodAll_ok ha (M := M) h hm hv
  unfold zFun
  simp [nProduct, q, itemsD, rowD]
def LayOk (f : Sem1) : Prop := ∀ M w p ws ks (l : Nat) m k d v, NetS w p ws ks → ws[l]? = some m → ks[l]? = some k → VecD d v → f [.val (netO p ws ks), .val (.int l), .val d] M = .ok (rowD (fwdV p m k v)) M
theorem layOk {ats : Ats} (ha : NetAts ats) {C : Str → Sem1} (hp : ProdOk (C "_product")) : LayOk (zFun 3 5 (nLayer ats C)) := fun M w p ws ks l m k d v h hm hk hv => by
  have q := hp M w p ws ks l m d v h hm hv
  have lt := prodV_lt h.p0 m v
  have p0 := h.p0
  have p97 := h.p97
  have c := lcSeq (env := [.val (netO p ws ks), .val (.int l), .val d, .val (rowD (prodV p m v)), .no]) (M := M) (M1 := M) (za := zBv 3) (ze := zOp gMod (zOp gMul (zCv 4) (zCv 4)) (zAt ats "prime" (zCv 0))) (vs := [4]) (i := 4) (d := rowD (prodV p m v)) (r := prodV p m v) (ga := D.int) (fun y => .int (y * y % p))
    (by simp) rfl rfl (by rw [prodV_len]; have := (rows_at h hm).1; have := h.w3; omega) fun y hy => by
      have hs : smallI y := by have := lt y hy; exact small_of (by omega) (by omega)
      simp [wipeE, hs, at_prime ha, p0]
  have e : ((prodV p m v).map fun y => D.int (y * y % p)) = ((prodV p m v).map fun y => y * y % p).map .int := by rw [List.map_map]; rfl
  rw [e] at c
  unfold zFun
  cases k with
  | true =>
    have hf : rowD (fwdV p m true v) = .tup (((prodV p m v).map fun y => y * y % p).map .int) := rfl
    rw [hf]
    simp [nLayer, q, at_kinds ha, ix_kind hk, gEq_kind, c, itemsD, -List.map_map]
  | false => simp [nLayer, q, at_kinds ha, ix_kind hk, gEq_kind, fwdV]
/-! len and width of a Net -/
def nLen (ats : Ats) (lf : Lens) : ZS := (zSeq (zFrz [] (zRet (zLen lf (zVl (zAt ats "weights" (zCv 0)))))) zNx)
def nWidth (ats : Ats) (lf : Lens) : ZS := (zSeq (zFrz [] (zRet (zLen lf (zVl (zOp gIx (zAt ats "weights" (zCv 0)) (zK (.int 0))))))) zNx)
def NLenOk (f : Sem1) : Prop := ∀ M p ws ks, f [.val (netO p ws ks)] M = .ok (.int ws.length) M
def WidOk (f : Sem1) : Prop := ∀ M w p ws ks, NetS w p ws ks → f [.val (netO p ws ks)] M = .ok (.int w) M
theorem nLenOk {ats : Ats} {lf : Lens} (ha : NetAts ats) : NLenOk (zFun 1 1 (nLen ats lf)) := fun M p ws ks => by
  unfold zFun
  simp [nLen, at_weights ha, wsD]
theorem widOk {ats : Ats} {lf : Lens} (ha : NetAts ats) : WidOk (zFun 1 1 (nWidth ats lf)) := fun M w p ws ks h => by
  have hl : 0 < ws.length := by have := h.n1; omega
  have h0 : ws[0]? = some ws[0] := List.getElem?_eq_getElem hl
  have g : gIx (wsD ws) (.int 0) M = .ok (matD ws[0]) M := ix_mat (l := 0) h0
  have e : matD ws[0] = .tup (ws[0].map rowD) := rfl
  unfold zFun
  simp [nWidth, at_weights ha, g, e, (rows_at h h0).1]
/-- what a text must know of a Net's len and width -/
structure NetLn (lf : Lens) : Prop where
  len : ∃ g, lf "Net" = some g ∧ NLenOk g
structure NetPr (pf : Lens) : Prop where
  wid : ∃ g, pf "Net" = some g ∧ WidOk g
theorem len_net {lf : Lens} (hl : NetLn lf) {M : Sto} {w : Nat} {p : Int} {ws : List Mat} {ks : List Bool} (h : NetS w p ws ks) : lenR lf (.val (netO p ws ks)) M = .ok (.int ws.length) M := by
  obtain ⟨g, h1, h2⟩ := hl.len
  exact lenR_ins h1 (h2 M p ws ks) (by omega) (by have := h.n6; omega)
theorem wid_net {pf : Lens} (hl : NetPr pf) {M : Sto} {w : Nat} {p : Int} {ws : List Mat} {ks : List Bool} (h : NetS w p ws ks) : propR pf (.val (netO p ws ks)) M = .ok (.int w) M := by
  obtain ⟨g, h1, h2⟩ := hl.wid
  exact propR_ok h1 (h2 M w p ws ks h)
/-! all the way forward -/
def wayV (p : Int) : List Mat → List Bool → Vec → List Vec
  | m :: ms, k :: ks, v => v :: wayV p ms ks (fwdV p m k v)
  | _, _, v => [v]
def outV (p : Int) : List Mat → List Bool → Vec → Vec
  | m :: ms, k :: ks, v => outV p ms ks (fwdV p m k v)
  | _, _, v => v
theorem wayV_ne {p : Int} : ∀ {ms : List Mat} {ks : List Bool} {v : Vec}, wayV p ms ks v ≠ []
  | [], _, _ => by simp [wayV]
  | _ :: _, [], _ => by simp [wayV]
  | _ :: _, _ :: _, _ => by simp [wayV]
theorem wayV_last {p : Int} : ∀ {ms : List Mat} {ks : List Bool} {v : Vec}, (wayV p ms ks v).getLast? = some (outV p ms ks v)
  | [], _, _ => by simp [wayV, outV]
  | _ :: _, [], _ => by simp [wayV, outV]
  | m :: ms, k :: ks, v => by
    rw [wayV, outV, List.getLast?_cons, wayV_last]
    rfl
theorem wayV_snoc {p : Int} : ∀ {ms : List Mat} {ks : List Bool} {v : Vec} {m : Mat} {k : Bool}, ms.length = ks.length → wayV p (ms ++ [m]) (ks ++ [k]) v = wayV p ms ks v ++ [fwdV p m k (outV p ms ks v)]
  | [], [], v, m, k, _ => by simp [wayV, outV]
  | [], _ :: _, _, _, _, h => by simp at h
  | _ :: _, [], _, _, _, h => by simp at h
  | m0 :: ms, k0 :: ks, v, m, k, h => by
    simp only [List.cons_append, wayV, outV]
    rw [wayV_snoc (by simpa using h)]
theorem outV_snoc {p : Int} : ∀ {ms : List Mat} {ks : List Bool} {v : Vec} {m : Mat} {k : Bool}, ms.length = ks.length → outV p (ms ++ [m]) (ks ++ [k]) v = fwdV p m k (outV p ms ks v)
  | [], [], v, m, k, _ => by simp [outV]
  | [], _ :: _, _, _, _, h => by simp at h
  | _ :: _, [], _, _, _, h => by simp at h
  | m0 :: ms, k0 :: ks, v, m, k, h => by
    simp only [List.cons_append, outV]
    rw [outV_snoc (by simpa using h)]
theorem wayV_len {p : Int} : ∀ {ms : List Mat} {ks : List Bool} {v : Vec}, ms.length = ks.length → (wayV p ms ks v).length = ms.length + 1
  | [], [], v, _ => rfl
  | [], _ :: _, _, h => by simp at h
  | _ :: _, [], _, h => by simp at h
  | m0 :: ms, k0 :: ks, v, h => by
    simp only [wayV, List.length_cons]
    rw [wayV_len (by simpa using h)]
theorem take_snoc {α : Type} {l : List α} {i : Nat} {x : α} (h : l[i]? = some x) : l.take (i + 1) = l.take i ++ [x] := by
  rw [List.take_add_one, h]
  rfl
def wayBody (C : Str → Sem1) : ZS := (zSeq (zFrz [] (zApp 2 (zCall (C "layer_forward") 3 0 [0, 1, 2] [] (sCons (zSv 0) (sCons (zSv 3) (sCons (zVl (zOp gIx (zCv 2) (zNeg (zK (.int 1))))) sNil))) sNil))) zNx)
def nWay (lf : Lens) (C : Str → Sem1) : ZS :=
  (zSeq (zFrz [] (zSetO 2 (zLst (zCons (zTupOf (zCv 1)) zNil))))
      (zSeq (zFrz [] (zFor (zRng1 (zCons (zLen lf (zSv 0)) zNil)) (tgN 3) (wayBody C)))
      (zSeq (zFrz [] (zRet (zTupOf (zCv 2))))
      zNx)))
def nForward (C : Str → Sem1) : ZS := (zSeq (zFrz [] (zRet (zOp gIx (zCall (C "way_forward") 2 0 [0, 1] [] (sCons (zSv 0) (sCons (zSv 1) sNil)) sNil) (zNeg (zK (.int 1)))))) zNx)
def WayOk (f : Sem1) : Prop := ∀ M w p ws ks d v, NetS w p ws ks → VecD d v → f [.val (netO p ws ks), .val d] M = .ok (.tup ((wayV p ws ks v).map rowD)) M
def FwdOk (f : Sem1) : Prop := ∀ M w p ws ks d v, NetS w p ws ks → VecD d v → f [.val (netO p ws ks), .val d] M = .ok (rowD (outV p ws ks v)) M
theorem way_loop {lf : Lens} (hl : NetLn lf) {C : Str → Sem1} (hf : LayOk (C "layer_forward")) {M : Sto} {w : Nat} {p : Int} {ws : List Mat} {ks : List Bool} {d : D} {v : Vec} (h : NetS w p ws ks) :
    ∃ e3, zFor (zRng1 (zCons (zLen lf (zSv 0)) zNil)) (tgN 3) (wayBody C) [.val (netO p ws ks), .val d, .own (.lst [rowD v]), .no] M = .nx [.val (netO p ws ks), .val d, .own (.lst ((wayV p ws ks v).map rowD)), e3] M := by
  have hz : zRng1 (zCons (zLen lf (zSv 0)) zNil) [.val (netO p ws ks), .val d, .own (.lst [rowD v]), .no] M = .ok (stpD 0 1 ws.length) M := by
    simp [len_net hl h, rngR_nat ws.length (by have := h.n6; omega)]
  refine zFor_gen (I := fun i env M' => ∃ e3, env = [.val (netO p ws ks), .val d, .own (.lst ((wayV p (ws.take i) (ks.take i) v).map rowD)), e3] ∧ M' = M)
    (Q := fun o => ∃ e3, o = .nx [.val (netO p ws ks), .val d, .own (.lst ((wayV p ws ks v).map rowD)), e3] M) hz ⟨.no, by simp [wayV], rfl⟩ (fun i x env M' hi hI => ?_) fun env M' hI => ?_
  · obtain ⟨e3, rfl, rfl⟩ := hI
    obtain ⟨rfl, hlt⟩ := stpD_get hi
    have hk : i < ks.length := by rw [h.kl]; exact hlt
    have hm : ws[i]? = some ws[i] := List.getElem?_eq_getElem hlt
    have hkk : ks[i]? = some ks[i] := List.getElem?_eq_getElem hk
    have ll : (ws.take i).length = (ks.take i).length := by rw [List.length_take, List.length_take, h.kl]
    have g : gIx (.lst ((wayV p (ws.take i) (ks.take i) v).map rowD)) (.int (-1)) M' = .ok (rowD (outV p (ws.take i) (ks.take i) v)) M' := gIx_last wayV_last rfl
    have q := hf M' w p ws ks i ws[i] ks[i] (rowD (outV p (ws.take i) (ks.take i) v)) (outV p (ws.take i) (ks.take i) v) h hm hkk (VecD.row _)
    have hlen : ((wayV p (ws.take i) (ks.take i) v).map rowD).length < sizeLine := by
      rw [List.length_map, wayV_len ll, List.length_take]
      exact Nat.lt_of_lt_of_le (show min i ws.length + 1 < 1001 by have := h.n6; omega) (by decide)
    refine ⟨_, rfl, ?_⟩
    have e : (wayV p (ws.take (i + 1)) (ks.take (i + 1)) v).map rowD = (wayV p (ws.take i) (ks.take i) v).map rowD ++ [rowD (fwdV p ws[i] ks[i] (outV p (ws.take i) (ks.take i) v))] := by
      rw [take_snoc hm, take_snoc hkk, wayV_snoc ll, List.map_append]
      rfl
    generalize (wayV p (ws.take i) (ks.take i) v).map rowD = L at g hlen e
    simp [wayBody, g, q, getPl, setPl, hlen, stepO, e]
  · obtain ⟨e3, rfl, rfl⟩ := hI
    rw [stpD_len]
    refine ⟨e3, ?_⟩
    rw [List.take_of_length_le (Nat.le_refl _), List.take_of_length_le (by rw [h.kl]; exact Nat.le_refl _)]
theorem wayOk {lf : Lens} (hl : NetLn lf) {C : Str → Sem1} (hf : LayOk (C "layer_forward")) : WayOk (zFun 2 4 (nWay lf C)) := fun M w p ws ks d v h hv => by
  obtain ⟨e3, hw⟩ := way_loop hl hf (M := M) (d := d) (v := v) h
  have hd : deref M d = some d := deref_items hv.items
  unfold zFun
  simp only [nWay]
  generalize zFor (zRng1 (zCons (zLen lf (zSv 0)) zNil)) (tgN 3) (wayBody C) = y at hw
  have e : D.tup (v.map D.int) = rowD v := rfl
  simp [hd, hv.items, e, hw]
theorem fwdOk {C : Str → Sem1} (hf : WayOk (C "way_forward")) : FwdOk (zFun 2 2 (nForward C)) := fun M w p ws ks d v h hv => by
  have q := hf M w p ws ks d v h hv
  have g : gIx (.tup ((wayV p ws ks v).map rowD)) (.int (-1)) M = .ok (rowD (outV p ws ks v)) M := gIx_last wayV_last rfl
  unfold zFun
  simp [nForward, q, g]
end Zy
set_option maxHeartbeats 2000000
namespace Zy
open PySem PySem.Spec PyProof.Rows L2
/-! the law's own nets -/
def lPrime (C : Str → Sem1) : ZS :=
  (zSeq (zFrz [] (zIfS (zTst (zOp gEq (zCall (C "_law_take") 2 0 [0, 1] [] (sCons (zSv 0) (sCons (zVl (zK (.int 2))) sNil)) sNil) (zK (.int 0))))
    (zSeq (zFrz [] (zRet (zOp gIx (zLst (zCons (zK (.int 2)) (zCons (zK (.int 3)) (zCons (zK (.int 5)) (zCons (zK (.int 7)) zNil))))) (zCall (C "_law_take") 2 0 [0, 1] [] (sCons (zSv 0) (sCons (zVl (zK (.int 4))) sNil)) sNil))))
      zNx)
    zNx))
      (zSeq (zFrz [] (zSet 1 (zLst (zCons (zK (.int 11)) (zCons (zK (.int 13)) (zCons (zK (.int 17)) (zCons (zK (.int 19)) (zCons (zK (.int 23)) (zCons (zK (.int 29)) (zCons (zK (.int 31)) (zCons (zK (.int 37)) (zCons (zK (.int 41)) (zCons (zK (.int 43)) (zCons (zK (.int 47)) (zCons (zK (.int 53)) (zCons (zK (.int 59)) (zCons (zK (.int 61)) (zCons (zK (.int 67)) (zCons (zK (.int 71)) (zCons (zK (.int 73)) (zCons (zK (.int 79)) (zCons (zK (.int 83)) (zCons (zK (.int 89)) (zCons (zK (.int 97)) zNil))))))))))))))))))))))))
      (zSeq (zFrz [] (zRet (zOp gIx (zCv 1) (zCall (C "_law_take") 2 0 [0, 1] [] (sCons (zSv 0) (sCons (zVl (zK (.int 21))) sNil)) sNil))))
      zNx)))
def vecZ (T : Sem1) : ZX := zLc (zRng1 (zCons (zVar 2) zNil)) (tgN 3) (fun _ M => .ok true M) (zCall T 2 0 [0, 1] [] (sCons (zSv 0) (sCons (zSv 1) sNil)) sNil) [3]
def lVector (C : Str → Sem1) : ZS :=
  (zSeq (zFrz [] (zRet (zTupOf (vecZ (C "_law_take")))))
      zNx)
def matZ (V : Sem1) : ZX := zLc (zRng1 (zCons (zVar 3) zNil)) (tgN 7) (fun _ M => .ok true M) (zCall V 3 0 [0, 1, 2] [] (sCons (zSv 0) (sCons (zSv 2) (sCons (zSv 3) sNil))) sNil) [7]
def netBody (C : Str → Sem1) : ZS :=
    (zSeq (zFrz [] (zApp 4 (zTupOf (matZ (C "_law_vector")))))
      (zSeq (zFrz [] (zApp 5 (zOp gIx (zLst (zCons (zK (.str "line")) (zCons (zK (.str "square")) zNil))) (zCall (C "_law_take") 2 0 [0, 1] [] (sCons (zSv 0) (sCons (zVl (zK (.int 2))) sNil)) sNil))))
      zNx))
def lNet (C : Str → Sem1) : ZS :=
  (zSeq (zFrz [] (zSet 2 (zCall (C "_law_prime") 1 0 [0] [] (sCons (zSv 0) sNil) sNil)))
      (zSeq (zFrz [] (zSet 3 (zOp gAdd (zK (.int 1)) (zCall (C "_law_take") 2 0 [0, 1] [] (sCons (zSv 0) (sCons (zVl (zK (.int 3))) sNil)) sNil))))
      (zSeq (zFrz [] (zSetO 4 (zLst zNil)))
      (zSeq (zFrz [] (zSetO 5 (zLst zNil)))
      (zSeq (zFrz [] (zFor (zRng1 (zCons (zOp gAdd (zK (.int 1)) (zCall (C "_law_take") 2 0 [0, 1] [] (sCons (zSv 0) (sCons (zSv 1) sNil)) sNil)) zNil)) (tgN 6)
    (netBody C)))
      (zSeq (zFrz [] (zRet (zTup (zCons (zVar 2) (zCons (zTupOf (zCv 4)) (zCons (zTupOf (zCv 5)) zNil))))))
      zNx))))))
def LPrOk (f : Sem1) : Prop := ∀ M, Hd M → ∃ p M', p ∈ primes97 ∧ Hd M' ∧ f [.val (.ref 0)] M = .ok (.int p) M'
theorem gIx_ints {l : Vec} {r : Int} {M : Sto} (h0 : 0 ≤ r) (h1 : r < l.length) : ∃ x, x ∈ l ∧ gIx (.lst (l.map .int)) (.int r) M = .ok (.int x) M := by
  have hl : r.toNat < l.length := by omega
  refine ⟨l[r.toNat], List.getElem_mem hl, ?_⟩
  have := gIx_map (ga := D.int) (d := .lst (l.map .int)) (M := M) (r := l) (k := r.toNat) (List.getElem?_eq_getElem hl) rfl
  rwa [Int.toNat_of_nonneg h0] at this
theorem lPrOk {C : Str → Sem1} (ht : TakeOk (C "_law_take")) : LPrOk (zFun 1 2 (lPrime C)) := fun M hM => by
  obtain ⟨r, M1, r0, r1, h1, t1⟩ := ht M 2 hM (by decide)
  by_cases hr : r = 0
  · obtain ⟨q, M2, q0, q1, h2, t2⟩ := ht M1 4 h1 (by decide)
    obtain ⟨x, hx, g⟩ := gIx_ints (l := [2, 3, 5, 7]) (M := M2) q0 q1
    have g' : gIx (.lst [.int 2, .int 3, .int 5, .int 7]) (.int q) M2 = .ok (.int x) M2 := g
    have sub : ∀ y ∈ ([2, 3, 5, 7] : List Int), y ∈ primes97 := by decide
    refine ⟨x, M2, sub x hx, h2, ?_⟩
    subst hr
    unfold zFun
    simp [lPrime, t1, t2, g']
  · obtain ⟨q, M2, q0, q1, h2, t2⟩ := ht M1 21 h1 (by decide)
    obtain ⟨x, hx, g⟩ := gIx_ints (l := [11, 13, 17, 19, 23, 29, 31, 37, 41, 43, 47, 53, 59, 61, 67, 71, 73, 79, 83, 89, 97]) (M := M2) q0 q1
    have g' : gIx (.lst [.int 11, .int 13, .int 17, .int 19, .int 23, .int 29, .int 31, .int 37, .int 41, .int 43, .int 47, .int 53, .int 59, .int 61, .int 67, .int 71, .int 73, .int 79, .int 83, .int 89, .int 97]) (.int q) M2 = .ok (.int x) M2 := g
    have sub : ∀ y ∈ ([11, 13, 17, 19, 23, 29, 31, 37, 41, 43, 47, 53, 59, 61, 67, 71, 73, 79, 83, 89, 97] : List Int), y ∈ primes97 := by decide
    refine ⟨x, M2, sub x hx, h2, ?_⟩
    unfold zFun
    simp [lPrime, t1, t2, g', hr]
def LVecOk (f : Sem1) : Prop := ∀ M (p : Int) (w : Nat), Hd M → 0 < p → w ≤ 1000 → ∃ v M', v.length = w ∧ Lt p v ∧ Hd M' ∧ f [.val (.ref 0), .val (.int p), .val (.int w)] M = .ok (rowD v) M'
theorem Lt.snoc {p : Int} {v : Vec} {x : Int} (h : Lt p v) (h0 : 0 ≤ x) (h1 : x < p) : Lt p (v ++ [x]) := fun y hy => by
  rcases List.mem_append.mp hy with hy | hy
  · exact h y hy
  · rw [List.mem_singleton.mp hy]; exact ⟨h0, h1⟩
theorem vecZ_ok {T : Sem1} (ht : TakeOk T) {M : Sto} {p : Int} {w : Nat} (hM : Hd M) (hp : 0 < p) (hw : w ≤ 1000) : ∃ v M', v.length = w ∧ Lt p v ∧ Hd M' ∧ vecZ T [.val (.ref 0), .val (.int p), .val (.int w), .no] M = .ok (.lst (v.map .int)) M' := by
  obtain ⟨acc, M', e, hl, v, rfl, hv, hM'⟩ := lcRngS (env := [.val (.ref 0), .val (.int p), .val (.int w), .no]) (M := M) (M1 := M) (za := zVar 2) (ze := zCall T 2 0 [0, 1] [] (sCons (zSv 0) (sCons (zSv 1) sNil)) sNil) (vs := [3]) (i := 3) (n := w)
    (fun k acc M => ∃ v : Vec, acc = v.map .int ∧ Lt p v ∧ Hd M) (by simp) rfl hw ⟨[], rfl, fun _ h => by simp at h, hM⟩ fun k acc M2 hk _ h => by
      obtain ⟨v, rfl, hv, h2⟩ := h
      obtain ⟨r, M3, r0, r1, h3, t⟩ := ht M2 p h2 hp
      exact ⟨.int r, M3, by simp [wipeE, t], v ++ [r], by simp, hv.snoc r0 r1, h3⟩
  exact ⟨v, M', by simpa using hl, hv, hM', e⟩
theorem lv_seq {z : ZX} {a b c : Sl} {M M' : Sto} {ds : List D} (e : z [a, b, c, .no] M = .ok (.lst ds) M') : zFun 3 4 (zSeq (zFrz [] (zRet (zTupOf z))) zNx) [a, b, c] M = .ok (.tup ds) M' := by
  unfold zFun
  simp [e]
theorem lVecOk {C : Str → Sem1} (ht : TakeOk (C "_law_take")) : LVecOk (zFun 3 4 (lVector C)) := fun M p w hM hp hw => by
  obtain ⟨v, M', h1, h2, h3, e⟩ := vecZ_ok ht (M := M) (p := p) (w := w) hM hp hw
  exact ⟨v, M', h1, h2, h3, lv_seq e⟩
theorem matZ_ok {V : Sem1} (hv : LVecOk V) {M : Sto} {a1 e4 e5 e6 : Sl} {p : Int} {w : Nat} (hM : Hd M) (hp : 0 < p) (hw : w ≤ 1000) : ∃ m M', MatOk w p m ∧ Hd M' ∧ matZ V [.val (.ref 0), a1, .val (.int p), .val (.int w), e4, e5, e6, .no] M = .ok (.lst (m.map rowD)) M' := by
  obtain ⟨acc, M1, e, hl, m, rfl, hm1, h1⟩ := lcRngS (env := [.val (.ref 0), a1, .val (.int p), .val (.int w), e4, e5, e6, .no]) (M := M) (M1 := M) (za := zVar 3) (ze := zCall V 3 0 [0, 1, 2] [] (sCons (zSv 0) (sCons (zSv 2) (sCons (zSv 3) sNil))) sNil) (vs := [7]) (i := 7) (n := w)
    (fun k acc M => ∃ m : Mat, acc = m.map rowD ∧ (∀ r ∈ m, r.length = w ∧ Lt p r) ∧ Hd M) (by simp) rfl hw ⟨[], rfl, fun _ h => by simp at h, hM⟩ fun k acc M2 hk _ h => by
      obtain ⟨m, rfl, hm, h2⟩ := h
      obtain ⟨v, M3, v1, v2, h3, t⟩ := hv M2 p w h2 hp hw
      refine ⟨rowD v, M3, by simp [wipeE, t], m ++ [v], by simp, fun r hr => ?_, h3⟩
      rcases List.mem_append.mp hr with hr | hr
      · exact hm r hr
      · rw [List.mem_singleton.mp hr]; exact ⟨v1, v2⟩
  exact ⟨m, M1, ⟨by simpa using hl, hm1⟩, h1, e⟩
def LNetOk (f : Sem1) : Prop := ∀ M (most : Int), Hd M → 1 ≤ most → most ≤ 6 → ∃ w p ws ks M', NetS w p ws ks ∧ (ws.length : Int) ≤ most ∧ Hd M' ∧ f [.val (.ref 0), .val (.int most)] M = .ok (netT p ws ks) M'
def netI (a1 : Sl) (p : Int) (w : Nat) (i : Nat) (env : Ev) (M : Sto) : Prop := ∃ (ws : List Mat) (ks : List Bool) (e6 : Sl), env = [.val (.ref 0), a1, .val (.int p), .val (.int w), .own (.lst (ws.map matD)), .own (.lst (ks.map kD)), e6, .no] ∧ ws.length = i ∧ ks.length = i ∧ (∀ m ∈ ws, MatOk w p m) ∧ Hd M
theorem netBody_ok {C : Str → Sem1} (ht : TakeOk (C "_law_take")) (hv : LVecOk (C "_law_vector")) {a1 : Sl} {p : Int} {w i : Nat} {ws : List Mat} {ks : List Bool} {e6 : Sl} {M : Sto} (hp : 0 < p) (hw : w ≤ 100) (hi : i ≤ 100) (l1 : ws.length = i) (l2 : ks.length = i) (hm : ∀ m ∈ ws, MatOk w p m) (hM : Hd M) :
    ∃ env' M', netBody C [.val (.ref 0), a1, .val (.int p), .val (.int w), .own (.lst (ws.map matD)), .own (.lst (ks.map kD)), e6, .no] M = .nx env' M' ∧ netI a1 p w (i + 1) env' M' := by
  obtain ⟨m, M1, mo, h1, e⟩ := matZ_ok hv (M := M) (a1 := a1) (e4 := .own (.lst (ws.map matD))) (e5 := .own (.lst (ks.map kD))) (e6 := e6) (p := p) (w := w) hM hp (by omega)
  obtain ⟨r, M2, r0, r1, h2, t⟩ := ht M1 2 h1 (by decide)
  have s4 : (ws.map matD).length < sizeLine := by rw [List.length_map, l1]; exact Nat.lt_of_le_of_lt hi (by decide)
  have s5 : (ks.map kD).length < sizeLine := by rw [List.length_map, l2]; exact Nat.lt_of_le_of_lt hi (by decide)
  have g : gIx (.lst [.str "line", .str "square"]) (.int r) M2 = .ok (kD (decide (r = 1))) M2 := by
    have : r = 0 ∨ r = 1 := by omega
    rcases this with rfl | rfl
    · exact gIx_lst (by decide) rfl
    · exact gIx_lst (by decide) rfl
  have em : D.tup (m.map rowD) = matD m := rfl
  have a4 : ws.map matD ++ [matD m] = (ws ++ [m]).map matD := by simp
  have a5 : ks.map kD ++ [kD (decide (r = 1))] = (ks ++ [decide (r = 1)]).map kD := by simp
  have hm' : ∀ x ∈ ws ++ [m], MatOk w p x := fun x hx => by
    rcases List.mem_append.mp hx with hx | hx
    · exact hm x hx
    · rw [List.mem_singleton.mp hx]; exact mo
  refine ⟨[.val (.ref 0), a1, .val (.int p), .val (.int w), .own (.lst ((ws ++ [m]).map matD)), .own (.lst ((ks ++ [decide (r = 1)]).map kD)), e6, .no], M2, ?_, ws ++ [m], ks ++ [decide (r = 1)], e6, rfl, by simp [l1], by simp [l2], hm', h2⟩
  rw [← a4, ← a5]
  generalize ws.map matD = A at s4 e ⊢
  generalize ks.map kD = B at s5 e ⊢
  simp [netBody, e, t, g, getPl, setPl, s4, s5, em]
theorem lnet_seq {P T : Sem1} {y : ZS} {a1 e6 : Sl} {M M1 M2 M4 : Sto} {p r : Int} {A B : List D} (t1 : P [.val (.ref 0)] M = .ok (.int p) M1) (t2 : T [.val (.ref 0), .val (.int 3)] M1 = .ok (.int r) M2)
    (hy : y [.val (.ref 0), a1, .val (.int p), .val (.int (1 + r)), .own (.lst []), .own (.lst []), .no, .no] M2 = .nx [.val (.ref 0), a1, .val (.int p), .val (.int (1 + r)), .own (.lst A), .own (.lst B), e6, .no] M4) :
    zFun 2 8 (zSeq (zFrz [] (zSet 2 (zCall P 1 0 [0] [] (sCons (zSv 0) sNil) sNil)))
      (zSeq (zFrz [] (zSet 3 (zOp gAdd (zK (.int 1)) (zCall T 2 0 [0, 1] [] (sCons (zSv 0) (sCons (zVl (zK (.int 3))) sNil)) sNil))))
      (zSeq (zFrz [] (zSetO 4 (zLst zNil)))
      (zSeq (zFrz [] (zSetO 5 (zLst zNil)))
      (zSeq (zFrz [] y)
      (zSeq (zFrz [] (zRet (zTup (zCons (zVar 2) (zCons (zTupOf (zCv 4)) (zCons (zTupOf (zCv 5)) zNil))))))
      zNx)))))) [.val (.ref 0), a1] M = .ok (.tup [.int p, .tup A, .tup B]) M4 := by
  unfold zFun
  simp [t1, t2, hy]
theorem lNetOk {C : Str → Sem1} (ht : TakeOk (C "_law_take")) (hp : LPrOk (C "_law_prime")) (hv : LVecOk (C "_law_vector")) : LNetOk (zFun 2 8 (lNet C)) := fun M most hM m1 m6 => by
  obtain ⟨p, M1, p1, h1, t1⟩ := hp M hM
  obtain ⟨r, M2, r0, r1, h2, t2⟩ := ht M1 3 h1 (by decide)
  obtain ⟨n, M3, n0, n1, h3, t3⟩ := ht M2 most h2 (by omega)
  have pb := primes_le p1
  have ew : (1 : Int) + r = ((1 + r.toNat : Nat) : Int) := by omega
  have en : (1 : Int) + n = ((1 + n.toNat : Nat) : Int) := by omega
  obtain ⟨ws, ks, e6, M4, l1, l2, hm, h4, hfor⟩ : ∃ (ws : List Mat) (ks : List Bool) (e6 : Sl) (M4 : Sto), ws.length = 1 + n.toNat ∧ ks.length = 1 + n.toNat ∧ (∀ m ∈ ws, MatOk (1 + r.toNat) p m) ∧ Hd M4 ∧
      zFor (zRng1 (zCons (zOp gAdd (zK (.int 1)) (zCall (C "_law_take") 2 0 [0, 1] [] (sCons (zSv 0) (sCons (zSv 1) sNil)) sNil)) zNil)) (tgN 6) (netBody C) [.val (.ref 0), .val (.int most), .val (.int p), .val (.int (1 + r)), .own (.lst []), .own (.lst []), .no, .no] M2 =
        .nx [.val (.ref 0), .val (.int most), .val (.int p), .val (.int (1 + r)), .own (.lst (ws.map matD)), .own (.lst (ks.map kD)), e6, .no] M4 := by
    have hz : zRng1 (zCons (zOp gAdd (zK (.int 1)) (zCall (C "_law_take") 2 0 [0, 1] [] (sCons (zSv 0) (sCons (zSv 1) sNil)) sNil)) zNil) [.val (.ref 0), .val (.int most), .val (.int p), .val (.int (1 + r)), .own (.lst []), .own (.lst []), .no, .no] M2 = .ok (stpD 0 1 (1 + n.toNat)) M3 := by
      have := rngR_nat (M := M3) (1 + n.toNat) (by omega)
      rw [← en] at this
      simp [t3, this]
    have hb := fun (i : Nat) (ws : List Mat) (ks : List Bool) (e6 : Sl) (M : Sto) => netBody_ok (C := C) ht hv (a1 := .val (.int most)) (p := p) (w := 1 + r.toNat) (i := i) (ws := ws) (ks := ks) (e6 := e6) (M := M) (by omega) (by omega)
    generalize netBody C = y at hb
    refine zFor_gen (I := netI (.val (.int most)) p (1 + r.toNat)) (Q := fun o => ∃ (ws : List Mat) (ks : List Bool) (e6 : Sl) (M4 : Sto), ws.length = 1 + n.toNat ∧ ks.length = 1 + n.toNat ∧ (∀ m ∈ ws, MatOk (1 + r.toNat) p m) ∧ Hd M4 ∧ o = .nx [.val (.ref 0), .val (.int most), .val (.int p), .val (.int (1 + r)), .own (.lst (ws.map matD)), .own (.lst (ks.map kD)), e6, .no] M4) hz
      ⟨[], [], .no, by rw [ew]; rfl, rfl, rfl, fun _ h => by simp at h, h3⟩ (fun i x env M' hi hI => ?_) fun env M' hI => ?_
    · obtain ⟨ws, ks, e6, rfl, l1, l2, hm, hM'⟩ := hI
      obtain ⟨rfl, hlt⟩ := stpD_get hi
      obtain ⟨env', M'', e, hI'⟩ := hb i ws ks (.val (.int (0 + (i : Nat) * 1))) M' (by omega) l1 l2 hm hM'
      refine ⟨_, rfl, ?_⟩
      simp only [List.set_cons_succ, List.set_cons_zero]
      rw [e]
      exact hI'
    · obtain ⟨ws, ks, e6, rfl, l1, l2, hm, hM'⟩ := hI
      rw [stpD_len] at l1 l2
      exact ⟨ws, ks, e6, M', l1, l2, hm, hM', by rw [ew]⟩
  refine ⟨1 + r.toNat, p, ws, ks, M4, ⟨p1, by omega, by omega, by omega, by omega, by omega, hm⟩, by omega, h4, ?_⟩
  exact lnet_seq t1 t2 hfor
end Zy
set_option maxHeartbeats 2000000
namespace Zy
open PySem PySem.Spec PyProof.Rows L2
/-! the law's own layers -/
theorem zip_range (f : Int → Int → Int) : ∀ {r v : Vec}, r.length = v.length → List.zipWith f r v = (List.range v.length).map fun k => f (r.getD k 0) (v.getD k 0) := fun {r v} h => by
  refine List.ext_getElem? fun i => ?_
  by_cases hi : i < v.length
  · have hr : i < r.length := by omega
    rw [List.getElem?_zipWith, List.getElem?_eq_getElem hi, List.getElem?_eq_getElem hr, List.getElem?_map, List.getElem?_range hi]
    simp [List.getD, List.getElem?_eq_getElem hi, List.getElem?_eq_getElem hr]
  · rw [List.getElem?_eq_none (by rw [List.length_zipWith]; omega), List.getElem?_eq_none (by rw [List.length_map, List.length_range]; omega)]
section
variable {M : Sto} {lf : Lens} {d : D} {v : Vec}
theorem len_vec (h : VecD d v) : lenR lf (.val d) M = .ok (.int v.length) M := by
  rcases h with rfl | rfl <;> simp
theorem ix_vec (h : VecD d v) {k : Nat} (hk : k < v.length) : gIx d (.int (k : Nat)) M = .ok (.int (v.getD k 0)) M := by
  have := gIx_map (ga := D.int) (d := d) (M := M) (r := v) (k := k) (List.getElem?_eq_getElem hk) h.items
  simpa [List.getD, List.getElem?_eq_getElem hk] using this
theorem ixT0 {p : Int} {ws : List Mat} {ks : List Bool} : gIx (netT p ws ks) (.int 0) M = .ok (.int p) M := gIx_tup (by decide) rfl
theorem ixT1 {p : Int} {ws : List Mat} {ks : List Bool} : gIx (netT p ws ks) (.int 1) M = .ok (wsD ws) M := gIx_tup (by decide) rfl
theorem ixT2 {p : Int} {ws : List Mat} {ks : List Bool} : gIx (netT p ws ks) (.int 2) M = .ok (.tup (ks.map kD)) M := gIx_tup (by decide) rfl
end
def lpRow (lf : Lens) : ZX := zLc (zRng1 (zCons (zLen lf (zSv 2)) zNil)) (tgN 5) (fun _ M => .ok true M) (zOp gMul (zOp gIx (zCv 4) (zCv 5)) (zOp gIx (zCv 2) (zCv 5))) [5]
def lpBody (lf : Lens) : ZS := (zSeq (zFrz [] (zApp 3 (zOp gMod (zBf gInt (zCons (zBf gSum (zCons (lpRow lf) zNil)) zNil)) (zOp gIx (zCv 0) (zK (.int 0)))))) zNx)
def lProduct (lf : Lens) : ZS :=
  (zSeq (zFrz [] (zSetO 3 (zLst zNil)))
      (zSeq (zFrz [] (zFor (zSeqI (zOp gIx (zOp gIx (zCv 0) (zK (.int 1))) (zCv 1))) (tgN 4) (lpBody lf)))
      (zSeq (zFrz [] (zRet (zTupOf (zCv 3))))
      zNx)))
def LPOk (f : Sem1) : Prop := ∀ M w p ws ks (l : Nat) m d v, NetS w p ws ks → ws[l]? = some m → VecD d v → v.length = w → f [.val (netT p ws ks), .val (.int l), .val d] M = .ok (rowD (prodV p m v)) M
theorem lpRow_ok {lf : Lens} {M : Sto} {a0 a1 a3 : Sl} {p : Int} {d : D} {r v : Vec} (hp2 : p ≤ 97) (hr : Lt p r) (hl : r.length = v.length) (hv : VecD d v) (hs : v.length ≤ 100) :
    lpRow lf [a0, a1, .val d, a3, .val (rowD r), .no] M = .ok (.lst ((List.zipWith (· * ·) r v).map .int)) M := by
  have l := lcRng (env := [a0, a1, .val d, a3, .val (rowD r), .no]) (M := M) (M1 := M) (za := zLen lf (zSv 2)) (ze := zOp gMul (zOp gIx (zCv 4) (zCv 5)) (zOp gIx (zCv 2) (zCv 5))) (vs := [5]) (i := 5) (n := v.length) (fun k => .int (r.getD k 0 * v.getD k 0))
    (by simp [len_vec hv]) rfl (by omega) fun k hk => by
      have hk2 : k < r.length := by omega
      have hs : smallI (r.getD k 0) := by
        have hm : r.getD k 0 ∈ r := by
          simp only [List.getD, List.getElem?_eq_getElem hk2, Option.getD_some]
          exact List.getElem_mem hk2
        have := hr _ hm
        exact small_of (by omega) (by omega)
      simp only [wipeE, List.set_cons_succ, List.set_cons_zero, zOp_z, zCv_z, List.getElem?_cons_succ, List.getElem?_cons_zero, Res.bind_ok, ix_vec (VecD.row r) hk2, ix_vec hv hk, gMul_int, hs, true_or, if_true]
  rw [zip_range _ hl, List.map_map]
  exact l
theorem lp_loop {lf : Lens} {M : Sto} {w : Nat} {p : Int} {ws : List Mat} {ks : List Bool} {l : Nat} {m : Mat} {d : D} {v : Vec} (h : NetS w p ws ks) (hm : ws[l]? = some m) (hv : VecD d v) (hw : v.length = w) :
    ∃ e4, zFor (zSeqI (zOp gIx (zOp gIx (zCv 0) (zK (.int 1))) (zCv 1))) (tgN 4) (lpBody lf) [.val (netT p ws ks), .val (.int l), .val d, .own (.lst []), .no, .no] M = .nx [.val (netT p ws ks), .val (.int l), .val d, .own (.lst ((prodV p m v).map .int)), e4, .no] M := by
  have mo := rows_at h hm
  have w3 := h.w3
  have p0 := h.p0
  have hz : zSeqI (zOp gIx (zOp gIx (zCv 0) (zK (.int 1))) (zCv 1)) [.val (netT p ws ks), .val (.int l), .val d, .own (.lst []), .no, .no] M = .ok (m.map rowD) M := by
    have e : itemsD (matD m) = some (m.map rowD) := rfl
    simp [ixT1, ix_mat hm, e]
  have hb : ∀ (A : List Int) (r : Vec), r ∈ m → A.length ≤ 100 → lpBody lf [.val (netT p ws ks), .val (.int l), .val d, .own (.lst (A.map .int)), .val (rowD r), .no] M = .nx [.val (netT p ws ks), .val (.int l), .val d, .own (.lst ((A ++ [dot r v % p]).map .int)), .val (rowD r), .no] M := fun A r hr hA => by
    have q := lpRow_ok (lf := lf) (a0 := .val (netT p ws ks)) (a1 := .val (.int l)) (a3 := .own (.lst (A.map .int))) (M := M) (d := d) (r := r) (v := v) h.p97 (mo.2 r hr).2 (by rw [(mo.2 r hr).1, hw]) hv (by omega)
    have hl : (A.map D.int).length < sizeLine := by rw [List.length_map]; exact Nat.lt_of_le_of_lt hA (by decide)
    rw [List.map_append]
    generalize A.map D.int = B at q hl ⊢
    simp only [lpBody, zSeq_z, zFrz_z, zApp_z, getPl, setPl, List.getElem?_cons_succ, List.getElem?_cons_zero, zOp_z, zBf_z, zCons_z, zNil_z, q, Res.bind_ok, gSum_ints, gInt_int, zCv_z, zK_z, ixT0, gMod_int, p0, if_true, Res.toS_ok, hl, List.set_cons_succ, List.set_cons_zero, zNx_z, dot, List.map_cons, List.map_nil]
  generalize lpBody lf = y at hb
  refine zFor_gen (I := fun i env M' => ∃ e4, env = [.val (netT p ws ks), .val (.int l), .val d, .own (.lst ((prodV p (m.take i) v).map .int)), e4, .no] ∧ M' = M)
    (Q := fun o => ∃ e4, o = .nx [.val (netT p ws ks), .val (.int l), .val d, .own (.lst ((prodV p m v).map .int)), e4, .no] M) hz ⟨.no, rfl, rfl⟩ (fun i x env M' hi hI => ?_) fun env M' hI => ?_
  · obtain ⟨e4, rfl, rfl⟩ := hI
    rw [List.getElem?_map] at hi
    cases q : m[i]? with
    | none => rw [q] at hi; cases hi
    | some r =>
      rw [q] at hi
      cases hi
      refine ⟨_, rfl, ?_⟩
      have := hb (prodV p (m.take i) v) r (List.mem_of_getElem? q) (by rw [prodV_len, List.length_take]; have := mo.1; omega)
      simp only [List.set_cons_succ, List.set_cons_zero]
      rw [this]
      have e : prodV p (m.take (i + 1)) v = prodV p (m.take i) v ++ [dot r v % p] := by
        rw [take_snoc q]
        simp [prodV]
      exact ⟨.val (rowD r), by rw [e], rfl⟩
  · obtain ⟨e4, rfl, rfl⟩ := hI
    exact ⟨e4, by rw [List.length_map, List.take_of_length_le (Nat.le_refl _)]⟩
theorem lp_seq {y : ZS} {a b c e4 : Sl} {M : Sto} {A : List D} (hy : y [a, b, c, .own (.lst []), .no, .no] M = .nx [a, b, c, .own (.lst A), e4, .no] M) :
    zFun 3 6 (zSeq (zFrz [] (zSetO 3 (zLst zNil))) (zSeq (zFrz [] y) (zSeq (zFrz [] (zRet (zTupOf (zCv 3)))) zNx))) [a, b, c] M = .ok (.tup A) M := by
  unfold zFun
  simp [hy]
theorem lpOk {lf : Lens} : LPOk (zFun 3 6 (lProduct lf)) := fun M w p ws ks l m d v h hm hv hw => by
  obtain ⟨e4, q⟩ := lp_loop (lf := lf) (M := M) h hm hv hw
  exact lp_seq q
def lOut (C : Str → Sem1) : ZS :=
  (zSeq (zFrz [] (zSet 3 (zCall (C "_law_product") 3 0 [0, 1, 2] [] (sCons (zSv 0) (sCons (zSv 1) (sCons (zSv 2) sNil))) sNil)))
      (zSeq (zFrz [] (zIfS (zTst (zOp gEq (zOp gIx (zOp gIx (zCv 0) (zK (.int 2))) (zCv 1)) (zK (.str "square"))))
    (zSeq (zFrz [] (zRet (zTupOf (zLc (zSeqI (zBv 3)) (tgN 4) (fun _ M => .ok true M) (zOp gMod (zBf gInt (zCons (zOp gMul (zCv 4) (zCv 4)) zNil)) (zOp gIx (zCv 0) (zK (.int 0)))) [4]))))
      zNx)
    zNx))
      (zSeq (zFrz [] (zRet (zVar 3)))
      zNx)))
def LOutOk (f : Sem1) : Prop := ∀ M w p ws ks (l : Nat) m k d v, NetS w p ws ks → ws[l]? = some m → ks[l]? = some k → VecD d v → v.length = w → f [.val (netT p ws ks), .val (.int l), .val d] M = .ok (rowD (fwdV p m k v)) M
theorem lout_seq {P : Sem1} {lz : ZX} {M : Sto} {p : Int} {ws : List Mat} {ks : List Bool} {l : Nat} {k : Bool} {d r : D} {A : List D} (hk : ks[l]? = some k) (q : P [.val (netT p ws ks), .val (.int l), .val d] M = .ok r M)
    (hz : lz [.val (netT p ws ks), .val (.int l), .val d, .val r, .no] M = .ok (.lst A) M) :
    zFun 3 5 (zSeq (zFrz [] (zSet 3 (zCall P 3 0 [0, 1, 2] [] (sCons (zSv 0) (sCons (zSv 1) (sCons (zSv 2) sNil))) sNil)))
      (zSeq (zFrz [] (zIfS (zTst (zOp gEq (zOp gIx (zOp gIx (zCv 0) (zK (.int 2))) (zCv 1)) (zK (.str "square")))) (zSeq (zFrz [] (zRet (zTupOf lz))) zNx) zNx))
      (zSeq (zFrz [] (zRet (zVar 3))) zNx))) [.val (netT p ws ks), .val (.int l), .val d] M = .ok (if k then .tup A else r) M := by
  unfold zFun
  cases k <;> simp [q, ixT2, ix_kind hk, gEq_kind, hz]
theorem lOutOk {C : Str → Sem1} (hp : LPOk (C "_law_product")) : LOutOk (zFun 3 5 (lOut C)) := fun M w p ws ks l m k d v h hm hk hv hw => by
  have q := hp M w p ws ks l m d v h hm hv hw
  have lt := prodV_lt h.p0 m v
  have p0 := h.p0
  have p97 := h.p97
  have c := lcSeq (env := [.val (netT p ws ks), .val (.int l), .val d, .val (rowD (prodV p m v)), .no]) (M := M) (M1 := M) (za := zBv 3) (ze := zOp gMod (zBf gInt (zCons (zOp gMul (zCv 4) (zCv 4)) zNil)) (zOp gIx (zCv 0) (zK (.int 0)))) (vs := [4]) (i := 4) (d := rowD (prodV p m v)) (r := prodV p m v) (ga := D.int) (fun y => .int (y * y % p))
    (by simp) rfl rfl (by rw [prodV_len]; have := (rows_at h hm).1; have := h.w3; omega) fun y hy => by
      have hs : smallI y := by have := lt y hy; exact small_of (by omega) (by omega)
      simp only [wipeE, List.set_cons_succ, List.set_cons_zero, zOp_z, zBf_z, zCons_z, zNil_z, zCv_z, zK_z, List.getElem?_cons_succ, List.getElem?_cons_zero, Res.bind_ok, gMul_int, hs, true_or, if_true, gInt_int, ixT0, gMod_int, p0]
  have s := lout_seq hk q c
  have e : (if k = true then D.tup ((prodV p m v).map fun y => .int (y * y % p)) else rowD (prodV p m v)) = rowD (fwdV p m k v) := by
    cases k
    · rfl
    · simp only [if_true, fwdV, rowD, List.map_map]
      rfl
  rw [e] at s
  exact s
end Zy
set_option maxHeartbeats 2000000
namespace Zy
open PySem PySem.Spec PyProof.Rows L2
/-! rows: repr, != -/
theorem RD.row {v : Vec} {p : Int} (hp : p ≤ 1000) (h : Lt p v) {n : Nat} (hl : v.length ≤ n) : RD 1 (n * 11) (rowD v) := RD.tup (m := n) (fun d hd => by
  obtain ⟨x, hx, rfl⟩ := List.mem_map.mp hd
  have := h x hx
  exact RD.int this.1 (by omega)) (by rw [List.length_map]; exact hl)
theorem repr_row {v : Vec} {p : Int} (hp : p ≤ 1000) (h : Lt p v) (hl : v.length ≤ 100) : ReprOk (rowD v) := (RD.row hp h hl).repr (by decide) (by decide)
theorem toPys_ints : ∀ ns : List Int, toPys (ns.map .int) = some (ns.map .int)
  | [] => rfl
  | n :: ns => by simp [toPys, toPy, toPys_ints ns]
theorem lay_ints : ∀ ns : List Int, PyData.canLayAll0 (ns.map .int) = true ∧ PyData.depthAll (ns.map .int) = 0 ∧ PyData.eqvAll (ns.map .int) (ns.map .int) = true
  | [] => ⟨rfl, rfl, by simp [PyData.eqvAll]⟩
  | n :: ns => by
    obtain ⟨h1, h2, h3⟩ := lay_ints ns
    refine ⟨?_, ?_, ?_⟩
    · simp [PyData.canLayAll0, PyData.canLay0, h1]
    · simp [PyData.depthAll, PyData.depth, h2]
    · simp [PyData.eqvAll, PyData.eqv, h3]
theorem gNe_row {v : Vec} {M : Sto} : gNe (rowD v) (rowD v) M = .ok (.bl false) M := by
  obtain ⟨h1, h2, h3⟩ := lay_ints v
  have hs : SeqAt.shaped (.tuple (v.map .int)) = true := by simp [SeqAt.shaped, PyData.canLay0, PyData.depth, h1, h2]
  have he : eqD (.tup (v.map .int)) (.tup (v.map .int)) = some true := by
    unfold eqD
    simp [toPy, toPys_ints, hs, PyData.eqv, h3]
  show (match eqD2 (.tup (v.map .int)) (.tup (v.map .int)) with
    | some b => Res.ok (D.bl (if true then !b else b)) M
    | none => .fail) = _
  have : eqD2 (.tup (v.map .int)) (.tup (v.map .int)) = some true := he
  rw [this]; rfl
theorem tup_of {d : D} {v : Vec} (h : VecD d v) {M : Sto} : (deref M d).bind itemsD = some (v.map .int) := by rcases h with rfl | rfl <;> rfl
theorem gNe_row' {v : Vec} {M : Sto} : gNe (.tup (v.map .int)) (rowD v) M = .ok (.bl false) M := gNe_row
/-- [v, list(v)][i] -/
theorem pick_vec {v : Vec} {r : Int} (h0 : 0 ≤ r) (h1 : r < 2) (M : Sto) : ∃ d, VecD d v ∧ gIx (.lst [rowD v, .lst (v.map .int)]) (.int r) M = .ok d M := by
  have : r = 0 ∨ r = 1 := by omega
  rcases this with rfl | rfl
  · exact ⟨_, VecD.row v, gIx_lst (by decide) rfl⟩
  · exact ⟨_, .inr rfl, gIx_lst (by decide) rfl⟩
theorem outV_lt {p : Int} (hp : 0 < p) : ∀ {ms : List Mat} {ks : List Bool} {v : Vec}, Lt p v → Lt p (outV p ms ks v)
  | [], _, _, h => by simpa [outV] using h
  | _ :: _, [], _, h => by simpa [outV] using h
  | m :: ms, k :: ks, v, h => by
    rw [outV]
    exact outV_lt hp (fwdV_lt hp m k v)
theorem outV_len {p : Int} {w : Nat} : ∀ {ms : List Mat} {ks : List Bool} {v : Vec}, (∀ m ∈ ms, m.length = w) → v.length = w → (outV p ms ks v).length = w
  | [], _, _, _, h => by simpa [outV] using h
  | _ :: _, [], _, _, h => by simpa [outV] using h
  | m :: ms, k :: ks, v, hm, h => by
    rw [outV]
    exact outV_len (fun x hx => hm x (List.mem_cons_of_mem _ hx)) (by rw [fwdV_len]; exact hm m (List.mem_cons_self ..))
theorem lstOf_row {v : Vec} {M : Sto} : (deref M (rowD v)).bind itemsD = some (v.map .int) := rfl
@[simp] theorem sz2 : (2 : Nat) ≤ sizeLine := by decide
def is1 (lf : Lens) (V : Sem1) (i : Nat) : ZS := zSet i (zCall V 3 0 [0, 1, 2] [] (sCons (zSv 0) (sCons (zVl (zOp gIx (zCv 2) (zK (.int 0)))) (sCons (zVl (zLen lf (zVl (zOp gIx (zOp gIx (zCv 2) (zK (.int 1))) (zK (.int 0)))))) sNil))) sNil)
def is2 (T : Sem1) : ZS := zSet 6 (zOp gIx (zLst (zCons (zVar 7) (zCons (zLstOf (zCv 7)) zNil))) (zCall T 2 0 [0, 1] [] (sCons (zSv 0) (sCons (zVl (zK (.int 2))) sNil)) sNil))
def is3 (L O : Sem1) : ZS := zIfS (zTst (zOp gNe (zBf gRepr (zCons (zCall L 0 3 [0, 1, 2] [] sNil (sCons (zSv 1) (sCons (zSv 5) (sCons (zSv 6) sNil)))) zNil)) (zBf gRepr (zCons (zCall O 3 0 [0, 1, 2] [] (sCons (zSv 2) (sCons (zSv 5) (sCons (zSv 7) sNil))) sNil) zNil)))) (zSeq (zFrz [] (zRet (zK (.bl false)))) zNx) zNx
def is4 : ZS := zIfS (zTst (zOp gNe (zTupOf (zCv 6)) (zCv 7))) (zSeq (zFrz [] (zRet (zK (.bl false)))) zNx) zNx
def is5 (O : Sem1) : ZS := zSet 4 (zCall O 3 0 [0, 1, 2] [] (sCons (zSv 2) (sCons (zSv 5) (sCons (zSv 4) sNil))) sNil)
def isBody (lf : Lens) (V T L O : Sem1) : ZS := (zSeq (zFrz [] (is1 lf V 7)) (zSeq (zFrz [] (is2 T)) (zSeq (zFrz [] (is3 L O)) (zSeq (zFrz [] is4) (zSeq (zFrz [] (is5 O)) zNx)))))
def is6 (W : Sem1) : ZS := (zSeq (zFrz [] (zIfS (zOr (zTst (zOp gNe (zBf gRepr (zCons (zCall W 0 2 [0, 1] [] sNil (sCons (zSv 1) (sCons (zSv 6) sNil))) zNil)) (zBf gRepr (zCons (zCv 4) zNil)))) (zTst (zOp gNe (zTupOf (zCv 6)) (zCv 3)))) (zSeq (zFrz [] (zRet (zK (.bl false)))) zNx) zNx)) zNx)
def kIs (lf : Lens) (C : Str → Sem1) : ZS :=
  (zSeq (zFrz [] (is1 lf (C "_law_vector") 3))
      (zSeq (zFrz [] (zSet 4 (zVar 3)))
      (zSeq (zFrz [] (zFor (zRng1 (zCons (zLen lf (zVl (zOp gIx (zCv 2) (zK (.int 1))))) zNil)) (tgN 5) (isBody lf (C "_law_vector") (C "_law_take") (C "layer_forward") (C "_law_out"))))
      (zSeq (zFrz [] (zFor (zSeqI (zLst (zCons (zVar 3) (zCons (zLstOf (zCv 3)) zNil)))) (tgN 6) (is6 (C "forward"))))
      (zSeq (zFrz [] (zRet (zK (.bl true))))
      zNx)))))
section
variable {lf : Lens} {V T L O W : Sem1} {M : Sto} {w : Nat} {p : Int} {ws : List Mat} {ks : List Bool} {e3 e4 e5 e6 e7 : Sl}
abbrev e03 (p : Int) (ws : List Mat) (ks : List Bool) (e3 e4 e5 e6 e7 : Sl) : Ev := [.val (.ref 0), .val (netO p ws ks), .val (netT p ws ks), e3, e4, e5, e6, e7]
theorem ix_first (h : NetS w p ws ks) : ∃ m0, ws[0]? = some m0 ∧ m0.length = w ∧ gIx (wsD ws) (.int 0) M = .ok (matD m0) M := by
  have hl : 0 < ws.length := by have := h.n1; omega
  have h0 : ws[0]? = some ws[0] := List.getElem?_eq_getElem hl
  exact ⟨ws[0], h0, (rows_at h h0).1, ix_mat (l := 0) h0⟩
theorem is1_ok (hv : LVecOk V) (h : NetS w p ws ks) (hM : Hd M) : ∃ v M', v.length = w ∧ Lt p v ∧ Hd M' ∧ is1 lf V 7 (e03 p ws ks e3 e4 e5 e6 e7) M = .nx (e03 p ws ks e3 e4 e5 e6 (.val (rowD v))) M' ∧ is1 lf V 3 (e03 p ws ks e3 e4 e5 e6 e7) M = .nx (e03 p ws ks (.val (rowD v)) e4 e5 e6 e7) M' := by
  obtain ⟨v, M', h1, h2, h3, t⟩ := hv M p w hM h.p0 (by have := h.w3; omega)
  obtain ⟨m0, _, hm, g⟩ := ix_first (M := M) h
  have e : lenR lf (.val (matD m0)) M = .ok (.int (w : Nat)) M := by
    unfold matD
    rw [lenR_tup, List.length_map, hm]
  refine ⟨v, M', h1, h2, h3, ?_, ?_⟩ <;> simp only [is1, e03, zSet_z, zCall_z, sCons_z, sNil_z, zSv_z, zVl_z, zOp_z, zCv_z, zK_z, zLen_z, List.getElem?_cons_succ, List.getElem?_cons_zero, Res.bind_ok, ixT0, ixT1, g, e, callR3, t, Res.toS_ok, List.set_cons_succ, List.set_cons_zero]
theorem is2_ok (hT : TakeOk T) {v : Vec} (hM : Hd M) : ∃ d M', VecD d v ∧ Hd M' ∧ is2 T (e03 p ws ks e3 e4 e5 e6 (.val (rowD v))) M = .nx (e03 p ws ks e3 e4 e5 (.val d) (.val (rowD v))) M' := by
  obtain ⟨r, M', r0, r1, h1, t⟩ := hT M 2 hM (by decide)
  obtain ⟨d, hd, g⟩ := pick_vec (v := v) r0 r1 M'
  refine ⟨d, M', hd, h1, ?_⟩
  have e := lstOf_row (v := v) (M := M)
  simp only [is2, e03, zSet_z, zOp_z, zLst_z, zCons_z, zNil_z, zVar_z, zLstOf_z, zCv_z, List.getElem?_cons_succ, List.getElem?_cons_zero, Res.bind_ok, e, List.length_cons, List.length_nil, Nat.zero_add, Nat.reduceAdd, sz2, if_true, zCall_z, sCons_z, sNil_z, zSv_z, zVl_z, zK_z, callR2, t, g, Res.toS_ok, List.set_cons_succ, List.set_cons_zero]
theorem is3_ok (hL : LayOk L) (hO : LOutOk O) (h : NetS w p ws ks) {i : Nat} {m : Mat} {k : Bool} (hm : ws[i]? = some m) (hk : ks[i]? = some k) {d : D} {v : Vec} (hd : VecD d v) (hv : v.length = w) :
    is3 L O (e03 p ws ks e3 e4 (.val (.int i)) (.val d) (.val (rowD v))) M = .nx (e03 p ws ks e3 e4 (.val (.int i)) (.val d) (.val (rowD v))) M := by
  have q1 := hL M w p ws ks i m k d v h hm hk hd
  have q2 := hO M w p ws ks i m k (rowD v) v h hm hk (VecD.row v) hv
  obtain ⟨s, hs⟩ := repr_row (p := p) (by have := h.p97; omega) (fwdV_lt h.p0 m k v) (by rw [fwdV_len, (rows_at h hm).1]; have := h.w3; omega)
  simp only [is3, e03, zIfS_z, zTst_z, zOp_z, zBf_z, zCons_z, zNil_z, zCall_z, sCons_z, sNil_z, zSv_z, List.getElem?_cons_succ, List.getElem?_cons_zero, Res.bind_ok, callRk3', callR3, q1, q2, hs, gNe_strs, Res.toS_ok, Bool.false_eq_true, if_false, zNx_z]
theorem is4_ok {d : D} {v : Vec} (hd : VecD d v) : is4 (e03 p ws ks e3 e4 e5 (.val d) (.val (rowD v))) M = .nx (e03 p ws ks e3 e4 e5 (.val d) (.val (rowD v))) M := by
  have e := tup_of hd (M := M)
  simp only [is4, e03, zIfS_z, zTst_z, zOp_z, zTupOf_z, zCv_z, List.getElem?_cons_succ, List.getElem?_cons_zero, Res.bind_ok, e, gNe_row', Res.toS_ok, Bool.false_eq_true, if_false, zNx_z]
theorem is5_ok (hO : LOutOk O) (h : NetS w p ws ks) {i : Nat} {m : Mat} {k : Bool} (hm : ws[i]? = some m) (hk : ks[i]? = some k) {v : Vec} (hv : v.length = w) :
    is5 O (e03 p ws ks e3 (.val (rowD v)) (.val (.int i)) e6 e7) M = .nx (e03 p ws ks e3 (.val (rowD (fwdV p m k v))) (.val (.int i)) e6 e7) M := by
  have q2 := hO M w p ws ks i m k (rowD v) v h hm hk (VecD.row v) hv
  simp only [is5, e03, zSet_z, zCall_z, sCons_z, sNil_z, zSv_z, List.getElem?_cons_succ, List.getElem?_cons_zero, Res.bind_ok, callR3, q2, Res.toS_ok, List.set_cons_succ, List.set_cons_zero]
theorem isBody_ok (hV : LVecOk V) (hT : TakeOk T) (hL : LayOk L) (hO : LOutOk O) (h : NetS w p ws ks) {i : Nat} {m : Mat} {k : Bool} (hm : ws[i]? = some m) (hk : ks[i]? = some k) {v : Vec} (hv : v.length = w) (hM : Hd M) :
    ∃ e6' e7' M', Hd M' ∧ isBody lf V T L O (e03 p ws ks e3 (.val (rowD v)) (.val (.int i)) e6 e7) M = .nx (e03 p ws ks e3 (.val (rowD (fwdV p m k v))) (.val (.int i)) e6' e7') M' := by
  obtain ⟨u, M1, u1, u2, h1, s1, _⟩ := is1_ok (lf := lf) (e3 := e3) (e4 := .val (rowD v)) (e5 := .val (.int i)) (e6 := e6) (e7 := e7) hV h hM
  obtain ⟨d, M2, hd, h2, s2⟩ := is2_ok (p := p) (ws := ws) (ks := ks) (e3 := e3) (e4 := .val (rowD v)) (e5 := .val (.int i)) (e6 := e6) (v := u) hT h1
  have s3 := is3_ok (M := M2) (e3 := e3) (e4 := .val (rowD v)) hL hO h hm hk hd u1
  have s4 := is4_ok (M := M2) (p := p) (ws := ws) (ks := ks) (e3 := e3) (e4 := .val (rowD v)) (e5 := .val (.int i)) hd
  have s5 := is5_ok (M := M2) (e3 := e3) (e6 := .val d) (e7 := .val (rowD u)) hO h hm hk hv
  refine ⟨.val d, .val (rowD u), M2, h2, ?_⟩
  simp only [isBody, zSeq_z, zFrz_z, s1, s2, s3, s4, s5, zNx_z]
theorem is6_ok (hW : FwdOk W) (h : NetS w p ws ks) {d : D} {v : Vec} (hd : VecD d v) (hv : v.length = w) (hp : Lt p v) : is6 W (e03 p ws ks (.val (rowD v)) (.val (rowD (outV p ws ks v))) e5 (.val d) e7) M = .nx (e03 p ws ks (.val (rowD v)) (.val (rowD (outV p ws ks v))) e5 (.val d) e7) M := by
  have q := hW M w p ws ks d v h hd
  have e := tup_of hd (M := M)
  have hl : (outV p ws ks v).length = w := outV_len (fun m hm => (h.ms m hm).1) hv
  obtain ⟨s, hs⟩ := repr_row (p := p) (by have := h.p97; omega) (outV_lt h.p0 (ms := ws) (ks := ks) hp) (by rw [hl]; have := h.w3; omega)
  simp only [is6, e03, zSeq_z, zFrz_z, zIfS_z, zOr_z, zTst_z, zOp_z, zBf_z, zCons_z, zNil_z, zCall_z, sCons_z, sNil_z, zSv_z, zTupOf_z, zCv_z, List.getElem?_cons_succ, List.getElem?_cons_zero, Res.bind_ok, callRk2, q, hs, gNe_strs, e, gNe_row', Res.toS_ok, Bool.false_eq_true, if_false, zNx_z]
theorem isLoop1 (hV : LVecOk V) (hT : TakeOk T) (hL : LayOk L) (hO : LOutOk O) (h : NetS w p ws ks) {v : Vec} (hv : v.length = w) (hM : Hd M) :
    ∃ e5 e6 e7 M', Hd M' ∧ zFor (zRng1 (zCons (zLen lf (zVl (zOp gIx (zCv 2) (zK (.int 1))))) zNil)) (tgN 5) (isBody lf V T L O) (e03 p ws ks (.val (rowD v)) (.val (rowD v)) .no .no .no) M = .nx (e03 p ws ks (.val (rowD v)) (.val (rowD (outV p ws ks v))) e5 e6 e7) M' := by
  have hz : zRng1 (zCons (zLen lf (zVl (zOp gIx (zCv 2) (zK (.int 1))))) zNil) (e03 p ws ks (.val (rowD v)) (.val (rowD v)) .no .no .no) M = .ok (stpD 0 1 ws.length) M := by
    have e : lenR lf (.val (wsD ws)) M = .ok (.int ws.length) M := by
      unfold wsD
      rw [lenR_tup, List.length_map]
    simp only [e03, zRng1_z, zCons_z, zNil_z, zLen_z, zVl_z, zOp_z, zCv_z, zK_z, List.getElem?_cons_succ, List.getElem?_cons_zero, Res.bind_ok, ixT1, e]
    exact rngR_nat _ (by have := h.n6; omega)
  have hb := fun (e5 e6 e7 : Sl) (i : Nat) (m : Mat) (k : Bool) (u : Vec) (M : Sto) (hm : ws[i]? = some m) (hk : ks[i]? = some k) (hu : u.length = w) (hM : Hd M) => isBody_ok (lf := lf) (e3 := .val (rowD v)) (e6 := e6) (e7 := e7) (M := M) hV hT hL hO h hm hk hu hM
  generalize isBody lf V T L O = y at hb
  refine zFor_gen (I := fun i env M' => ∃ e5 e6 e7, env = e03 p ws ks (.val (rowD v)) (.val (rowD (outV p (ws.take i) (ks.take i) v))) e5 e6 e7 ∧ Hd M')
    (Q := fun o => ∃ e5 e6 e7 M', Hd M' ∧ o = .nx (e03 p ws ks (.val (rowD v)) (.val (rowD (outV p ws ks v))) e5 e6 e7) M') hz ⟨.no, .no, .no, rfl, hM⟩ (fun i x env M' hi hI => ?_) fun env M' hI => ?_
  · obtain ⟨e5, e6, e7, rfl, h1⟩ := hI
    obtain ⟨rfl, hlt⟩ := stpD_get hi
    have hk : i < ks.length := by rw [h.kl]; exact hlt
    have hm : ws[i]? = some ws[i] := List.getElem?_eq_getElem hlt
    have hkk : ks[i]? = some ks[i] := List.getElem?_eq_getElem hk
    have ll : (ws.take i).length = (ks.take i).length := by rw [List.length_take, List.length_take, h.kl]
    have hu : (outV p (ws.take i) (ks.take i) v).length = w := outV_len (fun m hm => (h.ms m (List.mem_of_mem_take hm)).1) hv
    obtain ⟨e6', e7', M2, h2, s⟩ := hb e5 e6 e7 i ws[i] ks[i] _ M' hm hkk hu h1
    refine ⟨_, rfl, ?_⟩
    simp only [e03, List.set_cons_succ, List.set_cons_zero, Int.zero_add, Int.mul_one] at s ⊢
    rw [s]
    refine ⟨.val (.int i), e6', e7', ?_, h2⟩
    rw [take_snoc hm, take_snoc hkk, outV_snoc ll]
  · obtain ⟨e5, e6, e7, rfl, h1⟩ := hI
    rw [stpD_len]
    refine ⟨e5, e6, e7, M', h1, ?_⟩
    rw [List.take_of_length_le (Nat.le_refl _), List.take_of_length_le (by rw [h.kl]; exact Nat.le_refl _)]
theorem isLoop2 (hW : FwdOk W) (h : NetS w p ws ks) {v : Vec} (hv : v.length = w) (hp : Lt p v) :
    ∃ e6', zFor (zSeqI (zLst (zCons (zVar 3) (zCons (zLstOf (zCv 3)) zNil)))) (tgN 6) (is6 W) (e03 p ws ks (.val (rowD v)) (.val (rowD (outV p ws ks v))) e5 e6 e7) M = .nx (e03 p ws ks (.val (rowD v)) (.val (rowD (outV p ws ks v))) e5 e6' e7) M := by
  have hz : zSeqI (zLst (zCons (zVar 3) (zCons (zLstOf (zCv 3)) zNil))) (e03 p ws ks (.val (rowD v)) (.val (rowD (outV p ws ks v))) e5 e6 e7) M = .ok [rowD v, .lst (v.map .int)] M := by
    have e := lstOf_row (v := v) (M := M)
    simp only [e03, zSeqI_z, zLst_z, zCons_z, zNil_z, zVar_z, zLstOf_z, zCv_z, List.getElem?_cons_succ, List.getElem?_cons_zero, Res.bind_ok, e, List.length_cons, List.length_nil, Nat.zero_add, Nat.reduceAdd, sz2, if_true, itemsD_lst]
  have hb := fun (d : D) (hd : VecD d v) => is6_ok (M := M) (e5 := e5) (e7 := e7) hW h hd hv hp
  generalize is6 W = y at hb
  refine zFor_gen (I := fun i env M' => ∃ e6, env = e03 p ws ks (.val (rowD v)) (.val (rowD (outV p ws ks v))) e5 e6 e7 ∧ M' = M)
    (Q := fun o => ∃ e6', o = .nx (e03 p ws ks (.val (rowD v)) (.val (rowD (outV p ws ks v))) e5 e6' e7) M) hz ⟨e6, rfl, rfl⟩ (fun i x env M' hi hI => ?_) fun env M' hI => ?_
  · obtain ⟨e6, rfl, rfl⟩ := hI
    have hx : VecD x v := by
      have := List.mem_of_getElem? hi
      simp only [List.mem_cons, List.not_mem_nil, or_false] at this
      rcases this with rfl | rfl
      · exact VecD.row v
      · exact .inr rfl
    refine ⟨_, rfl, ?_⟩
    have s := hb x hx
    simp only [e03, List.set_cons_succ, List.set_cons_zero] at s ⊢
    rw [s]
    exact ⟨_, rfl, rfl⟩
  · obtain ⟨e6, rfl, rfl⟩ := hI
    exact ⟨e6, rfl⟩
end
def KIsOk (f : Sem1) : Prop := ∀ M w p ws ks, NetS w p ws ks → Hd M → ∃ M', Hd M' ∧ f [.val (.ref 0), .val (netO p ws ks), .val (netT p ws ks)] M = .ok (.bl true) M'
theorem kis_seq {y1 y2 y3 : ZS} {a b c v r e5 e6 e7 f5 f6 f7 : Sl} {dv : D} {M M1 M2 M3 : Sto} (h1 : y1 [a, b, c, .no, .no, .no, .no, .no] M = .nx [a, b, c, .val dv, .no, .no, .no, .no] M1)
    (h2 : y2 [a, b, c, .val dv, .val dv, .no, .no, .no] M1 = .nx [a, b, c, .val dv, r, e5, e6, e7] M2) (h3 : y3 [a, b, c, .val dv, r, e5, e6, e7] M2 = .nx [a, b, c, .val dv, r, f5, f6, f7] M3) :
    zFun 3 8 (zSeq (zFrz [] y1) (zSeq (zFrz [] (zSet 4 (zVar 3))) (zSeq (zFrz [] y2) (zSeq (zFrz [] y3) (zSeq (zFrz [] (zRet (zK (.bl true)))) zNx))))) [a, b, c] M = .ok (.bl true) M3 := by
  unfold zFun
  simp [h1, h2, h3]
theorem kIsOk {lf : Lens} {C : Str → Sem1} (hV : LVecOk (C "_law_vector")) (hT : TakeOk (C "_law_take")) (hL : LayOk (C "layer_forward")) (hO : LOutOk (C "_law_out")) (hW : FwdOk (C "forward")) : KIsOk (zFun 3 8 (kIs lf C)) := fun M w p ws ks h hM => by
  obtain ⟨v, M1, v1, v2, h1, _, s1⟩ := is1_ok (lf := lf) (e3 := .no) (e4 := .no) (e5 := .no) (e6 := .no) (e7 := .no) hV h hM
  obtain ⟨e5, e6, e7, M2, h2, s2⟩ := isLoop1 (lf := lf) hV hT hL hO h v1 h1
  obtain ⟨e6', s3⟩ := isLoop2 (M := M2) (e5 := e5) (e6 := e6) (e7 := e7) hW h v1 v2
  exact ⟨M2, h2, kis_seq (v := .no) s1 s2 s3⟩
end Zy
set_option maxHeartbeats 2000000
namespace Zy
open PySem PySem.Spec PyProof.Rows L2
/-! back through a layer -/
@[simp] theorem sz1 : (1 : Nat) ≤ sizeLine := by decide
@[simp] theorem sz3 : (3 : Nat) ≤ sizeLine := by decide
def psV (p : Int) (m : Mat) (k : Bool) (v s : Vec) : Vec := if k then List.zipWith (fun y g => 2 * y * g % p) (prodV p m v) s else s
def backIn (p : Int) (m : Mat) (g : Vec) (w : Nat) : Vec := (List.range w).map fun k => (List.zipWith (fun x (r : Vec) => x * r.getD k 0) g m).sum % p
def backW (p : Int) (g v : Vec) : Mat := g.map fun x => v.map fun y => x * y % p
theorem Lt.zip {p : Int} (hp : 0 < p) {α β : Type} (f : α → β → Int) (r : List α) (v : List β) : Lt p (List.zipWith (fun a b => f a b % p) r v) := fun x hx => by
  rw [← List.map_uncurry_zip_eq_zipWith] at hx
  obtain ⟨y, _, rfl⟩ := List.mem_map.mp hx
  exact ⟨Int.emod_nonneg _ (by omega), Int.emod_lt_of_pos _ hp⟩
theorem psV_lt {p : Int} (hp : 0 < p) {m : Mat} {k : Bool} {v s : Vec} (hs : Lt p s) : Lt p (psV p m k v s) := by
  unfold psV
  split
  · exact Lt.zip hp _ _ _
  · exact hs
theorem psV_len {p : Int} {m : Mat} {k : Bool} {v s : Vec} {w : Nat} (hm : m.length = w) (hs : s.length = w) : (psV p m k v s).length = w := by
  unfold psV
  split
  · rw [List.length_zipWith, prodV_len]; omega
  · exact hs
theorem backIn_lt {p : Int} (hp : 0 < p) {m : Mat} {g : Vec} {w : Nat} : Lt p (backIn p m g w) := Lt.mod hp _ _
theorem backIn_len {p : Int} {m : Mat} {g : Vec} {w : Nat} : (backIn p m g w).length = w := by simp [backIn]
theorem backW_ok {p : Int} (hp : 0 < p) {g v : Vec} {w : Nat} (hg : g.length = w) (hv : v.length = w) : MatOk w p (backW p g v) := by
  refine ⟨by simp [backW, hg], fun r hr => ?_⟩
  obtain ⟨x, _, rfl⟩ := List.mem_map.mp hr
  exact ⟨by simp [hv], Lt.mod hp _ _⟩
def psZ (ats : Ats) : ZX := zLc (zZip (zBv 4) (zBv 3)) (tgT [5, 6]) (fun _ M => .ok true M) (zOp gMod (zOp gMul (zOp gMul (zK (.int 2)) (zCv 5)) (zCv 6)) (zAt ats "prime" (zCv 0))) [5, 6]
def nPs (ats : Ats) (C : Str → Sem1) : ZS :=
  (zSeq (zFrz [] (zIfS (zTst (zOp gEq (zOp gIx (zAt ats "kinds" (zCv 0)) (zCv 1)) (zK (.str "square"))))
    (zSeq (zFrz [] (zSet 4 (zCall (C "_product") 3 0 [0, 1, 2] [] (sCons (zSv 0) (sCons (zSv 1) (sCons (zSv 2) sNil))) sNil)))
      (zSeq (zFrz [] (zRet (zTupOf (psZ ats))))
      zNx))
    zNx))
      (zSeq (zFrz [] (zRet (zTupOf (zCv 3))))
      zNx))
def PsOk (f : Sem1) : Prop := ∀ M w p ws ks (l : Nat) m k d v e s, NetS w p ws ks → ws[l]? = some m → ks[l]? = some k → VecD d v → VecD e s → f [.val (netO p ws ks), .val (.int l), .val d, .val e] M = .ok (rowD (psV p m k v s)) M
theorem psZ_ok {ats : Ats} (ha : NetAts ats) {M : Sto} {w : Nat} {p : Int} {ws : List Mat} {ks : List Bool} {a1 a2 : Sl} {e : D} {y s : Vec} (h : NetS w p ws ks) (hy : Lt p y) (hl : y.length ≤ 1000) (he : VecD e s) :
    psZ ats [.val (netO p ws ks), a1, a2, .val e, .val (rowD y), .no, .no] M = .ok (.lst ((List.zipWith (fun y g => 2 * y * g % p) y s).map .int)) M := by
  have p97 := h.p97
  have p0 := h.p0
  have l := lcZip (env := [.val (netO p ws ks), a1, a2, .val e, .val (rowD y), .no, .no]) (M := M) (za := zBv 4) (zb := zBv 3) (ze := zOp gMod (zOp gMul (zOp gMul (zK (.int 2)) (zCv 5)) (zCv 6)) (zAt ats "prime" (zCv 0))) (vs := [5, 6]) (i := 5) (j := 6) (d := rowD y) (e := e) (r := y) (v := s) (ga := D.int) (gb := D.int) (fun x g => .int (2 * x * g % p)) (by simp) (by simp) rfl he.items rfl hl
    fun x hx g _ => by
      have hb := hy x hx
      have h2 : smallI 2 := by decide
      have hs : smallI (2 * x) := small_of (by omega) (by omega)
      simp only [zSeq_z, zFrz_z, zSet_z, zSetO_z, zRet_z, zDrop_z, zIfS_z, zTst_z, zTru_z, zNot_z, zAnd_z, zOr_z, zAndV_z, zNotV_z, zIf_z, zOp_z, zBf_z, zCons_z, zNil_z, zCall_z, sCons_z, sNil_z, zSv_z, zVl_z, zCv_z, zBv_z, zVar_z, zK_z, zNeg_z, zTup_z, zLst_z, zTupOf_z, zLstOf_z, zLen_z, zAt_z, zProp_z, zApp_z, zAugN_z, zSeqI_z, zRng1_z, zRng2_z, zAsg_z, zPart_z, zNoP_z, getPl, setPl, wipeE, List.getElem?_cons_succ, List.getElem?_cons_zero, List.set_cons_succ, List.set_cons_zero, Res.bind_ok, Res.toS_ok, callR1, callR2, callR3, callR0_4, callRk1, callRk2, callRk3', callRk4', List.length_cons, List.length_nil, Nat.zero_add, Nat.reduceAdd, sz1, sz2, sz3, if_true, if_false, Bool.false_eq_true, Bool.not_true, Bool.not_false, zNx_z, zBk_z, zCt_z, itemsD_lst, itemsD_tup, deref_bl, deref_int, deref_str, deref_tup, deref_lst, Option.bind_some, truD, gAdd_int, gSub_int, gMul_int, gMod_int, gCmpI_int, gEq_int, gInt_int, lenR_lst, lenR_blst, lenR_tup, decide_true, decide_false, true_or, or_true, List.map_cons, List.map_nil, h2, hs, at_prime ha, p0]
  rw [zipWith_int] at l
  exact l
theorem psOk {ats : Ats} (ha : NetAts ats) {C : Str → Sem1} (hp : ProdOk (C "_product")) : PsOk (zFun 4 7 (nPs ats C)) := fun M w p ws ks l m k d v e s h hm hk hd he => by
  have q := hp M w p ws ks l m d v h hm hd
  have c := psZ_ok ha (M := M) (a1 := .val (.int l)) (a2 := .val d) (e := e) (s := s) h (prodV_lt h.p0 m v) (by rw [prodV_len, (rows_at h hm).1]; have := h.w3; omega) he
  have ei : (deref M e).bind itemsD = some (s.map .int) := tup_of he
  unfold zFun
  rw [if_pos (show [Sl.val (netO p ws ks), .val (.int l), .val d, .val e].length = 4 from rfl)]
  cases k with
  | true =>
    have er : rowD (psV p m true v s) = .tup ((List.zipWith (fun y g => 2 * y * g % p) (prodV p m v) s).map .int) := rfl
    rw [er]
    generalize (List.zipWith (fun y g => 2 * y * g % p) (prodV p m v) s).map D.int = B at c ⊢
    simp only [zSeq_z, zFrz_z, zSet_z, zSetO_z, zRet_z, zDrop_z, zIfS_z, zTst_z, zTru_z, zNot_z, zAnd_z, zOr_z, zAndV_z, zNotV_z, zIf_z, zOp_z, zBf_z, zCons_z, zNil_z, zCall_z, sCons_z, sNil_z, zSv_z, zVl_z, zCv_z, zBv_z, zVar_z, zK_z, zNeg_z, zTup_z, zLst_z, zTupOf_z, zLstOf_z, zLen_z, zAt_z, zProp_z, zApp_z, zAugN_z, zSeqI_z, zRng1_z, zRng2_z, zAsg_z, zPart_z, zNoP_z, getPl, setPl, wipeE, List.getElem?_cons_succ, List.getElem?_cons_zero, List.set_cons_succ, List.set_cons_zero, Res.bind_ok, Res.toS_ok, callR1, callR2, callR3, callR0_4, callRk1, callRk2, callRk3', callRk4', List.length_cons, List.length_nil, Nat.zero_add, Nat.reduceAdd, sz1, sz2, sz3, if_true, if_false, Bool.false_eq_true, Bool.not_true, Bool.not_false, zNx_z, zBk_z, zCt_z, itemsD_lst, itemsD_tup, deref_bl, deref_int, deref_str, deref_tup, deref_lst, Option.bind_some, truD, gAdd_int, gSub_int, gMul_int, gMod_int, gCmpI_int, gEq_int, gInt_int, lenR_lst, lenR_blst, lenR_tup, decide_true, decide_false, true_or, or_true, List.map_cons, List.map_nil, nPs, List.cons_append, List.nil_append, Nat.reduceSub, List.replicate_succ, List.replicate_zero, at_kinds ha, ix_kind hk, gEq_kind, q, c]
  | false =>
    have er : rowD (psV p m false v s) = .tup (s.map .int) := rfl
    rw [er]
    simp only [zSeq_z, zFrz_z, zSet_z, zSetO_z, zRet_z, zDrop_z, zIfS_z, zTst_z, zTru_z, zNot_z, zAnd_z, zOr_z, zAndV_z, zNotV_z, zIf_z, zOp_z, zBf_z, zCons_z, zNil_z, zCall_z, sCons_z, sNil_z, zSv_z, zVl_z, zCv_z, zBv_z, zVar_z, zK_z, zNeg_z, zTup_z, zLst_z, zTupOf_z, zLstOf_z, zLen_z, zAt_z, zProp_z, zApp_z, zAugN_z, zSeqI_z, zRng1_z, zRng2_z, zAsg_z, zPart_z, zNoP_z, getPl, setPl, wipeE, List.getElem?_cons_succ, List.getElem?_cons_zero, List.set_cons_succ, List.set_cons_zero, Res.bind_ok, Res.toS_ok, callR1, callR2, callR3, callR0_4, callRk1, callRk2, callRk3', callRk4', List.length_cons, List.length_nil, Nat.zero_add, Nat.reduceAdd, sz1, sz2, sz3, if_true, if_false, Bool.false_eq_true, Bool.not_true, Bool.not_false, zNx_z, zBk_z, zCt_z, itemsD_lst, itemsD_tup, deref_bl, deref_int, deref_str, deref_tup, deref_lst, Option.bind_some, truD, gAdd_int, gSub_int, gMul_int, gMod_int, gCmpI_int, gEq_int, gInt_int, lenR_lst, lenR_blst, lenR_tup, decide_true, decide_false, true_or, or_true, List.map_cons, List.map_nil, nPs, List.cons_append, List.nil_append, Nat.reduceSub, List.replicate_succ, List.replicate_zero, at_kinds ha, ix_kind hk, gEq_kind, ei]
def bkRow : ZX := zLc (zZip (zBv 6) (zBv 5)) (tgT [9, 11]) (fun _ M => .ok true M) (zOp gMul (zCv 9) (zOp gIx (zCv 11) (zCv 8))) [9, 11]
def bkBody : ZS := (zSeq (zFrz [] (zApp 7 (zOp gMod (zBf gSum (zCons bkRow zNil)) (zCv 4)))) zNx)
def bkIn : ZX := zLc (zSeqI (zBv 2)) (tgN 10) (fun _ M => .ok true M) (zOp gMod (zOp gMul (zCv 9) (zCv 10)) (zCv 4)) [10]
def bkW : ZX := zLc (zSeqI (zBv 6)) (tgN 9) (fun _ M => .ok true M) (zTupOf bkIn) [9]
def nBack (ats : Ats) (pf : Lens) (C : Str → Sem1) : ZS :=
  (zSeq (zFrz [] (zSet 4 (zAt ats "prime" (zCv 0))))
      (zSeq (zFrz [] (zSet 5 (zOp gIx (zAt ats "weights" (zCv 0)) (zCv 1))))
      (zSeq (zFrz [] (zSet 6 (zCall (C "_product_slopes") 4 0 [0, 1, 2, 3] [] (sCons (zSv 0) (sCons (zSv 1) (sCons (zSv 2) (sCons (zSv 3) sNil)))) sNil)))
      (zSeq (zFrz [] (zSetO 7 (zLst zNil)))
      (zSeq (zFrz [] (zFor (zRng1 (zCons (zProp pf (zSv 0)) zNil)) (tgN 8) bkBody))
      (zSeq (zFrz [] (zRet (zTup (zCons (zTupOf (zCv 7)) (zCons (zTupOf bkW) zNil)))))
      zNx))))))
def BackOk (f : Sem1) : Prop := ∀ M w p ws ks (l : Nat) m k d v e s, NetS w p ws ks → ws[l]? = some m → ks[l]? = some k → VecD d v → VecD e s → v.length = w → s.length = w → Lt p s →
  f [.val (netO p ws ks), .val (.int l), .val d, .val e] M = .ok (.tup [rowD (backIn p m (psV p m k v s) w), matD (backW p (psV p m k v s) v)]) M
section
variable {M : Sto} {w : Nat} {p : Int} {a0 a1 a2 a3 : Sl} {m : Mat} {g v : Vec} {d : D}
theorem bkRow_ok {A : Sl} {k : Nat} (p97 : p ≤ 97) (hg : Lt p g) (hl : g.length ≤ 1000) (hm : ∀ r ∈ m, r.length = w) (hk : k < w) :
    bkRow [a0, a1, a2, a3, .val (.int p), .val (matD m), .val (rowD g), A, .val (.int k), .no, .no, .no] M = .ok (.lst ((List.zipWith (fun x (r : Vec) => x * r.getD k 0) g m).map .int)) M := by
  have l := lcZip (env := [a0, a1, a2, a3, .val (.int p), .val (matD m), .val (rowD g), A, .val (.int k), .no, .no, .no]) (M := M) (za := zBv 6) (zb := zBv 5) (ze := zOp gMul (zCv 9) (zOp gIx (zCv 11) (zCv 8))) (vs := [9, 11]) (i := 9) (j := 11) (d := rowD g) (e := matD m) (r := g) (v := m) (ga := D.int) (gb := rowD) (fun x r => .int (x * r.getD k 0)) (by simp) (by simp) rfl rfl rfl hl
    fun x hx r hr => by
      have hb := hg x hx
      have hs : smallI x := small_of (by omega) (by omega)
      have hi := ix_vec (M := M) (VecD.row r) (k := k) (by rw [hm r hr]; exact hk)
      simp only [zSeq_z, zFrz_z, zSet_z, zSetO_z, zRet_z, zDrop_z, zIfS_z, zTst_z, zTru_z, zNot_z, zAnd_z, zOr_z, zAndV_z, zNotV_z, zIf_z, zOp_z, zBf_z, zCons_z, zNil_z, zCall_z, sCons_z, sNil_z, zSv_z, zVl_z, zCv_z, zBv_z, zVar_z, zK_z, zNeg_z, zTup_z, zLst_z, zTupOf_z, zLstOf_z, zLen_z, zAt_z, zProp_z, zApp_z, zAugN_z, zSeqI_z, zRng1_z, zRng2_z, zAsg_z, zPart_z, zNoP_z, getPl, setPl, wipeE, List.getElem?_cons_succ, List.getElem?_cons_zero, List.set_cons_succ, List.set_cons_zero, Res.bind_ok, Res.toS_ok, callR1, callR2, callR3, callR0_4, callRk1, callRk2, callRk3', callRk4', List.length_cons, List.length_nil, Nat.zero_add, Nat.reduceAdd, sz1, sz2, sz3, if_true, if_false, Bool.false_eq_true, Bool.not_true, Bool.not_false, zNx_z, zBk_z, zCt_z, itemsD_lst, itemsD_tup, deref_bl, deref_int, deref_str, deref_tup, deref_lst, Option.bind_some, truD, gAdd_int, gSub_int, gMul_int, gMod_int, gCmpI_int, gEq_int, gInt_int, lenR_lst, lenR_blst, lenR_tup, decide_true, decide_false, true_or, or_true, List.map_cons, List.map_nil, hi, hs]
  have e : (List.zipWith (fun x (r : Vec) => x * r.getD k 0) g m).map D.int = List.zipWith (fun x (r : Vec) => .int (x * r.getD k 0)) g m := by rw [List.map_zipWith]
  rw [e]
  exact l
theorem bkW_ok {A e8 : Sl} (p0 : 0 < p) (p97 : p ≤ 97) (hg : Lt p g) (hl : g.length ≤ 1000) (hv : VecD d v) (hl2 : v.length ≤ 1000) :
    bkW [a0, a1, .val d, a3, .val (.int p), .val (matD m), .val (rowD g), A, e8, .no, .no, .no] M = .ok (.lst ((backW p g v).map rowD)) M := by
  have l := lcSeq (env := [a0, a1, .val d, a3, .val (.int p), .val (matD m), .val (rowD g), A, e8, .no, .no, .no]) (M := M) (M1 := M) (za := zBv 6) (ze := zTupOf bkIn) (vs := [9]) (i := 9) (d := rowD g) (r := g) (ga := D.int) (fun x => rowD (v.map fun y => x * y % p))
    (by simp) rfl rfl hl fun x hx => by
      have hb := hg x hx
      have hs : smallI x := small_of (by omega) (by omega)
      have c := lcSeq (env := [a0, a1, .val d, a3, .val (.int p), .val (matD m), .val (rowD g), A, e8, .val (.int x), .no, .no]) (M := M) (M1 := M) (za := zBv 2) (ze := zOp gMod (zOp gMul (zCv 9) (zCv 10)) (zCv 4)) (vs := [10]) (i := 10) (d := d) (r := v) (ga := D.int) (fun y => .int (x * y % p))
        (by simp) hv.items rfl hl2 fun y _ => by simp only [zSeq_z, zFrz_z, zSet_z, zSetO_z, zRet_z, zDrop_z, zIfS_z, zTst_z, zTru_z, zNot_z, zAnd_z, zOr_z, zAndV_z, zNotV_z, zIf_z, zOp_z, zBf_z, zCons_z, zNil_z, zCall_z, sCons_z, sNil_z, zSv_z, zVl_z, zCv_z, zBv_z, zVar_z, zK_z, zNeg_z, zTup_z, zLst_z, zTupOf_z, zLstOf_z, zLen_z, zAt_z, zProp_z, zApp_z, zAugN_z, zSeqI_z, zRng1_z, zRng2_z, zAsg_z, zPart_z, zNoP_z, getPl, setPl, wipeE, List.getElem?_cons_succ, List.getElem?_cons_zero, List.set_cons_succ, List.set_cons_zero, Res.bind_ok, Res.toS_ok, callR1, callR2, callR3, callR0_4, callRk1, callRk2, callRk3', callRk4', List.length_cons, List.length_nil, Nat.zero_add, Nat.reduceAdd, sz1, sz2, sz3, if_true, if_false, Bool.false_eq_true, Bool.not_true, Bool.not_false, zNx_z, zBk_z, zCt_z, itemsD_lst, itemsD_tup, deref_bl, deref_int, deref_str, deref_tup, deref_lst, Option.bind_some, truD, gAdd_int, gSub_int, gMul_int, gMod_int, gCmpI_int, gEq_int, gInt_int, lenR_lst, lenR_blst, lenR_tup, decide_true, decide_false, true_or, or_true, List.map_cons, List.map_nil, hs, p0]
      have c' : bkIn [a0, a1, .val d, a3, .val (.int p), .val (matD m), .val (rowD g), A, e8, .val (.int x), .no, .no] M = .ok (.lst (v.map fun y => .int (x * y % p))) M := c
      have er : rowD (v.map fun y => x * y % p) = .tup (v.map fun y => .int (x * y % p)) := by unfold rowD; rw [List.map_map]; rfl
      rw [er]
      simp only [zSeq_z, zFrz_z, zSet_z, zSetO_z, zRet_z, zDrop_z, zIfS_z, zTst_z, zTru_z, zNot_z, zAnd_z, zOr_z, zAndV_z, zNotV_z, zIf_z, zOp_z, zBf_z, zCons_z, zNil_z, zCall_z, sCons_z, sNil_z, zSv_z, zVl_z, zCv_z, zBv_z, zVar_z, zK_z, zNeg_z, zTup_z, zLst_z, zTupOf_z, zLstOf_z, zLen_z, zAt_z, zProp_z, zApp_z, zAugN_z, zSeqI_z, zRng1_z, zRng2_z, zAsg_z, zPart_z, zNoP_z, getPl, setPl, wipeE, List.getElem?_cons_succ, List.getElem?_cons_zero, List.set_cons_succ, List.set_cons_zero, Res.bind_ok, Res.toS_ok, callR1, callR2, callR3, callR0_4, callRk1, callRk2, callRk3', callRk4', List.length_cons, List.length_nil, Nat.zero_add, Nat.reduceAdd, sz1, sz2, sz3, if_true, if_false, Bool.false_eq_true, Bool.not_true, Bool.not_false, zNx_z, zBk_z, zCt_z, itemsD_lst, itemsD_tup, deref_bl, deref_int, deref_str, deref_tup, deref_lst, Option.bind_some, truD, gAdd_int, gSub_int, gMul_int, gMod_int, gCmpI_int, gEq_int, gInt_int, lenR_lst, lenR_blst, lenR_tup, decide_true, decide_false, true_or, or_true, List.map_cons, List.map_nil, c']
  have e : (backW p g v).map rowD = g.map fun x => rowD (v.map fun y => x * y % p) := by unfold backW; rw [List.map_map]; rfl
  rw [e]
  exact l
theorem bkLoop {pf : Lens} {ws : List Mat} {ks : List Bool} {e1 e2 e3 : Sl} (hl : NetPr pf) (h : NetS w p ws ks) (hm : MatOk w p m) (hg : Lt p g) (hgl : g.length = w) :
    ∃ e8, zFor (zRng1 (zCons (zProp pf (zSv 0)) zNil)) (tgN 8) bkBody [.val (netO p ws ks), e1, e2, e3, .val (.int p), .val (matD m), .val (rowD g), .own (.lst []), .no, .no, .no, .no] M =
      .nx [.val (netO p ws ks), e1, e2, e3, .val (.int p), .val (matD m), .val (rowD g), .own (.lst ((backIn p m g w).map .int)), e8, .no, .no, .no] M := by
  have p0 := h.p0
  have w3 := h.w3
  have hz : zRng1 (zCons (zProp pf (zSv 0)) zNil) [.val (netO p ws ks), e1, e2, e3, .val (.int p), .val (matD m), .val (rowD g), .own (.lst []), .no, .no, .no, .no] M = .ok (stpD 0 1 w) M := by
    simp only [zSeq_z, zFrz_z, zSet_z, zSetO_z, zRet_z, zDrop_z, zIfS_z, zTst_z, zTru_z, zNot_z, zAnd_z, zOr_z, zAndV_z, zNotV_z, zIf_z, zOp_z, zBf_z, zCons_z, zNil_z, zCall_z, sCons_z, sNil_z, zSv_z, zVl_z, zCv_z, zBv_z, zVar_z, zK_z, zNeg_z, zTup_z, zLst_z, zTupOf_z, zLstOf_z, zLen_z, zAt_z, zProp_z, zApp_z, zAugN_z, zSeqI_z, zRng1_z, zRng2_z, zAsg_z, zPart_z, zNoP_z, getPl, setPl, wipeE, List.getElem?_cons_succ, List.getElem?_cons_zero, List.set_cons_succ, List.set_cons_zero, Res.bind_ok, Res.toS_ok, callR1, callR2, callR3, callR0_4, callRk1, callRk2, callRk3', callRk4', List.length_cons, List.length_nil, Nat.zero_add, Nat.reduceAdd, sz1, sz2, sz3, if_true, if_false, Bool.false_eq_true, Bool.not_true, Bool.not_false, zNx_z, zBk_z, zCt_z, itemsD_lst, itemsD_tup, deref_bl, deref_int, deref_str, deref_tup, deref_lst, Option.bind_some, truD, gAdd_int, gSub_int, gMul_int, gMod_int, gCmpI_int, gEq_int, gInt_int, lenR_lst, lenR_blst, lenR_tup, decide_true, decide_false, true_or, or_true, List.map_cons, List.map_nil, wid_net hl h]
    exact rngR_nat w (by omega)
  have hb : ∀ (A : List Int) (k : Nat), k < w → A.length ≤ 100 → bkBody [.val (netO p ws ks), e1, e2, e3, .val (.int p), .val (matD m), .val (rowD g), .own (.lst (A.map .int)), .val (.int k), .no, .no, .no] M =
      .nx [.val (netO p ws ks), e1, e2, e3, .val (.int p), .val (matD m), .val (rowD g), .own (.lst ((A ++ [(List.zipWith (fun x (r : Vec) => x * r.getD k 0) g m).sum % p]).map .int)), .val (.int k), .no, .no, .no] M := fun A k hk hA => by
    have q := bkRow_ok (M := M) (a0 := .val (netO p ws ks)) (a1 := e1) (a2 := e2) (a3 := e3) (A := .own (.lst (A.map .int))) h.p97 hg (by omega) (fun r hr => (hm.2 r hr).1) hk
    have hlA : (A.map D.int).length < sizeLine := by rw [List.length_map]; exact Nat.lt_of_le_of_lt hA (by decide)
    rw [List.map_append]
    generalize A.map D.int = B at q hlA ⊢
    generalize List.zipWith (fun x (r : Vec) => x * r.getD k 0) g m = Z at q ⊢
    simp only [zSeq_z, zFrz_z, zSet_z, zSetO_z, zRet_z, zDrop_z, zIfS_z, zTst_z, zTru_z, zNot_z, zAnd_z, zOr_z, zAndV_z, zNotV_z, zIf_z, zOp_z, zBf_z, zCons_z, zNil_z, zCall_z, sCons_z, sNil_z, zSv_z, zVl_z, zCv_z, zBv_z, zVar_z, zK_z, zNeg_z, zTup_z, zLst_z, zTupOf_z, zLstOf_z, zLen_z, zAt_z, zProp_z, zApp_z, zAugN_z, zSeqI_z, zRng1_z, zRng2_z, zAsg_z, zPart_z, zNoP_z, getPl, setPl, wipeE, List.getElem?_cons_succ, List.getElem?_cons_zero, List.set_cons_succ, List.set_cons_zero, Res.bind_ok, Res.toS_ok, callR1, callR2, callR3, callR0_4, callRk1, callRk2, callRk3', callRk4', List.length_cons, List.length_nil, Nat.zero_add, Nat.reduceAdd, sz1, sz2, sz3, if_true, if_false, Bool.false_eq_true, Bool.not_true, Bool.not_false, zNx_z, zBk_z, zCt_z, itemsD_lst, itemsD_tup, deref_bl, deref_int, deref_str, deref_tup, deref_lst, Option.bind_some, truD, gAdd_int, gSub_int, gMul_int, gMod_int, gCmpI_int, gEq_int, gInt_int, lenR_lst, lenR_blst, lenR_tup, decide_true, decide_false, true_or, or_true, List.map_cons, List.map_nil, bkBody, q, gSum_ints, p0, hlA]
  generalize bkBody = y at hb
  refine zFor_gen (I := fun i env M' => ∃ e8, env = [.val (netO p ws ks), e1, e2, e3, .val (.int p), .val (matD m), .val (rowD g), .own (.lst ((backIn p m g i).map .int)), e8, .no, .no, .no] ∧ M' = M)
    (Q := fun o => ∃ e8, o = .nx [.val (netO p ws ks), e1, e2, e3, .val (.int p), .val (matD m), .val (rowD g), .own (.lst ((backIn p m g w).map .int)), e8, .no, .no, .no] M) hz ⟨.no, rfl, rfl⟩ (fun i x env M' hi hI => ?_) fun env M' hI => ?_
  · obtain ⟨e8, rfl, rfl⟩ := hI
    obtain ⟨rfl, hlt⟩ := stpD_get hi
    refine ⟨_, rfl, ?_⟩
    have := hb (backIn p m g i) i hlt (by rw [backIn_len]; omega)
    simp only [List.set_cons_succ, List.set_cons_zero, Int.zero_add, Int.mul_one]
    rw [this]
    refine ⟨.val (.int i), ?_, rfl⟩
    have e : backIn p m g (i + 1) = backIn p m g i ++ [(List.zipWith (fun x (r : Vec) => x * r.getD i 0) g m).sum % p] := by
      unfold backIn
      rw [List.range_succ, List.map_append]
      rfl
    rw [e]
  · obtain ⟨e8, rfl, rfl⟩ := hI
    rw [stpD_len]
    exact ⟨e8, rfl⟩
end
theorem back_seq {z1 z2 : ZX} {y : ZS} {zw : ZX} {a b c d r e8 : Sl} {p : Int} {m g : D} {M : Sto} {A B : List D} (h1 : z1 [a, b, c, d, .no, .no, .no, .no, .no, .no, .no, .no] M = .ok (.int p) M)
    (h2 : z2 [a, b, c, d, .val (.int p), .no, .no, .no, .no, .no, .no, .no] M = .ok m M) (h3 : zw [a, b, c, d, .val (.int p), .val m, .no, .no, .no, .no, .no, .no] M = .ok g M)
    (hy : y [a, b, c, d, .val (.int p), .val m, .val g, .own (.lst []), .no, .no, .no, .no] M = .nx [a, b, c, d, .val (.int p), .val m, .val g, .own (.lst A), e8, .no, .no, .no] M) {zb : ZX}
    (h4 : zb [a, b, c, d, .val (.int p), .val m, .val g, .own (.lst A), e8, .no, .no, .no] M = .ok (.lst B) M) :
    zFun 4 12 (zSeq (zFrz [] (zSet 4 z1)) (zSeq (zFrz [] (zSet 5 z2)) (zSeq (zFrz [] (zSet 6 zw)) (zSeq (zFrz [] (zSetO 7 (zLst zNil))) (zSeq (zFrz [] y) (zSeq (zFrz [] (zRet (zTup (zCons (zTupOf (zCv 7)) (zCons (zTupOf zb) zNil))))) zNx)))))) [a, b, c, d] M = .ok (.tup [.tup A, .tup B]) M := by
  unfold zFun
  simp [h1, h2, h3, hy, h4]
theorem backOk {ats : Ats} {pf : Lens} (ha : NetAts ats) (hl : NetPr pf) {C : Str → Sem1} (hp : PsOk (C "_product_slopes")) : BackOk (zFun 4 12 (nBack ats pf C)) := fun M w p ws ks l m k d v e s h hm hk hd he hv hs hlt => by
  have mo := rows_at h hm
  have q := hp M w p ws ks l m k d v e s h hm hk hd he
  have gl := psV_lt h.p0 (m := m) (k := k) (v := v) hlt
  have gn := psV_len (p := p) (k := k) (v := v) mo.1 hs
  obtain ⟨e8, b⟩ := bkLoop (M := M) (e1 := .val (.int l)) (e2 := .val d) (e3 := .val e) hl h mo gl gn
  have c := bkW_ok (M := M) (a0 := .val (netO p ws ks)) (a1 := .val (.int l)) (a3 := .val e) (m := m) (d := d) (v := v) (A := .own (.lst ((backIn p m (psV p m k v s) w).map .int))) (e8 := e8) h.p0 h.p97 gl (by rw [gn]; have := h.w3; omega) hd (by rw [hv]; have := h.w3; omega)
  exact back_seq (r := .no) (by simp only [zSeq_z, zFrz_z, zSet_z, zSetO_z, zRet_z, zDrop_z, zIfS_z, zTst_z, zTru_z, zNot_z, zAnd_z, zOr_z, zAndV_z, zNotV_z, zIf_z, zOp_z, zBf_z, zCons_z, zNil_z, zCall_z, sCons_z, sNil_z, zSv_z, zVl_z, zCv_z, zBv_z, zVar_z, zK_z, zNeg_z, zTup_z, zLst_z, zTupOf_z, zLstOf_z, zLen_z, zAt_z, zProp_z, zApp_z, zAugN_z, zSeqI_z, zRng1_z, zRng2_z, zAsg_z, zPart_z, zNoP_z, getPl, setPl, wipeE, List.getElem?_cons_succ, List.getElem?_cons_zero, List.set_cons_succ, List.set_cons_zero, Res.bind_ok, Res.toS_ok, callR1, callR2, callR3, callR0_4, callRk1, callRk2, callRk3', callRk4', List.length_cons, List.length_nil, Nat.zero_add, Nat.reduceAdd, sz1, sz2, sz3, if_true, if_false, Bool.false_eq_true, Bool.not_true, Bool.not_false, zNx_z, zBk_z, zCt_z, itemsD_lst, itemsD_tup, deref_bl, deref_int, deref_str, deref_tup, deref_lst, Option.bind_some, truD, gAdd_int, gSub_int, gMul_int, gMod_int, gCmpI_int, gEq_int, gInt_int, lenR_lst, lenR_blst, lenR_tup, decide_true, decide_false, true_or, or_true, List.map_cons, List.map_nil, at_prime ha]) (by simp only [zSeq_z, zFrz_z, zSet_z, zSetO_z, zRet_z, zDrop_z, zIfS_z, zTst_z, zTru_z, zNot_z, zAnd_z, zOr_z, zAndV_z, zNotV_z, zIf_z, zOp_z, zBf_z, zCons_z, zNil_z, zCall_z, sCons_z, sNil_z, zSv_z, zVl_z, zCv_z, zBv_z, zVar_z, zK_z, zNeg_z, zTup_z, zLst_z, zTupOf_z, zLstOf_z, zLen_z, zAt_z, zProp_z, zApp_z, zAugN_z, zSeqI_z, zRng1_z, zRng2_z, zAsg_z, zPart_z, zNoP_z, getPl, setPl, wipeE, List.getElem?_cons_succ, List.getElem?_cons_zero, List.set_cons_succ, List.set_cons_zero, Res.bind_ok, Res.toS_ok, callR1, callR2, callR3, callR0_4, callRk1, callRk2, callRk3', callRk4', List.length_cons, List.length_nil, Nat.zero_add, Nat.reduceAdd, sz1, sz2, sz3, if_true, if_false, Bool.false_eq_true, Bool.not_true, Bool.not_false, zNx_z, zBk_z, zCt_z, itemsD_lst, itemsD_tup, deref_bl, deref_int, deref_str, deref_tup, deref_lst, Option.bind_some, truD, gAdd_int, gSub_int, gMul_int, gMod_int, gCmpI_int, gEq_int, gInt_int, lenR_lst, lenR_blst, lenR_tup, decide_true, decide_false, true_or, or_true, List.map_cons, List.map_nil, at_weights ha, ix_mat hm]) (by simp only [zSeq_z, zFrz_z, zSet_z, zSetO_z, zRet_z, zDrop_z, zIfS_z, zTst_z, zTru_z, zNot_z, zAnd_z, zOr_z, zAndV_z, zNotV_z, zIf_z, zOp_z, zBf_z, zCons_z, zNil_z, zCall_z, sCons_z, sNil_z, zSv_z, zVl_z, zCv_z, zBv_z, zVar_z, zK_z, zNeg_z, zTup_z, zLst_z, zTupOf_z, zLstOf_z, zLen_z, zAt_z, zProp_z, zApp_z, zAugN_z, zSeqI_z, zRng1_z, zRng2_z, zAsg_z, zPart_z, zNoP_z, getPl, setPl, wipeE, List.getElem?_cons_succ, List.getElem?_cons_zero, List.set_cons_succ, List.set_cons_zero, Res.bind_ok, Res.toS_ok, callR1, callR2, callR3, callR0_4, callRk1, callRk2, callRk3', callRk4', List.length_cons, List.length_nil, Nat.zero_add, Nat.reduceAdd, sz1, sz2, sz3, if_true, if_false, Bool.false_eq_true, Bool.not_true, Bool.not_false, zNx_z, zBk_z, zCt_z, itemsD_lst, itemsD_tup, deref_bl, deref_int, deref_str, deref_tup, deref_lst, Option.bind_some, truD, gAdd_int, gSub_int, gMul_int, gMod_int, gCmpI_int, gEq_int, gInt_int, lenR_lst, lenR_blst, lenR_tup, decide_true, decide_false, true_or, or_true, List.map_cons, List.map_nil, q]) b c
end Zy
set_option maxHeartbeats 2000000
namespace Zy
open PySem PySem.Spec PyProof.Rows L2
/-! the law's own way back -/
theorem zip_range2 {α : Type} (e : α) (f : Int → α → Int) {r : Vec} {v : List α} (h : r.length = v.length) : List.zipWith f r v = (List.range v.length).map fun k => f (r.getD k 0) (v.getD k e) := by
  refine List.ext_getElem? fun i => ?_
  by_cases hi : i < v.length
  · have hr : i < r.length := by omega
    rw [List.getElem?_zipWith, List.getElem?_eq_getElem hi, List.getElem?_eq_getElem hr, List.getElem?_map, List.getElem?_range hi]
    simp [List.getD, List.getElem?_eq_getElem hi, List.getElem?_eq_getElem hr]
  · rw [List.getElem?_eq_none (by rw [List.length_zipWith]; omega), List.getElem?_eq_none (by rw [List.length_map, List.length_range]; omega)]
theorem Lt.getD {p : Int} {v : Vec} (h : Lt p v) (hp : 0 < p) (k : Nat) : 0 ≤ v.getD k 0 ∧ v.getD k 0 < p := by
  by_cases hk : k < v.length
  · have : v.getD k 0 ∈ v := by
      simp only [List.getD, List.getElem?_eq_getElem hk, Option.getD_some]
      exact List.getElem_mem hk
    exact h _ this
  · simp [List.getD, List.getElem?_eq_none (show v.length ≤ k by omega), hp]
theorem ix_matrow {M : Sto} {m : Mat} {k : Nat} (hk : k < m.length) : gIx (matD m) (.int (k : Nat)) M = .ok (rowD (m.getD k [])) M := by
  have := gIx_map (ga := rowD) (d := matD m) (M := M) (r := m) (k := k) (List.getElem?_eq_getElem hk) rfl
  simpa [List.getD, List.getElem?_eq_getElem hk] using this
def lbY (lf : Lens) : ZX := zLc (zRng1 (zCons (zLen lf (zSv 3)) zNil)) (tgN 10) (fun _ M => .ok true M) (zOp gMod (zBf gInt (zCons (zOp gMul (zOp gMul (zK (.int 2)) (zOp gIx (zCv 9) (zCv 10))) (zOp gIx (zCv 3) (zCv 10))) zNil)) (zCv 4)) [10]
def lbRow (lf : Lens) : ZX := zLc (zRng1 (zCons (zLen lf (zSv 2)) zNil)) (tgN 10) (fun _ M => .ok true M) (zOp gMul (zOp gIx (zCv 5) (zCv 10)) (zOp gIx (zOp gIx (zOp gIx (zOp gIx (zCv 0) (zK (.int 1))) (zCv 1)) (zCv 10)) (zCv 7))) [10]
def lbBody (lf : Lens) : ZS := (zSeq (zFrz [] (zApp 6 (zOp gMod (zBf gInt (zCons (zBf gSum (zCons (lbRow lf) zNil)) zNil)) (zCv 4)))) zNx)
def lbIn : ZX := zLc (zSeqI (zBv 2)) (tgN 12) (fun _ M => .ok true M) (zOp gMod (zBf gInt (zCons (zOp gMul (zCv 11) (zCv 12)) zNil)) (zCv 4)) [12]
def lbW : ZX := zLc (zSeqI (zBv 5)) (tgN 11) (fun _ M => .ok true M) (zTupOf lbIn) [11]
def lBack (lf : Lens) (C : Str → Sem1) : ZS :=
  (zSeq (zFrz [] (zSet 4 (zOp gIx (zCv 0) (zK (.int 0)))))
      (zSeq (zFrz [] (zSet 5 (zVar 3)))
      (zSeq (zFrz [] (zIfS (zTst (zOp gEq (zOp gIx (zOp gIx (zCv 0) (zK (.int 2))) (zCv 1)) (zK (.str "square"))))
    (zSeq (zFrz [] (zSet 9 (zCall (C "_law_product") 3 0 [0, 1, 2] [] (sCons (zSv 0) (sCons (zSv 1) (sCons (zSv 2) sNil))) sNil)))
      (zSeq (zFrz [] (zSet 5 (lbY lf)))
      zNx))
    zNx))
      (zSeq (zFrz [] (zSetO 6 (zLst zNil)))
      (zSeq (zFrz [] (zFor (zRng1 (zCons (zLen lf (zSv 2)) zNil)) (tgN 7) (lbBody lf)))
      (zSeq (zFrz [] (zSet 8 (zTupOf lbW)))
      (zSeq (zFrz [] (zRet (zTup (zCons (zTupOf (zCv 6)) (zCons (zVar 8) zNil)))))
      zNx)))))))
def LBackOk (f : Sem1) : Prop := ∀ M w p ws ks (l : Nat) m k v s, NetS w p ws ks → ws[l]? = some m → ks[l]? = some k → v.length = w → s.length = w → Lt p s →
  f [.val (netT p ws ks), .val (.int l), .val (rowD v), .val (rowD s)] M = .ok (.tup [rowD (backIn p m (psV p m k v s) w), matD (backW p (psV p m k v s) v)]) M
section
variable {M : Sto} {w : Nat} {p : Int} {a0 a1 a2 a3 : Sl} {m : Mat} {g v s y : Vec} {d e : D} {lf : Lens}
theorem lbY_ok {a5 : Sl} (p0 : 0 < p) (p97 : p ≤ 97) (hy : Lt p y) (hl : y.length = s.length) (hs : s.length ≤ 100) :
    lbY lf [a0, a1, a2, .val (rowD s), .val (.int p), a5, .no, .no, .no, .val (rowD y), .no, .no, .no] M = .ok (.lst ((List.zipWith (fun y g => 2 * y * g % p) y s).map .int)) M := by
  have l := lcRng (env := [a0, a1, a2, .val (rowD s), .val (.int p), a5, .no, .no, .no, .val (rowD y), .no, .no, .no]) (M := M) (M1 := M) (za := zLen lf (zSv 3)) (ze := zOp gMod (zBf gInt (zCons (zOp gMul (zOp gMul (zK (.int 2)) (zOp gIx (zCv 9) (zCv 10))) (zOp gIx (zCv 3) (zCv 10))) zNil)) (zCv 4)) (vs := [10]) (i := 10) (n := s.length) (fun k => .int (2 * y.getD k 0 * s.getD k 0 % p))
    (by simp [len_vec (VecD.row s)]) rfl (by omega) fun k hk => by
      have h1 := ix_vec (M := M) (VecD.row y) (k := k) (by omega)
      have h2 := ix_vec (M := M) (VecD.row s) (k := k) hk
      have hb := hy.getD p0 k
      generalize y.getD k 0 = a at *
      have h3 : smallI 2 := by decide
      have h4 : smallI (2 * a) := small_of (by omega) (by omega)
      simp only [zSeq_z, zFrz_z, zSet_z, zSetO_z, zRet_z, zDrop_z, zIfS_z, zTst_z, zTru_z, zNot_z, zAnd_z, zOr_z, zAndV_z, zNotV_z, zIf_z, zOp_z, zBf_z, zCons_z, zNil_z, zCall_z, sCons_z, sNil_z, zSv_z, zVl_z, zCv_z, zBv_z, zVar_z, zK_z, zNeg_z, zTup_z, zLst_z, zTupOf_z, zLstOf_z, zLen_z, zAt_z, zProp_z, zApp_z, zAugN_z, zSeqI_z, zRng1_z, zRng2_z, zAsg_z, zPart_z, zNoP_z, getPl, setPl, wipeE, List.getElem?_cons_succ, List.getElem?_cons_zero, List.set_cons_succ, List.set_cons_zero, Res.bind_ok, Res.toS_ok, callR1, callR2, callR3, callR0_4, callRk1, callRk2, callRk3', callRk4', List.length_cons, List.length_nil, Nat.zero_add, Nat.reduceAdd, sz1, sz2, sz3, if_true, if_false, Bool.false_eq_true, Bool.not_true, Bool.not_false, zNx_z, zBk_z, zCt_z, itemsD_lst, itemsD_tup, deref_bl, deref_int, deref_str, deref_tup, deref_lst, Option.bind_some, truD, gAdd_int, gSub_int, gMul_int, gMod_int, gCmpI_int, gEq_int, gInt_int, lenR_lst, lenR_blst, lenR_tup, decide_true, decide_false, true_or, or_true, List.map_cons, List.map_nil, h1, h2, h3, h4, p0]
  rw [zip_range2 0 _ hl, List.map_map]
  exact l
theorem lbRow_ok {ws : List Mat} {ks : List Bool} {l k : Nat} {A a8 a9 : Sl} (h : NetS w p ws ks) (hm : ws[l]? = some m) (hv : v.length = w) (hg : Lt p g) (hgl : g.length = w) (hk : k < w) :
    lbRow lf [.val (netT p ws ks), .val (.int l), .val (rowD v), a3, .val (.int p), .val d, A, .val (.int k), a8, a9, .no, .no, .no] M = .ok (.lst ((List.zipWith (fun x (r : Vec) => x * r.getD k 0) g m).map .int)) M ∨ ¬ VecD d g := by
  by_cases hd : VecD d g
  · refine .inl ?_
    have mo := rows_at h hm
    have w3 := h.w3
    have p97 := h.p97
    have q := lcRng (env := [.val (netT p ws ks), .val (.int l), .val (rowD v), a3, .val (.int p), .val d, A, .val (.int k), a8, a9, .no, .no, .no]) (M := M) (M1 := M) (za := zLen lf (zSv 2)) (ze := zOp gMul (zOp gIx (zCv 5) (zCv 10)) (zOp gIx (zOp gIx (zOp gIx (zOp gIx (zCv 0) (zK (.int 1))) (zCv 1)) (zCv 10)) (zCv 7))) (vs := [10]) (i := 10) (n := v.length) (fun i => .int (g.getD i 0 * (m.getD i []).getD k 0))
      (by simp [len_vec (VecD.row v)]) rfl (by omega) fun i hi => by
        have h1 := ix_vec (M := M) hd (k := i) (by omega)
        have hi2 : i < m.length := by have := mo.1; omega
        have h2 := ix_matrow (M := M) (m := m) hi2
        have h3 := ix_vec (M := M) (VecD.row (m.getD i [])) (k := k) (by
          have : m.getD i [] ∈ m := by
            simp only [List.getD, List.getElem?_eq_getElem hi2, Option.getD_some]
            exact List.getElem_mem hi2
          rw [(mo.2 _ this).1]; exact hk)
        have hb := hg.getD h.p0 i
        generalize g.getD i 0 = a at *
        have h4 : smallI a := small_of (by omega) (by omega)
        simp only [zSeq_z, zFrz_z, zSet_z, zSetO_z, zRet_z, zDrop_z, zIfS_z, zTst_z, zTru_z, zNot_z, zAnd_z, zOr_z, zAndV_z, zNotV_z, zIf_z, zOp_z, zBf_z, zCons_z, zNil_z, zCall_z, sCons_z, sNil_z, zSv_z, zVl_z, zCv_z, zBv_z, zVar_z, zK_z, zNeg_z, zTup_z, zLst_z, zTupOf_z, zLstOf_z, zLen_z, zAt_z, zProp_z, zApp_z, zAugN_z, zSeqI_z, zRng1_z, zRng2_z, zAsg_z, zPart_z, zNoP_z, getPl, setPl, wipeE, List.getElem?_cons_succ, List.getElem?_cons_zero, List.set_cons_succ, List.set_cons_zero, Res.bind_ok, Res.toS_ok, callR1, callR2, callR3, callR0_4, callRk1, callRk2, callRk3', callRk4', List.length_cons, List.length_nil, Nat.zero_add, Nat.reduceAdd, sz1, sz2, sz3, if_true, if_false, Bool.false_eq_true, Bool.not_true, Bool.not_false, zNx_z, zBk_z, zCt_z, itemsD_lst, itemsD_tup, deref_bl, deref_int, deref_str, deref_tup, deref_lst, Option.bind_some, truD, gAdd_int, gSub_int, gMul_int, gMod_int, gCmpI_int, gEq_int, gInt_int, lenR_lst, lenR_blst, lenR_tup, decide_true, decide_false, true_or, or_true, List.map_cons, List.map_nil, ixT1, ix_mat hm, h1, h2, h3, h4]
    rw [zip_range2 [] _ (by rw [hgl, mo.1]), List.map_map, mo.1, ← hv]
    exact q
  · exact .inr hd
theorem lbW_ok {A a7 a8 a9 a10 : Sl} (p0 : 0 < p) (p97 : p ≤ 97) (hg : Lt p g) (hd : VecD d g) (hl : g.length ≤ 1000) (hl2 : v.length ≤ 1000) :
    lbW [a0, a1, .val (rowD v), a3, .val (.int p), .val d, A, a7, a8, a9, a10, .no, .no] M = .ok (.lst ((backW p g v).map rowD)) M := by
  have l := lcSeq (env := [a0, a1, .val (rowD v), a3, .val (.int p), .val d, A, a7, a8, a9, a10, .no, .no]) (M := M) (M1 := M) (za := zBv 5) (ze := zTupOf lbIn) (vs := [11]) (i := 11) (d := d) (r := g) (ga := D.int) (fun x => rowD (v.map fun y => x * y % p))
    (by simp) hd.items rfl hl fun x hx => by
      have hb := hg x hx
      have hs : smallI x := small_of (by omega) (by omega)
      have c := lcSeq (env := [a0, a1, .val (rowD v), a3, .val (.int p), .val d, A, a7, a8, a9, a10, .val (.int x), .no]) (M := M) (M1 := M) (za := zBv 2) (ze := zOp gMod (zBf gInt (zCons (zOp gMul (zCv 11) (zCv 12)) zNil)) (zCv 4)) (vs := [12]) (i := 12) (d := rowD v) (r := v) (ga := D.int) (fun y => .int (x * y % p))
        (by simp) rfl rfl hl2 fun y _ => by simp only [zSeq_z, zFrz_z, zSet_z, zSetO_z, zRet_z, zDrop_z, zIfS_z, zTst_z, zTru_z, zNot_z, zAnd_z, zOr_z, zAndV_z, zNotV_z, zIf_z, zOp_z, zBf_z, zCons_z, zNil_z, zCall_z, sCons_z, sNil_z, zSv_z, zVl_z, zCv_z, zBv_z, zVar_z, zK_z, zNeg_z, zTup_z, zLst_z, zTupOf_z, zLstOf_z, zLen_z, zAt_z, zProp_z, zApp_z, zAugN_z, zSeqI_z, zRng1_z, zRng2_z, zAsg_z, zPart_z, zNoP_z, getPl, setPl, wipeE, List.getElem?_cons_succ, List.getElem?_cons_zero, List.set_cons_succ, List.set_cons_zero, Res.bind_ok, Res.toS_ok, callR1, callR2, callR3, callR0_4, callRk1, callRk2, callRk3', callRk4', List.length_cons, List.length_nil, Nat.zero_add, Nat.reduceAdd, sz1, sz2, sz3, if_true, if_false, Bool.false_eq_true, Bool.not_true, Bool.not_false, zNx_z, zBk_z, zCt_z, itemsD_lst, itemsD_tup, deref_bl, deref_int, deref_str, deref_tup, deref_lst, Option.bind_some, truD, gAdd_int, gSub_int, gMul_int, gMod_int, gCmpI_int, gEq_int, gInt_int, lenR_lst, lenR_blst, lenR_tup, decide_true, decide_false, true_or, or_true, List.map_cons, List.map_nil, hs, p0]
      have c' : lbIn [a0, a1, .val (rowD v), a3, .val (.int p), .val d, A, a7, a8, a9, a10, .val (.int x), .no] M = .ok (.lst (v.map fun y => .int (x * y % p))) M := c
      have er : rowD (v.map fun y => x * y % p) = .tup (v.map fun y => .int (x * y % p)) := by unfold rowD; rw [List.map_map]; rfl
      rw [er]
      simp only [zSeq_z, zFrz_z, zSet_z, zSetO_z, zRet_z, zDrop_z, zIfS_z, zTst_z, zTru_z, zNot_z, zAnd_z, zOr_z, zAndV_z, zNotV_z, zIf_z, zOp_z, zBf_z, zCons_z, zNil_z, zCall_z, sCons_z, sNil_z, zSv_z, zVl_z, zCv_z, zBv_z, zVar_z, zK_z, zNeg_z, zTup_z, zLst_z, zTupOf_z, zLstOf_z, zLen_z, zAt_z, zProp_z, zApp_z, zAugN_z, zSeqI_z, zRng1_z, zRng2_z, zAsg_z, zPart_z, zNoP_z, getPl, setPl, wipeE, List.getElem?_cons_succ, List.getElem?_cons_zero, List.set_cons_succ, List.set_cons_zero, Res.bind_ok, Res.toS_ok, callR1, callR2, callR3, callR0_4, callRk1, callRk2, callRk3', callRk4', List.length_cons, List.length_nil, Nat.zero_add, Nat.reduceAdd, sz1, sz2, sz3, if_true, if_false, Bool.false_eq_true, Bool.not_true, Bool.not_false, zNx_z, zBk_z, zCt_z, itemsD_lst, itemsD_tup, deref_bl, deref_int, deref_str, deref_tup, deref_lst, Option.bind_some, truD, gAdd_int, gSub_int, gMul_int, gMod_int, gCmpI_int, gEq_int, gInt_int, lenR_lst, lenR_blst, lenR_tup, decide_true, decide_false, true_or, or_true, List.map_cons, List.map_nil, c']
  have e : (backW p g v).map rowD = g.map fun x => rowD (v.map fun y => x * y % p) := by unfold backW; rw [List.map_map]; rfl
  rw [e]
  exact l
theorem lbLoop {ws : List Mat} {ks : List Bool} {l : Nat} {e9 : Sl} (h : NetS w p ws ks) (hm : ws[l]? = some m) (hv : v.length = w) (hg : Lt p g) (hgl : g.length = w) (hd : VecD d g) :
    ∃ e7, zFor (zRng1 (zCons (zLen lf (zSv 2)) zNil)) (tgN 7) (lbBody lf) [.val (netT p ws ks), .val (.int l), .val (rowD v), a3, .val (.int p), .val d, .own (.lst []), .no, .no, e9, .no, .no, .no] M =
      .nx [.val (netT p ws ks), .val (.int l), .val (rowD v), a3, .val (.int p), .val d, .own (.lst ((backIn p m g w).map .int)), e7, .no, e9, .no, .no, .no] M := by
  have p0 := h.p0
  have w3 := h.w3
  have hz : zRng1 (zCons (zLen lf (zSv 2)) zNil) [.val (netT p ws ks), .val (.int l), .val (rowD v), a3, .val (.int p), .val d, .own (.lst []), .no, .no, e9, .no, .no, .no] M = .ok (stpD 0 1 w) M := by
    simp only [zSeq_z, zFrz_z, zSet_z, zSetO_z, zRet_z, zDrop_z, zIfS_z, zTst_z, zTru_z, zNot_z, zAnd_z, zOr_z, zAndV_z, zNotV_z, zIf_z, zOp_z, zBf_z, zCons_z, zNil_z, zCall_z, sCons_z, sNil_z, zSv_z, zVl_z, zCv_z, zBv_z, zVar_z, zK_z, zNeg_z, zTup_z, zLst_z, zTupOf_z, zLstOf_z, zLen_z, zAt_z, zProp_z, zApp_z, zAugN_z, zSeqI_z, zRng1_z, zRng2_z, zAsg_z, zPart_z, zNoP_z, getPl, setPl, wipeE, List.getElem?_cons_succ, List.getElem?_cons_zero, List.set_cons_succ, List.set_cons_zero, Res.bind_ok, Res.toS_ok, callR1, callR2, callR3, callR0_4, callRk1, callRk2, callRk3', callRk4', List.length_cons, List.length_nil, Nat.zero_add, Nat.reduceAdd, sz1, sz2, sz3, if_true, if_false, Bool.false_eq_true, Bool.not_true, Bool.not_false, zNx_z, zBk_z, zCt_z, itemsD_lst, itemsD_tup, deref_bl, deref_int, deref_str, deref_tup, deref_lst, Option.bind_some, truD, gAdd_int, gSub_int, gMul_int, gMod_int, gCmpI_int, gEq_int, gInt_int, lenR_lst, lenR_blst, lenR_tup, decide_true, decide_false, true_or, or_true, List.map_cons, List.map_nil, len_vec (VecD.row v), hv]
    exact rngR_nat w (by omega)
  have hb : ∀ (A : List Int) (k : Nat), k < w → A.length ≤ 100 → lbBody lf [.val (netT p ws ks), .val (.int l), .val (rowD v), a3, .val (.int p), .val d, .own (.lst (A.map .int)), .val (.int k), .no, e9, .no, .no, .no] M =
      .nx [.val (netT p ws ks), .val (.int l), .val (rowD v), a3, .val (.int p), .val d, .own (.lst ((A ++ [(List.zipWith (fun x (r : Vec) => x * r.getD k 0) g m).sum % p]).map .int)), .val (.int k), .no, e9, .no, .no, .no] M := fun A k hk hA => by
    have q := (lbRow_ok (lf := lf) (M := M) (a3 := a3) (a8 := .no) (a9 := e9) (d := d) (A := .own (.lst (A.map .int))) h hm hv hg hgl hk).resolve_right (fun z => z hd)
    have hlA : (A.map D.int).length < sizeLine := by rw [List.length_map]; exact Nat.lt_of_le_of_lt hA (by decide)
    rw [List.map_append]
    generalize A.map D.int = B at q hlA ⊢
    generalize List.zipWith (fun x (r : Vec) => x * r.getD k 0) g m = Z at q ⊢
    simp only [zSeq_z, zFrz_z, zSet_z, zSetO_z, zRet_z, zDrop_z, zIfS_z, zTst_z, zTru_z, zNot_z, zAnd_z, zOr_z, zAndV_z, zNotV_z, zIf_z, zOp_z, zBf_z, zCons_z, zNil_z, zCall_z, sCons_z, sNil_z, zSv_z, zVl_z, zCv_z, zBv_z, zVar_z, zK_z, zNeg_z, zTup_z, zLst_z, zTupOf_z, zLstOf_z, zLen_z, zAt_z, zProp_z, zApp_z, zAugN_z, zSeqI_z, zRng1_z, zRng2_z, zAsg_z, zPart_z, zNoP_z, getPl, setPl, wipeE, List.getElem?_cons_succ, List.getElem?_cons_zero, List.set_cons_succ, List.set_cons_zero, Res.bind_ok, Res.toS_ok, callR1, callR2, callR3, callR0_4, callRk1, callRk2, callRk3', callRk4', List.length_cons, List.length_nil, Nat.zero_add, Nat.reduceAdd, sz1, sz2, sz3, if_true, if_false, Bool.false_eq_true, Bool.not_true, Bool.not_false, zNx_z, zBk_z, zCt_z, itemsD_lst, itemsD_tup, deref_bl, deref_int, deref_str, deref_tup, deref_lst, Option.bind_some, truD, gAdd_int, gSub_int, gMul_int, gMod_int, gCmpI_int, gEq_int, gInt_int, lenR_lst, lenR_blst, lenR_tup, decide_true, decide_false, true_or, or_true, List.map_cons, List.map_nil, lbBody, q, gSum_ints, p0, hlA]
  generalize lbBody lf = y at hb
  refine zFor_gen (I := fun i env M' => ∃ e7, env = [.val (netT p ws ks), .val (.int l), .val (rowD v), a3, .val (.int p), .val d, .own (.lst ((backIn p m g i).map .int)), e7, .no, e9, .no, .no, .no] ∧ M' = M)
    (Q := fun o => ∃ e7, o = .nx [.val (netT p ws ks), .val (.int l), .val (rowD v), a3, .val (.int p), .val d, .own (.lst ((backIn p m g w).map .int)), e7, .no, e9, .no, .no, .no] M) hz ⟨.no, rfl, rfl⟩ (fun i x env M' hi hI => ?_) fun env M' hI => ?_
  · obtain ⟨e7, rfl, rfl⟩ := hI
    obtain ⟨rfl, hlt⟩ := stpD_get hi
    refine ⟨_, rfl, ?_⟩
    have := hb (backIn p m g i) i hlt (by rw [backIn_len]; omega)
    simp only [List.set_cons_succ, List.set_cons_zero, Int.zero_add, Int.mul_one]
    rw [this]
    refine ⟨.val (.int i), ?_, rfl⟩
    have e : backIn p m g (i + 1) = backIn p m g i ++ [(List.zipWith (fun x (r : Vec) => x * r.getD i 0) g m).sum % p] := by
      unfold backIn
      rw [List.range_succ, List.map_append]
      rfl
    rw [e]
  · obtain ⟨e7, rfl, rfl⟩ := hI
    rw [stpD_len]
    exact ⟨e7, rfl⟩
end
theorem lback_seq {zk : ZB} {P : Sem1} {lz zw : ZX} {y : ZS} {d e7 : Sl} {a b c p r sd : D} {b' : Bool} {M : Sto} {G A B : List D} (hd : d = .val sd) {zp : ZX} (h1 : zp [.val a, .val b, .val c, d, .no, .no, .no, .no, .no, .no, .no, .no, .no] M = .ok p M)
    (h2 : zk [.val a, .val b, .val c, d, .val p, .val sd, .no, .no, .no, .no, .no, .no, .no] M = .ok b' M) (h3 : P [.val a, .val b, .val c] M = .ok r M)
    (h4 : b' = true → lz [.val a, .val b, .val c, d, .val p, .val sd, .no, .no, .no, .val r, .no, .no, .no] M = .ok (.lst G) M)
    (hy : y [.val a, .val b, .val c, d, .val p, .val (if b' then .lst G else sd), .own (.lst []), .no, .no, (if b' then .val r else .no), .no, .no, .no] M = .nx [.val a, .val b, .val c, d, .val p, .val (if b' then .lst G else sd), .own (.lst A), e7, .no, (if b' then .val r else .no), .no, .no, .no] M)
    (h5 : zw [.val a, .val b, .val c, d, .val p, .val (if b' then .lst G else sd), .own (.lst A), e7, .no, (if b' then .val r else .no), .no, .no, .no] M = .ok (.lst B) M) :
    zFun 4 13 (zSeq (zFrz [] (zSet 4 zp)) (zSeq (zFrz [] (zSet 5 (zVar 3))) (zSeq (zFrz [] (zIfS zk (zSeq (zFrz [] (zSet 9 (zCall P 3 0 [0, 1, 2] [] (sCons (zSv 0) (sCons (zSv 1) (sCons (zSv 2) sNil))) sNil))) (zSeq (zFrz [] (zSet 5 lz)) zNx)) zNx))
      (zSeq (zFrz [] (zSetO 6 (zLst zNil))) (zSeq (zFrz [] y) (zSeq (zFrz [] (zSet 8 (zTupOf zw))) (zSeq (zFrz [] (zRet (zTup (zCons (zTupOf (zCv 6)) (zCons (zVar 8) zNil))))) zNx))))))) [.val a, .val b, .val c, d] M = .ok (.tup [.tup A, .tup B]) M := by
  subst hd
  unfold zFun
  cases b' with
  | false =>
    simp only [Bool.false_eq_true, if_false] at hy h5
    simp [h1, h2, hy, h5]
  | true =>
    have h4 := h4 rfl
    simp only [if_true] at hy h5
    simp [h1, h2, h3, h4, hy, h5]
theorem lBackOk {lf : Lens} {C : Str → Sem1} (hp : LPOk (C "_law_product")) : LBackOk (zFun 4 13 (lBack lf C)) := fun M w p ws ks l m k v s h hm hk hv hs hlt => by
  have mo := rows_at h hm
  have p0 := h.p0
  have w3 := h.w3
  have q := hp M w p ws ks l m (rowD v) v h hm (VecD.row v) hv
  have gl := psV_lt h.p0 (m := m) (k := k) (v := v) hlt
  have gn := psV_len (p := p) (k := k) (v := v) mo.1 hs
  have hd : VecD (if k then D.lst ((List.zipWith (fun y g => 2 * y * g % p) (prodV p m v) s).map .int) else rowD s) (psV p m k v s) := by
    cases k
    · exact .inl rfl
    · exact .inr rfl
  have hy := lbY_ok (lf := lf) (M := M) (a0 := .val (netT p ws ks)) (a1 := .val (.int l)) (a2 := .val (rowD v)) (a5 := .val (rowD s)) (y := prodV p m v) (s := s) p0 h.p97 (prodV_lt p0 m v) (by rw [prodV_len, mo.1, hs]) (by omega)
  obtain ⟨e7, b⟩ := lbLoop (lf := lf) (M := M) (a3 := .val (rowD s)) (e9 := if k then .val (rowD (prodV p m v)) else .no) h hm hv gl gn hd
  have c := lbW_ok (M := M) (a0 := .val (netT p ws ks)) (a1 := .val (.int l)) (a3 := .val (rowD s)) (v := v) (A := .own (.lst ((backIn p m (psV p m k v s) w).map .int))) (a7 := e7) (a8 := .no) (a9 := if k then .val (rowD (prodV p m v)) else .no) (a10 := .no) p0 h.p97 gl hd (by rw [gn]; omega) (by omega)
  exact lback_seq (b' := k) rfl (by simp only [zSeq_z, zFrz_z, zSet_z, zSetO_z, zRet_z, zDrop_z, zIfS_z, zTst_z, zTru_z, zNot_z, zAnd_z, zOr_z, zAndV_z, zNotV_z, zIf_z, zOp_z, zBf_z, zCons_z, zNil_z, zCall_z, sCons_z, sNil_z, zSv_z, zVl_z, zCv_z, zBv_z, zVar_z, zK_z, zNeg_z, zTup_z, zLst_z, zTupOf_z, zLstOf_z, zLen_z, zAt_z, zProp_z, zApp_z, zAugN_z, zSeqI_z, zRng1_z, zRng2_z, zAsg_z, zPart_z, zNoP_z, getPl, setPl, wipeE, List.getElem?_cons_succ, List.getElem?_cons_zero, List.set_cons_succ, List.set_cons_zero, Res.bind_ok, Res.toS_ok, callR1, callR2, callR3, callR0_4, callRk1, callRk2, callRk3', callRk4', List.length_cons, List.length_nil, Nat.zero_add, Nat.reduceAdd, sz1, sz2, sz3, if_true, if_false, Bool.false_eq_true, Bool.not_true, Bool.not_false, zNx_z, zBk_z, zCt_z, itemsD_lst, itemsD_tup, deref_bl, deref_int, deref_str, deref_tup, deref_lst, Option.bind_some, truD, gAdd_int, gSub_int, gMul_int, gMod_int, gCmpI_int, gEq_int, gInt_int, lenR_lst, lenR_blst, lenR_tup, decide_true, decide_false, true_or, or_true, List.map_cons, List.map_nil, ixT0]) (by simp only [zSeq_z, zFrz_z, zSet_z, zSetO_z, zRet_z, zDrop_z, zIfS_z, zTst_z, zTru_z, zNot_z, zAnd_z, zOr_z, zAndV_z, zNotV_z, zIf_z, zOp_z, zBf_z, zCons_z, zNil_z, zCall_z, sCons_z, sNil_z, zSv_z, zVl_z, zCv_z, zBv_z, zVar_z, zK_z, zNeg_z, zTup_z, zLst_z, zTupOf_z, zLstOf_z, zLen_z, zAt_z, zProp_z, zApp_z, zAugN_z, zSeqI_z, zRng1_z, zRng2_z, zAsg_z, zPart_z, zNoP_z, getPl, setPl, wipeE, List.getElem?_cons_succ, List.getElem?_cons_zero, List.set_cons_succ, List.set_cons_zero, Res.bind_ok, Res.toS_ok, callR1, callR2, callR3, callR0_4, callRk1, callRk2, callRk3', callRk4', List.length_cons, List.length_nil, Nat.zero_add, Nat.reduceAdd, sz1, sz2, sz3, if_true, if_false, Bool.false_eq_true, Bool.not_true, Bool.not_false, zNx_z, zBk_z, zCt_z, itemsD_lst, itemsD_tup, deref_bl, deref_int, deref_str, deref_tup, deref_lst, Option.bind_some, truD, gAdd_int, gSub_int, gMul_int, gMod_int, gCmpI_int, gEq_int, gInt_int, lenR_lst, lenR_blst, lenR_tup, decide_true, decide_false, true_or, or_true, List.map_cons, List.map_nil, ixT2, ix_kind hk, gEq_kind]) q (fun _ => hy) b c
end Zy
set_option maxHeartbeats 2000000
namespace Zy
open PySem PySem.Spec PyProof.Rows L2
/-! repr and == of trees of numbers -/
theorem RD.mono {k w k' w' : Nat} {d : D} (h : RD k w d) (hk : k ≤ k') (hw : w ≤ w') : RD k' w' d := by
  obtain ⟨p, e, s⟩ := h
  exact ⟨p, e, s.sh, s.hd, Nat.le_trans s.dp hk, s.lv, Nat.le_trans s.we hw⟩
theorem RD.kind (k : Bool) : RD 0 10 (kD k) := by
  cases k
  · exact ⟨.str "line", rfl, rfl, rfl, Nat.le_refl _, by decide +kernel, by decide +kernel⟩
  · exact ⟨.str "square", rfl, rfl, rfl, Nat.le_refl _, by decide +kernel, by decide +kernel⟩
theorem RD.map {α : Type} {g : α → D} {k w m : Nat} {l : List α} (h : ∀ x ∈ l, RD k w (g x)) (hl : l.length ≤ m) : RD (k + 1) (m * (w + 1)) (.tup (l.map g)) := RD.tup (fun d hd => by
  obtain ⟨x, hx, rfl⟩ := List.mem_map.mp hd
  exact h x hx) (by rw [List.length_map]; exact hl)
theorem RD.row10 {v : Vec} {p : Int} (hp : p ≤ 1000) (h : Lt p v) (hl : v.length ≤ 10) : RD 1 110 (rowD v) := RD.row hp h hl
theorem RD.mat {w : Nat} {p : Int} {m : Mat} (hp : p ≤ 1000) (hw : w ≤ 10) (h : MatOk w p m) : RD 2 1110 (matD m) := RD.map (m := 10) (fun r hr => RD.row10 hp (h.2 r hr).2 (by rw [(h.2 r hr).1]; exact hw)) (by rw [h.1]; exact hw)
theorem RD.ws {w : Nat} {p : Int} {ws : List Mat} (hp : p ≤ 1000) (hw : w ≤ 10) (hn : ws.length ≤ 10) (h : ∀ m ∈ ws, MatOk w p m) : RD 3 11110 (wsD ws) := RD.map (m := 10) (fun m hm => RD.mat hp hw (h m hm)) hn
theorem RD.ks {ks : List Bool} (hn : ks.length ≤ 10) : RD 1 110 (.tup (ks.map kD)) := RD.map (m := 10) (fun k _ => RD.kind k) hn
theorem RD.two {k w : Nat} {a b : D} (ha : RD k w a) (hb : RD k w b) : RD (k + 1) (2 * (w + 1)) (.tup [a, b]) := RD.tup (m := 2) (fun d hd => by
  simp only [List.mem_cons, List.not_mem_nil, or_false] at hd
  rcases hd with rfl | rfl
  · exact ha
  · exact hb) (Nat.le_refl 2)
theorem RD.l3 {k w : Nat} {a b c : D} (ha : RD k w a) (hb : RD k w b) (hc : RD k w c) : RD (k + 1) (3 * (w + 1)) (.lst [a, b, c]) := RD.lst (m := 3) (fun d hd => by
  simp only [List.mem_cons, List.not_mem_nil, or_false] at hd
  rcases hd with rfl | rfl | rfl
  · exact ha
  · exact hb
  · exact hc) (Nat.le_refl 3)
/-- the parts of a net, as a law shows them -/
theorem repr_net {w : Nat} {p : Int} {ws : List Mat} {ks : List Bool} (h : NetS w p ws ks) : ReprOk (.lst [.int p, wsD ws, .tup (ks.map kD)]) := by
  have p97 := h.p97
  have p0 := h.p0
  have w3 := h.w3
  have n6 := h.n6
  exact (RD.l3 ((RD.int (by omega) (by omega)).mono (by decide) (by decide)) (RD.ws (p := p) (by omega) (by omega) (by omega) h.ms) ((RD.ks (by rw [h.kl]; omega)).mono (by decide) (by decide))).repr (by decide) (by decide)
theorem gEq_strs {M : Sto} {a : Str} : gEq (.str a) (.str a) M = .ok (.bl true) M := by
  have : gEq (.str a) (.str a) M = .ok (.bl (decide (a = a))) M := rfl
  rw [this, decide_eq_true rfl]
/-- what == answers for a value and itself -/
def QD (k : Nat) (d : D) : Prop := ∃ p, toPy d = some p ∧ p.canLay0 = true ∧ p.depth ≤ k ∧ PyData.eqv p p = true
theorem QD.all {k : Nat} : ∀ {ds : List D}, (∀ d ∈ ds, QD k d) → ∃ ps, toPys ds = some ps ∧ PyData.canLayAll0 ps = true ∧ PyData.depthAll ps ≤ k ∧ PyData.eqvAll ps ps = true
  | [], _ => ⟨[], rfl, rfl, Nat.zero_le _, by simp [PyData.eqvAll]⟩
  | d :: ds, h => by
    obtain ⟨ps, e, a1, a2, a3⟩ := QD.all fun y m => h y (List.mem_cons_of_mem _ m)
    obtain ⟨p, e1, b1, b2, b3⟩ := h d (List.mem_cons_self ..)
    refine ⟨p :: ps, by simp [toPys, e, e1], by simp [PyData.canLayAll0, a1, b1], ?_, by simp [PyData.eqvAll, a3, b3]⟩
    simp only [PyData.depthAll]
    omega
theorem QD.tup {k : Nat} {ds : List D} (h : ∀ d ∈ ds, QD k d) : QD (k + 1) (.tup ds) := by
  obtain ⟨ps, e, a1, a2, a3⟩ := QD.all h
  refine ⟨.tuple ps, by simp [toPy, e], by simpa [PyData.canLay0] using a1, ?_, by simpa [PyData.eqv] using a3⟩
  simp only [PyData.depth]
  omega
theorem QD.lst {k : Nat} {ds : List D} (h : ∀ d ∈ ds, QD k d) : QD (k + 1) (.lst ds) := by
  obtain ⟨ps, e, a1, a2, a3⟩ := QD.all h
  refine ⟨.list ps, by simp [toPy, e], by simpa [PyData.canLay0] using a1, ?_, by simpa [PyData.eqv] using a3⟩
  simp only [PyData.depth]
  omega
theorem QD.int (i : Int) : QD 0 (.int i) := ⟨.int i, rfl, rfl, Nat.le_refl _, by simp [PyData.eqv]⟩
theorem QD.row (v : Vec) : QD 1 (rowD v) := QD.tup fun d hd => by
  obtain ⟨x, _, rfl⟩ := List.mem_map.mp hd
  exact QD.int x
theorem QD.eq2 {k : Nat} {d : D} (h : QD k d) (hk : k ≤ 64) : eqD d d = some true := by
  obtain ⟨p, e, a1, a2, a3⟩ := h
  have hs : SeqAt.shaped p = true := by simp [SeqAt.shaped, a1]; omega
  unfold eqD
  simp [e, hs, a3]
theorem QD.drf {k : Nat} {d : D} (h : QD k d) {M : Sto} : deref M d = some d := by
  obtain ⟨p, e, _⟩ := h
  exact toPy_deref e
theorem strP_self {d : D} (h : eqD d d = some true) : eqD2 d d = some true := by
  cases d with
  | str a =>
    show some (decide (a = a)) = _
    rw [decide_eq_true rfl]
  | _ => exact h
theorem QD.ne {k : Nat} {d : D} (h : QD k d) (hk : k ≤ 64) {M : Sto} : gNe d d M = .ok (.bl false) M := by
  have e : (deref M d).bind (fun c => (deref M d).bind fun c' => eqD2 c c') = some true := by rw [h.drf, Option.bind_some, Option.bind_some, strP_self (h.eq2 hk)]
  show (match (deref M d).bind (fun c => (deref M d).bind fun c' => eqD2 c c') with
    | some b => Res.ok (D.bl (if true then !b else b)) M
    | none => .fail) = _
  rw [e]
  rfl
theorem QD.eq {k : Nat} {d : D} (h : QD k d) (hk : k ≤ 64) {M : Sto} : gEq d d M = .ok (.bl true) M := by
  have e : (deref M d).bind (fun c => (deref M d).bind fun c' => eqD2 c c') = some true := by rw [h.drf, Option.bind_some, Option.bind_some, strP_self (h.eq2 hk)]
  show (match (deref M d).bind (fun c => (deref M d).bind fun c' => eqD2 c c') with
    | some b => Res.ok (D.bl (if false then !b else b)) M
    | none => .fail) = _
  rw [e]
  rfl
theorem gNe_rows2 {v s : Vec} {M : Sto} : gNe (.lst [.tup (v.map .int), .tup (s.map .int)]) (.lst [rowD v, rowD s]) M = .ok (.bl false) M :=
  QD.ne (QD.lst (k := 1) fun d hd => by
    simp only [List.mem_cons, List.not_mem_nil, or_false] at hd
    rcases hd with rfl | rfl
    · exact QD.row v
    · exact QD.row s) (by decide)
/-- [[v, s], [list(v), list(s)]][i] -/
theorem pick_two {v s : Vec} {r : Int} (h0 : 0 ≤ r) (h1 : r < 2) (M : Sto) : ∃ d e, VecD d v ∧ VecD e s ∧ gIx (.lst [.lst [rowD v, rowD s], .lst [.lst (v.map .int), .lst (s.map .int)]]) (.int r) M = .ok (.lst [d, e]) M := by
  have : r = 0 ∨ r = 1 := by omega
  rcases this with rfl | rfl
  · exact ⟨_, _, VecD.row v, VecD.row s, gIx_lst (by decide) rfl⟩
  · exact ⟨_, _, .inr rfl, .inr rfl, gIx_lst (by decide) rfl⟩
def DrOk (f : Sem1) (m : Nat) : Prop := ∀ M (ns : List Int), ns.length ≤ 1000 → ∃ ds : List Int, f [.val (.scr ns), .val (.int m)] M = .ok (.lst (ds.map .int)) M
def mkZ (F : Sem1) (i : Nat) : ZX := zMake "Net" F 3 0 [0, 1, 2, 3] [] (sCons (zVl (zOp gIx (zCv i) (zK (.int 0)))) (sCons (zVl (zOp gIx (zCv i) (zK (.int 1)))) (sCons (zVl (zOp gIx (zCv i) (zK (.int 2)))) sNil))) sNil
theorem mkZ_ok {F : Sem1} (hF : InitOk F) {M : Sto} {w : Nat} {p : Int} {ws : List Mat} {ks : List Bool} (h : NetS w p ws ks) (hM : M.all (lowD M.length) = true) {env : Ev} {i : Nat} (he : env[i]? = some (.val (netT p ws ks))) : mkZ F i env M = .ok (netO p ws ks) M := by
  simp only [mkZ, zMake_z, sCons_z, sNil_z, zVl_z, zOp_z, zCv_z, zK_z, he, Res.bind_ok, ixT0, ixT1, ixT2]
  exact make_net hF hM h (.inl rfl) (.inl rfl)
end Zy
set_option maxHeartbeats 2000000
namespace Zy
open PySem PySem.Spec PyProof.Rows L2
/-! the whole way back, and the slopes of a portion -/
def bkAll (p : Int) (w : Nat) : List Mat → List Bool → List Vec → Vec → Vec × List Mat
  | m :: ms, k :: ks, v :: vs, s =>
    let r := bkAll p w ms ks vs s
    (backIn p m (psV p m k v r.1) w, backW p (psV p m k v r.1) v :: r.2)
  | _, _, _, s => (s, [])
theorem bkAll_ok {p : Int} (hp : 0 < p) {w : Nat} : ∀ {ms : List Mat} {ks : List Bool} {vs : List Vec} {s : Vec}, ks.length = ms.length → vs.length = ms.length → (∀ m ∈ ms, MatOk w p m) → (∀ v ∈ vs, v.length = w) → s.length = w → Lt p s →
    (bkAll p w ms ks vs s).1.length = w ∧ Lt p (bkAll p w ms ks vs s).1 ∧ (bkAll p w ms ks vs s).2.length = ms.length ∧ ∀ m ∈ (bkAll p w ms ks vs s).2, MatOk w p m
  | [], [], [], s, _, _, _, _, hs, hl => ⟨hs, hl, rfl, fun _ h => by simp [bkAll] at h⟩
  | m :: ms, k :: ks, v :: vs, s, h1, h2, h3, h4, hs, hl => by
    obtain ⟨a1, a2, a3, a4⟩ := bkAll_ok hp (ms := ms) (ks := ks) (vs := vs) (s := s) (by simpa using h1) (by simpa using h2) (fun x hx => h3 x (List.mem_cons_of_mem _ hx)) (fun x hx => h4 x (List.mem_cons_of_mem _ hx)) hs hl
    have hm := h3 m (List.mem_cons_self ..)
    have hv := h4 v (List.mem_cons_self ..)
    have gl := psV_lt hp (m := m) (k := k) (v := v) a2
    have gn := psV_len (p := p) (k := k) (v := v) hm.1 a1
    simp only [bkAll]
    refine ⟨backIn_len, backIn_lt hp, by simp [a3], fun x hx => ?_⟩
    rcases List.mem_cons.mp hx with rfl | hx
    · exact backW_ok hp gn hv
    · exact a4 x hx
def lossV (p : Int) (a b : Vec) : Vec := List.zipWith (fun x y => 2 * (x - y) % p) a b
def addM (p : Int) (a b : Mat) : Mat := List.zipWith (List.zipWith fun x y => (x + y) % p) a b
def addS (p : Int) (a b : List Mat) : List Mat := List.zipWith (addM p) a b
def zeroS (n w : Nat) : List Mat := List.replicate n (List.replicate w (List.replicate w 0))
def exmS (p : Int) (w : Nat) (ws : List Mat) (ks : List Bool) (x : Vec × Vec) : List Mat := (bkAll p w ws ks (wayV p ws ks x.1).dropLast (lossV p (outV p ws ks x.1) x.2)).2
def porS (p : Int) (w : Nat) (ws : List Mat) (ks : List Bool) (xs : List (Vec × Vec)) : List Mat := xs.foldl (fun acc x => addS p acc (exmS p w ws ks x)) (zeroS ws.length w)
theorem addM_ok {p : Int} (hp : 0 < p) {w : Nat} {a b : Mat} (ha : MatOk w p a) (hb : MatOk w p b) : MatOk w p (addM p a b) := by
  refine ⟨by simp [addM, ha.1, hb.1], fun r hr => ?_⟩
  unfold addM at hr
  rw [← List.map_uncurry_zip_eq_zipWith] at hr
  obtain ⟨⟨x, y⟩, hxy, rfl⟩ := List.mem_map.mp hr
  have := List.of_mem_zip hxy
  refine ⟨?_, Lt.zip hp _ _ _⟩
  show (List.zipWith _ x y).length = w
  rw [List.length_zipWith, (ha.2 x this.1).1, (hb.2 y this.2).1, Nat.min_self]
def SlOk (w n : Nat) (p : Int) (ms : List Mat) : Prop := ms.length = n ∧ ∀ m ∈ ms, MatOk w p m
theorem addS_ok {p : Int} (hp : 0 < p) {w n : Nat} {a b : List Mat} (ha : SlOk w n p a) (hb : SlOk w n p b) : SlOk w n p (addS p a b) := by
  refine ⟨by simp [addS, ha.1, hb.1], fun m hm => ?_⟩
  unfold addS at hm
  rw [← List.map_uncurry_zip_eq_zipWith] at hm
  obtain ⟨⟨x, y⟩, hxy, rfl⟩ := List.mem_map.mp hm
  have := List.of_mem_zip hxy
  exact addM_ok hp (ha.2 x this.1) (hb.2 y this.2)
theorem zeroS_ok {p : Int} (hp : 0 < p) {w n : Nat} : SlOk w n p (zeroS n w) := by
  refine ⟨by simp [zeroS], fun m hm => ?_⟩
  rw [List.eq_of_mem_replicate hm]
  refine ⟨by simp, fun r hr => ?_⟩
  rw [List.eq_of_mem_replicate hr]
  refine ⟨by simp, fun x hx => ?_⟩
  rw [List.eq_of_mem_replicate hx]
  exact ⟨Int.le_refl _, hp⟩
theorem wayV_ok {p : Int} {w : Nat} : ∀ {ms : List Mat} {ks : List Bool} {v : Vec}, (∀ m ∈ ms, m.length = w) → v.length = w → ∀ u ∈ wayV p ms ks v, u.length = w
  | [], _, v, _, hv, u, hu => by simp [wayV] at hu; rw [hu]; exact hv
  | _ :: _, [], v, _, hv, u, hu => by simp [wayV] at hu; rw [hu]; exact hv
  | m :: ms, k :: ks, v, hm, hv, u, hu => by
    rw [wayV] at hu
    rcases List.mem_cons.mp hu with rfl | hu
    · exact hv
    · exact wayV_ok (fun x hx => hm x (List.mem_cons_of_mem _ hx)) (by rw [fwdV_len]; exact hm m (List.mem_cons_self ..)) u hu
theorem lossV_lt {p : Int} (hp : 0 < p) {a b : Vec} : Lt p (lossV p a b) := Lt.zip hp _ _ _
theorem exmS_ok {w : Nat} {p : Int} {ws : List Mat} {ks : List Bool} (h : NetS w p ws ks) {x : Vec × Vec} (h1 : x.1.length = w) (h2 : x.2.length = w) : SlOk w ws.length p (exmS p w ws ks x) := by
  have hm : ∀ m ∈ ws, m.length = w := fun m hm => (h.ms m hm).1
  obtain ⟨_, _, a3, a4⟩ := bkAll_ok h.p0 (w := w) (ms := ws) (ks := ks) (vs := (wayV p ws ks x.1).dropLast) (s := lossV p (outV p ws ks x.1) x.2) h.kl (by rw [List.length_dropLast, wayV_len h.kl.symm]; rfl) h.ms
    (fun v hv => wayV_ok hm h1 v ((List.dropLast_sublist _).subset hv)) (by rw [lossV, List.length_zipWith, outV_len hm h1, h2, Nat.min_self]) (lossV_lt h.p0)
  exact ⟨a3, a4⟩
theorem foldS_ok {w n : Nat} {p : Int} (hp : 0 < p) {α : Type} {g : α → List Mat} : ∀ {xs : List α} {acc : List Mat}, (∀ x ∈ xs, SlOk w n p (g x)) → SlOk w n p acc → SlOk w n p (xs.foldl (fun acc x => addS p acc (g x)) acc)
  | [], _, _, h => h
  | x :: xs, acc, h, ha => by
    rw [List.foldl_cons]
    exact foldS_ok hp (fun y hy => h y (List.mem_cons_of_mem _ hy)) (addS_ok hp ha (h x (List.mem_cons_self ..)))
/-! the program's defs -/
def wbBody (C : Str → Sem1) : ZS := (zSeq (zFrz [] (zAsg (tgT [2, 5]) (zCall (C "layer_back") 4 0 [0, 1, 2, 3] [] (sCons (zSv 0) (sCons (zSv 4) (sCons (zVl (zOp gIx (zCv 1) (zCv 4))) (sCons (zSv 2) sNil)))) sNil)))
      (zSeq (zFrz [] (zApp 3 (zVar 5)))
      zNx))
def nWayBack (lf : Lens) (C : Str → Sem1) : ZS :=
  (zSeq (zFrz [] (zSetO 3 (zLst zNil)))
      (zSeq (zFrz [] (zFor (zRevR (zRg1 (zLen lf (zSv 0)))) (tgN 4) (wbBody C)))
      (zSeq (zFrz [] (zRet (zTup (zCons (zVar 2) (zCons (zTupOf (zRv (zCv 3))) zNil)))))
      zNx)))
def WBackOk (f : Sem1) : Prop := ∀ M w p ws ks (vs : List Vec) e s, NetS w p ws ks → vs.length = ws.length → (∀ v ∈ vs, v.length = w) → VecD e s → s.length = w → Lt p s →
  ∃ d, f [.val (netO p ws ks), .val (.tup (vs.map rowD)), .val e] M = .ok (.tup [d, wsD (bkAll p w ws ks vs s).2]) M
theorem wbLoop {lf : Lens} (hl : NetLn lf) {C : Str → Sem1} (hB : BackOk (C "layer_back")) {M : Sto} {w : Nat} {p : Int} {ws : List Mat} {ks : List Bool} {vs : List Vec} {e : D} {s : Vec} (h : NetS w p ws ks) (h1 : vs.length = ws.length) (h2 : ∀ v ∈ vs, v.length = w) (he : VecD e s) (hs : s.length = w) (hlt : Lt p s) :
    ∃ d e4 e5, zFor (zRevR (zRg1 (zLen lf (zSv 0)))) (tgN 4) (wbBody C) [.val (netO p ws ks), .val (.tup (vs.map rowD)), .val e, .own (.lst []), .no, .no] M = .nx [.val (netO p ws ks), .val (.tup (vs.map rowD)), .val d, .own (.lst ((bkAll p w ws ks vs s).2.map matD).reverse), e4, e5] M := by
  have hz : zRevR (zRg1 (zLen lf (zSv 0))) [.val (netO p ws ks), .val (.tup (vs.map rowD)), .val e, .own (.lst []), .no, .no] M = .ok (stpD ((ws.length : Int) - 1) (-1) ws.length) M := by
    simp only [zRevR_z, zRg1_z, zLen_z, zSv_z, List.getElem?_cons_zero, Res.bind_ok, len_net hl h]
    exact revR_ok (by have := h.n6; omega)
  have hb : ∀ (j : Nat) (m : Mat) (k : Bool) (v : Vec) (d : D) (t : Vec) (A : List D) (e5 : Sl), ws[j]? = some m → ks[j]? = some k → vs[j]? = some v → VecD d t → t.length = w → Lt p t → A.length ≤ 100 →
      wbBody C [.val (netO p ws ks), .val (.tup (vs.map rowD)), .val d, .own (.lst A), .val (.int j), e5] M = .nx [.val (netO p ws ks), .val (.tup (vs.map rowD)), .val (rowD (backIn p m (psV p m k v t) w)), .own (.lst (A ++ [matD (backW p (psV p m k v t) v)])), .val (.int j), .val (matD (backW p (psV p m k v t) v))] M :=
    fun j m k v d t A e5 hm hk hv hd ht htl hA => by
      have q := hB M w p ws ks j m k (rowD v) v d t h hm hk (VecD.row v) hd (h2 v (List.mem_of_getElem? hv)) ht htl
      have g : gIx (.tup (vs.map rowD)) (.int j) M = .ok (rowD v) M := gIx_map hv rfl
      have hlA : A.length < sizeLine := Nat.lt_of_le_of_lt hA (by decide)
      generalize rowD (backIn p m (psV p m k v t) w) = X at q ⊢
      generalize matD (backW p (psV p m k v t) v) = Y at q ⊢
      simp only [zSeq_z, zFrz_z, zSet_z, zSetO_z, zRet_z, zDrop_z, zIfS_z, zTst_z, zTru_z, zNot_z, zAnd_z, zOr_z, zAndV_z, zNotV_z, zIf_z, zOp_z, zBf_z, zCons_z, zNil_z, zCall_z, sCons_z, sNil_z, zSv_z, zVl_z, zCv_z, zBv_z, zVar_z, zK_z, zNeg_z, zTup_z, zLst_z, zTupOf_z, zLstOf_z, zLen_z, zAt_z, zProp_z, zApp_z, zAugN_z, zSeqI_z, zRng1_z, zRng2_z, zAsg_z, zPart_z, zNoP_z, getPl, setPl, wipeE, List.getElem?_cons_succ, List.getElem?_cons_zero, List.set_cons_succ, List.set_cons_zero, Res.bind_ok, Res.toS_ok, callR1, callR2, callR3, callR0_4, callRk1, callRk2, callRk3', callRk4', List.length_cons, List.length_nil, Nat.zero_add, Nat.reduceAdd, sz1, sz2, sz3, if_true, if_false, Bool.false_eq_true, Bool.not_true, Bool.not_false, zNx_z, zBk_z, zCt_z, itemsD_lst, itemsD_tup, deref_bl, deref_int, deref_str, deref_tup, deref_lst, Option.bind_some, truD, gAdd_int, gSub_int, gMul_int, gMod_int, gCmpI_int, gEq_int, gInt_int, lenR_lst, lenR_blst, lenR_tup, decide_true, decide_false, true_or, or_true, List.map_cons, List.map_nil, wbBody, g, q, tgT, setAll, hlA]
  generalize wbBody C = y at hb
  have key : ∀ i, i < ws.length → ((((ws.length : Int) - 1) + (i : Nat) * (-1)) = ((ws.length - 1 - i : Nat) : Int)) := fun i hi => by omega
  refine zFor_gen (I := fun i env M' => ∃ d e4 e5, VecD d (bkAll p w (ws.drop (ws.length - i)) (ks.drop (ws.length - i)) (vs.drop (ws.length - i)) s).1 ∧ env = [.val (netO p ws ks), .val (.tup (vs.map rowD)), .val d, .own (.lst ((bkAll p w (ws.drop (ws.length - i)) (ks.drop (ws.length - i)) (vs.drop (ws.length - i)) s).2.map matD).reverse), e4, e5] ∧ M' = M)
    (Q := fun o => ∃ d e4 e5, o = .nx [.val (netO p ws ks), .val (.tup (vs.map rowD)), .val d, .own (.lst ((bkAll p w ws ks vs s).2.map matD).reverse), e4, e5] M) hz ⟨e, .no, .no, ?_, ?_, rfl⟩ (fun i x env M' hi hI => ?_) fun env M' hI => ?_
  · rw [Nat.sub_zero, List.drop_of_length_le (Nat.le_refl _)]
    simpa [bkAll] using he
  · rw [Nat.sub_zero, List.drop_of_length_le (Nat.le_refl _)]
    simp [bkAll]
  · obtain ⟨d, e4, e5, hd, rfl, rfl⟩ := hI
    obtain ⟨rfl, hlt'⟩ := stpD_get hi
    rw [key i hlt']
    have e1 : ws.length - i = (ws.length - 1 - i) + 1 := by omega
    have e2 : ws.length - (i + 1) = ws.length - 1 - i := by omega
    rw [e1] at hd ⊢
    have hj : ws.length - 1 - i < ws.length := by omega
    generalize ws.length - 1 - i = j at hd e2 hj ⊢
    have hj2 : j < ks.length := by rw [h.kl]; exact hj
    have hj3 : j < vs.length := by rw [h1]; exact hj
    have o := bkAll_ok h.p0 (w := w) (ms := ws.drop (j + 1)) (ks := ks.drop (j + 1)) (vs := vs.drop (j + 1)) (s := s) (by rw [List.length_drop, List.length_drop, h.kl]) (by rw [List.length_drop, List.length_drop, h1]) (fun m hm => h.ms m (List.mem_of_mem_drop hm)) (fun v hv => h2 v (List.mem_of_mem_drop hv)) hs hlt
    have st : bkAll p w (ws.drop j) (ks.drop j) (vs.drop j) s = (backIn p ws[j] (psV p ws[j] ks[j] vs[j] (bkAll p w (ws.drop (j + 1)) (ks.drop (j + 1)) (vs.drop (j + 1)) s).1) w, backW p (psV p ws[j] ks[j] vs[j] (bkAll p w (ws.drop (j + 1)) (ks.drop (j + 1)) (vs.drop (j + 1)) s).1) vs[j] :: (bkAll p w (ws.drop (j + 1)) (ks.drop (j + 1)) (vs.drop (j + 1)) s).2) := by
      rw [List.drop_eq_getElem_cons hj, List.drop_eq_getElem_cons hj2, List.drop_eq_getElem_cons hj3, bkAll]
    have t := hb j ws[j] ks[j] vs[j] d _ (((bkAll p w (ws.drop (j + 1)) (ks.drop (j + 1)) (vs.drop (j + 1)) s).2.map matD).reverse) e5 (List.getElem?_eq_getElem hj) (List.getElem?_eq_getElem hj2) (List.getElem?_eq_getElem hj3) hd o.1 o.2.1 (by rw [List.length_reverse, List.length_map, o.2.2.1, List.length_drop]; have := h.n6; omega)
    refine ⟨_, rfl, ?_⟩
    simp only [List.set_cons_succ, List.set_cons_zero]
    rw [t]
    refine ⟨rowD (backIn p ws[j] (psV p ws[j] ks[j] vs[j] (bkAll p w (ws.drop (j + 1)) (ks.drop (j + 1)) (vs.drop (j + 1)) s).1) w), .val (.int j), .val (matD (backW p (psV p ws[j] ks[j] vs[j] (bkAll p w (ws.drop (j + 1)) (ks.drop (j + 1)) (vs.drop (j + 1)) s).1) vs[j])), ?_, ?_, rfl⟩
    · rw [e2, st]
      exact VecD.row _
    · rw [e2, st, List.map_cons, List.reverse_cons]
  · obtain ⟨d, e4, e5, hd, rfl, rfl⟩ := hI
    rw [stpD_len, Nat.sub_self, List.drop_zero, List.drop_zero, List.drop_zero]
    exact ⟨d, e4, e5, rfl⟩
@[simp] theorem zRv_z {z : ZX} {env : Ev} {M : Sto} : zRv z env M = (z env M).bind fun d M1 => match deref M1 d with
  | some (.lst ds) => .ok (.lst ds.reverse) M1
  | _ => .fail := id rfl
theorem wb_seq {y : ZS} {a b c : D} {d : D} {A : List D} {e4 e5 : Sl} {M : Sto} (hy : y [.val a, .val b, .val c, .own (.lst []), .no, .no] M = .nx [.val a, .val b, .val d, .own (.lst A.reverse), e4, e5] M) :
    zFun 3 6 (zSeq (zFrz [] (zSetO 3 (zLst zNil))) (zSeq (zFrz [] y) (zSeq (zFrz [] (zRet (zTup (zCons (zVar 2) (zCons (zTupOf (zRv (zCv 3))) zNil))))) zNx))) [.val a, .val b, .val c] M = .ok (.tup [d, .tup A]) M := by
  unfold zFun
  simp [hy]
theorem wBackOk {lf : Lens} (hl : NetLn lf) {C : Str → Sem1} (hB : BackOk (C "layer_back")) : WBackOk (zFun 3 6 (nWayBack lf C)) := fun M w p ws ks vs e s h h1 h2 he hs hlt => by
  obtain ⟨d, e4, e5, q⟩ := wbLoop hl hB (M := M) h h1 h2 he hs hlt
  exact ⟨d, wb_seq q⟩
def nLoss : ZS := (zSeq (zFrz [] (zRet (zTupOf (zLc (zZip (zBv 1) (zBv 2)) (tgT [3, 4]) (fun _ M => .ok true M) (zOp gMod (zOp gMul (zK (.int 2)) (zOp gSub (zCv 3) (zCv 4))) (zCv 0)) [3, 4])))) zNx)
def LossOk (f : Sem1) : Prop := ∀ M (p : Int) d e a b, 0 < p → VecD d a → VecD e b → a.length ≤ 1000 → f [.val (.int p), .val d, .val e] M = .ok (rowD (lossV p a b)) M
theorem ret_seq {z : ZX} {env : Ev} {n m : Nat} {M M' : Sto} {A : List D} (hn : env.length = n) (h : z (env ++ List.replicate (m - n) .no) M = .ok (.lst A) M') : zFun n m (zSeq (zFrz [] (zRet (zTupOf z))) zNx) env M = .ok (.tup A) M' := by
  unfold zFun
  rw [if_pos hn]
  simp [h]
theorem lossOk : LossOk (zFun 3 5 nLoss) := fun M p d e a b hp ha hb hl => by
  have l := lcZip (env := [.val (.int p), .val d, .val e, .no, .no]) (M := M) (za := zBv 1) (zb := zBv 2) (ze := zOp gMod (zOp gMul (zK (.int 2)) (zOp gSub (zCv 3) (zCv 4))) (zCv 0)) (vs := [3, 4]) (i := 3) (j := 4) (d := d) (e := e) (r := a) (v := b) (ga := D.int) (gb := D.int) (fun x y => .int (2 * (x - y) % p)) (by simp) (by simp) ha.items hb.items rfl hl
    fun x _ y _ => by
      have h2 : smallI 2 := by decide
      simp only [zSeq_z, zFrz_z, zSet_z, zSetO_z, zRet_z, zDrop_z, zIfS_z, zTst_z, zTru_z, zNot_z, zAnd_z, zOr_z, zAndV_z, zNotV_z, zIf_z, zOp_z, zBf_z, zCons_z, zNil_z, zCall_z, sCons_z, sNil_z, zSv_z, zVl_z, zCv_z, zBv_z, zVar_z, zK_z, zNeg_z, zTup_z, zLst_z, zTupOf_z, zLstOf_z, zLen_z, zAt_z, zProp_z, zApp_z, zAugN_z, zSeqI_z, zRng1_z, zRng2_z, zAsg_z, zPart_z, zNoP_z, getPl, setPl, wipeE, List.getElem?_cons_succ, List.getElem?_cons_zero, List.set_cons_succ, List.set_cons_zero, Res.bind_ok, Res.toS_ok, callR1, callR2, callR3, callR0_4, callRk1, callRk2, callRk3', callRk4', List.length_cons, List.length_nil, Nat.zero_add, Nat.reduceAdd, sz1, sz2, sz3, if_true, if_false, Bool.false_eq_true, Bool.not_true, Bool.not_false, zNx_z, zBk_z, zCt_z, itemsD_lst, itemsD_tup, deref_bl, deref_int, deref_str, deref_tup, deref_lst, Option.bind_some, truD, gAdd_int, gSub_int, gMul_int, gMod_int, gCmpI_int, gEq_int, gInt_int, lenR_lst, lenR_blst, lenR_tup, decide_true, decide_false, true_or, or_true, List.map_cons, List.map_nil, h2, hp]
  have e1 : rowD (lossV p a b) = .tup (List.zipWith (fun x y => .int (2 * (x - y) % p)) a b) := by
    unfold rowD lossV
    rw [zipWith_int]
  rw [e1]
  exact ret_seq rfl l
theorem gMul_tup {a : List D} {k : Nat} {M : Sto} (h0 : a ≠ []) (h1 : 1 ≤ k) (h2 : k ≤ 1000) (h3 : a.length ≤ 1000) : gMul (.tup a) (.int k) M = .ok (.tup (List.replicate k a).flatten) M := by
  show (if (k : Int) = 1 then Res.ok (D.tup a) M else if a ≠ [] ∧ 2 ≤ (k : Int) ∧ (k : Int) ≤ 1000 ∧ a.length ≤ 1000 then Res.ok (D.tup (List.replicate (k : Int).toNat a).flatten) M else .fail) = _
  by_cases hk : k = 1
  · subst hk
    simp
  · rw [if_neg (by omega), if_pos ⟨h0, by omega, by omega, h3⟩, Int.toNat_natCast]
theorem flat_rep {x : D} {k : Nat} : (List.replicate k [x]).flatten = List.replicate k x := by
  induction k with
  | zero => rfl
  | succ k ih => rw [List.replicate_succ, List.flatten_cons, ih, List.replicate_succ]; rfl
theorem gMul_one {x : D} {k : Nat} {M : Sto} (h1 : 1 ≤ k) (h2 : k ≤ 1000) : gMul (.tup [x]) (.int k) M = .ok (.tup (List.replicate k x)) M := by
  rw [gMul_tup (by simp) h1 h2 (by simp), flat_rep]
def nNo (pf : Lens) (lf : Lens) : ZS :=
  (zSeq (zFrz [] (zSet 1 (zOp gMul (zTup (zCons (zK (.int 0)) zNil)) (zProp pf (zSv 0)))))
      (zSeq (zFrz [] (zRet (zOp gMul (zTup (zCons (zOp gMul (zTup (zCons (zVar 1) zNil)) (zProp pf (zSv 0))) zNil)) (zLen lf (zSv 0)))))
      zNx))
def NoOk (f : Sem1) : Prop := ∀ M w p ws ks, NetS w p ws ks → f [.val (netO p ws ks)] M = .ok (wsD (zeroS ws.length w)) M
theorem noOk {pf lf : Lens} (hp : NetPr pf) (hl : NetLn lf) : NoOk (zFun 1 2 (nNo pf lf)) := fun M w p ws ks h => by
  have a := fun M => wid_net hp (M := M) h
  have b := fun M => len_net hl (M := M) h
  have w1 := h.w1
  have w3 := h.w3
  have n1 := h.n1
  have n6 := h.n6
  have g1 : gMul (.tup [.int 0]) (.int w) M = .ok (.tup (List.replicate w (.int 0))) M := gMul_one w1 (by omega)
  have g2 := fun x => gMul_one (x := x) (k := w) (M := M) w1 (by omega)
  have g3 := fun x => gMul_one (x := x) (k := ws.length) (M := M) n1 (by omega)
  have e : wsD (zeroS ws.length w) = .tup (List.replicate ws.length (.tup (List.replicate w (.tup (List.replicate w (.int 0)))))) := by
    unfold wsD zeroS matD rowD
    simp [List.map_replicate, matD, rowD]
  rw [e]
  unfold zFun
  simp [nNo, a, b, g1, g2, g3]
def nAddS (ats : Ats) (C : Str → Sem1) : ZS := (zSeq (zFrz [] (zRet (zTupOf (zLc (zZip (zBv 1) (zBv 2)) (tgT [3, 4]) (fun _ M => .ok true M) (zCall (C "_added_matrix") 3 0 [0, 1, 2] [] (sCons (zVl (zAt ats "prime" (zCv 0))) (sCons (zSv 3) (sCons (zSv 4) sNil))) sNil) [3, 4])))) zNx)
def nAddM : ZS := (zSeq (zFrz [] (zRet (zTupOf (zLc (zZip (zBv 1) (zBv 2)) (tgT [3, 4]) (fun _ M => .ok true M) (zTupOf (zLc (zZip (zBv 3) (zBv 4)) (tgT [5, 6]) (fun _ M => .ok true M) (zOp gMod (zOp gAdd (zCv 5) (zCv 6)) (zCv 0)) [5, 6])) [3, 4])))) zNx)
def AddMOk (f : Sem1) : Prop := ∀ M (p : Int) a b, 0 < p → a.length ≤ 1000 → (∀ r ∈ a, r.length ≤ 1000) → f [.val (.int p), .val (matD a), .val (matD b)] M = .ok (matD (addM p a b)) M
theorem addMOk : AddMOk (zFun 3 7 nAddM) := fun M p a b hp hl hr => by
  have l := lcZip (env := [.val (.int p), .val (matD a), .val (matD b), .no, .no, .no, .no]) (M := M) (za := zBv 1) (zb := zBv 2) (ze := zTupOf (zLc (zZip (zBv 3) (zBv 4)) (tgT [5, 6]) (fun _ M => .ok true M) (zOp gMod (zOp gAdd (zCv 5) (zCv 6)) (zCv 0)) [5, 6])) (vs := [3, 4]) (i := 3) (j := 4) (d := matD a) (e := matD b) (r := a) (v := b) (ga := rowD) (gb := rowD)
    (fun x y => rowD (List.zipWith (fun x y => (x + y) % p) x y)) (by simp) (by simp) rfl rfl rfl hl
    fun x hx y _ => by
      have c := lcZip (env := [.val (.int p), .val (matD a), .val (matD b), .val (rowD x), .val (rowD y), .no, .no]) (M := M) (za := zBv 3) (zb := zBv 4) (ze := zOp gMod (zOp gAdd (zCv 5) (zCv 6)) (zCv 0)) (vs := [5, 6]) (i := 5) (j := 6) (d := rowD x) (e := rowD y) (r := x) (v := y) (ga := D.int) (gb := D.int) (fun x y => .int ((x + y) % p)) (by simp) (by simp) rfl rfl rfl (hr x hx)
        fun x _ y _ => by simp only [zSeq_z, zFrz_z, zSet_z, zSetO_z, zRet_z, zDrop_z, zIfS_z, zTst_z, zTru_z, zNot_z, zAnd_z, zOr_z, zAndV_z, zNotV_z, zIf_z, zOp_z, zBf_z, zCons_z, zNil_z, zCall_z, sCons_z, sNil_z, zSv_z, zVl_z, zCv_z, zBv_z, zVar_z, zK_z, zNeg_z, zTup_z, zLst_z, zTupOf_z, zLstOf_z, zLen_z, zAt_z, zProp_z, zApp_z, zAugN_z, zSeqI_z, zRng1_z, zRng2_z, zAsg_z, zPart_z, zNoP_z, getPl, setPl, wipeE, List.getElem?_cons_succ, List.getElem?_cons_zero, List.set_cons_succ, List.set_cons_zero, Res.bind_ok, Res.toS_ok, callR1, callR2, callR3, callR0_4, callRk1, callRk2, callRk3', callRk4', List.length_cons, List.length_nil, Nat.zero_add, Nat.reduceAdd, sz1, sz2, sz3, if_true, if_false, Bool.false_eq_true, Bool.not_true, Bool.not_false, zNx_z, zBk_z, zCt_z, itemsD_lst, itemsD_tup, deref_bl, deref_int, deref_str, deref_tup, deref_lst, Option.bind_some, truD, gAdd_int, gSub_int, gMul_int, gMod_int, gCmpI_int, gEq_int, gInt_int, lenR_lst, lenR_blst, lenR_tup, decide_true, decide_false, true_or, or_true, List.map_cons, List.map_nil, hp]
      have er : rowD (List.zipWith (fun x y => (x + y) % p) x y) = .tup (List.zipWith (fun x y => .int ((x + y) % p)) x y) := by unfold rowD; rw [zipWith_int]
      rw [er]
      simp only [zSeq_z, zFrz_z, zSet_z, zSetO_z, zRet_z, zDrop_z, zIfS_z, zTst_z, zTru_z, zNot_z, zAnd_z, zOr_z, zAndV_z, zNotV_z, zIf_z, zOp_z, zBf_z, zCons_z, zNil_z, zCall_z, sCons_z, sNil_z, zSv_z, zVl_z, zCv_z, zBv_z, zVar_z, zK_z, zNeg_z, zTup_z, zLst_z, zTupOf_z, zLstOf_z, zLen_z, zAt_z, zProp_z, zApp_z, zAugN_z, zSeqI_z, zRng1_z, zRng2_z, zAsg_z, zPart_z, zNoP_z, getPl, setPl, wipeE, List.getElem?_cons_succ, List.getElem?_cons_zero, List.set_cons_succ, List.set_cons_zero, Res.bind_ok, Res.toS_ok, callR1, callR2, callR3, callR0_4, callRk1, callRk2, callRk3', callRk4', List.length_cons, List.length_nil, Nat.zero_add, Nat.reduceAdd, sz1, sz2, sz3, if_true, if_false, Bool.false_eq_true, Bool.not_true, Bool.not_false, zNx_z, zBk_z, zCt_z, itemsD_lst, itemsD_tup, deref_bl, deref_int, deref_str, deref_tup, deref_lst, Option.bind_some, truD, gAdd_int, gSub_int, gMul_int, gMod_int, gCmpI_int, gEq_int, gInt_int, lenR_lst, lenR_blst, lenR_tup, decide_true, decide_false, true_or, or_true, List.map_cons, List.map_nil, c]
  have e1 : matD (addM p a b) = .tup (List.zipWith (fun x y => rowD (List.zipWith (fun x y => (x + y) % p) x y)) a b) := by
    unfold matD addM
    rw [List.map_zipWith]
  rw [e1]
  exact ret_seq rfl l
def AddSOk (f : Sem1) : Prop := ∀ M w p ws ks a b, NetS w p ws ks → a.length ≤ 1000 → (∀ m ∈ a, m.length ≤ 1000 ∧ ∀ r ∈ m, r.length ≤ 1000) → f [.val (netO p ws ks), .val (wsD a), .val (wsD b)] M = .ok (wsD (addS p a b)) M
theorem addSOk {ats : Ats} (ha : NetAts ats) {C : Str → Sem1} (hM : AddMOk (C "_added_matrix")) : AddSOk (zFun 3 5 (nAddS ats C)) := fun M w p ws ks a b h hl hr => by
  have l := lcZip (env := [.val (netO p ws ks), .val (wsD a), .val (wsD b), .no, .no]) (M := M) (za := zBv 1) (zb := zBv 2) (ze := zCall (C "_added_matrix") 3 0 [0, 1, 2] [] (sCons (zVl (zAt ats "prime" (zCv 0))) (sCons (zSv 3) (sCons (zSv 4) sNil))) sNil) (vs := [3, 4]) (i := 3) (j := 4) (d := wsD a) (e := wsD b) (r := a) (v := b) (ga := matD) (gb := matD)
    (fun x y => matD (addM p x y)) (by simp) (by simp) rfl rfl rfl hl
    fun x hx y _ => by
      have c := hM M p x y h.p0 (hr x hx).1 (hr x hx).2
      simp only [zSeq_z, zFrz_z, zSet_z, zSetO_z, zRet_z, zDrop_z, zIfS_z, zTst_z, zTru_z, zNot_z, zAnd_z, zOr_z, zAndV_z, zNotV_z, zIf_z, zOp_z, zBf_z, zCons_z, zNil_z, zCall_z, sCons_z, sNil_z, zSv_z, zVl_z, zCv_z, zBv_z, zVar_z, zK_z, zNeg_z, zTup_z, zLst_z, zTupOf_z, zLstOf_z, zLen_z, zAt_z, zProp_z, zApp_z, zAugN_z, zSeqI_z, zRng1_z, zRng2_z, zAsg_z, zPart_z, zNoP_z, getPl, setPl, wipeE, List.getElem?_cons_succ, List.getElem?_cons_zero, List.set_cons_succ, List.set_cons_zero, Res.bind_ok, Res.toS_ok, callR1, callR2, callR3, callR0_4, callRk1, callRk2, callRk3', callRk4', List.length_cons, List.length_nil, Nat.zero_add, Nat.reduceAdd, sz1, sz2, sz3, if_true, if_false, Bool.false_eq_true, Bool.not_true, Bool.not_false, zNx_z, zBk_z, zCt_z, itemsD_lst, itemsD_tup, deref_bl, deref_int, deref_str, deref_tup, deref_lst, Option.bind_some, truD, gAdd_int, gSub_int, gMul_int, gMod_int, gCmpI_int, gEq_int, gInt_int, lenR_lst, lenR_blst, lenR_tup, decide_true, decide_false, true_or, or_true, List.map_cons, List.map_nil, at_prime ha, c]
  have e1 : wsD (addS p a b) = .tup (List.zipWith (fun x y => matD (addM p x y)) a b) := by
    unfold wsD addS
    rw [List.map_zipWith]
  rw [e1]
  exact ret_seq rfl l
end Zy
set_option maxHeartbeats 2000000
namespace Zy
open PySem PySem.Spec PyProof.Rows L2
/-! slopes of portions and batches, and the change of a net -/
@[simp] theorem zSl_z {z : ZX} {zl zh : ZO} {env : Ev} {M : Sto} : zSl z zl zh env M = (z env M).bind fun d M1 => (zl env M1).bind fun lo M2 => (zh env M2).bind fun hi M3 => match (deref M3 d).bind fun c => slD c lo hi with
  | some r => .ok r M3
  | none => .fail := id rfl
theorem cut_init {ds : List D} (h : ds ≠ []) : cutD ds none (some (-1)) = ds.dropLast := by
  have hl : 0 < ds.length := List.length_pos_iff.mpr h
  have e : HT.sIx ds.length ds.length (some (-1)) = ds.length - 1 := by
    show (if (-1 : Int) < 0 then ((-1 : Int) + (ds.length : Int)).toNat else min (-1 : Int).toNat ds.length) = _
    rw [if_pos (by decide)]
    omega
  unfold cutD
  rw [e, HT.sIx_none, List.drop_zero, Nat.sub_zero, List.dropLast_eq_take]
theorem sl_init {ds : List D} (h : ds ≠ []) : slD (.tup ds) none (some (-1)) = some (.tup ds.dropLast) := by
  show some (D.tup (cutD ds none (some (-1)))) = _
  rw [cut_init h]
def PairD (c : D) (x : Vec × Vec) : Prop := ∃ a b, itemsD c = some [a, b] ∧ VecD a x.1 ∧ VecD b x.2
/-- values and what they mean, one by one -/
def EachD {α : Type} (P : D → α → Prop) (ds : List D) (xs : List α) : Prop := ds.length = xs.length ∧ ∀ (i : Nat) x, xs[i]? = some x → ∃ c, ds[i]? = some c ∧ P c x
def SeqD {α : Type} (P : D → α → Prop) (d : D) (xs : List α) : Prop := ∃ ds, itemsD d = some ds ∧ EachD P ds xs
theorem EachD.at {α : Type} {P : D → α → Prop} {ds : List D} {xs : List α} (h : EachD P ds xs) {i : Nat} {c : D} (hc : ds[i]? = some c) : ∃ x, xs[i]? = some x ∧ P c x := by
  have hi := (List.getElem?_eq_some_iff.mp hc).1
  have hx : xs[i]? = some (xs[i]'(by rw [← h.1]; exact hi)) := List.getElem?_eq_getElem _
  obtain ⟨c', e, q⟩ := h.2 i _ hx
  rw [hc] at e
  cases e
  exact ⟨_, hx, q⟩
theorem EachD.map {α : Type} {P : D → α → Prop} {g : α → D} {xs : List α} (h : ∀ x ∈ xs, P (g x) x) : EachD P (xs.map g) xs := ⟨List.length_map .., fun i x hx => ⟨g x, by rw [List.getElem?_map, hx]; rfl, h x (List.mem_of_getElem? hx)⟩⟩
theorem EachD.app {α : Type} {P : D → α → Prop} {ds es : List D} {xs ys : List α} (h : EachD P ds xs) (k : EachD P es ys) : EachD P (ds ++ es) (xs ++ ys) := by
  refine ⟨by simp [h.1, k.1], fun i x hx => ?_⟩
  by_cases hi : i < xs.length
  · rw [List.getElem?_append_left hi] at hx
    obtain ⟨c, e, q⟩ := h.2 i x hx
    exact ⟨c, by rw [List.getElem?_append_left (by rw [h.1]; exact hi)]; exact e, q⟩
  · rw [List.getElem?_append_right (by omega)] at hx
    obtain ⟨c, e, q⟩ := k.2 _ x hx
    exact ⟨c, by rw [List.getElem?_append_right (by rw [h.1]; omega), h.1]; exact e, q⟩
theorem EachD.one {α : Type} {P : D → α → Prop} {c : D} {x : α} (h : P c x) : EachD P [c] [x] := ⟨rfl, fun i y hy => by
  cases i with
  | zero => cases hy; exact ⟨c, rfl, h⟩
  | succ i => cases hy⟩
theorem EachD.nil {α : Type} {P : D → α → Prop} : EachD P [] [] := ⟨rfl, fun i y hy => by cases hy⟩
theorem EachD.rev {α : Type} {P : D → α → Prop} {ds : List D} {xs : List α} (h : EachD P ds xs) : EachD P ds.reverse xs.reverse := by
  refine ⟨by simp [h.1], fun i x hx => ?_⟩
  have hi : i < xs.length := by simpa using (List.getElem?_eq_some_iff.mp hx).1
  rw [List.getElem?_reverse hi] at hx
  obtain ⟨c, e, q⟩ := h.2 _ x hx
  exact ⟨c, by rw [List.getElem?_reverse (by rw [h.1]; exact hi), h.1]; exact e, q⟩
abbrev PorD : D → List (Vec × Vec) → Prop := SeqD PairD
def psBody (ats : Ats) (C : Str → Sem1) : ZS := (zSeq (zFrz [] (zSet 5 (zCall (C "way_forward") 2 0 [0, 1] [] (sCons (zSv 0) (sCons (zSv 3) sNil)) sNil)))
      (zSeq (zFrz [] (zSet 6 (zCall (C "way_back") 3 0 [0, 1, 2] [] (sCons (zSv 0) (sCons (zVl (zSl (zCv 5) zNoP (zPart (zNeg (zK (.int 1)))))) (sCons (zVl (zCall (C "loss_slopes") 3 0 [0, 1, 2] [] (sCons (zVl (zAt ats "prime" (zCv 0))) (sCons (zVl (zOp gIx (zCv 5) (zNeg (zK (.int 1))))) (sCons (zSv 4) sNil))) sNil)) sNil))) sNil)))
      (zSeq (zFrz [] (zSet 2 (zCall (C "added_slopes") 3 0 [0, 1, 2] [] (sCons (zSv 0) (sCons (zSv 2) (sCons (zVl (zOp gIx (zCv 6) (zK (.int 1)))) sNil))) sNil)))
      zNx)))
def nPor (ats : Ats) (C : Str → Sem1) : ZS :=
  (zSeq (zFrz [] (zSet 2 (zCall (C "no_slopes") 1 0 [0] [] (sCons (zSv 0) sNil) sNil)))
      (zSeq (zFrz [] (zFor (zSeqI (zBv 1)) (tgT [3, 4]) (psBody ats C)))
      (zSeq (zFrz [] (zRet (zVar 2)))
      zNx)))
def PorOk (f : Sem1) : Prop := ∀ M w p ws ks d xs, NetS w p ws ks → PorD d xs → (∀ x ∈ xs, x.1.length = w ∧ x.2.length = w) → f [.val (netO p ws ks), .val d] M = .ok (wsD (porS p w ws ks xs)) M
theorem SlOk.small {w n : Nat} {p : Int} {ms : List Mat} (h : SlOk w n p ms) (hn : n ≤ 10) (hw : w ≤ 10) : ms.length ≤ 1000 ∧ ∀ m ∈ ms, m.length ≤ 1000 ∧ ∀ r ∈ m, r.length ≤ 1000 :=
  ⟨by rw [h.1]; omega, fun m hm => ⟨by rw [(h.2 m hm).1]; omega, fun r hr => by rw [((h.2 m hm).2 r hr).1]; omega⟩⟩
theorem psBody_ok {ats : Ats} (ha : NetAts ats) {C : Str → Sem1} (hW : WayOk (C "way_forward")) (hB : WBackOk (C "way_back")) (hL : LossOk (C "loss_slopes")) (hA : AddSOk (C "added_slopes")) {M : Sto} {w : Nat} {p : Int} {ws : List Mat} {ks : List Bool} (h : NetS w p ws ks)
    {a b : D} {x : Vec × Vec} {acc : List Mat} {e1 e5 e6 : Sl} (h1 : VecD a x.1) (h2 : VecD b x.2) (l1 : x.1.length = w) (l2 : x.2.length = w) (hacc : SlOk w ws.length p acc) :
    ∃ f5 f6, psBody ats C [.val (netO p ws ks), e1, .val (wsD acc), .val a, .val b, e5, e6] M = .nx [.val (netO p ws ks), e1, .val (wsD (addS p acc (exmS p w ws ks x))), .val a, .val b, f5, f6] M := by
  have q1 := hW M w p ws ks a x.1 h h1
  have w3 := h.w3
  have hm : ∀ m ∈ ws, m.length = w := fun m hm => (h.ms m hm).1
  have lo : (outV p ws ks x.1).length = w := outV_len hm l1
  have q2 := hL M p (rowD (outV p ws ks x.1)) b (outV p ws ks x.1) x.2 h.p0 (VecD.row _) h2 (by omega)
  obtain ⟨d, q3⟩ := hB M w p ws ks (wayV p ws ks x.1).dropLast (rowD (lossV p (outV p ws ks x.1) x.2)) (lossV p (outV p ws ks x.1) x.2) h (by rw [List.length_dropLast, wayV_len h.kl.symm]; rfl)
    (fun v hv => wayV_ok hm l1 v ((List.dropLast_sublist _).subset hv)) (VecD.row _) (by rw [lossV, List.length_zipWith, lo, l2, Nat.min_self]) (lossV_lt h.p0)
  have sm := hacc.small (by have := h.n6; omega) (by omega)
  have q4 := hA M w p ws ks acc (exmS p w ws ks x) h sm.1 sm.2
  have s1 : slD (.tup ((wayV p ws ks x.1).map rowD)) none (some (-1)) = some (.tup ((wayV p ws ks x.1).dropLast.map rowD)) := by
    rw [sl_init (by simpa using wayV_ne), List.map_dropLast]
  have g1 : gIx (.tup ((wayV p ws ks x.1).map rowD)) (.int (-1)) M = .ok (rowD (outV p ws ks x.1)) M := gIx_last wayV_last rfl
  have g2 : gIx (.tup [d, wsD (exmS p w ws ks x)]) (.int 1) M = .ok (wsD (exmS p w ws ks x)) M := gIx_tup (by decide) rfl
  have e3 : (bkAll p w ws ks (wayV p ws ks x.1).dropLast (lossV p (outV p ws ks x.1) x.2)).2 = exmS p w ws ks x := rfl
  rw [e3] at q3
  refine ⟨.val (.tup ((wayV p ws ks x.1).map rowD)), .val (.tup [d, wsD (exmS p w ws ks x)]), ?_⟩
  generalize (wayV p ws ks x.1).map rowD = A at q1 s1 g1 ⊢
  generalize (wayV p ws ks x.1).dropLast.map rowD = B at q3 s1
  generalize exmS p w ws ks x = E at *
  simp only [zSeq_z, zFrz_z, zSet_z, zSetO_z, zRet_z, zDrop_z, zIfS_z, zTst_z, zTru_z, zNot_z, zAnd_z, zOr_z, zAndV_z, zNotV_z, zIf_z, zOp_z, zBf_z, zCons_z, zNil_z, zCall_z, sCons_z, sNil_z, zSv_z, zVl_z, zCv_z, zBv_z, zVar_z, zK_z, zNeg_z, zTup_z, zLst_z, zTupOf_z, zLstOf_z, zLen_z, zAt_z, zProp_z, zApp_z, zAugN_z, zSeqI_z, zRng1_z, zRng2_z, zAsg_z, zPart_z, zNoP_z, getPl, setPl, wipeE, List.getElem?_cons_succ, List.getElem?_cons_zero, List.set_cons_succ, List.set_cons_zero, Res.bind_ok, Res.toS_ok, callR1, callR2, callR3, callR0_4, callRk1, callRk2, callRk3', callRk4', List.length_cons, List.length_nil, Nat.zero_add, Nat.reduceAdd, sz1, sz2, sz3, if_true, if_false, Bool.false_eq_true, Bool.not_true, Bool.not_false, zNx_z, zBk_z, zCt_z, itemsD_lst, itemsD_tup, deref_bl, deref_int, deref_str, deref_tup, deref_lst, Option.bind_some, truD, gAdd_int, gSub_int, gMul_int, gMod_int, gCmpI_int, gEq_int, gInt_int, lenR_lst, lenR_blst, lenR_tup, decide_true, decide_false, true_or, or_true, List.map_cons, List.map_nil, psBody, q1, zSl_z, s1, at_prime ha, g1, q2, q3, g2, q4, Int.reduceNeg]
theorem por_loop {ats : Ats} (ha : NetAts ats) {C : Str → Sem1} (hW : WayOk (C "way_forward")) (hB : WBackOk (C "way_back")) (hL : LossOk (C "loss_slopes")) (hA : AddSOk (C "added_slopes")) {M : Sto} {w : Nat} {p : Int} {ws : List Mat} {ks : List Bool} (h : NetS w p ws ks)
    {d : D} {xs : List (Vec × Vec)} (hd : PorD d xs) (hx : ∀ x ∈ xs, x.1.length = w ∧ x.2.length = w) :
    ∃ e3 e4 e5 e6, zFor (zSeqI (zBv 1)) (tgT [3, 4]) (psBody ats C) [.val (netO p ws ks), .val d, .val (wsD (zeroS ws.length w)), .no, .no, .no, .no] M = .nx [.val (netO p ws ks), .val d, .val (wsD (porS p w ws ks xs)), e3, e4, e5, e6] M := by
  obtain ⟨ds, hi, he⟩ := hd
  have hz : zSeqI (zBv 1) [.val (netO p ws ks), .val d, .val (wsD (zeroS ws.length w)), .no, .no, .no, .no] M = .ok ds M := by simp only [zSeq_z, zFrz_z, zSet_z, zSetO_z, zRet_z, zDrop_z, zIfS_z, zTst_z, zTru_z, zNot_z, zAnd_z, zOr_z, zAndV_z, zNotV_z, zIf_z, zOp_z, zBf_z, zCons_z, zNil_z, zCall_z, sCons_z, sNil_z, zSv_z, zVl_z, zCv_z, zBv_z, zVar_z, zK_z, zNeg_z, zTup_z, zLst_z, zTupOf_z, zLstOf_z, zLen_z, zAt_z, zProp_z, zApp_z, zAugN_z, zSeqI_z, zRng1_z, zRng2_z, zAsg_z, zPart_z, zNoP_z, getPl, setPl, wipeE, List.getElem?_cons_succ, List.getElem?_cons_zero, List.set_cons_succ, List.set_cons_zero, Res.bind_ok, Res.toS_ok, callR1, callR2, callR3, callR0_4, callRk1, callRk2, callRk3', callRk4', List.length_cons, List.length_nil, Nat.zero_add, Nat.reduceAdd, sz1, sz2, sz3, if_true, if_false, Bool.false_eq_true, Bool.not_true, Bool.not_false, zNx_z, zBk_z, zCt_z, itemsD_lst, itemsD_tup, deref_bl, deref_int, deref_str, deref_tup, deref_lst, Option.bind_some, truD, gAdd_int, gSub_int, gMul_int, gMod_int, gCmpI_int, gEq_int, gInt_int, lenR_lst, lenR_blst, lenR_tup, decide_true, decide_false, true_or, or_true, List.map_cons, List.map_nil, hi]
  have hb := fun (a b : D) (x : Vec × Vec) (acc : List Mat) (e5 e6 : Sl) => psBody_ok ha hW hB hL hA (M := M) (a := a) (b := b) (x := x) (acc := acc) (e1 := .val d) (e5 := e5) (e6 := e6) h
  generalize psBody ats C = y at hb
  refine zFor_gen (I := fun i env M' => ∃ e3 e4 e5 e6, env = [.val (netO p ws ks), .val d, .val (wsD (porS p w ws ks (xs.take i))), e3, e4, e5, e6] ∧ M' = M)
    (Q := fun o => ∃ e3 e4 e5 e6, o = .nx [.val (netO p ws ks), .val d, .val (wsD (porS p w ws ks xs)), e3, e4, e5, e6] M) hz ⟨.no, .no, .no, .no, rfl, rfl⟩ (fun i c env M' hc hI => ?_) fun env M' hI => ?_
  · obtain ⟨e3, e4, e5, e6, rfl, rfl⟩ := hI
    obtain ⟨x, q, a, b, hab, h1, h2⟩ := he.at hc
    have hxm := hx x (List.mem_of_getElem? q)
    have ok : SlOk w ws.length p (porS p w ws ks (xs.take i)) := foldS_ok h.p0 (fun y hy => exmS_ok h (hx y (List.mem_of_mem_take hy)).1 (hx y (List.mem_of_mem_take hy)).2) (zeroS_ok h.p0)
    obtain ⟨f5, f6, t⟩ := hb a b x _ e5 e6 h1 h2 hxm.1 hxm.2 ok
    refine ⟨_, by simp only [tgT, hab, Option.bind_some, setAll]; rfl, ?_⟩
    simp only [List.set_cons_succ, List.set_cons_zero]
    rw [t]
    refine ⟨.val a, .val b, f5, f6, ?_, rfl⟩
    · have e : porS p w ws ks (xs.take (i + 1)) = addS p (porS p w ws ks (xs.take i)) (exmS p w ws ks x) := by
        unfold porS
        rw [take_snoc q, List.foldl_append]
        rfl
      rw [e]
  · obtain ⟨e3, e4, e5, e6, rfl, rfl⟩ := hI
    exact ⟨e3, e4, e5, e6, by rw [he.1, List.take_of_length_le (Nat.le_refl _)]⟩
theorem por_seq {N : Sem1} {y : ZS} {a b c d : D} {e3 e4 e5 e6 : Sl} {M : Sto} (hn : N [.val a] M = .ok c M) (hy : y [.val a, .val b, .val c, .no, .no, .no, .no] M = .nx [.val a, .val b, .val d, e3, e4, e5, e6] M) :
    zFun 2 7 (zSeq (zFrz [] (zSet 2 (zCall N 1 0 [0] [] (sCons (zSv 0) sNil) sNil))) (zSeq (zFrz [] y) (zSeq (zFrz [] (zRet (zVar 2))) zNx))) [.val a, .val b] M = .ok d M := by
  unfold zFun
  simp [hn, hy]
theorem porOk {ats : Ats} (ha : NetAts ats) {C : Str → Sem1} (hN : NoOk (C "no_slopes")) (hW : WayOk (C "way_forward")) (hB : WBackOk (C "way_back")) (hL : LossOk (C "loss_slopes")) (hA : AddSOk (C "added_slopes")) : PorOk (zFun 2 7 (nPor ats C)) := fun M w p ws ks d xs h hd hx => by
  obtain ⟨e3, e4, e5, e6, q⟩ := por_loop ha hW hB hL hA (M := M) h hd hx
  exact por_seq (hN M w p ws ks h) q
/-! batches -/
def batS (p : Int) (w : Nat) (ws : List Mat) (ks : List Bool) (bs : List (List (Vec × Vec))) : List Mat := bs.foldl (fun acc xs => addS p acc (porS p w ws ks xs)) (zeroS ws.length w)
def bsBody (C : Str → Sem1) : ZS := (zSeq (zFrz [] (zSet 2 (zCall (C "added_slopes") 3 0 [0, 1, 2] [] (sCons (zSv 0) (sCons (zSv 2) (sCons (zVl (zCall (C "portion_slopes") 2 0 [0, 1] [] (sCons (zSv 0) (sCons (zSv 3) sNil)) sNil)) sNil))) sNil)))
      zNx)
def nBat (C : Str → Sem1) : ZS :=
  (zSeq (zFrz [] (zSet 2 (zCall (C "no_slopes") 1 0 [0] [] (sCons (zSv 0) sNil) sNil)))
      (zSeq (zFrz [] (zFor (zSeqI (zBv 1)) (tgN 3) (bsBody C)))
      (zSeq (zFrz [] (zRet (zVar 2)))
      zNx)))
abbrev BatD : D → List (List (Vec × Vec)) → Prop := SeqD PorD
def BxOk (w : Nat) (bs : List (List (Vec × Vec))) : Prop := ∀ xs ∈ bs, ∀ x ∈ xs, x.1.length = w ∧ x.2.length = w
def BatOk (f : Sem1) : Prop := ∀ M w p ws ks d bs, NetS w p ws ks → BatD d bs → BxOk w bs → f [.val (netO p ws ks), .val d] M = .ok (wsD (batS p w ws ks bs)) M
theorem porS_ok {w : Nat} {p : Int} {ws : List Mat} {ks : List Bool} (h : NetS w p ws ks) {xs : List (Vec × Vec)} (hx : ∀ x ∈ xs, x.1.length = w ∧ x.2.length = w) : SlOk w ws.length p (porS p w ws ks xs) :=
  foldS_ok h.p0 (fun y hy => exmS_ok h (hx y hy).1 (hx y hy).2) (zeroS_ok h.p0)
theorem batS_ok {w : Nat} {p : Int} {ws : List Mat} {ks : List Bool} (h : NetS w p ws ks) {bs : List (List (Vec × Vec))} (hx : BxOk w bs) : SlOk w ws.length p (batS p w ws ks bs) :=
  foldS_ok h.p0 (fun y hy => porS_ok h (hx y hy)) (zeroS_ok h.p0)
theorem bat_loop {C : Str → Sem1} (hP : PorOk (C "portion_slopes")) (hA : AddSOk (C "added_slopes")) {M : Sto} {w : Nat} {p : Int} {ws : List Mat} {ks : List Bool} (h : NetS w p ws ks) {d : D} {bs : List (List (Vec × Vec))} (hd : BatD d bs) (hx : BxOk w bs) :
    ∃ e3, zFor (zSeqI (zBv 1)) (tgN 3) (bsBody C) [.val (netO p ws ks), .val d, .val (wsD (zeroS ws.length w)), .no] M = .nx [.val (netO p ws ks), .val d, .val (wsD (batS p w ws ks bs)), e3] M := by
  obtain ⟨ds, hi, he⟩ := hd
  have hz : zSeqI (zBv 1) [.val (netO p ws ks), .val d, .val (wsD (zeroS ws.length w)), .no] M = .ok ds M := by simp only [zSeq_z, zFrz_z, zSet_z, zSetO_z, zRet_z, zDrop_z, zIfS_z, zTst_z, zTru_z, zNot_z, zAnd_z, zOr_z, zAndV_z, zNotV_z, zIf_z, zOp_z, zBf_z, zCons_z, zNil_z, zCall_z, sCons_z, sNil_z, zSv_z, zVl_z, zCv_z, zBv_z, zVar_z, zK_z, zNeg_z, zTup_z, zLst_z, zTupOf_z, zLstOf_z, zLen_z, zAt_z, zProp_z, zApp_z, zAugN_z, zSeqI_z, zRng1_z, zRng2_z, zAsg_z, zPart_z, zNoP_z, getPl, setPl, wipeE, List.getElem?_cons_succ, List.getElem?_cons_zero, List.set_cons_succ, List.set_cons_zero, Res.bind_ok, Res.toS_ok, callR1, callR2, callR3, callR0_4, callRk1, callRk2, callRk3', callRk4', List.length_cons, List.length_nil, Nat.zero_add, Nat.reduceAdd, sz1, sz2, sz3, if_true, if_false, Bool.false_eq_true, Bool.not_true, Bool.not_false, zNx_z, zBk_z, zCt_z, itemsD_lst, itemsD_tup, deref_bl, deref_int, deref_str, deref_tup, deref_lst, Option.bind_some, truD, gAdd_int, gSub_int, gMul_int, gMod_int, gCmpI_int, gEq_int, gInt_int, lenR_lst, lenR_blst, lenR_tup, decide_true, decide_false, true_or, or_true, List.map_cons, List.map_nil, hi]
  have hb : ∀ (c : D) (xs : List (Vec × Vec)) (acc : List Mat), PorD c xs → (∀ x ∈ xs, x.1.length = w ∧ x.2.length = w) → SlOk w ws.length p acc → bsBody C [.val (netO p ws ks), .val d, .val (wsD acc), .val c] M = .nx [.val (netO p ws ks), .val d, .val (wsD (addS p acc (porS p w ws ks xs))), .val c] M := fun c xs acc hc hxs hacc => by
    have q1 := hP M w p ws ks c xs h hc hxs
    have sm := hacc.small (by have := h.n6; omega) (by have := h.w3; omega)
    have q2 := hA M w p ws ks acc (porS p w ws ks xs) h sm.1 sm.2
    simp only [zSeq_z, zFrz_z, zSet_z, zSetO_z, zRet_z, zDrop_z, zIfS_z, zTst_z, zTru_z, zNot_z, zAnd_z, zOr_z, zAndV_z, zNotV_z, zIf_z, zOp_z, zBf_z, zCons_z, zNil_z, zCall_z, sCons_z, sNil_z, zSv_z, zVl_z, zCv_z, zBv_z, zVar_z, zK_z, zNeg_z, zTup_z, zLst_z, zTupOf_z, zLstOf_z, zLen_z, zAt_z, zProp_z, zApp_z, zAugN_z, zSeqI_z, zRng1_z, zRng2_z, zAsg_z, zPart_z, zNoP_z, getPl, setPl, wipeE, List.getElem?_cons_succ, List.getElem?_cons_zero, List.set_cons_succ, List.set_cons_zero, Res.bind_ok, Res.toS_ok, callR1, callR2, callR3, callR0_4, callRk1, callRk2, callRk3', callRk4', List.length_cons, List.length_nil, Nat.zero_add, Nat.reduceAdd, sz1, sz2, sz3, if_true, if_false, Bool.false_eq_true, Bool.not_true, Bool.not_false, zNx_z, zBk_z, zCt_z, itemsD_lst, itemsD_tup, deref_bl, deref_int, deref_str, deref_tup, deref_lst, Option.bind_some, truD, gAdd_int, gSub_int, gMul_int, gMod_int, gCmpI_int, gEq_int, gInt_int, lenR_lst, lenR_blst, lenR_tup, decide_true, decide_false, true_or, or_true, List.map_cons, List.map_nil, bsBody, q1, q2]
  generalize bsBody C = y at hb
  refine zFor_gen (I := fun i env M' => ∃ e3, env = [.val (netO p ws ks), .val d, .val (wsD (batS p w ws ks (bs.take i))), e3] ∧ M' = M)
    (Q := fun o => ∃ e3, o = .nx [.val (netO p ws ks), .val d, .val (wsD (batS p w ws ks bs)), e3] M) hz ⟨.no, rfl, rfl⟩ (fun i c env M' hc hI => ?_) fun env M' hI => ?_
  · obtain ⟨e3, rfl, rfl⟩ := hI
    obtain ⟨xs, q, hp⟩ := he.at hc
    have ok : SlOk w ws.length p (batS p w ws ks (bs.take i)) := batS_ok h fun ys hy => hx ys (List.mem_of_mem_take hy)
    have t := hb c xs _ hp (hx xs (List.mem_of_getElem? q)) ok
    refine ⟨_, rfl, ?_⟩
    simp only [List.set_cons_succ, List.set_cons_zero]
    rw [t]
    refine ⟨.val c, ?_, rfl⟩
    have e : batS p w ws ks (bs.take (i + 1)) = addS p (batS p w ws ks (bs.take i)) (porS p w ws ks xs) := by
      unfold batS
      rw [take_snoc q, List.foldl_append]
      rfl
    rw [e]
  · obtain ⟨e3, rfl, rfl⟩ := hI
    exact ⟨e3, by rw [he.1, List.take_of_length_le (Nat.le_refl _)]⟩
theorem bat_seq {N : Sem1} {y : ZS} {a b c d : D} {e3 : Sl} {M : Sto} (hn : N [.val a] M = .ok c M) (hy : y [.val a, .val b, .val c, .no] M = .nx [.val a, .val b, .val d, e3] M) :
    zFun 2 4 (zSeq (zFrz [] (zSet 2 (zCall N 1 0 [0] [] (sCons (zSv 0) sNil) sNil))) (zSeq (zFrz [] y) (zSeq (zFrz [] (zRet (zVar 2))) zNx))) [.val a, .val b] M = .ok d M := by
  unfold zFun
  simp [hn, hy]
theorem batOk {C : Str → Sem1} (hN : NoOk (C "no_slopes")) (hP : PorOk (C "portion_slopes")) (hA : AddSOk (C "added_slopes")) : BatOk (zFun 2 4 (nBat C)) := fun M w p ws ks d bs h hd hx => by
  obtain ⟨e3, q⟩ := bat_loop hP hA (M := M) h hd hx
  exact bat_seq (hN M w p ws ks h) q
/-! changes -/
def chgM (p r : Int) (a b : Mat) : Mat := List.zipWith (List.zipWith fun x y => (x - r * y) % p) a b
def chgS (p r : Int) (a b : List Mat) : List Mat := List.zipWith (chgM p r) a b
theorem chgM_ok {p r : Int} (hp : 0 < p) {w : Nat} {a b : Mat} (ha : MatOk w p a) (hb : b.length = w ∧ ∀ x ∈ b, x.length = w) : MatOk w p (chgM p r a b) := by
  refine ⟨by simp [chgM, ha.1, hb.1], fun q hq => ?_⟩
  unfold chgM at hq
  rw [← List.map_uncurry_zip_eq_zipWith] at hq
  obtain ⟨⟨x, y⟩, hxy, rfl⟩ := List.mem_map.mp hq
  have := List.of_mem_zip hxy
  refine ⟨?_, Lt.zip hp _ _ _⟩
  show (List.zipWith _ x y).length = w
  rw [List.length_zipWith, (ha.2 x this.1).1, hb.2 y this.2, Nat.min_self]
theorem chg_net {w : Nat} {p r : Int} {ws : List Mat} {ks : List Bool} (h : NetS w p ws ks) {b : List Mat} (hb : SlOk w ws.length p b) : NetS w p (chgS p r ws b) ks := by
  have hl : (chgS p r ws b).length = ws.length := by simp [chgS, hb.1]
  refine ⟨h.hp, h.w1, h.w3, by rw [hl]; exact h.n1, by rw [hl]; exact h.n6, by rw [hl]; exact h.kl, fun m hm => ?_⟩
  unfold chgS at hm
  rw [← List.map_uncurry_zip_eq_zipWith] at hm
  obtain ⟨⟨x, y⟩, hxy, rfl⟩ := List.mem_map.mp hm
  have := List.of_mem_zip hxy
  have hy := hb.2 y this.2
  exact chgM_ok h.p0 (h.ms x this.1) ⟨hy.1, fun z hz => (hy.2 z hz).1⟩
def nChgM : ZS := (zSeq (zFrz [] (zRet (zTupOf (zLc (zZip (zBv 1) (zBv 2)) (tgT [4, 5]) (fun _ M => .ok true M) (zTupOf (zLc (zZip (zBv 4) (zBv 5)) (tgT [6, 7]) (fun _ M => .ok true M) (zOp gMod (zOp gSub (zCv 6) (zOp gMul (zCv 3) (zCv 7))) (zCv 0)) [6, 7])) [4, 5])))) zNx)
def ChgMOk (f : Sem1) : Prop := ∀ M (p r : Int) a b, 0 < p → smallI r → a.length ≤ 1000 → (∀ x ∈ a, x.length ≤ 1000) → f [.val (.int p), .val (matD a), .val (matD b), .val (.int r)] M = .ok (matD (chgM p r a b)) M
theorem chgMOk : ChgMOk (zFun 4 8 nChgM) := fun M p r a b hp hs hl hr => by
  have l := lcZip (env := [.val (.int p), .val (matD a), .val (matD b), .val (.int r), .no, .no, .no, .no]) (M := M) (za := zBv 1) (zb := zBv 2) (ze := zTupOf (zLc (zZip (zBv 4) (zBv 5)) (tgT [6, 7]) (fun _ M => .ok true M) (zOp gMod (zOp gSub (zCv 6) (zOp gMul (zCv 3) (zCv 7))) (zCv 0)) [6, 7])) (vs := [4, 5]) (i := 4) (j := 5) (d := matD a) (e := matD b) (r := a) (v := b) (ga := rowD) (gb := rowD)
    (fun x y => rowD (List.zipWith (fun x y => (x - r * y) % p) x y)) (by simp) (by simp) rfl rfl rfl hl
    fun x hx y _ => by
      have c := lcZip (env := [.val (.int p), .val (matD a), .val (matD b), .val (.int r), .val (rowD x), .val (rowD y), .no, .no]) (M := M) (za := zBv 4) (zb := zBv 5) (ze := zOp gMod (zOp gSub (zCv 6) (zOp gMul (zCv 3) (zCv 7))) (zCv 0)) (vs := [6, 7]) (i := 6) (j := 7) (d := rowD x) (e := rowD y) (r := x) (v := y) (ga := D.int) (gb := D.int) (fun x y => .int ((x - r * y) % p)) (by simp) (by simp) rfl rfl rfl (hr x hx)
        fun x _ y _ => by simp only [zSeq_z, zFrz_z, zSet_z, zSetO_z, zRet_z, zDrop_z, zIfS_z, zTst_z, zTru_z, zNot_z, zAnd_z, zOr_z, zAndV_z, zNotV_z, zIf_z, zOp_z, zBf_z, zCons_z, zNil_z, zCall_z, sCons_z, sNil_z, zSv_z, zVl_z, zCv_z, zBv_z, zVar_z, zK_z, zNeg_z, zTup_z, zLst_z, zTupOf_z, zLstOf_z, zLen_z, zAt_z, zProp_z, zApp_z, zAugN_z, zSeqI_z, zRng1_z, zRng2_z, zAsg_z, zPart_z, zNoP_z, getPl, setPl, wipeE, List.getElem?_cons_succ, List.getElem?_cons_zero, List.set_cons_succ, List.set_cons_zero, Res.bind_ok, Res.toS_ok, callR1, callR2, callR3, callR0_4, callRk1, callRk2, callRk3', callRk4', List.length_cons, List.length_nil, Nat.zero_add, Nat.reduceAdd, sz1, sz2, sz3, if_true, if_false, Bool.false_eq_true, Bool.not_true, Bool.not_false, zNx_z, zBk_z, zCt_z, itemsD_lst, itemsD_tup, deref_bl, deref_int, deref_str, deref_tup, deref_lst, Option.bind_some, truD, gAdd_int, gSub_int, gMul_int, gMod_int, gCmpI_int, gEq_int, gInt_int, lenR_lst, lenR_blst, lenR_tup, decide_true, decide_false, true_or, or_true, List.map_cons, List.map_nil, hp, hs]
      have er : rowD (List.zipWith (fun x y => (x - r * y) % p) x y) = .tup (List.zipWith (fun x y => .int ((x - r * y) % p)) x y) := by unfold rowD; rw [zipWith_int]
      rw [er]
      simp only [zSeq_z, zFrz_z, zSet_z, zSetO_z, zRet_z, zDrop_z, zIfS_z, zTst_z, zTru_z, zNot_z, zAnd_z, zOr_z, zAndV_z, zNotV_z, zIf_z, zOp_z, zBf_z, zCons_z, zNil_z, zCall_z, sCons_z, sNil_z, zSv_z, zVl_z, zCv_z, zBv_z, zVar_z, zK_z, zNeg_z, zTup_z, zLst_z, zTupOf_z, zLstOf_z, zLen_z, zAt_z, zProp_z, zApp_z, zAugN_z, zSeqI_z, zRng1_z, zRng2_z, zAsg_z, zPart_z, zNoP_z, getPl, setPl, wipeE, List.getElem?_cons_succ, List.getElem?_cons_zero, List.set_cons_succ, List.set_cons_zero, Res.bind_ok, Res.toS_ok, callR1, callR2, callR3, callR0_4, callRk1, callRk2, callRk3', callRk4', List.length_cons, List.length_nil, Nat.zero_add, Nat.reduceAdd, sz1, sz2, sz3, if_true, if_false, Bool.false_eq_true, Bool.not_true, Bool.not_false, zNx_z, zBk_z, zCt_z, itemsD_lst, itemsD_tup, deref_bl, deref_int, deref_str, deref_tup, deref_lst, Option.bind_some, truD, gAdd_int, gSub_int, gMul_int, gMod_int, gCmpI_int, gEq_int, gInt_int, lenR_lst, lenR_blst, lenR_tup, decide_true, decide_false, true_or, or_true, List.map_cons, List.map_nil, c]
  have e1 : matD (chgM p r a b) = .tup (List.zipWith (fun x y => rowD (List.zipWith (fun x y => (x - r * y) % p) x y)) a b) := by
    unfold matD chgM
    rw [List.map_zipWith]
  rw [e1]
  exact ret_seq rfl l
def chgZ (ats : Ats) (C : Str → Sem1) : ZX := zLc (zZip (zAt ats "weights" (zCv 0)) (zBv 1)) (tgT [4, 5]) (fun _ M => .ok true M) (zCall (C "_changed_matrix") 4 0 [0, 1, 2, 3] [] (sCons (zVl (zAt ats "prime" (zCv 0))) (sCons (zSv 4) (sCons (zSv 5) (sCons (zSv 2) sNil)))) sNil) [4, 5]
def chgN (ats : Ats) (C : Str → Sem1) : ZX := zMake "Net" (C "Net.__init__") 3 0 [0, 1, 2, 3] [] (sCons (zVl (zAt ats "prime" (zCv 0))) (sCons (zSv 3) (sCons (zVl (zAt ats "kinds" (zCv 0))) sNil))) sNil
def nChg (ats : Ats) (C : Str → Sem1) : ZS :=
  (zSeq (zFrz [] (zSet 3 (chgZ ats C)))
      (zSeq (zFrz [] (zRet (chgN ats C)))
      zNx))
def ChgOk (f : Sem1) : Prop := ∀ (M : Sto) w p ws ks (r : Int) b, NetS w p ws ks → SlOk w ws.length p b → smallI r → M.all (lowD M.length) = true → f [.val (netO p ws ks), .val (wsD b), .val (.int r)] M = .ok (netO p (chgS p r ws b) ks) M
theorem chg_seq {z1 z2 : ZX} {a b c d e : D} {M : Sto} (h1 : z1 [.val a, .val b, .val c, .no, .no, .no] M = .ok d M) (h2 : z2 [.val a, .val b, .val c, .val d, .no, .no] M = .ok e M) :
    zFun 3 6 (zSeq (zFrz [] (zSet 3 z1)) (zSeq (zFrz [] (zRet z2)) zNx)) [.val a, .val b, .val c] M = .ok e M := by
  unfold zFun
  simp [h1, h2]
theorem chgOk {ats : Ats} (ha : NetAts ats) {C : Str → Sem1} (hM : ChgMOk (C "_changed_matrix")) (hI : InitOk (C "Net.__init__")) : ChgOk (zFun 3 6 (nChg ats C)) := fun M w p ws ks r b h hb hr hlow => by
  have w3 := h.w3
  have l := lcZip (env := [.val (netO p ws ks), .val (wsD b), .val (.int r), .no, .no, .no]) (M := M) (za := zAt ats "weights" (zCv 0)) (zb := zBv 1) (ze := zCall (C "_changed_matrix") 4 0 [0, 1, 2, 3] [] (sCons (zVl (zAt ats "prime" (zCv 0))) (sCons (zSv 4) (sCons (zSv 5) (sCons (zSv 2) sNil)))) sNil) (vs := [4, 5]) (i := 4) (j := 5) (d := wsD ws) (e := wsD b) (r := ws) (v := b) (ga := matD) (gb := matD)
    (fun x y => matD (chgM p r x y)) (by simp only [zSeq_z, zFrz_z, zSet_z, zSetO_z, zRet_z, zDrop_z, zIfS_z, zTst_z, zTru_z, zNot_z, zAnd_z, zOr_z, zAndV_z, zNotV_z, zIf_z, zOp_z, zBf_z, zCons_z, zNil_z, zCall_z, sCons_z, sNil_z, zSv_z, zVl_z, zCv_z, zBv_z, zVar_z, zK_z, zNeg_z, zTup_z, zLst_z, zTupOf_z, zLstOf_z, zLen_z, zAt_z, zProp_z, zApp_z, zAugN_z, zSeqI_z, zRng1_z, zRng2_z, zAsg_z, zPart_z, zNoP_z, getPl, setPl, wipeE, List.getElem?_cons_succ, List.getElem?_cons_zero, List.set_cons_succ, List.set_cons_zero, Res.bind_ok, Res.toS_ok, callR1, callR2, callR3, callR0_4, callRk1, callRk2, callRk3', callRk4', List.length_cons, List.length_nil, Nat.zero_add, Nat.reduceAdd, sz1, sz2, sz3, if_true, if_false, Bool.false_eq_true, Bool.not_true, Bool.not_false, zNx_z, zBk_z, zCt_z, itemsD_lst, itemsD_tup, deref_bl, deref_int, deref_str, deref_tup, deref_lst, Option.bind_some, truD, gAdd_int, gSub_int, gMul_int, gMod_int, gCmpI_int, gEq_int, gInt_int, lenR_lst, lenR_blst, lenR_tup, decide_true, decide_false, true_or, or_true, List.map_cons, List.map_nil, at_weights ha]) (by simp) rfl rfl rfl (by have := h.n6; omega)
    fun x hx y _ => by
      have mo := h.ms x hx
      have c := hM M p r x y h.p0 hr (by rw [mo.1]; omega) fun z hz => by rw [(mo.2 z hz).1]; omega
      have c' : callR (C "_changed_matrix") 4 0 [0, 1, 2, 3] [] [.val (.int p), .val (matD x), .val (matD y), .val (.int r)] [] M = .ok (matD (chgM p r x y)) M := c
      simp only [zSeq_z, zFrz_z, zSet_z, zSetO_z, zRet_z, zDrop_z, zIfS_z, zTst_z, zTru_z, zNot_z, zAnd_z, zOr_z, zAndV_z, zNotV_z, zIf_z, zOp_z, zBf_z, zCons_z, zNil_z, zCall_z, sCons_z, sNil_z, zSv_z, zVl_z, zCv_z, zBv_z, zVar_z, zK_z, zNeg_z, zTup_z, zLst_z, zTupOf_z, zLstOf_z, zLen_z, zAt_z, zProp_z, zApp_z, zAugN_z, zSeqI_z, zRng1_z, zRng2_z, zAsg_z, zPart_z, zNoP_z, getPl, setPl, wipeE, List.getElem?_cons_succ, List.getElem?_cons_zero, List.set_cons_succ, List.set_cons_zero, Res.bind_ok, Res.toS_ok, callR1, callR2, callR3, callR0_4, callRk1, callRk2, callRk3', callRk4', List.length_cons, List.length_nil, Nat.zero_add, Nat.reduceAdd, sz1, sz2, sz3, if_true, if_false, Bool.false_eq_true, Bool.not_true, Bool.not_false, zNx_z, zBk_z, zCt_z, itemsD_lst, itemsD_tup, deref_bl, deref_int, deref_str, deref_tup, deref_lst, Option.bind_some, truD, gAdd_int, gSub_int, gMul_int, gMod_int, gCmpI_int, gEq_int, gInt_int, lenR_lst, lenR_blst, lenR_tup, decide_true, decide_false, true_or, or_true, List.map_cons, List.map_nil, at_prime ha, c']
  have e1 : (chgS p r ws b).map matD = List.zipWith (fun x y => matD (chgM p r x y)) ws b := by
    unfold chgS
    rw [List.map_zipWith]
  rw [← e1] at l
  refine chg_seq l ?_
  have mk := make_net (f := C "Net.__init__") hI hlow (chg_net (r := r) h hb) (dw := .lst ((chgS p r ws b).map matD)) (dk := .tup (ks.map kD)) (.inr rfl) (.inl rfl)
  simp only [chgN, zMake_z, sCons_z, sNil_z, zVl_z, zSv_z, zAt_z, zCv_z, List.getElem?_cons_succ, List.getElem?_cons_zero, Res.bind_ok, at_prime ha, at_kinds ha]
  exact mk
def nTrain (C : Str → Sem1) : ZS :=
  (zSeq (zFrz [] (zRet (zCall (C "changed") 3 0 [0, 1, 2] [] (sCons (zSv 0) (sCons (zVl (zCall (C "batch_slopes") 2 0 [0, 1] [] (sCons (zSv 0) (sCons (zSv 1) sNil)) sNil)) (sCons (zSv 2) sNil))) sNil)))
      zNx)
def TrainOk (f : Sem1) : Prop := ∀ (M : Sto) w p ws ks d bs (r : Int), NetS w p ws ks → BatD d bs → BxOk w bs → smallI r → M.all (lowD M.length) = true → f [.val (netO p ws ks), .val d, .val (.int r)] M = .ok (netO p (chgS p r ws (batS p w ws ks bs)) ks) M
theorem trainOk {C : Str → Sem1} (hC : ChgOk (C "changed")) (hB : BatOk (C "batch_slopes")) : TrainOk (zFun 3 3 (nTrain C)) := fun M w p ws ks d bs r h hd hx hr hlow => by
  have q1 := hB M w p ws ks d bs h hd hx
  have q2 := hC M w p ws ks r _ h (batS_ok h hx) hr hlow
  unfold zFun
  simp [nTrain, q1, q2]
end Zy
set_option maxHeartbeats 2000000
namespace Zy
open PySem PySem.Spec PyProof.Rows L2
/-! entries of slopes -/
def entS (S : List Mat) (l i j : Nat) : Int := ((S.getD l []).getD i []).getD j 0
def ShS (w n : Nat) (S : List Mat) : Prop := S.length = n ∧ ∀ m ∈ S, m.length = w ∧ ∀ r ∈ m, r.length = w
theorem SlOk.sh {w n : Nat} {p : Int} {S : List Mat} (h : SlOk w n p S) : ShS w n S := ⟨h.1, fun m hm => ⟨(h.2 m hm).1, fun r hr => ((h.2 m hm).2 r hr).1⟩⟩
theorem zw_getD {α β γ : Type} {f : α → β → γ} {a : List α} {b : List β} {da : α} {db : β} {dc : γ} (h : a.length = b.length) (hd : f da db = dc) (i : Nat) : (List.zipWith f a b).getD i dc = f (a.getD i da) (b.getD i db) := by
  by_cases hi : i < a.length
  · have hb : i < b.length := by omega
    have hz : i < (List.zipWith f a b).length := by rw [List.length_zipWith]; omega
    simp [List.getD, List.getElem?_eq_getElem hi, List.getElem?_eq_getElem hb, List.getElem?_eq_getElem hz]
  · have hb : ¬ i < b.length := by omega
    have hz : (List.zipWith f a b).length ≤ i := by rw [List.length_zipWith]; omega
    simp [List.getD, List.getElem?_eq_none (show a.length ≤ i by omega), List.getElem?_eq_none (show b.length ≤ i by omega), List.getElem?_eq_none hz, hd]
def plusS (a b : List Mat) : List Mat := List.zipWith (List.zipWith (List.zipWith fun x y => x + y)) a b
theorem ShS.row {w n : Nat} {S : List Mat} (h : ShS w n S) (l : Nat) : (l < n → (S.getD l []).length = w) ∧ (¬ l < n → S.getD l [] = []) ∧ ∀ i, (l < n → i < w → ((S.getD l []).getD i []).length = w) ∧ (¬ i < w → (S.getD l []).getD i [] = []) := by
  have hn : ¬ l < n → S.getD l [] = [] := fun hl => by simp [List.getD, List.getElem?_eq_none (show S.length ≤ l by rw [h.1]; omega)]
  have hy : l < n → (S.getD l []) ∈ S := fun hl => by
    have hl' : l < S.length := by rw [h.1]; exact hl
    simp only [List.getD, List.getElem?_eq_getElem hl', Option.getD_some]
    exact List.getElem_mem hl'
  refine ⟨fun hl => (h.2 _ (hy hl)).1, hn, fun i => ⟨fun hl hi => ?_, fun hi => ?_⟩⟩
  · obtain ⟨h1, h2⟩ := h.2 _ (hy hl)
    generalize S.getD l [] = m at h1 h2
    have hi' : i < m.length := by omega
    refine h2 _ ?_
    simp only [List.getD, List.getElem?_eq_getElem hi', Option.getD_some]
    exact List.getElem_mem hi'
  · by_cases hl : l < n
    · obtain ⟨h1, h2⟩ := h.2 _ (hy hl)
      generalize S.getD l [] = m at h1 h2
      simp [List.getD, List.getElem?_eq_none (show m.length ≤ i by omega)]
    · rw [hn hl]
      simp
theorem ShS.eqlen {w n : Nat} {a b : List Mat} (ha : ShS w n a) (hb : ShS w n b) (l : Nat) : (a.getD l []).length = (b.getD l []).length ∧ ∀ i, ((a.getD l []).getD i []).length = ((b.getD l []).getD i []).length := by
  have ra := ha.row l
  have rb := hb.row l
  by_cases hl : l < n
  · refine ⟨by rw [ra.1 hl, rb.1 hl], fun i => ?_⟩
    by_cases hi : i < w
    · rw [(ra.2.2 i).1 hl hi, (rb.2.2 i).1 hl hi]
    · rw [(ra.2.2 i).2 hi, (rb.2.2 i).2 hi]
  · rw [ra.2.1 hl, rb.2.1 hl]
    exact ⟨rfl, fun i => rfl⟩
theorem ent_plus {w n : Nat} {a b : List Mat} (ha : ShS w n a) (hb : ShS w n b) (l i j : Nat) : entS (plusS a b) l i j = entS a l i j + entS b l i j := by
  obtain ⟨e1, e2⟩ := ha.eqlen hb l
  unfold entS plusS
  rw [zw_getD (da := []) (db := []) (dc := []) (by rw [ha.1, hb.1]) rfl, zw_getD (da := []) (db := []) (dc := []) e1 rfl, zw_getD (da := 0) (db := 0) (dc := 0) (e2 i) rfl]
theorem ent_add {w n : Nat} {p : Int} {a b : List Mat} (ha : ShS w n a) (hb : ShS w n b) (l i j : Nat) : entS (addS p a b) l i j = (entS a l i j + entS b l i j) % p := by
  obtain ⟨e1, e2⟩ := ha.eqlen hb l
  unfold entS addS addM
  rw [zw_getD (da := []) (db := []) (dc := []) (by rw [ha.1, hb.1]) rfl, zw_getD (da := []) (db := []) (dc := []) e1 rfl, zw_getD (da := 0) (db := 0) (dc := 0) (e2 i) (by simp)]
theorem ShS.zip {w n : Nat} {f : Int → Int → Int} {a b : List Mat} (ha : ShS w n a) (hb : ShS w n b) : ShS w n (List.zipWith (List.zipWith (List.zipWith f)) a b) := by
  refine ⟨by simp [ha.1, hb.1], fun m hm => ?_⟩
  rw [← List.map_uncurry_zip_eq_zipWith] at hm
  obtain ⟨⟨x, y⟩, hxy, rfl⟩ := List.mem_map.mp hm
  have hm := List.of_mem_zip hxy
  have hx := ha.2 x hm.1
  have hy := hb.2 y hm.2
  refine ⟨?_, fun r hr => ?_⟩
  · show (List.zipWith _ x y).length = w
    simp [hx.1, hy.1]
  · have hr : r ∈ List.zipWith (List.zipWith f) x y := hr
    rw [← List.map_uncurry_zip_eq_zipWith] at hr
    obtain ⟨⟨u, v⟩, huv, rfl⟩ := List.mem_map.mp hr
    have hr := List.of_mem_zip huv
    show (List.zipWith f u v).length = w
    simp [hx.2 u hr.1, hy.2 v hr.2]
theorem plusS_sh {w n : Nat} {a b : List Mat} (ha : ShS w n a) (hb : ShS w n b) : ShS w n (plusS a b) := ha.zip hb
theorem zero_ent {n w l i j : Nat} : entS (zeroS n w) l i j = 0 := by
  have rep : ∀ {α : Type} (k t : Nat) (x d : α), (List.replicate k x).getD t d = x ∨ (List.replicate k x).getD t d = d := fun k t x d => by
    by_cases ht : t < k
    · exact .inl (by simp [List.getD, List.getElem?_replicate, ht])
    · exact .inr (by simp [List.getD, List.getElem?_replicate, ht])
  unfold entS zeroS
  rcases rep n l (List.replicate w (List.replicate w (0 : Int))) [] with e | e <;> rw [e]
  · rcases rep w i (List.replicate w (0 : Int)) [] with e | e <;> rw [e]
    · rcases rep w j (0 : Int) 0 with e | e <;> rw [e]
    · rfl
  · rfl
theorem zeroS_sh {n w : Nat} : ShS w n (zeroS n w) := (zeroS_ok (p := 1) (by decide)).sh
def sumE {α : Type} (g : α → List Mat) (l i j : Nat) (xs : List α) : Int := (xs.map fun x => entS (g x) l i j).sum
theorem fold_plus {w n : Nat} {α : Type} {g : α → List Mat} {l i j : Nat} : ∀ {xs : List α} {acc : List Mat}, (∀ x ∈ xs, ShS w n (g x)) → ShS w n acc → ShS w n (xs.foldl (fun acc x => plusS acc (g x)) acc) ∧ entS (xs.foldl (fun acc x => plusS acc (g x)) acc) l i j = entS acc l i j + sumE g l i j xs
  | [], acc, _, ha => ⟨ha, by simp [sumE]⟩
  | x :: xs, acc, h, ha => by
    have hx := h x (List.mem_cons_self ..)
    obtain ⟨h1, h2⟩ := fold_plus (l := l) (i := i) (j := j) (xs := xs) (acc := plusS acc (g x)) (fun y hy => h y (List.mem_cons_of_mem _ hy)) (plusS_sh ha hx)
    refine ⟨h1, ?_⟩
    rw [List.foldl_cons, h2, ent_plus ha hx]
    simp only [sumE, List.map_cons, List.sum_cons]
    omega
theorem mod_add {a b c p : Int} (h : a % p = b % p) : (a + c) % p = (b + c) % p := by rw [Int.add_emod, h, ← Int.add_emod]
theorem mod_add2 {a b c d p : Int} (h : a % p = b % p) (k : c % p = d % p) : (a + c) % p = (b + d) % p := by rw [Int.add_emod, h, k, ← Int.add_emod]
theorem fold_add {w n : Nat} {p : Int} (hp : 0 < p) {α : Type} {g : α → List Mat} {e : α → Int} {l i j : Nat} : ∀ {xs : List α} {acc : List Mat}, (∀ x ∈ xs, SlOk w n p (g x) ∧ entS (g x) l i j % p = e x % p) → SlOk w n p acc → entS (xs.foldl (fun acc x => addS p acc (g x)) acc) l i j % p = (entS acc l i j + (xs.map e).sum) % p
  | [], acc, _, ha => by simp
  | x :: xs, acc, h, ha => by
    have hx := h x (List.mem_cons_self ..)
    have h2 := fold_add hp (e := e) (l := l) (i := i) (j := j) (xs := xs) (acc := addS p acc (g x)) (fun y hy => h y (List.mem_cons_of_mem _ hy)) (addS_ok hp ha hx.1)
    rw [List.foldl_cons, h2, List.map_cons, List.sum_cons, ent_add ha.sh hx.1.sh]
    have : ((entS acc l i j + entS (g x) l i j) % p) % p = (entS acc l i j + e x) % p := by
      rw [Int.emod_emod]
      exact mod_add2 rfl hx.2
    rw [mod_add this, Int.add_assoc]
theorem porS_ent {w : Nat} {p : Int} {ws : List Mat} {ks : List Bool} (h : NetS w p ws ks) {xs : List (Vec × Vec)} (hx : ∀ x ∈ xs, x.1.length = w ∧ x.2.length = w) (l i j : Nat) : entS (porS p w ws ks xs) l i j % p = sumE (exmS p w ws ks) l i j xs % p := by
  have := fold_add (w := w) (n := ws.length) (p := p) h.p0 (g := exmS p w ws ks) (e := fun x => entS (exmS p w ws ks x) l i j) (l := l) (i := i) (j := j) (xs := xs) (acc := zeroS ws.length w) (fun x m => ⟨exmS_ok h (hx x m).1 (hx x m).2, rfl⟩) (zeroS_ok h.p0)
  unfold porS
  rw [this, zero_ent, Int.zero_add]
  rfl
theorem batS_ent {w : Nat} {p : Int} {ws : List Mat} {ks : List Bool} (h : NetS w p ws ks) {bs : List (List (Vec × Vec))} (hx : BxOk w bs) (l i j : Nat) : entS (batS p w ws ks bs) l i j % p = (bs.map (sumE (exmS p w ws ks) l i j)).sum % p := by
  have := fold_add (w := w) (n := ws.length) (p := p) h.p0 (g := porS p w ws ks) (e := sumE (exmS p w ws ks) l i j) (l := l) (i := i) (j := j) (xs := bs) (acc := zeroS ws.length w) (fun x m => ⟨porS_ok h (hx x m), porS_ent h (hx x m) l i j⟩) (zeroS_ok h.p0)
  unfold batS
  rw [this, zero_ent, Int.zero_add]
theorem ent_at {S : List Mat} {l i j : Nat} {m : Mat} {r : Vec} (h1 : S[l]? = some m) (h2 : m[i]? = some r) : entS S l i j = r.getD j 0 := by simp [entS, List.getD, h1, h2]
theorem zw_ext {α β : Type} {f : α → β → α} {a : List α} {b c : List β} (h : b.length = c.length) (hf : ∀ (i : Nat) x y z, a[i]? = some x → b[i]? = some y → c[i]? = some z → f x y = f x z) : List.zipWith f a b = List.zipWith f a c := by
  refine List.ext_getElem? fun i => ?_
  rw [List.getElem?_zipWith, List.getElem?_zipWith]
  cases ea : a[i]? with
  | none => rfl
  | some x =>
    cases eb : b[i]? with
    | none =>
      have : c[i]? = none := by rw [List.getElem?_eq_none_iff] at eb ⊢; omega
      rw [this]
    | some y =>
      cases ec : c[i]? with
      | none =>
        rw [List.getElem?_eq_none_iff] at ec
        rw [List.getElem?_eq_none (by omega)] at eb
        cases eb
      | some z => simp [hf i x y z ea eb ec]
theorem chg_cong {w n : Nat} {p r : Int} {ws a b : List Mat} (ha : ShS w n a) (hb : ShS w n b) (h : ∀ l i j, entS a l i j % p = entS b l i j % p) : chgS p r ws a = chgS p r ws b := by
  refine zw_ext (by rw [ha.1, hb.1]) fun l x y z _ hy hz => ?_
  have my := ha.2 y (List.mem_of_getElem? hy)
  have mz := hb.2 z (List.mem_of_getElem? hz)
  refine zw_ext (by rw [my.1, mz.1]) fun i x y' z' _ hy' hz' => ?_
  have ny := my.2 y' (List.mem_of_getElem? hy')
  have nz := mz.2 z' (List.mem_of_getElem? hz')
  refine zw_ext (by rw [ny, nz]) fun j x u v _ hu hv => ?_
  have e := h l i j
  rw [ent_at hy hy', ent_at hz hz'] at e
  simp only [List.getD, hu, hv, Option.getD_some] at e
  have k : (r * u) % p = (r * v) % p := by rw [Int.mul_emod, e, ← Int.mul_emod]
  rw [Int.sub_emod, k, ← Int.sub_emod]
theorem sum_rev (l : List Int) : l.reverse.sum = l.sum := by
  induction l with
  | nil => rfl
  | cons a l ih =>
    rw [List.reverse_cons, List.sum_append, ih, List.sum_cons]
    simp
    omega
theorem sum_flat {α : Type} (g : α → Int) : ∀ bs : List (List α), (bs.map fun xs => (xs.map g).sum).sum = (bs.flatten.map g).sum
  | [] => rfl
  | b :: bs => by rw [List.map_cons, List.sum_cons, sum_flat g bs, List.flatten_cons, List.map_append, List.sum_append]
theorem sum_ones {α : Type} (g : α → Int) (xs : List α) : ((xs.map fun x => [x]).map fun ys => (ys.map g).sum).sum = (xs.map g).sum := by
  rw [List.map_map]
  congr 1
  refine List.map_congr_left fun x _ => ?_
  simp
end Zy
set_option maxHeartbeats 2000000
namespace Zy
open PySem PySem.Spec PyProof.Rows L2
/-! the law's own portions, examples, sums and changes -/
theorem len_items {d : D} {ds : List D} {lf : Lens} {M : Sto} (h : itemsD d = some ds) : lenR lf (.val d) M = .ok (.int ds.length) M := by
  cases d <;> first | (cases h; done) | skip
  · cases h; exact lenR_tup
  · cases h; exact lenR_lst
  · cases h; rw [lenR_scr, List.length_map]
theorem ix_items {d c : D} {ds : List D} {k : Nat} {M : Sto} (h : itemsD d = some ds) (hc : ds[k]? = some c) : gIx d (.int (k : Nat)) M = .ok c M := gIx_of h hc (deref_items h)
def pairD (x : Vec × Vec) : D := .tup [rowD x.1, rowD x.2]
def portD (xs : List (Vec × Vec)) : D := .tup (xs.map pairD)
theorem pair_is (x : Vec × Vec) : PairD (pairD x) x := ⟨_, _, rfl, VecD.row _, VecD.row _⟩
theorem port_is (xs : List (Vec × Vec)) : PorD (portD xs) xs := ⟨_, rfl, EachD.map fun x _ => pair_is x⟩
def XOk (w : Nat) (p : Int) (x : Vec × Vec) : Prop := x.1.length = w ∧ x.2.length = w ∧ Lt p x.1 ∧ Lt p x.2
def lpoBody (V : Sem1) : ZS := (zSeq (zFrz [] (zApp 4 (zTup (zCons (zCall V 3 0 [0, 1, 2] [] (sCons (zSv 0) (sCons (zSv 1) (sCons (zSv 2) sNil))) sNil) (zCons (zCall V 3 0 [0, 1, 2] [] (sCons (zSv 0) (sCons (zSv 1) (sCons (zSv 2) sNil))) sNil) zNil)))))
      zNx)
def lPortion (C : Str → Sem1) : ZS :=
  (zSeq (zFrz [] (zSetO 4 (zLst zNil)))
      (zSeq (zFrz [] (zFor (zRng1 (zCons (zOp gAdd (zK (.int 1)) (zCall (C "_law_take") 2 0 [0, 1] [] (sCons (zSv 0) (sCons (zSv 3) sNil)) sNil)) zNil)) (tgN 5) (lpoBody (C "_law_vector"))))
      (zSeq (zFrz [] (zRet (zTupOf (zCv 4))))
      zNx)))
def LPorOk (f : Sem1) : Prop := ∀ M (p most : Int) (w : Nat), Hd M → 0 < p → w ≤ 1000 → 1 ≤ most → most ≤ 10 → ∃ (xs : List (Vec × Vec)) (M' : Sto), 1 ≤ xs.length ∧ (xs.length : Int) ≤ most ∧ (∀ x ∈ xs, XOk w p x) ∧ Hd M' ∧ f [.val (.ref 0), .val (.int p), .val (.int w), .val (.int most)] M = .ok (portD xs) M'
theorem lpor_loop {T V : Sem1} (hT : TakeOk T) (hV : LVecOk V) {M : Sto} {p most : Int} {w : Nat} (hM : Hd M) (hp : 0 < p) (hw : w ≤ 1000) (h1 : 1 ≤ most) (h10 : most ≤ 10) :
    ∃ (xs : List (Vec × Vec)) (e5 : Sl) (M' : Sto), 1 ≤ xs.length ∧ (xs.length : Int) ≤ most ∧ (∀ x ∈ xs, XOk w p x) ∧ Hd M' ∧ zFor (zRng1 (zCons (zOp gAdd (zK (.int 1)) (zCall T 2 0 [0, 1] [] (sCons (zSv 0) (sCons (zSv 3) sNil)) sNil)) zNil)) (tgN 5) (lpoBody V) [.val (.ref 0), .val (.int p), .val (.int w), .val (.int most), .own (.lst []), .no] M =
      .nx [.val (.ref 0), .val (.int p), .val (.int w), .val (.int most), .own (.lst (xs.map pairD)), e5] M' := by
  obtain ⟨n, M1, n0, n1, k1, t1⟩ := hT M most hM (by omega)
  have en : (1 : Int) + n = ((1 + n.toNat : Nat) : Int) := by omega
  have hz : zRng1 (zCons (zOp gAdd (zK (.int 1)) (zCall T 2 0 [0, 1] [] (sCons (zSv 0) (sCons (zSv 3) sNil)) sNil)) zNil) [.val (.ref 0), .val (.int p), .val (.int w), .val (.int most), .own (.lst []), .no] M = .ok (stpD 0 1 (1 + n.toNat)) M1 := by
    have := rngR_nat (M := M1) (1 + n.toNat) (by omega)
    rw [← en] at this
    simp only [zSeq_z, zFrz_z, zSet_z, zSetO_z, zRet_z, zDrop_z, zIfS_z, zTst_z, zTru_z, zNot_z, zAnd_z, zOr_z, zAndV_z, zNotV_z, zIf_z, zOp_z, zBf_z, zCons_z, zNil_z, zCall_z, sCons_z, sNil_z, zSv_z, zVl_z, zCv_z, zBv_z, zVar_z, zK_z, zNeg_z, zTup_z, zLst_z, zTupOf_z, zLstOf_z, zLen_z, zAt_z, zProp_z, zApp_z, zAugN_z, zSeqI_z, zRng1_z, zRng2_z, zAsg_z, zPart_z, zNoP_z, getPl, setPl, wipeE, List.getElem?_cons_succ, List.getElem?_cons_zero, List.set_cons_succ, List.set_cons_zero, Res.bind_ok, Res.toS_ok, callR1, callR2, callR3, callR0_4, callRk1, callRk2, callRk3', callRk4', List.length_cons, List.length_nil, Nat.zero_add, Nat.reduceAdd, sz1, sz2, sz3, if_true, if_false, Bool.false_eq_true, Bool.not_true, Bool.not_false, zNx_z, zBk_z, zCt_z, itemsD_lst, itemsD_tup, deref_bl, deref_int, deref_str, deref_tup, deref_lst, Option.bind_some, truD, gAdd_int, gSub_int, gMul_int, gMod_int, gCmpI_int, gEq_int, gInt_int, lenR_lst, lenR_blst, lenR_tup, decide_true, decide_false, true_or, or_true, List.map_cons, List.map_nil, t1]
    exact this
  have hb : ∀ (xs : List (Vec × Vec)) (e5 : Sl) (M : Sto), xs.length ≤ 100 → Hd M → ∃ x M', XOk w p x ∧ Hd M' ∧ lpoBody V [.val (.ref 0), .val (.int p), .val (.int w), .val (.int most), .own (.lst (xs.map pairD)), e5] M = .nx [.val (.ref 0), .val (.int p), .val (.int w), .val (.int most), .own (.lst ((xs ++ [x]).map pairD)), e5] M' := fun xs e5 M hl hM => by
    obtain ⟨v, M2, v1, v2, k2, t2⟩ := hV M p w hM hp hw
    obtain ⟨u, M3, u1, u2, k3, t3⟩ := hV M2 p w k2 hp hw
    refine ⟨(v, u), M3, ⟨v1, u1, v2, u2⟩, k3, ?_⟩
    have hlA : (xs.map pairD).length < sizeLine := by rw [List.length_map]; exact Nat.lt_of_le_of_lt hl (by decide)
    have e : (xs ++ [(v, u)]).map pairD = xs.map pairD ++ [.tup [rowD v, rowD u]] := by rw [List.map_append]; rfl
    rw [e]
    generalize xs.map pairD = A at hlA ⊢
    simp only [zSeq_z, zFrz_z, zSet_z, zSetO_z, zRet_z, zDrop_z, zIfS_z, zTst_z, zTru_z, zNot_z, zAnd_z, zOr_z, zAndV_z, zNotV_z, zIf_z, zOp_z, zBf_z, zCons_z, zNil_z, zCall_z, sCons_z, sNil_z, zSv_z, zVl_z, zCv_z, zBv_z, zVar_z, zK_z, zNeg_z, zTup_z, zLst_z, zTupOf_z, zLstOf_z, zLen_z, zAt_z, zProp_z, zApp_z, zAugN_z, zSeqI_z, zRng1_z, zRng2_z, zAsg_z, zPart_z, zNoP_z, getPl, setPl, wipeE, List.getElem?_cons_succ, List.getElem?_cons_zero, List.set_cons_succ, List.set_cons_zero, Res.bind_ok, Res.toS_ok, callR1, callR2, callR3, callR0_4, callRk1, callRk2, callRk3', callRk4', List.length_cons, List.length_nil, Nat.zero_add, Nat.reduceAdd, sz1, sz2, sz3, if_true, if_false, Bool.false_eq_true, Bool.not_true, Bool.not_false, zNx_z, zBk_z, zCt_z, itemsD_lst, itemsD_tup, deref_bl, deref_int, deref_str, deref_tup, deref_lst, Option.bind_some, truD, gAdd_int, gSub_int, gMul_int, gMod_int, gCmpI_int, gEq_int, gInt_int, lenR_lst, lenR_blst, lenR_tup, decide_true, decide_false, true_or, or_true, List.map_cons, List.map_nil, lpoBody, t2, t3, hlA]
  generalize lpoBody V = y at hb
  refine zFor_gen (I := fun i env M' => ∃ (xs : List (Vec × Vec)) (e5 : Sl), xs.length = i ∧ (∀ x ∈ xs, XOk w p x) ∧ Hd M' ∧ env = [.val (.ref 0), .val (.int p), .val (.int w), .val (.int most), .own (.lst (xs.map pairD)), e5])
    (Q := fun o => ∃ (xs : List (Vec × Vec)) (e5 : Sl) (M' : Sto), 1 ≤ xs.length ∧ (xs.length : Int) ≤ most ∧ (∀ x ∈ xs, XOk w p x) ∧ Hd M' ∧ o = .nx [.val (.ref 0), .val (.int p), .val (.int w), .val (.int most), .own (.lst (xs.map pairD)), e5] M') hz ⟨[], .no, rfl, fun _ h => by simp at h, k1, rfl⟩ (fun i c env M' hi hI => ?_) fun env M' hI => ?_
  · obtain ⟨xs, e5, l, hx, k, rfl⟩ := hI
    obtain ⟨rfl, hlt⟩ := stpD_get hi
    obtain ⟨x, M2, x1, k2, t⟩ := hb xs (.val (.int (0 + (i : Nat) * 1))) M' (by omega) k
    refine ⟨_, rfl, ?_⟩
    simp only [List.set_cons_succ, List.set_cons_zero]
    rw [t]
    refine ⟨xs ++ [x], .val (.int (0 + (i : Nat) * 1)), by simp [l], fun y hy => ?_, k2, rfl⟩
    rcases List.mem_append.mp hy with hy | hy
    · exact hx y hy
    · rw [List.mem_singleton.mp hy]; exact x1
  · obtain ⟨xs, e5, l, hx, k, rfl⟩ := hI
    rw [stpD_len] at l
    exact ⟨xs, e5, M', by omega, by omega, hx, k, rfl⟩
theorem lpor_seq {y : ZS} {a b c d e5 : Sl} {A : List D} {M M' : Sto} (hy : y [a, b, c, d, .own (.lst []), .no] M = .nx [a, b, c, d, .own (.lst A), e5] M') :
    zFun 4 6 (zSeq (zFrz [] (zSetO 4 (zLst zNil))) (zSeq (zFrz [] y) (zSeq (zFrz [] (zRet (zTupOf (zCv 4)))) zNx))) [a, b, c, d] M = .ok (.tup A) M' := by
  unfold zFun
  simp [hy]
theorem lPorOk {C : Str → Sem1} (hT : TakeOk (C "_law_take")) (hV : LVecOk (C "_law_vector")) : LPorOk (zFun 4 6 (lPortion C)) := fun M p most w hM hp hw h1 h10 => by
  obtain ⟨xs, e5, M', a1, a2, a3, a4, q⟩ := lpor_loop hT hV (M := M) (p := p) (most := most) (w := w) hM hp hw h1 h10
  exact ⟨xs, M', a1, a2, a3, a4, lpor_seq q⟩
/-! one example, there and back -/
def lx1 (O : Sem1) : ZS := (zSeq (zFrz [] (zApp 3 (zVar 1)))
      (zSeq (zFrz [] (zSet 1 (zCall O 3 0 [0, 1, 2] [] (sCons (zSv 0) (sCons (zSv 4) (sCons (zSv 1) sNil))) sNil)))
      zNx))
def lx2 (lf : Lens) : ZX := zLc (zRng1 (zCons (zLen lf (zSv 2)) zNil)) (tgN 9) (fun _ M => .ok true M) (zOp gMod (zBf gInt (zCons (zOp gMul (zK (.int 2)) (zOp gSub (zOp gIx (zCv 1) (zCv 9)) (zOp gIx (zCv 2) (zCv 9)))) zNil)) (zOp gIx (zCv 0) (zK (.int 0)))) [9]
def lx3 (lf : Lens) (B : Sem1) : ZS := (zSeq (zFrz [] (zSet 4 (zOp gSub (zOp gSub (zLen lf (zSv 3)) (zK (.int 1))) (zCv 7))))
      (zSeq (zFrz [] (zAsg (tgT [5, 8]) (zCall B 4 0 [0, 1, 2, 3] [] (sCons (zSv 0) (sCons (zSv 4) (sCons (zVl (zOp gIx (zCv 3) (zCv 4))) (sCons (zSv 5) sNil)))) sNil)))
      (zSeq (zFrz [] (zSet 6 (zOp gAdd (zLst (zCons (zVar 8) zNil)) (zCv 6))))
      zNx)))
def lExample (lf : Lens) (C : Str → Sem1) : ZS :=
  (zSeq (zFrz [] (zSetO 3 (zLst zNil)))
      (zSeq (zFrz [] (zFor (zRng1 (zCons (zLen lf (zVl (zOp gIx (zCv 0) (zK (.int 1))))) zNil)) (tgN 4) (lx1 (C "_law_out"))))
      (zSeq (zFrz [] (zSet 5 (zTupOf (lx2 lf))))
      (zSeq (zFrz [] (zSet 6 (zLst zNil)))
      (zSeq (zFrz [] (zFor (zRng1 (zCons (zLen lf (zSv 3)) zNil)) (tgN 7) (lx3 lf (C "_law_back"))))
      (zSeq (zFrz [] (zRet (zVar 6)))
      zNx))))))
def LExOk (f : Sem1) : Prop := ∀ M w p ws ks x, NetS w p ws ks → x.1.length = w → x.2.length = w → f [.val (netT p ws ks), .val (rowD x.1), .val (rowD x.2)] M = .ok (.lst ((exmS p w ws ks x).map matD)) M
section
variable {lf : Lens} {O B : Sem1} {M : Sto} {w : Nat} {p : Int} {ws : List Mat} {ks : List Bool} {v t : Vec}
theorem way_init {i : Nat} {m : Mat} {k : Bool} (hm : ws[i]? = some m) (hk : ks[i]? = some k) (h : ks.length = ws.length) : (wayV p (ws.take (i + 1)) (ks.take (i + 1)) v).dropLast = (wayV p (ws.take i) (ks.take i) v).dropLast ++ [outV p (ws.take i) (ks.take i) v] := by
  have ll : (ws.take i).length = (ks.take i).length := by rw [List.length_take, List.length_take, h]
  rw [take_snoc hm, take_snoc hk, wayV_snoc ll, List.dropLast_concat]
  have hne : wayV p (ws.take i) (ks.take i) v ≠ [] := wayV_ne
  have e := wayV_last (p := p) (ms := ws.take i) (ks := ks.take i) (v := v)
  rw [List.getLast?_eq_some_getLast hne] at e
  have e' := Option.some.inj e
  rw [← e', List.dropLast_concat_getLast]
theorem lx1_loop (hO : LOutOk O) (h : NetS w p ws ks) (hv : v.length = w) {e2 : Sl} :
    ∃ e4, zFor (zRng1 (zCons (zLen lf (zVl (zOp gIx (zCv 0) (zK (.int 1))))) zNil)) (tgN 4) (lx1 O) [.val (netT p ws ks), .val (rowD v), e2, .own (.lst []), .no, .no, .no, .no, .no, .no] M =
      .nx [.val (netT p ws ks), .val (rowD (outV p ws ks v)), e2, .own (.lst ((wayV p ws ks v).dropLast.map rowD)), e4, .no, .no, .no, .no, .no] M := by
  have hz : zRng1 (zCons (zLen lf (zVl (zOp gIx (zCv 0) (zK (.int 1))))) zNil) [.val (netT p ws ks), .val (rowD v), e2, .own (.lst []), .no, .no, .no, .no, .no, .no] M = .ok (stpD 0 1 ws.length) M := by
    have e : lenR lf (.val (wsD ws)) M = .ok (.int ws.length) M := by
      unfold wsD
      rw [lenR_tup, List.length_map]
    simp only [zSeq_z, zFrz_z, zSet_z, zSetO_z, zRet_z, zDrop_z, zIfS_z, zTst_z, zTru_z, zNot_z, zAnd_z, zOr_z, zAndV_z, zNotV_z, zIf_z, zOp_z, zBf_z, zCons_z, zNil_z, zCall_z, sCons_z, sNil_z, zSv_z, zVl_z, zCv_z, zBv_z, zVar_z, zK_z, zNeg_z, zTup_z, zLst_z, zTupOf_z, zLstOf_z, zLen_z, zAt_z, zProp_z, zApp_z, zAugN_z, zSeqI_z, zRng1_z, zRng2_z, zAsg_z, zPart_z, zNoP_z, getPl, setPl, wipeE, List.getElem?_cons_succ, List.getElem?_cons_zero, List.set_cons_succ, List.set_cons_zero, Res.bind_ok, Res.toS_ok, callR1, callR2, callR3, callR0_4, callRk1, callRk2, callRk3', callRk4', List.length_cons, List.length_nil, Nat.zero_add, Nat.reduceAdd, sz1, sz2, sz3, if_true, if_false, Bool.false_eq_true, Bool.not_true, Bool.not_false, zNx_z, zBk_z, zCt_z, itemsD_lst, itemsD_tup, deref_bl, deref_int, deref_str, deref_tup, deref_lst, Option.bind_some, truD, gAdd_int, gSub_int, gMul_int, gMod_int, gCmpI_int, gEq_int, gInt_int, lenR_lst, lenR_blst, lenR_tup, decide_true, decide_false, true_or, or_true, List.map_cons, List.map_nil, ixT1, e]
    exact rngR_nat _ (by have := h.n6; omega)
  have hb : ∀ (i : Nat) (m : Mat) (k : Bool) (u : Vec) (A : List D), ws[i]? = some m → ks[i]? = some k → u.length = w → A.length ≤ 100 → lx1 O [.val (netT p ws ks), .val (rowD u), e2, .own (.lst A), .val (.int i), .no, .no, .no, .no, .no] M =
      .nx [.val (netT p ws ks), .val (rowD (fwdV p m k u)), e2, .own (.lst (A ++ [rowD u])), .val (.int i), .no, .no, .no, .no, .no] M := fun i m k u A hm hk hu hA => by
    have q := hO M w p ws ks i m k (rowD u) u h hm hk (VecD.row u) hu
    have hlA : A.length < sizeLine := Nat.lt_of_le_of_lt hA (by decide)
    generalize rowD (fwdV p m k u) = Y at q ⊢
    generalize rowD u = X at q ⊢
    simp only [zSeq_z, zFrz_z, zSet_z, zSetO_z, zRet_z, zDrop_z, zIfS_z, zTst_z, zTru_z, zNot_z, zAnd_z, zOr_z, zAndV_z, zNotV_z, zIf_z, zOp_z, zBf_z, zCons_z, zNil_z, zCall_z, sCons_z, sNil_z, zSv_z, zVl_z, zCv_z, zBv_z, zVar_z, zK_z, zNeg_z, zTup_z, zLst_z, zTupOf_z, zLstOf_z, zLen_z, zAt_z, zProp_z, zApp_z, zAugN_z, zSeqI_z, zRng1_z, zRng2_z, zAsg_z, zPart_z, zNoP_z, getPl, setPl, wipeE, List.getElem?_cons_succ, List.getElem?_cons_zero, List.set_cons_succ, List.set_cons_zero, Res.bind_ok, Res.toS_ok, callR1, callR2, callR3, callR0_4, callRk1, callRk2, callRk3', callRk4', List.length_cons, List.length_nil, Nat.zero_add, Nat.reduceAdd, sz1, sz2, sz3, if_true, if_false, Bool.false_eq_true, Bool.not_true, Bool.not_false, zNx_z, zBk_z, zCt_z, itemsD_lst, itemsD_tup, deref_bl, deref_int, deref_str, deref_tup, deref_lst, Option.bind_some, truD, gAdd_int, gSub_int, gMul_int, gMod_int, gCmpI_int, gEq_int, gInt_int, lenR_lst, lenR_blst, lenR_tup, decide_true, decide_false, true_or, or_true, List.map_cons, List.map_nil, lx1, q, hlA]
  generalize lx1 O = y at hb
  have w0 : (wayV p (ws.take 0) (ks.take 0) v).dropLast = [] := by simp [wayV]
  have o0 : outV p (ws.take 0) (ks.take 0) v = v := by simp [outV]
  refine zFor_gen (I := fun i env M' => ∃ e4, env = [.val (netT p ws ks), .val (rowD (outV p (ws.take i) (ks.take i) v)), e2, .own (.lst ((wayV p (ws.take i) (ks.take i) v).dropLast.map rowD)), e4, .no, .no, .no, .no, .no] ∧ M' = M)
    (Q := fun o => ∃ e4, o = .nx [.val (netT p ws ks), .val (rowD (outV p ws ks v)), e2, .own (.lst ((wayV p ws ks v).dropLast.map rowD)), e4, .no, .no, .no, .no, .no] M) hz ⟨.no, by rw [w0, o0]; rfl, rfl⟩ (fun i x env M' hi hI => ?_) fun env M' hI => ?_
  · obtain ⟨e4, rfl, rfl⟩ := hI
    obtain ⟨rfl, hlt⟩ := stpD_get hi
    have hk : i < ks.length := by rw [h.kl]; exact hlt
    have hm : ws[i]? = some ws[i] := List.getElem?_eq_getElem hlt
    have hkk : ks[i]? = some ks[i] := List.getElem?_eq_getElem hk
    have ll : (ws.take i).length = (ks.take i).length := by rw [List.length_take, List.length_take, h.kl]
    have hu : (outV p (ws.take i) (ks.take i) v).length = w := outV_len (fun m hm => (h.ms m (List.mem_of_mem_take hm)).1) hv
    have s := hb i ws[i] ks[i] _ ((wayV p (ws.take i) (ks.take i) v).dropLast.map rowD) hm hkk hu (by rw [List.length_map, List.length_dropLast, wayV_len ll, List.length_take]; have := h.n6; omega)
    refine ⟨_, rfl, ?_⟩
    simp only [List.set_cons_succ, List.set_cons_zero, Int.zero_add, Int.mul_one]
    rw [s]
    refine ⟨.val (.int i), ?_, rfl⟩
    rw [way_init hm hkk h.kl, List.map_append]
    rw [take_snoc hm, take_snoc hkk, outV_snoc ll]
    rfl
  · obtain ⟨e4, rfl, rfl⟩ := hI
    rw [stpD_len]
    refine ⟨e4, ?_⟩
    rw [List.take_of_length_le (Nat.le_refl _), List.take_of_length_le (by rw [h.kl]; exact Nat.le_refl _)]
theorem lx2_ok {u : Vec} {a3 a4 : Sl} (h : NetS w p ws ks) (hu : u.length = w) (ht : t.length = w) : lx2 lf [.val (netT p ws ks), .val (rowD u), .val (rowD t), a3, a4, .no, .no, .no, .no, .no] M = .ok (.lst ((lossV p u t).map .int)) M := by
  have p0 := h.p0
  have l := lcRng (env := [.val (netT p ws ks), .val (rowD u), .val (rowD t), a3, a4, .no, .no, .no, .no, .no]) (M := M) (M1 := M) (za := zLen lf (zSv 2)) (ze := zOp gMod (zBf gInt (zCons (zOp gMul (zK (.int 2)) (zOp gSub (zOp gIx (zCv 1) (zCv 9)) (zOp gIx (zCv 2) (zCv 9)))) zNil)) (zOp gIx (zCv 0) (zK (.int 0)))) (vs := [9]) (i := 9) (n := t.length) (fun k => .int (2 * (u.getD k 0 - t.getD k 0) % p))
    (by simp [len_vec (VecD.row t)]) rfl (by have := h.w3; omega) fun k hk => by
      have h1 := ix_vec (M := M) (VecD.row u) (k := k) (by omega)
      have h2 := ix_vec (M := M) (VecD.row t) (k := k) hk
      have h3 : smallI 2 := by decide
      simp only [zSeq_z, zFrz_z, zSet_z, zSetO_z, zRet_z, zDrop_z, zIfS_z, zTst_z, zTru_z, zNot_z, zAnd_z, zOr_z, zAndV_z, zNotV_z, zIf_z, zOp_z, zBf_z, zCons_z, zNil_z, zCall_z, sCons_z, sNil_z, zSv_z, zVl_z, zCv_z, zBv_z, zVar_z, zK_z, zNeg_z, zTup_z, zLst_z, zTupOf_z, zLstOf_z, zLen_z, zAt_z, zProp_z, zApp_z, zAugN_z, zSeqI_z, zRng1_z, zRng2_z, zAsg_z, zPart_z, zNoP_z, getPl, setPl, wipeE, List.getElem?_cons_succ, List.getElem?_cons_zero, List.set_cons_succ, List.set_cons_zero, Res.bind_ok, Res.toS_ok, callR1, callR2, callR3, callR0_4, callRk1, callRk2, callRk3', callRk4', List.length_cons, List.length_nil, Nat.zero_add, Nat.reduceAdd, sz1, sz2, sz3, if_true, if_false, Bool.false_eq_true, Bool.not_true, Bool.not_false, zNx_z, zBk_z, zCt_z, itemsD_lst, itemsD_tup, deref_bl, deref_int, deref_str, deref_tup, deref_lst, Option.bind_some, truD, gAdd_int, gSub_int, gMul_int, gMod_int, gCmpI_int, gEq_int, gInt_int, lenR_lst, lenR_blst, lenR_tup, decide_true, decide_false, true_or, or_true, List.map_cons, List.map_nil, h1, h2, h3, ixT0, p0]
  unfold lossV
  rw [zip_range2 0 _ (show u.length = t.length by omega), List.map_map]
  exact l
theorem lx3_loop (hB : LBackOk B) (h : NetS w p ws ks) {vs : List Vec} {s : Vec} {a1 a2 a4 : Sl} (h1 : vs.length = ws.length) (h2 : ∀ v ∈ vs, v.length = w) (hs : s.length = w) (hlt : Lt p s) :
    ∃ e4 e5 e7 e8, zFor (zRng1 (zCons (zLen lf (zSv 3)) zNil)) (tgN 7) (lx3 lf B) [.val (netT p ws ks), a1, a2, .own (.lst (vs.map rowD)), a4, .val (rowD s), .val (.lst []), .no, .no, .no] M =
      .nx [.val (netT p ws ks), a1, a2, .own (.lst (vs.map rowD)), e4, e5, .val (.lst ((bkAll p w ws ks vs s).2.map matD)), e7, e8, .no] M := by
  have hz : zRng1 (zCons (zLen lf (zSv 3)) zNil) [.val (netT p ws ks), a1, a2, .own (.lst (vs.map rowD)), a4, .val (rowD s), .val (.lst []), .no, .no, .no] M = .ok (stpD 0 1 ws.length) M := by
    have e : (vs.map rowD).length = ws.length := by rw [List.length_map, h1]
    simp only [zSeq_z, zFrz_z, zSet_z, zSetO_z, zRet_z, zDrop_z, zIfS_z, zTst_z, zTru_z, zNot_z, zAnd_z, zOr_z, zAndV_z, zNotV_z, zIf_z, zOp_z, zBf_z, zCons_z, zNil_z, zCall_z, sCons_z, sNil_z, zSv_z, zVl_z, zCv_z, zBv_z, zVar_z, zK_z, zNeg_z, zTup_z, zLst_z, zTupOf_z, zLstOf_z, zLen_z, zAt_z, zProp_z, zApp_z, zAugN_z, zSeqI_z, zRng1_z, zRng2_z, zAsg_z, zPart_z, zNoP_z, getPl, setPl, wipeE, List.getElem?_cons_succ, List.getElem?_cons_zero, List.set_cons_succ, List.set_cons_zero, Res.bind_ok, Res.toS_ok, callR1, callR2, callR3, callR0_4, callRk1, callRk2, callRk3', callRk4', List.length_cons, List.length_nil, Nat.zero_add, Nat.reduceAdd, sz1, sz2, sz3, if_true, if_false, Bool.false_eq_true, Bool.not_true, Bool.not_false, zNx_z, zBk_z, zCt_z, itemsD_lst, itemsD_tup, deref_bl, deref_int, deref_str, deref_tup, deref_lst, Option.bind_some, truD, gAdd_int, gSub_int, gMul_int, gMod_int, gCmpI_int, gEq_int, gInt_int, lenR_lst, lenR_blst, lenR_tup, decide_true, decide_false, true_or, or_true, List.map_cons, List.map_nil, e]
    exact rngR_nat _ (by have := h.n6; omega)
  have hb : ∀ (i j : Nat) (m : Mat) (k : Bool) (v : Vec) (u : Vec) (A : List D) (e4 e8 : Sl), (j : Int) = (ws.length : Int) - 1 - i → ws[j]? = some m → ks[j]? = some k → vs[j]? = some v → u.length = w → Lt p u → A.length ≤ 100 →
      lx3 lf B [.val (netT p ws ks), a1, a2, .own (.lst (vs.map rowD)), e4, .val (rowD u), .val (.lst A), .val (.int i), e8, .no] M = .nx [.val (netT p ws ks), a1, a2, .own (.lst (vs.map rowD)), .val (.int j), .val (rowD (backIn p m (psV p m k v u) w)), .val (.lst (matD (backW p (psV p m k v u) v) :: A)), .val (.int i), .val (matD (backW p (psV p m k v u) v)), .no] M :=
    fun i j m k v u A e4 e8 hj hm hk hv hu hul hA => by
      have q := hB M w p ws ks j m k v u h hm hk (h2 v (List.mem_of_getElem? hv)) hu hul
      have g : gIx (.lst (vs.map rowD)) (.int j) M = .ok (rowD v) M := gIx_map hv rfl
      have e : (vs.map rowD).length = ws.length := by rw [List.length_map, h1]
      have q' : callR B 4 0 [0, 1, 2, 3] [] [.val (netT p ws ks), .val (.int j), .val (rowD v), .val (rowD u)] [] M = .ok (.tup [rowD (backIn p m (psV p m k v u) w), matD (backW p (psV p m k v u) v)]) M := q
      have ga : ∀ x : D, gAdd (.lst [x]) (.lst A) M = .ok (.lst (x :: A)) M := fun x => by
        show (if [x].length + A.length ≤ sizeLine then Res.ok (D.lst ([x] ++ A)) M else .fail) = _
        rw [if_pos (Nat.le_trans (show [x].length + A.length ≤ 1000 by simp; omega) (by decide))]
        rfl
      generalize rowD (backIn p m (psV p m k v u) w) = X at q' ⊢
      generalize matD (backW p (psV p m k v u) v) = Y at q' ⊢
      generalize vs.map rowD = VS at g e ⊢
      have hj' : (ws.length : Int) - 1 - (i : Nat) = (j : Nat) := by omega
      simp only [zSeq_z, zFrz_z, zSet_z, zSetO_z, zRet_z, zDrop_z, zIfS_z, zTst_z, zTru_z, zNot_z, zAnd_z, zOr_z, zAndV_z, zNotV_z, zIf_z, zOp_z, zBf_z, zCons_z, zNil_z, zCall_z, sCons_z, sNil_z, zSv_z, zVl_z, zCv_z, zBv_z, zVar_z, zK_z, zNeg_z, zTup_z, zLst_z, zTupOf_z, zLstOf_z, zLen_z, zAt_z, zProp_z, zApp_z, zAugN_z, zSeqI_z, zRng1_z, zRng2_z, zAsg_z, zPart_z, zNoP_z, getPl, setPl, wipeE, List.getElem?_cons_succ, List.getElem?_cons_zero, List.set_cons_succ, List.set_cons_zero, Res.bind_ok, Res.toS_ok, callR1, callR2, callR3, callR0_4, callRk1, callRk2, callRk3', callRk4', List.length_cons, List.length_nil, Nat.zero_add, Nat.reduceAdd, sz1, sz2, sz3, if_true, if_false, Bool.false_eq_true, Bool.not_true, Bool.not_false, zNx_z, zBk_z, zCt_z, itemsD_lst, itemsD_tup, deref_bl, deref_int, deref_str, deref_tup, deref_lst, Option.bind_some, truD, gAdd_int, gSub_int, gMul_int, gMod_int, gCmpI_int, gEq_int, gInt_int, lenR_lst, lenR_blst, lenR_tup, decide_true, decide_false, true_or, or_true, List.map_cons, List.map_nil, lx3, e, hj', g, q', tgT, setAll, ga]
  generalize lx3 lf B = y at hb
  refine zFor_gen (I := fun i env M' => ∃ e4 e7 e8, env = [.val (netT p ws ks), a1, a2, .own (.lst (vs.map rowD)), e4, .val (rowD (bkAll p w (ws.drop (ws.length - i)) (ks.drop (ws.length - i)) (vs.drop (ws.length - i)) s).1), .val (.lst ((bkAll p w (ws.drop (ws.length - i)) (ks.drop (ws.length - i)) (vs.drop (ws.length - i)) s).2.map matD)), e7, e8, .no] ∧ M' = M)
    (Q := fun o => ∃ e4 e5 e7 e8, o = .nx [.val (netT p ws ks), a1, a2, .own (.lst (vs.map rowD)), e4, e5, .val (.lst ((bkAll p w ws ks vs s).2.map matD)), e7, e8, .no] M) hz ⟨a4, .no, .no, ?_, rfl⟩ (fun i x env M' hi hI => ?_) fun env M' hI => ?_
  · rw [Nat.sub_zero, List.drop_of_length_le (Nat.le_refl _)]
    simp [bkAll]
  · obtain ⟨e4, e7, e8, rfl, rfl⟩ := hI
    obtain ⟨rfl, hlt'⟩ := stpD_get hi
    have e1 : ws.length - i = (ws.length - 1 - i) + 1 := by omega
    have e2 : ws.length - (i + 1) = ws.length - 1 - i := by omega
    have e3 : ((ws.length - 1 - i : Nat) : Int) = (ws.length : Int) - 1 - i := by omega
    rw [e1]
    have hj : ws.length - 1 - i < ws.length := by omega
    generalize ws.length - 1 - i = j at e2 e3 hj ⊢
    have hj2 : j < ks.length := by rw [h.kl]; exact hj
    have hj3 : j < vs.length := by rw [h1]; exact hj
    have o := bkAll_ok h.p0 (w := w) (ms := ws.drop (j + 1)) (ks := ks.drop (j + 1)) (vs := vs.drop (j + 1)) (s := s) (by rw [List.length_drop, List.length_drop, h.kl]) (by rw [List.length_drop, List.length_drop, h1]) (fun m hm => h.ms m (List.mem_of_mem_drop hm)) (fun v hv => h2 v (List.mem_of_mem_drop hv)) hs hlt
    have st : bkAll p w (ws.drop j) (ks.drop j) (vs.drop j) s = (backIn p ws[j] (psV p ws[j] ks[j] vs[j] (bkAll p w (ws.drop (j + 1)) (ks.drop (j + 1)) (vs.drop (j + 1)) s).1) w, backW p (psV p ws[j] ks[j] vs[j] (bkAll p w (ws.drop (j + 1)) (ks.drop (j + 1)) (vs.drop (j + 1)) s).1) vs[j] :: (bkAll p w (ws.drop (j + 1)) (ks.drop (j + 1)) (vs.drop (j + 1)) s).2) := by
      rw [List.drop_eq_getElem_cons hj, List.drop_eq_getElem_cons hj2, List.drop_eq_getElem_cons hj3, bkAll]
    have t := hb i j ws[j] ks[j] vs[j] _ ((bkAll p w (ws.drop (j + 1)) (ks.drop (j + 1)) (vs.drop (j + 1)) s).2.map matD) e4 e8 e3 (List.getElem?_eq_getElem hj) (List.getElem?_eq_getElem hj2) (List.getElem?_eq_getElem hj3) o.1 o.2.1 (by rw [List.length_map, o.2.2.1, List.length_drop]; have := h.n6; omega)
    refine ⟨_, rfl, ?_⟩
    simp only [List.set_cons_succ, List.set_cons_zero, Int.zero_add, Int.mul_one]
    rw [t]
    refine ⟨.val (.int j), .val (.int i), .val (matD (backW p (psV p ws[j] ks[j] vs[j] (bkAll p w (ws.drop (j + 1)) (ks.drop (j + 1)) (vs.drop (j + 1)) s).1) vs[j])), ?_, rfl⟩
    rw [e2, st]
    rfl
  · obtain ⟨e4, e7, e8, rfl, rfl⟩ := hI
    rw [stpD_len, Nat.sub_self, List.drop_zero, List.drop_zero, List.drop_zero]
    exact ⟨_, _, _, _, rfl⟩
end
theorem lex_seq {y1 y2 : ZS} {z : ZX} {a b c b' d : D} {A G : List D} {e4 f4 f5 f7 f8 : Sl} {M : Sto} (h1 : y1 [.val a, .val b, .val c, .own (.lst []), .no, .no, .no, .no, .no, .no] M = .nx [.val a, .val b', .val c, .own (.lst A), e4, .no, .no, .no, .no, .no] M)
    (h2 : z [.val a, .val b', .val c, .own (.lst A), e4, .no, .no, .no, .no, .no] M = .ok (.lst G) M)
    (h3 : y2 [.val a, .val b', .val c, .own (.lst A), e4, .val (.tup G), .val (.lst []), .no, .no, .no] M = .nx [.val a, .val b', .val c, .own (.lst A), f4, f5, .val d, f7, f8, .no] M) :
    zFun 3 10 (zSeq (zFrz [] (zSetO 3 (zLst zNil))) (zSeq (zFrz [] y1) (zSeq (zFrz [] (zSet 5 (zTupOf z))) (zSeq (zFrz [] (zSet 6 (zLst zNil))) (zSeq (zFrz [] y2) (zSeq (zFrz [] (zRet (zVar 6))) zNx)))))) [.val a, .val b, .val c] M = .ok d M := by
  unfold zFun
  simp [h1, h2, h3]
theorem lExOk {lf : Lens} {C : Str → Sem1} (hO : LOutOk (C "_law_out")) (hB : LBackOk (C "_law_back")) : LExOk (zFun 3 10 (lExample lf C)) := fun M w p ws ks x h l1 l2 => by
  have hm : ∀ m ∈ ws, m.length = w := fun m hm => (h.ms m hm).1
  have lo : (outV p ws ks x.1).length = w := outV_len hm l1
  obtain ⟨e4, s1⟩ := lx1_loop (lf := lf) (M := M) (e2 := .val (rowD x.2)) hO h l1
  have s2 := lx2_ok (lf := lf) (M := M) (u := outV p ws ks x.1) (t := x.2) (a3 := .own (.lst ((wayV p ws ks x.1).dropLast.map rowD))) (a4 := e4) h lo l2
  obtain ⟨f4, f5, f7, f8, s3⟩ := lx3_loop (lf := lf) (M := M) (vs := (wayV p ws ks x.1).dropLast) (s := lossV p (outV p ws ks x.1) x.2) (a1 := .val (rowD (outV p ws ks x.1))) (a2 := .val (rowD x.2)) (a4 := e4) hB h (by rw [List.length_dropLast, wayV_len h.kl.symm]; rfl)
    (fun v hv => wayV_ok hm l1 v ((List.dropLast_sublist _).subset hv)) (by rw [lossV, List.length_zipWith, lo, l2, Nat.min_self]) (lossV_lt h.p0)
  exact lex_seq s1 s2 s3
end Zy
set_option maxHeartbeats 2000000
namespace Zy
open PySem PySem.Spec PyProof.Rows L2
/-! sums and changes as the law reckons them -/
abbrev NumD : D → List Mat → Prop := SeqD (SeqD VecD)
def vL (r : Vec) : D := .lst (r.map .int)
def matL (m : Mat) : D := .lst (m.map vL)
theorem num_lst (S : List Mat) : NumD (.lst (S.map matL)) S := ⟨_, rfl, EachD.map fun m _ => ⟨_, rfl, EachD.map fun r _ => .inr rfl⟩⟩
theorem num_mats {d : D} {S : List Mat} (h : itemsD d = some (S.map matD)) : NumD d S := ⟨_, h, EachD.map fun m _ => ⟨_, rfl, EachD.map fun r _ => VecD.row r⟩⟩
theorem SeqD.len {α : Type} {P : D → α → Prop} {d : D} {xs : List α} {lf : Lens} {M : Sto} (h : SeqD P d xs) : lenR lf (.val d) M = .ok (.int xs.length) M := by
  obtain ⟨ds, h1, h2⟩ := h
  rw [len_items h1, h2.1]
theorem SeqD.ix {α : Type} {P : D → α → Prop} {d : D} {xs : List α} (h : SeqD P d xs) {k : Nat} {x : α} (hx : xs[k]? = some x) : ∃ c, P c x ∧ ∀ M, gIx d (.int (k : Nat)) M = .ok c M := by
  obtain ⟨ds, h1, h2⟩ := h
  obtain ⟨c, h3, h4⟩ := h2.2 k x hx
  exact ⟨c, h4, fun M => ix_items h1 h3⟩
def lplRow (lf : Lens) : ZX := zLc (zRng1 (zCons (zLen lf (zVl (zOp gIx (zCv 0) (zCv 3)))) zNil)) (tgN 6) (fun _ M => .ok true M) (zOp gAdd (zOp gIx (zOp gIx (zOp gIx (zCv 0) (zCv 3)) (zCv 5)) (zCv 6)) (zOp gIx (zOp gIx (zOp gIx (zCv 1) (zCv 3)) (zCv 5)) (zCv 6))) [6]
def lplIn (lf : Lens) : ZS := (zSeq (zFrz [] (zApp 4 (lplRow lf))) zNx)
def lplOut (lf : Lens) : ZS := (zSeq (zFrz [] (zSetO 4 (zLst zNil)))
      (zSeq (zFrz [] (zFor (zRng1 (zCons (zLen lf (zVl (zOp gIx (zCv 0) (zCv 3)))) zNil)) (tgN 5) (lplIn lf)))
      (zSeq (zFrz [4] (zApp 2 (zVar 4)))
      zNx)))
def lPlus (lf : Lens) : ZS :=
  (zSeq (zFrz [] (zSetO 2 (zLst zNil)))
      (zSeq (zFrz [] (zFor (zRng1 (zCons (zLen lf (zSv 0)) zNil)) (tgN 3) (lplOut lf)))
      (zSeq (zFrz [2] (zRet (zVar 2)))
      zNx)))
def LPlusOk (f : Sem1) : Prop := ∀ M (w n : Nat) d e A B, w ≤ 10 → n ≤ 10 → NumD d A → NumD e B → ShS w n A → ShS w n B → f [.val d, .val e] M = .ok (.lst ((plusS A B).map matL)) M
section
variable {lf : Lens} {M : Sto} {w n : Nat} {d e : D} {A B : List Mat}
theorem lplRow_ok {a2 a4 : Sl} {l i : Nat} {m m' : Mat} {r r' : Vec} (hw : w ≤ 10) (hd : NumD d A) (he : NumD e B) (h1 : A[l]? = some m) (h2 : B[l]? = some m') (h3 : m[i]? = some r) (h4 : m'[i]? = some r') (l1 : m.length = w) (l2 : r.length = w) (l3 : r'.length = w) :
    lplRow lf [.val d, .val e, a2, .val (.int l), a4, .val (.int i), .no] M = .ok (vL (List.zipWith (fun x y => x + y) r r')) M := by
  obtain ⟨c, k1, g1⟩ := hd.ix h1
  obtain ⟨c', k2, g2⟩ := he.ix h2
  obtain ⟨q, k3, g3⟩ := k1.ix h3
  obtain ⟨q', k4, g4⟩ := k2.ix h4
  have ln := k1.len (lf := lf) (M := M)
  have c0 := lcRng (env := [.val d, .val e, a2, .val (.int l), a4, .val (.int i), .no]) (M := M) (M1 := M) (za := zLen lf (zVl (zOp gIx (zCv 0) (zCv 3)))) (ze := zOp gAdd (zOp gIx (zOp gIx (zOp gIx (zCv 0) (zCv 3)) (zCv 5)) (zCv 6)) (zOp gIx (zOp gIx (zOp gIx (zCv 1) (zCv 3)) (zCv 5)) (zCv 6))) (vs := [6]) (i := 6) (n := w) (fun j => .int (r.getD j 0 + r'.getD j 0))
    (by simp only [zSeq_z, zFrz_z, zSet_z, zSetO_z, zRet_z, zDrop_z, zIfS_z, zTst_z, zTru_z, zNot_z, zAnd_z, zOr_z, zAndV_z, zNotV_z, zIf_z, zOp_z, zBf_z, zCons_z, zNil_z, zCall_z, sCons_z, sNil_z, zSv_z, zVl_z, zCv_z, zBv_z, zVar_z, zK_z, zNeg_z, zTup_z, zLst_z, zTupOf_z, zLstOf_z, zLen_z, zAt_z, zProp_z, zApp_z, zAugN_z, zSeqI_z, zRng1_z, zRng2_z, zAsg_z, zPart_z, zNoP_z, getPl, setPl, wipeE, List.getElem?_cons_succ, List.getElem?_cons_zero, List.set_cons_succ, List.set_cons_zero, Res.bind_ok, Res.toS_ok, callR1, callR2, callR3, callR0_4, callRk1, callRk2, callRk3', callRk4', List.length_cons, List.length_nil, Nat.zero_add, Nat.reduceAdd, sz1, sz2, sz3, if_true, if_false, Bool.false_eq_true, Bool.not_true, Bool.not_false, zNx_z, zBk_z, zCt_z, itemsD_lst, itemsD_tup, deref_bl, deref_int, deref_str, deref_tup, deref_lst, Option.bind_some, truD, gAdd_int, gSub_int, gMul_int, gMod_int, gCmpI_int, gEq_int, gInt_int, lenR_lst, lenR_blst, lenR_tup, decide_true, decide_false, true_or, or_true, List.map_cons, List.map_nil, g1 M, ln, l1]) rfl (by omega) fun j hj => by
      have t1 := ix_vec (M := M) k3 (k := j) (by omega)
      have t2 := ix_vec (M := M) k4 (k := j) (by omega)
      simp only [zSeq_z, zFrz_z, zSet_z, zSetO_z, zRet_z, zDrop_z, zIfS_z, zTst_z, zTru_z, zNot_z, zAnd_z, zOr_z, zAndV_z, zNotV_z, zIf_z, zOp_z, zBf_z, zCons_z, zNil_z, zCall_z, sCons_z, sNil_z, zSv_z, zVl_z, zCv_z, zBv_z, zVar_z, zK_z, zNeg_z, zTup_z, zLst_z, zTupOf_z, zLstOf_z, zLen_z, zAt_z, zProp_z, zApp_z, zAugN_z, zSeqI_z, zRng1_z, zRng2_z, zAsg_z, zPart_z, zNoP_z, getPl, setPl, wipeE, List.getElem?_cons_succ, List.getElem?_cons_zero, List.set_cons_succ, List.set_cons_zero, Res.bind_ok, Res.toS_ok, callR1, callR2, callR3, callR0_4, callRk1, callRk2, callRk3', callRk4', List.length_cons, List.length_nil, Nat.zero_add, Nat.reduceAdd, sz1, sz2, sz3, if_true, if_false, Bool.false_eq_true, Bool.not_true, Bool.not_false, zNx_z, zBk_z, zCt_z, itemsD_lst, itemsD_tup, deref_bl, deref_int, deref_str, deref_tup, deref_lst, Option.bind_some, truD, gAdd_int, gSub_int, gMul_int, gMod_int, gCmpI_int, gEq_int, gInt_int, lenR_lst, lenR_blst, lenR_tup, decide_true, decide_false, true_or, or_true, List.map_cons, List.map_nil, g1 M, g2 M, g3 M, g4 M, t1, t2]
  unfold vL
  rw [zip_range2 0 _ (show r.length = r'.length by omega), List.map_map, l3]
  exact c0
theorem lplIn_loop {a2 e5 : Sl} {l : Nat} {m m' : Mat} (hw : w ≤ 10) (hd : NumD d A) (he : NumD e B) (h1 : A[l]? = some m) (h2 : B[l]? = some m') (o1 : m.length = w ∧ ∀ r ∈ m, r.length = w) (o2 : m'.length = w ∧ ∀ r ∈ m', r.length = w) :
    ∃ f5, zFor (zRng1 (zCons (zLen lf (zVl (zOp gIx (zCv 0) (zCv 3)))) zNil)) (tgN 5) (lplIn lf) [.val d, .val e, a2, .val (.int l), .own (.lst []), e5, .no] M =
      .nx [.val d, .val e, a2, .val (.int l), .own (.lst ((List.zipWith (List.zipWith fun x y => x + y) m m').map vL)), f5, .no] M := by
  obtain ⟨c, k1, g1⟩ := hd.ix h1
  have ln := k1.len (lf := lf) (M := M)
  have hz : zRng1 (zCons (zLen lf (zVl (zOp gIx (zCv 0) (zCv 3)))) zNil) [.val d, .val e, a2, .val (.int l), .own (.lst []), e5, .no] M = .ok (stpD 0 1 w) M := by
    simp only [zSeq_z, zFrz_z, zSet_z, zSetO_z, zRet_z, zDrop_z, zIfS_z, zTst_z, zTru_z, zNot_z, zAnd_z, zOr_z, zAndV_z, zNotV_z, zIf_z, zOp_z, zBf_z, zCons_z, zNil_z, zCall_z, sCons_z, sNil_z, zSv_z, zVl_z, zCv_z, zBv_z, zVar_z, zK_z, zNeg_z, zTup_z, zLst_z, zTupOf_z, zLstOf_z, zLen_z, zAt_z, zProp_z, zApp_z, zAugN_z, zSeqI_z, zRng1_z, zRng2_z, zAsg_z, zPart_z, zNoP_z, getPl, setPl, wipeE, List.getElem?_cons_succ, List.getElem?_cons_zero, List.set_cons_succ, List.set_cons_zero, Res.bind_ok, Res.toS_ok, callR1, callR2, callR3, callR0_4, callRk1, callRk2, callRk3', callRk4', List.length_cons, List.length_nil, Nat.zero_add, Nat.reduceAdd, sz1, sz2, sz3, if_true, if_false, Bool.false_eq_true, Bool.not_true, Bool.not_false, zNx_z, zBk_z, zCt_z, itemsD_lst, itemsD_tup, deref_bl, deref_int, deref_str, deref_tup, deref_lst, Option.bind_some, truD, gAdd_int, gSub_int, gMul_int, gMod_int, gCmpI_int, gEq_int, gInt_int, lenR_lst, lenR_blst, lenR_tup, decide_true, decide_false, true_or, or_true, List.map_cons, List.map_nil, g1 M, ln, o1.1]
    exact rngR_nat w (by omega)
  have hb : ∀ (i : Nat) (r r' : Vec) (X : List D), m[i]? = some r → m'[i]? = some r' → X.length ≤ 100 → lplIn lf [.val d, .val e, a2, .val (.int l), .own (.lst X), .val (.int i), .no] M = .nx [.val d, .val e, a2, .val (.int l), .own (.lst (X ++ [vL (List.zipWith (fun x y => x + y) r r')])), .val (.int i), .no] M := fun i r r' X h3 h4 hX => by
    have q := lplRow_ok (lf := lf) (M := M) (a2 := a2) (a4 := .own (.lst X)) hw hd he h1 h2 h3 h4 o1.1 (o1.2 r (List.mem_of_getElem? h3)) (o2.2 r' (List.mem_of_getElem? h4))
    have hl : X.length < sizeLine := Nat.lt_of_le_of_lt hX (by decide)
    simp only [zSeq_z, zFrz_z, zSet_z, zSetO_z, zRet_z, zDrop_z, zIfS_z, zTst_z, zTru_z, zNot_z, zAnd_z, zOr_z, zAndV_z, zNotV_z, zIf_z, zOp_z, zBf_z, zCons_z, zNil_z, zCall_z, sCons_z, sNil_z, zSv_z, zVl_z, zCv_z, zBv_z, zVar_z, zK_z, zNeg_z, zTup_z, zLst_z, zTupOf_z, zLstOf_z, zLen_z, zAt_z, zProp_z, zApp_z, zAugN_z, zSeqI_z, zRng1_z, zRng2_z, zAsg_z, zPart_z, zNoP_z, getPl, setPl, wipeE, List.getElem?_cons_succ, List.getElem?_cons_zero, List.set_cons_succ, List.set_cons_zero, Res.bind_ok, Res.toS_ok, callR1, callR2, callR3, callR0_4, callRk1, callRk2, callRk3', callRk4', List.length_cons, List.length_nil, Nat.zero_add, Nat.reduceAdd, sz1, sz2, sz3, if_true, if_false, Bool.false_eq_true, Bool.not_true, Bool.not_false, zNx_z, zBk_z, zCt_z, itemsD_lst, itemsD_tup, deref_bl, deref_int, deref_str, deref_tup, deref_lst, Option.bind_some, truD, gAdd_int, gSub_int, gMul_int, gMod_int, gCmpI_int, gEq_int, gInt_int, lenR_lst, lenR_blst, lenR_tup, decide_true, decide_false, true_or, or_true, List.map_cons, List.map_nil, lplIn, q, hl]
  generalize lplIn lf = y at hb
  refine zFor_gen (I := fun i env M' => ∃ f5, env = [.val d, .val e, a2, .val (.int l), .own (.lst (((List.zipWith (List.zipWith fun x y => x + y) m m').take i).map vL)), f5, .no] ∧ M' = M)
    (Q := fun o => ∃ f5, o = .nx [.val d, .val e, a2, .val (.int l), .own (.lst ((List.zipWith (List.zipWith fun x y => x + y) m m').map vL)), f5, .no] M) hz ⟨e5, rfl, rfl⟩ (fun i x env M' hi hI => ?_) fun env M' hI => ?_
  · obtain ⟨f5, rfl, rfl⟩ := hI
    obtain ⟨rfl, hlt⟩ := stpD_get hi
    have h3 : m[i]? = some (m[i]'(by omega)) := List.getElem?_eq_getElem _
    have h4 : m'[i]? = some (m'[i]'(by omega)) := List.getElem?_eq_getElem _
    have s := hb i _ _ (((List.zipWith (List.zipWith fun x y => x + y) m m').take i).map vL) h3 h4 (by rw [List.length_map, List.length_take]; omega)
    refine ⟨_, rfl, ?_⟩
    simp only [List.set_cons_succ, List.set_cons_zero, Int.zero_add, Int.mul_one]
    rw [s]
    refine ⟨.val (.int i), ?_, rfl⟩
    have hp : (List.zipWith (List.zipWith fun x y => x + y) m m')[i]? = some (List.zipWith (fun x y => x + y) (m[i]'(by omega)) (m'[i]'(by omega))) := by rw [List.getElem?_zipWith, h3, h4]
    rw [take_snoc hp, List.map_append]
    rfl
  · obtain ⟨f5, rfl, rfl⟩ := hI
    rw [stpD_len, List.take_of_length_le (by rw [List.length_zipWith]; omega)]
    exact ⟨f5, rfl⟩
theorem lplOut_ok {l : Nat} {m m' : Mat} {X : List D} {e4 e5 : Sl} (hw : w ≤ 10) (hd : NumD d A) (he : NumD e B) (h1 : A[l]? = some m) (h2 : B[l]? = some m') (o1 : m.length = w ∧ ∀ r ∈ m, r.length = w) (o2 : m'.length = w ∧ ∀ r ∈ m', r.length = w) (hX : X.length ≤ 100) :
    ∃ f4 f5, lplOut lf [.val d, .val e, .own (.lst X), .val (.int l), e4, e5, .no] M = .nx [.val d, .val e, .own (.lst (X ++ [matL (List.zipWith (List.zipWith fun x y => x + y) m m')])), .val (.int l), f4, f5, .no] M := by
  obtain ⟨f5, q⟩ := lplIn_loop (lf := lf) (M := M) (a2 := .own (.lst X)) (e5 := e5) hw hd he h1 h2 o1 o2
  have hl : X.length < sizeLine := Nat.lt_of_le_of_lt hX (by decide)
  have e0 : matL (List.zipWith (List.zipWith fun x y => x + y) m m') = .lst ((List.zipWith (List.zipWith fun x y => x + y) m m').map vL) := rfl
  rw [e0]
  generalize (List.zipWith (List.zipWith fun x y => x + y) m m').map vL = Y at q ⊢
  refine ⟨.val (.lst Y), f5, ?_⟩
  generalize hy : zFor (zRng1 (zCons (zLen lf (zVl (zOp gIx (zCv 0) (zCv 3)))) zNil)) (tgN 5) (lplIn lf) = y at q
  simp only [lplOut, hy]
  simp only [zSeq_z, zFrz_z, zSet_z, zSetO_z, zRet_z, zDrop_z, zIfS_z, zTst_z, zTru_z, zNot_z, zAnd_z, zOr_z, zAndV_z, zNotV_z, zIf_z, zOp_z, zBf_z, zCons_z, zNil_z, zCall_z, sCons_z, sNil_z, zSv_z, zVl_z, zCv_z, zBv_z, zVar_z, zK_z, zNeg_z, zTup_z, zLst_z, zTupOf_z, zLstOf_z, zLen_z, zAt_z, zProp_z, zApp_z, zAugN_z, zSeqI_z, zRng1_z, zRng2_z, zAsg_z, zPart_z, zNoP_z, getPl, setPl, wipeE, List.getElem?_cons_succ, List.getElem?_cons_zero, List.set_cons_succ, List.set_cons_zero, Res.bind_ok, Res.toS_ok, callR1, callR2, callR3, callR0_4, callRk1, callRk2, callRk3', callRk4', List.length_cons, List.length_nil, Nat.zero_add, Nat.reduceAdd, sz1, sz2, sz3, if_true, if_false, Bool.false_eq_true, Bool.not_true, Bool.not_false, zNx_z, zBk_z, zCt_z, itemsD_lst, itemsD_tup, deref_bl, deref_int, deref_str, deref_tup, deref_lst, Option.bind_some, truD, gAdd_int, gSub_int, gMul_int, gMod_int, gCmpI_int, gEq_int, gInt_int, lenR_lst, lenR_blst, lenR_tup, decide_true, decide_false, true_or, or_true, List.map_cons, List.map_nil, q, zFrz, frz, hl, Nat.zero_le]
theorem lplus_loop (hw : w ≤ 10) (hn : n ≤ 10) (hd : NumD d A) (he : NumD e B) (hA : ShS w n A) (hB : ShS w n B) :
    ∃ e3 e4 e5, zFor (zRng1 (zCons (zLen lf (zSv 0)) zNil)) (tgN 3) (lplOut lf) [.val d, .val e, .own (.lst []), .no, .no, .no, .no] M = .nx [.val d, .val e, .own (.lst ((plusS A B).map matL)), e3, e4, e5, .no] M := by
  have ln := hd.len (lf := lf) (M := M)
  have hz : zRng1 (zCons (zLen lf (zSv 0)) zNil) [.val d, .val e, .own (.lst []), .no, .no, .no, .no] M = .ok (stpD 0 1 n) M := by
    simp only [zSeq_z, zFrz_z, zSet_z, zSetO_z, zRet_z, zDrop_z, zIfS_z, zTst_z, zTru_z, zNot_z, zAnd_z, zOr_z, zAndV_z, zNotV_z, zIf_z, zOp_z, zBf_z, zCons_z, zNil_z, zCall_z, sCons_z, sNil_z, zSv_z, zVl_z, zCv_z, zBv_z, zVar_z, zK_z, zNeg_z, zTup_z, zLst_z, zTupOf_z, zLstOf_z, zLen_z, zAt_z, zProp_z, zApp_z, zAugN_z, zSeqI_z, zRng1_z, zRng2_z, zAsg_z, zPart_z, zNoP_z, getPl, setPl, wipeE, List.getElem?_cons_succ, List.getElem?_cons_zero, List.set_cons_succ, List.set_cons_zero, Res.bind_ok, Res.toS_ok, callR1, callR2, callR3, callR0_4, callRk1, callRk2, callRk3', callRk4', List.length_cons, List.length_nil, Nat.zero_add, Nat.reduceAdd, sz1, sz2, sz3, if_true, if_false, Bool.false_eq_true, Bool.not_true, Bool.not_false, zNx_z, zBk_z, zCt_z, itemsD_lst, itemsD_tup, deref_bl, deref_int, deref_str, deref_tup, deref_lst, Option.bind_some, truD, gAdd_int, gSub_int, gMul_int, gMod_int, gCmpI_int, gEq_int, gInt_int, lenR_lst, lenR_blst, lenR_tup, decide_true, decide_false, true_or, or_true, List.map_cons, List.map_nil, ln, hA.1]
    exact rngR_nat n (by omega)
  have hb := fun (l : Nat) (m m' : Mat) (X : List D) (e4 e5 : Sl) (h1 : A[l]? = some m) (h2 : B[l]? = some m') => lplOut_ok (lf := lf) (M := M) (X := X) (e4 := e4) (e5 := e5) hw hd he h1 h2 (hA.2 m (List.mem_of_getElem? h1)) (hB.2 m' (List.mem_of_getElem? h2))
  generalize lplOut lf = y at hb
  have hlp : (plusS A B).length = n := by simp [plusS, hA.1, hB.1]
  refine zFor_gen (I := fun i env M' => ∃ e3 e4 e5, env = [.val d, .val e, .own (.lst (((plusS A B).take i).map matL)), e3, e4, e5, .no] ∧ M' = M)
    (Q := fun o => ∃ e3 e4 e5, o = .nx [.val d, .val e, .own (.lst ((plusS A B).map matL)), e3, e4, e5, .no] M) hz ⟨.no, .no, .no, rfl, rfl⟩ (fun i x env M' hi hI => ?_) fun env M' hI => ?_
  · obtain ⟨e3, e4, e5, rfl, rfl⟩ := hI
    obtain ⟨rfl, hlt⟩ := stpD_get hi
    have h3 : A[i]? = some (A[i]'(by rw [hA.1]; exact hlt)) := List.getElem?_eq_getElem _
    have h4 : B[i]? = some (B[i]'(by rw [hB.1]; exact hlt)) := List.getElem?_eq_getElem _
    obtain ⟨f4, f5, s⟩ := hb i _ _ (((plusS A B).take i).map matL) e4 e5 h3 h4 (by rw [List.length_map, List.length_take]; omega)
    refine ⟨_, rfl, ?_⟩
    simp only [List.set_cons_succ, List.set_cons_zero, Int.zero_add, Int.mul_one]
    rw [s]
    refine ⟨.val (.int i), f4, f5, ?_, rfl⟩
    have hp : (plusS A B)[i]? = some (List.zipWith (List.zipWith fun x y => x + y) (A[i]'(by rw [hA.1]; exact hlt)) (B[i]'(by rw [hB.1]; exact hlt))) := by unfold plusS; rw [List.getElem?_zipWith, h3, h4]
    rw [take_snoc hp, List.map_append]
    rfl
  · obtain ⟨e3, e4, e5, rfl, rfl⟩ := hI
    rw [stpD_len, List.take_of_length_le (by omega)]
    exact ⟨e3, e4, e5, rfl⟩
end
theorem lplus_seq {y : ZS} {a b e3 e4 e5 : Sl} {X : List D} {M : Sto} (hy : y [a, b, .own (.lst []), .no, .no, .no, .no] M = .nx [a, b, .own (.lst X), e3, e4, e5, .no] M) :
    zFun 2 7 (zSeq (zFrz [] (zSetO 2 (zLst zNil))) (zSeq (zFrz [] y) (zSeq (zFrz [2] (zRet (zVar 2))) zNx))) [a, b] M = .ok (.lst X) M := by
  unfold zFun
  simp [hy, zFrz, frz]
theorem lPlusOk {lf : Lens} : LPlusOk (zFun 2 7 (lPlus lf)) := fun M w n d e A B hw hn hd he hA hB => by
  obtain ⟨e3, e4, e5, q⟩ := lplus_loop (lf := lf) (M := M) hw hn hd he hA hB
  exact lplus_seq q
/-! W - rate * slope -/
def llRow (lf : Lens) : ZX := zLc (zRng1 (zCons (zLen lf (zSv 7)) zNil)) (tgN 8) (fun _ M => .ok true M) (zOp gMod (zBf gInt (zCons (zOp gSub (zOp gIx (zCv 7) (zCv 8)) (zOp gMul (zCv 2) (zOp gIx (zOp gIx (zOp gIx (zCv 1) (zCv 4)) (zCv 6)) (zCv 8)))) zNil)) (zOp gIx (zCv 0) (zK (.int 0)))) [8]
def llIn (lf : Lens) : ZS := (zSeq (zFrz [] (zSet 7 (zOp gIx (zOp gIx (zOp gIx (zCv 0) (zK (.int 1))) (zCv 4)) (zCv 6))))
      (zSeq (zFrz [] (zApp 5 (zTupOf (llRow lf))))
      zNx))
def llOut (lf : Lens) : ZS := (zSeq (zFrz [] (zSetO 5 (zLst zNil)))
      (zSeq (zFrz [] (zFor (zRng1 (zCons (zLen lf (zVl (zOp gIx (zCv 1) (zCv 4)))) zNil)) (tgN 6) (llIn lf)))
      (zSeq (zFrz [] (zApp 3 (zTupOf (zCv 5))))
      zNx)))
def lLess (lf : Lens) : ZS :=
  (zSeq (zFrz [] (zSetO 3 (zLst zNil)))
      (zSeq (zFrz [] (zFor (zRng1 (zCons (zLen lf (zVl (zOp gIx (zCv 0) (zK (.int 1))))) zNil)) (tgN 4) (llOut lf)))
      (zSeq (zFrz [] (zRet (zTupOf (zCv 3))))
      zNx)))
def LLessOk (f : Sem1) : Prop := ∀ M w p ws ks (r : Int) d S, NetS w p ws ks → NumD d S → ShS w ws.length S → smallI r → f [.val (netT p ws ks), .val d, .val (.int r)] M = .ok (wsD (chgS p r ws S)) M
section
variable {lf : Lens} {M : Sto} {w : Nat} {p r : Int} {ws : List Mat} {ks : List Bool} {d : D} {S : List Mat}
theorem llRow_ok {a3 a5 : Sl} {l i : Nat} {m m' : Mat} {q q' : Vec} (h : NetS w p ws ks) (hr : smallI r) (hd : NumD d S) (h2 : S[l]? = some m') (h4 : m'[i]? = some q') (l2 : q.length = w) (l3 : q'.length = w) :
    llRow lf [.val (netT p ws ks), .val d, .val (.int r), a3, .val (.int l), a5, .val (.int i), .val (rowD q), .no] M = .ok (.lst ((List.zipWith (fun x y => (x - r * y) % p) q q').map .int)) M := by
  obtain ⟨c', k2, g2⟩ := hd.ix h2
  obtain ⟨t, k4, g4⟩ := k2.ix h4
  have p0 := h.p0
  have c0 := lcRng (env := [.val (netT p ws ks), .val d, .val (.int r), a3, .val (.int l), a5, .val (.int i), .val (rowD q), .no]) (M := M) (M1 := M) (za := zLen lf (zSv 7)) (ze := zOp gMod (zBf gInt (zCons (zOp gSub (zOp gIx (zCv 7) (zCv 8)) (zOp gMul (zCv 2) (zOp gIx (zOp gIx (zOp gIx (zCv 1) (zCv 4)) (zCv 6)) (zCv 8)))) zNil)) (zOp gIx (zCv 0) (zK (.int 0)))) (vs := [8]) (i := 8) (n := w) (fun j => .int ((q.getD j 0 - r * q'.getD j 0) % p))
    (by simp only [zSeq_z, zFrz_z, zSet_z, zSetO_z, zRet_z, zDrop_z, zIfS_z, zTst_z, zTru_z, zNot_z, zAnd_z, zOr_z, zAndV_z, zNotV_z, zIf_z, zOp_z, zBf_z, zCons_z, zNil_z, zCall_z, sCons_z, sNil_z, zSv_z, zVl_z, zCv_z, zBv_z, zVar_z, zK_z, zNeg_z, zTup_z, zLst_z, zTupOf_z, zLstOf_z, zLen_z, zAt_z, zProp_z, zApp_z, zAugN_z, zSeqI_z, zRng1_z, zRng2_z, zAsg_z, zPart_z, zNoP_z, getPl, setPl, wipeE, List.getElem?_cons_succ, List.getElem?_cons_zero, List.set_cons_succ, List.set_cons_zero, Res.bind_ok, Res.toS_ok, callR1, callR2, callR3, callR0_4, callRk1, callRk2, callRk3', callRk4', List.length_cons, List.length_nil, Nat.zero_add, Nat.reduceAdd, sz1, sz2, sz3, if_true, if_false, Bool.false_eq_true, Bool.not_true, Bool.not_false, zNx_z, zBk_z, zCt_z, itemsD_lst, itemsD_tup, deref_bl, deref_int, deref_str, deref_tup, deref_lst, Option.bind_some, truD, gAdd_int, gSub_int, gMul_int, gMod_int, gCmpI_int, gEq_int, gInt_int, lenR_lst, lenR_blst, lenR_tup, decide_true, decide_false, true_or, or_true, List.map_cons, List.map_nil, len_vec (VecD.row q), l2]) rfl (by have := h.w3; omega) fun j hj => by
      have t1 := ix_vec (M := M) (VecD.row q) (k := j) (by omega)
      have t2 := ix_vec (M := M) k4 (k := j) (by omega)
      simp only [zSeq_z, zFrz_z, zSet_z, zSetO_z, zRet_z, zDrop_z, zIfS_z, zTst_z, zTru_z, zNot_z, zAnd_z, zOr_z, zAndV_z, zNotV_z, zIf_z, zOp_z, zBf_z, zCons_z, zNil_z, zCall_z, sCons_z, sNil_z, zSv_z, zVl_z, zCv_z, zBv_z, zVar_z, zK_z, zNeg_z, zTup_z, zLst_z, zTupOf_z, zLstOf_z, zLen_z, zAt_z, zProp_z, zApp_z, zAugN_z, zSeqI_z, zRng1_z, zRng2_z, zAsg_z, zPart_z, zNoP_z, getPl, setPl, wipeE, List.getElem?_cons_succ, List.getElem?_cons_zero, List.set_cons_succ, List.set_cons_zero, Res.bind_ok, Res.toS_ok, callR1, callR2, callR3, callR0_4, callRk1, callRk2, callRk3', callRk4', List.length_cons, List.length_nil, Nat.zero_add, Nat.reduceAdd, sz1, sz2, sz3, if_true, if_false, Bool.false_eq_true, Bool.not_true, Bool.not_false, zNx_z, zBk_z, zCt_z, itemsD_lst, itemsD_tup, deref_bl, deref_int, deref_str, deref_tup, deref_lst, Option.bind_some, truD, gAdd_int, gSub_int, gMul_int, gMod_int, gCmpI_int, gEq_int, gInt_int, lenR_lst, lenR_blst, lenR_tup, decide_true, decide_false, true_or, or_true, List.map_cons, List.map_nil, g2 M, g4 M, t1, t2, hr, ixT0, p0]
  rw [zip_range2 0 _ (show q.length = q'.length by omega), List.map_map, l3]
  exact c0
theorem llIn_loop {a3 e6 e7 : Sl} {l : Nat} {m m' : Mat} (h : NetS w p ws ks) (hr : smallI r) (hd : NumD d S) (h1 : ws[l]? = some m) (h2 : S[l]? = some m') (o2 : m'.length = w ∧ ∀ r ∈ m', r.length = w) :
    ∃ f6 f7, zFor (zRng1 (zCons (zLen lf (zVl (zOp gIx (zCv 1) (zCv 4)))) zNil)) (tgN 6) (llIn lf) [.val (netT p ws ks), .val d, .val (.int r), a3, .val (.int l), .own (.lst []), e6, e7, .no] M =
      .nx [.val (netT p ws ks), .val d, .val (.int r), a3, .val (.int l), .own (.lst ((chgM p r m m').map rowD)), f6, f7, .no] M := by
  obtain ⟨c', k2, g2⟩ := hd.ix h2
  have ln := k2.len (lf := lf) (M := M)
  have o1 := rows_at h h1
  have w3 := h.w3
  have hz : zRng1 (zCons (zLen lf (zVl (zOp gIx (zCv 1) (zCv 4)))) zNil) [.val (netT p ws ks), .val d, .val (.int r), a3, .val (.int l), .own (.lst []), e6, e7, .no] M = .ok (stpD 0 1 w) M := by
    simp only [zSeq_z, zFrz_z, zSet_z, zSetO_z, zRet_z, zDrop_z, zIfS_z, zTst_z, zTru_z, zNot_z, zAnd_z, zOr_z, zAndV_z, zNotV_z, zIf_z, zOp_z, zBf_z, zCons_z, zNil_z, zCall_z, sCons_z, sNil_z, zSv_z, zVl_z, zCv_z, zBv_z, zVar_z, zK_z, zNeg_z, zTup_z, zLst_z, zTupOf_z, zLstOf_z, zLen_z, zAt_z, zProp_z, zApp_z, zAugN_z, zSeqI_z, zRng1_z, zRng2_z, zAsg_z, zPart_z, zNoP_z, getPl, setPl, wipeE, List.getElem?_cons_succ, List.getElem?_cons_zero, List.set_cons_succ, List.set_cons_zero, Res.bind_ok, Res.toS_ok, callR1, callR2, callR3, callR0_4, callRk1, callRk2, callRk3', callRk4', List.length_cons, List.length_nil, Nat.zero_add, Nat.reduceAdd, sz1, sz2, sz3, if_true, if_false, Bool.false_eq_true, Bool.not_true, Bool.not_false, zNx_z, zBk_z, zCt_z, itemsD_lst, itemsD_tup, deref_bl, deref_int, deref_str, deref_tup, deref_lst, Option.bind_some, truD, gAdd_int, gSub_int, gMul_int, gMod_int, gCmpI_int, gEq_int, gInt_int, lenR_lst, lenR_blst, lenR_tup, decide_true, decide_false, true_or, or_true, List.map_cons, List.map_nil, g2 M, ln, o2.1]
    exact rngR_nat w (by omega)
  have hb : ∀ (i : Nat) (q q' : Vec) (X : List D) (e7 : Sl), m[i]? = some q → m'[i]? = some q' → X.length ≤ 100 → llIn lf [.val (netT p ws ks), .val d, .val (.int r), a3, .val (.int l), .own (.lst X), .val (.int i), e7, .no] M = .nx [.val (netT p ws ks), .val d, .val (.int r), a3, .val (.int l), .own (.lst (X ++ [rowD (List.zipWith (fun x y => (x - r * y) % p) q q')])), .val (.int i), .val (rowD q), .no] M := fun i q q' X e7 h3 h4 hX => by
    have t := llRow_ok (lf := lf) (M := M) (m := m) (a3 := a3) (a5 := .own (.lst X)) (i := i) h hr hd h2 h4 (o1.2 q (List.mem_of_getElem? h3)).1 (o2.2 q' (List.mem_of_getElem? h4))
    have hl : X.length < sizeLine := Nat.lt_of_le_of_lt hX (by decide)
    have g : gIx (matD m) (.int (i : Nat)) M = .ok (rowD q) M := gIx_map h3 rfl
    have e : rowD (List.zipWith (fun x y => (x - r * y) % p) q q') = .tup ((List.zipWith (fun x y => (x - r * y) % p) q q').map .int) := rfl
    rw [e]
    generalize (List.zipWith (fun x y => (x - r * y) % p) q q').map D.int = Y at t ⊢
    simp only [zSeq_z, zFrz_z, zSet_z, zSetO_z, zRet_z, zDrop_z, zIfS_z, zTst_z, zTru_z, zNot_z, zAnd_z, zOr_z, zAndV_z, zNotV_z, zIf_z, zOp_z, zBf_z, zCons_z, zNil_z, zCall_z, sCons_z, sNil_z, zSv_z, zVl_z, zCv_z, zBv_z, zVar_z, zK_z, zNeg_z, zTup_z, zLst_z, zTupOf_z, zLstOf_z, zLen_z, zAt_z, zProp_z, zApp_z, zAugN_z, zSeqI_z, zRng1_z, zRng2_z, zAsg_z, zPart_z, zNoP_z, getPl, setPl, wipeE, List.getElem?_cons_succ, List.getElem?_cons_zero, List.set_cons_succ, List.set_cons_zero, Res.bind_ok, Res.toS_ok, callR1, callR2, callR3, callR0_4, callRk1, callRk2, callRk3', callRk4', List.length_cons, List.length_nil, Nat.zero_add, Nat.reduceAdd, sz1, sz2, sz3, if_true, if_false, Bool.false_eq_true, Bool.not_true, Bool.not_false, zNx_z, zBk_z, zCt_z, itemsD_lst, itemsD_tup, deref_bl, deref_int, deref_str, deref_tup, deref_lst, Option.bind_some, truD, gAdd_int, gSub_int, gMul_int, gMod_int, gCmpI_int, gEq_int, gInt_int, lenR_lst, lenR_blst, lenR_tup, decide_true, decide_false, true_or, or_true, List.map_cons, List.map_nil, llIn, ixT1, ix_mat h1, g, t, hl]
  generalize llIn lf = y at hb
  have hlen : (chgM p r m m').length = w := by simp [chgM, o1.1, o2.1]
  refine zFor_gen (I := fun i env M' => ∃ f6 f7, env = [.val (netT p ws ks), .val d, .val (.int r), a3, .val (.int l), .own (.lst (((chgM p r m m').take i).map rowD)), f6, f7, .no] ∧ M' = M)
    (Q := fun o => ∃ f6 f7, o = .nx [.val (netT p ws ks), .val d, .val (.int r), a3, .val (.int l), .own (.lst ((chgM p r m m').map rowD)), f6, f7, .no] M) hz ⟨e6, e7, rfl, rfl⟩ (fun i x env M' hi hI => ?_) fun env M' hI => ?_
  · obtain ⟨f6, f7, rfl, rfl⟩ := hI
    obtain ⟨rfl, hlt⟩ := stpD_get hi
    have h3 : m[i]? = some (m[i]'(by have := o1.1; omega)) := List.getElem?_eq_getElem _
    have h4 : m'[i]? = some (m'[i]'(by omega)) := List.getElem?_eq_getElem _
    have s := hb i _ _ (((chgM p r m m').take i).map rowD) f7 h3 h4 (by rw [List.length_map, List.length_take]; omega)
    refine ⟨_, rfl, ?_⟩
    simp only [List.set_cons_succ, List.set_cons_zero, Int.zero_add, Int.mul_one]
    rw [s]
    refine ⟨.val (.int i), .val (rowD (m[i]'(by have := o1.1; omega))), ?_, rfl⟩
    have hp : (chgM p r m m')[i]? = some (List.zipWith (fun x y => (x - r * y) % p) (m[i]'(by have := o1.1; omega)) (m'[i]'(by omega))) := by unfold chgM; rw [List.getElem?_zipWith, h3, h4]
    rw [take_snoc hp, List.map_append]
    rfl
  · obtain ⟨f6, f7, rfl, rfl⟩ := hI
    rw [stpD_len, List.take_of_length_le (by omega)]
    exact ⟨f6, f7, rfl⟩
theorem llOut_ok {l : Nat} {m m' : Mat} {X : List D} {e5 e6 e7 : Sl} (h : NetS w p ws ks) (hr : smallI r) (hd : NumD d S) (h1 : ws[l]? = some m) (h2 : S[l]? = some m') (o2 : m'.length = w ∧ ∀ r ∈ m', r.length = w) (hX : X.length ≤ 100) :
    ∃ f5 f6 f7, llOut lf [.val (netT p ws ks), .val d, .val (.int r), .own (.lst X), .val (.int l), e5, e6, e7, .no] M = .nx [.val (netT p ws ks), .val d, .val (.int r), .own (.lst (X ++ [matD (chgM p r m m')])), .val (.int l), f5, f6, f7, .no] M := by
  obtain ⟨f6, f7, q⟩ := llIn_loop (lf := lf) (M := M) (a3 := .own (.lst X)) (e6 := e6) (e7 := e7) h hr hd h1 h2 o2
  have hl : X.length < sizeLine := Nat.lt_of_le_of_lt hX (by decide)
  have e0 : matD (chgM p r m m') = .tup ((chgM p r m m').map rowD) := rfl
  rw [e0]
  generalize (chgM p r m m').map rowD = Y at q ⊢
  refine ⟨.own (.lst Y), f6, f7, ?_⟩
  generalize hy : zFor (zRng1 (zCons (zLen lf (zVl (zOp gIx (zCv 1) (zCv 4)))) zNil)) (tgN 6) (llIn lf) = y at q
  simp only [llOut, hy]
  simp only [zSeq_z, zFrz_z, zSet_z, zSetO_z, zRet_z, zDrop_z, zIfS_z, zTst_z, zTru_z, zNot_z, zAnd_z, zOr_z, zAndV_z, zNotV_z, zIf_z, zOp_z, zBf_z, zCons_z, zNil_z, zCall_z, sCons_z, sNil_z, zSv_z, zVl_z, zCv_z, zBv_z, zVar_z, zK_z, zNeg_z, zTup_z, zLst_z, zTupOf_z, zLstOf_z, zLen_z, zAt_z, zProp_z, zApp_z, zAugN_z, zSeqI_z, zRng1_z, zRng2_z, zAsg_z, zPart_z, zNoP_z, getPl, setPl, wipeE, List.getElem?_cons_succ, List.getElem?_cons_zero, List.set_cons_succ, List.set_cons_zero, Res.bind_ok, Res.toS_ok, callR1, callR2, callR3, callR0_4, callRk1, callRk2, callRk3', callRk4', List.length_cons, List.length_nil, Nat.zero_add, Nat.reduceAdd, sz1, sz2, sz3, if_true, if_false, Bool.false_eq_true, Bool.not_true, Bool.not_false, zNx_z, zBk_z, zCt_z, itemsD_lst, itemsD_tup, deref_bl, deref_int, deref_str, deref_tup, deref_lst, Option.bind_some, truD, gAdd_int, gSub_int, gMul_int, gMod_int, gCmpI_int, gEq_int, gInt_int, lenR_lst, lenR_blst, lenR_tup, decide_true, decide_false, true_or, or_true, List.map_cons, List.map_nil, q, hl, Nat.zero_le]
theorem lless_loop (h : NetS w p ws ks) (hr : smallI r) (hd : NumD d S) (hS : ShS w ws.length S) :
    ∃ e4 e5 e6 e7, zFor (zRng1 (zCons (zLen lf (zVl (zOp gIx (zCv 0) (zK (.int 1))))) zNil)) (tgN 4) (llOut lf) [.val (netT p ws ks), .val d, .val (.int r), .own (.lst []), .no, .no, .no, .no, .no] M = .nx [.val (netT p ws ks), .val d, .val (.int r), .own (.lst ((chgS p r ws S).map matD)), e4, e5, e6, e7, .no] M := by
  have n6 := h.n6
  have hz : zRng1 (zCons (zLen lf (zVl (zOp gIx (zCv 0) (zK (.int 1))))) zNil) [.val (netT p ws ks), .val d, .val (.int r), .own (.lst []), .no, .no, .no, .no, .no] M = .ok (stpD 0 1 ws.length) M := by
    have e : lenR lf (.val (wsD ws)) M = .ok (.int ws.length) M := by
      unfold wsD
      rw [lenR_tup, List.length_map]
    simp only [zSeq_z, zFrz_z, zSet_z, zSetO_z, zRet_z, zDrop_z, zIfS_z, zTst_z, zTru_z, zNot_z, zAnd_z, zOr_z, zAndV_z, zNotV_z, zIf_z, zOp_z, zBf_z, zCons_z, zNil_z, zCall_z, sCons_z, sNil_z, zSv_z, zVl_z, zCv_z, zBv_z, zVar_z, zK_z, zNeg_z, zTup_z, zLst_z, zTupOf_z, zLstOf_z, zLen_z, zAt_z, zProp_z, zApp_z, zAugN_z, zSeqI_z, zRng1_z, zRng2_z, zAsg_z, zPart_z, zNoP_z, getPl, setPl, wipeE, List.getElem?_cons_succ, List.getElem?_cons_zero, List.set_cons_succ, List.set_cons_zero, Res.bind_ok, Res.toS_ok, callR1, callR2, callR3, callR0_4, callRk1, callRk2, callRk3', callRk4', List.length_cons, List.length_nil, Nat.zero_add, Nat.reduceAdd, sz1, sz2, sz3, if_true, if_false, Bool.false_eq_true, Bool.not_true, Bool.not_false, zNx_z, zBk_z, zCt_z, itemsD_lst, itemsD_tup, deref_bl, deref_int, deref_str, deref_tup, deref_lst, Option.bind_some, truD, gAdd_int, gSub_int, gMul_int, gMod_int, gCmpI_int, gEq_int, gInt_int, lenR_lst, lenR_blst, lenR_tup, decide_true, decide_false, true_or, or_true, List.map_cons, List.map_nil, ixT1, e]
    exact rngR_nat _ (by omega)
  have hb := fun (l : Nat) (m m' : Mat) (X : List D) (e5 e6 e7 : Sl) (h1 : ws[l]? = some m) (h2 : S[l]? = some m') => llOut_ok (lf := lf) (M := M) (X := X) (e5 := e5) (e6 := e6) (e7 := e7) h hr hd h1 h2 (hS.2 m' (List.mem_of_getElem? h2))
  generalize llOut lf = y at hb
  have hlp : (chgS p r ws S).length = ws.length := by simp [chgS, hS.1]
  refine zFor_gen (I := fun i env M' => ∃ e4 e5 e6 e7, env = [.val (netT p ws ks), .val d, .val (.int r), .own (.lst (((chgS p r ws S).take i).map matD)), e4, e5, e6, e7, .no] ∧ M' = M)
    (Q := fun o => ∃ e4 e5 e6 e7, o = .nx [.val (netT p ws ks), .val d, .val (.int r), .own (.lst ((chgS p r ws S).map matD)), e4, e5, e6, e7, .no] M) hz ⟨.no, .no, .no, .no, rfl, rfl⟩ (fun i x env M' hi hI => ?_) fun env M' hI => ?_
  · obtain ⟨e4, e5, e6, e7, rfl, rfl⟩ := hI
    obtain ⟨rfl, hlt⟩ := stpD_get hi
    have h3 : ws[i]? = some ws[i] := List.getElem?_eq_getElem hlt
    have h4 : S[i]? = some (S[i]'(by rw [hS.1]; exact hlt)) := List.getElem?_eq_getElem _
    obtain ⟨f5, f6, f7, s⟩ := hb i _ _ (((chgS p r ws S).take i).map matD) e5 e6 e7 h3 h4 (by rw [List.length_map, List.length_take]; omega)
    refine ⟨_, rfl, ?_⟩
    simp only [List.set_cons_succ, List.set_cons_zero, Int.zero_add, Int.mul_one]
    rw [s]
    refine ⟨.val (.int i), f5, f6, f7, ?_, rfl⟩
    have hp : (chgS p r ws S)[i]? = some (chgM p r ws[i] (S[i]'(by rw [hS.1]; exact hlt))) := by unfold chgS; rw [List.getElem?_zipWith, h3, h4]
    rw [take_snoc hp, List.map_append]
    rfl
  · obtain ⟨e4, e5, e6, e7, rfl, rfl⟩ := hI
    rw [stpD_len, List.take_of_length_le (by omega)]
    exact ⟨e4, e5, e6, e7, rfl⟩
end
theorem lless_seq {y : ZS} {a b c e4 e5 e6 e7 : Sl} {X : List D} {M : Sto} (hy : y [a, b, c, .own (.lst []), .no, .no, .no, .no, .no] M = .nx [a, b, c, .own (.lst X), e4, e5, e6, e7, .no] M) :
    zFun 3 9 (zSeq (zFrz [] (zSetO 3 (zLst zNil))) (zSeq (zFrz [] y) (zSeq (zFrz [] (zRet (zTupOf (zCv 3)))) zNx))) [a, b, c] M = .ok (.tup X) M := by
  unfold zFun
  simp [hy]
theorem lLessOk {lf : Lens} : LLessOk (zFun 3 9 (lLess lf)) := fun M w p ws ks r d S h hd hS hr => by
  obtain ⟨e4, e5, e6, e7, q⟩ := lless_loop (lf := lf) (M := M) h hr hd hS
  exact lless_seq q
/-! is it this net -/
def lIs (ats : Ats) : ZS :=
  (zSeq (zFrz [] (zRet (zAndV (zIsC "Net" (zCv 0)) (zOp gEq (zBf gRepr (zCons (zLst (zCons (zAt ats "prime" (zCv 0)) (zCons (zAt ats "weights" (zCv 0)) (zCons (zAt ats "kinds" (zCv 0)) zNil)))) zNil)) (zBf gRepr (zCons (zLst (zCons (zOp gIx (zCv 1) (zK (.int 0))) (zCons (zVar 2) (zCons (zOp gIx (zCv 1) (zK (.int 2))) zNil)))) zNil))))))
      zNx)
def LIsOk (f : Sem1) : Prop := ∀ M w p ws ws0 ks, NetS w p ws ks → f [.val (netO p ws ks), .val (netT p ws0 ks), .val (wsD ws)] M = .ok (.bl true) M
theorem lIsOk {ats : Ats} (ha : NetAts ats) : LIsOk (zFun 3 3 (lIs ats)) := fun M w p ws ws0 ks h => by
  obtain ⟨s, hs⟩ := repr_net h
  have c : zIsC "Net" (zCv 0) [.val (netO p ws ks), .val (netT p ws0 ks), .val (wsD ws)] M = .ok (.bl true) M := by
    rw [zIsC_z, zCv_z]
    rfl
  unfold zFun
  simp [-zIsC_z, lIs, c, at_prime ha, at_weights ha, at_kinds ha, ixT0, ixT2, hs, gEq_strs]
end Zy
set_option maxHeartbeats 2000000
namespace Zy
open PySem PySem.Spec PyProof.Rows L2
/-! sums by index -/
def sumN : Nat → (Nat → Int) → Int
  | 0, _ => 0
  | n + 1, f => sumN n f + f n
theorem sumN_range (f : Nat → Int) : ∀ n, ((List.range n).map f).sum = sumN n f
  | 0 => rfl
  | n + 1 => by
    rw [List.range_succ, List.map_append, List.sum_append, sumN_range f n]
    simp [sumN]
theorem sumN_ext {f g : Nat → Int} : ∀ {n}, (∀ k, k < n → f k = g k) → sumN n f = sumN n g
  | 0, _ => rfl
  | n + 1, h => by rw [sumN, sumN, sumN_ext fun k hk => h k (by omega), h n (by omega)]
theorem sumN_mod {p : Int} {f g : Nat → Int} : ∀ {n}, (∀ k, k < n → f k % p = g k % p) → sumN n f % p = sumN n g % p
  | 0, _ => rfl
  | n + 1, h => mod_add2 (sumN_mod fun k hk => h k (by omega)) (h n (by omega))
theorem sumN_add {f g : Nat → Int} : ∀ {n}, sumN n (fun k => f k + g k) = sumN n f + sumN n g
  | 0 => rfl
  | n + 1 => by
    rw [sumN, sumN, sumN, sumN_add]
    omega
theorem sumN_mul {c : Int} {f : Nat → Int} : ∀ {n}, c * sumN n f = sumN n fun k => c * f k
  | 0 => by simp [sumN]
  | n + 1 => by rw [sumN, sumN, Int.mul_add, sumN_mul]
theorem sumN_mulr {c : Int} {f : Nat → Int} {n : Nat} : sumN n f * c = sumN n fun k => f k * c := by
  rw [Int.mul_comm, sumN_mul]
  exact sumN_ext fun k _ => Int.mul_comm ..
theorem sumN_zero {n : Nat} : sumN n (fun _ => 0) = 0 := by
  induction n with
  | zero => rfl
  | succ n ih => rw [sumN, ih]; rfl
theorem sumN_swap {m : Nat} {f : Nat → Nat → Int} : ∀ {n}, sumN n (fun a => sumN m fun b => f a b) = sumN m fun b => sumN n fun a => f a b
  | 0 => sumN_zero.symm
  | n + 1 => by
    rw [sumN, sumN_swap, ← sumN_add]
    exact sumN_ext fun k _ => rfl
theorem sumN_one {f : Nat → Int} {i : Nat} : ∀ {n}, sumN n (fun k => if k = i then f k else 0) = if i < n then f i else 0
  | 0 => by simp [sumN]
  | n + 1 => by
    rw [sumN, sumN_one]
    by_cases h : n = i
    · subst h
      simp
    · rw [if_neg h, Int.add_zero]
      by_cases h2 : i < n
      · rw [if_pos h2, if_pos (by omega)]
      · rw [if_neg h2, if_neg (by omega)]
theorem zip_sum {α : Type} (e : α) (f : Int → α → Int) {r : Vec} {v : List α} {w : Nat} (h : r.length = w) (k : v.length = w) : (List.zipWith f r v).sum = sumN w fun k => f (r.getD k 0) (v.getD k e) := by
  rw [zip_range2 e f (by omega), k, sumN_range]
theorem dot_sum {r v : Vec} {w : Nat} (h : r.length = w) (k : v.length = w) : dot r v = sumN w fun c => r.getD c 0 * v.getD c 0 := zip_sum 0 _ h k
theorem range_getD {f : Nat → Int} {n k : Nat} (h : k < n) : ((List.range n).map f).getD k 0 = f k := by
  simp [List.getD, List.getElem?_map, List.getElem?_range h]
theorem map_getD {m : Mat} {f : Vec → Int} {k : Nat} (h : k < m.length) : (m.map f).getD k 0 = f (m.getD k []) := by
  simp [List.getD, List.getElem?_map, List.getElem?_eq_getElem h]
theorem map_range_getD {α β : Type} (d : α) (f : α → β) (m : List α) : m.map f = (List.range m.length).map fun k => f (m.getD k d) := by
  refine List.ext_getElem? fun i => ?_
  by_cases hi : i < m.length
  · rw [List.getElem?_map, List.getElem?_map, List.getElem?_range hi, List.getElem?_eq_getElem hi]
    simp [List.getD, List.getElem?_eq_getElem hi]
  · rw [List.getElem?_eq_none (by rw [List.length_map]; omega), List.getElem?_eq_none (by rw [List.length_map, List.length_range]; omega)]
theorem getD_mem {m : Mat} {k : Nat} (h : k < m.length) : m.getD k [] ∈ m := by
  simp only [List.getD, List.getElem?_eq_getElem h, Option.getD_some]
  exact List.getElem_mem h
theorem mul_mod2 {a b c d p : Int} (h : a % p = b % p) (k : c % p = d % p) : (a * c) % p = (b * d) % p := by rw [Int.mul_emod, h, k, ← Int.mul_emod]
theorem mod_self {a p : Int} : (a % p) % p = a % p := Int.emod_emod ..
/-! numbers a + b t through a net, t * t = 0 -/
def exJ (on : Bool) (i j : Nat) (a : Vec) (R : Nat) : Int := if on && decide (R = i) then a.getD j 0 else 0
def stB (p : Int) (w : Nat) (m : Mat) (k : Bool) (a b : Vec) (ex : Nat → Int) : Vec := (List.range w).map fun R => (if k then 2 * dot (m.getD R []) a * (dot (m.getD R []) b + ex R) else dot (m.getD R []) b + ex R) % p
def tanV (p : Int) (w l i j : Nat) : Nat → List Mat → List Bool → Vec → Vec → Vec
  | L, m :: ms, k :: ks, a, b => tanV p w l i j (L + 1) ms ks (fwdV p m k a) (stB p w m k a b (exJ (decide (L = l)) i j a))
  | _, _, _, _, b => b
theorem stB_len {p : Int} {w : Nat} {m : Mat} {k : Bool} {a b : Vec} {ex : Nat → Int} : (stB p w m k a b ex).length = w := by simp [stB]
theorem stB_lt {p : Int} (hp : 0 < p) {w : Nat} {m : Mat} {k : Bool} {a b : Vec} {ex : Nat → Int} : Lt p (stB p w m k a b ex) := Lt.mod hp _ _
theorem tanV_len {p : Int} {w l i j : Nat} : ∀ {L : Nat} {ms : List Mat} {ks : List Bool} {a b : Vec}, b.length = w → (tanV p w l i j L ms ks a b).length = w
  | _, [], _, _, b, h => by simpa [tanV] using h
  | _, _ :: _, [], _, b, h => by simpa [tanV] using h
  | L, m :: ms, k :: ks, a, b, h => by rw [tanV]; exact tanV_len stB_len
theorem tanV_lt {p : Int} (hp : 0 < p) {w l i j : Nat} : ∀ {L : Nat} {ms : List Mat} {ks : List Bool} {a b : Vec}, Lt p b → Lt p (tanV p w l i j L ms ks a b)
  | _, [], _, _, b, h => by simpa [tanV] using h
  | _, _ :: _, [], _, b, h => by simpa [tanV] using h
  | L, m :: ms, k :: ks, a, b, h => by rw [tanV]; exact tanV_lt hp (stB_lt hp)
/-- one layer: the way back is the other side of the way there -/
theorem layer_dual {p : Int} (hp : 0 < p) {w : Nat} {m : Mat} (hm : MatOk w p m) {k : Bool} {a b g : Vec} (ha : a.length = w) (hb : b.length = w) (hg : g.length = w) (ex : Nat → Int) :
    sumN w (fun R => g.getD R 0 * (stB p w m k a b ex).getD R 0) % p = (sumN w (fun c => (backIn p m (psV p m k a g) w).getD c 0 * b.getD c 0) + sumN w fun R => (psV p m k a g).getD R 0 * ex R) % p := by
  have hq := psV_len (p := p) (k := k) (v := a) hm.1 hg
  have step1 : sumN w (fun R => g.getD R 0 * (stB p w m k a b ex).getD R 0) % p = sumN w (fun R => (psV p m k a g).getD R 0 * (dot (m.getD R []) b + ex R)) % p := sumN_mod fun R hR => by
    have hRm : R < m.length := by rw [hm.1]; exact hR
    rw [stB, range_getD hR]
    cases k with
    | false =>
      show (g.getD R 0 * ((dot (m.getD R []) b + ex R) % p)) % p = (g.getD R 0 * (dot (m.getD R []) b + ex R)) % p
      exact mul_mod2 rfl mod_self
    | true =>
      have e : (psV p m true a g).getD R 0 = 2 * (prodV p m a).getD R 0 * g.getD R 0 % p := by
        show (List.zipWith (fun y g => 2 * y * g % p) (prodV p m a) g).getD R 0 = _
        exact zw_getD (da := 0) (db := 0) (dc := 0) (by rw [prodV_len, hm.1, hg]) (by simp) R
      have e2 : (prodV p m a).getD R 0 = dot (m.getD R []) a % p := by unfold prodV; exact map_getD hRm
      rw [e, e2]
      generalize dot (m.getD R []) a = X
      generalize dot (m.getD R []) b + ex R = Y
      generalize g.getD R 0 = G
      show (G * (2 * X * Y % p)) % p = (2 * (X % p) * G % p * Y) % p
      have h1 : (G * (2 * X * Y % p)) % p = (G * (2 * X * Y)) % p := mul_mod2 rfl mod_self
      have h2 : (2 * (X % p) * G % p * Y) % p = (2 * X * G * Y) % p := mul_mod2 (by rw [mod_self]; exact mul_mod2 (mul_mod2 rfl mod_self) rfl) rfl
      rw [h1, h2]
      congr 1
      rw [Int.mul_comm G, Int.mul_assoc, Int.mul_assoc (2 * X), Int.mul_comm Y G]
  rw [step1]
  have step2 : sumN w (fun R => (psV p m k a g).getD R 0 * (dot (m.getD R []) b + ex R)) = sumN w (fun c => sumN w (fun R => (psV p m k a g).getD R 0 * (m.getD R []).getD c 0) * b.getD c 0) + sumN w fun R => (psV p m k a g).getD R 0 * ex R := by
    have h1 : sumN w (fun R => (psV p m k a g).getD R 0 * (dot (m.getD R []) b + ex R)) = sumN w (fun R => sumN w fun c => (psV p m k a g).getD R 0 * (m.getD R []).getD c 0 * b.getD c 0) + sumN w fun R => (psV p m k a g).getD R 0 * ex R := by
      rw [← sumN_add]
      refine sumN_ext fun R hR => ?_
      rw [Int.mul_add, dot_sum (hm.2 _ (getD_mem (by rw [hm.1]; exact hR))).1 hb, sumN_mul]
      congr 1
      exact sumN_ext fun c _ => by rw [Int.mul_assoc]
    rw [h1, sumN_swap]
    congr 1
    exact sumN_ext fun c _ => sumN_mulr.symm
  rw [step2]
  refine mod_add (sumN_mod fun c hc => ?_)
  rw [backIn, range_getD hc, zip_sum [] (fun x (r : Vec) => x * r.getD c 0) hq hm.1]
  exact mul_mod2 mod_self.symm rfl
theorem way_cons {p : Int} {m : Mat} {ms : List Mat} {k : Bool} {ks : List Bool} {a : Vec} : (wayV p (m :: ms) (k :: ks) a).dropLast = a :: (wayV p ms ks (fwdV p m k a)).dropLast := by
  rw [wayV]
  have hne : wayV p ms ks (fwdV p m k a) ≠ [] := wayV_ne
  generalize wayV p ms ks (fwdV p m k a) = X at hne ⊢
  cases X with
  | nil => exact absurd rfl hne
  | cons x xs => rfl
theorem mul_mod_comm {a b p : Int} : (a * b) % p = (b * a) % p := by rw [Int.mul_comm]
theorem net_dual {p : Int} (hp : 0 < p) {w l i j : Nat} (hi : i < w) (hj : j < w) {s : Vec} (hs : s.length = w) (hsl : Lt p s) : ∀ {L : Nat} {ms : List Mat} {ks : List Bool} {a b : Vec}, ks.length = ms.length → (∀ m ∈ ms, MatOk w p m) → a.length = w → b.length = w →
    sumN w (fun c => s.getD c 0 * (tanV p w l i j L ms ks a b).getD c 0) % p =
      (sumN w (fun c => (bkAll p w ms ks (wayV p ms ks a).dropLast s).1.getD c 0 * b.getD c 0) + (if L ≤ l then entS (bkAll p w ms ks (wayV p ms ks a).dropLast s).2 (l - L) i j else 0)) % p
  | L, [], [], a, b, _, _, _, _ => by
    have e : entS ([] : List Mat) (l - L) i j = 0 := by simp [entS]
    simp [tanV, bkAll, e]
  | L, m :: ms, k :: ks, a, b, hk, hms, ha, hb => by
    have hm := hms m (List.mem_cons_self ..)
    have ha' : (fwdV p m k a).length = w := by rw [fwdV_len, hm.1]
    have ih := net_dual hp (l := l) hi hj hs hsl (L := L + 1) (ms := ms) (ks := ks) (a := fwdV p m k a) (b := stB p w m k a b (exJ (decide (L = l)) i j a)) (by simpa using hk) (fun x hx => hms x (List.mem_cons_of_mem _ hx)) ha' stB_len
    obtain ⟨o1, o2, o3, o4⟩ := bkAll_ok hp (w := w) (ms := ms) (ks := ks) (vs := (wayV p ms ks (fwdV p m k a)).dropLast) (s := s) (by simpa using hk) (by rw [List.length_dropLast, wayV_len (by simpa using hk.symm)]; rfl) (fun x hx => hms x (List.mem_cons_of_mem _ hx))
      (fun v hv => wayV_ok (fun x hx => (hms x (List.mem_cons_of_mem _ hx)).1) ha' v ((List.dropLast_sublist _).subset hv)) hs hsl
    have ld := layer_dual hp hm (k := k) ha hb o1 (exJ (decide (L = l)) i j a)
    rw [tanV, ih, way_cons, bkAll]
    generalize bkAll p w ms ks (wayV p ms ks (fwdV p m k a)).dropLast s = B at *
    obtain ⟨g, S⟩ := B
    simp only at ld o1 o2 o3 ⊢
    have hq := psV_len (p := p) (k := k) (v := a) hm.1 o1
    rw [mod_add ld]
    generalize sumN w (fun c => (backIn p m (psV p m k a g) w).getD c 0 * b.getD c 0) = Z
    rw [Int.add_assoc]
    refine mod_add2 rfl ?_
    by_cases hL : L = l
    · subst hL
      rw [if_neg (by omega), if_pos (Nat.le_refl _), Nat.sub_self, Int.add_zero]
      have e1 : sumN w (fun R => (psV p m k a g).getD R 0 * exJ (decide (L = L)) i j a R) = (psV p m k a g).getD i 0 * a.getD j 0 := by
        have : sumN w (fun R => (psV p m k a g).getD R 0 * exJ (decide (L = L)) i j a R) = sumN w fun R => if R = i then (psV p m k a g).getD R 0 * a.getD j 0 else 0 := sumN_ext fun R _ => by
          unfold exJ
          by_cases hR : R = i <;> simp [hR]
        rw [this, sumN_one, if_pos hi]
      rw [e1]
      have e2 : entS (backW p (psV p m k a g) a :: S) 0 i j = ((psV p m k a g).getD i 0 * a.getD j 0) % p := by
        have hi' : i < (psV p m k a g).length := by rw [hq]; exact hi
        have hj' : j < a.length := by rw [ha]; exact hj
        simp [entS, backW, List.getD, List.getElem?_eq_getElem hi', List.getElem?_eq_getElem hj']
      rw [e2, mod_self]
    · have e1 : sumN w (fun R => (psV p m k a g).getD R 0 * exJ (decide (L = l)) i j a R) = 0 := by
        have : sumN w (fun R => (psV p m k a g).getD R 0 * exJ (decide (L = l)) i j a R) = sumN w fun _ => 0 := sumN_ext fun R _ => by simp [exJ, hL]
        rw [this, sumN_zero]
      rw [e1, Int.zero_add]
      by_cases hl : L ≤ l
      · rw [if_pos (show L + 1 ≤ l by omega), if_pos hl]
        have e2 : l - L = (l - (L + 1)) + 1 := by omega
        have e3 : entS (backW p (psV p m k a g) a :: S) ((l - (L + 1)) + 1) i j = entS S (l - (L + 1)) i j := by simp [entS]
        rw [e2, e3]
      · rw [if_neg (show ¬ L + 1 ≤ l by omega), if_neg hl]
/-- what the law counts for one example -/
def coX (p : Int) (w l i j : Nat) (ws : List Mat) (ks : List Bool) (x : Vec × Vec) : Int := sumN w fun c => 2 * ((outV p ws ks x.1).getD c 0 - x.2.getD c 0) * (tanV p w l i j 0 ws ks x.1 (List.replicate w 0)).getD c 0
theorem rep_getD {w c : Nat} : (List.replicate w (0 : Int)).getD c 0 = 0 := by
  by_cases h : c < w <;> simp [List.getD, List.getElem?_replicate, h]
theorem coX_is {w : Nat} {p : Int} {ws : List Mat} {ks : List Bool} (h : NetS w p ws ks) {x : Vec × Vec} (h1 : x.1.length = w) (h2 : x.2.length = w) {l i j : Nat} (hi : i < w) (hj : j < w) : coX p w l i j ws ks x % p = entS (exmS p w ws ks x) l i j % p := by
  have hm : ∀ m ∈ ws, m.length = w := fun m hm => (h.ms m hm).1
  have lo : (outV p ws ks x.1).length = w := outV_len hm h1
  have d := net_dual h.p0 (l := l) hi hj (s := lossV p (outV p ws ks x.1) x.2) (by rw [lossV, List.length_zipWith, lo, h2, Nat.min_self]) (lossV_lt h.p0) (L := 0) (ms := ws) (ks := ks) (a := x.1) (b := List.replicate w 0) h.kl h.ms h1 (by simp)
  have z : sumN w (fun c => (bkAll p w ws ks (wayV p ws ks x.1).dropLast (lossV p (outV p ws ks x.1) x.2)).1.getD c 0 * (List.replicate w (0 : Int)).getD c 0) = 0 :=
    (sumN_ext fun c _ => by rw [rep_getD, Int.mul_zero]).trans (sumN_zero (n := w))
  rw [z, Int.zero_add, if_pos (Nat.zero_le _), Nat.sub_zero] at d
  have e : coX p w l i j ws ks x % p = sumN w (fun c => (lossV p (outV p ws ks x.1) x.2).getD c 0 * (tanV p w l i j 0 ws ks x.1 (List.replicate w 0)).getD c 0) % p := sumN_mod fun c hc => by
    have e1 : (lossV p (outV p ws ks x.1) x.2).getD c 0 = 2 * ((outV p ws ks x.1).getD c 0 - x.2.getD c 0) % p := zw_getD (da := 0) (db := 0) (dc := 0) (by rw [lo, h2]) (by simp) c
    rw [e1]
    exact mul_mod2 mod_self.symm rfl
  rw [e, d]
  rfl
def coS (p : Int) (w l i j : Nat) (ws : List Mat) (ks : List Bool) (xs : List (Vec × Vec)) : Int := (xs.map (coX p w l i j ws ks)).sum % p
theorem map_mod {α : Type} {p : Int} {f g : α → Int} : ∀ {xs : List α}, (∀ x ∈ xs, f x % p = g x % p) → (xs.map f).sum % p = (xs.map g).sum % p
  | [], _ => rfl
  | x :: xs, h => by
    rw [List.map_cons, List.map_cons, List.sum_cons, List.sum_cons]
    exact mod_add2 (h x (List.mem_cons_self ..)) (map_mod fun y hy => h y (List.mem_cons_of_mem _ hy))
theorem SlOk.ent {w n : Nat} {p : Int} {S : List Mat} (h : SlOk w n p S) {l i j : Nat} (hl : l < n) (hi : i < w) (hj : j < w) : 0 ≤ entS S l i j ∧ entS S l i j < p := by
  have hl' : l < S.length := by rw [h.1]; exact hl
  have m1 : S.getD l [] ∈ S := by
    simp only [List.getD, List.getElem?_eq_getElem hl', Option.getD_some]
    exact List.getElem_mem hl'
  obtain ⟨a1, a2⟩ := h.2 _ m1
  unfold entS
  generalize S.getD l [] = m at a1 a2
  have hi' : i < m.length := by rw [a1]; exact hi
  obtain ⟨b1, b2⟩ := a2 _ (getD_mem hi')
  generalize m.getD i [] = r at b1 b2
  have hj' : j < r.length := by rw [b1]; exact hj
  refine b2 _ ?_
  simp only [List.getD, List.getElem?_eq_getElem hj', Option.getD_some]
  exact List.getElem_mem hj'
theorem coS_is {w : Nat} {p : Int} {ws : List Mat} {ks : List Bool} (h : NetS w p ws ks) {xs : List (Vec × Vec)} (hx : ∀ x ∈ xs, x.1.length = w ∧ x.2.length = w) {l i j : Nat} (hl : l < ws.length) (hi : i < w) (hj : j < w) : coS p w l i j ws ks xs = entS (porS p w ws ks xs) l i j := by
  have e := porS_ent h hx l i j
  have b := (porS_ok h hx).ent hl hi hj
  have c : coS p w l i j ws ks xs = sumE (exmS p w ws ks) l i j xs % p := map_mod fun x m => coX_is h (hx x m).1 (hx x m).2 hi hj
  rw [c, ← e, Int.emod_eq_of_lt b.1 b.2]
theorem ShS.table {w n : Nat} {S : List Mat} (h : ShS w n S) : S = (List.range n).map fun l => (List.range w).map fun i => (List.range w).map fun j => entS S l i j := by
  have e1 := map_range_getD ([] : Mat) id S
  rw [List.map_id, h.1] at e1
  refine e1.trans (List.map_congr_left fun l hl => ?_)
  have hl := List.mem_range.mp hl
  have hlS : l < S.length := by rw [h.1]; exact hl
  have m1 : S.getD l [] ∈ S := by
    simp only [List.getD, List.getElem?_eq_getElem hlS, Option.getD_some]
    exact List.getElem_mem hlS
  obtain ⟨a1, a2⟩ := h.2 _ m1
  unfold entS
  generalize S.getD l [] = m at a1 a2
  have e2 := map_range_getD ([] : Vec) id m
  rw [List.map_id, a1] at e2
  refine e2.trans (List.map_congr_left fun i hi => ?_)
  have hi := List.mem_range.mp hi
  have b1 := a2 _ (getD_mem (by rw [a1]; exact hi))
  show m.getD i [] = _
  generalize m.getD i [] = r at b1
  have e3 := map_range_getD (0 : Int) id r
  rw [List.map_id, b1] at e3
  exact e3
end Zy
set_option maxHeartbeats 2000000
namespace Zy
open PySem PySem.Spec PyProof.Rows L2
/-! the law's numbers a + b t -/
theorem dot_bd {p : Int} (p97 : p ≤ 97) : ∀ {r a : Vec}, Lt p r → Lt p a → 0 ≤ dot r a ∧ dot r a ≤ 9409 * r.length
  | [], a, _, _ => by simp [dot]
  | x :: r, [], _, _ => by simp [dot]; omega
  | x :: r, y :: a, h, k => by
    obtain ⟨h1, h2⟩ := dot_bd p97 (fun z hz => h z (List.mem_cons_of_mem _ hz)) (fun z hz => k z (List.mem_cons_of_mem _ hz)) (r := r) (a := a)
    have hx := h x (List.mem_cons_self ..)
    have hy := k y (List.mem_cons_self ..)
    have e : dot (x :: r) (y :: a) = x * y + dot r a := by simp [dot]
    have m0 : 0 ≤ x * y := Int.mul_nonneg hx.1 hy.1
    have m1 : x * y ≤ 97 * 97 := Int.mul_le_mul (by omega) (by omega) hy.1 (by decide)
    rw [e, List.length_cons]
    omega
theorem rep_vec {M : Sto} {k : Nat} (hk : k ≤ 1000) : gMul (.lst [.int 0]) (.int (k : Nat)) M = .ok (vL (List.replicate k 0)) M := by
  have h1 : (1000 : Int) < 2 ^ 63 := by decide
  have h2 : (-(2 ^ 63) : Int) ≤ 0 := by decide
  have h3 : [D.int 0].length * (k : Int).toNat ≤ sizeLine := by
    rw [Int.toNat_natCast]
    exact Nat.le_trans (show [D.int 0].length * k ≤ 1000 by simp; omega) (by decide)
  unfold gMul
  simp only [deref_lst, deref_int]
  rw [if_pos ⟨Int.le_trans h2 (by omega), Int.lt_of_le_of_lt (show (k : Int) ≤ 1000 by omega) h1, h3⟩, Int.toNat_natCast, flat_rep]
  unfold vL
  rw [List.map_replicate]
theorem vL_is (v : Vec) : VecD (vL v) v := .inr rfl
def stA (p : Int) (w : Nat) (m : Mat) (k : Bool) (a : Vec) : Vec := (List.range w).map fun R => (if k then dot (m.getD R []) a * dot (m.getD R []) a else dot (m.getD R []) a) % p
theorem stA_is {p : Int} {w : Nat} {m : Mat} {k : Bool} {a : Vec} (h : m.length = w) : stA p w m k a = fwdV p m k a := by
  unfold stA fwdV prodV
  cases k with
  | false =>
    show _ = m.map fun r => dot r a % p
    rw [map_range_getD [] _ m, h]
    rfl
  | true =>
    show _ = (m.map fun r => dot r a % p).map fun y => y * y % p
    rw [List.map_map, map_range_getD [] _ m, h]
    refine List.map_congr_left fun R _ => ?_
    show (dot (m.getD R []) a * dot (m.getD R []) a) % p = (dot (m.getD R []) a % p) * (dot (m.getD R []) a % p) % p
    exact Int.mul_emod ..
theorem tanV_snoc {p : Int} {w l i j : Nat} : ∀ {L : Nat} {ms : List Mat} {ks : List Bool} {a b : Vec} {m : Mat} {k : Bool}, ms.length = ks.length →
    tanV p w l i j L (ms ++ [m]) (ks ++ [k]) a b = stB p w m k (outV p ms ks a) (tanV p w l i j L ms ks a b) (exJ (decide (L + ms.length = l)) i j (outV p ms ks a))
  | L, [], [], a, b, m, k, _ => by simp [tanV, outV]
  | L, m' :: ms, k' :: ks, a, b, m, k, h => by
    have e : L + (m' :: ms).length = L + 1 + ms.length := by rw [List.length_cons]; omega
    rw [List.cons_append, List.cons_append, tanV, tanV_snoc (by simpa using h), tanV, outV, e]
def thS (lf : Lens) (o : Nat) : ZX := zBf gSum (zCons (zLc (zRng1 (zCons (zLen lf (zSv 5)) zNil)) (tgN 14) (fun _ M => .ok true M) (zOp gMul (zOp gIx (zCv 11) (zCv 14)) (zOp gIx (zCv o) (zCv 14))) [14]) zNil)
def thP : ZS := zIfS (zAnd (zTst (zOp gEq (zCv 7) (zCv 1))) (zTst (zOp gEq (zCv 10) (zOp gIx (zCv 2) (zK (.int 0))))))
    (zSeq (zFrz [] (zSet 13 (zOp gAdd (zCv 13) (zOp gIx (zCv 5) (zOp gIx (zCv 2) (zK (.int 1)))))))
      zNx)
    zNx
def thQ : ZS := zIfS (zTst (zOp gEq (zOp gIx (zOp gIx (zCv 0) (zK (.int 2))) (zCv 7)) (zK (.str "square"))))
    (zSeq (zFrz [] (zPar 12 13 (zCons (zOp gMul (zCv 12) (zCv 12)) (zCons (zOp gMul (zOp gMul (zK (.int 2)) (zCv 12)) (zCv 13)) zNil))))
      zNx)
    zNx
def thIn (lf : Lens) : ZS := (zSeq (zFrz [] (zSet 11 (zOp gIx (zOp gIx (zOp gIx (zCv 0) (zK (.int 1))) (zCv 7)) (zCv 10))))
      (zSeq (zFrz [] (zSet 12 (thS lf 5)))
      (zSeq (zFrz [] (zSet 13 (thS lf 6)))
      (zSeq (zFrz [] thP)
      (zSeq (zFrz [] thQ)
      (zSeq (zFrz [] (zApp 8 (zOp gMod (zBf gInt (zCons (zCv 12) zNil)) (zCv 4))))
      (zSeq (zFrz [] (zApp 9 (zOp gMod (zBf gInt (zCons (zCv 13) zNil)) (zCv 4))))
      zNx)))))))
def thOut (lf : Lens) : ZS := (zSeq (zFrz [] (zSetO 8 (zLst zNil)))
      (zSeq (zFrz [] (zSetO 9 (zLst zNil)))
      (zSeq (zFrz [] (zFor (zRng1 (zCons (zLen lf (zSv 3)) zNil)) (tgN 10) (thIn lf)))
      (zSeq (zFrz [8] (zSet 5 (zVar 8)))
      (zSeq (zFrz [9] (zSet 6 (zVar 9)))
      zNx)))))
def lThrough (lf : Lens) : ZS :=
  (zSeq (zFrz [] (zSet 4 (zOp gIx (zCv 0) (zK (.int 0)))))
      (zSeq (zFrz [] (zSet 5 (zLstOf (zCv 3))))
      (zSeq (zFrz [] (zSet 6 (zOp gMul (zLst (zCons (zK (.int 0)) zNil)) (zLen lf (zSv 3)))))
      (zSeq (zFrz [] (zFor (zRng1 (zCons (zLen lf (zVl (zOp gIx (zCv 0) (zK (.int 1))))) zNil)) (tgN 7) (thOut lf)))
      (zSeq (zFrz [] (zRet (zLst (zCons (zVar 5) (zCons (zVar 6) zNil)))))
      zNx)))))
def LThOk (f : Sem1) : Prop := ∀ M w p ws ks (l i j : Nat) v, NetS w p ws ks → v.length = w → Lt p v → i < w → j < w →
  f [.val (netT p ws ks), .val (.int l), .val (.tup [.int i, .int j]), .val (rowD v)] M = .ok (.lst [vL (outV p ws ks v), vL (tanV p w l i j 0 ws ks v (List.replicate w 0))]) M
section
variable {lf : Lens} {M : Sto} {w : Nat} {p : Int} {ws : List Mat} {ks : List Bool} {l i j : Nat} {v a b : Vec}
abbrev eth (p : Int) (ws : List Mat) (ks : List Bool) (l i j : Nat) (v a b : Vec) (e7 e8 e9 e10 e11 e12 e13 : Sl) : Ev := [.val (netT p ws ks), .val (.int l), .val (.tup [.int i, .int j]), .val (rowD v), .val (.int p), .val (vL a), .val (vL b), e7, e8, e9, e10, e11, e12, e13, .no]
theorem thS_ok {r : Vec} {e7 e8 e9 e10 e12 e13 : Sl} (h : NetS w p ws ks) (hr : r.length = w) (hl : Lt p r) (ha : a.length = w) (hb : b.length = w) :
    thS lf 5 (eth p ws ks l i j v a b e7 e8 e9 e10 (.val (rowD r)) e12 e13) M = .ok (.int (dot r a)) M ∧ thS lf 6 (eth p ws ks l i j v a b e7 e8 e9 e10 (.val (rowD r)) e12 e13) M = .ok (.int (dot r b)) M := by
  have p97 := h.p97
  have w3 := h.w3
  have go : ∀ (o : Nat) (u : Vec), u.length = w → (eth p ws ks l i j v a b e7 e8 e9 e10 (.val (rowD r)) e12 e13)[o]? = some (.val (vL u)) → (∀ x : Sl, ((eth p ws ks l i j v a b e7 e8 e9 e10 (.val (rowD r)) e12 e13).set 14 x)[o]? = some (.val (vL u))) →
      thS lf o (eth p ws ks l i j v a b e7 e8 e9 e10 (.val (rowD r)) e12 e13) M = .ok (.int (dot r u)) M := fun o u hu h1 h2 => by
    have c := lcRng (env := eth p ws ks l i j v a b e7 e8 e9 e10 (.val (rowD r)) e12 e13) (M := M) (M1 := M) (za := zLen lf (zSv 5)) (ze := zOp gMul (zOp gIx (zCv 11) (zCv 14)) (zOp gIx (zCv o) (zCv 14))) (vs := [14]) (i := 14) (n := w) (fun k => .int (r.getD k 0 * u.getD k 0))
      (by simp only [zSeq_z, zFrz_z, zSet_z, zSetO_z, zRet_z, zDrop_z, zIfS_z, zTst_z, zTru_z, zNot_z, zAnd_z, zOr_z, zAndV_z, zNotV_z, zIf_z, zOp_z, zBf_z, zCons_z, zNil_z, zCall_z, sCons_z, sNil_z, zSv_z, zVl_z, zCv_z, zBv_z, zVar_z, zK_z, zNeg_z, zTup_z, zLst_z, zTupOf_z, zLstOf_z, zLen_z, zAt_z, zProp_z, zApp_z, zAugN_z, zSeqI_z, zRng1_z, zRng2_z, zAsg_z, zPart_z, zNoP_z, getPl, setPl, wipeE, List.getElem?_cons_succ, List.getElem?_cons_zero, List.set_cons_succ, List.set_cons_zero, Res.bind_ok, Res.toS_ok, callR1, callR2, callR3, callR0_4, callRk1, callRk2, callRk3', callRk4', List.length_cons, List.length_nil, Nat.zero_add, Nat.reduceAdd, sz1, sz2, sz3, if_true, if_false, Bool.false_eq_true, Bool.not_true, Bool.not_false, zNx_z, zBk_z, zCt_z, itemsD_lst, itemsD_tup, deref_bl, deref_int, deref_str, deref_tup, deref_lst, Option.bind_some, truD, gAdd_int, gSub_int, gMul_int, gMod_int, gCmpI_int, gEq_int, gInt_int, lenR_lst, lenR_blst, lenR_tup, decide_true, decide_false, true_or, or_true, List.map_cons, List.map_nil, eth, len_vec (vL_is a), ha]) rfl (by omega) fun k hk => by
        have t1 := ix_vec (M := M) (VecD.row r) (k := k) (by omega)
        have t2 := ix_vec (M := M) (vL_is u) (k := k) (by omega)
        have hb := hl.getD h.p0 k
        have h3 := h2 (.val (.int (k : Nat)))
        have h4 : ((wipeE (eth p ws ks l i j v a b e7 e8 e9 e10 (.val (rowD r)) e12 e13) [14]).set 14 (.val (.int (k : Nat))))[o]? = some (.val (vL u)) := h3
        have h5 : ((wipeE (eth p ws ks l i j v a b e7 e8 e9 e10 (.val (rowD r)) e12 e13) [14]).set 14 (.val (.int (k : Nat))))[11]? = some (.val (rowD r)) := rfl
        have h6 : ((wipeE (eth p ws ks l i j v a b e7 e8 e9 e10 (.val (rowD r)) e12 e13) [14]).set 14 (.val (.int (k : Nat))))[14]? = some (.val (.int (k : Nat))) := rfl
        generalize (wipeE (eth p ws ks l i j v a b e7 e8 e9 e10 (.val (rowD r)) e12 e13) [14]).set 14 (.val (.int (k : Nat))) = E at h4 h5 h6
        generalize r.getD k 0 = A at *
        have hs : smallI A := small_of (by omega) (by omega)
        simp only [zOp_z, zCv_z, h4, h5, h6, Res.bind_ok, t1, t2, gMul_int, hs, true_or, if_true]
    have e : dot r u = ((List.range w).map fun k => r.getD k 0 * u.getD k 0).sum := by rw [dot_sum hr hu, sumN_range]
    rw [e]
    have g := gSum_ints (ns := (List.range w).map fun k => r.getD k 0 * u.getD k 0) (M := M)
    rw [List.map_map] at g
    have c' : zLc (zRng1 (zCons (zLen lf (zSv 5)) zNil)) (tgN 14) (fun _ M => .ok true M) (zOp gMul (zOp gIx (zCv 11) (zCv 14)) (zOp gIx (zCv o) (zCv 14))) [14] (eth p ws ks l i j v a b e7 e8 e9 e10 (.val (rowD r)) e12 e13) M = .ok (.lst ((List.range w).map (D.int ∘ fun k => r.getD k 0 * u.getD k 0))) M := c
    simp only [thS, zBf_z, zCons_z, zNil_z, c', Res.bind_ok, g]
  exact ⟨go 5 a ha rfl fun _ => rfl, go 6 b hb rfl fun _ => rfl⟩
theorem thP_ok {e8 e9 e11 e12 : Sl} {L R : Nat} {Y : Int} (hj : j < a.length) : thP (eth p ws ks l i j v a b (.val (.int L)) e8 e9 (.val (.int R)) e11 e12 (.val (.int Y))) M = .nx (eth p ws ks l i j v a b (.val (.int L)) e8 e9 (.val (.int R)) e11 e12 (.val (.int (Y + exJ (decide (L = l)) i j a R)))) M := by
  have g0 : gIx (.tup [.int i, .int j]) (.int 0) M = .ok (.int i) M := gIx_tup (by decide) rfl
  have g1 : gIx (.tup [.int i, .int j]) (.int 1) M = .ok (.int j) M := gIx_tup (by decide) rfl
  have g2 := ix_vec (M := M) (vL_is a) hj
  by_cases h1 : L = l
  · subst h1
    have d1 : decide ((L : Int) = (L : Int)) = true := decide_eq_true rfl
    by_cases h2 : R = i
    · subst h2
      have d2 : decide ((R : Int) = (R : Int)) = true := decide_eq_true rfl
      have e : exJ (decide (L = L)) R j a R = a.getD j 0 := by simp [exJ]
      rw [e]
      simp only [zSeq_z, zFrz_z, zSet_z, zSetO_z, zRet_z, zDrop_z, zIfS_z, zTst_z, zTru_z, zNot_z, zAnd_z, zOr_z, zAndV_z, zNotV_z, zIf_z, zOp_z, zBf_z, zCons_z, zNil_z, zCall_z, sCons_z, sNil_z, zSv_z, zVl_z, zCv_z, zBv_z, zVar_z, zK_z, zNeg_z, zTup_z, zLst_z, zTupOf_z, zLstOf_z, zLen_z, zAt_z, zProp_z, zApp_z, zAugN_z, zSeqI_z, zRng1_z, zRng2_z, zAsg_z, zPart_z, zNoP_z, getPl, setPl, wipeE, List.getElem?_cons_succ, List.getElem?_cons_zero, List.set_cons_succ, List.set_cons_zero, Res.bind_ok, Res.toS_ok, callR1, callR2, callR3, callR0_4, callRk1, callRk2, callRk3', callRk4', List.length_cons, List.length_nil, Nat.zero_add, Nat.reduceAdd, sz1, sz2, sz3, if_true, if_false, Bool.false_eq_true, Bool.not_true, Bool.not_false, zNx_z, zBk_z, zCt_z, itemsD_lst, itemsD_tup, deref_bl, deref_int, deref_str, deref_tup, deref_lst, Option.bind_some, truD, gAdd_int, gSub_int, gMul_int, gMod_int, gCmpI_int, gEq_int, gInt_int, lenR_lst, lenR_blst, lenR_tup, decide_true, decide_false, true_or, or_true, List.map_cons, List.map_nil, thP, eth, d1, d2, g0, g1, g2]
    · have d2 : decide ((R : Int) = (i : Int)) = false := decide_eq_false (by omega)
      have e : exJ (decide (L = L)) i j a R = 0 := by simp [exJ, h2]
      rw [e, Int.add_zero]
      simp only [zSeq_z, zFrz_z, zSet_z, zSetO_z, zRet_z, zDrop_z, zIfS_z, zTst_z, zTru_z, zNot_z, zAnd_z, zOr_z, zAndV_z, zNotV_z, zIf_z, zOp_z, zBf_z, zCons_z, zNil_z, zCall_z, sCons_z, sNil_z, zSv_z, zVl_z, zCv_z, zBv_z, zVar_z, zK_z, zNeg_z, zTup_z, zLst_z, zTupOf_z, zLstOf_z, zLen_z, zAt_z, zProp_z, zApp_z, zAugN_z, zSeqI_z, zRng1_z, zRng2_z, zAsg_z, zPart_z, zNoP_z, getPl, setPl, wipeE, List.getElem?_cons_succ, List.getElem?_cons_zero, List.set_cons_succ, List.set_cons_zero, Res.bind_ok, Res.toS_ok, callR1, callR2, callR3, callR0_4, callRk1, callRk2, callRk3', callRk4', List.length_cons, List.length_nil, Nat.zero_add, Nat.reduceAdd, sz1, sz2, sz3, if_true, if_false, Bool.false_eq_true, Bool.not_true, Bool.not_false, zNx_z, zBk_z, zCt_z, itemsD_lst, itemsD_tup, deref_bl, deref_int, deref_str, deref_tup, deref_lst, Option.bind_some, truD, gAdd_int, gSub_int, gMul_int, gMod_int, gCmpI_int, gEq_int, gInt_int, lenR_lst, lenR_blst, lenR_tup, decide_true, decide_false, true_or, or_true, List.map_cons, List.map_nil, thP, eth, d1, d2, g0]
  · have d1 : decide ((L : Int) = (l : Int)) = false := decide_eq_false (by omega)
    have e : exJ (decide (L = l)) i j a R = 0 := by simp [exJ, h1]
    rw [e, Int.add_zero]
    simp only [zSeq_z, zFrz_z, zSet_z, zSetO_z, zRet_z, zDrop_z, zIfS_z, zTst_z, zTru_z, zNot_z, zAnd_z, zOr_z, zAndV_z, zNotV_z, zIf_z, zOp_z, zBf_z, zCons_z, zNil_z, zCall_z, sCons_z, sNil_z, zSv_z, zVl_z, zCv_z, zBv_z, zVar_z, zK_z, zNeg_z, zTup_z, zLst_z, zTupOf_z, zLstOf_z, zLen_z, zAt_z, zProp_z, zApp_z, zAugN_z, zSeqI_z, zRng1_z, zRng2_z, zAsg_z, zPart_z, zNoP_z, getPl, setPl, wipeE, List.getElem?_cons_succ, List.getElem?_cons_zero, List.set_cons_succ, List.set_cons_zero, Res.bind_ok, Res.toS_ok, callR1, callR2, callR3, callR0_4, callRk1, callRk2, callRk3', callRk4', List.length_cons, List.length_nil, Nat.zero_add, Nat.reduceAdd, sz1, sz2, sz3, if_true, if_false, Bool.false_eq_true, Bool.not_true, Bool.not_false, zNx_z, zBk_z, zCt_z, itemsD_lst, itemsD_tup, deref_bl, deref_int, deref_str, deref_tup, deref_lst, Option.bind_some, truD, gAdd_int, gSub_int, gMul_int, gMod_int, gCmpI_int, gEq_int, gInt_int, lenR_lst, lenR_blst, lenR_tup, decide_true, decide_false, true_or, or_true, List.map_cons, List.map_nil, thP, eth, d1]
theorem thQ_ok {e8 e9 e10 e11 : Sl} {L : Nat} {X Y : Int} {k : Bool} (hk : ks[L]? = some k) (hX : smallI X) : thQ (eth p ws ks l i j v a b (.val (.int L)) e8 e9 e10 e11 (.val (.int X)) (.val (.int Y))) M =
    .nx (eth p ws ks l i j v a b (.val (.int L)) e8 e9 e10 e11 (.val (.int (if k then X * X else X))) (.val (.int (if k then 2 * X * Y else Y)))) M ∨ ¬ smallI (2 * X) := by
  by_cases hs : smallI (2 * X)
  · refine .inl ?_
    have h2 : smallI 2 := by decide
    cases k with
    | true =>
      show _ = Out.nx (eth p ws ks l i j v a b (.val (.int L)) e8 e9 e10 e11 (.val (.int (X * X))) (.val (.int (2 * X * Y)))) M
      simp only [zSeq_z, zFrz_z, zSet_z, zSetO_z, zRet_z, zDrop_z, zIfS_z, zTst_z, zTru_z, zNot_z, zAnd_z, zOr_z, zAndV_z, zNotV_z, zIf_z, zOp_z, zBf_z, zCons_z, zNil_z, zCall_z, sCons_z, sNil_z, zSv_z, zVl_z, zCv_z, zBv_z, zVar_z, zK_z, zNeg_z, zTup_z, zLst_z, zTupOf_z, zLstOf_z, zLen_z, zAt_z, zProp_z, zApp_z, zAugN_z, zSeqI_z, zRng1_z, zRng2_z, zAsg_z, zPart_z, zNoP_z, getPl, setPl, wipeE, List.getElem?_cons_succ, List.getElem?_cons_zero, List.set_cons_succ, List.set_cons_zero, Res.bind_ok, Res.toS_ok, callR1, callR2, callR3, callR0_4, callRk1, callRk2, callRk3', callRk4', List.length_cons, List.length_nil, Nat.zero_add, Nat.reduceAdd, sz1, sz2, sz3, if_true, if_false, Bool.false_eq_true, Bool.not_true, Bool.not_false, zNx_z, zBk_z, zCt_z, itemsD_lst, itemsD_tup, deref_bl, deref_int, deref_str, deref_tup, deref_lst, Option.bind_some, truD, gAdd_int, gSub_int, gMul_int, gMod_int, gCmpI_int, gEq_int, gInt_int, lenR_lst, lenR_blst, lenR_tup, decide_true, decide_false, true_or, or_true, List.map_cons, List.map_nil, thQ, eth, ixT2, ix_kind hk, gEq_kind, zPar_z, hX, h2, hs]
    | false =>
      show _ = Out.nx (eth p ws ks l i j v a b (.val (.int L)) e8 e9 e10 e11 (.val (.int X)) (.val (.int Y))) M
      simp only [zSeq_z, zFrz_z, zSet_z, zSetO_z, zRet_z, zDrop_z, zIfS_z, zTst_z, zTru_z, zNot_z, zAnd_z, zOr_z, zAndV_z, zNotV_z, zIf_z, zOp_z, zBf_z, zCons_z, zNil_z, zCall_z, sCons_z, sNil_z, zSv_z, zVl_z, zCv_z, zBv_z, zVar_z, zK_z, zNeg_z, zTup_z, zLst_z, zTupOf_z, zLstOf_z, zLen_z, zAt_z, zProp_z, zApp_z, zAugN_z, zSeqI_z, zRng1_z, zRng2_z, zAsg_z, zPart_z, zNoP_z, getPl, setPl, wipeE, List.getElem?_cons_succ, List.getElem?_cons_zero, List.set_cons_succ, List.set_cons_zero, Res.bind_ok, Res.toS_ok, callR1, callR2, callR3, callR0_4, callRk1, callRk2, callRk3', callRk4', List.length_cons, List.length_nil, Nat.zero_add, Nat.reduceAdd, sz1, sz2, sz3, if_true, if_false, Bool.false_eq_true, Bool.not_true, Bool.not_false, zNx_z, zBk_z, zCt_z, itemsD_lst, itemsD_tup, deref_bl, deref_int, deref_str, deref_tup, deref_lst, Option.bind_some, truD, gAdd_int, gSub_int, gMul_int, gMod_int, gCmpI_int, gEq_int, gInt_int, lenR_lst, lenR_blst, lenR_tup, decide_true, decide_false, true_or, or_true, List.map_cons, List.map_nil, thQ, eth, ixT2, ix_kind hk, gEq_kind]
  · exact .inr hs
theorem thIn_ok (h : NetS w p ws ks) {L R : Nat} {m : Mat} {k : Bool} (hm : ws[L]? = some m) (hk : ks[L]? = some k) (ha : a.length = w) (hb : b.length = w) (hal : Lt p a) (hj : j < w) (hR : R < w) {A B : List D} {e11 e12 e13 : Sl} (hA : A.length ≤ 100) (hB : B.length ≤ 100) :
    ∃ f11 f12 f13, thIn lf (eth p ws ks l i j v a b (.val (.int L)) (.own (.lst A)) (.own (.lst B)) (.val (.int R)) e11 e12 e13) M =
      .nx (eth p ws ks l i j v a b (.val (.int L)) (.own (.lst (A ++ [.int ((if k then dot (m.getD R []) a * dot (m.getD R []) a else dot (m.getD R []) a) % p)]))) (.own (.lst (B ++ [.int ((if k then 2 * dot (m.getD R []) a * (dot (m.getD R []) b + exJ (decide (L = l)) i j a R) else dot (m.getD R []) b + exJ (decide (L = l)) i j a R) % p)]))) (.val (.int R)) f11 f12 f13) M := by
  have mo := rows_at h hm
  have hr := mo.2 _ (getD_mem (show R < m.length by rw [mo.1]; exact hR))
  have gr := ix_matrow (M := M) (m := m) (k := R) (by rw [mo.1]; exact hR)
  have bd := dot_bd h.p97 hr.2 hal
  have w3 := h.w3
  have hX : smallI (dot (m.getD R []) a) := small_of (by omega) (by omega)
  have hX2 : smallI (2 * dot (m.getD R []) a) := small_of (by omega) (by omega)
  have p0 := h.p0
  have hA' : A.length < sizeLine := Nat.lt_of_le_of_lt hA (by decide)
  have hB' : B.length < sizeLine := Nat.lt_of_le_of_lt hB (by decide)
  generalize m.getD R [] = r at *
  have s1 := fun (e12 e13 : Sl) => (thS_ok (lf := lf) (M := M) (l := l) (i := i) (j := j) (v := v) (e7 := .val (.int L)) (e8 := .own (.lst A)) (e9 := .own (.lst B)) (e10 := .val (.int R)) (e12 := e12) (e13 := e13) h hr.1 hr.2 ha hb)
  have s2 := thP_ok (M := M) (p := p) (ws := ws) (ks := ks) (l := l) (i := i) (v := v) (b := b) (e8 := .own (.lst A)) (e9 := .own (.lst B)) (e11 := .val (rowD r)) (e12 := .val (.int (dot r a))) (L := L) (R := R) (Y := dot r b) (show j < a.length by rw [ha]; exact hj)
  have s3 := (thQ_ok (M := M) (p := p) (ws := ws) (l := l) (i := i) (j := j) (v := v) (a := a) (b := b) (e8 := .own (.lst A)) (e9 := .own (.lst B)) (e10 := .val (.int R)) (e11 := .val (rowD r)) (Y := dot r b + exJ (decide (L = l)) i j a R) hk hX).resolve_right fun z => z hX2
  generalize dot r b + exJ (decide (L = l)) i j a R = Y at *
  generalize dot r a = X at *
  generalize (if k = true then X * X else X) = X2 at *
  generalize (if k = true then 2 * X * Y else Y) = Y2 at *
  refine ⟨.val (rowD r), .val (.int X2), .val (.int Y2), ?_⟩
  have g : ∀ e, zSet 11 (zOp gIx (zOp gIx (zOp gIx (zCv 0) (zK (.int 1))) (zCv 7)) (zCv 10)) (eth p ws ks l i j v a b (.val (.int L)) (.own (.lst A)) (.own (.lst B)) (.val (.int R)) e e12 e13) M = .nx (eth p ws ks l i j v a b (.val (.int L)) (.own (.lst A)) (.own (.lst B)) (.val (.int R)) (.val (rowD r)) e12 e13) M := fun e => by simp only [zSeq_z, zFrz_z, zSet_z, zSetO_z, zRet_z, zDrop_z, zIfS_z, zTst_z, zTru_z, zNot_z, zAnd_z, zOr_z, zAndV_z, zNotV_z, zIf_z, zOp_z, zBf_z, zCons_z, zNil_z, zCall_z, sCons_z, sNil_z, zSv_z, zVl_z, zCv_z, zBv_z, zVar_z, zK_z, zNeg_z, zTup_z, zLst_z, zTupOf_z, zLstOf_z, zLen_z, zAt_z, zProp_z, zApp_z, zAugN_z, zSeqI_z, zRng1_z, zRng2_z, zAsg_z, zPart_z, zNoP_z, getPl, setPl, wipeE, List.getElem?_cons_succ, List.getElem?_cons_zero, List.set_cons_succ, List.set_cons_zero, Res.bind_ok, Res.toS_ok, callR1, callR2, callR3, callR0_4, callRk1, callRk2, callRk3', callRk4', List.length_cons, List.length_nil, Nat.zero_add, Nat.reduceAdd, sz1, sz2, sz3, if_true, if_false, Bool.false_eq_true, Bool.not_true, Bool.not_false, zNx_z, zBk_z, zCt_z, itemsD_lst, itemsD_tup, deref_bl, deref_int, deref_str, deref_tup, deref_lst, Option.bind_some, truD, gAdd_int, gSub_int, gMul_int, gMod_int, gCmpI_int, gEq_int, gInt_int, lenR_lst, lenR_blst, lenR_tup, decide_true, decide_false, true_or, or_true, List.map_cons, List.map_nil, eth, ixT1, ix_mat hm, gr]
  have t1 : zSet 12 (thS lf 5) (eth p ws ks l i j v a b (.val (.int L)) (.own (.lst A)) (.own (.lst B)) (.val (.int R)) (.val (rowD r)) e12 e13) M = .nx (eth p ws ks l i j v a b (.val (.int L)) (.own (.lst A)) (.own (.lst B)) (.val (.int R)) (.val (rowD r)) (.val (.int X)) e13) M := by
    rw [zSet_z, (s1 e12 e13).1, Res.toS_ok]
    rfl
  have t2 : zSet 13 (thS lf 6) (eth p ws ks l i j v a b (.val (.int L)) (.own (.lst A)) (.own (.lst B)) (.val (.int R)) (.val (rowD r)) (.val (.int X)) e13) M = .nx (eth p ws ks l i j v a b (.val (.int L)) (.own (.lst A)) (.own (.lst B)) (.val (.int R)) (.val (rowD r)) (.val (.int X)) (.val (.int (dot r b)))) M := by
    rw [zSet_z, (s1 (.val (.int X)) e13).2, Res.toS_ok]
    rfl
  have nx : ∀ {y z : ZS} {env env' : Ev}, y env M = .nx env' M → zSeq (zFrz [] y) z env M = z env' M := fun h => by simp [h]
  unfold thIn
  rw [nx (g e11), nx t1, nx t2, nx s2, nx s3]
  simp only [zSeq_z, zFrz_z, zSet_z, zSetO_z, zRet_z, zDrop_z, zIfS_z, zTst_z, zTru_z, zNot_z, zAnd_z, zOr_z, zAndV_z, zNotV_z, zIf_z, zOp_z, zBf_z, zCons_z, zNil_z, zCall_z, sCons_z, sNil_z, zSv_z, zVl_z, zCv_z, zBv_z, zVar_z, zK_z, zNeg_z, zTup_z, zLst_z, zTupOf_z, zLstOf_z, zLen_z, zAt_z, zProp_z, zApp_z, zAugN_z, zSeqI_z, zRng1_z, zRng2_z, zAsg_z, zPart_z, zNoP_z, getPl, setPl, wipeE, List.getElem?_cons_succ, List.getElem?_cons_zero, List.set_cons_succ, List.set_cons_zero, Res.bind_ok, Res.toS_ok, callR1, callR2, callR3, callR0_4, callRk1, callRk2, callRk3', callRk4', List.length_cons, List.length_nil, Nat.zero_add, Nat.reduceAdd, sz1, sz2, sz3, if_true, if_false, Bool.false_eq_true, Bool.not_true, Bool.not_false, zNx_z, zBk_z, zCt_z, itemsD_lst, itemsD_tup, deref_bl, deref_int, deref_str, deref_tup, deref_lst, Option.bind_some, truD, gAdd_int, gSub_int, gMul_int, gMod_int, gCmpI_int, gEq_int, gInt_int, lenR_lst, lenR_blst, lenR_tup, decide_true, decide_false, true_or, or_true, List.map_cons, List.map_nil, eth, p0, hA', hB']
def fA (p : Int) (m : Mat) (k : Bool) (a : Vec) (R : Nat) : Int := (if k then dot (m.getD R []) a * dot (m.getD R []) a else dot (m.getD R []) a) % p
def fB (p : Int) (m : Mat) (k : Bool) (a b : Vec) (ex : Nat → Int) (R : Nat) : Int := (if k then 2 * dot (m.getD R []) a * (dot (m.getD R []) b + ex R) else dot (m.getD R []) b + ex R) % p
theorem stA_f {m : Mat} {k : Bool} : stA p w m k a = (List.range w).map (fA p m k a) := rfl
theorem stB_f {m : Mat} {k : Bool} {ex : Nat → Int} : stB p w m k a b ex = (List.range w).map (fB p m k a b ex) := rfl
theorem thR_loop (h : NetS w p ws ks) {L : Nat} {m : Mat} {k : Bool} (hm : ws[L]? = some m) (hk : ks[L]? = some k) (ha : a.length = w) (hb : b.length = w) (hal : Lt p a) (hv : v.length = w) (hj : j < w) {e10 e11 e12 e13 : Sl} :
    ∃ f10 f11 f12 f13, zFor (zRng1 (zCons (zLen lf (zSv 3)) zNil)) (tgN 10) (thIn lf) (eth p ws ks l i j v a b (.val (.int L)) (.own (.lst [])) (.own (.lst [])) e10 e11 e12 e13) M =
      .nx (eth p ws ks l i j v a b (.val (.int L)) (.own (vL (stA p w m k a))) (.own (vL (stB p w m k a b (exJ (decide (L = l)) i j a)))) f10 f11 f12 f13) M := by
  have w3 := h.w3
  have hz : zRng1 (zCons (zLen lf (zSv 3)) zNil) (eth p ws ks l i j v a b (.val (.int L)) (.own (.lst [])) (.own (.lst [])) e10 e11 e12 e13) M = .ok (stpD 0 1 w) M := by
    simp only [zSeq_z, zFrz_z, zSet_z, zSetO_z, zRet_z, zDrop_z, zIfS_z, zTst_z, zTru_z, zNot_z, zAnd_z, zOr_z, zAndV_z, zNotV_z, zIf_z, zOp_z, zBf_z, zCons_z, zNil_z, zCall_z, sCons_z, sNil_z, zSv_z, zVl_z, zCv_z, zBv_z, zVar_z, zK_z, zNeg_z, zTup_z, zLst_z, zTupOf_z, zLstOf_z, zLen_z, zAt_z, zProp_z, zApp_z, zAugN_z, zSeqI_z, zRng1_z, zRng2_z, zAsg_z, zPart_z, zNoP_z, getPl, setPl, wipeE, List.getElem?_cons_succ, List.getElem?_cons_zero, List.set_cons_succ, List.set_cons_zero, Res.bind_ok, Res.toS_ok, callR1, callR2, callR3, callR0_4, callRk1, callRk2, callRk3', callRk4', List.length_cons, List.length_nil, Nat.zero_add, Nat.reduceAdd, sz1, sz2, sz3, if_true, if_false, Bool.false_eq_true, Bool.not_true, Bool.not_false, zNx_z, zBk_z, zCt_z, itemsD_lst, itemsD_tup, deref_bl, deref_int, deref_str, deref_tup, deref_lst, Option.bind_some, truD, gAdd_int, gSub_int, gMul_int, gMod_int, gCmpI_int, gEq_int, gInt_int, lenR_lst, lenR_blst, lenR_tup, decide_true, decide_false, true_or, or_true, List.map_cons, List.map_nil, eth, len_vec (VecD.row v), hv]
    exact rngR_nat w (by omega)
  have hbd : ∀ (R : Nat) (A B : List D) (e11 e12 e13 : Sl), R < w → A.length ≤ 100 → B.length ≤ 100 → ∃ f11 f12 f13, thIn lf (eth p ws ks l i j v a b (.val (.int L)) (.own (.lst A)) (.own (.lst B)) (.val (.int R)) e11 e12 e13) M = .nx (eth p ws ks l i j v a b (.val (.int L)) (.own (.lst (A ++ [.int (fA p m k a R)]))) (.own (.lst (B ++ [.int (fB p m k a b (exJ (decide (L = l)) i j a) R)]))) (.val (.int R)) f11 f12 f13) M :=
    fun R A B e11 e12 e13 hR hA hB => thIn_ok (lf := lf) (M := M) (l := l) (i := i) (v := v) (A := A) (B := B) (e11 := e11) (e12 := e12) (e13 := e13) h hm hk ha hb hal hj hR hA hB
  generalize thIn lf = y at hbd
  rw [stA_f, stB_f]
  generalize fA p m k a = f at *
  generalize fB p m k a b (exJ (decide (L = l)) i j a) = g at *
  refine zFor_gen (I := fun R env M' => ∃ f10 f11 f12 f13, env = eth p ws ks l i j v a b (.val (.int L)) (.own (.lst (((List.range R).map f).map .int))) (.own (.lst (((List.range R).map g).map .int))) f10 f11 f12 f13 ∧ M' = M)
    (Q := fun o => ∃ f10 f11 f12 f13, o = .nx (eth p ws ks l i j v a b (.val (.int L)) (.own (vL ((List.range w).map f))) (.own (vL ((List.range w).map g))) f10 f11 f12 f13) M) hz ⟨e10, e11, e12, e13, rfl, rfl⟩ (fun R x env M' hi hI => ?_) fun env M' hI => ?_
  · obtain ⟨f10, f11, f12, f13, rfl, rfl⟩ := hI
    obtain ⟨rfl, hlt⟩ := stpD_get hi
    obtain ⟨g11, g12, g13, s⟩ := hbd R (((List.range R).map f).map .int) (((List.range R).map g).map .int) f11 f12 f13 hlt (by simp; omega) (by simp; omega)
    refine ⟨_, rfl, ?_⟩
    simp only [eth, List.set_cons_succ, List.set_cons_zero, Int.zero_add, Int.mul_one] at s ⊢
    rw [s]
    refine ⟨.val (.int R), g11, g12, g13, ?_, rfl⟩
    rw [List.range_succ, List.map_append, List.map_append, List.map_append, List.map_append]
    rfl
  · obtain ⟨f10, f11, f12, f13, rfl, rfl⟩ := hI
    rw [stpD_len]
    exact ⟨f10, f11, f12, f13, rfl⟩
theorem thOut_ok (h : NetS w p ws ks) {L : Nat} {m : Mat} {k : Bool} (hm : ws[L]? = some m) (hk : ks[L]? = some k) (ha : a.length = w) (hb : b.length = w) (hal : Lt p a) (hv : v.length = w) (hj : j < w) {e8 e9 e10 e11 e12 e13 : Sl} :
    ∃ f8 f9 f10 f11 f12 f13, thOut lf (eth p ws ks l i j v a b (.val (.int L)) e8 e9 e10 e11 e12 e13) M = .nx (eth p ws ks l i j v (fwdV p m k a) (stB p w m k a b (exJ (decide (L = l)) i j a)) (.val (.int L)) f8 f9 f10 f11 f12 f13) M := by
  obtain ⟨f10, f11, f12, f13, s⟩ := thR_loop (lf := lf) (M := M) (l := l) (i := i) (e10 := e10) (e11 := e11) (e12 := e12) (e13 := e13) h hm hk ha hb hal hv hj
  have e := stA_is (p := p) (k := k) (a := a) (rows_at h hm).1
  rw [e] at s
  refine ⟨.val (vL (fwdV p m k a)), .val (vL (stB p w m k a b (exJ (decide (L = l)) i j a))), f10, f11, f12, f13, ?_⟩
  generalize stB p w m k a b (exJ (decide (L = l)) i j a) = B at s ⊢
  generalize fwdV p m k a = A at s ⊢
  unfold thOut
  generalize zFor (zRng1 (zCons (zLen lf (zSv 3)) zNil)) (tgN 10) (thIn lf) = y at s
  simp only [eth] at s
  simp only [zSeq_z, zFrz_z, zSet_z, zSetO_z, zRet_z, zDrop_z, zIfS_z, zTst_z, zTru_z, zNot_z, zAnd_z, zOr_z, zAndV_z, zNotV_z, zIf_z, zOp_z, zBf_z, zCons_z, zNil_z, zCall_z, sCons_z, sNil_z, zSv_z, zVl_z, zCv_z, zBv_z, zVar_z, zK_z, zNeg_z, zTup_z, zLst_z, zTupOf_z, zLstOf_z, zLen_z, zAt_z, zProp_z, zApp_z, zAugN_z, zSeqI_z, zRng1_z, zRng2_z, zAsg_z, zPart_z, zNoP_z, getPl, setPl, wipeE, List.getElem?_cons_succ, List.getElem?_cons_zero, List.set_cons_succ, List.set_cons_zero, Res.bind_ok, Res.toS_ok, callR1, callR2, callR3, callR0_4, callRk1, callRk2, callRk3', callRk4', List.length_cons, List.length_nil, Nat.zero_add, Nat.reduceAdd, sz1, sz2, sz3, if_true, if_false, Bool.false_eq_true, Bool.not_true, Bool.not_false, zNx_z, zBk_z, zCt_z, itemsD_lst, itemsD_tup, deref_bl, deref_int, deref_str, deref_tup, deref_lst, Option.bind_some, truD, gAdd_int, gSub_int, gMul_int, gMod_int, gCmpI_int, gEq_int, gInt_int, lenR_lst, lenR_blst, lenR_tup, decide_true, decide_false, true_or, or_true, List.map_cons, List.map_nil, eth, Nat.zero_le, s, zFrz, frz]
theorem th_loop (h : NetS w p ws ks) (hv : v.length = w) (hl : Lt p v) (hj : j < w) :
    ∃ e7 e8 e9 e10 e11 e12 e13, zFor (zRng1 (zCons (zLen lf (zVl (zOp gIx (zCv 0) (zK (.int 1))))) zNil)) (tgN 7) (thOut lf) (eth p ws ks l i j v v (List.replicate w 0) .no .no .no .no .no .no .no) M =
      .nx (eth p ws ks l i j v (outV p ws ks v) (tanV p w l i j 0 ws ks v (List.replicate w 0)) e7 e8 e9 e10 e11 e12 e13) M := by
  have hz : zRng1 (zCons (zLen lf (zVl (zOp gIx (zCv 0) (zK (.int 1))))) zNil) (eth p ws ks l i j v v (List.replicate w 0) .no .no .no .no .no .no .no) M = .ok (stpD 0 1 ws.length) M := by
    have e : lenR lf (.val (wsD ws)) M = .ok (.int ws.length) M := by
      unfold wsD
      rw [lenR_tup, List.length_map]
    simp only [zSeq_z, zFrz_z, zSet_z, zSetO_z, zRet_z, zDrop_z, zIfS_z, zTst_z, zTru_z, zNot_z, zAnd_z, zOr_z, zAndV_z, zNotV_z, zIf_z, zOp_z, zBf_z, zCons_z, zNil_z, zCall_z, sCons_z, sNil_z, zSv_z, zVl_z, zCv_z, zBv_z, zVar_z, zK_z, zNeg_z, zTup_z, zLst_z, zTupOf_z, zLstOf_z, zLen_z, zAt_z, zProp_z, zApp_z, zAugN_z, zSeqI_z, zRng1_z, zRng2_z, zAsg_z, zPart_z, zNoP_z, getPl, setPl, wipeE, List.getElem?_cons_succ, List.getElem?_cons_zero, List.set_cons_succ, List.set_cons_zero, Res.bind_ok, Res.toS_ok, callR1, callR2, callR3, callR0_4, callRk1, callRk2, callRk3', callRk4', List.length_cons, List.length_nil, Nat.zero_add, Nat.reduceAdd, sz1, sz2, sz3, if_true, if_false, Bool.false_eq_true, Bool.not_true, Bool.not_false, zNx_z, zBk_z, zCt_z, itemsD_lst, itemsD_tup, deref_bl, deref_int, deref_str, deref_tup, deref_lst, Option.bind_some, truD, gAdd_int, gSub_int, gMul_int, gMod_int, gCmpI_int, gEq_int, gInt_int, lenR_lst, lenR_blst, lenR_tup, decide_true, decide_false, true_or, or_true, List.map_cons, List.map_nil, eth, ixT1, e]
    exact rngR_nat _ (by have := h.n6; omega)
  have hb := fun (a b : Vec) (L : Nat) (m : Mat) (k : Bool) (e8 e9 e10 e11 e12 e13 : Sl) (hm : ws[L]? = some m) (hk : ks[L]? = some k) (ha : a.length = w) (hb : b.length = w) (hal : Lt p a) => thOut_ok (lf := lf) (M := M) (l := l) (i := i) (e8 := e8) (e9 := e9) (e10 := e10) (e11 := e11) (e12 := e12) (e13 := e13) h hm hk ha hb hal hv hj
  generalize thOut lf = y at hb
  have z0 : outV p (ws.take 0) (ks.take 0) v = v := by simp [outV]
  have z1 : tanV p w l i j 0 (ws.take 0) (ks.take 0) v (List.replicate w 0) = List.replicate w 0 := by simp [tanV]
  refine zFor_gen (I := fun L env M' => ∃ e7 e8 e9 e10 e11 e12 e13, env = eth p ws ks l i j v (outV p (ws.take L) (ks.take L) v) (tanV p w l i j 0 (ws.take L) (ks.take L) v (List.replicate w 0)) e7 e8 e9 e10 e11 e12 e13 ∧ M' = M)
    (Q := fun o => ∃ e7 e8 e9 e10 e11 e12 e13, o = .nx (eth p ws ks l i j v (outV p ws ks v) (tanV p w l i j 0 ws ks v (List.replicate w 0)) e7 e8 e9 e10 e11 e12 e13) M) hz ⟨.no, .no, .no, .no, .no, .no, .no, by rw [z0, z1], rfl⟩ (fun L x env M' hi hI => ?_) fun env M' hI => ?_
  · obtain ⟨e7, e8, e9, e10, e11, e12, e13, rfl, rfl⟩ := hI
    obtain ⟨rfl, hlt⟩ := stpD_get hi
    have hk : L < ks.length := by rw [h.kl]; exact hlt
    have hm : ws[L]? = some ws[L] := List.getElem?_eq_getElem hlt
    have hkk : ks[L]? = some ks[L] := List.getElem?_eq_getElem hk
    have ll : (ws.take L).length = (ks.take L).length := by rw [List.length_take, List.length_take, h.kl]
    have hu : (outV p (ws.take L) (ks.take L) v).length = w := outV_len (fun m hm => (h.ms m (List.mem_of_mem_take hm)).1) hv
    obtain ⟨f8, f9, f10, f11, f12, f13, s⟩ := hb _ _ L ws[L] ks[L] e8 e9 e10 e11 e12 e13 hm hkk hu (tanV_len (p := p) (l := l) (i := i) (j := j) (L := 0) (ms := ws.take L) (ks := ks.take L) (a := v) (b := List.replicate w 0) (by simp)) (outV_lt h.p0 hl)
    refine ⟨_, rfl, ?_⟩
    simp only [eth, List.set_cons_succ, List.set_cons_zero, Int.zero_add, Int.mul_one] at s ⊢
    rw [s]
    refine ⟨.val (.int L), f8, f9, f10, f11, f12, f13, ?_, rfl⟩
    have e : 0 + (ws.take L).length = L := by rw [List.length_take]; omega
    rw [take_snoc hm, take_snoc hkk, outV_snoc ll, tanV_snoc ll, e]
  · obtain ⟨e7, e8, e9, e10, e11, e12, e13, rfl, rfl⟩ := hI
    rw [stpD_len]
    refine ⟨e7, e8, e9, e10, e11, e12, e13, ?_⟩
    rw [List.take_of_length_le (Nat.le_refl _), List.take_of_length_le (by rw [h.kl]; exact Nat.le_refl _)]
end
theorem th_seq {y : ZS} {zp za zb : ZX} {a b c d p A0 B0 A B : D} {e7 e8 e9 e10 e11 e12 e13 : Sl} {M : Sto}
    (h1 : zp [.val a, .val b, .val c, .val d, .no, .no, .no, .no, .no, .no, .no, .no, .no, .no, .no] M = .ok p M)
    (h2 : za [.val a, .val b, .val c, .val d, .val p, .no, .no, .no, .no, .no, .no, .no, .no, .no, .no] M = .ok A0 M)
    (h3 : zb [.val a, .val b, .val c, .val d, .val p, .val A0, .no, .no, .no, .no, .no, .no, .no, .no, .no] M = .ok B0 M)
    (h4 : y [.val a, .val b, .val c, .val d, .val p, .val A0, .val B0, .no, .no, .no, .no, .no, .no, .no, .no] M = .nx [.val a, .val b, .val c, .val d, .val p, .val A, .val B, e7, e8, e9, e10, e11, e12, e13, .no] M) :
    zFun 4 15 (zSeq (zFrz [] (zSet 4 zp)) (zSeq (zFrz [] (zSet 5 za)) (zSeq (zFrz [] (zSet 6 zb)) (zSeq (zFrz [] y) (zSeq (zFrz [] (zRet (zLst (zCons (zVar 5) (zCons (zVar 6) zNil))))) zNx))))) [.val a, .val b, .val c, .val d] M = .ok (.lst [A, B]) M := by
  unfold zFun
  simp [h1, h2, h3, h4]
theorem lThOk {lf : Lens} : LThOk (zFun 4 15 (lThrough lf)) := fun M w p ws ks l i j v h hv hl hi hj => by
  obtain ⟨e7, e8, e9, e10, e11, e12, e13, q⟩ := th_loop (lf := lf) (M := M) (l := l) (i := i) h hv hl hj
  have r := rep_vec (M := M) (k := w) (by have := h.w3; omega)
  have e := lstOf_row (v := v) (M := M)
  have ev : D.lst (v.map .int) = vL v := rfl
  have sz : (1 : Nat) ≤ sizeLine := by decide
  exact th_seq (by simp only [zSeq_z, zFrz_z, zSet_z, zSetO_z, zRet_z, zDrop_z, zIfS_z, zTst_z, zTru_z, zNot_z, zAnd_z, zOr_z, zAndV_z, zNotV_z, zIf_z, zOp_z, zBf_z, zCons_z, zNil_z, zCall_z, sCons_z, sNil_z, zSv_z, zVl_z, zCv_z, zBv_z, zVar_z, zK_z, zNeg_z, zTup_z, zLst_z, zTupOf_z, zLstOf_z, zLen_z, zAt_z, zProp_z, zApp_z, zAugN_z, zSeqI_z, zRng1_z, zRng2_z, zAsg_z, zPart_z, zNoP_z, getPl, setPl, wipeE, List.getElem?_cons_succ, List.getElem?_cons_zero, List.set_cons_succ, List.set_cons_zero, Res.bind_ok, Res.toS_ok, callR1, callR2, callR3, callR0_4, callRk1, callRk2, callRk3', callRk4', List.length_cons, List.length_nil, Nat.zero_add, Nat.reduceAdd, sz1, sz2, sz3, if_true, if_false, Bool.false_eq_true, Bool.not_true, Bool.not_false, zNx_z, zBk_z, zCt_z, itemsD_lst, itemsD_tup, deref_bl, deref_int, deref_str, deref_tup, deref_lst, Option.bind_some, truD, gAdd_int, gSub_int, gMul_int, gMod_int, gCmpI_int, gEq_int, gInt_int, lenR_lst, lenR_blst, lenR_tup, decide_true, decide_false, true_or, or_true, List.map_cons, List.map_nil, ixT0]) (by simp only [zSeq_z, zFrz_z, zSet_z, zSetO_z, zRet_z, zDrop_z, zIfS_z, zTst_z, zTru_z, zNot_z, zAnd_z, zOr_z, zAndV_z, zNotV_z, zIf_z, zOp_z, zBf_z, zCons_z, zNil_z, zCall_z, sCons_z, sNil_z, zSv_z, zVl_z, zCv_z, zBv_z, zVar_z, zK_z, zNeg_z, zTup_z, zLst_z, zTupOf_z, zLstOf_z, zLen_z, zAt_z, zProp_z, zApp_z, zAugN_z, zSeqI_z, zRng1_z, zRng2_z, zAsg_z, zPart_z, zNoP_z, getPl, setPl, wipeE, List.getElem?_cons_succ, List.getElem?_cons_zero, List.set_cons_succ, List.set_cons_zero, Res.bind_ok, Res.toS_ok, callR1, callR2, callR3, callR0_4, callRk1, callRk2, callRk3', callRk4', List.length_cons, List.length_nil, Nat.zero_add, Nat.reduceAdd, sz1, sz2, sz3, if_true, if_false, Bool.false_eq_true, Bool.not_true, Bool.not_false, zNx_z, zBk_z, zCt_z, itemsD_lst, itemsD_tup, deref_bl, deref_int, deref_str, deref_tup, deref_lst, Option.bind_some, truD, gAdd_int, gSub_int, gMul_int, gMod_int, gCmpI_int, gEq_int, gInt_int, lenR_lst, lenR_blst, lenR_tup, decide_true, decide_false, true_or, or_true, List.map_cons, List.map_nil, e, ev]) (by simp only [zSeq_z, zFrz_z, zSet_z, zSetO_z, zRet_z, zDrop_z, zIfS_z, zTst_z, zTru_z, zNot_z, zAnd_z, zOr_z, zAndV_z, zNotV_z, zIf_z, zOp_z, zBf_z, zCons_z, zNil_z, zCall_z, sCons_z, sNil_z, zSv_z, zVl_z, zCv_z, zBv_z, zVar_z, zK_z, zNeg_z, zTup_z, zLst_z, zTupOf_z, zLstOf_z, zLen_z, zAt_z, zProp_z, zApp_z, zAugN_z, zSeqI_z, zRng1_z, zRng2_z, zAsg_z, zPart_z, zNoP_z, getPl, setPl, wipeE, List.getElem?_cons_succ, List.getElem?_cons_zero, List.set_cons_succ, List.set_cons_zero, Res.bind_ok, Res.toS_ok, callR1, callR2, callR3, callR0_4, callRk1, callRk2, callRk3', callRk4', List.length_cons, List.length_nil, Nat.zero_add, Nat.reduceAdd, sz1, sz2, sz3, if_true, if_false, Bool.false_eq_true, Bool.not_true, Bool.not_false, zNx_z, zBk_z, zCt_z, itemsD_lst, itemsD_tup, deref_bl, deref_int, deref_str, deref_tup, deref_lst, Option.bind_some, truD, gAdd_int, gSub_int, gMul_int, gMod_int, gCmpI_int, gEq_int, gInt_int, lenR_lst, lenR_blst, lenR_tup, decide_true, decide_false, true_or, or_true, List.map_cons, List.map_nil, len_vec (VecD.row v), hv, sz, r]) q
/-! the coefficient of t -/
def lcB (lf : Lens) : ZS := (zSeq (zFrz [] (zSet 4 (zOp gAdd (zCv 4) (zOp gMul (zOp gMul (zK (.int 2)) (zOp gSub (zOp gIx (zCv 8) (zCv 7)) (zOp gIx (zCv 6) (zCv 7)))) (zOp gIx (zCv 9) (zCv 7))))))
      zNx)
def lcO (lf : Lens) (Th : Sem1) : ZS := (zSeq (zFrz [] (zAsg (tgT [8, 9]) (zCall Th 4 0 [0, 1, 2, 3] [] (sCons (zSv 0) (sCons (zSv 2) (sCons (zSv 3) (sCons (zSv 5) sNil)))) sNil)))
      (zSeq (zFrz [] (zFor (zRng1 (zCons (zLen lf (zSv 6)) zNil)) (tgN 7) (lcB lf)))
      zNx))
def lCoef (lf : Lens) (C : Str → Sem1) : ZS :=
  (zSeq (zFrz [] (zSet 4 (zK (.int 0))))
      (zSeq (zFrz [] (zFor (zSeqI (zBv 1)) (tgT [5, 6]) (lcO lf (C "_law_through"))))
      (zSeq (zFrz [] (zRet (zOp gMod (zBf gInt (zCons (zCv 4) zNil)) (zOp gIx (zCv 0) (zK (.int 0))))))
      zNx)))
def LCoOk (f : Sem1) : Prop := ∀ M w p ws ks (l i j : Nat) xs, NetS w p ws ks → (∀ x ∈ xs, XOk w p x) → i < w → j < w →
  f [.val (netT p ws ks), .val (portD xs), .val (.int l), .val (.tup [.int i, .int j])] M = .ok (.int (coS p w l i j ws ks xs)) M
section
variable {lf : Lens} {M : Sto} {w : Nat} {p : Int} {ws : List Mat} {ks : List Bool} {l i j : Nat}
theorem lcO_ok {Th : Sem1} (hT : LThOk Th) (h : NetS w p ws ks) (hi : i < w) (hj : j < w) {x : Vec × Vec} (hx : XOk w p x) {t : Int} {a1 e7 e8 e9 : Sl} :
    ∃ f7 f8 f9, lcO lf Th [.val (netT p ws ks), a1, .val (.int l), .val (.tup [.int i, .int j]), .val (.int t), .val (rowD x.1), .val (rowD x.2), e7, e8, e9] M = .nx [.val (netT p ws ks), a1, .val (.int l), .val (.tup [.int i, .int j]), .val (.int (t + coX p w l i j ws ks x)), .val (rowD x.1), .val (rowD x.2), f7, f8, f9] M := by
  have w3 := h.w3
  have p97 := h.p97
  have q := hT M w p ws ks l i j x.1 h hx.1 hx.2.2.1 hi hj
  have la : (outV p ws ks x.1).length = w := outV_len (fun m hm => (h.ms m hm).1) hx.1
  have lb : (tanV p w l i j 0 ws ks x.1 (List.replicate w 0)).length = w := tanV_len (by simp)
  have ltb : Lt p (tanV p w l i j 0 ws ks x.1 (List.replicate w 0)) := tanV_lt h.p0 fun y hy => by
    rw [List.eq_of_mem_replicate hy]
    exact ⟨Int.le_refl _, h.p0⟩
  unfold coX
  generalize outV p ws ks x.1 = a at *
  generalize tanV p w l i j 0 ws ks x.1 (List.replicate w 0) = b at *
  have lp : ∃ f7, zFor (zRng1 (zCons (zLen lf (zSv 6)) zNil)) (tgN 7) (lcB lf) [.val (netT p ws ks), a1, .val (.int l), .val (.tup [.int i, .int j]), .val (.int t), .val (rowD x.1), .val (rowD x.2), e7, .val (vL a), .val (vL b)] M =
      .nx [.val (netT p ws ks), a1, .val (.int l), .val (.tup [.int i, .int j]), .val (.int (t + sumN w fun c => 2 * (a.getD c 0 - x.2.getD c 0) * b.getD c 0)), .val (rowD x.1), .val (rowD x.2), f7, .val (vL a), .val (vL b)] M := by
    have hz : zRng1 (zCons (zLen lf (zSv 6)) zNil) [.val (netT p ws ks), a1, .val (.int l), .val (.tup [.int i, .int j]), .val (.int t), .val (rowD x.1), .val (rowD x.2), e7, .val (vL a), .val (vL b)] M = .ok (stpD 0 1 w) M := by
      simp only [zSeq_z, zFrz_z, zSet_z, zSetO_z, zRet_z, zDrop_z, zIfS_z, zTst_z, zTru_z, zNot_z, zAnd_z, zOr_z, zAndV_z, zNotV_z, zIf_z, zOp_z, zBf_z, zCons_z, zNil_z, zCall_z, sCons_z, sNil_z, zSv_z, zVl_z, zCv_z, zBv_z, zVar_z, zK_z, zNeg_z, zTup_z, zLst_z, zTupOf_z, zLstOf_z, zLen_z, zAt_z, zProp_z, zApp_z, zAugN_z, zSeqI_z, zRng1_z, zRng2_z, zAsg_z, zPart_z, zNoP_z, getPl, setPl, wipeE, List.getElem?_cons_succ, List.getElem?_cons_zero, List.set_cons_succ, List.set_cons_zero, Res.bind_ok, Res.toS_ok, callR1, callR2, callR3, callR0_4, callRk1, callRk2, callRk3', callRk4', List.length_cons, List.length_nil, Nat.zero_add, Nat.reduceAdd, sz1, sz2, sz3, if_true, if_false, Bool.false_eq_true, Bool.not_true, Bool.not_false, zNx_z, zBk_z, zCt_z, itemsD_lst, itemsD_tup, deref_bl, deref_int, deref_str, deref_tup, deref_lst, Option.bind_some, truD, gAdd_int, gSub_int, gMul_int, gMod_int, gCmpI_int, gEq_int, gInt_int, lenR_lst, lenR_blst, lenR_tup, decide_true, decide_false, true_or, or_true, List.map_cons, List.map_nil, len_vec (VecD.row x.2), hx.2.1]
      exact rngR_nat w (by omega)
    have hb : ∀ (c : Nat) (s : Int), c < w → lcB lf [.val (netT p ws ks), a1, .val (.int l), .val (.tup [.int i, .int j]), .val (.int s), .val (rowD x.1), .val (rowD x.2), .val (.int c), .val (vL a), .val (vL b)] M = .nx [.val (netT p ws ks), a1, .val (.int l), .val (.tup [.int i, .int j]), .val (.int (s + 2 * (a.getD c 0 - x.2.getD c 0) * b.getD c 0)), .val (rowD x.1), .val (rowD x.2), .val (.int c), .val (vL a), .val (vL b)] M := fun c s hc => by
      have t1 := ix_vec (M := M) (vL_is a) (k := c) (by omega)
      have t2 := ix_vec (M := M) (VecD.row x.2) (k := c) (by rw [hx.2.1]; exact hc)
      have t3 := ix_vec (M := M) (vL_is b) (k := c) (by omega)
      have hbd := ltb.getD h.p0 c
      have h2 : smallI 2 := by decide
      generalize b.getD c 0 = B at *
      have hB : smallI B := small_of (by omega) (by omega)
      simp only [zSeq_z, zFrz_z, zSet_z, zSetO_z, zRet_z, zDrop_z, zIfS_z, zTst_z, zTru_z, zNot_z, zAnd_z, zOr_z, zAndV_z, zNotV_z, zIf_z, zOp_z, zBf_z, zCons_z, zNil_z, zCall_z, sCons_z, sNil_z, zSv_z, zVl_z, zCv_z, zBv_z, zVar_z, zK_z, zNeg_z, zTup_z, zLst_z, zTupOf_z, zLstOf_z, zLen_z, zAt_z, zProp_z, zApp_z, zAugN_z, zSeqI_z, zRng1_z, zRng2_z, zAsg_z, zPart_z, zNoP_z, getPl, setPl, wipeE, List.getElem?_cons_succ, List.getElem?_cons_zero, List.set_cons_succ, List.set_cons_zero, Res.bind_ok, Res.toS_ok, callR1, callR2, callR3, callR0_4, callRk1, callRk2, callRk3', callRk4', List.length_cons, List.length_nil, Nat.zero_add, Nat.reduceAdd, sz1, sz2, sz3, if_true, if_false, Bool.false_eq_true, Bool.not_true, Bool.not_false, zNx_z, zBk_z, zCt_z, itemsD_lst, itemsD_tup, deref_bl, deref_int, deref_str, deref_tup, deref_lst, Option.bind_some, truD, gAdd_int, gSub_int, gMul_int, gMod_int, gCmpI_int, gEq_int, gInt_int, lenR_lst, lenR_blst, lenR_tup, decide_true, decide_false, true_or, or_true, List.map_cons, List.map_nil, lcB, t1, t2, t3, h2, hB]
    generalize lcB lf = y at hb
    refine zFor_gen (I := fun c env M' => ∃ f7, env = [.val (netT p ws ks), a1, .val (.int l), .val (.tup [.int i, .int j]), .val (.int (t + sumN c fun c => 2 * (a.getD c 0 - x.2.getD c 0) * b.getD c 0)), .val (rowD x.1), .val (rowD x.2), f7, .val (vL a), .val (vL b)] ∧ M' = M)
      (Q := fun o => ∃ f7, o = .nx [.val (netT p ws ks), a1, .val (.int l), .val (.tup [.int i, .int j]), .val (.int (t + sumN w fun c => 2 * (a.getD c 0 - x.2.getD c 0) * b.getD c 0)), .val (rowD x.1), .val (rowD x.2), f7, .val (vL a), .val (vL b)] M) hz ⟨e7, by simp [sumN], rfl⟩ (fun c z env M' hc hI => ?_) fun env M' hI => ?_
    · obtain ⟨f7, rfl, rfl⟩ := hI
      obtain ⟨rfl, hlt⟩ := stpD_get hc
      refine ⟨_, rfl, ?_⟩
      simp only [List.set_cons_succ, List.set_cons_zero, Int.zero_add, Int.mul_one]
      rw [hb c _ hlt]
      exact ⟨.val (.int c), by rw [sumN, ← Int.add_assoc], rfl⟩
    · obtain ⟨f7, rfl, rfl⟩ := hI
      rw [stpD_len]
      exact ⟨f7, rfl⟩
  obtain ⟨f7, s⟩ := lp
  refine ⟨f7, .val (vL a), .val (vL b), ?_⟩
  have c : callR Th 4 0 [0, 1, 2, 3] [] [.val (netT p ws ks), .val (.int l), .val (.tup [.int i, .int j]), .val (rowD x.1)] [] M = .ok (.lst [vL a, vL b]) M := q
  unfold lcO
  generalize zFor (zRng1 (zCons (zLen lf (zSv 6)) zNil)) (tgN 7) (lcB lf) = y at s
  simp only [zSeq_z, zFrz_z, zSet_z, zSetO_z, zRet_z, zDrop_z, zIfS_z, zTst_z, zTru_z, zNot_z, zAnd_z, zOr_z, zAndV_z, zNotV_z, zIf_z, zOp_z, zBf_z, zCons_z, zNil_z, zCall_z, sCons_z, sNil_z, zSv_z, zVl_z, zCv_z, zBv_z, zVar_z, zK_z, zNeg_z, zTup_z, zLst_z, zTupOf_z, zLstOf_z, zLen_z, zAt_z, zProp_z, zApp_z, zAugN_z, zSeqI_z, zRng1_z, zRng2_z, zAsg_z, zPart_z, zNoP_z, getPl, setPl, wipeE, List.getElem?_cons_succ, List.getElem?_cons_zero, List.set_cons_succ, List.set_cons_zero, Res.bind_ok, Res.toS_ok, callR1, callR2, callR3, callR0_4, callRk1, callRk2, callRk3', callRk4', List.length_cons, List.length_nil, Nat.zero_add, Nat.reduceAdd, sz1, sz2, sz3, if_true, if_false, Bool.false_eq_true, Bool.not_true, Bool.not_false, zNx_z, zBk_z, zCt_z, itemsD_lst, itemsD_tup, deref_bl, deref_int, deref_str, deref_tup, deref_lst, Option.bind_some, truD, gAdd_int, gSub_int, gMul_int, gMod_int, gCmpI_int, gEq_int, gInt_int, lenR_lst, lenR_blst, lenR_tup, decide_true, decide_false, true_or, or_true, List.map_cons, List.map_nil, c, tgT, setAll, s]
theorem lco_loop {Th : Sem1} (hT : LThOk Th) (h : NetS w p ws ks) (hi : i < w) (hj : j < w) {xs : List (Vec × Vec)} (hx : ∀ x ∈ xs, XOk w p x) :
    ∃ e5 e6 e7 e8 e9, zFor (zSeqI (zBv 1)) (tgT [5, 6]) (lcO lf Th) [.val (netT p ws ks), .val (portD xs), .val (.int l), .val (.tup [.int i, .int j]), .val (.int 0), .no, .no, .no, .no, .no] M = .nx [.val (netT p ws ks), .val (portD xs), .val (.int l), .val (.tup [.int i, .int j]), .val (.int (xs.map (coX p w l i j ws ks)).sum), e5, e6, e7, e8, e9] M := by
  have hz : zSeqI (zBv 1) [.val (netT p ws ks), .val (portD xs), .val (.int l), .val (.tup [.int i, .int j]), .val (.int 0), .no, .no, .no, .no, .no] M = .ok (xs.map pairD) M := by
    have e : itemsD (portD xs) = some (xs.map pairD) := rfl
    simp only [zSeq_z, zFrz_z, zSet_z, zSetO_z, zRet_z, zDrop_z, zIfS_z, zTst_z, zTru_z, zNot_z, zAnd_z, zOr_z, zAndV_z, zNotV_z, zIf_z, zOp_z, zBf_z, zCons_z, zNil_z, zCall_z, sCons_z, sNil_z, zSv_z, zVl_z, zCv_z, zBv_z, zVar_z, zK_z, zNeg_z, zTup_z, zLst_z, zTupOf_z, zLstOf_z, zLen_z, zAt_z, zProp_z, zApp_z, zAugN_z, zSeqI_z, zRng1_z, zRng2_z, zAsg_z, zPart_z, zNoP_z, getPl, setPl, wipeE, List.getElem?_cons_succ, List.getElem?_cons_zero, List.set_cons_succ, List.set_cons_zero, Res.bind_ok, Res.toS_ok, callR1, callR2, callR3, callR0_4, callRk1, callRk2, callRk3', callRk4', List.length_cons, List.length_nil, Nat.zero_add, Nat.reduceAdd, sz1, sz2, sz3, if_true, if_false, Bool.false_eq_true, Bool.not_true, Bool.not_false, zNx_z, zBk_z, zCt_z, itemsD_lst, itemsD_tup, deref_bl, deref_int, deref_str, deref_tup, deref_lst, Option.bind_some, truD, gAdd_int, gSub_int, gMul_int, gMod_int, gCmpI_int, gEq_int, gInt_int, lenR_lst, lenR_blst, lenR_tup, decide_true, decide_false, true_or, or_true, List.map_cons, List.map_nil, e]
  have hb := fun (x : Vec × Vec) (t : Int) (e7 e8 e9 : Sl) (hx : XOk w p x) => lcO_ok (lf := lf) (M := M) (l := l) (t := t) (a1 := .val (portD xs)) (e7 := e7) (e8 := e8) (e9 := e9) hT h hi hj hx
  generalize lcO lf Th = y at hb
  refine zFor_gen (I := fun n env M' => ∃ e5 e6 e7 e8 e9, env = [.val (netT p ws ks), .val (portD xs), .val (.int l), .val (.tup [.int i, .int j]), .val (.int ((xs.take n).map (coX p w l i j ws ks)).sum), e5, e6, e7, e8, e9] ∧ M' = M)
    (Q := fun o => ∃ e5 e6 e7 e8 e9, o = .nx [.val (netT p ws ks), .val (portD xs), .val (.int l), .val (.tup [.int i, .int j]), .val (.int (xs.map (coX p w l i j ws ks)).sum), e5, e6, e7, e8, e9] M) hz ⟨.no, .no, .no, .no, .no, rfl, rfl⟩ (fun n c env M' hc hI => ?_) fun env M' hI => ?_
  · obtain ⟨e5, e6, e7, e8, e9, rfl, rfl⟩ := hI
    rw [List.getElem?_map] at hc
    cases q : xs[n]? with
    | none => rw [q] at hc; cases hc
    | some x =>
      rw [q] at hc
      cases hc
      obtain ⟨f7, f8, f9, s⟩ := hb x ((xs.take n).map (coX p w l i j ws ks)).sum e7 e8 e9 (hx x (List.mem_of_getElem? q))
      refine ⟨_, rfl, ?_⟩
      simp only [List.set_cons_succ, List.set_cons_zero]
      rw [s]
      refine ⟨.val (rowD x.1), .val (rowD x.2), f7, f8, f9, ?_, rfl⟩
      rw [take_snoc q, List.map_append, List.sum_append]
      simp
  · obtain ⟨e5, e6, e7, e8, e9, rfl, rfl⟩ := hI
    exact ⟨e5, e6, e7, e8, e9, by rw [List.length_map, List.take_of_length_le (Nat.le_refl _)]⟩
end
theorem lco_seq {y : ZS} {p t : Int} {ws : List Mat} {ks : List Bool} {b c d : Sl} {e5 e6 e7 e8 e9 : Sl} {M : Sto} (hp : 0 < p) (hy : y [.val (netT p ws ks), b, c, d, .val (.int 0), .no, .no, .no, .no, .no] M = .nx [.val (netT p ws ks), b, c, d, .val (.int t), e5, e6, e7, e8, e9] M) :
    zFun 4 10 (zSeq (zFrz [] (zSet 4 (zK (.int 0)))) (zSeq (zFrz [] y) (zSeq (zFrz [] (zRet (zOp gMod (zBf gInt (zCons (zCv 4) zNil)) (zOp gIx (zCv 0) (zK (.int 0)))))) zNx))) [.val (netT p ws ks), b, c, d] M = .ok (.int (t % p)) M := by
  unfold zFun
  simp [hy, ixT0, hp]
theorem lCoOk {lf : Lens} {C : Str → Sem1} (hT : LThOk (C "_law_through")) : LCoOk (zFun 4 10 (lCoef lf C)) := fun M w p ws ks l i j xs h hx hi hj => by
  obtain ⟨e5, e6, e7, e8, e9, q⟩ := lco_loop (lf := lf) (M := M) (l := l) hT h hi hj hx
  exact lco_seq h.p0 q
end Zy
set_option maxHeartbeats 0
namespace Zy.stagesfull_k05_whole_slopes_are_coeffici
open PySem PySem.Spec PyProof.Rows L2 Zy
def top (i : Nat) : Stmt := PySem.Challenge.pw_stagesfull_k05_whole_slopes_are_coeffici.main.body.getD i (.Pass ⟨0, 0, 0, 0⟩)
abbrev s_is_integer : Stmt := top 1
def f_is_integer : Fi := ⟨⟨.glo "is_integer", "is_integer", "is_integer", defArgs s_is_integer, defBody s_is_integer, defScope s_is_integer, [], []⟩, ["value"], ["value"], [], []⟩
abbrev s_is_between : Stmt := top 2
def f_is_between : Fi := ⟨⟨.glo "is_between", "is_between", "is_between", defArgs s_is_between, defBody s_is_between, defScope s_is_between, [], []⟩, ["value", "low", "high"], ["value", "low", "high"], [], []⟩
abbrev s_is_sequence : Stmt := top 3
def f_is_sequence : Fi := ⟨⟨.glo "is_sequence", "is_sequence", "is_sequence", defArgs s_is_sequence, defBody s_is_sequence, defScope s_is_sequence, [], []⟩, ["value"], ["value"], [], []⟩
abbrev s_as_tuples : Stmt := top 4
def f_as_tuples : Fi := ⟨⟨.glo "as_tuples", "as_tuples", "as_tuples", defArgs s_as_tuples, defBody s_as_tuples, defScope s_as_tuples, [], []⟩, ["value"], ["value", "item"], [], []⟩
abbrev s_Net_init : Stmt := inClass (top 9) 0
def f_Net_init : Fi := ⟨⟨.meth "Net" "__init__", "__init__", "Net.__init__", defArgs s_Net_init, defBody s_Net_init, defScope s_Net_init, [], []⟩, ["self", "prime", "weights", "kinds"], ["self", "prime", "weights", "kinds"], [], []⟩
abbrev s_Net_width : Stmt := inClass (top 9) 1
def f_Net_width : Fi := ⟨⟨.prop "Net" "width", "width", "Net.width", defArgs s_Net_width, defBody s_Net_width, defScope s_Net_width, [], []⟩, ["self"], ["self"], [], []⟩
abbrev s_Net_len : Stmt := inClass (top 9) 2
def f_Net_len : Fi := ⟨⟨.meth "Net" "__len__", "__len__", "Net.__len__", defArgs s_Net_len, defBody s_Net_len, defScope s_Net_len, [], []⟩, ["self"], ["self"], [], []⟩
abbrev s_is_net_prime : Stmt := top 10
def f_is_net_prime : Fi := ⟨⟨.glo "is_net_prime", "is_net_prime", "is_net_prime", defArgs s_is_net_prime, defBody s_is_net_prime, defScope s_is_net_prime, [], []⟩, ["value"], ["value", "divisor"], [], []⟩
abbrev s__product : Stmt := top 11
def f__product : Fi := ⟨⟨.glo "_product", "_product", "_product", defArgs s__product, defBody s__product, defScope s__product, [], []⟩, ["net", "layer", "vector"], ["net", "layer", "vector", "row", "w", "x"], [], []⟩
abbrev s_layer_forward : Stmt := top 12
def f_layer_forward : Fi := ⟨⟨.glo "layer_forward", "layer_forward", "layer_forward", defArgs s_layer_forward, defBody s_layer_forward, defScope s_layer_forward, [], []⟩, ["net", "layer", "vector"], ["net", "layer", "vector", "product", "y"], [], []⟩
abbrev s__product_slopes : Stmt := top 13
def f__product_slopes : Fi := ⟨⟨.glo "_product_slopes", "_product_slopes", "_product_slopes", defArgs s__product_slopes, defBody s__product_slopes, defScope s__product_slopes, [], []⟩, ["net", "layer", "vector", "slopes"], ["net", "layer", "vector", "slopes", "product", "y", "slope"], [], []⟩
abbrev s_layer_back : Stmt := top 14
def f_layer_back : Fi := ⟨⟨.glo "layer_back", "layer_back", "layer_back", defArgs s_layer_back, defBody s_layer_back, defScope s_layer_back, [], []⟩, ["net", "layer", "vector", "slopes"], ["net", "layer", "vector", "slopes", "prime", "matrix", "product_slopes", "came_in", "k", "g", "x", "row"], ["came_in"], []⟩
abbrev s_way_forward : Stmt := top 15
def f_way_forward : Fi := ⟨⟨.glo "way_forward", "way_forward", "way_forward", defArgs s_way_forward, defBody s_way_forward, defScope s_way_forward, [], []⟩, ["net", "vector"], ["net", "vector", "way", "layer"], ["way"], []⟩
abbrev s_way_back : Stmt := top 16
def f_way_back : Fi := ⟨⟨.glo "way_back", "way_back", "way_back", defArgs s_way_back, defBody s_way_back, defScope s_way_back, [], []⟩, ["net", "came_in", "slopes"], ["net", "came_in", "slopes", "matrices", "layer", "matrix"], ["matrices"], []⟩
abbrev s_loss_slopes : Stmt := top 17
def f_loss_slopes : Fi := ⟨⟨.glo "loss_slopes", "loss_slopes", "loss_slopes", defArgs s_loss_slopes, defBody s_loss_slopes, defScope s_loss_slopes, [], []⟩, ["prime", "out", "target"], ["prime", "out", "target", "number", "wanted"], [], []⟩
abbrev s_no_slopes : Stmt := top 18
def f_no_slopes : Fi := ⟨⟨.glo "no_slopes", "no_slopes", "no_slopes", defArgs s_no_slopes, defBody s_no_slopes, defScope s_no_slopes, [], []⟩, ["net"], ["net", "row"], [], []⟩
abbrev s_added_slopes : Stmt := top 19
def f_added_slopes : Fi := ⟨⟨.glo "added_slopes", "added_slopes", "added_slopes", defArgs s_added_slopes, defBody s_added_slopes, defScope s_added_slopes, [], []⟩, ["net", "ones", "others"], ["net", "ones", "others", "one", "other"], [], []⟩
abbrev s__added_matrix : Stmt := top 20
def f__added_matrix : Fi := ⟨⟨.glo "_added_matrix", "_added_matrix", "_added_matrix", defArgs s__added_matrix, defBody s__added_matrix, defScope s__added_matrix, [], []⟩, ["prime", "one", "other"], ["prime", "one", "other", "row", "beside", "a", "b"], [], []⟩
abbrev s_portion_slopes : Stmt := top 21
def f_portion_slopes : Fi := ⟨⟨.glo "portion_slopes", "portion_slopes", "portion_slopes", defArgs s_portion_slopes, defBody s_portion_slopes, defScope s_portion_slopes, [], []⟩, ["net", "portion"], ["net", "portion", "sums", "vector", "target", "way", "back"], [], []⟩
abbrev s__law_draws : Stmt := top 23
def f__law_draws : Fi := ⟨⟨.glo "_law_draws", "_law_draws", "_law_draws", defArgs s__law_draws, defBody s__law_draws, defScope s__law_draws, [], []⟩, ["script", "many"], ["script", "many", "rests", "draws", "k", "cell", "mixed", "spot"], ["draws", "rests"], []⟩
abbrev s__law_take : Stmt := top 24
def f__law_take : Fi := ⟨⟨.glo "_law_take", "_law_take", "_law_take", defArgs s__law_take, defBody s__law_take, defScope s__law_take, [], []⟩, ["hand", "many"], ["hand", "many", "spot", "draws"], [], []⟩
abbrev s__law_prime : Stmt := top 25
def f__law_prime : Fi := ⟨⟨.glo "_law_prime", "_law_prime", "_law_prime", defArgs s__law_prime, defBody s__law_prime, defScope s__law_prime, [], []⟩, ["hand"], ["hand", "primes"], [], []⟩
abbrev s__law_vector : Stmt := top 26
def f__law_vector : Fi := ⟨⟨.glo "_law_vector", "_law_vector", "_law_vector", defArgs s__law_vector, defBody s__law_vector, defScope s__law_vector, [], []⟩, ["hand", "prime", "width"], ["hand", "prime", "width", "k"], [], []⟩
abbrev s__law_net : Stmt := top 27
def f__law_net : Fi := ⟨⟨.glo "_law_net", "_law_net", "_law_net", defArgs s__law_net, defBody s__law_net, defScope s__law_net, [], []⟩, ["hand", "most"], ["hand", "most", "prime", "width", "weights", "kinds", "layer", "k"], ["weights", "kinds"], []⟩
abbrev s__law_portion : Stmt := top 28
def f__law_portion : Fi := ⟨⟨.glo "_law_portion", "_law_portion", "_law_portion", defArgs s__law_portion, defBody s__law_portion, defScope s__law_portion, [], []⟩, ["hand", "prime", "width", "most"], ["hand", "prime", "width", "most", "portion", "k"], ["portion"], []⟩
abbrev s__law_through : Stmt := top 29
def f__law_through : Fi := ⟨⟨.glo "_law_through", "_law_through", "_law_through", defArgs s__law_through, defBody s__law_through, defScope s__law_through, [], []⟩, ["net", "layer", "spot", "vector"], ["net", "layer", "spot", "vector", "prime", "plain", "rises", "l", "one", "more", "i", "row", "value", "rise", "k"], ["one", "more"], []⟩
abbrev s__law_coefficient : Stmt := top 30
def f__law_coefficient : Fi := ⟨⟨.glo "_law_coefficient", "_law_coefficient", "_law_coefficient", defArgs s__law_coefficient, defBody s__law_coefficient, defScope s__law_coefficient, [], []⟩, ["net", "portion", "layer", "spot"], ["net", "portion", "layer", "spot", "total", "vector", "target", "k", "plain", "rises"], [], []⟩
abbrev s_law : Stmt := top 31
def f_law : Fi := ⟨⟨.glo "law", "law", "law", defArgs s_law, defBody s_law, defScope s_law, [], []⟩, ["script"], ["script", "hand", "own", "width", "net", "portion", "passed", "due", "layer", "again", "matrix", "i", "pair", "vector", "target", "k"], ["due", "matrix"], ["hand"]⟩
def fns : List Fi := [f_is_integer, f_is_between, f_is_sequence, f_as_tuples, f_Net_init, f_Net_width, f_Net_len, f_is_net_prime, f__product, f_layer_forward, f__product_slopes, f_layer_back, f_way_forward, f_way_back, f_loss_slopes, f_no_slopes, f_added_slopes, f__added_matrix, f_portion_slopes, f__law_draws, f__law_take, f__law_prime, f__law_vector, f__law_net, f__law_portion, f__law_through, f__law_coefficient, f_law]
def p_0 : Pt := ⟨"is_integer", 1, [], [0], []⟩
def p_1 : Pt := ⟨"is_sequence", 1, [], [0], []⟩
def p_2 : Pt := ⟨"as_tuples", 1, [], [0], []⟩
def p_3 : Pt := ⟨"is_net_prime", 1, [], [0], []⟩
def p_4 : Pt := ⟨"is_between", 3, [], [0, 1, 2], []⟩
def p_5 : Pt := ⟨"_product", 3, [], [0, 1, 2], []⟩
def p_6 : Pt := ⟨"_product_slopes", 4, [], [0, 1, 2, 3], []⟩
def p_7 : Pt := ⟨"layer_forward", 3, [], [0, 1, 2], []⟩
def p_8 : Pt := ⟨"layer_back", 4, [], [0, 1, 2, 3], []⟩
def p_9 : Pt := ⟨"_added_matrix", 3, [], [0, 1, 2], []⟩
def p_10 : Pt := ⟨"no_slopes", 1, [], [0], []⟩
def p_11 : Pt := ⟨"way_forward", 2, [], [0, 1], []⟩
def p_12 : Pt := ⟨"way_back", 3, [], [0, 1, 2], []⟩
def p_13 : Pt := ⟨"added_slopes", 3, [], [0, 1, 2], []⟩
def p_14 : Pt := ⟨"loss_slopes", 3, [], [0, 1, 2], []⟩
def p_15 : Pt := ⟨"_law_take", 2, [], [0, 1], []⟩
def p_16 : Pt := ⟨"_law_prime", 1, [], [0], []⟩
def p_17 : Pt := ⟨"_law_vector", 3, [], [0, 1, 2], []⟩
def p_18 : Pt := ⟨"_law_through", 4, [], [0, 1, 2, 3], []⟩
def p_19 : Pt := ⟨"_law_net", 2, [], [0, 1], []⟩
def p_20 : Pt := ⟨"_law_portion", 4, [], [0, 1, 2, 3], []⟩
def p_21 : Pt := ⟨"_law_draws", 2, [], [0, 1], []⟩
def p_22 : Pt := ⟨"portion_slopes", 0, ["net", "portion"], [0, 1], []⟩
def p_23 : Pt := ⟨"_law_coefficient", 4, [], [0, 1, 2, 3], []⟩
def ci_Net : Ci := ⟨"Net", "Net", ["prime", "weights", "kinds"], [("Net.__init__", 3, [], [0, 1, 2, 3])], (some "Net.__len__"), [("width", "Net.width")]⟩
def px : Px := ⟨["len", "int", "abs", "sum", "max", "min", "all", "any", "repr", "tuple", "list", "range", "isinstance", "bool", "str", "dict", "sorted", "enumerate", "zip", "reversed"], [p_0, p_1, p_2, p_3, p_4, p_5, p_6, p_7, p_8, p_9, p_10, p_11, p_12, p_13, p_14, p_15, p_16, p_17, p_18, p_19, p_20, p_21, p_22, p_23], [ci_Net]⟩
theorem b_0 : Bnd f_is_integer 1 [] p_0.is := ⟨⟨rfl, rfl⟩, rfl, fun _ _ _ _ _ _ us ws h1 h2 => match us, ws, h1, h2 with | [a0], [], _, _ => ⟨_, rfl, rfl⟩⟩
theorem b_1 : Bnd f_is_sequence 1 [] p_1.is := ⟨⟨rfl, rfl⟩, rfl, fun _ _ _ _ _ _ us ws h1 h2 => match us, ws, h1, h2 with | [a0], [], _, _ => ⟨_, rfl, rfl⟩⟩
theorem b_2 : Bnd f_as_tuples 1 [] p_2.is := ⟨⟨rfl, rfl⟩, rfl, fun _ _ _ _ _ _ us ws h1 h2 => match us, ws, h1, h2 with | [a0], [], _, _ => ⟨_, rfl, rfl⟩⟩
theorem b_3 : Bnd f_is_net_prime 1 [] p_3.is := ⟨⟨rfl, rfl⟩, rfl, fun _ _ _ _ _ _ us ws h1 h2 => match us, ws, h1, h2 with | [a0], [], _, _ => ⟨_, rfl, rfl⟩⟩
theorem b_4 : Bnd f_is_between 3 [] p_4.is := ⟨⟨rfl, rfl⟩, rfl, fun _ _ _ _ _ _ us ws h1 h2 => match us, ws, h1, h2 with | [a0, a1, a2], [], _, _ => ⟨_, rfl, rfl⟩⟩
theorem b_5 : Bnd f__product 3 [] p_5.is := ⟨⟨rfl, rfl⟩, rfl, fun _ _ _ _ _ _ us ws h1 h2 => match us, ws, h1, h2 with | [a0, a1, a2], [], _, _ => ⟨_, rfl, rfl⟩⟩
theorem b_6 : Bnd f__product_slopes 4 [] p_6.is := ⟨⟨rfl, rfl⟩, rfl, fun _ _ _ _ _ _ us ws h1 h2 => match us, ws, h1, h2 with | [a0, a1, a2, a3], [], _, _ => ⟨_, rfl, rfl⟩⟩
theorem b_7 : Bnd f_layer_forward 3 [] p_7.is := ⟨⟨rfl, rfl⟩, rfl, fun _ _ _ _ _ _ us ws h1 h2 => match us, ws, h1, h2 with | [a0, a1, a2], [], _, _ => ⟨_, rfl, rfl⟩⟩
theorem b_8 : Bnd f_layer_back 4 [] p_8.is := ⟨⟨rfl, rfl⟩, rfl, fun _ _ _ _ _ _ us ws h1 h2 => match us, ws, h1, h2 with | [a0, a1, a2, a3], [], _, _ => ⟨_, rfl, rfl⟩⟩
theorem b_9 : Bnd f__added_matrix 3 [] p_9.is := ⟨⟨rfl, rfl⟩, rfl, fun _ _ _ _ _ _ us ws h1 h2 => match us, ws, h1, h2 with | [a0, a1, a2], [], _, _ => ⟨_, rfl, rfl⟩⟩
theorem b_10 : Bnd f_no_slopes 1 [] p_10.is := ⟨⟨rfl, rfl⟩, rfl, fun _ _ _ _ _ _ us ws h1 h2 => match us, ws, h1, h2 with | [a0], [], _, _ => ⟨_, rfl, rfl⟩⟩
theorem b_11 : Bnd f_way_forward 2 [] p_11.is := ⟨⟨rfl, rfl⟩, rfl, fun _ _ _ _ _ _ us ws h1 h2 => match us, ws, h1, h2 with | [a0, a1], [], _, _ => ⟨_, rfl, rfl⟩⟩
theorem b_12 : Bnd f_way_back 3 [] p_12.is := ⟨⟨rfl, rfl⟩, rfl, fun _ _ _ _ _ _ us ws h1 h2 => match us, ws, h1, h2 with | [a0, a1, a2], [], _, _ => ⟨_, rfl, rfl⟩⟩
theorem b_13 : Bnd f_added_slopes 3 [] p_13.is := ⟨⟨rfl, rfl⟩, rfl, fun _ _ _ _ _ _ us ws h1 h2 => match us, ws, h1, h2 with | [a0, a1, a2], [], _, _ => ⟨_, rfl, rfl⟩⟩
theorem b_14 : Bnd f_loss_slopes 3 [] p_14.is := ⟨⟨rfl, rfl⟩, rfl, fun _ _ _ _ _ _ us ws h1 h2 => match us, ws, h1, h2 with | [a0, a1, a2], [], _, _ => ⟨_, rfl, rfl⟩⟩
theorem b_15 : Bnd f__law_take 2 [] p_15.is := ⟨⟨rfl, rfl⟩, rfl, fun _ _ _ _ _ _ us ws h1 h2 => match us, ws, h1, h2 with | [a0, a1], [], _, _ => ⟨_, rfl, rfl⟩⟩
theorem b_16 : Bnd f__law_prime 1 [] p_16.is := ⟨⟨rfl, rfl⟩, rfl, fun _ _ _ _ _ _ us ws h1 h2 => match us, ws, h1, h2 with | [a0], [], _, _ => ⟨_, rfl, rfl⟩⟩
theorem b_17 : Bnd f__law_vector 3 [] p_17.is := ⟨⟨rfl, rfl⟩, rfl, fun _ _ _ _ _ _ us ws h1 h2 => match us, ws, h1, h2 with | [a0, a1, a2], [], _, _ => ⟨_, rfl, rfl⟩⟩
theorem b_18 : Bnd f__law_through 4 [] p_18.is := ⟨⟨rfl, rfl⟩, rfl, fun _ _ _ _ _ _ us ws h1 h2 => match us, ws, h1, h2 with | [a0, a1, a2, a3], [], _, _ => ⟨_, rfl, rfl⟩⟩
theorem b_19 : Bnd f__law_net 2 [] p_19.is := ⟨⟨rfl, rfl⟩, rfl, fun _ _ _ _ _ _ us ws h1 h2 => match us, ws, h1, h2 with | [a0, a1], [], _, _ => ⟨_, rfl, rfl⟩⟩
theorem b_20 : Bnd f__law_portion 4 [] p_20.is := ⟨⟨rfl, rfl⟩, rfl, fun _ _ _ _ _ _ us ws h1 h2 => match us, ws, h1, h2 with | [a0, a1, a2, a3], [], _, _ => ⟨_, rfl, rfl⟩⟩
theorem b_21 : Bnd f__law_draws 2 [] p_21.is := ⟨⟨rfl, rfl⟩, rfl, fun _ _ _ _ _ _ us ws h1 h2 => match us, ws, h1, h2 with | [a0, a1], [], _, _ => ⟨_, rfl, rfl⟩⟩
theorem b_22 : Bnd f_portion_slopes 0 ["net", "portion"] p_22.is := ⟨⟨rfl, rfl⟩, rfl, fun _ _ _ _ _ _ us ws h1 h2 => match us, ws, h1, h2 with | [], [b0, b1], _, _ => ⟨_, rfl, rfl⟩⟩
theorem b_23 : Bnd f__law_coefficient 4 [] p_23.is := ⟨⟨rfl, rfl⟩, rfl, fun _ _ _ _ _ _ us ws h1 h2 => match us, ws, h1, h2 with | [a0, a1, a2, a3], [], _, _ => ⟨_, rfl, rfl⟩⟩
theorem bm_Net_0 : Bnd f_Net_init 4 [] [0, 1, 2, 3] := ⟨⟨rfl, rfl⟩, rfl, fun _ _ _ _ _ _ us ws h1 h2 => match us, ws, h1, h2 with | [a0, a1, a2, a3], [], _, _ => ⟨_, rfl, rfl⟩⟩
theorem bl_Net : Bnd f_Net_len 1 [] [0] := ⟨⟨rfl, rfl⟩, rfl, fun _ _ _ _ _ _ us ws h1 h2 => match us, ws, h1, h2 with | [a0], [], _, _ => ⟨_, rfl, rfl⟩⟩
theorem bp_Net_width : Bnd f_Net_width 1 [] [0] := ⟨⟨rfl, rfl⟩, rfl, fun _ _ _ _ _ _ us ws h1 h2 => match us, ws, h1, h2 with | [a0], [], _, _ => ⟨_, rfl, rfl⟩⟩
theorem text : TextOk fns px := by
  refine ⟨?_, ?_, ?_⟩
  · exact all_cons (by decide +kernel) (all_cons (by decide +kernel) (all_cons (by decide +kernel) (all_cons (by decide +kernel) (all_cons (by decide +kernel) (all_cons (by decide +kernel) (all_cons (by decide +kernel) (all_cons (by decide +kernel) (all_cons (by decide +kernel) (all_cons (by decide +kernel) (all_cons (by decide +kernel) (all_cons (by decide +kernel) (all_cons (by decide +kernel) (all_cons (by decide +kernel) (all_cons (by decide +kernel) (all_cons (by decide +kernel) (all_cons (by decide +kernel) (all_cons (by decide +kernel) (all_cons (by decide +kernel) (all_cons (by decide +kernel) (all_cons (by decide +kernel) (all_cons (by decide +kernel) (all_cons (by decide +kernel) (all_cons (by decide +kernel) (all_cons (by decide +kernel) (all_cons (by decide +kernel) (all_cons (by decide +kernel) (all_cons (by decide +kernel) (all_nil))))))))))))))))))))))))))))
  · exact all_cons ⟨f_is_integer, at_ok 0 rfl rfl rfl rfl, rfl, b_0⟩ (all_cons ⟨f_is_sequence, at_ok 2 rfl rfl rfl rfl, rfl, b_1⟩ (all_cons ⟨f_as_tuples, at_ok 3 rfl rfl rfl rfl, rfl, b_2⟩ (all_cons ⟨f_is_net_prime, at_ok 7 rfl rfl rfl rfl, rfl, b_3⟩ (all_cons ⟨f_is_between, at_ok 1 rfl rfl rfl rfl, rfl, b_4⟩ (all_cons ⟨f__product, at_ok 8 rfl rfl rfl rfl, rfl, b_5⟩ (all_cons ⟨f__product_slopes, at_ok 10 rfl rfl rfl rfl, rfl, b_6⟩ (all_cons ⟨f_layer_forward, at_ok 9 rfl rfl rfl rfl, rfl, b_7⟩ (all_cons ⟨f_layer_back, at_ok 11 rfl rfl rfl rfl, rfl, b_8⟩ (all_cons ⟨f__added_matrix, at_ok 17 rfl rfl rfl rfl, rfl, b_9⟩ (all_cons ⟨f_no_slopes, at_ok 15 rfl rfl rfl rfl, rfl, b_10⟩ (all_cons ⟨f_way_forward, at_ok 12 rfl rfl rfl rfl, rfl, b_11⟩ (all_cons ⟨f_way_back, at_ok 13 rfl rfl rfl rfl, rfl, b_12⟩ (all_cons ⟨f_added_slopes, at_ok 16 rfl rfl rfl rfl, rfl, b_13⟩ (all_cons ⟨f_loss_slopes, at_ok 14 rfl rfl rfl rfl, rfl, b_14⟩ (all_cons ⟨f__law_take, at_ok 20 rfl rfl rfl rfl, rfl, b_15⟩ (all_cons ⟨f__law_prime, at_ok 21 rfl rfl rfl rfl, rfl, b_16⟩ (all_cons ⟨f__law_vector, at_ok 22 rfl rfl rfl rfl, rfl, b_17⟩ (all_cons ⟨f__law_through, at_ok 25 rfl rfl rfl rfl, rfl, b_18⟩ (all_cons ⟨f__law_net, at_ok 23 rfl rfl rfl rfl, rfl, b_19⟩ (all_cons ⟨f__law_portion, at_ok 24 rfl rfl rfl rfl, rfl, b_20⟩ (all_cons ⟨f__law_draws, at_ok 19 rfl rfl rfl rfl, rfl, b_21⟩ (all_cons ⟨f_portion_slopes, at_ok 18 rfl rfl rfl rfl, rfl, b_22⟩ (all_cons ⟨f__law_coefficient, at_ok 26 rfl rfl rfl rfl, rfl, b_23⟩ (all_nil))))))))))))))))))))))))
  · exact all_cons ⟨by kernel_rfl, ⟨all_cons ⟨f_Net_init, at_ok 4 rfl rfl rfl rfl, bm_Net_0⟩ (all_nil), all_some ⟨f_Net_len, at_ok 6 rfl rfl rfl rfl, bl_Net⟩, all_cons ⟨f_Net_width, at_ok 5 rfl rfl rfl rfl, bp_Net_width⟩ (all_nil)⟩⟩ (all_nil)
abbrev R : PySem.W.OpenRow := PySem.W.OpenLaw.row PySem.Challenge.rw_stagesfull_k05_whole_slopes_are_coeffici
def gl : List Str := ["is_integer", "is_sequence", "as_tuples", "is_net_prime", "is_between", "_product", "_product_slopes", "layer_forward", "layer_back", "_added_matrix", "no_slopes", "way_forward", "way_back", "added_slopes", "loss_slopes", "_law_take", "_law_prime", "_law_vector", "_law_through", "_law_net", "_law_portion", "_law_draws", "portion_slopes", "_law_coefficient", "law"]
theorem hgl : ∀ p ∈ px.pats, p.name ∈ gl := by decide +kernel
def dfs : List DfZ := fns.map (·.d)
abbrev hk : PySem.W.Hook := hookZ 6 (fxB px gl) dfs
def ob (s : PySem.W.SharedT) : AlZ := tellG 6 (fxB px gl) dfs (HandSHeadRun.getT s)
theorem ob_eq (s : PySem.W.SharedT) : ob s = hk.obs s.abs := tellG_eq (HandSHeadRun.getT_eq s)
def loose : List PySem.Str := ["is_integer", "is_between", "is_sequence", "as_tuples", "StageError", "InvalidNumber", "Net", "is_net_prime", "_product", "layer_forward", "_product_slopes", "layer_back", "way_forward", "way_back", "loss_slopes", "no_slopes", "added_slopes", "_added_matrix", "portion_slopes", "_law_draws", "_law_take", "_law_prime", "_law_vector", "_law_net", "_law_portion", "_law_through", "_law_coefficient"]
theorem run (w : World) : HandSHeadRun.RunEq R (PySem.W.view R.prog [31]) hk ob 4000 loose w := by
  intro os
  kernel_rfl
def meaning : Prop := ∀ ns : List Int, ns.length ≤ 63 → ∃ M, callF fns px 12 "law" [.val (.scr ns)] [] = .ok (.bl true) M
end Zy.stagesfull_k05_whole_slopes_are_coeffici
open PySem PySem.W PySem.Calls PyProof.Rows
theorem Zy.stagesfull_k05_whole_slopes_are_coeffici.ends (h : Zy.stagesfull_k05_whole_slopes_are_coeffici.meaning) : PySem.Challenge.rw_stagesfull_k05_whole_slopes_are_coeffici.Holds := by
  w_on; o_law
  refine HandSHeadRun.head_any (r := OpenLaw.row PySem.Challenge.rw_stagesfull_k05_whole_slopes_are_coeffici) (q := view (OpenLaw.row PySem.Challenge.rw_stagesfull_k05_whole_slopes_are_coeffici).prog [31]) (H := Zy.stagesfull_k05_whole_slopes_are_coeffici.hk) (ob := Zy.stagesfull_k05_whole_slopes_are_coeffici.ob) (M := 4000) (loose := Zy.stagesfull_k05_whole_slopes_are_coeffici.loose) (d := HandSHeadRun.topDef (OpenLaw.row PySem.Challenge.rw_stagesfull_k05_whole_slopes_are_coeffici).prog 31) (kwd := []) Zy.stagesfull_k05_whole_slopes_are_coeffici.ob_eq
    (by kernel_rfl) (fun s => by kernel_rfl) Zy.stagesfull_k05_whole_slopes_are_coeffici.run (by kernel_rfl) (by kernel_rfl) (by kernel_rfl) (by rfl) (by first | assumption | decide +kernel) (by decide +kernel) ⟨rfl, rfl, rfl, rfl, rfl, by decide +kernel⟩ ?hw ?hc
  case hw => w_witness2
  case hc =>
    exact Zy.law_end (l := PySem.Challenge.rw_stagesfull_k05_whole_slopes_are_coeffici) (k := 12) (x := "script") (lf := Zy.stagesfull_k05_whole_slopes_are_coeffici.f_law) rfl (by kernel_rfl) ⟨rfl, by decide, by decide⟩ Zy.stagesfull_k05_whole_slopes_are_coeffici.hgl Zy.stagesfull_k05_whole_slopes_are_coeffici.text (List.mem_of_getElem? (i := 27) rfl) rfl rfl ⟨rfl, rfl⟩ (by kernel_rfl) rfl (by decide +kernel) (fun _ _ _ _ _ _ us hl => match us, hl with | [_], _ => rfl) h
set_option maxHeartbeats 0
namespace Zy.stagesfull_k05_whole_slopes_are_coeffici
open PySem PySem.Spec PyProof.Rows L2 Zy
def y_is_integer (C : Str → Sem1) : ZS :=
  (zSeq (zFrz [] (zRet (zAndV (zIsi ["int"] (zCv 0)) (zNotV (zIsi ["bool"] (zCv 0))))))
      zNx)
theorem e_is_integer (k : Nat) : callF fns px (k + 1) "is_integer" = zFun 1 1 (y_is_integer (callF fns px k)) := by kernel_rfl
def y_is_between (C : Str → Sem1) : ZS :=
  (zSeq (zFrz [] (zRet (zAndV (zCall (C "is_integer") 1 0 [0] [] (sCons (zSv 0) sNil) sNil) (zCh gLe gLe (zCv 1) (zCv 0) (zCv 2)))))
      zNx)
theorem e_is_between (k : Nat) : callF fns px (k + 1) "is_between" = zFun 3 3 (y_is_between (callF fns px k)) := by kernel_rfl
def y_is_sequence (C : Str → Sem1) : ZS :=
  (zSeq (zFrz [] (zRet (zIsi ["tuple", "list"] (zCv 0))))
      zNx)
theorem e_is_sequence (k : Nat) : callF fns px (k + 1) "is_sequence" = zFun 1 1 (y_is_sequence (callF fns px k)) := by kernel_rfl
def y_as_tuples (C : Str → Sem1) : ZS :=
  (zSeq (zFrz [] (zIfS (zTru (zCall (C "is_sequence") 1 0 [0] [] (sCons (zSv 0) sNil) sNil))
    (zSeq (zFrz [] (zRet (zTupOf (zLc (zSeqI (zBv 0)) (tgN 1) (fun _ M => .ok true M) (zCall (C "as_tuples") 1 0 [0] [] (sCons (zSv 1) sNil) sNil) [1]))))
      zNx)
    zNx))
      (zSeq (zFrz [] (zRet (zVar 0)))
      zNx))
theorem e_as_tuples (k : Nat) : callF fns px (k + 1) "as_tuples" = zFun 1 2 (y_as_tuples (callF fns px k)) := by kernel_rfl
def y_Net_init (C : Str → Sem1) : ZS :=
  (zSeq (zFrz [] (zIfS (zNot (zTru (zCall (C "is_net_prime") 1 0 [0] [] (sCons (zSv 1) sNil) sNil)))
    (zSeq (zFrz [] failS)
      zNx)
    zNx))
      (zSeq (zFrz [] (zPutA (atsP px) 0 "prime" (zVar 1)))
      (zSeq (zFrz [] (zPutA (atsP px) 0 "weights" (zCall (C "as_tuples") 1 0 [0] [] (sCons (zSv 2) sNil) sNil)))
      (zSeq (zFrz [] (zPutA (atsP px) 0 "kinds" (zTupOf (zCv 3))))
      zNx))))
theorem e_Net_init (k : Nat) : callF fns px (k + 1) "Net.__init__" = zFun 4 4 (y_Net_init (callF fns px k)) := by kernel_rfl
def y_Net_width (C : Str → Sem1) : ZS :=
  (zSeq (zFrz [] (zRet (zLen (lensP px C) (zVl (zOp gIx (zAt (atsP px) "weights" (zCv 0)) (zK (.int 0)))))))
      zNx)
theorem e_Net_width (k : Nat) : callF fns px (k + 1) "Net.width" = zFun 1 1 (y_Net_width (callF fns px k)) := by kernel_rfl
def y_Net_len (C : Str → Sem1) : ZS :=
  (zSeq (zFrz [] (zRet (zLen (lensP px C) (zVl (zAt (atsP px) "weights" (zCv 0))))))
      zNx)
theorem e_Net_len (k : Nat) : callF fns px (k + 1) "Net.__len__" = zFun 1 1 (y_Net_len (callF fns px k)) := by kernel_rfl
def y_is_net_prime (C : Str → Sem1) : ZS :=
  (zSeq (zFrz [] (zRet (zAndV (zCall (C "is_between") 3 0 [0, 1, 2] [] (sCons (zSv 0) (sCons (zVl (zK (.int 2))) (sCons (zVl (zK (.int 97))) sNil))) sNil) (zBf gAll (zCons (zLc (zRng2 (zCons (zK (.int 2)) (zCons (zVar 0) zNil))) (tgN 1) (fun _ M => .ok true M) (zOp gNe (zOp gMod (zCv 0) (zCv 1)) (zK (.int 0))) [1]) zNil)))))
      zNx)
theorem e_is_net_prime (k : Nat) : callF fns px (k + 1) "is_net_prime" = zFun 1 2 (y_is_net_prime (callF fns px k)) := by kernel_rfl
def y__product (C : Str → Sem1) : ZS :=
  (zSeq (zFrz [] (zRet (zTupOf (zLc (zSeqI (zOp gIx (zAt (atsP px) "weights" (zCv 0)) (zCv 1))) (tgN 3) (fun _ M => .ok true M) (zOp gMod (zBf gSum (zCons (zLc (zZip (zBv 3) (zBv 2)) (tgT [4, 5]) (fun _ M => .ok true M) (zOp gMul (zCv 4) (zCv 5)) [4, 5]) zNil)) (zAt (atsP px) "prime" (zCv 0))) [3]))))
      zNx)
theorem e__product (k : Nat) : callF fns px (k + 1) "_product" = zFun 3 6 (y__product (callF fns px k)) := by kernel_rfl
def y_layer_forward (C : Str → Sem1) : ZS :=
  (zSeq (zFrz [] (zSet 3 (zCall (C "_product") 3 0 [0, 1, 2] [] (sCons (zSv 0) (sCons (zSv 1) (sCons (zSv 2) sNil))) sNil)))
      (zSeq (zFrz [] (zIfS (zTst (zOp gEq (zOp gIx (zAt (atsP px) "kinds" (zCv 0)) (zCv 1)) (zK (.str "square"))))
    (zSeq (zFrz [] (zRet (zTupOf (zLc (zSeqI (zBv 3)) (tgN 4) (fun _ M => .ok true M) (zOp gMod (zOp gMul (zCv 4) (zCv 4)) (zAt (atsP px) "prime" (zCv 0))) [4]))))
      zNx)
    zNx))
      (zSeq (zFrz [] (zRet (zVar 3)))
      zNx)))
theorem e_layer_forward (k : Nat) : callF fns px (k + 1) "layer_forward" = zFun 3 5 (y_layer_forward (callF fns px k)) := by kernel_rfl
def y__product_slopes (C : Str → Sem1) : ZS :=
  (zSeq (zFrz [] (zIfS (zTst (zOp gEq (zOp gIx (zAt (atsP px) "kinds" (zCv 0)) (zCv 1)) (zK (.str "square"))))
    (zSeq (zFrz [] (zSet 4 (zCall (C "_product") 3 0 [0, 1, 2] [] (sCons (zSv 0) (sCons (zSv 1) (sCons (zSv 2) sNil))) sNil)))
      (zSeq (zFrz [] (zRet (zTupOf (zLc (zZip (zBv 4) (zBv 3)) (tgT [5, 6]) (fun _ M => .ok true M) (zOp gMod (zOp gMul (zOp gMul (zK (.int 2)) (zCv 5)) (zCv 6)) (zAt (atsP px) "prime" (zCv 0))) [5, 6]))))
      zNx))
    zNx))
      (zSeq (zFrz [] (zRet (zTupOf (zCv 3))))
      zNx))
theorem e__product_slopes (k : Nat) : callF fns px (k + 1) "_product_slopes" = zFun 4 7 (y__product_slopes (callF fns px k)) := by kernel_rfl
def y_layer_back (C : Str → Sem1) : ZS :=
  (zSeq (zFrz [] (zSet 4 (zAt (atsP px) "prime" (zCv 0))))
      (zSeq (zFrz [] (zSet 5 (zOp gIx (zAt (atsP px) "weights" (zCv 0)) (zCv 1))))
      (zSeq (zFrz [] (zSet 6 (zCall (C "_product_slopes") 4 0 [0, 1, 2, 3] [] (sCons (zSv 0) (sCons (zSv 1) (sCons (zSv 2) (sCons (zSv 3) sNil)))) sNil)))
      (zSeq (zFrz [] (zSetO 7 (zLst zNil)))
      (zSeq (zFrz [] (zFor (zRng1 (zCons (zProp (prpP px "width" C) (zSv 0)) zNil)) (tgN 8)
    (zSeq (zFrz [] (zApp 7 (zOp gMod (zBf gSum (zCons (zLc (zZip (zBv 6) (zBv 5)) (tgT [9, 11]) (fun _ M => .ok true M) (zOp gMul (zCv 9) (zOp gIx (zCv 11) (zCv 8))) [9, 11]) zNil)) (zCv 4))))
      zNx)))
      (zSeq (zFrz [] (zRet (zTup (zCons (zTupOf (zCv 7)) (zCons (zTupOf (zLc (zSeqI (zBv 6)) (tgN 9) (fun _ M => .ok true M) (zTupOf (zLc (zSeqI (zBv 2)) (tgN 10) (fun _ M => .ok true M) (zOp gMod (zOp gMul (zCv 9) (zCv 10)) (zCv 4)) [10])) [9])) zNil)))))
      zNx))))))
theorem e_layer_back (k : Nat) : callF fns px (k + 1) "layer_back" = zFun 4 12 (y_layer_back (callF fns px k)) := by kernel_rfl
def y_way_forward (C : Str → Sem1) : ZS :=
  (zSeq (zFrz [] (zSetO 2 (zLst (zCons (zTupOf (zCv 1)) zNil))))
      (zSeq (zFrz [] (zFor (zRng1 (zCons (zLen (lensP px C) (zSv 0)) zNil)) (tgN 3)
    (zSeq (zFrz [] (zApp 2 (zCall (C "layer_forward") 3 0 [0, 1, 2] [] (sCons (zSv 0) (sCons (zSv 3) (sCons (zVl (zOp gIx (zCv 2) (zNeg (zK (.int 1))))) sNil))) sNil)))
      zNx)))
      (zSeq (zFrz [] (zRet (zTupOf (zCv 2))))
      zNx)))
theorem e_way_forward (k : Nat) : callF fns px (k + 1) "way_forward" = zFun 2 4 (y_way_forward (callF fns px k)) := by kernel_rfl
def y_way_back (C : Str → Sem1) : ZS :=
  (zSeq (zFrz [] (zSetO 3 (zLst zNil)))
      (zSeq (zFrz [] (zFor (zRevR (zRg1 (zLen (lensP px C) (zSv 0)))) (tgN 4)
    (zSeq (zFrz [] (zAsg (tgT [2, 5]) (zCall (C "layer_back") 4 0 [0, 1, 2, 3] [] (sCons (zSv 0) (sCons (zSv 4) (sCons (zVl (zOp gIx (zCv 1) (zCv 4))) (sCons (zSv 2) sNil)))) sNil)))
      (zSeq (zFrz [] (zApp 3 (zVar 5)))
      zNx))))
      (zSeq (zFrz [] (zRet (zTup (zCons (zVar 2) (zCons (zTupOf (zRv (zCv 3))) zNil)))))
      zNx)))
theorem e_way_back (k : Nat) : callF fns px (k + 1) "way_back" = zFun 3 6 (y_way_back (callF fns px k)) := by kernel_rfl
def y_loss_slopes (C : Str → Sem1) : ZS :=
  (zSeq (zFrz [] (zRet (zTupOf (zLc (zZip (zBv 1) (zBv 2)) (tgT [3, 4]) (fun _ M => .ok true M) (zOp gMod (zOp gMul (zK (.int 2)) (zOp gSub (zCv 3) (zCv 4))) (zCv 0)) [3, 4]))))
      zNx)
theorem e_loss_slopes (k : Nat) : callF fns px (k + 1) "loss_slopes" = zFun 3 5 (y_loss_slopes (callF fns px k)) := by kernel_rfl
def y_no_slopes (C : Str → Sem1) : ZS :=
  (zSeq (zFrz [] (zSet 1 (zOp gMul (zTup (zCons (zK (.int 0)) zNil)) (zProp (prpP px "width" C) (zSv 0)))))
      (zSeq (zFrz [] (zRet (zOp gMul (zTup (zCons (zOp gMul (zTup (zCons (zVar 1) zNil)) (zProp (prpP px "width" C) (zSv 0))) zNil)) (zLen (lensP px C) (zSv 0)))))
      zNx))
theorem e_no_slopes (k : Nat) : callF fns px (k + 1) "no_slopes" = zFun 1 2 (y_no_slopes (callF fns px k)) := by kernel_rfl
def y_added_slopes (C : Str → Sem1) : ZS :=
  (zSeq (zFrz [] (zRet (zTupOf (zLc (zZip (zBv 1) (zBv 2)) (tgT [3, 4]) (fun _ M => .ok true M) (zCall (C "_added_matrix") 3 0 [0, 1, 2] [] (sCons (zVl (zAt (atsP px) "prime" (zCv 0))) (sCons (zSv 3) (sCons (zSv 4) sNil))) sNil) [3, 4]))))
      zNx)
theorem e_added_slopes (k : Nat) : callF fns px (k + 1) "added_slopes" = zFun 3 5 (y_added_slopes (callF fns px k)) := by kernel_rfl
def y__added_matrix (C : Str → Sem1) : ZS :=
  (zSeq (zFrz [] (zRet (zTupOf (zLc (zZip (zBv 1) (zBv 2)) (tgT [3, 4]) (fun _ M => .ok true M) (zTupOf (zLc (zZip (zBv 3) (zBv 4)) (tgT [5, 6]) (fun _ M => .ok true M) (zOp gMod (zOp gAdd (zCv 5) (zCv 6)) (zCv 0)) [5, 6])) [3, 4]))))
      zNx)
theorem e__added_matrix (k : Nat) : callF fns px (k + 1) "_added_matrix" = zFun 3 7 (y__added_matrix (callF fns px k)) := by kernel_rfl
def y_portion_slopes (C : Str → Sem1) : ZS :=
  (zSeq (zFrz [] (zSet 2 (zCall (C "no_slopes") 1 0 [0] [] (sCons (zSv 0) sNil) sNil)))
      (zSeq (zFrz [] (zFor (zSeqI (zBv 1)) (tgT [3, 4])
    (zSeq (zFrz [] (zSet 5 (zCall (C "way_forward") 2 0 [0, 1] [] (sCons (zSv 0) (sCons (zSv 3) sNil)) sNil)))
      (zSeq (zFrz [] (zSet 6 (zCall (C "way_back") 3 0 [0, 1, 2] [] (sCons (zSv 0) (sCons (zVl (zSl (zCv 5) zNoP (zPart (zNeg (zK (.int 1)))))) (sCons (zVl (zCall (C "loss_slopes") 3 0 [0, 1, 2] [] (sCons (zVl (zAt (atsP px) "prime" (zCv 0))) (sCons (zVl (zOp gIx (zCv 5) (zNeg (zK (.int 1))))) (sCons (zSv 4) sNil))) sNil)) sNil))) sNil)))
      (zSeq (zFrz [] (zSet 2 (zCall (C "added_slopes") 3 0 [0, 1, 2] [] (sCons (zSv 0) (sCons (zSv 2) (sCons (zVl (zOp gIx (zCv 6) (zK (.int 1)))) sNil))) sNil)))
      zNx)))))
      (zSeq (zFrz [] (zRet (zVar 2)))
      zNx)))
theorem e_portion_slopes (k : Nat) : callF fns px (k + 1) "portion_slopes" = zFun 2 7 (y_portion_slopes (callF fns px k)) := by kernel_rfl
def y__law_draws (C : Str → Sem1) : ZS :=
  (zSeq (zFrz [] (zSetO 2 (zLc (zSeqI (zBv 0)) (tgN 5) (fun _ M => .ok true M) (zBf gAbs (zCons (zBf gInt (zCons (zCv 5) zNil)) zNil)) [5])))
      (zSeq (zFrz [] (zSetO 3 (zLst zNil)))
      (zSeq (zFrz [] (zFor (zRng1 (zCons (zVar 1) zNil)) (tgN 4)
    (zSeq (zFrz [] (zSet 5 (zVar 4)))
      (zSeq (zFrz [] (zIfS (zTst (zOp gGt (zLen (lensP px C) (zSv 0)) (zK (.int 0))))
    (zSeq (zFrz [] (zSet 7 (zOp gMod (zCv 4) (zLen (lensP px C) (zSv 0)))))
      (zSeq (zFrz [] (zSet 5 (zBf gInt (zCons (zOp gIx (zCv 0) (zCv 7)) zNil))))
      (zSeq (zFrz [] (zIfS (zAnd (zTst (zOp gGe (zCv 5) (zOp gPow (zK (.int 10)) (zK (.int 18))))) (zTst (zOp gGt (zOp gIx (zCv 2) (zCv 7)) (zK (.int 0)))))
    (zSeq (zFrz [] (zApp 3 (zOp gMod (zBf gInt (zCons (zOp gIx (zCv 2) (zCv 7)) zNil)) (zK (.int 1000003)))))
      (zSeq (zFrz [] (zPut 2 (zOp gFdiv (zBf gInt (zCons (zOp gIx (zCv 2) (zCv 7)) zNil)) (zK (.int 1000003))) (zVar 7)))
      (zSeq (zFrz [] zCt)
      zNx)))
    zNx))
      zNx)))
    zNx))
      (zSeq (zFrz [] (zSet 6 (zOp gMod (zBf gInt (zCons (zOp gAdd (zOp gAdd (zOp gMul (zCv 5) (zK (.int 48271))) (zOp gMul (zCv 4) (zK (.int 69621)))) (zK (.int 11))) zNil)) (zK (.int 2147483647)))))
      (zSeq (zFrz [] (zSet 6 (zOp gMod (zBf gInt (zCons (zOp gAdd (zOp gFdiv (zOp gMul (zCv 6) (zCv 6)) (zK (.int 4096))) (zCv 6)) zNil)) (zK (.int 2147483629)))))
      (zSeq (zFrz [] (zApp 3 (zOp gMod (zBf gInt (zCons (zOp gAdd (zOp gFdiv (zOp gMul (zCv 6) (zCv 6)) (zK (.int 4096))) (zOp gMul (zCv 4) (zK (.int 7919)))) zNil)) (zK (.int 2147483629)))))
      zNx)))))))
      (zSeq (zFrz [3] (zRet (zVar 3)))
      zNx))))
theorem e__law_draws (k : Nat) : callF fns px (k + 1) "_law_draws" = zFun 2 8 (y__law_draws (callF fns px k)) := by kernel_rfl
def y__law_take (C : Str → Sem1) : ZS :=
  (zSeq (zFrz [] (zSet 2 (zOp gIx (zCv 0) (zK (.int 1)))))
      (zSeq (zFrz [] (zPut 0 (zOp gAdd (zCv 2) (zK (.int 1))) (zK (.int 1))))
      (zSeq (zFrz [] (zSet 3 (zOp gIx (zCv 0) (zK (.int 0)))))
      (zSeq (zFrz [] (zIfS (zTst (zOp gGe (zCv 2) (zLen (lensP px C) (zSv 3))))
    (zSeq (zFrz [] (zRet (zK (.int 0))))
      zNx)
    zNx))
      (zSeq (zFrz [] (zRet (zOp gMod (zOp gFdiv (zBf gInt (zCons (zOp gIx (zCv 3) (zCv 2)) zNil)) (zK (.int 7))) (zCv 1))))
      zNx)))))
theorem e__law_take (k : Nat) : callF fns px (k + 1) "_law_take" = zFun 2 4 (y__law_take (callF fns px k)) := by kernel_rfl
def y__law_prime (C : Str → Sem1) : ZS :=
  (zSeq (zFrz [] (zIfS (zTst (zOp gEq (zCall (C "_law_take") 2 0 [0, 1] [] (sCons (zSv 0) (sCons (zVl (zK (.int 2))) sNil)) sNil) (zK (.int 0))))
    (zSeq (zFrz [] (zRet (zOp gIx (zLst (zCons (zK (.int 2)) (zCons (zK (.int 3)) (zCons (zK (.int 5)) (zCons (zK (.int 7)) zNil))))) (zCall (C "_law_take") 2 0 [0, 1] [] (sCons (zSv 0) (sCons (zVl (zK (.int 4))) sNil)) sNil))))
      zNx)
    zNx))
      (zSeq (zFrz [] (zSet 1 (zLst (zCons (zK (.int 11)) (zCons (zK (.int 13)) (zCons (zK (.int 17)) (zCons (zK (.int 19)) (zCons (zK (.int 23)) (zCons (zK (.int 29)) (zCons (zK (.int 31)) (zCons (zK (.int 37)) (zCons (zK (.int 41)) (zCons (zK (.int 43)) (zCons (zK (.int 47)) (zCons (zK (.int 53)) (zCons (zK (.int 59)) (zCons (zK (.int 61)) (zCons (zK (.int 67)) (zCons (zK (.int 71)) (zCons (zK (.int 73)) (zCons (zK (.int 79)) (zCons (zK (.int 83)) (zCons (zK (.int 89)) (zCons (zK (.int 97)) zNil))))))))))))))))))))))))
      (zSeq (zFrz [] (zRet (zOp gIx (zCv 1) (zCall (C "_law_take") 2 0 [0, 1] [] (sCons (zSv 0) (sCons (zVl (zK (.int 21))) sNil)) sNil))))
      zNx)))
theorem e__law_prime (k : Nat) : callF fns px (k + 1) "_law_prime" = zFun 1 2 (y__law_prime (callF fns px k)) := by kernel_rfl
def y__law_vector (C : Str → Sem1) : ZS :=
  (zSeq (zFrz [] (zRet (zTupOf (zLc (zRng1 (zCons (zVar 2) zNil)) (tgN 3) (fun _ M => .ok true M) (zCall (C "_law_take") 2 0 [0, 1] [] (sCons (zSv 0) (sCons (zSv 1) sNil)) sNil) [3]))))
      zNx)
theorem e__law_vector (k : Nat) : callF fns px (k + 1) "_law_vector" = zFun 3 4 (y__law_vector (callF fns px k)) := by kernel_rfl
def y__law_net (C : Str → Sem1) : ZS :=
  (zSeq (zFrz [] (zSet 2 (zCall (C "_law_prime") 1 0 [0] [] (sCons (zSv 0) sNil) sNil)))
      (zSeq (zFrz [] (zSet 3 (zOp gAdd (zK (.int 1)) (zCall (C "_law_take") 2 0 [0, 1] [] (sCons (zSv 0) (sCons (zVl (zK (.int 3))) sNil)) sNil))))
      (zSeq (zFrz [] (zSetO 4 (zLst zNil)))
      (zSeq (zFrz [] (zSetO 5 (zLst zNil)))
      (zSeq (zFrz [] (zFor (zRng1 (zCons (zOp gAdd (zK (.int 1)) (zCall (C "_law_take") 2 0 [0, 1] [] (sCons (zSv 0) (sCons (zSv 1) sNil)) sNil)) zNil)) (tgN 6)
    (zSeq (zFrz [] (zApp 4 (zTupOf (zLc (zRng1 (zCons (zVar 3) zNil)) (tgN 7) (fun _ M => .ok true M) (zCall (C "_law_vector") 3 0 [0, 1, 2] [] (sCons (zSv 0) (sCons (zSv 2) (sCons (zSv 3) sNil))) sNil) [7]))))
      (zSeq (zFrz [] (zApp 5 (zOp gIx (zLst (zCons (zK (.str "line")) (zCons (zK (.str "square")) zNil))) (zCall (C "_law_take") 2 0 [0, 1] [] (sCons (zSv 0) (sCons (zVl (zK (.int 2))) sNil)) sNil))))
      zNx))))
      (zSeq (zFrz [] (zRet (zTup (zCons (zVar 2) (zCons (zTupOf (zCv 4)) (zCons (zTupOf (zCv 5)) zNil))))))
      zNx))))))
theorem e__law_net (k : Nat) : callF fns px (k + 1) "_law_net" = zFun 2 8 (y__law_net (callF fns px k)) := by kernel_rfl
def y__law_portion (C : Str → Sem1) : ZS :=
  (zSeq (zFrz [] (zSetO 4 (zLst zNil)))
      (zSeq (zFrz [] (zFor (zRng1 (zCons (zOp gAdd (zK (.int 1)) (zCall (C "_law_take") 2 0 [0, 1] [] (sCons (zSv 0) (sCons (zSv 3) sNil)) sNil)) zNil)) (tgN 5)
    (zSeq (zFrz [] (zApp 4 (zTup (zCons (zCall (C "_law_vector") 3 0 [0, 1, 2] [] (sCons (zSv 0) (sCons (zSv 1) (sCons (zSv 2) sNil))) sNil) (zCons (zCall (C "_law_vector") 3 0 [0, 1, 2] [] (sCons (zSv 0) (sCons (zSv 1) (sCons (zSv 2) sNil))) sNil) zNil)))))
      zNx)))
      (zSeq (zFrz [] (zRet (zTupOf (zCv 4))))
      zNx)))
theorem e__law_portion (k : Nat) : callF fns px (k + 1) "_law_portion" = zFun 4 6 (y__law_portion (callF fns px k)) := by kernel_rfl
def y__law_through (C : Str → Sem1) : ZS :=
  (zSeq (zFrz [] (zSet 4 (zOp gIx (zCv 0) (zK (.int 0)))))
      (zSeq (zFrz [] (zSet 5 (zLstOf (zCv 3))))
      (zSeq (zFrz [] (zSet 6 (zOp gMul (zLst (zCons (zK (.int 0)) zNil)) (zLen (lensP px C) (zSv 3)))))
      (zSeq (zFrz [] (zFor (zRng1 (zCons (zLen (lensP px C) (zVl (zOp gIx (zCv 0) (zK (.int 1))))) zNil)) (tgN 7)
    (zSeq (zFrz [] (zSetO 8 (zLst zNil)))
      (zSeq (zFrz [] (zSetO 9 (zLst zNil)))
      (zSeq (zFrz [] (zFor (zRng1 (zCons (zLen (lensP px C) (zSv 3)) zNil)) (tgN 10)
    (zSeq (zFrz [] (zSet 11 (zOp gIx (zOp gIx (zOp gIx (zCv 0) (zK (.int 1))) (zCv 7)) (zCv 10))))
      (zSeq (zFrz [] (zSet 12 (zBf gSum (zCons (zLc (zRng1 (zCons (zLen (lensP px C) (zSv 5)) zNil)) (tgN 14) (fun _ M => .ok true M) (zOp gMul (zOp gIx (zCv 11) (zCv 14)) (zOp gIx (zCv 5) (zCv 14))) [14]) zNil))))
      (zSeq (zFrz [] (zSet 13 (zBf gSum (zCons (zLc (zRng1 (zCons (zLen (lensP px C) (zSv 5)) zNil)) (tgN 14) (fun _ M => .ok true M) (zOp gMul (zOp gIx (zCv 11) (zCv 14)) (zOp gIx (zCv 6) (zCv 14))) [14]) zNil))))
      (zSeq (zFrz [] (zIfS (zAnd (zTst (zOp gEq (zCv 7) (zCv 1))) (zTst (zOp gEq (zCv 10) (zOp gIx (zCv 2) (zK (.int 0))))))
    (zSeq (zFrz [] (zSet 13 (zOp gAdd (zCv 13) (zOp gIx (zCv 5) (zOp gIx (zCv 2) (zK (.int 1)))))))
      zNx)
    zNx))
      (zSeq (zFrz [] (zIfS (zTst (zOp gEq (zOp gIx (zOp gIx (zCv 0) (zK (.int 2))) (zCv 7)) (zK (.str "square"))))
    (zSeq (zFrz [] (zPar 12 13 (zCons (zOp gMul (zCv 12) (zCv 12)) (zCons (zOp gMul (zOp gMul (zK (.int 2)) (zCv 12)) (zCv 13)) zNil))))
      zNx)
    zNx))
      (zSeq (zFrz [] (zApp 8 (zOp gMod (zBf gInt (zCons (zCv 12) zNil)) (zCv 4))))
      (zSeq (zFrz [] (zApp 9 (zOp gMod (zBf gInt (zCons (zCv 13) zNil)) (zCv 4))))
      zNx)))))))))
      (zSeq (zFrz [8] (zSet 5 (zVar 8)))
      (zSeq (zFrz [9] (zSet 6 (zVar 9)))
      zNx)))))))
      (zSeq (zFrz [] (zRet (zLst (zCons (zVar 5) (zCons (zVar 6) zNil)))))
      zNx)))))
theorem e__law_through (k : Nat) : callF fns px (k + 1) "_law_through" = zFun 4 15 (y__law_through (callF fns px k)) := by kernel_rfl
def y__law_coefficient (C : Str → Sem1) : ZS :=
  (zSeq (zFrz [] (zSet 4 (zK (.int 0))))
      (zSeq (zFrz [] (zFor (zSeqI (zBv 1)) (tgT [5, 6])
    (zSeq (zFrz [] (zAsg (tgT [8, 9]) (zCall (C "_law_through") 4 0 [0, 1, 2, 3] [] (sCons (zSv 0) (sCons (zSv 2) (sCons (zSv 3) (sCons (zSv 5) sNil)))) sNil)))
      (zSeq (zFrz [] (zFor (zRng1 (zCons (zLen (lensP px C) (zSv 6)) zNil)) (tgN 7)
    (zSeq (zFrz [] (zSet 4 (zOp gAdd (zCv 4) (zOp gMul (zOp gMul (zK (.int 2)) (zOp gSub (zOp gIx (zCv 8) (zCv 7)) (zOp gIx (zCv 6) (zCv 7)))) (zOp gIx (zCv 9) (zCv 7))))))
      zNx)))
      zNx))))
      (zSeq (zFrz [] (zRet (zOp gMod (zBf gInt (zCons (zCv 4) zNil)) (zOp gIx (zCv 0) (zK (.int 0))))))
      zNx)))
theorem e__law_coefficient (k : Nat) : callF fns px (k + 1) "_law_coefficient" = zFun 4 10 (y__law_coefficient (callF fns px k)) := by kernel_rfl
def y_law (C : Str → Sem1) : ZS :=
  (zSeq (zFrz [] (zSetC 1 (zLst (zCons (zCall (C "_law_draws") 2 0 [0, 1] [] (sCons (zSv 0) (sCons (zVl (zK (.int 150))) sNil)) sNil) (zCons (zK (.int 0)) zNil)))))
      (zSeq (zFrz [] (zSet 2 (zCall (C "_law_net") 2 0 [0, 1] [] (sCons (zSv 1) (sCons (zVl (zK (.int 4))) sNil)) sNil)))
      (zSeq (zFrz [] (zSet 3 (zLen (lensP px C) (zVl (zOp gIx (zOp gIx (zCv 2) (zK (.int 1))) (zK (.int 0)))))))
      (zSeq (zFrz [] (zSet 4 (zMake "Net" (C "Net.__init__") 3 0 [0, 1, 2, 3] [] (sCons (zVl (zOp gIx (zCv 2) (zK (.int 0)))) (sCons (zVl (zOp gIx (zCv 2) (zK (.int 1)))) (sCons (zVl (zOp gIx (zCv 2) (zK (.int 2)))) sNil))) sNil)))
      (zSeq (zFrz [] (zSet 5 (zCall (C "_law_portion") 4 0 [0, 1, 2, 3] [] (sCons (zSv 1) (sCons (zVl (zOp gIx (zCv 2) (zK (.int 0)))) (sCons (zSv 3) (sCons (zVl (zOp gIx (zLst (zCons (zK (.int 3)) (zCons (zK (.int 3)) (zCons (zK (.int 3)) (zCons (zK (.int 2)) zNil))))) (zOp gSub (zLen (lensP px C) (zVl (zOp gIx (zCv 2) (zK (.int 1))))) (zK (.int 1))))) sNil)))) sNil)))
      (zSeq (zFrz [] (zSet 6 (zOp gIx (zLst (zCons (zVar 5) (zCons (zLc (zSeqI (zBv 5)) (tgT [13, 14]) (fun _ M => .ok true M) (zLst (zCons (zLstOf (zCv 13)) (zCons (zLstOf (zCv 14)) zNil))) [13, 14]) zNil))) (zCall (C "_law_take") 2 0 [0, 1] [] (sCons (zSv 1) (sCons (zVl (zK (.int 2))) sNil)) sNil))))
      (zSeq (zFrz [] (zSetO 7 (zLst zNil)))
      (zSeq (zFrz [] (zFor (zRng1 (zCons (zLen (lensP px C) (zVl (zOp gIx (zCv 2) (zK (.int 1))))) zNil)) (tgN 8)
    (zSeq (zFrz [] (zSetO 10 (zLst zNil)))
      (zSeq (zFrz [] (zFor (zRng1 (zCons (zVar 3) zNil)) (tgN 11)
    (zSeq (zFrz [] (zApp 10 (zTupOf (zLc (zRng1 (zCons (zVar 3) zNil)) (tgN 15) (fun _ M => .ok true M) (zCall (C "_law_coefficient") 4 0 [0, 1, 2, 3] [] (sCons (zSv 2) (sCons (zSv 5) (sCons (zSv 8) (sCons (zVl (zTup (zCons (zVar 11) (zCons (zVar 15) zNil)))) sNil)))) sNil) [15]))))
      zNx)))
      (zSeq (zFrz [] (zApp 7 (zTupOf (zCv 10))))
      zNx)))))
      (zSeq (zFrz [] (zFor (zRng1 (zCons (zK (.int 2)) zNil)) (tgN 9)
    (zSeq (zFrz [] (zIfS (zTst (zOp gNe (zBf gRepr (zCons (zCall (C "portion_slopes") 0 2 [0, 1] [] sNil (sCons (zSv 4) (sCons (zSv 6) sNil))) zNil)) (zBf gRepr (zCons (zTupOf (zCv 7)) zNil))))
    (zSeq (zFrz [] (zRet (zK (.bl false))))
      zNx)
    zNx))
      zNx)))
      (zSeq (zFrz [] (zRet (zOp gEq (zTupOf (zLc (zSeqI (zBv 6)) (tgN 12) (fun _ M => .ok true M) (zTup (zCons (zTupOf (zOp gIx (zCv 12) (zK (.int 0)))) (zCons (zTupOf (zOp gIx (zCv 12) (zK (.int 1)))) zNil))) [12])) (zCv 5))))
      zNx))))))))))
theorem e_law (k : Nat) : callF fns px (k + 1) "law" = zFun 1 16 (y_law (callF fns px k)) := by kernel_rfl
end Zy.stagesfull_k05_whole_slopes_are_coeffici
set_option maxHeartbeats 2000000
namespace Zy
open PySem PySem.Spec PyProof.Rows L2
theorem zSeq_nx {y z : ZS} {env env' : Ev} {M M' : Sto} (h : y env M = .nx env' M') : zSeq (zFrz [] y) z env M = z env' M' := by simp [h]
abbrev e05 (a0 : Sl) (p : Int) (ws : List Mat) (ks : List Bool) (w : Nat) (e5 e6 e7 e8 e9 e10 e11 e12 e13 e14 e15 : Sl) : Ev := [a0, .val (.ref 0), .val (netT p ws ks), .val (.int w), .val (netO p ws ks), e5, e6, e7, e8, e9, e10, e11, e12, e13, e14, e15]
def k5a (lf : Lens) (P : Sem1) : ZS := zSet 5 (zCall P 4 0 [0, 1, 2, 3] [] (sCons (zSv 1) (sCons (zVl (zOp gIx (zCv 2) (zK (.int 0)))) (sCons (zSv 3) (sCons (zVl (zOp gIx (zLst (zCons (zK (.int 3)) (zCons (zK (.int 3)) (zCons (zK (.int 3)) (zCons (zK (.int 2)) zNil))))) (zOp gSub (zLen lf (zVl (zOp gIx (zCv 2) (zK (.int 1))))) (zK (.int 1))))) sNil)))) sNil)
def k5bL : ZX := zLc (zSeqI (zBv 5)) (tgT [13, 14]) (fun _ M => .ok true M) (zLst (zCons (zLstOf (zCv 13)) (zCons (zLstOf (zCv 14)) zNil))) [13, 14]
def k5b (T : Sem1) : ZS := zSet 6 (zOp gIx (zLst (zCons (zVar 5) (zCons k5bL zNil))) (zCall T 2 0 [0, 1] [] (sCons (zSv 1) (sCons (zVl (zK (.int 2))) sNil)) sNil))
def k5cL (Co : Sem1) : ZX := zLc (zRng1 (zCons (zVar 3) zNil)) (tgN 15) (fun _ M => .ok true M) (zCall Co 4 0 [0, 1, 2, 3] [] (sCons (zSv 2) (sCons (zSv 5) (sCons (zSv 8) (sCons (zVl (zTup (zCons (zVar 11) (zCons (zVar 15) zNil)))) sNil)))) sNil) [15]
def k5cB (Co : Sem1) : ZS := (zSeq (zFrz [] (zApp 10 (zTupOf (k5cL Co))))
      zNx)
def k5cO (Co : Sem1) : ZS := (zSeq (zFrz [] (zSetO 10 (zLst zNil)))
      (zSeq (zFrz [] (zFor (zRng1 (zCons (zVar 3) zNil)) (tgN 11) (k5cB Co)))
      (zSeq (zFrz [] (zApp 7 (zTupOf (zCv 10))))
      zNx)))
def k5c (lf : Lens) (Co : Sem1) : ZS := zFor (zRng1 (zCons (zLen lf (zVl (zOp gIx (zCv 2) (zK (.int 1))))) zNil)) (tgN 8) (k5cO Co)
def k5dB (S : Sem1) : ZS := (zSeq (zFrz [] (zIfS (zTst (zOp gNe (zBf gRepr (zCons (zCall S 0 2 [0, 1] [] sNil (sCons (zSv 4) (sCons (zSv 6) sNil))) zNil)) (zBf gRepr (zCons (zTupOf (zCv 7)) zNil))))
    (zSeq (zFrz [] (zRet (zK (.bl false))))
      zNx)
    zNx))
      zNx)
def k5d (S : Sem1) : ZS := zFor (zRng1 (zCons (zK (.int 2)) zNil)) (tgN 9) (k5dB S)
def k5eL : ZX := zLc (zSeqI (zBv 6)) (tgN 12) (fun _ M => .ok true M) (zTup (zCons (zTupOf (zOp gIx (zCv 12) (zK (.int 0)))) (zCons (zTupOf (zOp gIx (zCv 12) (zK (.int 1)))) zNil))) [12]
def k5e : ZX := zOp gEq (zTupOf k5eL) (zCv 5)
section
variable {lf : Lens} {T P Co S : Sem1} {M : Sto} {w : Nat} {p : Int} {ws : List Mat} {ks : List Bool} {a0 e5 e6 e7 e8 e9 e10 e11 e12 e13 e14 e15 : Sl}
theorem k5a_ok (hP : LPorOk P) (h : NetS w p ws ks) (h4 : ws.length ≤ 4) (hM : Hd M) : ∃ (xs : List (Vec × Vec)) (M' : Sto), xs.length ≤ 10 ∧ (∀ x ∈ xs, XOk w p x) ∧ Hd M' ∧ k5a lf P (e05 a0 p ws ks w e5 e6 e7 e8 e9 e10 e11 e12 e13 e14 e15) M = .nx (e05 a0 p ws ks w (.val (portD xs)) e6 e7 e8 e9 e10 e11 e12 e13 e14 e15) M' := by
  have n1 := h.n1
  have : ∃ most : Int, 1 ≤ most ∧ most ≤ 10 ∧ gIx (.lst [.int 3, .int 3, .int 3, .int 2]) (.int ((ws.length : Int) - 1)) M = .ok (.int most) M := by
    have : (ws.length : Int) - 1 = 0 ∨ (ws.length : Int) - 1 = 1 ∨ (ws.length : Int) - 1 = 2 ∨ (ws.length : Int) - 1 = 3 := by omega
    rcases this with e | e | e | e <;> rw [e]
    · exact ⟨3, by decide, by decide, gIx_lst (by decide) rfl⟩
    · exact ⟨3, by decide, by decide, gIx_lst (by decide) rfl⟩
    · exact ⟨3, by decide, by decide, gIx_lst (by decide) rfl⟩
    · exact ⟨2, by decide, by decide, gIx_lst (by decide) rfl⟩
  obtain ⟨most, m1, m2, g⟩ := this
  obtain ⟨xs, M', x1, x2, x3, h1, t⟩ := hP M p most w hM h.p0 (by have := h.w3; omega) m1 m2
  refine ⟨xs, M', by omega, x3, h1, ?_⟩
  have t' : callR P 4 0 [0, 1, 2, 3] [] [.val (.ref 0), .val (.int p), .val (.int w), .val (.int most)] [] M = .ok (portD xs) M' := t
  have e : lenR lf (.val (wsD ws)) M = .ok (.int ws.length) M := by
    unfold wsD
    rw [lenR_tup, List.length_map]
  have sz : (4 : Nat) ≤ sizeLine := by decide
  simp only [zSeq_z, zFrz_z, zSet_z, zSetO_z, zRet_z, zDrop_z, zIfS_z, zTst_z, zTru_z, zNot_z, zAnd_z, zOr_z, zAndV_z, zNotV_z, zIf_z, zOp_z, zBf_z, zCons_z, zNil_z, zCall_z, sCons_z, sNil_z, zSv_z, zVl_z, zCv_z, zBv_z, zVar_z, zK_z, zNeg_z, zTup_z, zLst_z, zTupOf_z, zLstOf_z, zLen_z, zAt_z, zProp_z, zApp_z, zAugN_z, zSeqI_z, zRng1_z, zRng2_z, zAsg_z, zPart_z, zNoP_z, getPl, setPl, wipeE, List.getElem?_cons_succ, List.getElem?_cons_zero, List.set_cons_succ, List.set_cons_zero, Res.bind_ok, Res.toS_ok, callR1, callR2, callR3, callR0_4, callRk1, callRk2, callRk3', callRk4', List.length_cons, List.length_nil, Nat.zero_add, Nat.reduceAdd, sz1, sz2, sz3, if_true, if_false, Bool.false_eq_true, Bool.not_true, Bool.not_false, zNx_z, zBk_z, zCt_z, itemsD_lst, itemsD_tup, deref_bl, deref_int, deref_str, deref_tup, deref_lst, Option.bind_some, truD, gAdd_int, gSub_int, gMul_int, gMod_int, gCmpI_int, gEq_int, gInt_int, lenR_lst, lenR_blst, lenR_tup, decide_true, decide_false, true_or, or_true, List.map_cons, List.map_nil, k5a, e05, ixT0, ixT1, e, g, sz, t']
def pairL (x : Vec × Vec) : D := .lst [vL x.1, vL x.2]
theorem k5bL_ok {xs : List (Vec × Vec)} (hl : xs.length ≤ 1000) : k5bL (e05 a0 p ws ks w (.val (portD xs)) e6 e7 e8 e9 e10 e11 e12 .no .no e15) M = .ok (.lst (xs.map pairL)) M := by
  have hz : zSeqI (zBv 5) (e05 a0 p ws ks w (.val (portD xs)) e6 e7 e8 e9 e10 e11 e12 .no .no e15) M = .ok (xs.map pairD) M := by
    have e : itemsD (portD xs) = some (xs.map pairD) := rfl
    simp only [zSeq_z, zFrz_z, zSet_z, zSetO_z, zRet_z, zDrop_z, zIfS_z, zTst_z, zTru_z, zNot_z, zAnd_z, zOr_z, zAndV_z, zNotV_z, zIf_z, zOp_z, zBf_z, zCons_z, zNil_z, zCall_z, sCons_z, sNil_z, zSv_z, zVl_z, zCv_z, zBv_z, zVar_z, zK_z, zNeg_z, zTup_z, zLst_z, zTupOf_z, zLstOf_z, zLen_z, zAt_z, zProp_z, zApp_z, zAugN_z, zSeqI_z, zRng1_z, zRng2_z, zAsg_z, zPart_z, zNoP_z, getPl, setPl, wipeE, List.getElem?_cons_succ, List.getElem?_cons_zero, List.set_cons_succ, List.set_cons_zero, Res.bind_ok, Res.toS_ok, callR1, callR2, callR3, callR0_4, callRk1, callRk2, callRk3', callRk4', List.length_cons, List.length_nil, Nat.zero_add, Nat.reduceAdd, sz1, sz2, sz3, if_true, if_false, Bool.false_eq_true, Bool.not_true, Bool.not_false, zNx_z, zBk_z, zCt_z, itemsD_lst, itemsD_tup, deref_bl, deref_int, deref_str, deref_tup, deref_lst, Option.bind_some, truD, gAdd_int, gSub_int, gMul_int, gMod_int, gCmpI_int, gEq_int, gInt_int, lenR_lst, lenR_blst, lenR_tup, decide_true, decide_false, true_or, or_true, List.map_cons, List.map_nil, e05, e]
  obtain ⟨acc, M', e0, h1, h2⟩ := zLc_gen (zt := yes) (ze := zLst (zCons (zLstOf (zCv 13)) (zCons (zLstOf (zCv 14)) zNil))) (gz := tgT [13, 14]) (vs := [13, 14]) hz rfl (fun k acc M2 => acc = (xs.map pairL).take k ∧ M2 = M) ⟨by simp, rfl⟩ fun k c acc M2 hc h => by
    obtain ⟨rfl, rfl⟩ := h
    rw [List.getElem?_map] at hc
    cases q : xs[k]? with
    | none => rw [q] at hc; cases hc
    | some x =>
      rw [q] at hc
      cases hc
      have hk := (List.getElem?_eq_some_iff.mp q).1
      refine ⟨_, true, M2, rfl, rfl, ?_⟩
      rw [if_pos rfl]
      refine ⟨pairL x, M2, ?_, ?_, ?_, rfl⟩
      · have q1 := lstOf_row (v := x.1) (M := M2)
        have q2 := lstOf_row (v := x.2) (M := M2)
        have e : pairL x = .lst [.lst (x.1.map .int), .lst (x.2.map .int)] := rfl
        rw [e]
        simp only [zSeq_z, zFrz_z, zSet_z, zSetO_z, zRet_z, zDrop_z, zIfS_z, zTst_z, zTru_z, zNot_z, zAnd_z, zOr_z, zAndV_z, zNotV_z, zIf_z, zOp_z, zBf_z, zCons_z, zNil_z, zCall_z, sCons_z, sNil_z, zSv_z, zVl_z, zCv_z, zBv_z, zVar_z, zK_z, zNeg_z, zTup_z, zLst_z, zTupOf_z, zLstOf_z, zLen_z, zAt_z, zProp_z, zApp_z, zAugN_z, zSeqI_z, zRng1_z, zRng2_z, zAsg_z, zPart_z, zNoP_z, getPl, setPl, wipeE, List.getElem?_cons_succ, List.getElem?_cons_zero, List.set_cons_succ, List.set_cons_zero, Res.bind_ok, Res.toS_ok, callR1, callR2, callR3, callR0_4, callRk1, callRk2, callRk3', callRk4', List.length_cons, List.length_nil, Nat.zero_add, Nat.reduceAdd, sz1, sz2, sz3, if_true, if_false, Bool.false_eq_true, Bool.not_true, Bool.not_false, zNx_z, zBk_z, zCt_z, itemsD_lst, itemsD_tup, deref_bl, deref_int, deref_str, deref_tup, deref_lst, Option.bind_some, truD, gAdd_int, gSub_int, gMul_int, gMod_int, gCmpI_int, gEq_int, gInt_int, lenR_lst, lenR_blst, lenR_tup, decide_true, decide_false, true_or, or_true, List.map_cons, List.map_nil, e05, q1, q2]
      · rw [List.length_take, List.length_map]
        exact Nat.lt_of_le_of_lt (show min k xs.length ≤ 1000 by omega) (by decide)
      · rw [List.take_add_one, List.getElem?_map, q]
        rfl
  have e1 : k5bL (e05 a0 p ws ks w (.val (portD xs)) e6 e7 e8 e9 e10 e11 e12 .no .no e15) M = .ok (.lst acc) M' := e0
  rw [e1, h1, h2, List.length_map, List.take_of_length_le (by rw [List.length_map]; exact Nat.le_refl _)]
/-- the portion as it is handed on -/
def Hand (d : D) (xs : List (Vec × Vec)) : Prop := itemsD d = some (xs.map pairD) ∨ itemsD d = some (xs.map pairL)
theorem pairL_is (x : Vec × Vec) : PairD (pairL x) x := ⟨_, _, rfl, vL_is _, vL_is _⟩
theorem Hand.por {d : D} {xs : List (Vec × Vec)} (h : Hand d xs) : PorD d xs := by
  rcases h with h | h
  · exact ⟨_, h, EachD.map fun x _ => pair_is x⟩
  · exact ⟨_, h, EachD.map fun x _ => pairL_is x⟩
theorem k5b_ok (hT : TakeOk T) (hM : Hd M) {xs : List (Vec × Vec)} (hl : xs.length ≤ 1000) : ∃ (d : D) (M' : Sto), Hand d xs ∧ Hd M' ∧ k5b T (e05 a0 p ws ks w (.val (portD xs)) e6 e7 e8 e9 e10 e11 e12 .no .no e15) M = .nx (e05 a0 p ws ks w (.val (portD xs)) (.val d) e7 e8 e9 e10 e11 e12 .no .no e15) M' := by
  obtain ⟨i, M1, i0, i1, k1, t1⟩ := hT M 2 hM (by decide)
  have c := k5bL_ok (M := M) (a0 := a0) (p := p) (ws := ws) (ks := ks) (w := w) (e6 := e6) (e7 := e7) (e8 := e8) (e9 := e9) (e10 := e10) (e11 := e11) (e12 := e12) (e15 := e15) hl
  have : ∃ d, Hand d xs ∧ gIx (.lst [portD xs, .lst (xs.map pairL)]) (.int i) M1 = .ok d M1 := by
    have : i = 0 ∨ i = 1 := by omega
    rcases this with rfl | rfl
    · exact ⟨portD xs, .inl rfl, gIx_lst (by decide) rfl⟩
    · exact ⟨.lst (xs.map pairL), .inr rfl, gIx_lst (by decide) rfl⟩
  obtain ⟨d, hd, g⟩ := this
  refine ⟨d, M1, hd, k1, ?_⟩
  generalize xs.map pairL = X at *
  simp only [e05] at c
  simp only [zSeq_z, zFrz_z, zSet_z, zSetO_z, zRet_z, zDrop_z, zIfS_z, zTst_z, zTru_z, zNot_z, zAnd_z, zOr_z, zAndV_z, zNotV_z, zIf_z, zOp_z, zBf_z, zCons_z, zNil_z, zCall_z, sCons_z, sNil_z, zSv_z, zVl_z, zCv_z, zBv_z, zVar_z, zK_z, zNeg_z, zTup_z, zLst_z, zTupOf_z, zLstOf_z, zLen_z, zAt_z, zProp_z, zApp_z, zAugN_z, zSeqI_z, zRng1_z, zRng2_z, zAsg_z, zPart_z, zNoP_z, getPl, setPl, wipeE, List.getElem?_cons_succ, List.getElem?_cons_zero, List.set_cons_succ, List.set_cons_zero, Res.bind_ok, Res.toS_ok, callR1, callR2, callR3, callR0_4, callRk1, callRk2, callRk3', callRk4', List.length_cons, List.length_nil, Nat.zero_add, Nat.reduceAdd, sz1, sz2, sz3, if_true, if_false, Bool.false_eq_true, Bool.not_true, Bool.not_false, zNx_z, zBk_z, zCt_z, itemsD_lst, itemsD_tup, deref_bl, deref_int, deref_str, deref_tup, deref_lst, Option.bind_some, truD, gAdd_int, gSub_int, gMul_int, gMod_int, gCmpI_int, gEq_int, gInt_int, lenR_lst, lenR_blst, lenR_tup, decide_true, decide_false, true_or, or_true, List.map_cons, List.map_nil, k5b, e05, c, t1, g]
theorem k5cL_ok (hC : LCoOk Co) (h : NetS w p ws ks) {xs : List (Vec × Vec)} (hx : ∀ x ∈ xs, XOk w p x) {l i : Nat} (hi : i < w) : k5cL Co (e05 a0 p ws ks w (.val (portD xs)) e6 e7 (.val (.int l)) e9 e10 (.val (.int i)) e12 e13 e14 .no) M = .ok (.lst (((List.range w).map fun j => coS p w l i j ws ks xs).map .int)) M := by
  have w3 := h.w3
  have c := lcRng (env := e05 a0 p ws ks w (.val (portD xs)) e6 e7 (.val (.int l)) e9 e10 (.val (.int i)) e12 e13 e14 .no) (M := M) (M1 := M) (za := zVar 3) (ze := zCall Co 4 0 [0, 1, 2, 3] [] (sCons (zSv 2) (sCons (zSv 5) (sCons (zSv 8) (sCons (zVl (zTup (zCons (zVar 11) (zCons (zVar 15) zNil)))) sNil)))) sNil) (vs := [15]) (i := 15) (n := w) (fun j => .int (coS p w l i j ws ks xs)) rfl rfl (by omega) fun j hj => by
    have q := hC M w p ws ks l i j xs h hx hi hj
    have q' : callR Co 4 0 [0, 1, 2, 3] [] [.val (netT p ws ks), .val (portD xs), .val (.int l), .val (.tup [.int i, .int j])] [] M = .ok (.int (coS p w l i j ws ks xs)) M := q
    generalize portD xs = X at *
    simp only [zSeq_z, zFrz_z, zSet_z, zSetO_z, zRet_z, zDrop_z, zIfS_z, zTst_z, zTru_z, zNot_z, zAnd_z, zOr_z, zAndV_z, zNotV_z, zIf_z, zOp_z, zBf_z, zCons_z, zNil_z, zCall_z, sCons_z, sNil_z, zSv_z, zVl_z, zCv_z, zBv_z, zVar_z, zK_z, zNeg_z, zTup_z, zLst_z, zTupOf_z, zLstOf_z, zLen_z, zAt_z, zProp_z, zApp_z, zAugN_z, zSeqI_z, zRng1_z, zRng2_z, zAsg_z, zPart_z, zNoP_z, getPl, setPl, wipeE, List.getElem?_cons_succ, List.getElem?_cons_zero, List.set_cons_succ, List.set_cons_zero, Res.bind_ok, Res.toS_ok, callR1, callR2, callR3, callR0_4, callRk1, callRk2, callRk3', callRk4', List.length_cons, List.length_nil, Nat.zero_add, Nat.reduceAdd, sz1, sz2, sz3, if_true, if_false, Bool.false_eq_true, Bool.not_true, Bool.not_false, zNx_z, zBk_z, zCt_z, itemsD_lst, itemsD_tup, deref_bl, deref_int, deref_str, deref_tup, deref_lst, Option.bind_some, truD, gAdd_int, gSub_int, gMul_int, gMod_int, gCmpI_int, gEq_int, gInt_int, lenR_lst, lenR_blst, lenR_tup, decide_true, decide_false, true_or, or_true, List.map_cons, List.map_nil, e05, q']
  rw [List.map_map]
  exact c
def tabM (p : Int) (w l : Nat) (ws : List Mat) (ks : List Bool) (xs : List (Vec × Vec)) : Mat := (List.range w).map fun i => (List.range w).map fun j => coS p w l i j ws ks xs
theorem k5c_in (hC : LCoOk Co) (h : NetS w p ws ks) {xs : List (Vec × Vec)} (hx : ∀ x ∈ xs, XOk w p x) {l : Nat} : ∃ f11, zFor (zRng1 (zCons (zVar 3) zNil)) (tgN 11) (k5cB Co) (e05 a0 p ws ks w (.val (portD xs)) e6 e7 (.val (.int l)) e9 (.own (.lst [])) e11 e12 e13 e14 .no) M =
    .nx (e05 a0 p ws ks w (.val (portD xs)) e6 e7 (.val (.int l)) e9 (.own (.lst ((tabM p w l ws ks xs).map rowD))) f11 e12 e13 e14 .no) M := by
  have w3 := h.w3
  have hz : zRng1 (zCons (zVar 3) zNil) (e05 a0 p ws ks w (.val (portD xs)) e6 e7 (.val (.int l)) e9 (.own (.lst [])) e11 e12 e13 e14 .no) M = .ok (stpD 0 1 w) M := by
    simp only [zSeq_z, zFrz_z, zSet_z, zSetO_z, zRet_z, zDrop_z, zIfS_z, zTst_z, zTru_z, zNot_z, zAnd_z, zOr_z, zAndV_z, zNotV_z, zIf_z, zOp_z, zBf_z, zCons_z, zNil_z, zCall_z, sCons_z, sNil_z, zSv_z, zVl_z, zCv_z, zBv_z, zVar_z, zK_z, zNeg_z, zTup_z, zLst_z, zTupOf_z, zLstOf_z, zLen_z, zAt_z, zProp_z, zApp_z, zAugN_z, zSeqI_z, zRng1_z, zRng2_z, zAsg_z, zPart_z, zNoP_z, getPl, setPl, wipeE, List.getElem?_cons_succ, List.getElem?_cons_zero, List.set_cons_succ, List.set_cons_zero, Res.bind_ok, Res.toS_ok, callR1, callR2, callR3, callR0_4, callRk1, callRk2, callRk3', callRk4', List.length_cons, List.length_nil, Nat.zero_add, Nat.reduceAdd, sz1, sz2, sz3, if_true, if_false, Bool.false_eq_true, Bool.not_true, Bool.not_false, zNx_z, zBk_z, zCt_z, itemsD_lst, itemsD_tup, deref_bl, deref_int, deref_str, deref_tup, deref_lst, Option.bind_some, truD, gAdd_int, gSub_int, gMul_int, gMod_int, gCmpI_int, gEq_int, gInt_int, lenR_lst, lenR_blst, lenR_tup, decide_true, decide_false, true_or, or_true, List.map_cons, List.map_nil, e05]
    exact rngR_nat w (by omega)
  have hb : ∀ (i : Nat) (A : List D), i < w → A.length ≤ 100 → k5cB Co (e05 a0 p ws ks w (.val (portD xs)) e6 e7 (.val (.int l)) e9 (.own (.lst A)) (.val (.int i)) e12 e13 e14 .no) M = .nx (e05 a0 p ws ks w (.val (portD xs)) e6 e7 (.val (.int l)) e9 (.own (.lst (A ++ [rowD ((List.range w).map fun j => coS p w l i j ws ks xs)]))) (.val (.int i)) e12 e13 e14 .no) M := fun i A hi hA => by
    have q := k5cL_ok (M := M) (a0 := a0) (e6 := e6) (e7 := e7) (e9 := e9) (e10 := .own (.lst A)) (e12 := e12) (e13 := e13) (e14 := e14) (l := l) hC h hx hi
    have hl : A.length < sizeLine := Nat.lt_of_le_of_lt hA (by decide)
    have e : rowD ((List.range w).map fun j => coS p w l i j ws ks xs) = .tup (((List.range w).map fun j => coS p w l i j ws ks xs).map .int) := rfl
    rw [e]
    generalize ((List.range w).map fun j => coS p w l i j ws ks xs).map D.int = Y at q ⊢
    generalize portD xs = X at *
    simp only [e05] at q
    simp only [zSeq_z, zFrz_z, zSet_z, zSetO_z, zRet_z, zDrop_z, zIfS_z, zTst_z, zTru_z, zNot_z, zAnd_z, zOr_z, zAndV_z, zNotV_z, zIf_z, zOp_z, zBf_z, zCons_z, zNil_z, zCall_z, sCons_z, sNil_z, zSv_z, zVl_z, zCv_z, zBv_z, zVar_z, zK_z, zNeg_z, zTup_z, zLst_z, zTupOf_z, zLstOf_z, zLen_z, zAt_z, zProp_z, zApp_z, zAugN_z, zSeqI_z, zRng1_z, zRng2_z, zAsg_z, zPart_z, zNoP_z, getPl, setPl, wipeE, List.getElem?_cons_succ, List.getElem?_cons_zero, List.set_cons_succ, List.set_cons_zero, Res.bind_ok, Res.toS_ok, callR1, callR2, callR3, callR0_4, callRk1, callRk2, callRk3', callRk4', List.length_cons, List.length_nil, Nat.zero_add, Nat.reduceAdd, sz1, sz2, sz3, if_true, if_false, Bool.false_eq_true, Bool.not_true, Bool.not_false, zNx_z, zBk_z, zCt_z, itemsD_lst, itemsD_tup, deref_bl, deref_int, deref_str, deref_tup, deref_lst, Option.bind_some, truD, gAdd_int, gSub_int, gMul_int, gMod_int, gCmpI_int, gEq_int, gInt_int, lenR_lst, lenR_blst, lenR_tup, decide_true, decide_false, true_or, or_true, List.map_cons, List.map_nil, k5cB, e05, q, hl]
  generalize k5cB Co = y at hb
  refine zFor_gen (I := fun i env M' => ∃ f11, env = e05 a0 p ws ks w (.val (portD xs)) e6 e7 (.val (.int l)) e9 (.own (.lst (((List.range i).map fun i => (List.range w).map fun j => coS p w l i j ws ks xs).map rowD))) f11 e12 e13 e14 .no ∧ M' = M)
    (Q := fun o => ∃ f11, o = .nx (e05 a0 p ws ks w (.val (portD xs)) e6 e7 (.val (.int l)) e9 (.own (.lst ((tabM p w l ws ks xs).map rowD))) f11 e12 e13 e14 .no) M) hz ⟨e11, rfl, rfl⟩ (fun i x env M' hi hI => ?_) fun env M' hI => ?_
  · obtain ⟨f11, rfl, rfl⟩ := hI
    obtain ⟨rfl, hlt⟩ := stpD_get hi
    have s := hb i (((List.range i).map fun i => (List.range w).map fun j => coS p w l i j ws ks xs).map rowD) hlt (by simp; omega)
    refine ⟨_, rfl, ?_⟩
    simp only [e05, List.set_cons_succ, List.set_cons_zero, Int.zero_add, Int.mul_one] at s ⊢
    rw [s]
    refine ⟨.val (.int i), ?_, rfl⟩
    rw [List.range_succ, List.map_append, List.map_append]
    rfl
  · obtain ⟨f11, rfl, rfl⟩ := hI
    rw [stpD_len]
    exact ⟨f11, rfl⟩
theorem k5cO_ok (hC : LCoOk Co) (h : NetS w p ws ks) {xs : List (Vec × Vec)} (hx : ∀ x ∈ xs, XOk w p x) {l : Nat} {A : List D} (hA : A.length ≤ 100) : ∃ f10 f11, k5cO Co (e05 a0 p ws ks w (.val (portD xs)) e6 (.own (.lst A)) (.val (.int l)) e9 e10 e11 e12 e13 e14 .no) M =
    .nx (e05 a0 p ws ks w (.val (portD xs)) e6 (.own (.lst (A ++ [matD (tabM p w l ws ks xs)]))) (.val (.int l)) e9 f10 f11 e12 e13 e14 .no) M := by
  obtain ⟨f11, q⟩ := k5c_in (M := M) (a0 := a0) (e6 := e6) (e7 := .own (.lst A)) (e9 := e9) (e11 := e11) (e12 := e12) (e13 := e13) (e14 := e14) (l := l) hC h hx
  have hl : A.length < sizeLine := Nat.lt_of_le_of_lt hA (by decide)
  have e : matD (tabM p w l ws ks xs) = .tup ((tabM p w l ws ks xs).map rowD) := rfl
  refine ⟨.own (.lst ((tabM p w l ws ks xs).map rowD)), f11, ?_⟩
  rw [e]
  generalize (tabM p w l ws ks xs).map rowD = Y at q ⊢
  generalize portD xs = X at *
  unfold k5cO
  generalize zFor (zRng1 (zCons (zVar 3) zNil)) (tgN 11) (k5cB Co) = y at q
  simp only [e05] at q
  simp only [zSeq_z, zFrz_z, zSet_z, zSetO_z, zRet_z, zDrop_z, zIfS_z, zTst_z, zTru_z, zNot_z, zAnd_z, zOr_z, zAndV_z, zNotV_z, zIf_z, zOp_z, zBf_z, zCons_z, zNil_z, zCall_z, sCons_z, sNil_z, zSv_z, zVl_z, zCv_z, zBv_z, zVar_z, zK_z, zNeg_z, zTup_z, zLst_z, zTupOf_z, zLstOf_z, zLen_z, zAt_z, zProp_z, zApp_z, zAugN_z, zSeqI_z, zRng1_z, zRng2_z, zAsg_z, zPart_z, zNoP_z, getPl, setPl, wipeE, List.getElem?_cons_succ, List.getElem?_cons_zero, List.set_cons_succ, List.set_cons_zero, Res.bind_ok, Res.toS_ok, callR1, callR2, callR3, callR0_4, callRk1, callRk2, callRk3', callRk4', List.length_cons, List.length_nil, Nat.zero_add, Nat.reduceAdd, sz1, sz2, sz3, if_true, if_false, Bool.false_eq_true, Bool.not_true, Bool.not_false, zNx_z, zBk_z, zCt_z, itemsD_lst, itemsD_tup, deref_bl, deref_int, deref_str, deref_tup, deref_lst, Option.bind_some, truD, gAdd_int, gSub_int, gMul_int, gMod_int, gCmpI_int, gEq_int, gInt_int, lenR_lst, lenR_blst, lenR_tup, decide_true, decide_false, true_or, or_true, List.map_cons, List.map_nil, e05, q, hl, Nat.zero_le]
theorem k5c_ok (hC : LCoOk Co) (h : NetS w p ws ks) {xs : List (Vec × Vec)} (hx : ∀ x ∈ xs, XOk w p x) : ∃ f8 f10 f11, k5c lf Co (e05 a0 p ws ks w (.val (portD xs)) e6 (.own (.lst [])) e8 e9 e10 e11 e12 e13 e14 .no) M =
    .nx (e05 a0 p ws ks w (.val (portD xs)) e6 (.own (.lst ((porS p w ws ks xs).map matD))) f8 e9 f10 f11 e12 e13 e14 .no) M := by
  have hz : zRng1 (zCons (zLen lf (zVl (zOp gIx (zCv 2) (zK (.int 1))))) zNil) (e05 a0 p ws ks w (.val (portD xs)) e6 (.own (.lst [])) e8 e9 e10 e11 e12 e13 e14 .no) M = .ok (stpD 0 1 ws.length) M := by
    have e : lenR lf (.val (wsD ws)) M = .ok (.int ws.length) M := by
      unfold wsD
      rw [lenR_tup, List.length_map]
    simp only [zSeq_z, zFrz_z, zSet_z, zSetO_z, zRet_z, zDrop_z, zIfS_z, zTst_z, zTru_z, zNot_z, zAnd_z, zOr_z, zAndV_z, zNotV_z, zIf_z, zOp_z, zBf_z, zCons_z, zNil_z, zCall_z, sCons_z, sNil_z, zSv_z, zVl_z, zCv_z, zBv_z, zVar_z, zK_z, zNeg_z, zTup_z, zLst_z, zTupOf_z, zLstOf_z, zLen_z, zAt_z, zProp_z, zApp_z, zAugN_z, zSeqI_z, zRng1_z, zRng2_z, zAsg_z, zPart_z, zNoP_z, getPl, setPl, wipeE, List.getElem?_cons_succ, List.getElem?_cons_zero, List.set_cons_succ, List.set_cons_zero, Res.bind_ok, Res.toS_ok, callR1, callR2, callR3, callR0_4, callRk1, callRk2, callRk3', callRk4', List.length_cons, List.length_nil, Nat.zero_add, Nat.reduceAdd, sz1, sz2, sz3, if_true, if_false, Bool.false_eq_true, Bool.not_true, Bool.not_false, zNx_z, zBk_z, zCt_z, itemsD_lst, itemsD_tup, deref_bl, deref_int, deref_str, deref_tup, deref_lst, Option.bind_some, truD, gAdd_int, gSub_int, gMul_int, gMod_int, gCmpI_int, gEq_int, gInt_int, lenR_lst, lenR_blst, lenR_tup, decide_true, decide_false, true_or, or_true, List.map_cons, List.map_nil, e05, ixT1, e]
    exact rngR_nat _ (by have := h.n6; omega)
  have hb := fun (l : Nat) (A : List D) (e10 e11 : Sl) (hA : A.length ≤ 100) => k5cO_ok (M := M) (a0 := a0) (e6 := e6) (e9 := e9) (e10 := e10) (e11 := e11) (e12 := e12) (e13 := e13) (e14 := e14) (l := l) hC h hx hA
  have hxs : ∀ x ∈ xs, x.1.length = w ∧ x.2.length = w := fun x m => ⟨(hx x m).1, (hx x m).2.1⟩
  have et : porS p w ws ks xs = (List.range ws.length).map fun l => tabM p w l ws ks xs := by
    refine (porS_ok h hxs).sh.table.trans (List.map_congr_left fun l hl => ?_)
    unfold tabM
    refine List.map_congr_left fun i hi => List.map_congr_left fun j hj => ?_
    exact (coS_is h hxs (List.mem_range.mp hl) (List.mem_range.mp hi) (List.mem_range.mp hj)).symm
  rw [et]
  unfold k5c
  generalize k5cO Co = y at hb
  refine zFor_gen (I := fun l env M' => ∃ f8 f10 f11, env = e05 a0 p ws ks w (.val (portD xs)) e6 (.own (.lst (((List.range l).map fun l => tabM p w l ws ks xs).map matD))) f8 e9 f10 f11 e12 e13 e14 .no ∧ M' = M)
    (Q := fun o => ∃ f8 f10 f11, o = .nx (e05 a0 p ws ks w (.val (portD xs)) e6 (.own (.lst (((List.range ws.length).map fun l => tabM p w l ws ks xs).map matD))) f8 e9 f10 f11 e12 e13 e14 .no) M) hz ⟨e8, e10, e11, rfl, rfl⟩ (fun l x env M' hi hI => ?_) fun env M' hI => ?_
  · obtain ⟨f8, f10, f11, rfl, rfl⟩ := hI
    obtain ⟨rfl, hlt⟩ := stpD_get hi
    obtain ⟨g10, g11, s⟩ := hb l (((List.range l).map fun l => tabM p w l ws ks xs).map matD) f10 f11 (by simp; have := h.n6; omega)
    refine ⟨_, rfl, ?_⟩
    simp only [e05, List.set_cons_succ, List.set_cons_zero, Int.zero_add, Int.mul_one] at s ⊢
    rw [s]
    refine ⟨.val (.int l), g10, g11, ?_, rfl⟩
    rw [List.range_succ, List.map_append, List.map_append]
    rfl
  · obtain ⟨f8, f10, f11, rfl, rfl⟩ := hI
    rw [stpD_len]
    exact ⟨f8, f10, f11, rfl⟩
theorem k5dB_ok (hS : PorOk S) (h : NetS w p ws ks) {xs : List (Vec × Vec)} (hx : ∀ x ∈ xs, x.1.length = w ∧ x.2.length = w) {d : D} (hd : Hand d xs) : k5dB S (e05 a0 p ws ks w e5 (.val d) (.own (.lst ((porS p w ws ks xs).map matD))) e8 e9 e10 e11 e12 e13 e14 e15) M = .nx (e05 a0 p ws ks w e5 (.val d) (.own (.lst ((porS p w ws ks xs).map matD))) e8 e9 e10 e11 e12 e13 e14 e15) M := by
  have q := hS M w p ws ks d xs h hd.por hx
  have o := porS_ok h hx
  have p97 := h.p97
  have w3 := h.w3
  have n6 := h.n6
  obtain ⟨s, hs⟩ := (RD.ws (p := p) (w := w) (by omega) (by omega) (by rw [o.1]; omega) o.2).repr (by decide) (by decide)
  have e : wsD (porS p w ws ks xs) = .tup ((porS p w ws ks xs).map matD) := rfl
  rw [e] at q hs
  generalize (porS p w ws ks xs).map matD = Y at *
  simp only [zSeq_z, zFrz_z, zSet_z, zSetO_z, zRet_z, zDrop_z, zIfS_z, zTst_z, zTru_z, zNot_z, zAnd_z, zOr_z, zAndV_z, zNotV_z, zIf_z, zOp_z, zBf_z, zCons_z, zNil_z, zCall_z, sCons_z, sNil_z, zSv_z, zVl_z, zCv_z, zBv_z, zVar_z, zK_z, zNeg_z, zTup_z, zLst_z, zTupOf_z, zLstOf_z, zLen_z, zAt_z, zProp_z, zApp_z, zAugN_z, zSeqI_z, zRng1_z, zRng2_z, zAsg_z, zPart_z, zNoP_z, getPl, setPl, wipeE, List.getElem?_cons_succ, List.getElem?_cons_zero, List.set_cons_succ, List.set_cons_zero, Res.bind_ok, Res.toS_ok, callR1, callR2, callR3, callR0_4, callRk1, callRk2, callRk3', callRk4', List.length_cons, List.length_nil, Nat.zero_add, Nat.reduceAdd, sz1, sz2, sz3, if_true, if_false, Bool.false_eq_true, Bool.not_true, Bool.not_false, zNx_z, zBk_z, zCt_z, itemsD_lst, itemsD_tup, deref_bl, deref_int, deref_str, deref_tup, deref_lst, Option.bind_some, truD, gAdd_int, gSub_int, gMul_int, gMod_int, gCmpI_int, gEq_int, gInt_int, lenR_lst, lenR_blst, lenR_tup, decide_true, decide_false, true_or, or_true, List.map_cons, List.map_nil, k5dB, e05, q, hs, gNe_strs]
theorem k5d_ok (hS : PorOk S) (h : NetS w p ws ks) {xs : List (Vec × Vec)} (hx : ∀ x ∈ xs, x.1.length = w ∧ x.2.length = w) {d : D} (hd : Hand d xs) : ∃ f9, k5d S (e05 a0 p ws ks w e5 (.val d) (.own (.lst ((porS p w ws ks xs).map matD))) e8 e9 e10 e11 e12 e13 e14 e15) M = .nx (e05 a0 p ws ks w e5 (.val d) (.own (.lst ((porS p w ws ks xs).map matD))) e8 f9 e10 e11 e12 e13 e14 e15) M := by
  have hb := fun (e9 : Sl) => k5dB_ok (M := M) (a0 := a0) (e5 := e5) (e8 := e8) (e9 := e9) (e10 := e10) (e11 := e11) (e12 := e12) (e13 := e13) (e14 := e14) (e15 := e15) hS h hx hd
  unfold k5d
  generalize k5dB S = y at hb
  generalize (porS p w ws ks xs).map matD = Y at hb ⊢
  have hz : zRng1 (zCons (zK (.int 2)) zNil) (e05 a0 p ws ks w e5 (.val d) (.own (.lst Y)) e8 e9 e10 e11 e12 e13 e14 e15) M = .ok (stpD 0 1 2) M := by
    simp only [zRng1_z, zCons_z, zNil_z, zK_z, Res.bind_ok]
    exact rngR_nat 2 (by decide)
  refine zFor_gen (I := fun _ env M' => ∃ f9, env = e05 a0 p ws ks w e5 (.val d) (.own (.lst Y)) e8 f9 e10 e11 e12 e13 e14 e15 ∧ M' = M)
    (Q := fun o => ∃ f9, o = .nx (e05 a0 p ws ks w e5 (.val d) (.own (.lst Y)) e8 f9 e10 e11 e12 e13 e14 e15) M) hz ⟨e9, rfl, rfl⟩ (fun i x env M' hi hI => ?_) fun env M' hI => ?_
  · obtain ⟨f9, rfl, rfl⟩ := hI
    have t := hb (.val x)
    refine ⟨_, rfl, ?_⟩
    simp only [e05, List.set_cons_succ, List.set_cons_zero] at t ⊢
    rw [t]
    exact ⟨.val x, rfl, rfl⟩
  · obtain ⟨f9, rfl, rfl⟩ := hI
    exact ⟨f9, rfl⟩
theorem k5e_ok {xs : List (Vec × Vec)} {d : D} (hd : Hand d xs) (hl : xs.length ≤ 1000) : k5e (e05 a0 p ws ks w (.val (portD xs)) (.val d) e7 e8 e9 e10 e11 .no e13 e14 e15) M = .ok (.bl true) M := by
  have go : ∀ (g : Vec × Vec → D), itemsD d = some (xs.map g) → (∀ x, ∃ a b, VecD a x.1 ∧ VecD b x.2 ∧ gIx (g x) (.int 0) M = .ok a M ∧ gIx (g x) (.int 1) M = .ok b M) → k5eL (e05 a0 p ws ks w (.val (portD xs)) (.val d) e7 e8 e9 e10 e11 .no e13 e14 e15) M = .ok (.lst (xs.map pairD)) M := fun g hi hg => by
    have c := lcSeq (env := e05 a0 p ws ks w (.val (portD xs)) (.val d) e7 e8 e9 e10 e11 .no e13 e14 e15) (M := M) (M1 := M) (za := zBv 6) (ze := zTup (zCons (zTupOf (zOp gIx (zCv 12) (zK (.int 0)))) (zCons (zTupOf (zOp gIx (zCv 12) (zK (.int 1)))) zNil))) (vs := [12]) (i := 12) (d := d) (r := xs) (ga := g) pairD (by simp only [zSeq_z, zFrz_z, zSet_z, zSetO_z, zRet_z, zDrop_z, zIfS_z, zTst_z, zTru_z, zNot_z, zAnd_z, zOr_z, zAndV_z, zNotV_z, zIf_z, zOp_z, zBf_z, zCons_z, zNil_z, zCall_z, sCons_z, sNil_z, zSv_z, zVl_z, zCv_z, zBv_z, zVar_z, zK_z, zNeg_z, zTup_z, zLst_z, zTupOf_z, zLstOf_z, zLen_z, zAt_z, zProp_z, zApp_z, zAugN_z, zSeqI_z, zRng1_z, zRng2_z, zAsg_z, zPart_z, zNoP_z, getPl, setPl, wipeE, List.getElem?_cons_succ, List.getElem?_cons_zero, List.set_cons_succ, List.set_cons_zero, Res.bind_ok, Res.toS_ok, callR1, callR2, callR3, callR0_4, callRk1, callRk2, callRk3', callRk4', List.length_cons, List.length_nil, Nat.zero_add, Nat.reduceAdd, sz1, sz2, sz3, if_true, if_false, Bool.false_eq_true, Bool.not_true, Bool.not_false, zNx_z, zBk_z, zCt_z, itemsD_lst, itemsD_tup, deref_bl, deref_int, deref_str, deref_tup, deref_lst, Option.bind_some, truD, gAdd_int, gSub_int, gMul_int, gMod_int, gCmpI_int, gEq_int, gInt_int, lenR_lst, lenR_blst, lenR_tup, decide_true, decide_false, true_or, or_true, List.map_cons, List.map_nil, e05]) hi rfl hl fun x _ => by
      obtain ⟨a, b, ha, hb, g0, g1⟩ := hg x
      have t0 := tup_of ha (M := M)
      have t1 := tup_of hb (M := M)
      have e : pairD x = .tup [.tup (x.1.map .int), .tup (x.2.map .int)] := rfl
      rw [e]
      simp only [zSeq_z, zFrz_z, zSet_z, zSetO_z, zRet_z, zDrop_z, zIfS_z, zTst_z, zTru_z, zNot_z, zAnd_z, zOr_z, zAndV_z, zNotV_z, zIf_z, zOp_z, zBf_z, zCons_z, zNil_z, zCall_z, sCons_z, sNil_z, zSv_z, zVl_z, zCv_z, zBv_z, zVar_z, zK_z, zNeg_z, zTup_z, zLst_z, zTupOf_z, zLstOf_z, zLen_z, zAt_z, zProp_z, zApp_z, zAugN_z, zSeqI_z, zRng1_z, zRng2_z, zAsg_z, zPart_z, zNoP_z, getPl, setPl, wipeE, List.getElem?_cons_succ, List.getElem?_cons_zero, List.set_cons_succ, List.set_cons_zero, Res.bind_ok, Res.toS_ok, callR1, callR2, callR3, callR0_4, callRk1, callRk2, callRk3', callRk4', List.length_cons, List.length_nil, Nat.zero_add, Nat.reduceAdd, sz1, sz2, sz3, if_true, if_false, Bool.false_eq_true, Bool.not_true, Bool.not_false, zNx_z, zBk_z, zCt_z, itemsD_lst, itemsD_tup, deref_bl, deref_int, deref_str, deref_tup, deref_lst, Option.bind_some, truD, gAdd_int, gSub_int, gMul_int, gMod_int, gCmpI_int, gEq_int, gInt_int, lenR_lst, lenR_blst, lenR_tup, decide_true, decide_false, true_or, or_true, List.map_cons, List.map_nil, e05, g0, g1, t0, t1]
    exact c
  have c : k5eL (e05 a0 p ws ks w (.val (portD xs)) (.val d) e7 e8 e9 e10 e11 .no e13 e14 e15) M = .ok (.lst (xs.map pairD)) M := by
    rcases hd with h | h
    · exact go pairD h fun x => ⟨_, _, VecD.row _, VecD.row _, gIx_tup (by decide) rfl, gIx_tup (by decide) rfl⟩
    · exact go pairL h fun x => ⟨_, _, vL_is _, vL_is _, gIx_lst (by decide) rfl, gIx_lst (by decide) rfl⟩
  have q : gEq (.tup (xs.map pairD)) (portD xs) M = .ok (.bl true) M := QD.eq (QD.tup (k := 2) fun y hy => by
    obtain ⟨x, _, rfl⟩ := List.mem_map.mp hy
    exact QD.tup (k := 1) fun z hz => by
      simp only [List.mem_cons, List.not_mem_nil, or_false] at hz
      rcases hz with rfl | rfl
      · exact QD.row _
      · exact QD.row _) (by decide)
  generalize xs.map pairD = Y at c q
  generalize portD xs = X at *
  simp only [e05] at c
  simp only [zSeq_z, zFrz_z, zSet_z, zSetO_z, zRet_z, zDrop_z, zIfS_z, zTst_z, zTru_z, zNot_z, zAnd_z, zOr_z, zAndV_z, zNotV_z, zIf_z, zOp_z, zBf_z, zCons_z, zNil_z, zCall_z, sCons_z, sNil_z, zSv_z, zVl_z, zCv_z, zBv_z, zVar_z, zK_z, zNeg_z, zTup_z, zLst_z, zTupOf_z, zLstOf_z, zLen_z, zAt_z, zProp_z, zApp_z, zAugN_z, zSeqI_z, zRng1_z, zRng2_z, zAsg_z, zPart_z, zNoP_z, getPl, setPl, wipeE, List.getElem?_cons_succ, List.getElem?_cons_zero, List.set_cons_succ, List.set_cons_zero, Res.bind_ok, Res.toS_ok, callR1, callR2, callR3, callR0_4, callRk1, callRk2, callRk3', callRk4', List.length_cons, List.length_nil, Nat.zero_add, Nat.reduceAdd, sz1, sz2, sz3, if_true, if_false, Bool.false_eq_true, Bool.not_true, Bool.not_false, zNx_z, zBk_z, zCt_z, itemsD_lst, itemsD_tup, deref_bl, deref_int, deref_str, deref_tup, deref_lst, Option.bind_some, truD, gAdd_int, gSub_int, gMul_int, gMod_int, gCmpI_int, gEq_int, gInt_int, lenR_lst, lenR_blst, lenR_tup, decide_true, decide_false, true_or, or_true, List.map_cons, List.map_nil, k5e, e05, c, q]
def k5R (lf : Lens) (C : Str → Sem1) : ZS :=
  (zSeq (zFrz [] (k5a lf (C "_law_portion"))) (zSeq (zFrz [] (k5b (C "_law_take"))) (zSeq (zFrz [] (zSetO 7 (zLst zNil))) (zSeq (zFrz [] (k5c lf (C "_law_coefficient"))) (zSeq (zFrz [] (k5d (C "portion_slopes"))) (zSeq (zFrz [] (zRet k5e)) zNx))))))
theorem k5R_ok {C : Str → Sem1} (hT : TakeOk (C "_law_take")) (hP : LPorOk (C "_law_portion")) (hC : LCoOk (C "_law_coefficient")) (hS : PorOk (C "portion_slopes")) (h : NetS w p ws ks) (h4 : ws.length ≤ 4) (hM : Hd M) : ∃ M', k5R lf C (e05 a0 p ws ks w .no .no .no .no .no .no .no .no .no .no .no) M = .rt (.bl true) M' := by
  obtain ⟨xs, M1, hl, hx, k1, s1⟩ := k5a_ok (lf := lf) (a0 := a0) (e5 := .no) (e6 := .no) (e7 := .no) (e8 := .no) (e9 := .no) (e10 := .no) (e11 := .no) (e12 := .no) (e13 := .no) (e14 := .no) (e15 := .no) hP h h4 hM
  obtain ⟨d, M2, hd, k2, s2⟩ := k5b_ok (a0 := a0) (p := p) (ws := ws) (ks := ks) (w := w) (e6 := .no) (e7 := .no) (e8 := .no) (e9 := .no) (e10 := .no) (e11 := .no) (e12 := .no) (e15 := .no) hT k1 (show xs.length ≤ 1000 by omega)
  have s3 : zSetO 7 (zLst zNil) (e05 a0 p ws ks w (.val (portD xs)) (.val d) .no .no .no .no .no .no .no .no .no) M2 = .nx (e05 a0 p ws ks w (.val (portD xs)) (.val d) (.own (.lst [])) .no .no .no .no .no .no .no .no) M2 := by simp only [zSeq_z, zFrz_z, zSet_z, zSetO_z, zRet_z, zDrop_z, zIfS_z, zTst_z, zTru_z, zNot_z, zAnd_z, zOr_z, zAndV_z, zNotV_z, zIf_z, zOp_z, zBf_z, zCons_z, zNil_z, zCall_z, sCons_z, sNil_z, zSv_z, zVl_z, zCv_z, zBv_z, zVar_z, zK_z, zNeg_z, zTup_z, zLst_z, zTupOf_z, zLstOf_z, zLen_z, zAt_z, zProp_z, zApp_z, zAugN_z, zSeqI_z, zRng1_z, zRng2_z, zAsg_z, zPart_z, zNoP_z, getPl, setPl, wipeE, List.getElem?_cons_succ, List.getElem?_cons_zero, List.set_cons_succ, List.set_cons_zero, Res.bind_ok, Res.toS_ok, callR1, callR2, callR3, callR0_4, callRk1, callRk2, callRk3', callRk4', List.length_cons, List.length_nil, Nat.zero_add, Nat.reduceAdd, sz1, sz2, sz3, if_true, if_false, Bool.false_eq_true, Bool.not_true, Bool.not_false, zNx_z, zBk_z, zCt_z, itemsD_lst, itemsD_tup, deref_bl, deref_int, deref_str, deref_tup, deref_lst, Option.bind_some, truD, gAdd_int, gSub_int, gMul_int, gMod_int, gCmpI_int, gEq_int, gInt_int, lenR_lst, lenR_blst, lenR_tup, decide_true, decide_false, true_or, or_true, List.map_cons, List.map_nil, e05, Nat.zero_le]
  obtain ⟨f8, f10, f11, s4⟩ := k5c_ok (lf := lf) (M := M2) (a0 := a0) (e6 := .val d) (e8 := .no) (e9 := .no) (e10 := .no) (e11 := .no) (e12 := .no) (e13 := .no) (e14 := .no) hC h hx
  have hxs : ∀ x ∈ xs, x.1.length = w ∧ x.2.length = w := fun x m => ⟨(hx x m).1, (hx x m).2.1⟩
  obtain ⟨f9, s5⟩ := k5d_ok (M := M2) (a0 := a0) (e5 := .val (portD xs)) (e8 := f8) (e9 := .no) (e10 := f10) (e11 := f11) (e12 := .no) (e13 := .no) (e14 := .no) (e15 := .no) hS h hxs hd
  have s6 := k5e_ok (M := M2) (a0 := a0) (p := p) (ws := ws) (ks := ks) (w := w) (e7 := .own (.lst ((porS p w ws ks xs).map matD))) (e8 := f8) (e9 := f9) (e10 := f10) (e11 := f11) (e13 := .no) (e14 := .no) (e15 := .no) hd (show xs.length ≤ 1000 by omega)
  refine ⟨M2, ?_⟩
  unfold k5R
  rw [zSeq_nx s1, zSeq_nx s2, zSeq_nx s3, zSeq_nx s4, zSeq_nx s5]
  simp only [zSeq_z, zFrz_z, zRet_z, s6, Res.toS_ok]
end
theorem k5_seq {A N : Sem1} {y : ZS} {s r1 o1 : D} {f1 f2 : ZX} {w : Int} {M1 M3 : Sto} {ds : List D} (a : A [.val s, .val (.int 150)] [] = .ok (.lst ds) [])
    (n1 : N [.val (.ref 0), .val (.int 4)] [.lst [.lst ds, .int 0]] = .ok r1 M1)
    (g2 : f2 [.val s, .val (.ref 0), .val r1, .no, .no, .no, .no, .no, .no, .no, .no, .no, .no, .no, .no, .no] M1 = .ok (.int w) M1)
    (g1 : f1 [.val s, .val (.ref 0), .val r1, .val (.int w), .no, .no, .no, .no, .no, .no, .no, .no, .no, .no, .no, .no] M1 = .ok o1 M1)
    (hy : y [.val s, .val (.ref 0), .val r1, .val (.int w), .val o1, .no, .no, .no, .no, .no, .no, .no, .no, .no, .no, .no] M1 = .rt (.bl true) M3) :
    zFun 1 16 (zSeq (zFrz [] (zSetC 1 (zLst (zCons (zCall A 2 0 [0, 1] [] (sCons (zSv 0) (sCons (zVl (zK (.int 150))) sNil)) sNil) (zCons (zK (.int 0)) zNil)))))
      (zSeq (zFrz [] (zSet 2 (zCall N 2 0 [0, 1] [] (sCons (zSv 1) (sCons (zVl (zK (.int 4))) sNil)) sNil)))
      (zSeq (zFrz [] (zSet 3 f2)) (zSeq (zFrz [] (zSet 4 f1)) y)))) [.val s] [] = .ok (.bl true) M3 := by
  unfold zFun
  rw [if_pos (show [Sl.val s].length = 1 from rfl)]
  simp only [zSeq_z, zFrz_z, zSet_z, zSetO_z, zRet_z, zDrop_z, zIfS_z, zTst_z, zTru_z, zNot_z, zAnd_z, zOr_z, zAndV_z, zNotV_z, zIf_z, zOp_z, zBf_z, zCons_z, zNil_z, zCall_z, sCons_z, sNil_z, zSv_z, zVl_z, zCv_z, zBv_z, zVar_z, zK_z, zNeg_z, zTup_z, zLst_z, zTupOf_z, zLstOf_z, zLen_z, zAt_z, zProp_z, zApp_z, zAugN_z, zSeqI_z, zRng1_z, zRng2_z, zAsg_z, zPart_z, zNoP_z, getPl, setPl, wipeE, List.getElem?_cons_succ, List.getElem?_cons_zero, List.set_cons_succ, List.set_cons_zero, Res.bind_ok, Res.toS_ok, callR1, callR2, callR3, callR0_4, callRk1, callRk2, callRk3', callRk4', List.length_cons, List.length_nil, Nat.zero_add, Nat.reduceAdd, sz1, sz2, sz3, if_true, if_false, Bool.false_eq_true, Bool.not_true, Bool.not_false, zNx_z, zBk_z, zCt_z, itemsD_lst, itemsD_tup, deref_bl, deref_int, deref_str, deref_tup, deref_lst, Option.bind_some, truD, gAdd_int, gSub_int, gMul_int, gMod_int, gCmpI_int, gEq_int, gInt_int, lenR_lst, lenR_blst, lenR_tup, decide_true, decide_false, true_or, or_true, List.map_cons, List.map_nil, zSetC_z, List.cons_append, List.nil_append, Nat.reduceSub, List.replicate_succ, List.replicate_zero, a, n1, g1, g2, hy]
namespace stagesfull_k05_whole_slopes_are_coeffici
theorem atsOk : NetAts (atsP px) := ⟨by decide +kernel, by decide +kernel, by decide +kernel⟩
theorem take_at (k : Nat) : TakeOk (callF fns px (k + 1) "_law_take") := by
  rw [e__law_take k]
  exact takeOk
theorem draws_at (k : Nat) : DrOk (callF fns px (k + 1) "_law_draws") 150 := by
  rw [e__law_draws k]
  exact fun M ns h => draws_ok (m := 150) h (by decide)
theorem lprime_at (k : Nat) : LPrOk (callF fns px (k + 1 + 1) "_law_prime") := by
  rw [e__law_prime (k + 1)]
  exact lPrOk (take_at k)
theorem lvec_at (k : Nat) : LVecOk (callF fns px (k + 1 + 1) "_law_vector") := by
  rw [e__law_vector (k + 1)]
  exact lVecOk (take_at k)
theorem lnet_at (k : Nat) : LNetOk (callF fns px (k + 1 + 1 + 1) "_law_net") := by
  rw [e__law_net (k + 1 + 1)]
  exact lNetOk (take_at (k + 1)) (lprime_at k) (lvec_at k)
theorem int_at (k : Nat) : IntOk (callF fns px (k + 1) "is_integer") := by
  rw [e_is_integer k]
  exact intOk
theorem bet_at (k : Nat) : BetOk (callF fns px (k + 1 + 1) "is_between") := by
  rw [e_is_between (k + 1)]
  exact betOk (int_at k)
theorem seq_at (k : Nat) : SqOk (callF fns px (k + 1) "is_sequence") := by
  rw [e_is_sequence k]
  exact sqOk
theorem prime_at (k : Nat) : PrimeOk (callF fns px (k + 1 + 1 + 1) "is_net_prime") := by
  rw [e_is_net_prime (k + 1 + 1)]
  exact primeOk (bet_at k)
theorem as0_at (k : Nat) (M : Sto) (i : Int) : callF fns px (k + 1 + 1) "as_tuples" [.val (.int i)] M = .ok (.int i) M := by
  rw [e_as_tuples (k + 1)]
  exact as_int (seq_at k) M i
theorem as1_at (k : Nat) (M : Sto) (r : Vec) (h : r.length ≤ 1000) : callF fns px (k + 1 + 1 + 1) "as_tuples" [.val (rowD r)] M = .ok (rowD r) M := by
  rw [e_as_tuples (k + 1 + 1)]
  exact as_lvl (ga := D.int) (gb := D.int) (seq_at (k + 1)) (.inl rfl) h M fun x _ => as0_at k M x
theorem as2_at (k : Nat) (M : Sto) (m : Mat) (h : m.length ≤ 1000) (h2 : ∀ r ∈ m, r.length ≤ 1000) : callF fns px (k + 1 + 1 + 1 + 1) "as_tuples" [.val (matD m)] M = .ok (matD m) M := by
  rw [e_as_tuples (k + 1 + 1 + 1)]
  exact as_lvl (ga := rowD) (gb := rowD) (seq_at (k + 1 + 1)) (.inl rfl) h M fun x hx => as1_at k M x (h2 x hx)
theorem as3_at (k : Nat) : AsWs (callF fns px (k + 1 + 1 + 1 + 1 + 1) "as_tuples") := fun M ws d h hl hd => by
  rw [e_as_tuples (k + 1 + 1 + 1 + 1)]
  exact as_lvl (ga := matD) (gb := matD) (seq_at (k + 1 + 1 + 1)) hd (by omega) M fun x hx => as2_at k M x (by have := (h x hx).1; omega) fun r hr => by have := (h x hx).2 r hr; omega
theorem init_at (k : Nat) : InitOk (callF fns px (k + 1 + 1 + 1 + 1 + 1 + 1) "Net.__init__") := by
  rw [e_Net_init (k + 1 + 1 + 1 + 1 + 1)]
  exact initOk atsOk (prime_at (k + 1 + 1)) (as3_at k)
theorem wid_at (k : Nat) : NetPr (prpP px "width" (callF fns px (k + 1))) := ⟨callF fns px (k + 1) "Net.width", rfl, by
  rw [e_Net_width k]
  exact widOk atsOk⟩
theorem prod_at (k : Nat) : ProdOk (callF fns px (k + 1) "_product") := by
  rw [e__product k]
  exact prodOk atsOk
theorem ps_at (k : Nat) : PsOk (callF fns px (k + 1 + 1) "_product_slopes") := by
  rw [e__product_slopes (k + 1)]
  exact psOk atsOk (prod_at k)
theorem back_at (k : Nat) : BackOk (callF fns px (k + 1 + 1 + 1) "layer_back") := by
  rw [e_layer_back (k + 1 + 1)]
  exact backOk atsOk (wid_at (k + 1)) (ps_at k)
theorem nlen_at (k : Nat) : NetLn (lensP px (callF fns px (k + 1))) := ⟨callF fns px (k + 1) "Net.__len__", rfl, by
  rw [e_Net_len k]
  exact nLenOk atsOk⟩
theorem lay_at (k : Nat) : LayOk (callF fns px (k + 1 + 1) "layer_forward") := by
  rw [e_layer_forward (k + 1)]
  exact layOk atsOk (prod_at k)
theorem way_at (k : Nat) : WayOk (callF fns px (k + 1 + 1 + 1) "way_forward") := by
  rw [e_way_forward (k + 1 + 1)]
  exact wayOk (nlen_at (k + 1)) (lay_at k)
theorem wback_at (k : Nat) : WBackOk (callF fns px (k + 1 + 1 + 1 + 1) "way_back") := by
  rw [e_way_back (k + 1 + 1 + 1)]
  exact wBackOk (nlen_at (k + 1 + 1)) (back_at k)
theorem loss_at (k : Nat) : LossOk (callF fns px (k + 1) "loss_slopes") := by
  rw [e_loss_slopes k]
  exact lossOk
theorem no_at (k : Nat) : NoOk (callF fns px (k + 1 + 1) "no_slopes") := by
  rw [e_no_slopes (k + 1)]
  exact noOk (wid_at k) (nlen_at k)
theorem addm_at (k : Nat) : AddMOk (callF fns px (k + 1) "_added_matrix") := by
  rw [e__added_matrix k]
  exact addMOk
theorem adds_at (k : Nat) : AddSOk (callF fns px (k + 1 + 1) "added_slopes") := by
  rw [e_added_slopes (k + 1)]
  exact addSOk atsOk (addm_at k)
theorem por_at (k : Nat) : PorOk (callF fns px (k + 1 + 1 + 1 + 1 + 1) "portion_slopes") := by
  rw [e_portion_slopes (k + 1 + 1 + 1 + 1)]
  exact porOk atsOk (no_at (k + 1 + 1)) (way_at (k + 1)) (wback_at k) (loss_at (k + 1 + 1 + 1)) (adds_at (k + 1 + 1))
theorem lpor_at (k : Nat) : LPorOk (callF fns px (k + 1 + 1 + 1) "_law_portion") := by
  rw [e__law_portion (k + 1 + 1)]
  exact lPorOk (take_at (k + 1)) (lvec_at k)
theorem lth_at (k : Nat) : LThOk (callF fns px (k + 1) "_law_through") := by
  rw [e__law_through k]
  exact lThOk
theorem lco_at (k : Nat) : LCoOk (callF fns px (k + 1 + 1) "_law_coefficient") := by
  rw [e__law_coefficient (k + 1)]
  exact lCoOk (lth_at k)
theorem law_true (lf : Lens) (C : Str → Sem1) (h1 : DrOk (C "_law_draws") 150) (h3 : LNetOk (C "_law_net")) (h4 : InitOk (C "Net.__init__")) (hT : TakeOk (C "_law_take")) (hP : LPorOk (C "_law_portion")) (hC : LCoOk (C "_law_coefficient")) (hS : PorOk (C "portion_slopes")) (hc : lensP px C = lf) {ns : List Int} (hns : ns.length ≤ 1000) : ∃ M', zFun 1 16 (y_law C) [.val (.scr ns)] [] = .ok (.bl true) M' := by
  obtain ⟨ds, a1⟩ := h1 [] ns hns
  have h0 : Hd [.lst [.lst (ds.map .int), .int 0]] := ⟨ds, 0, rfl, Int.le_refl _⟩
  obtain ⟨w, p, ws, ks, M1, n1, n4, k1, t1⟩ := h3 _ 4 h0 (by decide) (by decide)
  obtain ⟨M3, t3⟩ := k5R_ok (lf := lf) (a0 := .val (.scr ns)) hT hP hC hS n1 (by omega) k1
  obtain ⟨m0, _, hm, g⟩ := ix_first (M := M1) n1
  have e : lenR lf (.val (matD m0)) M1 = .ok (.int (w : Nat)) M1 := by
    unfold matD
    rw [lenR_tup, List.length_map, hm]
  subst hc
  exact ⟨M3, k5_seq (f1 := mkZ (C "Net.__init__") 2) (y := k5R (lensP px C) C) a1 t1 (by simp only [zSeq_z, zFrz_z, zSet_z, zSetO_z, zRet_z, zDrop_z, zIfS_z, zTst_z, zTru_z, zNot_z, zAnd_z, zOr_z, zAndV_z, zNotV_z, zIf_z, zOp_z, zBf_z, zCons_z, zNil_z, zCall_z, sCons_z, sNil_z, zSv_z, zVl_z, zCv_z, zBv_z, zVar_z, zK_z, zNeg_z, zTup_z, zLst_z, zTupOf_z, zLstOf_z, zLen_z, zAt_z, zProp_z, zApp_z, zAugN_z, zSeqI_z, zRng1_z, zRng2_z, zAsg_z, zPart_z, zNoP_z, getPl, setPl, wipeE, List.getElem?_cons_succ, List.getElem?_cons_zero, List.set_cons_succ, List.set_cons_zero, Res.bind_ok, Res.toS_ok, callR1, callR2, callR3, callR0_4, callRk1, callRk2, callRk3', callRk4', List.length_cons, List.length_nil, Nat.zero_add, Nat.reduceAdd, sz1, sz2, sz3, if_true, if_false, Bool.false_eq_true, Bool.not_true, Bool.not_false, zNx_z, zBk_z, zCt_z, itemsD_lst, itemsD_tup, deref_bl, deref_int, deref_str, deref_tup, deref_lst, Option.bind_some, truD, gAdd_int, gSub_int, gMul_int, gMod_int, gCmpI_int, gEq_int, gInt_int, lenR_lst, lenR_blst, lenR_tup, decide_true, decide_false, true_or, or_true, List.map_cons, List.map_nil, ixT1, g, e]) (mkZ_ok h4 n1 (low_hand k1) rfl) t3⟩
theorem means : meaning := fun ns h => by
  rw [e_law 11]
  exact law_true _ _ (draws_at 10) (lnet_at 8) (init_at 5) (take_at 10) (lpor_at 8) (lco_at 9) (por_at 6) rfl (by omega)
end stagesfull_k05_whole_slopes_are_coeffici
end Zy
theorem PySem.Challenge.cw_stagesfull_k05_whole_slopes_are_coeffici_holds : PySem.Challenge.rw_stagesfull_k05_whole_slopes_are_coeffici.Holds := by
  exact Zy.stagesfull_k05_whole_slopes_are_coeffici.ends Zy.stagesfull_k05_whole_slopes_are_coeffici.means
