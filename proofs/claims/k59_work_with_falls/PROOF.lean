import PyProof.Rows.All
import Wide.All
import OpenK.AllK
import Wide.FinOn
import HandS.CallSlots
import HandS.Conv
import HandS.Deep
import HandS.Defaults
import HandS.ExcSuper
import HandS.ForExc
import HandS.ForMost
import HandS.Head2
import HandS.HeadEnd
import HandS.HeadHook2
import HandS.HeadHook4
import HandS.IsInst
import HandS.NoneIn
import HandS.Rev
import HandS.RevRange
import HandS.Style
import HandS.TupAny
import HandS.TupMul
import HandS.Walk
import HandS.Wide
import PySem.Challenge.RW_stagesfull_k59_work_with_falls
set_option Elab.async false
set_option linter.all false
set_option maxRecDepth 100000
set_option maxHeartbeats 2000000
namespace Zy
open PySem PySem.Spec PyProof.Rows L2

abbrev St := L2.St
/-! plain data -/
inductive D where
  | non | bl (b : Bool) | int (i : Int) | str (s : Str)
  | tup (ds : List D) | lst (ds : List D)
  | dK (kvs : List (Key × D)) | dT (kvs : List (List Key × D))
  | ins (c : String) (fs : List (Str × D)) | ref (i : Nat) | scr (ns : List Int)

abbrev Sto := List D
inductive Sl where
  | no | val (d : D) | own (d : D) | bor (d : D)
abbrev Ev := List Sl
inductive Res (α : Type) where
  | ok (a : α) (M : Sto) | exc (c : String) (fs : List (Str × D)) (M : Sto) | fail
def Res.bind {α β : Type} : Res α → (α → Sto → Res β) → Res β
  | .ok a M, k => k a M
  | .exc c fs M, _ => .exc c fs M
  | .fail, _ => .fail
@[simp] theorem Res.bind_ok {α β : Type} (a : α) (M : Sto) (k : α → Sto → Res β) : (Res.ok a M).bind k = k a M := id rfl
@[simp] theorem Res.bind_exc {α β : Type} (c : String) (fs : List (Str × D)) (M : Sto) (k : α → Sto → Res β) : (Res.exc c fs M : Res α).bind k = .exc c fs M := id rfl
@[simp] theorem Res.bind_fail {α β : Type} (k : α → Sto → Res β) : (Res.fail : Res α).bind k = .fail := id rfl

/-! how data lie in the abstract heap -/
structure Gh where
  K : PySem.W.Frag
  cl : String → Option Addr
  N : Addr → Prop
  ph : List Addr
def Gh.off (G : Gh) (a : Addr) : Prop := G.N a ∨ a ∈ G.ph

mutual
inductive Rep (G : Gh) (H : Hp) : V → D → Prop
  | non : Rep G H .non .non
  | bl (b : Bool) : Rep G H (.bl b) (.bl b)
  | int (i : Int) : Rep G H (.int i) (.int i)
  | str (s : Str) : Rep G H (.str s) (.str s)
  | tup {a : Addr} {xs : List V} {ds : List D} (h : H a = some (.tup xs)) (n : ¬ G.off a) (r : RepL G H xs ds) : Rep G H (.ref a) (.tup ds)
  | lst {a : Addr} {xs : List V} {ds : List D} (h : H a = some (.lst xs)) (n : ¬ G.off a) (r : RepL G H xs ds) : Rep G H (.ref a) (.lst ds)
  | dK {a : Addr} {ks : List (Key × V)} {kvs : List (Key × D)} (h : H a = some (.dK ks)) (n : ¬ G.off a) (r : RepP G H Key ks kvs) : Rep G H (.ref a) (.dK kvs)
  | dT {a : Addr} {ks : List (List Key × V)} {kvs : List (List Key × D)} (h : H a = some (.dT ks)) (n : ¬ G.off a) (r : RepP G H (List Key) ks kvs) : Rep G H (.ref a) (.dT kvs)
  | ins {a C dx : Addr} {c : String} {f : List (Str × V)} {fs : List (Str × D)} (h : H a = some (.ins C dx f)) (n : ¬ G.off a) (hc : G.cl c = some C) (r : RepP G H Str f fs) : Rep G H (.ref a) (.ins c fs)
  | ref {a : Addr} {i : Nat} (h : G.ph[i]? = some a) : Rep G H (.ref a) (.ref i)
  | scr {a : Addr} {o : Obj} {ns : List Int} (h : H a = some (.frz o (.lst (ns.map V.int)))) (n : ¬ G.off a) : Rep G H (.ref a) (.scr ns)
  | scrK {a : Addr} {ns : List Int} (h : ∀ H', SqL G.K H' a (ns.map V.int)) : Rep G H (.ref a) (.scr ns)
inductive RepL (G : Gh) (H : Hp) : List V → List D → Prop
  | nil : RepL G H [] []
  | cons {x : V} {d : D} {xs : List V} {ds : List D} (h : Rep G H x d) (t : RepL G H xs ds) : RepL G H (x :: xs) (d :: ds)
inductive RepP (G : Gh) (H : Hp) : (κ : Type) → List (κ × V) → List (κ × D) → Prop
  | nil {κ : Type} : RepP G H κ [] []
  | cons {κ : Type} {k : κ} {x : V} {d : D} {xs : List (κ × V)} {ds : List (κ × D)} (h : Rep G H x d) (t : RepP G H κ xs ds) : RepP G H κ ((k, x) :: xs) ((k, d) :: ds)
end

inductive Cel (G : Gh) (H : Hp) (a : Addr) : D → Prop
  | lst {xs : List V} {ds : List D} (h : H a = some (.lst xs)) (r : RepL G H xs ds) : Cel G H a (.lst ds)
  | dK {ks : List (Key × V)} {kvs : List (Key × D)} (h : H a = some (.dK ks)) (r : RepP G H Key ks kvs) : Cel G H a (.dK kvs)
  | dT {ks : List (List Key × V)} {kvs : List (List Key × D)} (h : H a = some (.dT ks)) (r : RepP G H (List Key) ks kvs) : Cel G H a (.dT kvs)
  | ins {C dx : Addr} {c : String} {f : List (Str × V)} {fs : List (Str × D)} (h : H a = some (.ins C dx f)) (hc : G.cl c = some C) (r : RepP G H Str f fs) : Cel G H a (.ins c fs)

/-- from one heap to a later one -/
structure Mo (G G' : Gh) (H H' : Hp) : Prop where
  keep : ∀ a o, H a = some o → ¬ G.off a → H' a = some o ∧ ¬ G'.off a
  ph : ∀ (i : Nat) a, G.ph[i]? = some a → G'.ph[i]? = some a
  cl : G'.cl = G.cl
  K : G'.K = G.K

mutual
theorem Rep.mo {G G' : Gh} {H H' : Hp} (m : Mo G G' H H') : ∀ {v : V} {d : D}, Rep G H v d → Rep G' H' v d
  | _, _, .non => .non
  | _, _, .bl b => .bl b
  | _, _, .int i => .int i
  | _, _, .str s => .str s
  | _, _, .tup h n r => .tup (m.keep _ _ h n).1 (m.keep _ _ h n).2 (RepL.mo m r)
  | _, _, .lst h n r => .lst (m.keep _ _ h n).1 (m.keep _ _ h n).2 (RepL.mo m r)
  | _, _, .dK h n r => .dK (m.keep _ _ h n).1 (m.keep _ _ h n).2 (RepP.mo m r)
  | _, _, .dT h n r => .dT (m.keep _ _ h n).1 (m.keep _ _ h n).2 (RepP.mo m r)
  | _, _, .ins h n hc r => .ins (m.keep _ _ h n).1 (m.keep _ _ h n).2 (by rw [m.cl]; exact hc) (RepP.mo m r)
  | _, _, .ref h => .ref (m.ph _ _ h)
  | _, _, .scr h n => .scr (m.keep _ _ h n).1 (m.keep _ _ h n).2
  | _, _, .scrK h => .scrK (by rw [m.K]; exact h)
theorem RepL.mo {G G' : Gh} {H H' : Hp} (m : Mo G G' H H') : ∀ {xs : List V} {ds : List D}, RepL G H xs ds → RepL G' H' xs ds
  | _, _, .nil => .nil
  | _, _, .cons h t => .cons (Rep.mo m h) (RepL.mo m t)
theorem RepP.mo {G G' : Gh} {H H' : Hp} (m : Mo G G' H H') : ∀ {κ : Type} {xs : List (κ × V)} {ds : List (κ × D)}, RepP G H κ xs ds → RepP G' H' κ xs ds
  | _, _, _, .nil => .nil
  | _, _, _, .cons h t => .cons (Rep.mo m h) (RepP.mo m t)
end
theorem Cel.mo {G G' : Gh} {H H' : Hp} (m : Mo G G' H H') {a : Addr} (k : ∀ o, H a = some o → H' a = some o) {d : D} : Cel G H a d → Cel G' H' a d
  | .lst h r => .lst (k _ h) (r.mo m)
  | .dK h r => .dK (k _ h) (r.mo m)
  | .dT h r => .dT (k _ h) (r.mo m)
  | .ins h hc r => .ins (k _ h) (by rw [m.cl]; exact hc) (r.mo m)
theorem Cel.there {G : Gh} {H : Hp} {a : Addr} {d : D} : Cel G H a d → ∃ o, H a = some o
  | .lst h _ => ⟨_, h⟩
  | .dK h _ => ⟨_, h⟩
  | .dT h _ => ⟨_, h⟩
  | .ins h _ _ => ⟨_, h⟩
/-- a cell that nothing else may change, as a value -/
theorem Cel.rep {G G' : Gh} {H : Hp} {a : Addr} {d : D} (m : Mo G G' H H) (n : ¬ G'.off a) : Cel G H a d → Rep G' H (.ref a) d
  | .lst h r => .lst h n (r.mo m)
  | .dK h r => .dK h n (r.mo m)
  | .dT h r => .dT h n (r.mo m)
  | .ins h hc r => .ins h n (by rw [m.cl]; exact hc) (r.mo m)
theorem RepL.length {G : Gh} {H : Hp} : ∀ {xs : List V} {ds : List D}, RepL G H xs ds → xs.length = ds.length
  | _, _, .nil => rfl
  | _, _, .cons _ t => by rw [List.length_cons, List.length_cons, RepL.length t]
theorem RepP.length {G : Gh} {H : Hp} : ∀ {κ : Type} {xs : List (κ × V)} {ds : List (κ × D)}, RepP G H κ xs ds → xs.length = ds.length
  | _, _, _, .nil => rfl
  | _, _, _, .cons _ t => by rw [List.length_cons, List.length_cons, RepP.length t]
theorem RepL.app {G : Gh} {H : Hp} : ∀ {xs ys : List V} {ds es : List D}, RepL G H xs ds → RepL G H ys es → RepL G H (xs ++ ys) (ds ++ es)
  | _, _, _, _, .nil, s => s
  | _, _, _, _, .cons h t, s => .cons h (RepL.app t s)
theorem RepL.at {G : Gh} {H : Hp} : ∀ {xs : List V} {ds : List D}, RepL G H xs ds → ∀ {i : Nat} {d : D}, ds[i]? = some d → ∃ x, xs[i]? = some x ∧ Rep G H x d
  | _, _, .nil, i, d, e => by simp at e
  | _, _, .cons h t, 0, d, e => by
    have e' := Option.some.inj e
    subst e'
    exact ⟨_, rfl, h⟩
  | _, _, .cons h t, i + 1, d, e => RepL.at t (i := i) (d := d) (by simpa using e)
theorem RepL.at' {G : Gh} {H : Hp} : ∀ {xs : List V} {ds : List D}, RepL G H xs ds → ∀ {i : Nat} {x : V}, xs[i]? = some x → ∃ d, ds[i]? = some d ∧ Rep G H x d
  | _, _, .nil, i, d, e => by simp at e
  | _, _, .cons h t, 0, d, e => by
    have e' := Option.some.inj e
    subst e'
    exact ⟨_, rfl, h⟩
  | _, _, .cons h t, i + 1, d, e => RepL.at' t (i := i) (x := d) (by simpa using e)
theorem RepL.set {G : Gh} {H : Hp} {x : V} {d : D} (h : Rep G H x d) : ∀ {xs : List V} {ds : List D} (i : Nat), RepL G H xs ds → RepL G H (xs.set i x) (ds.set i d)
  | _, _, _, .nil => .nil
  | _, _, 0, .cons _ t => .cons h t
  | _, _, i + 1, .cons q t => .cons q (RepL.set h i t)
theorem RepL.take {G : Gh} {H : Hp} : ∀ {xs : List V} {ds : List D} (n : Nat), RepL G H xs ds → RepL G H (xs.take n) (ds.take n)
  | _, _, 0, _ => .nil
  | _, _, _ + 1, .nil => .nil
  | _, _, n + 1, .cons h t => .cons h (RepL.take n t)
theorem RepL.drop {G : Gh} {H : Hp} : ∀ {xs : List V} {ds : List D} (n : Nat), RepL G H xs ds → RepL G H (xs.drop n) (ds.drop n)
  | _, _, 0, r => r
  | _, _, _ + 1, .nil => .nil
  | _, _, n + 1, .cons _ t => RepL.drop n t

/-! a def running -/
structure Fr where
  K : PySem.W.Frag
  cl : String → Option Addr
  N0 : Addr → Prop
  H0 : Hp
  ph0 : List Addr
def nof (F : Fr) (env : Ev) (σ : St) : Addr → Prop := fun a => F.N0 a ∨ ∃ (i : Nat) (d : D), env[i]? = some (.own d) ∧ σ[i]? = some (some (.ref a))
def gh (F : Fr) (ph : List Addr) (env : Ev) (σ : St) : Gh := ⟨F.K, F.cl, nof F env σ, ph⟩
structure Sim (F : Fr) (ph : List Addr) (M : Sto) (env : Ev) (σ : St) (H : Hp) : Prop where
  len : env.length = σ.length
  pre : ∃ ps, ph = F.ph0 ++ ps ∧ ∀ a ∈ ps, F.H0 a = none
  keep : ∀ a o, F.H0 a = some o → a ∉ F.ph0 → H a = some o
  n0 : ∀ a, F.N0 a → (∃ o, H a = some o) ∧ a ∉ ph
  ml : M.length = ph.length
  nd : ph.Nodup
  sto : ∀ (i : Nat) d, M[i]? = some d → ∃ a, ph[i]? = some a ∧ Cel (gh F ph env σ) H a d
  val : ∀ (i : Nat) d, env[i]? = some (.val d) → ∃ v, σ[i]? = some (some v) ∧ Rep (gh F ph env σ) H v d
  own : ∀ (i : Nat) d, env[i]? = some (.own d) → ∃ a, σ[i]? = some (some (.ref a)) ∧ Cel (gh F ph env σ) H a d ∧ F.H0 a = none ∧ a ∉ ph ∧ ¬ F.N0 a
  ap : ∀ (i j : Nat) d e a, env[i]? = some (.own d) → env[j]? = some (.own e) → σ[i]? = some (some (.ref a)) → σ[j]? = some (some (.ref a)) → i = j
  brw : ∀ (i : Nat) d, env[i]? = some (.bor d) → ∃ a, σ[i]? = some (some (.ref a)) ∧ F.N0 a ∧ Cel (gh F ph env σ) H a d ∧ ∃ o, F.H0 a = some o
structure Fwd (ph : List Addr) (H : Hp) (ph' : List Addr) (H' : Hp) : Prop where
  ext : ∃ ps, ph' = ph ++ ps ∧ ∀ a ∈ ps, H a = none
  keep : ∀ a o, H a = some o → a ∉ ph → H' a = some o
  there : ∀ a o, H a = some o → ∃ o', H' a = some o'

theorem Fwd.refl {ph : List Addr} {H : Hp} : Fwd ph H ph H := ⟨⟨[], by simp, fun a h => by simp at h⟩, fun _ _ h _ => h, fun _ o h => ⟨o, h⟩⟩
theorem Fwd.trans {p1 p2 p3 : List Addr} {H1 H2 H3 : Hp} (f : Fwd p1 H1 p2 H2) (g : Fwd p2 H2 p3 H3) : Fwd p1 H1 p3 H3 := by
  obtain ⟨a1, e1, n1⟩ := f.ext
  obtain ⟨a2, e2, n2⟩ := g.ext
  have back : ∀ a, H2 a = none → H1 a = none := fun a h => by
    cases q : H1 a with
    | none => rfl
    | some o =>
      obtain ⟨o', z⟩ := f.there a o q
      rw [h] at z
      cases z
  refine ⟨⟨a1 ++ a2, by rw [e2, e1, List.append_assoc], fun a h => ?_⟩, fun a o h n => ?_, fun a o h => ?_⟩
  · rcases List.mem_append.mp h with h | h
    · exact n1 a h
    · exact back a (n2 a h)
  · refine g.keep a o (f.keep a o h n) fun m => ?_
    rw [e1] at m
    rcases List.mem_append.mp m with m | m
    · exact n m
    · rw [n1 a m] at h
      cases h
  · obtain ⟨o', z⟩ := f.there a o h
    exact g.there a o' z
theorem Fwd.back {ph ph' : List Addr} {H H' : Hp} (f : Fwd ph H ph' H') {a : Addr} (h : H' a = none) : H a = none := by
  cases q : H a with
  | none => rfl
  | some o =>
    obtain ⟨o', z⟩ := f.there a o q
    rw [h] at z
    cases z

section
variable {F : Fr} {ph ph' : List Addr} {M M' : Sto} {env env' : Ev} {σ σ' : St} {H H' : Hp} {p a : Addr} {o : HO}
theorem Sim.phIn (S : Sim F ph M env σ H) (h : a ∈ ph) : ∃ o, H a = some o := by
  obtain ⟨i, hi, e⟩ := List.getElem_of_mem h
  have hM : i < M.length := by rw [S.ml]; exact hi
  obtain ⟨b, e1, c⟩ := S.sto i M[i] (by simp [hM])
  have : b = a := by
    rw [List.getElem?_eq_getElem hi, e] at e1
    exact (Option.some.inj e1).symm
  subst this
  exact c.there
theorem Sim.fresh (S : Sim F ph M env σ H) (h : H p = none) : ¬ (gh F ph env σ).off p := by
  intro z
  have no : ∀ o, H p = some o → False := fun o e => by rw [h] at e; cases e
  rcases z with z | z
  · rcases z with z | ⟨i, d, e1, e2⟩
    · obtain ⟨⟨o, q⟩, _⟩ := S.n0 p z
      exact no o q
    · obtain ⟨b, q, c, _⟩ := S.own i d e1
      rw [e2] at q
      cases q
      obtain ⟨o, q⟩ := c.there
      exact no o q
  · obtain ⟨o, q⟩ := S.phIn z
    exact no o q
theorem Sim.h0 (S : Sim F ph M env σ H) (h : H p = none) : F.H0 p = none := by
  cases q : F.H0 p with
  | none => rfl
  | some o =>
    by_cases m : p ∈ F.ph0
    · obtain ⟨ps, e, _⟩ := S.pre
      obtain ⟨u, z⟩ := S.phIn (a := p) (by rw [e]; exact List.mem_append_left _ m)
      rw [h] at z
      cases z
    · rw [S.keep p o q m] at h
      cases h
theorem Fwd.mo (S : Sim F ph M env σ H) (f : Fwd ph H ph' H') : Mo (gh F ph env σ) (gh F ph' env σ) H H' := by
  obtain ⟨ps, e, n⟩ := f.ext
  refine ⟨fun a o h k => ⟨f.keep a o h fun m => k (.inr m), fun z => ?_⟩, fun i a h => ?_, rfl, rfl⟩
  · rcases z with z | z
    · exact k (.inl z)
    · have z' : a ∈ ph' := z
      rw [e] at z'
      rcases List.mem_append.mp z' with m | m
      · exact k (.inr m)
      · rw [n a m] at h
        cases h
  · show ph'[i]? = some a
    have h' : ph[i]? = some a := h
    rw [e, List.getElem?_append_left (List.getElem?_eq_some_iff.mp h').1]
    exact h'
theorem Fwd.alloc (h : H p = none) : Fwd ph H ph (upd H p o) :=
  ⟨⟨[], by simp, fun a h => by simp at h⟩, fun a u e _ => by rw [upd_ne (ne_of_none e h)]; exact e, fun a u e => ⟨u, by rw [upd_ne (ne_of_none e h)]; exact e⟩⟩
theorem Sim.alloc (S : Sim F ph M env σ H) (h : H p = none) : Sim F ph M env σ (upd H p o) := by
  have m : Mo (gh F ph env σ) (gh F ph env σ) H (upd H p o) := (Fwd.alloc h).mo S
  have k : ∀ (a : Addr) u, H a = some u → upd H p o a = some u := fun a u e => by rw [upd_ne (ne_of_none e h)]; exact e
  refine ⟨S.len, S.pre, fun a u e n => k a u (S.keep a u e n), fun a z => ?_, S.ml, S.nd, fun i d e => ?_, fun i d e => ?_, fun i d e => ?_, S.ap, fun i d e => ?_⟩
  · obtain ⟨⟨u, q⟩, n⟩ := S.n0 a z
    exact ⟨⟨u, k a u q⟩, n⟩
  · obtain ⟨a, q, c⟩ := S.sto i d e
    exact ⟨a, q, c.mo m (k a)⟩
  · obtain ⟨v, q, r⟩ := S.val i d e
    exact ⟨v, q, r.mo m⟩
  · obtain ⟨a, q, c, r⟩ := S.own i d e
    exact ⟨a, q, c.mo m (k a), r⟩
  · obtain ⟨a, q, n, c, o⟩ := S.brw i d e
    exact ⟨a, q, n, c.mo m (k a), o⟩
end

/-! what is wanted of a meaning's outcome -/
def Post {α β : Type} (Rl : Gh → Hp → β → α → Prop) (F : Fr) (W : WX) (env : Ev) (σ : St) (ph : List Addr) (H : Hp) (Q : β → Hp → Prop) : Res α → Prop
  | .ok d M' => ∀ ph' H' v, Sim F ph' M' env σ H' → Fwd ph H ph' H' → Rl (gh F ph' env σ) H' v d → Q v H'
  | .exc c fs M' => ∀ ph' H' dx f C, Sim F ph' M' env σ H' → Fwd ph H ph' H' → F.cl c = some C → H' dx = some (.xd f) → RepP (gh F ph' env σ) H' Str f fs → W (.ref C) (some dx) σ H'
  | .fail => False
abbrev PoE := @Post D V Rep
abbrev PoA := @Post (List D) (List V) RepL
def RlB : Gh → Hp → Bool → Bool → Prop := fun _ _ a b => a = b
abbrev PoT := @Post Bool Bool RlB

section
variable {F : Fr} {W : WX} {ph ph' : List Addr} {M M' : Sto} {env : Ev} {σ : St} {H H' : Hp} {α β γ δ : Type} {Rl : Gh → Hp → β → α → Prop} {Rl' : Gh → Hp → δ → γ → Prop}
theorem Post.fwd {Q : β → Hp → Prop} {r : Res α} (P : Post Rl F W env σ ph H Q r) (f : Fwd ph H ph' H') : Post Rl F W env σ ph' H' Q r := by
  cases r with
  | ok d M' => exact fun p1 H1 v S g r => P p1 H1 v S (f.trans g) r
  | exc c fs M' => exact fun p1 H1 dx ff C S g e1 e2 r => P p1 H1 dx ff C S (f.trans g) e1 e2 r
  | fail => exact P
theorem Post.step {Q : δ → Hp → Prop} {Q' : β → Hp → Prop} {r : Res α} {k : α → Sto → Res γ} (P : Post Rl' F W env σ ph H Q (r.bind k))
    (hk : ∀ a M' ph' H' b, Sim F ph' M' env σ H' → Fwd ph H ph' H' → Rl (gh F ph' env σ) H' b a → Post Rl' F W env σ ph' H' Q (k a M') → Q' b H') : Post Rl F W env σ ph H Q' r := by
  cases r with
  | ok d M' => exact fun p1 H1 v S g r => hk d M' p1 H1 v S g r (Post.fwd P g)
  | exc c fs M' => exact P
  | fail => exact P
theorem Post.now {Q : β → Hp → Prop} {d : α} {v : β} (P : Post Rl F W env σ ph H Q (.ok d M)) (S : Sim F ph M env σ H) (r : Rl (gh F ph env σ) H v d) : Q v H := P ph H v S Fwd.refl r
end

/-! meanings -/
abbrev ZX := Ev → Sto → Res D
abbrev ZL := Ev → Sto → Res (List D)
abbrev ZB := Ev → Sto → Res Bool
structure ZE (X : Cx) (W : WX) (cl : String → Option Addr) (e : Expr) (z : ZX) : Prop where
  ex : ∃ t, PE X e t ∧ ∀ F ph M env σ H Q, F.cl = cl → F.K = X.K → Sim F ph M env σ H → PoE F W env σ ph H Q (z env M) → t σ H Q
structure ZA (X : Cx) (W : WX) (cl : String → Option Addr) (es : List Expr) (z : ZL) : Prop where
  ex : ∃ t, PA X es t ∧ ∀ F ph M env σ H Q, F.cl = cl → F.K = X.K → Sim F ph M env σ H → PoA F W env σ ph H Q (z env M) → t σ H Q
structure ZT (X : Cx) (W : WX) (cl : String → Option Addr) (e : Expr) (z : ZB) : Prop where
  ex : ∃ t, PT X e t ∧ ∀ F ph M env σ H Q, F.cl = cl → F.K = X.K → Sim F ph M env σ H → PoT F W env σ ph H Q (z env M) → t σ H Q
end Zy
set_option maxHeartbeats 2000000
namespace Zy
open PySem PySem.Spec PyProof.Rows L2

/-! reading: frozen values, owned slots, cells of the store -/
def deref (M : Sto) : D → Option D
  | .ref j => M[j]?
  | d => some d
def RlC (G : Gh) (H : Hp) (v : V) (d : D) : Prop := Rep G H v d ∨ ∃ a, v = .ref a ∧ Cel G H a d ∧ a ∉ G.ph ∧ G.N a
inductive Lk (G : Gh) (H : Hp) : V → D → Prop
  | of {v : V} {d : D} (h : Rep G H v d) : Lk G H v d
  | cel {a : Addr} {d : D} (h : Cel G H a d) : Lk G H (.ref a) d
abbrev PoC := @Post D V RlC
inductive RcL (G : Gh) (H : Hp) : List V → List D → Prop
  | nil : RcL G H [] []
  | cons {x : V} {d : D} {xs : List V} {ds : List D} (h : RlC G H x d) (t : RcL G H xs ds) : RcL G H (x :: xs) (d :: ds)

section
variable {F : Fr} {W : WX} {ph ph' : List Addr} {M M' : Sto} {env : Ev} {σ : St} {H H' : Hp} {v : V} {d c : D} {G : Gh}
theorem RlC.look (S : Sim F ph M env σ H) (r : RlC (gh F ph env σ) H v d) (e : deref M d = some c) : Lk (gh F ph env σ) H v c := by
  rcases r with r | ⟨a, rfl, r, _, _⟩
  · cases r with
    | @ref a i h =>
      obtain ⟨b, e1, q⟩ := S.sto i c e
      have h' : ph[i]? = some a := h
      rw [h'] at e1
      cases e1
      exact .cel q
    | non => cases e; exact .of .non
    | bl b => cases e; exact .of (.bl b)
    | int i => cases e; exact .of (.int i)
    | str s => cases e; exact .of (.str s)
    | tup h n r => cases e; exact .of (.tup h n r)
    | lst h n r => cases e; exact .of (.lst h n r)
    | dK h n r => cases e; exact .of (.dK h n r)
    | dT h n r => cases e; exact .of (.dT h n r)
    | ins h n hc r => cases e; exact .of (.ins h n hc r)
    | scr h n => cases e; exact .of (.scr h n)
    | scrK h => cases e; exact .of (.scrK h)
  · cases r with
    | lst h r => cases e; exact .cel (.lst h r)
    | dK h r => cases e; exact .cel (.dK h r)
    | dT h r => cases e; exact .cel (.dT h r)
    | ins h hc r => cases e; exact .cel (.ins h hc r)
theorem RlC.fwd (S : Sim F ph M env σ H) (f : Fwd ph H ph' H') (r : RlC (gh F ph env σ) H v d) : RlC (gh F ph' env σ) H' v d := by
  have m := f.mo S
  rcases r with r | ⟨a, e, r, n, hN⟩
  · exact .inl (r.mo m)
  · obtain ⟨o, ho⟩ := r.there
    have n' : a ∉ ph := n
    refine .inr ⟨a, e, r.mo m fun o h => f.keep a o h n', fun z => ?_, hN⟩
    obtain ⟨ps, e1, hn⟩ := f.ext
    have z' : a ∈ ph' := z
    rw [e1] at z'
    rcases List.mem_append.mp z' with q | q
    · exact n' q
    · rw [hn a q] at ho
      cases ho
theorem RcL.fwd (S : Sim F ph M env σ H) (f : Fwd ph H ph' H') : ∀ {xs : List V} {ds : List D}, RcL (gh F ph env σ) H xs ds → RcL (gh F ph' env σ) H' xs ds
  | _, _, .nil => .nil
  | _, _, .cons h t => .cons (h.fwd S f) (RcL.fwd S f t)
theorem Lk.non_inv (h : Lk G H v .non) : v = .non := by cases h with | of h => cases h; rfl | cel h => cases h
theorem Lk.int_inv {i : Int} (h : Lk G H v (.int i)) : v = .int i := by cases h with | of h => cases h; rfl | cel h => cases h
theorem Lk.bl_inv {b : Bool} (h : Lk G H v (.bl b)) : v = .bl b := by cases h with | of h => cases h; rfl | cel h => cases h
theorem Lk.str_inv {s : Str} (h : Lk G H v (.str s)) : v = .str s := by cases h with | of h => cases h; rfl | cel h => cases h
theorem Lk.lst_inv {ds : List D} (h : Lk G H v (.lst ds)) : ∃ a xs, v = .ref a ∧ H a = some (.lst xs) ∧ RepL G H xs ds := by
  cases h with
  | of h => cases h with | lst h n r => exact ⟨_, _, rfl, h, r⟩
  | cel h => cases h with | lst h r => exact ⟨_, _, rfl, h, r⟩
theorem Lk.tup_inv {ds : List D} (h : Lk G H v (.tup ds)) : ∃ a xs, v = .ref a ∧ H a = some (.tup xs) ∧ RepL G H xs ds := by
  cases h with
  | of h => cases h with | tup h n r => exact ⟨_, _, rfl, h, r⟩
  | cel h => cases h
theorem Lk.dK_inv {ds : List (Key × D)} (h : Lk G H v (.dK ds)) : ∃ a xs, v = .ref a ∧ H a = some (.dK xs) ∧ RepP G H Key xs ds := by
  cases h with
  | of h => cases h with | dK h n r => exact ⟨_, _, rfl, h, r⟩
  | cel h => cases h with | dK h r => exact ⟨_, _, rfl, h, r⟩
theorem Lk.dT_inv {ds : List (List Key × D)} (h : Lk G H v (.dT ds)) : ∃ a xs, v = .ref a ∧ H a = some (.dT xs) ∧ RepP G H (List Key) xs ds := by
  cases h with
  | of h => cases h with | dT h n r => exact ⟨_, _, rfl, h, r⟩
  | cel h => cases h with | dT h r => exact ⟨_, _, rfl, h, r⟩
theorem Lk.ins_inv {c : String} {fs : List (Str × D)} (h : Lk G H v (.ins c fs)) : ∃ a C dx f, v = .ref a ∧ H a = some (.ins C dx f) ∧ G.cl c = some C ∧ RepP G H Str f fs := by
  cases h with
  | of h => cases h with | ins h n hc r => exact ⟨_, _, _, _, rfl, h, hc, r⟩
  | cel h => cases h with | ins h hc r => exact ⟨_, _, _, _, rfl, h, hc, r⟩
theorem Lk.scr_inv {ns : List Int} (h : Lk G H v (.scr ns)) : ∃ a, v = .ref a ∧ SqL G.K H a (ns.map V.int) := by
  cases h with
  | of h =>
    cases h with
    | scr h n => exact ⟨_, rfl, .inl (.inr ⟨_, h⟩)⟩
    | scrK h => exact ⟨_, rfl, h H⟩
  | cel h => cases h
theorem Rep.rc (h : Rep G H v d) : RlC G H v d := .inl h
/-- as list or tuple -/
def itemsD : D → Option (List D)
  | .lst ds => some ds
  | .tup ds => some ds
  | .scr ns => some (ns.map .int)
  | _ => none
theorem repL_ints (G : Gh) (H : Hp) : ∀ ns : List Int, RepL G H (ns.map V.int) (ns.map D.int)
  | [] => .nil
  | n :: r => .cons (.int n) (repL_ints G H r)
theorem Lk.seq {ds : List D} (h : Lk G H v c) (e : itemsD c = some ds) : ∃ a xs, v = .ref a ∧ (SqL G.K H a xs ∨ SqT G.K H a xs) ∧ RepL G H xs ds := by
  cases c <;> simp only [itemsD, Option.some.injEq, reduceCtorEq] at e
  · subst e; obtain ⟨a, xs, e, h, r⟩ := h.tup_inv; exact ⟨a, xs, e, .inr (SqT.of h), r⟩
  · subst e; obtain ⟨a, xs, e, h, r⟩ := h.lst_inv; exact ⟨a, xs, e, .inl (SqL.of h), r⟩
  · subst e; obtain ⟨a, e, h⟩ := h.scr_inv; exact ⟨a, _, e, .inl h, repL_ints G H _⟩
end

/-! judgements in the way of reading -/
structure ZC (X : Cx) (W : WX) (cl : String → Option Addr) (e : Expr) (z : ZX) : Prop where
  ex : ∃ t, PE X e t ∧ ∀ F ph M env σ H Q, F.cl = cl → F.K = X.K → Sim F ph M env σ H → PoC F W env σ ph H Q (z env M) → t σ H Q
structure ZK (X : Cx) (W : WX) (cl : String → Option Addr) (es : List Expr) (z : ZL) : Prop where
  ex : ∃ t, PA X es t ∧ ∀ F ph M env σ H Q, F.cl = cl → F.K = X.K → Sim F ph M env σ H → @Post (List D) (List V) RcL F W env σ ph H Q (z env M) → t σ H Q
section
variable {X : Cx} {W : WX} {cl : String → Option Addr} {e a b : Expr} {es : List Expr} {z za zb zc : ZX} {zs : ZL} {pos : Pos} {op : Operator} {co co' : CmpOp}
theorem Post.weak {α β : Type} {Rl Rl' : Gh → Hp → β → α → Prop} {F : Fr} {env : Ev} {σ : St} {ph : List Addr} {H : Hp} {Q : β → Hp → Prop} {r : Res α} (h : ∀ G H v d, Rl G H v d → Rl' G H v d) (P : Post Rl' F W env σ ph H Q r) : Post Rl F W env σ ph H Q r := by
  cases r with
  | ok d M' => exact fun p1 H1 v S g r => P p1 H1 v S g (h _ _ _ _ r)
  | exc c fs M' => exact P
  | fail => exact P
theorem ZE.toC (h : ZE X W cl e z) : ZC X W cl e z := by
  obtain ⟨t, p, q⟩ := h.ex
  exact ⟨t, p, fun F ph M env σ H Q h1 h2 S P => q F ph M env σ H Q h1 h2 S (P.weak fun _ _ _ _ r => .inl r)⟩

/-! names, constants -/
def zVar (i : Nat) : ZX := fun env M => match env[i]? with
  | some (.val d) => .ok d M
  | _ => .fail
def zCv (i : Nat) : ZX := fun env M => match env[i]? with
  | some (.val d) => .ok d M
  | some (.own d) => .ok d M
  | some (.bor d) => .ok d M
  | _ => .fail
theorem ze_var {i : Nat} {x : Str} (hN : X.N[i]? = some x) (hv : Vis X.env.scope x) (hd : (x == ("__debug__" : Str)) = false := by decide) (hc : (x == ("__classdict__" : Str)) = false := by decide) : ZE X W cl (.Name x pos) (zVar i) := by
  refine ⟨_, pe_var hN hv hd hc, fun F ph M env σ H Q _ _ S P => ?_⟩
  unfold zVar at P
  split at P
  · rename_i d e
    obtain ⟨v, e1, r⟩ := S.val i d e
    exact ⟨v, e1, P.now S r⟩
  · exact P.elim
theorem zc_var {i : Nat} {x : Str} (hN : X.N[i]? = some x) (hv : Vis X.env.scope x) (hd : (x == ("__debug__" : Str)) = false := by decide) (hc : (x == ("__classdict__" : Str)) = false := by decide) : ZC X W cl (.Name x pos) (zCv i) := by
  refine ⟨_, pe_var hN hv hd hc, fun F ph M env σ H Q _ _ S P => ?_⟩
  unfold zCv at P
  split at P
  · rename_i d e
    obtain ⟨v, e1, r⟩ := S.val i d e
    exact ⟨v, e1, P.now S (.inl r)⟩
  · rename_i d e
    obtain ⟨a, e1, r, _, n, _⟩ := S.own i d e
    exact ⟨_, e1, P.now S (.inr ⟨a, rfl, r, n, .inr ⟨i, d, e, e1⟩⟩)⟩
  · rename_i d e
    obtain ⟨a, e1, n, r, _⟩ := S.brw i d e
    exact ⟨_, e1, P.now S (.inr ⟨a, rfl, r, (S.n0 a n).2, .inl n⟩)⟩
  · exact P.elim
def zK (d : D) : ZX := fun _ M => .ok d M
theorem ze_const {d : D} {v : V} (h : PE X e (tC v)) (r : ∀ G H, Rep G H v d) : ZE X W cl e (zK d) :=
  ⟨_, h, fun F ph M env σ H Q _ _ S P => P.now S (r _ _)⟩
theorem ze_int {i : Int} {j : Nat} : ZE X W cl (.Constant (.int i) j pos) (zK (.int i)) := ze_const pe_int fun _ _ => .int i
theorem ze_str {s : Str} {j : Nat} : ZE X W cl (.Constant (.str s) j pos) (zK (.str s)) := ze_const pe_str fun _ _ => .str s
theorem ze_bl {b : Bool} {j : Nat} : ZE X W cl (.Constant (.bool b) j pos) (zK (.bl b)) := ze_const pe_bl fun _ _ => .bl b
theorem ze_non {j : Nat} : ZE X W cl (.Constant .none j pos) (zK .non) := ze_const pe_non fun _ _ => .non

/-! operators by values -/
abbrev G2 := D → D → Sto → Res D
def zOp (g : G2) (za zb : ZX) : ZX := fun env M => (za env M).bind fun d M1 => (zb env M1).bind fun e M2 => g d e M2
def OpZ (X : Cx) (W : WX) (cl : String → Option Addr) (r : R2) (g : G2) : Prop := ∀ (F : Fr) (ph : List Addr) (M : Sto) (env : Ev) (σ : St) (H : Hp) (Q : VK) (x y : V) (d e : D), F.cl = cl → F.K = X.K → Sim F ph M env σ H →
  RlC (gh F ph env σ) H x d → RlC (gh F ph env σ) H y e → PoE F W env σ ph H Q (g d e M) → r x y H Q
theorem op_run {r : R2} {g : G2} {ta tb : TE} (hz : OpZ X W cl r g)
    (ha : ∀ F ph M env σ H Q, F.cl = cl → F.K = X.K → Sim F ph M env σ H → PoC F W env σ ph H Q (za env M) → ta σ H Q)
    (hb : ∀ F ph M env σ H Q, F.cl = cl → F.K = X.K → Sim F ph M env σ H → PoC F W env σ ph H Q (zb env M) → tb σ H Q)
    {F : Fr} {ph : List Addr} {M : Sto} {env : Ev} {σ : St} {H : Hp} {Q : VK} (h1 : F.cl = cl) (h2 : F.K = X.K) (S : Sim F ph M env σ H) (P : PoE F W env σ ph H Q (zOp g za zb env M)) : tOp r ta tb σ H Q := by
  refine ha F ph M env σ H _ h1 h2 S (P.step fun d M1 ph1 H1 x S1 f1 r1 P1 => ?_)
  refine hb F ph1 M1 env σ H1 _ h1 h2 S1 (P1.step fun e M2 ph2 H2 y S2 f2 r2 P2 => ?_)
  exact hz F ph2 M2 env σ H2 Q x y d e h1 h2 S2 (r1.fwd S1 f2) r2 P2
theorem ze_op {r : R2} {g : G2} (ho : OpR X (binaryOp op) r) (hz : OpZ X W cl r g) (ha : ZC X W cl a za) (hb : ZC X W cl b zb) : ZE X W cl (.BinOp a op b pos) (zOp g za zb) := by
  obtain ⟨ta, pa, qa⟩ := ha.ex
  obtain ⟨tb, pb, qb⟩ := hb.ex
  exact ⟨_, pe_op ho pa pb, fun F ph M env σ H Q h1 h2 S P => op_run hz qa qb h1 h2 S P⟩
theorem ze_cmp {r : R2} {g : G2} (ho : OpR X (compareOp co) r) (hz : OpZ X W cl r g) (ha : ZC X W cl a za) (hb : ZC X W cl b zb) (hm : behindInMarks co b = false) : ZE X W cl (.Compare a [co] [b] pos) (zOp g za zb) := by
  obtain ⟨ta, pa, qa⟩ := ha.ex
  obtain ⟨tb, pb, qb⟩ := hb.ex
  exact ⟨_, pe_cmpR ho pa pb hm, fun F ph M env σ H Q h1 h2 S P => op_run hz qa qb h1 h2 S P⟩

/-! tests -/
def zTst (z : ZX) : ZB := fun env M => (z env M).bind fun d M1 => match d with
  | .bl b => .ok b M1
  | _ => .fail
theorem post_tst {F : Fr} {env : Ev} {σ : St} {ph : List Addr} {H : Hp} {M : Sto} {Q : Bool → Hp → Prop} (P : PoT F W env σ ph H Q (zTst z env M)) : PoE F W env σ ph H (fun x H' => ∃ k, x = .bl k ∧ Q k H') (z env M) := by
  refine P.step fun d M1 ph1 H1 v S1 f1 r1 P1 => ?_
  cases d with
  | bl b =>
    cases r1
    exact ⟨b, rfl, P1.now S1 rfl⟩
  | _ => exact P1.elim
theorem zt_cmp {r : R2} {g : G2} (ho : OpR X (compareOp co) r) (hz : OpZ X W cl r g) (ha : ZC X W cl a za) (hb : ZC X W cl b zb) (hm : behindInMarks co b = false) : ZT X W cl (.Compare a [co] [b] pos) (zTst (zOp g za zb)) := by
  obtain ⟨ta, pa, qa⟩ := ha.ex
  obtain ⟨tb, pb, qb⟩ := hb.ex
  exact ⟨_, pt_cmpR ho pa pb hm, fun F ph M env σ H Q h1 h2 S P => op_run hz qa qb h1 h2 S (post_tst P)⟩
/-- a < b < c -/
def zCh (g g' : G2) (za zb zc : ZX) : ZX := fun env M => (za env M).bind fun d M1 => (zb env M1).bind fun e M2 => (g d e M2).bind fun k M3 => match k with
  | .bl true => (zc env M3).bind fun c M4 => g' e c M4
  | .bl false => .ok (.bl false) M3
  | _ => .fail
theorem ch_run {r r' : R2} {g g' : G2} {ta tb tc : TE} (hz : OpZ X W cl r g) (hz' : OpZ X W cl r' g')
    (ha : ∀ F ph M env σ H Q, F.cl = cl → F.K = X.K → Sim F ph M env σ H → PoC F W env σ ph H Q (za env M) → ta σ H Q)
    (hb : ∀ F ph M env σ H Q, F.cl = cl → F.K = X.K → Sim F ph M env σ H → PoC F W env σ ph H Q (zb env M) → tb σ H Q)
    (hc : ∀ F ph M env σ H Q, F.cl = cl → F.K = X.K → Sim F ph M env σ H → PoC F W env σ ph H Q (zc env M) → tc σ H Q)
    {F : Fr} {ph : List Addr} {M : Sto} {env : Ev} {σ : St} {H : Hp} {Q : VK} (h1 : F.cl = cl) (h2 : F.K = X.K) (S : Sim F ph M env σ H) (P : PoE F W env σ ph H Q (zCh g g' za zb zc env M)) : tChain r r' ta tb tc σ H Q := by
  refine ha F ph M env σ H _ h1 h2 S (P.step fun d M1 ph1 H1 x S1 f1 r1 P1 => ?_)
  refine hb F ph1 M1 env σ H1 _ h1 h2 S1 (P1.step fun e M2 ph2 H2 y S2 f2 r2 P2 => ?_)
  refine hz F ph2 M2 env σ H2 _ x y d e h1 h2 S2 (r1.fwd S1 f2) r2 (P2.step fun k M3 ph3 H3 w S3 f3 r3 P3 => ?_)
  cases k with
  | bl b =>
    cases r3
    refine ⟨b, rfl, ?_⟩
    cases b with
    | true =>
      refine iteT (hc F ph3 M3 env σ H3 _ h1 h2 S3 (P3.step fun c M4 ph4 H4 u S4 f4 r4 P4 => ?_))
      exact hz' F ph4 M4 env σ H4 Q y u e c h1 h2 S4 ((r2.fwd S2 f3).fwd S3 f4) r4 P4
    | false => exact iteF (P3.now S3 (.bl false))
  | _ => exact P3.elim
theorem ze_ch {r r' : R2} {g g' : G2} {c : Expr} (ho : OpR X (compareOp co) r) (ho' : OpR X (compareOp co') r') (hz : OpZ X W cl r g) (hz' : OpZ X W cl r' g') (ha : ZC X W cl a za) (hb : ZC X W cl b zb) (hc : ZC X W cl c zc)
    (h1 : co ≠ .In ∧ co ≠ .NotIn ∧ co' ≠ .In ∧ co' ≠ .NotIn := by decide) : ZE X W cl (.Compare a [co, co'] [b, c] pos) (zCh g g' za zb zc) := by
  obtain ⟨ta, pa, qa⟩ := ha.ex
  obtain ⟨tb, pb, qb⟩ := hb.ex
  obtain ⟨tc, pc, qc⟩ := hc.ex
  exact ⟨_, pe_chain ho ho' pa pb pc (nobehind _ h1.2.2.1 h1.2.2.2), fun F ph M env σ H Q h1 h2 S P => ch_run hz hz' qa qb qc h1 h2 S P⟩
theorem zt_ch {r r' : R2} {g g' : G2} {c : Expr} (ho : OpR X (compareOp co) r) (ho' : OpR X (compareOp co') r') (hz : OpZ X W cl r g) (hz' : OpZ X W cl r' g') (ha : ZC X W cl a za) (hb : ZC X W cl b zb) (hc : ZC X W cl c zc)
    (h1 : co ≠ .In ∧ co ≠ .NotIn ∧ co' ≠ .In ∧ co' ≠ .NotIn := by decide) : ZT X W cl (.Compare a [co, co'] [b, c] pos) (zTst (zCh g g' za zb zc)) := by
  obtain ⟨ta, pa, qa⟩ := ha.ex
  obtain ⟨tb, pb, qb⟩ := hb.ex
  obtain ⟨tc, pc, qc⟩ := hc.ex
  exact ⟨_, pt_chain ho ho' pa pb pc (nobehind _ h1.2.2.1 h1.2.2.2), fun F ph M env σ H Q h1 h2 S P => ch_run hz hz' qa qb qc h1 h2 S (post_tst P)⟩
/-- and, or, not as tests -/
structure ZW (X : Cx) (W : WX) (cl : String → Option Addr) (e : Expr) (z : ZB) : Prop where
  ex : ∃ t, PW X e t ∧ ∀ F ph M env σ H Q, F.cl = cl → F.K = X.K → Sim F ph M env σ H → PoT F W env σ ph H Q (z env M) → t σ H Q
def zAnd (z y : ZB) : ZB := fun env M => (z env M).bind fun b M1 => if b = true then y env M1 else .ok false M1
def zOr (z y : ZB) : ZB := fun env M => (z env M).bind fun b M1 => if b = true then .ok true M1 else y env M1
def zNot (z : ZB) : ZB := fun env M => (z env M).bind fun b M1 => .ok (!b) M1
variable {y y' : ZB} {rest : List Expr}
theorem ZW.toT (h : ZW X W cl e y) : ZT X W cl e y := by
  obtain ⟨t, p, q⟩ := h.ex
  exact ⟨t, p.pt, q⟩
theorem zw_and1 (h : ZT X W cl a y) : ZW X W cl (.BoolOp .And [a] pos) y := by
  obtain ⟨t, p, q⟩ := h.ex
  exact ⟨t, pw_and1 p, q⟩
theorem zw_or1 (h : ZT X W cl a y) : ZW X W cl (.BoolOp .Or [a] pos) y := by
  obtain ⟨t, p, q⟩ := h.ex
  exact ⟨t, pw_or1 p, q⟩
theorem zw_and (h : ZT X W cl a y) (h' : ZW X W cl (.BoolOp .And (b :: rest) pos) y') : ZW X W cl (.BoolOp .And (a :: b :: rest) pos) (zAnd y y') := by
  obtain ⟨t, p, q⟩ := h.ex
  obtain ⟨t', p', q'⟩ := h'.ex
  refine ⟨_, pw_and p p', fun F ph M env σ H Q h1 h2 S P => q F ph M env σ H _ h1 h2 S (P.step fun k M1 ph1 H1 w S1 f1 r1 P1 => ?_)⟩
  cases (show w = k from r1)
  cases k with
  | true => exact iteT (q' F ph1 M1 env σ H1 Q h1 h2 S1 P1)
  | false => exact iteF (P1.now S1 rfl)
theorem zw_or (h : ZT X W cl a y) (h' : ZW X W cl (.BoolOp .Or (b :: rest) pos) y') : ZW X W cl (.BoolOp .Or (a :: b :: rest) pos) (zOr y y') := by
  obtain ⟨t, p, q⟩ := h.ex
  obtain ⟨t', p', q'⟩ := h'.ex
  refine ⟨_, pw_or p p', fun F ph M env σ H Q h1 h2 S P => q F ph M env σ H _ h1 h2 S (P.step fun k M1 ph1 H1 w S1 f1 r1 P1 => ?_)⟩
  cases (show w = k from r1)
  cases k with
  | true => exact iteT (P1.now S1 rfl)
  | false => exact iteF (q' F ph1 M1 env σ H1 Q h1 h2 S1 P1)
theorem zt_not (h : ZT X W cl a y) : ZT X W cl (.UnaryOp .Not a pos) (zNot y) := by
  obtain ⟨t, p, q⟩ := h.ex
  refine ⟨_, pt_not p, fun F ph M env σ H Q h1 h2 S P => q F ph M env σ H _ h1 h2 S (P.step fun k M1 ph1 H1 w S1 f1 r1 P1 => ?_)⟩
  cases (show w = k from r1)
  exact P1.now S1 rfl
/-- .. as values (bools) -/
def zAndV (z y : ZX) : ZX := fun env M => (z env M).bind fun d M1 => match d with
  | .bl true => y env M1
  | .bl false => .ok (.bl false) M1
  | _ => .fail
def zOrV (z y : ZX) : ZX := fun env M => (z env M).bind fun d M1 => match d with
  | .bl false => y env M1
  | .bl true => .ok (.bl true) M1
  | _ => .fail
def zNotV (z : ZX) : ZX := fun env M => (z env M).bind fun d M1 => match d with
  | .bl b => .ok (.bl (!b)) M1
  | _ => .fail
theorem ze_one {bo : BoolOp} (h : ZE X W cl a z) : ZE X W cl (.BoolOp bo [a] pos) z := by
  obtain ⟨t, p, q⟩ := h.ex
  exact ⟨t, pe_one p, q⟩
theorem ze_and (h : ZE X W cl a z) (h' : ZE X W cl (.BoolOp .And (b :: rest) pos) zb) : ZE X W cl (.BoolOp .And (a :: b :: rest) pos) (zAndV z zb) := by
  obtain ⟨t, p, q⟩ := h.ex
  obtain ⟨t', p', q'⟩ := h'.ex
  refine ⟨_, pe_and p p', fun F ph M env σ H Q h1 h2 S P => q F ph M env σ H _ h1 h2 S (P.step fun k M1 ph1 H1 w S1 f1 r1 P1 => ?_)⟩
  cases k with
  | bl c =>
    cases r1
    refine ⟨c, rfl, ?_⟩
    cases c with
    | true => exact iteT (q' F ph1 M1 env σ H1 Q h1 h2 S1 P1)
    | false => exact iteF (P1.now S1 (.bl false))
  | _ => exact P1.elim
theorem ze_or (h : ZE X W cl a z) (h' : ZE X W cl (.BoolOp .Or (b :: rest) pos) zb) : ZE X W cl (.BoolOp .Or (a :: b :: rest) pos) (zOrV z zb) := by
  obtain ⟨t, p, q⟩ := h.ex
  obtain ⟨t', p', q'⟩ := h'.ex
  refine ⟨_, pe_or p p', fun F ph M env σ H Q h1 h2 S P => q F ph M env σ H _ h1 h2 S (P.step fun k M1 ph1 H1 w S1 f1 r1 P1 => ?_)⟩
  cases k with
  | bl c =>
    cases r1
    refine ⟨c, rfl, ?_⟩
    cases c with
    | true => exact iteT (P1.now S1 (.bl true))
    | false => exact iteF (q' F ph1 M1 env σ H1 Q h1 h2 S1 P1)
  | _ => exact P1.elim
theorem ze_not (h : ZE X W cl a z) : ZE X W cl (.UnaryOp .Not a pos) (zNotV z) := by
  obtain ⟨t, p, q⟩ := h.ex
  refine ⟨_, pe_not p, fun F ph M env σ H Q h1 h2 S P => q F ph M env σ H _ h1 h2 S (P.step fun k M1 ph1 H1 w S1 f1 r1 P1 => ?_)⟩
  cases k with
  | bl c =>
    cases r1
    exact ⟨c, rfl, P1.now S1 (.bl _)⟩
  | _ => exact P1.elim
/-- any value as a test -/
def truD : D → Option Bool
  | .non => some false
  | .bl b => some b
  | .int i => some (i != 0)
  | .str s => if s.length ≤ sizeLine then some ((s.length : Int) != 0) else none
  | .tup ds => some (!ds.isEmpty)
  | .lst ds => some (!ds.isEmpty)
  | .dK ds => some (!ds.isEmpty)
  | _ => none
def zTru (z : ZX) : ZB := fun env M => (z env M).bind fun d M1 => match (deref M1 d).bind truD with
  | some b => .ok b M1
  | none => .fail
theorem empty_len {α β : Type} {xs : List α} {ds : List β} (h : xs.length = ds.length) : (!xs.isEmpty) = (!ds.isEmpty) := by
  cases xs <;> cases ds <;> simp_all
theorem zt_tru (h : ZC X W cl a z) (he : ∀ whole, isTrue a X.env whole = (do let v ← whole; standAt a.pos; holding [v] (truthy v)) := by intro _; rfl) : ZT X W cl a (zTru z) := by
  obtain ⟨t, p, q⟩ := h.ex
  refine ⟨_, pt_truth p he, fun F ph M env σ H Q h1 h2 S P => q F ph M env σ H _ h1 h2 S (P.step fun d M1 ph1 H1 w S1 f1 r1 P1 => ?_)⟩
  cases e : deref M1 d with
  | none => rw [e] at P1; exact P1.elim
  | some c =>
    rw [e] at P1
    have L := r1.look S1 e
    cases e2 : truD c with
    | none => simp only [Option.bind_some, e2] at P1; exact P1.elim
    | some b =>
      simp only [Option.bind_some, e2] at P1
      refine ⟨b, ?_, P1.now S1 rfl⟩
      cases c with
      | non => cases L.non_inv; cases e2; rfl
      | bl x => cases L.bl_inv; cases e2; rfl
      | int i => cases L.int_inv; cases e2; rfl
      | str s =>
        cases L.str_inv
        by_cases hl : s.length ≤ sizeLine
        · have e3 : some ((s.length : Int) != 0) = some b := by rw [← e2]; simp [truD, hl]
          cases e3
          exact ⟨hl, rfl⟩
        · simp [truD, hl] at e2
      | tup ds => obtain ⟨p, xs, rfl, hp, r⟩ := L.tup_inv; cases e2; exact .inr (.inl ⟨xs, SqT.of hp, (empty_len r.length).symm⟩)
      | lst ds => obtain ⟨p, xs, rfl, hp, r⟩ := L.lst_inv; cases e2; exact .inl ⟨xs, SqL.of hp, (empty_len r.length).symm⟩
      | dK ds => obtain ⟨p, xs, rfl, hp, r⟩ := L.dK_inv; cases e2; exact .inr (.inr ⟨xs, hp, (empty_len r.length).symm⟩)
      | dT ds => cases e2
      | ins c fs => cases e2
      | ref i => cases e2
      | scr ns => cases e2
/-- a if t else b -/
def zIf (t : ZB) (za zb : ZX) : ZX := fun env M => (t env M).bind fun b M1 => if b = true then za env M1 else zb env M1
theorem ze_if {c : Expr} (hc : ZT X W cl c y) (ha : ZE X W cl a za) (hb : ZE X W cl b zb) : ZE X W cl (.IfExp c a b pos) (zIf y za zb) := by
  obtain ⟨t, p, q⟩ := hc.ex
  obtain ⟨ta, pa, qa⟩ := ha.ex
  obtain ⟨tb, pb, qb⟩ := hb.ex
  refine ⟨_, pe_ifExp p pa pb, fun F ph M env σ H Q h1 h2 S P => q F ph M env σ H _ h1 h2 S (P.step fun k M1 ph1 H1 w S1 f1 r1 P1 => ?_)⟩
  cases (show w = k from r1)
  cases k with
  | true => exact iteT (qa F ph1 M1 env σ H1 Q h1 h2 S1 P1)
  | false => exact iteF (qb F ph1 M1 env σ H1 Q h1 h2 S1 P1)

/-! arguments -/
def zNil : ZL := fun _ M => .ok [] M
def zCons (z : ZX) (l : ZL) : ZL := fun env M => (z env M).bind fun d M1 => (l env M1).bind fun ds M2 => .ok (d :: ds) M2
def nostar : Expr → Bool
  | .Starred .. => false
  | _ => true
theorem star_ok {e : Expr} {es : List Expr} {env : Env} (h : nostar e = true) : starEach (e :: es) env = (false, eval e env) :: starEach es env := by
  cases e <;> first | rfl | cases h
theorem za_nil : ZA X W cl [] zNil := ⟨_, pa_nil, fun F ph M env σ H Q _ _ S P => P.now S .nil⟩
theorem za_cons (h : ZE X W cl e z) (t : ZA X W cl es zs) (n : nostar e = true := by rfl) : ZA X W cl (e :: es) (zCons z zs) := by
  obtain ⟨te, pe, qe⟩ := h.ex
  obtain ⟨ts, ps, qs⟩ := t.ex
  refine ⟨_, pa_cons pe ps (star_ok n), fun F ph M env σ H Q h1 h2 S P => qe F ph M env σ H _ h1 h2 S (P.step fun d M1 ph1 H1 w S1 f1 r1 P1 => ?_)⟩
  refine qs F ph1 M1 env σ H1 _ h1 h2 S1 (P1.step fun ds M2 ph2 H2 ws S2 f2 r2 P2 => ?_)
  exact P2.now S2 (.cons (r1.mo (f2.mo S1)) r2)
theorem zk_nil : ZK X W cl [] zNil := ⟨_, pa_nil, fun F ph M env σ H Q _ _ S P => P.now S .nil⟩
theorem zk_cons (h : ZC X W cl e z) (t : ZK X W cl es zs) (n : nostar e = true := by rfl) : ZK X W cl (e :: es) (zCons z zs) := by
  obtain ⟨te, pe, qe⟩ := h.ex
  obtain ⟨ts, ps, qs⟩ := t.ex
  refine ⟨_, pa_cons pe ps (star_ok n), fun F ph M env σ H Q h1 h2 S P => qe F ph M env σ H _ h1 h2 S (P.step fun d M1 ph1 H1 w S1 f1 r1 P1 => ?_)⟩
  refine qs F ph1 M1 env σ H1 _ h1 h2 S1 (P1.step fun ds M2 ph2 H2 ws S2 f2 r2 P2 => ?_)
  exact P2.now S2 (.cons (r1.fwd S1 f2) r2)

/-! what is new -/
def Fr.plus (F : Fr) (a : Addr) : Fr := { F with N0 := fun b => F.N0 b ∨ b = a }
def PoF (F : Fr) (W : WX) (env : Ev) (σ : St) (ph : List Addr) (H : Hp) (Q : VK) : Res D → Prop
  | .ok d M' => ∀ ph' H' a, Sim (F.plus a) ph' M' env σ H' → Fwd ph H ph' H' → Cel (gh (F.plus a) ph' env σ) H' a d → H a = none → Q (.ref a) H'
  | .exc c fs M' => ∀ ph' H' dx f C, Sim F ph' M' env σ H' → Fwd ph H ph' H' → F.cl c = some C → H' dx = some (.xd f) → RepP (gh F ph' env σ) H' Str f fs → W (.ref C) (some dx) σ H'
  | .fail => False
structure ZF (X : Cx) (W : WX) (cl : String → Option Addr) (e : Expr) (z : ZX) : Prop where
  ex : ∃ t, PE X e t ∧ ∀ F ph M env σ H Q, F.cl = cl → F.K = X.K → Sim F ph M env σ H → PoF F W env σ ph H Q (z env M) → t σ H Q
theorem Sim.unplus {F : Fr} {ph : List Addr} {M : Sto} {env : Ev} {σ : St} {H : Hp} {p : Addr} (S : Sim (F.plus p) ph M env σ H) (hp : F.H0 p = none) : Sim F ph M env σ H ∧ Mo (gh (F.plus p) ph env σ) (gh F ph env σ) H H := by
  have m : Mo (gh (F.plus p) ph env σ) (gh F ph env σ) H H := ⟨fun a o h n => ⟨h, fun z => n (by
    rcases z with z | z
    · rcases z with z | z
      · exact .inl (.inl (.inl z))
      · exact .inl (.inr z)
    · exact .inr z)⟩, fun _ _ h => h, rfl, rfl⟩
  refine ⟨⟨S.len, S.pre, S.keep, fun a z => S.n0 a (.inl z), S.ml, S.nd, fun i d e => ?_, fun i d e => ?_, fun i d e => ?_, S.ap, fun i d e => ?_⟩, m⟩
  · obtain ⟨a, q, c⟩ := S.sto i d e
    exact ⟨a, q, c.mo m fun _ h => h⟩
  · obtain ⟨v, q, r⟩ := S.val i d e
    exact ⟨v, q, r.mo m⟩
  · obtain ⟨a, q, c, h0, n, k⟩ := S.own i d e
    exact ⟨a, q, c.mo m fun _ h => h, h0, n, fun z => k (.inl z)⟩
  · obtain ⟨a, q, n, c, o, ho⟩ := S.brw i d e
    rcases n with n | n
    · exact ⟨a, q, n, c.mo m fun _ h => h, o, ho⟩
    · have n' : a = p := n
      have ho' : F.H0 a = some o := ho
      rw [n', hp] at ho'
      cases ho'
/-- what is new may be frozen -/
theorem ZF.toE (h : ZF X W cl e z) : ZE X W cl e z := by
  obtain ⟨t, p, q⟩ := h.ex
  refine ⟨t, p, fun F ph M env σ H Q h1 h2 S P => q F ph M env σ H Q h1 h2 S ?_⟩
  cases hz : z env M with
  | fail => rw [hz] at P; exact P
  | exc c fs M' => rw [hz] at P; exact P
  | ok d M' =>
    rw [hz] at P
    intro ph' H' a S' f c hn
    obtain ⟨S1, m⟩ := S'.unplus (S.h0 hn)
    refine P ph' H' (.ref a) S1 f (c.rep m fun z => ?_)
    have na : ∀ o, H a ≠ some o := fun o e => by rw [hn] at e; cases e
    rcases z with z | z
    · rcases z with z | ⟨i, d', e1, e2⟩
      · obtain ⟨⟨o, e⟩, _⟩ := S.n0 a z
        exact na o e
      · obtain ⟨b, e3, c3, _⟩ := S.own i d' e1
        rw [e2] at e3
        cases e3
        obtain ⟨o, e⟩ := c3.there
        exact na o e
    · exact (S'.n0 a (.inr rfl)).2 z
/-- a new cell laid -/
theorem Sim.lay {F : Fr} {ph : List Addr} {M : Sto} {env : Ev} {σ : St} {H : Hp} {p : Addr} {o : HO} (S : Sim F ph M env σ H) (h : H p = none) : Sim (F.plus p) ph M env σ (upd H p o) ∧ Mo (gh F ph env σ) (gh (F.plus p) ph env σ) H (upd H p o) := by
  have k : ∀ (a : Addr) u, H a = some u → upd H p o a = some u := fun a u e => by rw [upd_ne (ne_of_none e h)]; exact e
  have m : Mo (gh F ph env σ) (gh (F.plus p) ph env σ) H (upd H p o) := ⟨fun a u e n => ⟨k a u e, fun z => n (by
    rcases z with z | z
    · rcases z with (z | z) | z
      · exact .inl (.inl z)
      · exact absurd z (ne_of_none e h)
      · exact .inl (.inr z)
    · exact .inr z)⟩, fun _ _ e => e, rfl, rfl⟩
  have hp : p ∉ ph := fun z => by
    obtain ⟨u, e⟩ := S.phIn z
    rw [h] at e
    cases e
  refine ⟨⟨S.len, S.pre, fun a u e n => k a u (S.keep a u e n), fun a z => ?_, S.ml, S.nd, fun i d e => ?_, fun i d e => ?_, fun i d e => ?_, S.ap, fun i d e => ?_⟩, m⟩
  · rcases z with z | z
    · obtain ⟨⟨u, q⟩, n⟩ := S.n0 a z
      exact ⟨⟨u, k a u q⟩, n⟩
    · have z' : a = p := z
      subst z'
      exact ⟨⟨o, upd_same⟩, hp⟩
  · obtain ⟨a, q, c⟩ := S.sto i d e
    exact ⟨a, q, c.mo m (k a)⟩
  · obtain ⟨v, q, r⟩ := S.val i d e
    exact ⟨v, q, r.mo m⟩
  · obtain ⟨a, q, c, h0, n, nn⟩ := S.own i d e
    refine ⟨a, q, c.mo m (k a), h0, n, fun z => ?_⟩
    rcases z with z | z
    · exact nn z
    · obtain ⟨u, hu⟩ := c.there
      exact absurd z (ne_of_none hu h)
  · obtain ⟨a, q, n, c, ho⟩ := S.brw i d e
    exact ⟨a, q, .inl n, c.mo m (k a), ho⟩
/-- a new tuple -/
theorem Post.newTup {F : Fr} {env : Ev} {σ : St} {ph : List Addr} {M : Sto} {H : Hp} {Q : VK} {ds : List D} {xs : List V} {p : Addr} (P : PoE F W env σ ph H Q (.ok (.tup ds) M)) (S : Sim F ph M env σ H) (r : RepL (gh F ph env σ) H xs ds) (hp : H p = none) :
    Q (.ref p) (upd H p (.tup xs)) :=
  P ph _ _ (S.alloc hp) (Fwd.alloc hp) (.tup upd_same (S.fresh hp) (r.mo ((Fwd.alloc hp).mo S)))
theorem Post.newLst {F : Fr} {env : Ev} {σ : St} {ph : List Addr} {M : Sto} {H : Hp} {Q : VK} {ds : List D} {xs : List V} {p : Addr} (P : PoE F W env σ ph H Q (.ok (.lst ds) M)) (S : Sim F ph M env σ H) (r : RepL (gh F ph env σ) H xs ds) (hp : H p = none) :
    Q (.ref p) (upd H p (.lst xs)) :=
  P ph _ _ (S.alloc hp) (Fwd.alloc hp) (.lst upd_same (S.fresh hp) (r.mo ((Fwd.alloc hp).mo S)))
def zTup (l : ZL) : ZX := fun env M => (l env M).bind fun ds M1 => if ds.length ≤ sizeLine then .ok (.tup ds) M1 else .fail
def zLst (l : ZL) : ZX := fun env M => (l env M).bind fun ds M1 => if ds.length ≤ sizeLine then .ok (.lst ds) M1 else .fail
theorem ze_tup {k : Nat} (h : ZA X W cl es zs) : ZE X W cl (.Tuple es k pos) (zTup zs) := by
  obtain ⟨t, p, q⟩ := h.ex
  refine ⟨_, pe_tup p, fun F ph M env σ H Q h1 h2 S P => q F ph M env σ H _ h1 h2 S (P.step fun ds M1 ph1 H1 xs S1 f1 r1 P1 => ?_)⟩
  split at P1
  · rename_i hl
    exact ⟨by rw [r1.length]; exact hl, fun p hp => P1.newTup S1 r1 hp⟩
  · exact P1.elim
theorem zf_lst (h : ZA X W cl es zs) : ZF X W cl (.List es pos) (zLst zs) := by
  obtain ⟨t, p, q⟩ := h.ex
  refine ⟨_, pe_lst p, fun F ph M env σ H Q h1 h2 S P => q F ph M env σ H _ h1 h2 S ?_⟩
  unfold zLst at P
  cases hz : zs env M with
  | fail => rw [hz] at P; exact P
  | exc c fs M' => rw [hz] at P; exact P
  | ok ds M1 =>
    rw [hz] at P
    simp only [Res.bind_ok] at P
    intro ph1 H1 xs S1 f1 r1
    split at P
    · rename_i hl
      refine ⟨by rw [r1.length]; exact hl, fun p hp => ?_⟩
      obtain ⟨S2, m⟩ := S1.lay (o := .lst xs) hp
      exact P ph1 _ p S2 (f1.trans (Fwd.alloc hp)) (.lst upd_same (r1.mo m)) (f1.back hp)
    · exact P.elim
end
end Zy
set_option maxHeartbeats 2000000
namespace Zy
open PySem PySem.Spec PyProof.Rows L2

/-! arithmetic by values -/
def gAdd : G2 := fun d e M => match deref M d, deref M e with
  | some (.int i), some (.int j) => .ok (.int (i + j)) M
  | some (.str a), some (.str b) => if a.length + b.length ≤ sizeLine then .ok (.str (a ++ b)) M else .fail
  | some (.tup a), some (.tup b) => if a.length + b.length ≤ sizeLine then .ok (.tup (a ++ b)) M else .fail
  | some (.lst a), some (.lst b) => if a.length + b.length ≤ sizeLine then .ok (.lst (a ++ b)) M else .fail
  | _, _ => .fail
def gSub : G2 := fun d e M => match deref M d, deref M e with
  | some (.int i), some (.int j) => .ok (.int (i - j)) M
  | _, _ => .fail
def smallI (i : Int) : Prop := -(2 ^ 64) < i ∧ i < 2 ^ 64
instance (i : Int) : Decidable (smallI i) := inferInstanceAs (Decidable (_ ∧ _))
def gMul : G2 := fun d e M => match deref M d, deref M e with
  | some (.int i), some (.int j) => if smallI i ∨ smallI j then .ok (.int (i * j)) M else .fail
  | some (.lst a), some (.int k) => if -(2 ^ 63) ≤ k ∧ k < 2 ^ 63 ∧ a.length * k.toNat ≤ sizeLine then .ok (.lst (List.replicate k.toNat a).flatten) M else .fail
  | some (.tup a), some (.int k) => if k = 1 then .ok (.tup a) M else if a ≠ [] ∧ 2 ≤ k ∧ k ≤ 1000 ∧ a.length ≤ 1000 then .ok (.tup (List.replicate k.toNat a).flatten) M else .fail
  | _, _ => .fail
def gFdiv : G2 := fun d e M => match deref M d, deref M e with
  | some (.int i), some (.int j) => if 0 < j ∧ j.natAbs.log2 < 9000 then .ok (.int (i / j)) M else .fail
  | _, _ => .fail
def gMod : G2 := fun d e M => match deref M d, deref M e with
  | some (.int i), some (.int j) => if 0 < j then .ok (.int (i % j)) M else .fail
  | _, _ => .fail
def gPow : G2 := fun d e M => match deref M d, deref M e with
  | some (.int i), some (.int j) => if 0 ≤ j ∧ j ≤ 1000000 ∧ i.natAbs < 2 ^ 64 then .ok (.int (i ^ j.toNat)) M else .fail
  | _, _ => .fail
def gCmpI (p : Int → Int → Bool) : G2 := fun d e M => match deref M d, deref M e with
  | some (.int i), some (.int j) => .ok (.bl (p i j)) M
  | _, _ => .fail
abbrev gLt : G2 := gCmpI fun i j => decide (i < j)
abbrev gLe : G2 := gCmpI fun i j => decide (i ≤ j)
abbrev gGt : G2 := gCmpI fun i j => decide (j < i)
abbrev gGe : G2 := gCmpI fun i j => decide (j ≤ i)

theorem tuple_mul1 (l : Addr) (items : Array Value) (n : Nat) (dd : Option Addr) (sl : Array (Option Value)) (u : Tok) :
    Meets (Builtin.«tuple.__mul__» ⟨[.ref l, .int 1 u], []⟩) (fun _ R s => s.heap.get? l = some { cls := .type "tuple", dict := dd, data := .seq items n, slots := sl } ∧ R (.ok (.ret (Value.ref l))) s) :=
  .of_wp fun prog w A R s h => by
    obtain ⟨hp, g, d, tk, os⟩ := s
    obtain ⟨hl, h⟩ := h
    have f1 := AutoSeq1.idx_int
    wp_walk using wpAny_loadPart' hl
    all_goals (try (refine wpAny_ite_true (by simp) ?_; wp_walk using wpAny_loadPart' hl))
    exact ⟨_, rfl, h⟩
section
variable {X : Cx} {W : WX} {cl : String → Option Addr}
def rMulT (K : PySem.W.Frag) : R2 := fun x y H Q => ∃ a xs, x = .ref a ∧ y = .int 1 ∧ SqT K H a xs ∧ Q x H
theorem op_mulT1 : OpR X (binaryOp .Mult) (rMulT X.K) := by
  intro pins s σ H x y v u Q I rx ry h
  obtain ⟨l, xs, rfl, rfl, hT, q⟩ := h
  obtain rfl : v = .ref l := rx
  obtain ⟨t, rfl⟩ := ry
  obtain ⟨its, r, ⟨⟨cls, dd, data, sl⟩, ho, hc, n, hd⟩, _⟩ := I.tuple hT
  simp only at hc hd
  subst hc hd
  have ty : s.TypeIs (.ref l) "tuple" := ⟨_, ho, rfl⟩
  refine wpAny_binaryOp_repeat_ref (by decide) ty (fun s' => typeIs_int s' 1 t) noFill_tuple_mul F.fills_int_mul F.slot_int_rmul repeat_tuple F.slot_int_index.lookup ?_
  refine call_meets F.slot_int_rmul (typeIs_int s 1 t) F.entry_int_rmul (F.args_int_rmul_2 _ _) (int_rmul_tuple 1 t l its.toArray n dd sl) ⟨ho, rfl, ty, ?_⟩
  exact call_meets F.slot_tuple_mul ty F.entry_tuple_mul (F.args_tuple_mul_2 _ _) (tuple_mul1 l its.toArray n dd sl t) ⟨ho, ⟨.ref l, H, I, rfl, q⟩⟩
theorem RlC.tupRep {F : Fr} {ph : List Addr} {M : Sto} {env : Ev} {σ : St} {H : Hp} {v : V} {d : D} {ds : List D} (S : Sim F ph M env σ H) (r : RlC (gh F ph env σ) H v d) (e : deref M d = some (.tup ds)) : Rep (gh F ph env σ) H v (.tup ds) := by
  rcases r with r | ⟨p, rfl, r, n, _⟩
  · cases r with
    | tup h n r => cases e; exact .tup h n r
    | ref h =>
      obtain ⟨b, e4, q⟩ := S.sto _ _ e
      cases q
    | _ => cases e
  · cases r <;> cases e
theorem oz_int {g : G2} {C : Int → Int → Prop} {f : Int → Int → D} {fv : Int → Int → V} (hf : ∀ G H i j, Rep G H (fv i j) (f i j))
    (hg : ∀ d e M r, g d e M = r → r = .fail ∨ (∃ i j, deref M d = some (.int i) ∧ deref M e = some (.int j) ∧ C i j ∧ r = .ok (f i j) M)) : OpZ X W cl (rI C fv) g := by
  intro F ph M env σ H Q x y d e h1 h2 S rx ry P
  rcases hg d e M _ rfl with h | ⟨i, j, e1, e2, c, h⟩
  · rw [h] at P; exact P.elim
  · rw [h] at P
    have l1 := (rx.look S e1).int_inv
    have l2 := (ry.look S e2).int_inv
    exact ⟨i, j, l1, l2, c, P.now S (hf _ _ i j)⟩
theorem oz_int0 {g : G2} {f : Int → Int → D} {fv : Int → Int → V} (hf : ∀ G H i j, Rep G H (fv i j) (f i j))
    (hg : ∀ d e M r, g d e M = r → r = .fail ∨ (∃ i j, deref M d = some (.int i) ∧ deref M e = some (.int j) ∧ r = .ok (f i j) M)) : OpZ X W cl (rI0 fv) g := by
  intro F ph M env σ H Q x y d e h1 h2 S rx ry P
  rcases hg d e M _ rfl with h | ⟨i, j, e1, e2, h⟩
  · rw [h] at P; exact P.elim
  · rw [h] at P
    have l1 := (rx.look S e1).int_inv
    have l2 := (ry.look S e2).int_inv
    exact ⟨i, j, l1, l2, P.now S (hf _ _ i j)⟩
theorem oz_sub : OpZ X W cl (rI0 fun i j => .int (i - j)) gSub := oz_int0 (f := fun i j => .int (i - j)) (fun _ _ _ _ => .int _) fun d e M r h => by
  unfold gSub at h
  split at h
  · rename_i i j e1 e2; exact .inr ⟨i, j, e1, e2, h.symm⟩
  · exact .inl h.symm
theorem oz_fdiv : OpZ X W cl (rI CDivW fun i j => .int (i / j)) gFdiv := oz_int (f := fun i j => .int (i / j)) (fun _ _ _ _ => .int _) fun d e M r h => by
  unfold gFdiv at h
  split at h
  · rename_i i j e1 e2
    split at h
    · rename_i c; exact .inr ⟨i, j, e1, e2, c, h.symm⟩
    · exact .inl h.symm
  · exact .inl h.symm
theorem oz_mod : OpZ X W cl (rI (fun _ j => 0 < j) fun i j => .int (i % j)) gMod := oz_int (f := fun i j => .int (i % j)) (fun _ _ _ _ => .int _) fun d e M r h => by
  unfold gMod at h
  split at h
  · rename_i i j e1 e2
    split at h
    · rename_i c; exact .inr ⟨i, j, e1, e2, c, h.symm⟩
    · exact .inl h.symm
  · exact .inl h.symm
theorem oz_pow : OpZ X W cl (rI CPow fun i j => .int (i ^ j.toNat)) gPow := oz_int (f := fun i j => .int (i ^ j.toNat)) (fun _ _ _ _ => .int _) fun d e M r h => by
  unfold gPow at h
  split at h
  · rename_i i j e1 e2
    split at h
    · rename_i c; exact .inr ⟨i, j, e1, e2, c, h.symm⟩
    · exact .inl h.symm
  · exact .inl h.symm
theorem oz_cmp {p : Int → Int → Bool} : OpZ X W cl (rI0 fun i j => .bl (p i j)) (gCmpI p) := oz_int0 (f := fun i j => .bl (p i j)) (fun _ _ _ _ => .bl _) fun d e M r h => by
  unfold gCmpI at h
  split at h
  · rename_i i j e1 e2; exact .inr ⟨i, j, e1, e2, h.symm⟩
  · exact .inl h.symm
theorem oz_add : OpZ X W cl (fun x y H Q => rI0 (fun i j => .int (i + j)) x y H Q ∨ ((∃ i j, x = .str i ∧ y = .str j ∧ i.length + j.length ≤ sizeLine ∧ Q (.str (i ++ j)) H) ∨ (rCatA X.K x y H Q ∨ rCat x y H Q))) gAdd := by
  intro F ph M env σ H Q x y d e h1 h2 S rx ry P
  unfold gAdd at P
  split at P
  · rename_i i j e1 e2
    exact .inl ⟨i, j, (rx.look S e1).int_inv, (ry.look S e2).int_inv, P.now S (.int _)⟩
  · rename_i i j e1 e2
    split at P
    · rename_i c; exact .inr (.inl ⟨i, j, (rx.look S e1).str_inv, (ry.look S e2).str_inv, c, P.now S (.str _)⟩)
    · exact P.elim
  · rename_i i j e1 e2
    split at P
    · rename_i c
      obtain ⟨a, xs, rfl, ha, ra⟩ := (rx.look S e1).tup_inv
      obtain ⟨b, ys, rfl, hb, rb⟩ := (ry.look S e2).tup_inv
      refine .inr (.inr (.inl ⟨a, b, xs, ys, rfl, rfl, SqT.of ha, SqT.of hb, by rw [ra.length, rb.length]; exact c, fun z => ?_, fun _ z => ?_, fun _ _ p hp => P.newTup S (ra.app rb) hp⟩))
      · subst z
        cases ra
        exact P.now S (ry.tupRep S e2)
      · subst z
        cases rb
        refine P.now S ?_
        rw [List.append_nil]
        exact rx.tupRep S e1
    · exact P.elim
  · rename_i i j e1 e2
    split at P
    · rename_i c
      obtain ⟨a, xs, rfl, ha, ra⟩ := (rx.look S e1).lst_inv
      obtain ⟨b, ys, rfl, hb, rb⟩ := (ry.look S e2).lst_inv
      exact .inr (.inr (.inr ⟨a, b, xs, ys, rfl, rfl, ha, hb, by rw [ra.length, rb.length]; exact c, fun p hp => P.newLst S (ra.app rb) hp⟩))
    · exact P.elim
  · exact P.elim
theorem repL_rep {G : Gh} {H : Hp} {xs : List V} {ds : List D} (r : RepL G H xs ds) : ∀ n : Nat, RepL G H (List.replicate n xs).flatten (List.replicate n ds).flatten
  | 0 => .nil
  | n + 1 => by
    rw [List.replicate_succ, List.replicate_succ, List.flatten_cons, List.flatten_cons]
    exact r.app (repL_rep r n)
theorem oz_mul : OpZ X W cl (fun x y H Q => rI CMul (fun i j => .int (i * j)) x y H Q ∨ (rRep x y H Q ∨ (rMulT X.K x y H Q ∨ rRepT X.K x y H Q))) gMul := by
  intro F ph M env σ H Q x y d e h1 h2 S rx ry P
  unfold gMul at P
  split at P
  · rename_i i j e1 e2
    split at P
    · rename_i c
      exact .inl ⟨i, j, (rx.look S e1).int_inv, (ry.look S e2).int_inv, c, P.now S (.int _)⟩
    · exact P.elim
  · rename_i i k e1 e2
    obtain ⟨a, xs, rfl, ha, ra⟩ := (rx.look S e1).lst_inv
    split at P
    · rename_i c
      exact .inr (.inl ⟨a, k, xs, rfl, (ry.look S e2).int_inv, ha, c.1, c.2.1, by rw [ra.length]; exact c.2.2, fun p hp => P.newLst S (repL_rep ra _) hp⟩)
    · exact P.elim
  · rename_i i k e1 e2
    obtain ⟨a, xs, rfl, ha, ra⟩ := (rx.look S e1).tup_inv
    split at P
    · rename_i c
      subst c
      exact .inr (.inr (.inl ⟨a, xs, rfl, (ry.look S e2).int_inv, SqT.of ha, P.now S (rx.tupRep S e1)⟩))
    · split at P
      · rename_i c
        refine .inr (.inr (.inr ⟨a, k, xs, rfl, (ry.look S e2).int_inv, SqT.of ha, fun z => c.1 ?_, c.2.1, c.2.2.1, by rw [ra.length]; exact c.2.2.2, fun p hp => P.newTup S (repL_rep ra _) hp⟩))
        subst z
        cases ra
        rfl
      · exact P.elim
  · exact P.elim

/-! the operators' rules -/
variable {a b : Expr} {za zb : ZX} {pos : Pos}
theorem ze_add (ha : ZC X W cl a za) (hb : ZC X W cl b zb) : ZE X W cl (.BinOp a .Add b pos) (zOp gAdd za zb) := ze_op (op_add.or (op_add_str.or (op_catA.or op_cat))) oz_add ha hb
theorem ze_sub (ha : ZC X W cl a za) (hb : ZC X W cl b zb) : ZE X W cl (.BinOp a .Sub b pos) (zOp gSub za zb) := ze_op op_sub oz_sub ha hb
theorem ze_mul (ha : ZC X W cl a za) (hb : ZC X W cl b zb) : ZE X W cl (.BinOp a .Mult b pos) (zOp gMul za zb) := ze_op (op_mul.or (op_rep.or (op_mulT1.or op_repT))) oz_mul ha hb
theorem ze_fdiv (ha : ZC X W cl a za) (hb : ZC X W cl b zb) : ZE X W cl (.BinOp a .FloorDiv b pos) (zOp gFdiv za zb) := ze_op op_fdivW oz_fdiv ha hb
theorem ze_mod (ha : ZC X W cl a za) (hb : ZC X W cl b zb) : ZE X W cl (.BinOp a .Mod b pos) (zOp gMod za zb) := ze_op op_mod oz_mod ha hb
theorem ze_pow (ha : ZC X W cl a za) (hb : ZC X W cl b zb) : ZE X W cl (.BinOp a .Pow b pos) (zOp gPow za zb) := ze_op op_pow oz_pow ha hb
def zNeg (z : ZX) : ZX := fun env M => (z env M).bind fun d M1 => match d with
  | .int i => .ok (.int (-i)) M1
  | _ => .fail
theorem ze_neg (ha : ZE X W cl a za) : ZE X W cl (.UnaryOp .USub a pos) (zNeg za) := by
  obtain ⟨t, p, q⟩ := ha.ex
  refine ⟨_, pe_un un_neg p, fun F ph M env σ H Q h1 h2 S P => q F ph M env σ H _ h1 h2 S (P.step fun d M1 ph1 H1 w S1 f1 r1 P1 => ?_)⟩
  cases d with
  | int i => cases r1; exact ⟨i, rfl, P1.now S1 (.int _)⟩
  | _ => exact P1.elim
theorem ze_lt (ha : ZC X W cl a za) (hb : ZC X W cl b zb) : ZE X W cl (.Compare a [.Lt] [b] pos) (zOp gLt za zb) := ze_cmp op_lt oz_cmp ha hb (nobehind _ (by decide) (by decide))
theorem ze_le (ha : ZC X W cl a za) (hb : ZC X W cl b zb) : ZE X W cl (.Compare a [.LtE] [b] pos) (zOp gLe za zb) := ze_cmp op_le oz_cmp ha hb (nobehind _ (by decide) (by decide))
theorem ze_gt (ha : ZC X W cl a za) (hb : ZC X W cl b zb) : ZE X W cl (.Compare a [.Gt] [b] pos) (zOp gGt za zb) := ze_cmp op_gt oz_cmp ha hb (nobehind _ (by decide) (by decide))
theorem ze_ge (ha : ZC X W cl a za) (hb : ZC X W cl b zb) : ZE X W cl (.Compare a [.GtE] [b] pos) (zOp gGe za zb) := ze_cmp op_ge oz_cmp ha hb (nobehind _ (by decide) (by decide))
theorem zt_lt (ha : ZC X W cl a za) (hb : ZC X W cl b zb) : ZT X W cl (.Compare a [.Lt] [b] pos) (zTst (zOp gLt za zb)) := zt_cmp op_lt oz_cmp ha hb (nobehind _ (by decide) (by decide))
theorem zt_le (ha : ZC X W cl a za) (hb : ZC X W cl b zb) : ZT X W cl (.Compare a [.LtE] [b] pos) (zTst (zOp gLe za zb)) := zt_cmp op_le oz_cmp ha hb (nobehind _ (by decide) (by decide))
theorem zt_gt (ha : ZC X W cl a za) (hb : ZC X W cl b zb) : ZT X W cl (.Compare a [.Gt] [b] pos) (zTst (zOp gGt za zb)) := zt_cmp op_gt oz_cmp ha hb (nobehind _ (by decide) (by decide))
theorem zt_ge (ha : ZC X W cl a za) (hb : ZC X W cl b zb) : ZT X W cl (.Compare a [.GtE] [b] pos) (zTst (zOp gGe za zb)) := zt_cmp op_ge oz_cmp ha hb (nobehind _ (by decide) (by decide))
end

/-! equality of data -/
mutual
def toPy : D → Option PyData
  | .non => some .none
  | .bl b => some (.bool b)
  | .int i => some (.int i)
  | .str s => some (.str s)
  | .tup ds => (toPys ds).map .tuple
  | .lst ds => (toPys ds).map .list
  | .scr ns => some (.list (ns.map .int))
  | .dK _ | .dT _ | .ins _ _ | .ref _ => none
def toPys : List D → Option (List PyData)
  | [] => some []
  | d :: ds => match toPy d, toPys ds with
    | some x, some xs => some (x :: xs)
    | _, _ => none
end
mutual
theorem Rep.dp {G : Gh} {H : Hp} : ∀ {d : D} {v : V} {p : PyData}, Rep G H v d → toPy d = some p → Dp G.K H v p
  | .non, _, p, .non, e => by cases e; exact .non
  | .bl b, _, p, .bl _, e => by cases e; exact .bl b
  | .int i, _, p, .int _, e => by cases e; exact .int i
  | .str i, _, p, .str _, e => by cases e; exact .str i
  | .tup ds, _, p, .tup h n r, e => by
    simp only [toPy, Option.map_eq_some_iff] at e
    obtain ⟨xs, e1, rfl⟩ := e
    exact .tup (SqT.of h) (RepL.dp r e1)
  | .lst ds, _, p, .lst h n r, e => by
    simp only [toPy, Option.map_eq_some_iff] at e
    obtain ⟨xs, e1, rfl⟩ := e
    exact .lst (SqL.of h) (RepL.dp r e1)
  | .scr ns, _, p, .scr h n, e => by cases e; exact .lst (.inl (.inr ⟨_, h⟩)) (dp_ints G H ns)
  | .scr ns, _, p, .scrK h, e => by cases e; exact .lst (h H) (dp_ints G H ns)
  | .dK _, _, p, _, e => by cases e
  | .dT _, _, p, _, e => by cases e
  | .ins _ _, _, p, _, e => by cases e
  | .ref _, _, p, _, e => by cases e
theorem RepL.dp {G : Gh} {H : Hp} : ∀ {ds : List D} {xs : List V} {ps : List PyData}, RepL G H xs ds → toPys ds = some ps → DpAll G.K H xs ps
  | [], _, ps, .nil, e => by cases e; exact .nil
  | d :: ds, _, ps, .cons h t, e => by
    simp only [toPys] at e
    split at e
    · rename_i x xs e1 e2
      cases e
      exact .cons (Rep.dp h e1) (RepL.dp t e2)
    · cases e
theorem dp_ints (G : Gh) (H : Hp) : ∀ ns : List Int, DpAll G.K H (ns.map V.int) (ns.map PyData.int)
  | [] => .nil
  | n :: r => .cons (.int n) (dp_ints G H r)
end
theorem Lk.dp {G : Gh} {H : Hp} {v : V} {d : D} {p : PyData} (l : Lk G H v d) (e : toPy d = some p) : Dp G.K H v p := by
  cases l with
  | of h => exact h.dp e
  | cel h =>
    cases h with
    | lst h r =>
      simp only [toPy, Option.map_eq_some_iff] at e
      obtain ⟨xs, e1, rfl⟩ := e
      exact .lst (SqL.of h) (r.dp e1)
    | _ => cases e
/-- d == e of data -/
def eqD (d e : D) : Option Bool := match toPy d, toPy e with
  | some p, some q => if SeqAt.shaped p = true ∧ SeqAt.shaped q = true then some (PyData.eqv p q) else none
  | _, _ => none
def strP : D → D → Option Bool
  | .str a, .str b => some (decide (a = b))
  | _, _ => none
def eqD2 (d e : D) : Option Bool := match strP d e with
  | some b => some b
  | none => eqD d e
def gEqB (neg : Bool) : G2 := fun d e M => match (deref M d).bind fun c => (deref M e).bind fun c' => eqD2 c c' with
  | some b => .ok (.bl (if neg then !b else b)) M
  | none => .fail
abbrev gEq : G2 := gEqB false
abbrev gNe : G2 := gEqB true
section
variable {X : Cx} {W : WX} {cl : String → Option Addr} {a b : Expr} {za zb : ZX} {pos : Pos}
theorem strP_inv {d e : D} {k : Bool} (h : strP d e = some k) : ∃ a b, d = .str a ∧ e = .str b ∧ k = decide (a = b) := by
  unfold strP at h
  split at h
  · cases h
    exact ⟨_, _, rfl, rfl, rfl⟩
  · cases h
theorem eq_run {F : Fr} {ph : List Addr} {M : Sto} {env : Ev} {σ : St} {H : Hp} {Q : VK} {x y : V} {d e : D} {neg : Bool} (S : Sim F ph M env σ H) (rx : RlC (gh F ph env σ) H x d) (ry : RlC (gh F ph env σ) H y e)
    (P : PoE F W env σ ph H Q (gEqB neg d e M)) : (scal x y = true ∧ Q (.bl (if neg then !decide (x = y) else decide (x = y))) H) ∨ ∃ p q, Dp F.K H x p ∧ Dp F.K H y q ∧ SeqAt.shaped p = true ∧ SeqAt.shaped q = true ∧ Q (.bl (if neg then !PyData.eqv p q else PyData.eqv p q)) H := by
  unfold gEqB at P
  cases e1 : deref M d with
  | none => rw [e1] at P; exact P.elim
  | some c =>
    cases e2 : deref M e with
    | none => rw [e1, e2] at P; exact P.elim
    | some c' =>
      simp only [e1, e2, Option.bind_some] at P
      cases e4 : strP c c' with
      | some k =>
        obtain ⟨a, b, rfl, rfl, rfl⟩ := strP_inv e4
        simp only [eqD2, e4] at P
        have h1 := (rx.look S e1).str_inv
        have h2 := (ry.look S e2).str_inv
        subst h1 h2
        refine .inl ⟨rfl, ?_⟩
        have := P.now S (.bl _)
        simpa using this
      | none =>
        simp only [eqD2, e4] at P
        refine .inr ?_
        cases e3 : eqD c c' with
        | none => rw [e3] at P; exact P.elim
        | some k =>
          rw [e3] at P
          unfold eqD at e3
          split at e3
          · rename_i p q p1 p2
            split at e3
            · rename_i hs
              cases e3
              exact ⟨p, q, (rx.look S e1).dp p1, (ry.look S e2).dp p2, hs.1, hs.2, P.now S (.bl _)⟩
            · cases e3
          · cases e3
theorem oz_eq : OpZ X W cl (fun x y H Q => rEq x y H Q ∨ rEqD X.K x y H Q) gEq := by
  intro F ph M env σ H Q x y d e h1 h2 S rx ry P
  rcases eq_run (neg := false) S rx ry P with ⟨a1, a2⟩ | ⟨p, q, a1, a2, a3, a4, a5⟩
  · exact .inl ⟨a1, a2⟩
  · rw [h2] at a1 a2
    exact .inr ⟨p, q, a1, a2, a3, a4, a5⟩
theorem oz_ne : OpZ X W cl (fun x y H Q => rNe x y H Q ∨ rNeD X.K x y H Q) gNe := by
  intro F ph M env σ H Q x y d e h1 h2 S rx ry P
  rcases eq_run (neg := true) S rx ry P with ⟨a1, a2⟩ | ⟨p, q, a1, a2, a3, a4, a5⟩
  · exact .inl ⟨a1, a2⟩
  · rw [h2] at a1 a2
    exact .inr ⟨p, q, a1, a2, a3, a4, a5⟩
theorem ze_eq (hu : X.A.units + 64 < cLine) (ha : ZC X W cl a za) (hb : ZC X W cl b zb) : ZE X W cl (.Compare a [.Eq] [b] pos) (zOp gEq za zb) := ze_cmp (op_eq.or (op_eqD hu)) oz_eq ha hb (nobehind _ (by decide) (by decide))
theorem ze_ne (hu : X.A.units + 64 < cLine) (ha : ZC X W cl a za) (hb : ZC X W cl b zb) : ZE X W cl (.Compare a [.NotEq] [b] pos) (zOp gNe za zb) := ze_cmp (op_ne.or (op_neD hu)) oz_ne ha hb (nobehind _ (by decide) (by decide))
theorem zt_eq (hu : X.A.units + 64 < cLine) (ha : ZC X W cl a za) (hb : ZC X W cl b zb) : ZT X W cl (.Compare a [.Eq] [b] pos) (zTst (zOp gEq za zb)) := zt_cmp (op_eq.or (op_eqD hu)) oz_eq ha hb (nobehind _ (by decide) (by decide))
theorem zt_ne (hu : X.A.units + 64 < cLine) (ha : ZC X W cl a za) (hb : ZC X W cl b zb) : ZT X W cl (.Compare a [.NotEq] [b] pos) (zTst (zOp gNe za zb)) := zt_cmp (op_ne.or (op_neD hu)) oz_ne ha hb (nobehind _ (by decide) (by decide))

/-! is None, is True -/
def isNon : D → Bool
  | .non => true
  | _ => false
def gIsB (neg : Bool) : G2 := fun d e M => match e with
  | .non => .ok (.bl (if neg then !isNon d else isNon d)) M
  | .bl b => match d with
    | .bl a => .ok (.bl (if neg then !decide (a = b) else decide (a = b))) M
    | _ => .fail
  | _ => .fail
abbrev gIs : G2 := gIsB false
abbrev gIsNot : G2 := gIsB true
theorem non_iff {G : Gh} {H : Hp} {v : V} {d : D} (r : RlC G H v d) : decide (v = .non) = isNon d := by
  rcases r with r | ⟨a, rfl, r, _, _⟩
  · cases r <;> simp [isNon]
  · cases r <;> simp [isNon]
theorem bl_of {G : Gh} {H : Hp} {v : V} {b : Bool} (r : RlC G H v (.bl b)) : v = .bl b := by
  rcases r with r | ⟨a, rfl, r, _, _⟩
  · cases r; rfl
  · cases r
theorem non_of {G : Gh} {H : Hp} {v : V} (r : RlC G H v .non) : v = .non := by
  rcases r with r | ⟨a, rfl, r, _, _⟩
  · cases r; rfl
  · cases r
theorem oz_is : OpZ X W cl (fun x y H Q => (y = .non ∧ Q (.bl (decide (x = .non))) H) ∨ rIsB x y H Q) gIs := by
  intro F ph M env σ H Q x y d e h1 h2 S rx ry P
  cases e with
  | non =>
    refine .inl ⟨non_of ry, ?_⟩
    rw [non_iff rx]
    exact P.now S (.bl _)
  | bl q =>
    cases d with
    | bl p => exact .inr ⟨p, q, bl_of rx, bl_of ry, P.now S (.bl _)⟩
    | _ => exact P.elim
  | _ => exact P.elim
theorem oz_isNot : OpZ X W cl (fun x y H Q => (y = .non ∧ Q (.bl (!decide (x = .non))) H) ∨ rNotB x y H Q) gIsNot := by
  intro F ph M env σ H Q x y d e h1 h2 S rx ry P
  cases e with
  | non =>
    refine .inl ⟨non_of ry, ?_⟩
    rw [non_iff rx]
    exact P.now S (.bl _)
  | bl q =>
    cases d with
    | bl p => exact .inr ⟨p, q, bl_of rx, bl_of ry, P.now S (.bl _)⟩
    | _ => exact P.elim
  | _ => exact P.elim
theorem ze_is (ha : ZC X W cl a za) (hb : ZC X W cl b zb) : ZE X W cl (.Compare a [.Is] [b] pos) (zOp gIs za zb) := ze_cmp (op_isN.or op_isBl) oz_is ha hb (nobehind _ (by decide) (by decide))
theorem ze_isNot (ha : ZC X W cl a za) (hb : ZC X W cl b zb) : ZE X W cl (.Compare a [.IsNot] [b] pos) (zOp gIsNot za zb) := ze_cmp (op_notN.or op_notBl) oz_isNot ha hb (nobehind _ (by decide) (by decide))
theorem zt_is (ha : ZC X W cl a za) (hb : ZC X W cl b zb) : ZT X W cl (.Compare a [.Is] [b] pos) (zTst (zOp gIs za zb)) := zt_cmp (op_isN.or op_isBl) oz_is ha hb (nobehind _ (by decide) (by decide))
theorem zt_isNot (ha : ZC X W cl a za) (hb : ZC X W cl b zb) : ZT X W cl (.Compare a [.IsNot] [b] pos) (zTst (zOp gIsNot za zb)) := zt_cmp (op_notN.or op_notBl) oz_isNot ha hb (nobehind _ (by decide) (by decide))
end
end Zy
set_option maxHeartbeats 2000000
namespace Zy
open PySem PySem.Spec PyProof.Rows L2

/-! subscripts -/
def gIx : G2 := fun d e M => match (deref M d), e with
  | some c, .int i => match itemsD c with
    | some ds => match atI ds i with
      | some x => .ok x M
      | none => .fail
    | none => match c with
      | .str z => if z.length ≤ sizeLine then match atI z.cps.toList i with
        | some c => .ok (.str ⟨#[c]⟩) M
        | none => .fail else .fail
      | _ => .fail
  | _, _ => .fail
theorem atI_len {α β : Type} {xs : List α} {ds : List β} (h : xs.length = ds.length) {i : Int} : ixN xs.length i = ixN ds.length i := by rw [h]
theorem RepL.atI {G : Gh} {H : Hp} {xs : List V} {ds : List D} (r : RepL G H xs ds) {i : Int} {d : D} (e : L2.atI ds i = some d) : ∃ x, L2.atI xs i = some x ∧ Rep G H x d := by
  unfold L2.atI at e ⊢
  rw [r.length]
  cases q : ixN ds.length i with
  | none => rw [q] at e; cases e
  | some j =>
    rw [q] at e
    exact r.at e
theorem int_of {G : Gh} {H : Hp} {v : V} {i : Int} (r : RlC G H v (.int i)) : v = .int i := by
  rcases r with r | ⟨a, rfl, r, _, _⟩
  · cases r; rfl
  · cases r
theorem str_of {G : Gh} {H : Hp} {v : V} {s : Str} (r : RlC G H v (.str s)) : v = .str s := by
  rcases r with r | ⟨a, rfl, r, _, _⟩
  · cases r; rfl
  · cases r
section
variable {X : Cx} {W : WX} {cl : String → Option Addr} {a b : Expr} {za zb : ZX} {pos : Pos}
theorem oz_ix : OpZ X W cl (rIx X.K) gIx := by
  intro F ph M env σ H Q x y d e h1 h2 S rx ry P
  unfold gIx at P
  cases e1 : deref M d with
  | none => rw [e1] at P; exact P.elim
  | some c =>
    rw [e1] at P
    cases e with
    | int i =>
      simp only at P
      have L := rx.look S e1
      cases e2 : itemsD c with
      | some ds =>
        simp only [e2] at P
        cases e3 : atI ds i with
        | none => rw [e3] at P; exact P.elim
        | some w =>
          rw [e3] at P
          obtain ⟨p, xs, rfl, hq, r⟩ := L.seq e2
          obtain ⟨u, e4, r4⟩ := r.atI e3
          have hK : (gh F ph env σ).K = X.K := h2
          rw [hK] at hq
          rcases hq with hq | hq
          · exact .inl ⟨p, xs, i, u, rfl, int_of ry, hq, e4, P.now S r4⟩
          · exact .inr (.inl ⟨p, xs, i, u, rfl, int_of ry, hq, e4, P.now S r4⟩)
      | none =>
        simp only [e2] at P
        cases c with
        | str z =>
          simp only at P
          split at P
          · rename_i hl
            cases e3 : atI z.cps.toList i with
            | none => rw [e3] at P; exact P.elim
            | some w =>
              rw [e3] at P
              exact .inr (.inr ⟨z, i, w, L.str_inv, int_of ry, hl, e3, P.now S (.str _)⟩)
          · exact P.elim
        | _ => exact P.elim
    | _ => exact P.elim
theorem ze_ix (ha : ZC X W cl a za) (hb : ZC X W cl b zb) (hs : PlainIx b := by exact fun _ _ => rfl) : ZE X W cl (.Subscript a b pos) (zOp gIx za zb) := by
  obtain ⟨ta, pa, qa⟩ := ha.ex
  obtain ⟨tb, pb, qb⟩ := hb.ex
  exact ⟨_, pe_ix ix_seq pa pb hs, fun F ph M env σ H Q h1 h2 S P => op_run oz_ix qa qb h1 h2 S P⟩

/-! slices -/
abbrev ZO := Ev → Sto → Res (Option Int)
def RlO : Gh → Hp → Option Int → Option Int → Prop := fun _ _ a b => a = b
structure ZP (X : Cx) (W : WX) (cl : String → Option Addr) (e : Option Expr) (z : ZO) : Prop where
  ex : ∃ t, PO X e t ∧ ∀ F ph M env σ H Q, F.cl = cl → F.K = X.K → Sim F ph M env σ H → Post RlO F W env σ ph H Q (z env M) → t σ H Q
def zNoP : ZO := fun _ M => .ok none M
def zPart (z : ZX) : ZO := fun env M => (z env M).bind fun d M1 => match d with
  | .int i => .ok (some i) M1
  | _ => .fail
theorem zp_none : ZP X W cl none zNoP := ⟨_, po_none, fun F ph M env σ H Q _ _ S P => P.now S rfl⟩
theorem zp_some (ha : ZE X W cl a za) : ZP X W cl (some a) (zPart za) := by
  obtain ⟨t, p, q⟩ := ha.ex
  refine ⟨_, po_some p, fun F ph M env σ H Q h1 h2 S P => q F ph M env σ H _ h1 h2 S (P.step fun d M1 ph1 H1 w S1 f1 r1 P1 => ?_)⟩
  cases d with
  | int i => cases r1; exact ⟨i, rfl, P1.now S1 rfl⟩
  | _ => exact P1.elim
def cutD (ds : List D) (lo hi : Option Int) : List D := (ds.drop (HT.sIx ds.length 0 lo)).take (HT.sIx ds.length ds.length hi - HT.sIx ds.length 0 lo)
def slD (c : D) (lo hi : Option Int) : Option D := match c with
  | .lst ds => some (.lst (cutD ds lo hi))
  | .tup ds => some (.tup (cutD ds lo hi))
  | .str z => if z.length ≤ sizeLine then some (.str (cutS z lo hi)) else none
  | _ => none
def zSl (z : ZX) (zl zh : ZO) : ZX := fun env M => (z env M).bind fun d M1 => (zl env M1).bind fun lo M2 => (zh env M2).bind fun hi M3 => match (deref M3 d).bind fun c => slD c lo hi with
  | some r => .ok r M3
  | none => .fail
theorem RepL.cut {G : Gh} {H : Hp} {xs : List V} {ds : List D} (r : RepL G H xs ds) (lo hi : Option Int) : RepL G H (cutV xs lo hi) (cutD ds lo hi) := by
  unfold cutV cutD
  rw [r.length]
  exact (r.drop _).take _
theorem cut_all {ds : List D} {lo hi : Option Int} (h : HT.sIx ds.length 0 lo = 0 ∧ HT.sIx ds.length ds.length hi = ds.length) : cutD ds lo hi = ds := by
  unfold cutD
  rw [h.1, h.2]
  simp
theorem ze_sl {e : Expr} {lo hi : Option Expr} {p2 : Pos} {z : ZX} {zl zh : ZO} (he : ZC X W cl e z) (hl : ZP X W cl lo zl) (hh : ZP X W cl hi zh) : ZE X W cl (.Subscript e (.Slice lo hi none p2) pos) (zSl z zl zh) := by
  obtain ⟨t, p, q⟩ := he.ex
  obtain ⟨tl, pl, ql⟩ := hl.ex
  obtain ⟨th, pph, qh⟩ := hh.ex
  refine ⟨_, pe_slice (sl_list.or (sl_tupA.or sl_str)) p pl pph, fun F ph M env σ H Q h1 h2 S P => q F ph M env σ H _ h1 h2 S (P.step fun d M1 ph1 H1 w S1 f1 r1 P1 => ?_)⟩
  refine ql F ph1 M1 env σ H1 _ h1 h2 S1 (P1.step fun lo M2 ph2 H2 lo' S2 f2 r2 P2 => ?_)
  cases (show lo' = lo from r2)
  refine qh F ph2 M2 env σ H2 _ h1 h2 S2 (P2.step fun hi M3 ph3 H3 hi' S3 f3 r3 P3 => ?_)
  cases (show hi' = hi from r3)
  have rr := (r1.fwd S1 f2).fwd S2 f3
  cases e1 : deref M3 d with
  | none => rw [e1] at P3; exact P3.elim
  | some c =>
    rw [e1] at P3
    have L := rr.look S3 e1
    simp only [Option.bind_some] at P3
    cases c with
    | lst ds =>
      obtain ⟨a, xs, rfl, hq, r⟩ := L.lst_inv
      exact .inl ⟨a, xs, rfl, SqL.of hq, fun p hp => P3.newLst S3 (r.cut _ _) hp⟩
    | tup ds =>
      obtain ⟨a, xs, rfl, hq, r⟩ := L.tup_inv
      refine .inr (.inl ⟨a, xs, rfl, SqT.of hq, fun hw => ?_, fun _ p hp => P3.newTup S3 (r.cut _ _) hp⟩)
      rw [r.length] at hw
      refine P3.now S3 ?_
      rw [cut_all hw]
      exact rr.tupRep S3 e1
    | str z =>
      cases L.str_inv
      by_cases hz : z.length ≤ sizeLine
      · simp only [slD, hz, if_true] at P3
        exact .inr (.inr ⟨z, rfl, hz, P3.now S3 (.str _)⟩)
      · simp only [slD, hz, if_false] at P3
        exact P3.elim
    | _ => exact P3.elim
/-- xs[::-1] -/
def zRv (z : ZX) : ZX := fun env M => (z env M).bind fun d M1 => match deref M1 d with
  | some (.lst ds) => .ok (.lst ds.reverse) M1
  | _ => .fail
theorem RepL.rev {G : Gh} {H : Hp} : ∀ {xs : List V} {ds : List D}, RepL G H xs ds → RepL G H xs.reverse ds.reverse
  | _, _, .nil => .nil
  | _, _, .cons h t => by
    rw [List.reverse_cons, List.reverse_cons]
    exact (RepL.rev t).app (.cons h .nil)
theorem ze_rv {e : Expr} {k : Nat} {p1 p2 p3 : Pos} {z : ZX} (he : ZC X W cl e z) : ZE X W cl (.Subscript e (.Slice none none (some (.UnaryOp .USub (.Constant (.int 1) k p1) p2)) p3) pos) (zRv z) := by
  obtain ⟨t, p, q⟩ := he.ex
  refine ⟨_, pe_revL p, fun F ph M env σ H Q h1 h2 S P => q F ph M env σ H _ h1 h2 S (P.step fun d M1 ph1 H1 w S1 f1 r1 P1 => ?_)⟩
  cases e1 : deref M1 d with
  | none => rw [e1] at P1; exact P1.elim
  | some c =>
    rw [e1] at P1
    cases c with
    | lst ds =>
      obtain ⟨a, xs, rfl, hq, r⟩ := (r1.look S1 e1).lst_inv
      exact ⟨a, xs, rfl, SqL.of hq, fun p hp => P1.newLst S1 r.rev hp⟩
    | _ => exact P1.elim

/-! built-ins, by the list of their arguments -/
abbrev GB := List D → Sto → Res D
def zBf (g : GB) (l : ZL) : ZX := fun env M => (l env M).bind fun ds M1 => g ds M1
def BfZ (X : Cx) (W : WX) (cl : String → Option Addr) (r : List V → Hp → VK → Prop) (g : GB) : Prop := ∀ (F : Fr) (ph : List Addr) (M : Sto) (env : Ev) (σ : St) (H : Hp) (Q : VK) (xs : List V) (ds : List D), F.cl = cl → F.K = X.K → Sim F ph M env σ H →
  RcL (gh F ph env σ) H xs ds → PoE F W env σ ph H Q (g ds M) → r xs H Q
variable {x : Str} {p : Pos} {e : Expr} {es : List Expr} {zs : ZL} {id : String} {r : List V → Hp → VK → Prop} {g : GB}
theorem ze_bf (hc : CallR X (.builtin id) r) (hz : BfZ X W cl r g) (hg : Gl X x) (hm : X.mg x = none) (hv : bootBuiltins x = some (.builtin id)) (ha : ZK X W cl (e :: es) zs) (hn : x ≠ "__name__" := by decide) (hdb : (x == ("__debug__" : Str)) = false := by decide)
    (he : nostar e = true := by rfl) (hpl : (backTo pos (starEach es X.env)).any (·.1) = false := by rfl) : ZE X W cl (.Call (.Name x p) (e :: es) [] pos) (zBf g zs) := by
  obtain ⟨t, pa, q⟩ := ha.ex
  exact ⟨_, pe_callB hc hg hm hv pa hn hdb (star_ok he) hpl, fun F ph M env σ H Q h1 h2 S P => q F ph M env σ H _ h1 h2 S (P.step fun ds M1 ph1 H1 xs S1 f1 r1 P1 => hz F ph1 M1 env σ H1 Q xs ds h1 h2 S1 r1 P1)⟩
theorem ze_bt (hc : CallR X (.type id) r) (hz : BfZ X W cl r g) (hg : Gl X x) (hm : X.mg x = none) (hv : bootBuiltins x = some (.type id)) (ha : ZK X W cl (e :: es) zs) (hn : x ≠ "__name__" := by decide) (hdb : (x == ("__debug__" : Str)) = false := by decide)
    (he : nostar e = true := by rfl) (hpl : (backTo pos (starEach es X.env)).any (·.1) = false := by rfl) : ZE X W cl (.Call (.Name x p) (e :: es) [] pos) (zBf g zs) := by
  obtain ⟨t, pa, q⟩ := ha.ex
  exact ⟨_, pe_callTy hc hg hm hv pa hn hdb (star_ok he) hpl, fun F ph M env σ H Q h1 h2 S P => q F ph M env σ H _ h1 h2 S (P.step fun ds M1 ph1 H1 xs S1 f1 r1 P1 => hz F ph1 M1 env σ H1 Q xs ds h1 h2 S1 r1 P1)⟩
theorem CallR.or {f : Value} {r r' : List V → Hp → VK → Prop} (h : CallR X f r) (h' : CallR X f r') : CallR X f (fun xs H Q => r xs H Q ∨ r' xs H Q) := by
  intro pins s σ H xs us Q I rs q
  rcases q with q | q
  · exact h pins s σ H xs us Q I rs q
  · exact h' pins s σ H xs us Q I rs q
def gLen : GB := fun ds M => match ds with
  | [d] => match deref M d with
    | some c => match itemsD c with
      | some ds => .ok (.int ds.length) M
      | none => match c with
        | .str z => if z.length ≤ sizeLine then .ok (.int z.length) M else .fail
        | _ => .fail
    | none => .fail
  | _ => .fail
theorem RcL.one {G : Gh} {H : Hp} {xs : List V} {d : D} (h : RcL G H xs [d]) : ∃ x, xs = [x] ∧ RlC G H x d := by
  cases h with
  | cons h t => cases t; exact ⟨_, rfl, h⟩
theorem RcL.two {G : Gh} {H : Hp} {xs : List V} {d e : D} (h : RcL G H xs [d, e]) : ∃ x y, xs = [x, y] ∧ RlC G H x d ∧ RlC G H y e := by
  cases h with
  | cons h t => cases t with | cons h' t => cases t; exact ⟨_, _, rfl, h, h'⟩
theorem bz_len : BfZ X W cl (fun xs H Q => ∃ x n, xs = [x] ∧ LenV X.K x H n ∧ Q (.int n) H) gLen := by
  intro F ph M env σ H Q xs ds h1 h2 S r P
  unfold gLen at P
  split at P
  · rename_i d
    obtain ⟨x, rfl, rx⟩ := r.one
    cases e1 : deref M d with
    | none => rw [e1] at P; exact P.elim
    | some c =>
      rw [e1] at P
      have L := rx.look S e1
      simp only at P
      cases e2 : itemsD c with
      | some ds =>
        rw [e2] at P
        obtain ⟨p, xs, rfl, hq, r⟩ := L.seq e2
        have hK : (gh F ph env σ).K = X.K := h2
        rw [hK] at hq
        refine ⟨_, ds.length, rfl, ?_, P.now S (.int _)⟩
        rcases hq with hq | hq
        · exact .inl ⟨xs, hq, r.length.symm⟩
        · exact .inr ⟨xs, hq, r.length.symm⟩
      | none =>
        rw [e2] at P
        cases c with
        | str z =>
          simp only at P
          split at P
          · rename_i hl
            exact ⟨_, z.length, rfl, by rw [L.str_inv]; exact ⟨hl, rfl⟩, P.now S (.int _)⟩
          · exact P.elim
        | _ => exact P.elim
  · exact P.elim
def gInt : GB := fun ds M => match ds with
  | [.int i] => .ok (.int i) M
  | [.bl b] => .ok (.int (if b then 1 else 0)) M
  | _ => .fail
theorem bz_int : BfZ X W cl (fun xs H Q => (∃ i, xs = [.int i] ∧ Q (.int i) H) ∨ ∃ k, xs = [.bl k] ∧ Q (.int (if k then 1 else 0)) H) gInt := by
  intro F ph M env σ H Q xs ds h1 h2 S r P
  unfold gInt at P
  split at P
  · rename_i i
    obtain ⟨x, rfl, rx⟩ := r.one
    exact .inl ⟨i, by rw [int_of rx], P.now S (.int _)⟩
  · rename_i i
    obtain ⟨x, rfl, rx⟩ := r.one
    exact .inr ⟨i, by rw [bl_of rx], P.now S (.int _)⟩
  · exact P.elim
def gAbs : GB := fun ds M => match ds with
  | [.int i] => .ok (.int (if i < 0 then -i else i)) M
  | _ => .fail
theorem bz_abs : BfZ X W cl (fun xs H Q => ∃ i, xs = [.int i] ∧ Q (.int (if i < 0 then -i else i)) H) gAbs := by
  intro F ph M env σ H Q xs ds h1 h2 S r P
  unfold gAbs at P
  split at P
  · rename_i i
    obtain ⟨x, rfl, rx⟩ := r.one
    exact ⟨i, by rw [int_of rx], P.now S (.int _)⟩
  · exact P.elim
def gMax2 : GB := fun ds M => match ds with
  | [.int i, .int j] => .ok (.int (if j > i then j else i)) M
  | _ => .fail
def gMin2 : GB := fun ds M => match ds with
  | [.int i, .int j] => .ok (.int (if j < i then j else i)) M
  | _ => .fail
theorem bz_max2 : BfZ X W cl (fun xs H Q => ∃ i j, xs = [.int i, .int j] ∧ Q (.int (if j > i then j else i)) H) gMax2 := by
  intro F ph M env σ H Q xs ds h1 h2 S r P
  unfold gMax2 at P
  split at P
  · rename_i i j
    obtain ⟨x, y, rfl, rx, ry⟩ := r.two
    exact ⟨i, j, by rw [int_of rx, int_of ry], P.now S (.int _)⟩
  · exact P.elim
theorem bz_min2 : BfZ X W cl (fun xs H Q => ∃ i j, xs = [.int i, .int j] ∧ Q (.int (if j < i then j else i)) H) gMin2 := by
  intro F ph M env σ H Q xs ds h1 h2 S r P
  unfold gMin2 at P
  split at P
  · rename_i i j
    obtain ⟨x, y, rfl, rx, ry⟩ := r.two
    exact ⟨i, j, by rw [int_of rx, int_of ry], P.now S (.int _)⟩
  · exact P.elim
/-- all ints; all bools -/
def intsD : List D → Option (List Int)
  | [] => some []
  | .int i :: r => (intsD r).map (i :: ·)
  | _ => none
def blsD : List D → Option (List Bool)
  | [] => some []
  | .bl i :: r => (blsD r).map (i :: ·)
  | _ => none
theorem RepL.ints {G : Gh} {H : Hp} : ∀ {ds : List D} {xs : List V} {ns : List Int}, RepL G H xs ds → intsD ds = some ns → xs = ns.map V.int
  | [], _, ns, .nil, e => by cases e; rfl
  | .int i :: r, _, ns, .cons h t, e => by
    simp only [intsD, Option.map_eq_some_iff] at e
    obtain ⟨ms, e1, rfl⟩ := e
    cases h
    rw [RepL.ints t e1]
    rfl
  | .non :: _, _, _, _, e | .bl _ :: _, _, _, _, e | .str _ :: _, _, _, _, e | .tup _ :: _, _, _, _, e | .lst _ :: _, _, _, _, e | .dK _ :: _, _, _, _, e | .dT _ :: _, _, _, _, e | .ins _ _ :: _, _, _, _, e | .ref _ :: _, _, _, _, e | .scr _ :: _, _, _, _, e => by cases e
theorem RepL.bls {G : Gh} {H : Hp} : ∀ {ds : List D} {xs : List V} {ns : List Bool}, RepL G H xs ds → blsD ds = some ns → xs = ns.map V.bl
  | [], _, ns, .nil, e => by cases e; rfl
  | .bl i :: r, _, ns, .cons h t, e => by
    simp only [blsD, Option.map_eq_some_iff] at e
    obtain ⟨ms, e1, rfl⟩ := e
    cases h
    rw [RepL.bls t e1]
    rfl
  | .non :: _, _, _, _, e | .int _ :: _, _, _, _, e | .str _ :: _, _, _, _, e | .tup _ :: _, _, _, _, e | .lst _ :: _, _, _, _, e | .dK _ :: _, _, _, _, e | .dT _ :: _, _, _, _, e | .ins _ _ :: _, _, _, _, e | .ref _ :: _, _, _, _, e | .scr _ :: _, _, _, _, e => by cases e
end
end Zy
set_option maxHeartbeats 2000000
namespace Zy
open PySem PySem.Spec PyProof.Rows L2

/-! sum, max, min, all, any -/
theorem preSum_get (ns : List Int) : ∀ n, n ≤ ns.length → preSum (fun i => ns.getD i 0) n = (ns.take n).sum
  | 0, _ => by simp [preSum]
  | n + 1, h => by
    have hn : n < ns.length := h
    rw [preSum, preSum_get ns n (Nat.le_of_lt hn), List.take_add_one, List.getElem?_eq_getElem hn, List.sum_append]
    simp [List.getD, List.getElem?_eq_getElem hn]
theorem sum_tupI {prog : Program} {w : World} {A : Around} {E : Value → Shared → Prop} {s : Shared} {t : Addr} {its : List Value} {ns : List Int} {Q : Value → Shared → Prop} (hh : A.handled = none) (ht : IsTup s.heap t its.toArray) (hi : Vals (ns.map V.int) its)
    (h : ∀ h' tk t', (∀ b o, s.heap.get? b = some o → h'.get? b = some o) → Q (.int ns.sum t') { s with heap := h', toks := tk }) : wpAny (model prog w) A (call (.builtin "sum") [.ref t]) Q E s := by
  have hl : its.length = ns.length := by rw [← hi.length, List.length_map]
  obtain ⟨o, ho, hc, n, hd⟩ := ht
  have ht : s.heap.IsTuple t its.toArray := ⟨o, ho, hc, n, hd⟩
  have hlt : t < s.heap.objs.size := Heap.lt_size ho
  refine call_sum_walkG (wpAny_pyIter_tuple ht ?_)
  refine ⟨s.heap.objs.size, _, _, _, _, _, fun i => ns.getD i 0, rfl, Walks.tuple (A := A.in1) hh s.heap.objs.size t (Nat.ne_of_lt hlt) its.toArray, ⟨⟨_, Heap.get?_push_size _ rfl, rfl, rfl⟩, ⟨o, Heap.get?_push_of_some _ ho, hc, n, hd⟩⟩, ?_, fun i v e => ?_, fun h' tk t' hk => ?_⟩
  · intro b hb
    show b < (s.heap.push _).objs.size
    rw [Heap.size_push]
    rcases List.mem_cons.mp hb with e | hb
    · subst e; exact Nat.lt_succ_self _
    · have e : b = t := by simpa using hb
      subst e; exact Nat.lt_succ_of_lt hlt
  · have e' : its[i]? = some v := by simpa using e
    have hi' : i < its.length := (List.getElem?_eq_some_iff.mp e').1
    obtain ⟨u, e2, r⟩ := hi.get (i := i) (x := .int (ns.getD i 0)) (by
      rw [List.getElem?_map, List.getElem?_eq_getElem (by omega)]
      simp [List.getD, List.getElem?_eq_getElem (show i < ns.length by omega)])
    rw [e'] at e2
    cases e2
    exact r
  · have e := preSum_get ns its.toArray.size (by rw [List.size_toArray, hl]; exact Nat.le_refl _)
    have e2 : ns.take its.toArray.size = ns := List.take_of_length_le (by rw [List.size_toArray, hl]; exact Nat.le_refl _)
    rw [e, e2]
    refine h h' tk t' fun b u hb => hk b u (fun hm => ?_) (Heap.get?_push_of_some _ hb)
    have e : b = s.heap.objs.size := by simpa using hm
    subst e
    exact absurd (Heap.lt_size hb) (Nat.lt_irrefl _)
def rSumT (K : PySem.W.Frag) : List V → Hp → VK → Prop := fun vs H Q => ∃ (a : Addr) (ns : List Int), vs = [V.ref a] ∧ SqT K H a (ns.map V.int) ∧ Q (.int ns.sum) H
section
variable {X : Cx} {W : WX} {cl : String → Option Addr} {a b e : Expr} {za zb : ZX} {pos p : Pos} {es : List Expr} {zs : ZL}
theorem cr_sumT (hc : X.calm = true) : CallR X (.builtin "sum") (rSumT X.K) := by
  intro pins s σ H vs us Q I r h
  obtain ⟨a, ns, rfl, hs, q⟩ := h
  obtain ⟨its, rv, ht, _⟩ := I.tuple hs
  rw [Vals.ref1 r]
  exact sum_tupI (I.ok.hd hc) ht rv fun h' tk t' hk => ⟨.int _, H, I.kept hk, ⟨_, rfl⟩, q⟩
def gSum : GB := fun ds M => match ds with
  | [d] => match ((deref M d).bind itemsD).bind intsD with
    | some ns => .ok (.int ns.sum) M
    | none => .fail
  | _ => .fail
theorem seq_ints {F : Fr} {ph : List Addr} {M : Sto} {env : Ev} {σ : St} {H : Hp} {v : V} {d : D} {ns : List Int} (S : Sim F ph M env σ H) (rx : RlC (gh F ph env σ) H v d) (e : ((deref M d).bind itemsD).bind intsD = some ns) :
    ∃ p, v = .ref p ∧ (SqL F.K H p (ns.map V.int) ∨ SqT F.K H p (ns.map V.int)) := by
  cases e1 : deref M d with
  | none => rw [e1] at e; cases e
  | some c =>
    cases e2 : itemsD c with
    | none => simp only [e1, e2, Option.bind_some, Option.bind_none] at e; cases e
    | some ds =>
      simp only [e1, e2, Option.bind_some] at e
      obtain ⟨p, xs, rfl, hq, r⟩ := (rx.look S e1).seq e2
      rw [r.ints e] at hq
      exact ⟨p, rfl, hq⟩
theorem bz_sum : BfZ X W cl (fun xs H Q => rSum X.K xs H Q ∨ rSumT X.K xs H Q) gSum := by
  intro F ph M env σ H Q xs ds h1 h2 S r P
  unfold gSum at P
  split at P
  · rename_i d
    obtain ⟨x, rfl, rx⟩ := r.one
    cases e : ((deref M d).bind itemsD).bind intsD with
    | none => rw [e] at P; exact P.elim
    | some ns =>
      rw [e] at P
      obtain ⟨p, rfl, hq⟩ := seq_ints S rx e
      rw [h2] at hq
      rcases hq with hq | hq
      · exact .inl ⟨p, ns, rfl, hq, P.now S (.int _)⟩
      · exact .inr ⟨p, ns, rfl, hq, P.now S (.int _)⟩
  · exact P.elim
/-- the ints of a list (no tuple) -/
def lintsD : D → Option (List Int)
  | .lst ds => intsD ds
  | _ => none
def lblsD : D → Option (List Bool)
  | .lst ds => blsD ds
  | _ => none
def gMx (f : List Int → Option Int) : GB := fun ds M => match ds with
  | [d] => match ((deref M d).bind lintsD).bind f with
    | some n => .ok (.int n) M
    | none => .fail
  | _ => .fail
abbrev gMax : GB := gMx List.max?
abbrev gMin : GB := gMx List.min?
theorem lints {F : Fr} {ph : List Addr} {M : Sto} {env : Ev} {σ : St} {H : Hp} {v : V} {d : D} {ns : List Int} (S : Sim F ph M env σ H) (rx : RlC (gh F ph env σ) H v d) (e : (deref M d).bind lintsD = some ns) :
    ∃ p, v = .ref p ∧ SqL F.K H p (ns.map V.int) := by
  cases e1 : deref M d with
  | none => rw [e1] at e; cases e
  | some c =>
    simp only [e1, Option.bind_some] at e
    cases c with
    | lst ds =>
      obtain ⟨p, xs, rfl, hq, r⟩ := (rx.look S e1).lst_inv
      rw [r.ints e] at hq
      exact ⟨p, rfl, SqL.of hq⟩
    | _ => cases e
theorem lbls {F : Fr} {ph : List Addr} {M : Sto} {env : Ev} {σ : St} {H : Hp} {v : V} {d : D} {ns : List Bool} (S : Sim F ph M env σ H) (rx : RlC (gh F ph env σ) H v d) (e : (deref M d).bind lblsD = some ns) :
    ∃ p, v = .ref p ∧ SqL F.K H p (ns.map V.bl) := by
  cases e1 : deref M d with
  | none => rw [e1] at e; cases e
  | some c =>
    simp only [e1, Option.bind_some] at e
    cases c with
    | lst ds =>
      obtain ⟨p, xs, rfl, hq, r⟩ := (rx.look S e1).lst_inv
      rw [r.bls e] at hq
      exact ⟨p, rfl, SqL.of hq⟩
    | _ => cases e
theorem bz_max : BfZ X W cl (rMax X.K) gMax := by
  intro F ph M env σ H Q xs ds h1 h2 S r P
  unfold gMax gMx at P
  split at P
  · rename_i d
    obtain ⟨x, rfl, rx⟩ := r.one
    cases e : (deref M d).bind lintsD with
    | none => rw [e] at P; exact P.elim
    | some ns =>
      obtain ⟨p, rfl, hq⟩ := lints S rx e
      rw [h2] at hq
      cases e2 : ns.max? with
      | none => simp only [e, Option.bind_some, e2] at P; exact P.elim
      | some n =>
        simp only [e, Option.bind_some, e2] at P
        have hm := List.max?_eq_some_iff.mp e2
        refine ⟨p, ns, rfl, hq, List.length_pos_of_mem hm.1, fun m m1 m2 => ?_⟩
        have : m = n := Int.le_antisymm (hm.2 m m1) (m2 n hm.1)
        subst this
        exact P.now S (.int _)
  · exact P.elim
theorem bz_min : BfZ X W cl (rMin X.K) gMin := by
  intro F ph M env σ H Q xs ds h1 h2 S r P
  unfold gMin gMx at P
  split at P
  · rename_i d
    obtain ⟨x, rfl, rx⟩ := r.one
    cases e : (deref M d).bind lintsD with
    | none => rw [e] at P; exact P.elim
    | some ns =>
      obtain ⟨p, rfl, hq⟩ := lints S rx e
      rw [h2] at hq
      cases e2 : ns.min? with
      | none => simp only [e, Option.bind_some, e2] at P; exact P.elim
      | some n =>
        simp only [e, Option.bind_some, e2] at P
        have hm := List.min?_eq_some_iff.mp e2
        refine ⟨p, ns, rfl, hq, List.length_pos_of_mem hm.1, fun m m1 m2 => ?_⟩
        have : m = n := Int.le_antisymm (m2 n hm.1) (hm.2 m m1)
        subst this
        exact P.now S (.int _)
  · exact P.elim
def gQuant (f : List Bool → Bool) : GB := fun ds M => match ds with
  | [d] => match (deref M d).bind lblsD with
    | some bs => .ok (.bl (f bs)) M
    | none => .fail
  | _ => .fail
abbrev gAll : GB := gQuant fun bs => bs.all id
abbrev gAny : GB := gQuant fun bs => bs.any id
theorem bz_all : BfZ X W cl (rAll X.K) gAll := by
  intro F ph M env σ H Q xs ds h1 h2 S r P
  unfold gAll gQuant at P
  split at P
  · rename_i d
    obtain ⟨x, rfl, rx⟩ := r.one
    cases e : (deref M d).bind lblsD with
    | none => rw [e] at P; exact P.elim
    | some ns =>
      rw [e] at P
      obtain ⟨p, rfl, hq⟩ := lbls S rx e
      rw [h2] at hq
      exact ⟨p, ns, rfl, hq, P.now S (.bl _)⟩
  · exact P.elim
theorem bz_any : BfZ X W cl (rAny X.K) gAny := by
  intro F ph M env σ H Q xs ds h1 h2 S r P
  unfold gAny gQuant at P
  split at P
  · rename_i d
    obtain ⟨x, rfl, rx⟩ := r.one
    cases e : (deref M d).bind lblsD with
    | none => rw [e] at P; exact P.elim
    | some ns =>
      rw [e] at P
      obtain ⟨p, rfl, hq⟩ := lbls S rx e
      rw [h2] at hq
      exact ⟨p, ns, rfl, hq, P.now S (.bl _)⟩
  · exact P.elim
section
variable (hm : X.mg "len" = none)
theorem ze_len (hg : Gl X "len") (hm : X.mg "len" = none) (ha : ZC X W cl a za) (n : nostar a = true := by rfl) : ZE X W cl (.Call (.Name "len" p) [a] [] pos) (zBf gLen (zCons za zNil)) := ze_bf call_len bz_len hg hm PySem.boot_len (zk_cons ha zk_nil n) (he := n)
theorem ze_callInt (hg : Gl X "int") (hm : X.mg "int" = none) (ha : ZC X W cl a za) (n : nostar a = true := by rfl) : ZE X W cl (.Call (.Name "int" p) [a] [] pos) (zBf gInt (zCons za zNil)) := ze_bt call_int1 bz_int hg hm (by decide +kernel) (zk_cons ha zk_nil n) (he := n)
theorem ze_abs (hg : Gl X "abs") (hm : X.mg "abs" = none) (ha : ZC X W cl a za) (n : nostar a = true := by rfl) : ZE X W cl (.Call (.Name "abs" p) [a] [] pos) (zBf gAbs (zCons za zNil)) := ze_bf call_abs bz_abs hg hm (by decide +kernel) (zk_cons ha zk_nil n) (he := n)
theorem ze_sum (hc : X.calm = true) (hg : Gl X "sum") (hm : X.mg "sum" = none) (ha : ZC X W cl a za) (n : nostar a = true := by rfl) : ZE X W cl (.Call (.Name "sum" p) [a] [] pos) (zBf gSum (zCons za zNil)) := ze_bf (CallR.or (cr_sum hc) (cr_sumT hc)) bz_sum hg hm (by decide +kernel) (zk_cons ha zk_nil n) (he := n)
theorem ze_max (hc : X.calm = true) (hg : Gl X "max") (hm : X.mg "max" = none) (ha : ZC X W cl a za) (n : nostar a = true := by rfl) : ZE X W cl (.Call (.Name "max" p) [a] [] pos) (zBf gMax (zCons za zNil)) := ze_bf (cr_max hc) bz_max hg hm (by decide +kernel) (zk_cons ha zk_nil n) (he := n)
theorem ze_min (hc : X.calm = true) (hg : Gl X "min") (hm : X.mg "min" = none) (ha : ZC X W cl a za) (n : nostar a = true := by rfl) : ZE X W cl (.Call (.Name "min" p) [a] [] pos) (zBf gMin (zCons za zNil)) := ze_bf (cr_min hc) bz_min hg hm (by decide +kernel) (zk_cons ha zk_nil n) (he := n)
theorem ze_all (hc : X.calm = true) (hg : Gl X "all") (hm : X.mg "all" = none) (ha : ZC X W cl a za) (n : nostar a = true := by rfl) : ZE X W cl (.Call (.Name "all" p) [a] [] pos) (zBf gAll (zCons za zNil)) := ze_bf (cr_all hc) bz_all hg hm (by decide +kernel) (zk_cons ha zk_nil n) (he := n)
theorem ze_any (hc : X.calm = true) (hg : Gl X "any") (hm : X.mg "any" = none) (ha : ZC X W cl a za) (n : nostar a = true := by rfl) : ZE X W cl (.Call (.Name "any" p) [a] [] pos) (zBf gAny (zCons za zNil)) := ze_bf (cr_any hc) bz_any hg hm (by decide +kernel) (zk_cons ha zk_nil n) (he := n)
theorem backTo_two (n' : nostar b = true) : (backTo pos (starEach [b] X.env)).any (·.1) = false := by
  rw [star_ok n']
  rfl
theorem ze_max2 (hc : X.calm = true) (hg : Gl X "max") (hm : X.mg "max" = none) (ha : ZC X W cl a za) (hb : ZC X W cl b zb) (n : nostar a = true := by rfl) (n' : nostar b = true := by rfl) : ZE X W cl (.Call (.Name "max" p) [a, b] [] pos) (zBf gMax2 (zCons za (zCons zb zNil))) :=
  ze_bf (call_max2 hc) bz_max2 hg hm (by decide +kernel) (zk_cons ha (zk_cons hb zk_nil n') n) (he := n) (hpl := backTo_two n')
theorem ze_min2 (hc : X.calm = true) (hg : Gl X "min") (hm : X.mg "min" = none) (ha : ZC X W cl a za) (hb : ZC X W cl b zb) (n : nostar a = true := by rfl) (n' : nostar b = true := by rfl) : ZE X W cl (.Call (.Name "min" p) [a, b] [] pos) (zBf gMin2 (zCons za (zCons zb zNil))) :=
  ze_bf (call_min2 hc) bz_min2 hg hm (by decide +kernel) (zk_cons ha (zk_cons hb zk_nil n') n) (he := n) (hpl := backTo_two n')
end

/-! tuple(..), list(..), ranges -/
def zTupOf (z : ZX) : ZX := fun env M => (z env M).bind fun d M1 => match (deref M1 d).bind itemsD with
  | some ds => .ok (.tup ds) M1
  | none => .fail
theorem ze_tupOf (hg : Gl X "tuple") (hm : X.mg "tuple" = none) (ha : ZC X W cl a za) (n : nostar a = true := by rfl) : ZE X W cl (.Call (.Name "tuple" p) [a] [] pos) (zTupOf za) := by
  obtain ⟨t, pa, q⟩ := ha.ex
  refine ⟨_, pe_tupleOf hg hm pa (star_ok n), fun F ph M env σ H Q h1 h2 S P => q F ph M env σ H _ h1 h2 S (P.step fun d M1 ph1 H1 w S1 f1 r1 P1 => ?_)⟩
  cases e1 : deref M1 d with
  | none => rw [e1] at P1; exact P1.elim
  | some c =>
    rw [e1] at P1
    have L := r1.look S1 e1
    simp only [Option.bind_some] at P1
    cases c with
    | tup ds =>
      obtain ⟨a, xs, rfl, hq, r⟩ := L.tup_inv
      exact .inr ⟨a, xs, rfl, SqT.of hq, P1.now S1 (r1.tupRep S1 e1)⟩
    | lst ds =>
      obtain ⟨a, xs, rfl, hq, r⟩ := L.lst_inv
      exact .inl ⟨a, xs, rfl, SqL.of hq, fun p hp => P1.newTup S1 r hp⟩
    | scr ns =>
      obtain ⟨a, rfl, hq⟩ := L.scr_inv
      rw [show (gh F ph1 env σ).K = X.K from h2] at hq
      exact .inl ⟨a, _, rfl, hq, fun p hp => P1.newTup S1 (repL_ints _ _ _) hp⟩
    | _ => exact P1.elim
theorem PoF.newLst {F : Fr} {env : Ev} {σ : St} {ph : List Addr} {M : Sto} {H : Hp} {Q : VK} {ds : List D} {xs : List V} {p : Addr} (P : PoF F W env σ ph H Q (.ok (.lst ds) M)) (S : Sim F ph M env σ H) (r : RepL (gh F ph env σ) H xs ds) (hp : H p = none) :
    Q (.ref p) (upd H p (.lst xs)) := by
  obtain ⟨S2, m⟩ := S.lay (o := .lst xs) hp
  exact P ph _ p S2 (Fwd.alloc hp) (.lst upd_same (r.mo m)) hp
theorem PoF.step {α β : Type} {Rl : Gh → Hp → β → α → Prop} {F : Fr} {env : Ev} {σ : St} {ph : List Addr} {H : Hp} {Q : VK} {Q' : β → Hp → Prop} {r : Res α} {k : α → Sto → Res D} (P : PoF F W env σ ph H Q (r.bind k))
    (hk : ∀ a M' ph' H' b, Sim F ph' M' env σ H' → Fwd ph H ph' H' → Rl (gh F ph' env σ) H' b a → PoF F W env σ ph' H' Q (k a M') → Q' b H') : Post Rl F W env σ ph H Q' r := by
  cases r with
  | ok d M' =>
    intro p1 H1 v S g r
    refine hk d M' p1 H1 v S g r ?_
    have P' : PoF F W env σ ph H Q (k d M') := P
    revert P'
    cases k d M' with
    | ok d2 M2 => exact fun P' p2 H2 a S2 g2 c hn => P' p2 H2 a S2 (g.trans g2) c (g.back hn)
    | exc c fs M2 => exact fun P' p2 H2 dx f C S2 g2 e1 e2 r => P' p2 H2 dx f C S2 (g.trans g2) e1 e2 r
    | fail => exact fun P' => P'
  | exc c fs M' => exact P
  | fail => exact P
def zLstOf (z : ZX) : ZX := fun env M => (z env M).bind fun d M1 => match (deref M1 d).bind itemsD with
  | some ds => .ok (.lst ds) M1
  | none => .fail
theorem zf_lstOf (hg : Gl X "list") (hm : X.mg "list" = none) (ha : ZC X W cl a za) (n : nostar a = true := by rfl) : ZF X W cl (.Call (.Name "list" p) [a] [] pos) (zLstOf za) := by
  obtain ⟨t, pa, q⟩ := ha.ex
  refine ⟨_, pe_callTy call_list_of hg hm (by decide +kernel) (pa_cons pa pa_nil (star_ok n)) (by decide) (by decide) (star_ok n), fun F ph M env σ H Q h1 h2 S P => q F ph M env σ H _ h1 h2 S (P.step fun d M1 ph1 H1 w S1 f1 r1 P1 => ?_)⟩
  cases e1 : deref M1 d with
  | none => rw [e1] at P1; exact P1.elim
  | some c =>
    rw [e1] at P1
    have L := r1.look S1 e1
    simp only [Option.bind_some] at P1
    cases e2 : itemsD c with
    | none => rw [e2] at P1; exact P1.elim
    | some ds =>
      rw [e2] at P1
      obtain ⟨a, xs, rfl, hq, r⟩ := L.seq e2
      rw [show (gh F ph1 env σ).K = X.K from h2] at hq
      exact ⟨a, xs, rfl, hq, fun p hp => P1.newLst S1 r hp⟩
/-- range(..) as it stands in tuple(..), list(..), reversed(..) -/
abbrev ZR := Ev → Sto → Res (Int × Int)
def RlR : Gh → Hp → Int × Int → Int × Int → Prop := fun _ _ a b => a = b
structure ZRg (X : Cx) (W : WX) (cl : String → Option Addr) (e : Expr) (z : ZR) : Prop where
  ex : ∃ t, PRg X e t ∧ ∀ F ph M env σ H Q, F.cl = cl → F.K = X.K → Sim F ph M env σ H → Post RlR F W env σ ph H (fun p H' => Q p.1 p.2 H') (z env M) → t σ H Q
def zRg1 (z : ZX) : ZR := fun env M => (z env M).bind fun d M1 => match d with
  | .int i => .ok (0, i) M1
  | _ => .fail
def zRg2 (z y : ZX) : ZR := fun env M => (z env M).bind fun d M1 => (y env M1).bind fun e M2 => match d, e with
  | .int i, .int j => .ok (i, j) M2
  | _, _ => .fail
theorem zr_1 (hg : Gl X "range") (hm : X.mg "range" = none) (ha : ZE X W cl a za) (n : nostar a = true := by rfl) : ZRg X W cl (.Call (.Name "range" p) [a] [] pos) (zRg1 za) := by
  obtain ⟨t, pa, q⟩ := ha.ex
  refine ⟨_, prg_1 hg hm pa (star_ok n), fun F ph M env σ H Q h1 h2 S P => q F ph M env σ H _ h1 h2 S (P.step fun d M1 ph1 H1 w S1 f1 r1 P1 => ?_)⟩
  cases d with
  | int i => cases r1; exact ⟨i, rfl, P1 ph1 H1 (0, i) S1 Fwd.refl rfl⟩
  | _ => exact P1.elim
theorem zr_2 (hg : Gl X "range") (hm : X.mg "range" = none) (ha : ZE X W cl a za) (hb : ZE X W cl b zb) (n : nostar a = true := by rfl) (n' : nostar b = true := by rfl) : ZRg X W cl (.Call (.Name "range" p) [a, b] [] pos) (zRg2 za zb) := by
  obtain ⟨t, pa, q⟩ := ha.ex
  obtain ⟨t', pb, q'⟩ := hb.ex
  refine ⟨_, prg_2 hg hm pa pb (star_ok n) (star_ok n') (hp := backTo_two n'), fun F ph M env σ H Q h1 h2 S P => q F ph M env σ H _ h1 h2 S (P.step fun d M1 ph1 H1 w S1 f1 r1 P1 => ?_)⟩
  refine q' F ph1 M1 env σ H1 _ h1 h2 S1 (P1.step fun e M2 ph2 H2 w2 S2 f2 r2 P2 => ?_)
  cases d with
  | int i =>
    cases e with
    | int j => cases r1; cases r2; exact ⟨i, j, rfl, rfl, P2 ph2 H2 (i, j) S2 Fwd.refl rfl⟩
    | _ => exact P2.elim
  | _ => exact P2.elim
def rngD (a b : Int) : List D := (List.range (b - a).toNat).map fun i => D.int (a + (i : Nat))
theorem repL_map {G : Gh} {H : Hp} {α : Type} (f : α → V) (g : α → D) (h : ∀ x, Rep G H (f x) (g x)) : ∀ l : List α, RepL G H (l.map f) (l.map g)
  | [] => .nil
  | x :: l => .cons (h x) (repL_map f g h l)
theorem repL_rng (G : Gh) (H : Hp) (a b : Int) : RepL G H (rgV a b) (rngD a b) := repL_map _ _ (fun i => .int _) _
def zTupRg (z : ZR) : ZX := fun env M => (z env M).bind fun p M1 => if -(2 ^ 62) ≤ p.1 ∧ p.1 < 2 ^ 62 ∧ -(2 ^ 62) ≤ p.2 ∧ p.2 < 2 ^ 62 ∧ (p.2 - p.1).toNat ≤ 2 ^ 24 then .ok (.tup (rngD p.1 p.2)) M1 else .fail
def zLstRg (z : ZR) : ZX := fun env M => (z env M).bind fun p M1 => if -(2 ^ 62) ≤ p.1 ∧ p.1 < 2 ^ 62 ∧ -(2 ^ 62) ≤ p.2 ∧ p.2 < 2 ^ 62 ∧ (p.2 - p.1).toNat ≤ 2 ^ 24 then .ok (.lst (rngD p.1 p.2)) M1 else .fail
theorem ze_tupRg {z : ZR} (hc : X.calm = true) (hg : Gl X "tuple") (hm : X.mg "tuple" = none) (he : ZRg X W cl e z) (n : nostar e = true := by rfl) : ZE X W cl (.Call (.Name "tuple" p) [e] [] pos) (zTupRg z) := by
  obtain ⟨t, pa, q⟩ := he.ex
  refine ⟨_, pe_tupRg hc hg hm pa (star_ok n), fun F ph M env σ H Q h1 h2 S P => q F ph M env σ H _ h1 h2 S (P.step fun d M1 ph1 H1 w S1 f1 r1 P1 => ?_)⟩
  cases (show w = d from r1)
  split at P1
  · rename_i c
    exact ⟨c, fun p hp => P1.newTup S1 (repL_rng _ _ _ _) hp⟩
  · exact P1.elim
theorem zf_lstRg {z : ZR} (hc : X.calm = true) (hg : Gl X "list") (hm : X.mg "list" = none) (he : ZRg X W cl e z) (n : nostar e = true := by rfl) : ZF X W cl (.Call (.Name "list" p) [e] [] pos) (zLstRg z) := by
  obtain ⟨t, pa, q⟩ := he.ex
  refine ⟨_, pe_listRg hc hg hm pa (star_ok n), fun F ph M env σ H Q h1 h2 S P => q F ph M env σ H _ h1 h2 S (P.step fun d M1 ph1 H1 w S1 f1 r1 P1 => ?_)⟩
  cases (show w = d from r1)
  split at P1
  · rename_i c
    exact ⟨c, fun p hp => P1.newLst S1 (repL_rng _ _ _ _) hp⟩
  · exact P1.elim
end
end Zy
set_option maxHeartbeats 2000000
namespace Zy
open PySem PySem.Spec PyProof.Rows L2

/-! statements -/
inductive Out where
  | nx (env : Ev) (M : Sto) | bk (env : Ev) (M : Sto) | ct (env : Ev) (M : Sto) | rt (d : D) (M : Sto) | exc (c : String) (fs : List (Str × D)) (env : Ev) (M : Sto) | fail
def Res.toS {α : Type} (r : Res α) (env : Ev) (k : α → Sto → Out) : Out := match r with
  | .ok a M => k a M
  | .exc c fs M => .exc c fs env M
  | .fail => .fail
@[simp] theorem Res.toS_ok {α : Type} (a : α) (M : Sto) (env : Ev) (k : α → Sto → Out) : (Res.ok a M).toS env k = k a M := id rfl
@[simp] theorem Res.toS_fail {α : Type} (env : Ev) (k : α → Sto → Out) : (Res.fail : Res α).toS env k = .fail := id rfl
@[simp] theorem Res.toS_exc {α : Type} (c : String) (fs : List (Str × D)) (M : Sto) (env : Ev) (k : α → Sto → Out) : (Res.exc c fs M : Res α).toS env k = .exc c fs env M := id rfl
/-- what a def hands back is read without the def's own cells -/
def gh0 (F : Fr) (ph : List Addr) : Gh := ⟨F.K, F.cl, F.N0, ph⟩
structure Fws (F : Fr) (ph : List Addr) (env : Ev) (σ : St) (H : Hp) (ph' : List Addr) (env' : Ev) (σ' : St) (H' : Hp) : Prop where
  ext : ∃ ps, ph' = ph ++ ps ∧ ∀ a ∈ ps, H a = none
  keep : ∀ a o, H a = some o → ¬ (gh F ph env σ).off a → H' a = some o
  own : ∀ a, nof F env' σ' a → nof F env σ a ∨ H a = none
  there : ∀ a o, H a = some o → ∃ o', H' a = some o'
def PoS (F : Fr) (W : WX) (env : Ev) (σ : St) (ph : List Addr) (H : Hp) (B : Ends) : Out → Prop
  | .nx env' M => ∀ ph' σ' H', Sim F ph' M env' σ' H' → Fws F ph env σ H ph' env' σ' H' → B.nx σ' H'
  | .bk env' M => ∀ ph' σ' H', Sim F ph' M env' σ' H' → Fws F ph env σ H ph' env' σ' H' → B.bk σ' H'
  | .ct env' M => ∀ ph' σ' H', Sim F ph' M env' σ' H' → Fws F ph env σ H ph' env' σ' H' → B.ct σ' H'
  | .rt d M => ∀ ph' env' σ' H' v, Sim F ph' M env' σ' H' → Fws F ph env σ H ph' env' σ' H' → Rep (gh0 F ph') H' v d → B.rt v H'
  | .exc c fs env' M => ∀ ph' σ' H' dx f C, Sim F ph' M env' σ' H' → Fws F ph env σ H ph' env' σ' H' → F.cl c = some C → H' dx = some (.xd f) → RepP (gh F ph' env' σ') H' Str f fs → W (.ref C) (some dx) σ' H'
  | .fail => False
section
variable {F : Fr} {W : WX} {ph ph' : List Addr} {M M' : Sto} {env env' : Ev} {σ σ' : St} {H H' : Hp} {α β : Type} {Rl : Gh → Hp → β → α → Prop} {B B' : Ends} {o : Out}
theorem Fwd.ws (f : Fwd ph H ph' H') : Fws F ph env σ H ph' env σ H' := ⟨f.ext, fun a o h n => f.keep a o h fun z => n (.inr z), fun a h => .inl h, f.there⟩
theorem Fws.refl : Fws F ph env σ H ph env σ H := Fwd.refl.ws
theorem Fws.back (f : Fws F ph env σ H ph' env' σ' H') {a : Addr} (h : H' a = none) : H a = none := by
  cases q : H a with
  | none => rfl
  | some o =>
    obtain ⟨o', z⟩ := f.there a o q
    rw [h] at z
    cases z
theorem Fws.mo (f : Fws F ph env σ H ph' env' σ' H') : Mo (gh F ph env σ) (gh F ph' env' σ') H H' := by
  obtain ⟨ps, e, n⟩ := f.ext
  refine ⟨fun a o h k => ⟨f.keep a o h k, fun z => ?_⟩, fun i a h => ?_, rfl, rfl⟩
  · rcases z with z | z
    · rcases f.own a z with z | z
      · exact k (.inl z)
      · rw [h] at z; cases z
    · have z' : a ∈ ph' := z
      rw [e] at z'
      rcases List.mem_append.mp z' with m | m
      · exact k (.inr m)
      · rw [n a m] at h
        cases h
  · show ph'[i]? = some a
    have h' : ph[i]? = some a := h
    rw [e, List.getElem?_append_left (List.getElem?_eq_some_iff.mp h').1]
    exact h'
theorem Fws.trans {p1 p2 p3 : List Addr} {e1 e2 e3 : Ev} {s1 s2 s3 : St} {H1 H2 H3 : Hp} (f : Fws F p1 e1 s1 H1 p2 e2 s2 H2) (g : Fws F p2 e2 s2 H2 p3 e3 s3 H3) : Fws F p1 e1 s1 H1 p3 e3 s3 H3 := by
  have m := f.mo
  obtain ⟨a1, q1, n1⟩ := f.ext
  obtain ⟨a2, q2, n2⟩ := g.ext
  refine ⟨⟨a1 ++ a2, by rw [q2, q1, List.append_assoc], fun a h => ?_⟩, fun a o h n => ?_, fun a h => ?_, fun a o h => ?_⟩
  · rcases List.mem_append.mp h with h | h
    · exact n1 a h
    · exact f.back (n2 a h)
  · obtain ⟨h2, n2⟩ := m.keep a o h n
    exact g.keep a o h2 n2
  · rcases g.own a h with h | h
    · exact f.own a h
    · exact .inr (f.back h)
  · obtain ⟨o', z⟩ := f.there a o h
    exact g.there a o' z
theorem PoS.fwd (P : PoS F W env σ ph H B o) (f : Fws F ph env σ H ph' env' σ' H') : PoS F W env' σ' ph' H' B o := by
  cases o with
  | nx env M => exact fun p1 s1 H1 S g => P p1 s1 H1 S (f.trans g)
  | bk env M => exact fun p1 s1 H1 S g => P p1 s1 H1 S (f.trans g)
  | ct env M => exact fun p1 s1 H1 S g => P p1 s1 H1 S (f.trans g)
  | rt d M => exact fun p1 e1 s1 H1 v S g => P p1 e1 s1 H1 v S (f.trans g)
  | exc c fs env M => exact fun p1 s1 H1 dx ff C S g => P p1 s1 H1 dx ff C S (f.trans g)
  | fail => exact P
theorem PoS.step {Q : β → Hp → Prop} {r : Res α} {k : α → Sto → Out} (P : PoS F W env σ ph H B (r.toS env k))
    (hk : ∀ a M' ph' H' b, Sim F ph' M' env σ H' → Fwd ph H ph' H' → Rl (gh F ph' env σ) H' b a → PoS F W env σ ph' H' B (k a M') → Q b H') : Post Rl F W env σ ph H Q r := by
  cases r with
  | ok d M' => exact fun p1 H1 v S g r => hk d M' p1 H1 v S g r (PoS.fwd P g.ws)
  | exc c fs M' => exact fun p1 H1 dx f C S g => P p1 σ H1 dx f C S g.ws
  | fail => exact P
/-- fewer cells of one's own -/
theorem gh_mo (h : ∀ a, nof F env' σ' a → nof F env σ a) : Mo (gh F ph env σ) (gh F ph env' σ') H H :=
  ⟨fun a o e n => ⟨e, fun z => n (z.elim (fun z => .inl (h a z)) .inr)⟩, fun _ _ h => h, rfl, rfl⟩
theorem gh0_mo : Mo (gh F ph env σ) (gh0 F ph) H H :=
  ⟨fun a o e n => ⟨e, fun z => n (z.elim (fun z => .inl (.inl z)) .inr)⟩, fun _ _ h => h, rfl, rfl⟩
theorem getE_set {α : Type} {l : List α} {i j : Nat} {x y : α} (h : (l.set i x)[j]? = some y) : (j = i ∧ y = x) ∨ (j ≠ i ∧ l[j]? = some y) := by
  by_cases e : i = j
  · subst e
    by_cases hl : i < l.length
    · rw [List.getElem?_set_self hl] at h
      exact .inl ⟨rfl, (Option.some.inj h).symm⟩
    · rw [List.getElem?_eq_none (by rw [List.length_set]; omega)] at h
      cases h
  · rw [List.getElem?_set_ne e] at h
    exact .inr ⟨fun z => e z.symm, h⟩
/-- slots i of env and σ are set, what is new there is no cell of one's own -/
theorem Sim.setSlot {i : Nat} {w : Sl} {v : V} (S : Sim F ph M env σ H) (hi : i < σ.length) (h1 : ∀ d, w ≠ .own d)
    (h2 : ∀ d, w = .val d → Rep (gh F ph env σ) H v d) (h3 : ∀ d, w = .bor d → ∃ a, v = .ref a ∧ F.N0 a ∧ Cel (gh F ph env σ) H a d ∧ ∃ o, F.H0 a = some o) : Sim F ph M (env.set i w) (σ.set i (some v)) H := by
  have sub : ∀ a, nof F (env.set i w) (σ.set i (some v)) a → nof F env σ a := fun a z => by
    rcases z with z | ⟨j, d, e1, e2⟩
    · exact .inl z
    · rcases getE_set e1 with ⟨_, e⟩ | ⟨ne, e⟩
      · exact absurd e.symm (h1 d)
      · rcases getE_set e2 with ⟨e', _⟩ | ⟨_, e'⟩
        · exact absurd e' ne
        · exact .inr ⟨j, d, e, e'⟩
  have m : Mo (gh F ph env σ) (gh F ph (env.set i w) (σ.set i (some v))) H H := gh_mo sub
  refine ⟨by rw [List.length_set, List.length_set]; exact S.len, S.pre, S.keep, S.n0, S.ml, S.nd, fun j d e => ?_, fun j d e => ?_, fun j d e => ?_, fun j k d e a e1 e2 e3 e4 => ?_, fun j d e => ?_⟩
  · obtain ⟨a, q, c⟩ := S.sto j d e
    exact ⟨a, q, c.mo m fun _ h => h⟩
  · rcases getE_set e with ⟨rfl, ee⟩ | ⟨ne, e⟩
    · exact ⟨v, by rw [List.getElem?_set_self hi], (h2 d ee.symm).mo m⟩
    · obtain ⟨u, q, r⟩ := S.val j d e
      exact ⟨u, by rw [List.getElem?_set_ne ne.symm]; exact q, r.mo m⟩
  · rcases getE_set e with ⟨rfl, ee⟩ | ⟨ne, e⟩
    · exact absurd ee.symm (h1 d)
    · obtain ⟨a, q, c, h⟩ := S.own j d e
      exact ⟨a, by rw [List.getElem?_set_ne ne.symm]; exact q, c.mo m fun _ h => h, h⟩
  · rcases getE_set e1 with ⟨_, z⟩ | ⟨n1, e1⟩
    · exact absurd z.symm (h1 d)
    rcases getE_set e2 with ⟨_, z⟩ | ⟨n2, e2⟩
    · exact absurd z.symm (h1 e)
    rw [List.getElem?_set_ne n1.symm] at e3
    rw [List.getElem?_set_ne n2.symm] at e4
    exact S.ap j k d e a e1 e2 e3 e4
  · rcases getE_set e with ⟨rfl, ee⟩ | ⟨ne, e⟩
    · obtain ⟨a, rfl, n, c, o⟩ := h3 d ee.symm
      exact ⟨a, by rw [List.getElem?_set_self hi], n, c.mo m fun _ h => h, o⟩
    · obtain ⟨a, q, n, c, o⟩ := S.brw j d e
      exact ⟨a, by rw [List.getElem?_set_ne ne.symm]; exact q, n, c.mo m fun _ h => h, o⟩
theorem Sim.setVal {i : Nat} {v : V} {d : D} (S : Sim F ph M env σ H) (hi : i < σ.length) (r : Rep (gh F ph env σ) H v d) : Sim F ph M (env.set i (.val d)) (σ.set i (some v)) H :=
  S.setSlot hi (fun _ e => nomatch e) (fun d' e => by cases e; exact r) (fun _ e => nomatch e)
/-- a new cell becomes the slot's own -/
theorem Sim.setOwn {i : Nat} {a : Addr} {d : D} (S : Sim (F.plus a) ph M env σ H) (hi : i < σ.length) (c : Cel (gh (F.plus a) ph env σ) H a d) (h0 : F.H0 a = none) (n0 : ¬ F.N0 a) :
    Sim F ph M (env.set i (.own d)) (σ.set i (some (.ref a))) H := by
  have hne : i < env.length := by rw [S.len]; exact hi
  have sub : ∀ b, nof F (env.set i (.own d)) (σ.set i (some (.ref a))) b → nof (F.plus a) env σ b := fun b z => by
    rcases z with z | ⟨j, d', e1, e2⟩
    · exact .inl (.inl z)
    · rcases getE_set e1 with ⟨rfl, _⟩ | ⟨ne, e⟩
      · rcases getE_set e2 with ⟨_, e'⟩ | ⟨n, _⟩
        · cases e'
          exact .inl (.inr rfl)
        · exact absurd rfl n
      · rcases getE_set e2 with ⟨e', _⟩ | ⟨_, e'⟩
        · exact absurd e' ne
        · exact .inr ⟨j, d', e, e'⟩
  have m : Mo (gh (F.plus a) ph env σ) (gh F ph (env.set i (.own d)) (σ.set i (some (.ref a)))) H H :=
    ⟨fun b o e n => ⟨e, fun z => n (z.elim (fun z => .inl (sub b z)) .inr)⟩, fun _ _ h => h, rfl, rfl⟩
  have na : a ∉ ph := (S.n0 a (.inr rfl)).2
  refine ⟨by rw [List.length_set, List.length_set]; exact S.len, S.pre, S.keep, fun b z => S.n0 b (.inl z), S.ml, S.nd, fun j d e => ?_, fun j d e => ?_, fun j d e => ?_, fun j k d e b e1 e2 e3 e4 => ?_, fun j d e => ?_⟩
  · obtain ⟨a, q, c⟩ := S.sto j d e
    exact ⟨a, q, c.mo m fun _ h => h⟩
  · rcases getE_set e with ⟨_, e⟩ | ⟨ne, e⟩
    · cases e
    · obtain ⟨u, q, r⟩ := S.val j d e
      exact ⟨u, by rw [List.getElem?_set_ne ne.symm]; exact q, r.mo m⟩
  · rcases getE_set e with ⟨rfl, ee⟩ | ⟨ne, e⟩
    · cases ee
      exact ⟨a, by rw [List.getElem?_set_self hi], c.mo m fun _ h => h, h0, na, n0⟩
    · obtain ⟨b, q, c, h, n, k⟩ := S.own j d e
      exact ⟨b, by rw [List.getElem?_set_ne ne.symm]; exact q, c.mo m fun _ h => h, h, n, fun z => k (.inl z)⟩
  · rcases getE_set e1 with ⟨rfl, z⟩ | ⟨n1, e1'⟩
    · rw [List.getElem?_set_self hi] at e3
      cases e3
      rcases getE_set e2 with ⟨rfl, z⟩ | ⟨n2, e2'⟩
      · rfl
      · rw [List.getElem?_set_ne n2.symm] at e4
        obtain ⟨b, q, _, _, _, kk⟩ := S.own k e e2'
        rw [e4] at q
        cases q
        exact absurd (.inr rfl) kk
    · rw [List.getElem?_set_ne n1.symm] at e3
      rcases getE_set e2 with ⟨rfl, z⟩ | ⟨n2, e2'⟩
      · rw [List.getElem?_set_self hi] at e4
        cases e4
        obtain ⟨b, q, _, _, _, kk⟩ := S.own j d e1'
        rw [e3] at q
        cases q
        exact absurd (.inr rfl) kk
      · rw [List.getElem?_set_ne n2.symm] at e4
        exact S.ap j k d e b e1' e2' e3 e4
  · rcases getE_set e with ⟨_, e⟩ | ⟨ne, e⟩
    · cases e
    · obtain ⟨b, q, n, c, o, ho⟩ := S.brw j d e
      rcases n with n | n
      · exact ⟨b, by rw [List.getElem?_set_ne ne.symm]; exact q, n, c.mo m fun _ h => h, o, ho⟩
      · have n' : b = a := n
        have ho' : F.H0 b = some o := ho
        rw [n', h0] at ho'
        cases ho'
/-- one's own cell is frozen -/
theorem Sim.freeze {i : Nat} {d : D} (S : Sim F ph M env σ H) (e0 : env[i]? = some (.own d)) : Sim F ph M (env.set i (.val d)) σ H := by
  obtain ⟨a, q0, c0, h0, n0, k0⟩ := S.own i d e0
  have hi : i < env.length := (List.getElem?_eq_some_iff.mp e0).1
  have sub : ∀ b, nof F (env.set i (.val d)) σ b → nof F env σ b := fun b z => by
    rcases z with z | ⟨j, d', e1, e2⟩
    · exact .inl z
    · rcases getE_set e1 with ⟨_, e⟩ | ⟨ne, e⟩
      · cases e
      · exact .inr ⟨j, d', e, e2⟩
  have m : Mo (gh F ph env σ) (gh F ph (env.set i (.val d)) σ) H H := gh_mo sub
  have off : ¬ (gh F ph (env.set i (.val d)) σ).off a := fun z => by
    rcases z with z | z
    · rcases z with z | ⟨j, d', e1, e2⟩
      · exact k0 z
      · rcases getE_set e1 with ⟨_, e⟩ | ⟨ne, e⟩
        · cases e
        · exact ne (S.ap j i d' d a e e0 e2 q0)
    · exact n0 z
  refine ⟨by rw [List.length_set]; exact S.len, S.pre, S.keep, S.n0, S.ml, S.nd, fun j d e => ?_, fun j d' e => ?_, fun j d' e => ?_, fun j k d e b e1 e2 e3 e4 => ?_, fun j d e => ?_⟩
  · obtain ⟨a, q, c⟩ := S.sto j d e
    exact ⟨a, q, c.mo m fun _ h => h⟩
  · rcases getE_set e with ⟨rfl, ee⟩ | ⟨ne, e⟩
    · cases ee
      exact ⟨.ref a, q0, c0.rep m off⟩
    · obtain ⟨u, q, r⟩ := S.val j d' e
      exact ⟨u, q, r.mo m⟩
  · rcases getE_set e with ⟨_, e⟩ | ⟨ne, e⟩
    · cases e
    · obtain ⟨b, q, c, h⟩ := S.own j d' e
      exact ⟨b, q, c.mo m fun _ h => h, h⟩
  · rcases getE_set e1 with ⟨_, z⟩ | ⟨n1, e1⟩
    · cases z
    rcases getE_set e2 with ⟨_, z⟩ | ⟨n2, e2⟩
    · cases z
    exact S.ap j k d e b e1 e2 e3 e4
  · rcases getE_set e with ⟨_, e⟩ | ⟨ne, e⟩
    · cases e
    · obtain ⟨b, q, n, c, o⟩ := S.brw j d e
      exact ⟨b, q, n, c.mo m fun _ h => h, o⟩
/-- one's own cell is written -/
theorem Sim.wrOwn {i : Nat} {d d' : D} {a : Addr} {o' : HO} (S : Sim F ph M env σ H) (e0 : env[i]? = some (.own d)) (q0 : σ[i]? = some (some (.ref a)))
    (c' : Cel (gh F ph env σ) (upd H a o') a d') : Sim F ph M (env.set i (.own d')) σ (upd H a o') ∧ Fws F ph env σ H ph (env.set i (.own d')) σ (upd H a o') := by
  obtain ⟨a', q, c0, h0, n0, k0⟩ := S.own i d e0
  rw [q0] at q
  cases q
  have hi : i < env.length := (List.getElem?_eq_some_iff.mp e0).1
  have offa : (gh F ph env σ).off a := .inl (.inr ⟨i, d, e0, q0⟩)
  have sub : ∀ b, nof F (env.set i (.own d')) σ b → nof F env σ b := fun b z => by
    rcases z with z | ⟨j, d2, e1, e2⟩
    · exact .inl z
    · rcases getE_set e1 with ⟨rfl, e⟩ | ⟨ne, e⟩
      · exact .inr ⟨j, d, e0, e2⟩
      · exact .inr ⟨j, d2, e, e2⟩
  have m : Mo (gh F ph env σ) (gh F ph (env.set i (.own d')) σ) H (upd H a o') := ⟨fun b o e n => by
    have nb : b ≠ a := fun z => n (by rw [z]; exact offa)
    exact ⟨by rw [upd_ne nb]; exact e, fun z => n (z.elim (fun z => .inl (sub b z)) .inr)⟩, fun _ _ h => h, rfl, rfl⟩
  have m2 : Mo (gh F ph env σ) (gh F ph (env.set i (.own d')) σ) (upd H a o') (upd H a o') := gh_mo sub
  have kp : ∀ b, b ≠ a → ∀ o, H b = some o → upd H a o' b = some o := fun b nb o e => by rw [upd_ne nb]; exact e
  have there : ∀ b o, H b = some o → ∃ u, upd H a o' b = some u := fun b o e => by
    by_cases nb : b = a
    · exact ⟨o', by rw [nb]; exact upd_same⟩
    · exact ⟨o, kp b nb o e⟩
  refine ⟨⟨by rw [List.length_set]; exact S.len, S.pre, fun b u e n => ?_, fun b z => ?_, S.ml, S.nd, fun j d e => ?_, fun j d2 e => ?_, fun j d2 e => ?_, fun j k d2 e b e1 e2 e3 e4 => ?_, fun j d2 e => ?_⟩,
    ⟨⟨[], by simp, fun b h => by simp at h⟩, fun b o e n => (m.keep b o e n).1, fun b z => .inl (sub b z), there⟩⟩
  · refine kp b (fun z => ?_) u (S.keep b u e n)
    rw [z, h0] at e
    cases e
  · obtain ⟨⟨o, q⟩, n⟩ := S.n0 b z
    exact ⟨there b o q, n⟩
  · obtain ⟨b, q, c⟩ := S.sto j d e
    refine ⟨b, q, c.mo m (kp b fun z => n0 ?_)⟩
    rw [← z]
    exact List.mem_of_getElem? q
  · rcases getE_set e with ⟨_, e⟩ | ⟨ne, e⟩
    · cases e
    · obtain ⟨u, q, r⟩ := S.val j d2 e
      exact ⟨u, q, r.mo m⟩
  · rcases getE_set e with ⟨rfl, ee⟩ | ⟨ne, e⟩
    · cases ee
      exact ⟨a, q0, c'.mo m2 fun _ h => h, h0, n0, k0⟩
    · obtain ⟨b, q, c, h⟩ := S.own j d2 e
      refine ⟨b, q, c.mo m (kp b fun z => ne ?_), h⟩
      rw [z] at q
      exact S.ap j i d2 d a e e0 q q0
  · rcases getE_set e1 with ⟨rfl, z⟩ | ⟨n1, e1'⟩
    · rcases getE_set e2 with ⟨rfl, z⟩ | ⟨n2, e2'⟩
      · rfl
      · exact S.ap j k d e b e0 e2' e3 e4
    · rcases getE_set e2 with ⟨rfl, z⟩ | ⟨n2, e2'⟩
      · exact S.ap j k d2 d b e1' e0 e3 e4
      · exact S.ap j k d2 e b e1' e2' e3 e4
  · rcases getE_set e with ⟨_, e⟩ | ⟨ne, e⟩
    · cases e
    · obtain ⟨b, q, n, c, o⟩ := S.brw j d2 e
      refine ⟨b, q, n, c.mo m (kp b fun z => k0 ?_), o⟩
      rw [← z]
      exact n
end
end Zy
set_option maxHeartbeats 2000000
namespace Zy
open PySem PySem.Spec PyProof.Rows L2

abbrev ZS := Ev → Sto → Out
structure Zs (X : Cx) (W : WX) (cl : String → Option Addr) (st : Stmt) (z : ZS) : Prop where
  ex : ∃ t, PS X st t ∧ ∀ F ph M env σ H B, F.cl = cl → F.K = X.K → Sim F ph M env σ H → PoS F W env σ ph H B (z env M) → t B σ H
structure Zb (X : Cx) (W : WX) (cl : String → Option Addr) (sts : List Stmt) (z : ZS) : Prop where
  ex : ∃ t, PSs X sts t ∧ ∀ F ph M env σ H B, F.cl = cl → F.K = X.K → Sim F ph M env σ H → PoS F W env σ ph H B (z env M) → t B σ H
section
variable {F : Fr} {W : WX} {ph ph' : List Addr} {M M' : Sto} {env env' : Ev} {σ σ' : St} {H H' : Hp} {B : Ends}
theorem set_out {α : Type} {l : List α} {i : Nat} {x : α} (h : ¬ i < l.length) : l.set i x = l := by
  apply List.ext_getElem?
  intro j
  by_cases e : i = j
  · subst e
    rw [List.getElem?_eq_none (by rw [List.length_set]; omega), List.getElem?_eq_none (by omega)]
  · rw [List.getElem?_set_ne e]
theorem Sim.setV {i : Nat} {v : V} {d : D} (S : Sim F ph M env σ H) (r : Rep (gh F ph env σ) H v d) : Sim F ph M (env.set i (.val d)) (σ.set i (some v)) H := by
  by_cases hi : i < σ.length
  · exact S.setVal hi r
  · rw [set_out hi, set_out (by rw [S.len]; exact hi)]
    exact S
/-- setting a slot frees at most a cell of one's own -/
theorem Fws.setV {i : Nat} {w : Sl} {v : Option V} (h : ∀ d, w ≠ .own d) : Fws F ph env σ H ph (env.set i w) (σ.set i v) H := by
  refine ⟨⟨[], by simp, fun a h => by simp at h⟩, fun _ _ e _ => e, fun a z => .inl ?_, fun a o e => ⟨o, e⟩⟩
  rcases z with z | ⟨j, d, e1, e2⟩
  · exact .inl z
  · rcases getE_set e1 with ⟨_, e⟩ | ⟨ne, e⟩
    · exact absurd e.symm (h d)
    · rcases getE_set e2 with ⟨e', _⟩ | ⟨_, e'⟩
      · exact absurd e' ne
      · exact .inr ⟨j, d, e, e'⟩
theorem Fws.frz {i : Nat} {d : D} : Fws F ph env σ H ph (env.set i (.val d)) σ H := by
  refine ⟨⟨[], by simp, fun a h => by simp at h⟩, fun _ _ e _ => e, fun a z => .inl ?_, fun a o e => ⟨o, e⟩⟩
  rcases z with z | ⟨j, d, e1, e2⟩
  · exact .inl z
  · rcases getE_set e1 with ⟨_, e⟩ | ⟨ne, e⟩
    · cases e
    · exact .inr ⟨j, d, e, e2⟩
/-- a statement's way on -/
theorem PoS.nxt (P : PoS F W env σ ph H B (.nx env' M')) (S : Sim F ph' M' env' σ' H') (f : Fws F ph env σ H ph' env' σ' H') : B.nx σ' H' := P ph' σ' H' S f
theorem PoS.setV {i : Nat} {v : V} {d : D} (P : PoS F W env σ ph H B (.nx (env.set i (.val d)) M)) (S : Sim F ph M env σ H) (r : Rep (gh F ph env σ) H v d) : B.nx (σ.set i (some v)) H :=
  P ph _ H (S.setV r) (Fws.setV fun _ e => nomatch e)
end
section
variable {X : Cx} {W : WX} {cl : String → Option Addr} {e a b : Expr} {es : List Expr} {z za zb zc : ZX} {zs : ZL} {pos pos' : Pos} {st : Stmt} {sts : List Stmt} {y y' : ZS} {yb : ZB} {i j : Nat} {x : Str}
theorem zb_nil : Zb X W cl [] fun env M => .nx env M := ⟨_, pss_nil, fun F ph M env σ H B _ _ S P => P.nxt S Fws.refl⟩
def zSeq (y y' : ZS) : ZS := fun env M => match y env M with
  | .nx env M => y' env M
  | o => o
theorem pos_seq {F : Fr} {ph : List Addr} {M : Sto} {env : Ev} {σ : St} {H : Hp} {B : Ends} {nx' : St → Hp → Prop} (P : PoS F W env σ ph H B (zSeq y y' env M))
    (h : ∀ ph' M' env' σ' H', Sim F ph' M' env' σ' H' → PoS F W env' σ' ph' H' B (y' env' M') → nx' σ' H') : PoS F W env σ ph H { B with nx := nx' } (y env M) := by
  unfold zSeq at P
  cases q : y env M with
  | nx env' M' =>
    rw [q] at P
    exact fun ph' σ' H' S f => h ph' M' env' σ' H' S (PoS.fwd P f)
  | bk env' M' => rw [q] at P; exact P
  | ct env' M' => rw [q] at P; exact P
  | rt d M' => rw [q] at P; exact P
  | exc c fs env' M' => rw [q] at P; exact P
  | fail => rw [q] at P; exact P
theorem zb_cons (h1 : Zs X W cl st y) (h2 : Zb X W cl sts y') : Zb X W cl (st :: sts) (zSeq y y') := by
  obtain ⟨t, p, q⟩ := h1.ex
  obtain ⟨t', p', q'⟩ := h2.ex
  exact ⟨_, pss_cons p p', fun F ph M env σ H B h1 h2 S P => q F ph M env σ H _ h1 h2 S (pos_seq P fun ph' M' env' σ' H' S' P' => q' F ph' M' env' σ' H' B h1 h2 S' P')⟩
theorem zs_pass : Zs X W cl (.Pass pos) fun env M => .nx env M := ⟨_, ps_pass, fun F ph M env σ H B _ _ S P => P.nxt S Fws.refl⟩
theorem zs_break : Zs X W cl (.Break pos) fun env M => .bk env M := ⟨_, ps_break, fun F ph M env σ H B _ _ S P => P ph σ H S Fws.refl⟩
theorem zs_continue : Zs X W cl (.Continue pos) fun env M => .ct env M := ⟨_, ps_continue, fun F ph M env σ H B _ _ S P => P ph σ H S Fws.refl⟩
theorem zs_never : Zs X W cl st fun _ _ => .fail := ⟨_, ps_never, fun F ph M env σ H B _ _ S P => P⟩
/-- one's own cells at these slots are frozen first -/
def frz (env : Ev) : List Nat → Ev
  | [] => env
  | i :: is => frz (match env[i]? with
    | some (.own d) => env.set i (.val d)
    | _ => env) is
theorem Sim.frz {F : Fr} {ph : List Addr} {M : Sto} {σ : St} {H : Hp} : ∀ {is : List Nat} {env : Ev}, Sim F ph M env σ H → Sim F ph M (Zy.frz env is) σ H ∧ Fws F ph env σ H ph (Zy.frz env is) σ H
  | [], env, S => ⟨S, Fws.refl⟩
  | i :: is, env, S => by
    unfold Zy.frz
    split
    · rename_i d e
      obtain ⟨S1, f1⟩ := Sim.frz (is := is) (S.freeze e)
      exact ⟨S1, Fws.trans Fws.frz f1⟩
    · exact Sim.frz S
def zFrz (is : List Nat) (y : ZS) : ZS := fun env M => y (frz env is) M
theorem zs_frz {is : List Nat} (h : Zs X W cl st y) : Zs X W cl st (zFrz is y) := by
  obtain ⟨t, p, q⟩ := h.ex
  refine ⟨t, p, fun F ph M env σ H B h1 h2 S P => ?_⟩
  obtain ⟨S1, f1⟩ := Sim.frz (is := is) S
  exact q F ph M _ σ H B h1 h2 S1 (PoS.fwd P f1)
def zDrop (z : ZX) : ZS := fun env M => (z env M).toS env fun _ M1 => .nx env M1
theorem zs_expr (h : ZC X W cl e z) (hs : swapsWith e none pos.line X.env = pure false) : Zs X W cl (.Expr e pos) (zDrop z) := by
  obtain ⟨t, p, q⟩ := h.ex
  exact ⟨_, ps_expr p hs, fun F ph M env σ H B h1 h2 S P => q F ph M env σ H _ h1 h2 S (PoS.step P fun d M1 ph1 H1 v S1 f1 r1 P1 => P1.nxt S1 Fws.refl)⟩
def zRet (z : ZX) : ZS := fun env M => (z env M).toS env fun d M1 => .rt d M1
theorem zs_ret (h : ZE X W cl e z) : Zs X W cl (.Return (some e) pos) (zRet z) := by
  obtain ⟨t, p, q⟩ := h.ex
  exact ⟨_, ps_ret p, fun F ph M env σ H B h1 h2 S P => q F ph M env σ H _ h1 h2 S (PoS.step P fun d M1 ph1 H1 v S1 f1 r1 P1 => P1 ph1 env σ H1 v S1 Fws.refl (r1.mo gh0_mo))⟩
theorem zs_retN : Zs X W cl (.Return none pos) fun _ M => .rt .non M := ⟨_, ps_retN, fun F ph M env σ H B _ _ S P => P ph env σ H .non S Fws.refl .non⟩
/-- x = e -/
def zSet (i : Nat) (z : ZX) : ZS := fun env M => (z env M).toS env fun d M1 => .nx (env.set i (.val d)) M1
theorem zs_set (hN : X.N.Nodup) (hi : X.N[i]? = some x) (hx : Loc X.env.scope x) (hf : X.fn x = true ∨ X.env.scope.names.lookup x = some .local) (h : ZE X W cl e z)
    (hs : swapsWith e (some (.Name x pos')) pos.line X.env = pure false) : Zs X W cl (.Assign [.Name x pos'] e pos) (zSet i z) := by
  obtain ⟨t, p, q⟩ := h.ex
  exact ⟨_, ps_set hN hi hx p hs hf, fun F ph M env σ H B h1 h2 S P => q F ph M env σ H _ h1 h2 S (PoS.step P fun d M1 ph1 H1 v S1 f1 r1 P1 => P1.setV S1 r1)⟩
/-- from a fresh value: what is wanted of the new cell -/
theorem PoS.stepF {F : Fr} {ph : List Addr} {M : Sto} {env : Ev} {σ : St} {H : Hp} {B : Ends} {Q : VK} {r : Res D} {k : D → Sto → Out} (P : PoS F W env σ ph H B (r.toS env k))
    (hk : ∀ d M' ph' H' a, Sim (F.plus a) ph' M' env σ H' → Fwd ph H ph' H' → Cel (gh (F.plus a) ph' env σ) H' a d → H a = none → PoS F W env σ ph' H' B (k d M') → Q (.ref a) H') : PoF F W env σ ph H Q r := by
  cases r with
  | ok d M' => exact fun p1 H1 a S f c hn => hk d M' p1 H1 a S f c hn (PoS.fwd P f.ws)
  | exc c fs M' => exact fun p1 H1 dx f C S g => P p1 σ H1 dx f C S g.ws
  | fail => exact P
def zSetO (i : Nat) (z : ZX) : ZS := fun env M => (z env M).toS env fun d M1 => .nx (env.set i (.own d)) M1
theorem Sim.setO {F : Fr} {ph : List Addr} {M : Sto} {env : Ev} {σ : St} {H : Hp} {i : Nat} {a : Addr} {d : D} (S : Sim (F.plus a) ph M env σ H) (c : Cel (gh (F.plus a) ph env σ) H a d) (h0 : F.H0 a = none) (n0 : ¬ F.N0 a) :
    Sim F ph M (env.set i (.own d)) (σ.set i (some (.ref a))) H := by
  by_cases hi : i < σ.length
  · exact S.setOwn hi c h0 n0
  · rw [set_out hi, set_out (by rw [S.len]; exact hi)]
    exact (S.unplus h0).1
theorem nof_none {F : Fr} {ph : List Addr} {M : Sto} {env : Ev} {σ : St} {H : Hp} {a : Addr} (S : Sim F ph M env σ H) (h : H a = none) : ¬ nof F env σ a := fun z => S.fresh h (.inl z)
theorem n0_none {F : Fr} {ph : List Addr} {M : Sto} {env : Ev} {σ : St} {H : Hp} {a : Addr} (S : Sim F ph M env σ H) (h : H a = none) : ¬ F.N0 a := fun z => S.fresh h (.inl (.inl z))
theorem own_ws {F : Fr} {ph ph' : List Addr} {M : Sto} {env : Ev} {σ : St} {H H' : Hp} {i : Nat} {a : Addr} {d : D} (f : Fwd ph H ph' H') (h : H a = none) : Fws F ph env σ H ph' (env.set i (.own d)) (σ.set i (some (.ref a))) H' := by
  refine ⟨f.ext, fun b o e n => f.keep b o e fun z => n (.inr z), fun b z => ?_, f.there⟩
  rcases z with z | ⟨j, d', e1, e2⟩
  · exact .inl (.inl z)
  · rcases getE_set e1 with ⟨rfl, _⟩ | ⟨ne, e⟩
    · rcases getE_set e2 with ⟨_, e'⟩ | ⟨n, _⟩
      · cases e'
        exact .inr h
      · exact absurd rfl n
    · rcases getE_set e2 with ⟨e', _⟩ | ⟨_, e'⟩
      · exact absurd e' ne
      · exact .inl (.inr ⟨j, d', e, e'⟩)
/-- what reads a fresh value and goes on with it as a new own slot -/
theorem post_own {F : Fr} {ph : List Addr} {M : Sto} {env : Ev} {σ : St} {H : Hp} {B : Ends} (S : Sim F ph M env σ H) (P : PoS F W env σ ph H B (zSetO i z env M)) : PoF F W env σ ph H (fun v H1 => gName i v σ H1 B.nx) (z env M) := by
  unfold zSetO at P
  cases q : z env M with
  | ok d M' =>
    rw [q] at P
    exact fun p1 H1 a S1 f c hn => PoS.nxt P (S1.setO c (S.h0 hn) (n0_none S hn)) (own_ws (M := M') f hn)
  | exc c fs M' =>
    rw [q] at P
    exact fun p1 H1 dx f C S1 g => P p1 σ H1 dx f C S1 g.ws
  | fail => rw [q] at P; exact P
theorem zs_setO (hN : X.N.Nodup) (hi : X.N[i]? = some x) (hx : Loc X.env.scope x) (hf : X.fn x = true ∨ X.env.scope.names.lookup x = some .local) (h : ZF X W cl e z)
    (hs : swapsWith e (some (.Name x pos')) pos.line X.env = pure false) : Zs X W cl (.Assign [.Name x pos'] e pos) (zSetO i z) := by
  obtain ⟨t, p, q⟩ := h.ex
  exact ⟨_, ps_set hN hi hx p hs hf, fun F ph M env σ H B h1 h2 S P => q F ph M env σ H _ h1 h2 S (post_own S P)⟩
/-- .. as a new cell of the store -/
def zSetC (i : Nat) (z : ZX) : ZS := fun env M => (z env M).toS env fun d M1 => .nx (env.set i (.val (.ref M1.length))) (M1 ++ [d])
theorem Sim.toSto {F : Fr} {ph : List Addr} {M : Sto} {env : Ev} {σ : St} {H : Hp} {a : Addr} {d : D} (S : Sim (F.plus a) ph M env σ H) (c : Cel (gh (F.plus a) ph env σ) H a d) (h0 : F.H0 a = none) (n0 : ¬ F.N0 a) : Sim F (ph ++ [a]) (M ++ [d]) env σ H ∧ (ph ++ [a])[M.length]? = some a := by
  have na : a ∉ ph := (S.n0 a (.inr rfl)).2
  have m : Mo (gh (F.plus a) ph env σ) (gh F (ph ++ [a]) env σ) H H := by
    refine ⟨fun b o e n => ⟨e, fun z => n ?_⟩, fun j b e => ?_, rfl, rfl⟩
    · rcases z with z | z
      · rcases z with z | z
        · exact .inl (.inl (.inl z))
        · exact .inl (.inr z)
      · rcases List.mem_append.mp (show b ∈ ph ++ [a] from z) with z | z
        · exact .inr z
        · exact .inl (.inl (.inr (by simpa using z)))
    · have e' : ph[j]? = some b := e
      show (ph ++ [a])[j]? = some b
      rw [List.getElem?_append_left (List.getElem?_eq_some_iff.mp e').1]
      exact e'
  have la : (ph ++ [a])[M.length]? = some a := by rw [S.ml]; simp
  refine ⟨⟨S.len, ?_, S.keep, fun b z => ?_, by rw [List.length_append, List.length_append, S.ml]; rfl, ?_, fun j d' e => ?_, fun j d' e => ?_, fun j d' e => ?_, S.ap, fun j d' e => ?_⟩, la⟩
  · obtain ⟨ps, e, n⟩ := S.pre
    refine ⟨ps ++ [a], by rw [e]; exact List.append_assoc _ _ _, fun b z => ?_⟩
    rcases List.mem_append.mp z with z | z
    · exact n b z
    · have z' : b = a := by simpa using z
      rw [z']
      exact h0
  · obtain ⟨q, n⟩ := S.n0 b (.inl z)
    refine ⟨q, fun k => ?_⟩
    rcases List.mem_append.mp k with k | k
    · exact n k
    · have k' : b = a := by simpa using k
      subst k'
      exact n0 z
  · rw [List.nodup_append]
    exact ⟨S.nd, by simp, fun b hb c hc => by
      have hc' : c = a := by simpa using hc
      rw [hc']
      exact fun z => na (z ▸ hb)⟩
  · by_cases hj : j < M.length
    · rw [List.getElem?_append_left hj] at e
      obtain ⟨b, q, c⟩ := S.sto j d' e
      exact ⟨b, by rw [List.getElem?_append_left (by rw [← S.ml]; exact hj)]; exact q, c.mo m fun _ h => h⟩
    · have hj' : j = M.length := by
        have := (List.getElem?_eq_some_iff.mp e).1
        simp at this
        omega
      subst hj'
      have e' : d = d' := by simpa using e
      subst e'
      exact ⟨a, la, c.mo m fun _ h => h⟩
  · obtain ⟨v, q, r⟩ := S.val j d' e
    exact ⟨v, q, r.mo m⟩
  · obtain ⟨b, q, c, h, n, k⟩ := S.own j d' e
    refine ⟨b, q, c.mo m fun _ h => h, h, fun z => ?_, fun z => k (.inl z)⟩
    rcases List.mem_append.mp z with z | z
    · exact n z
    · exact k (.inr (by simpa using z))
  · obtain ⟨b, q, n, c, o, ho⟩ := S.brw j d' e
    rcases n with n | n
    · exact ⟨b, q, n, c.mo m fun _ h => h, o, ho⟩
    · have n' : b = a := n
      have ho' : F.H0 b = some o := ho
      rw [n', h0] at ho'
      cases ho'
theorem post_cel {F : Fr} {ph : List Addr} {M : Sto} {env : Ev} {σ : St} {H : Hp} {B : Ends} (S : Sim F ph M env σ H) (P : PoS F W env σ ph H B (zSetC i z env M)) : PoF F W env σ ph H (fun v H1 => gName i v σ H1 B.nx) (z env M) := by
  unfold zSetC at P
  cases q : z env M with
  | ok d M' =>
    rw [q] at P
    intro p1 H1 a S1 f c hn
    obtain ⟨S2, la⟩ := S1.toSto c (S.h0 hn) (n0_none S hn)
    have r : Rep (gh F (p1 ++ [a]) env σ) H1 (.ref a) (.ref M'.length) := .ref la
    obtain ⟨ps, e1, hps⟩ := f.ext
    refine PoS.nxt P (S2.setV r) (Fws.trans (Fwd.ws (ph' := p1 ++ [a]) ⟨⟨ps ++ [a], by rw [e1]; exact List.append_assoc _ _ _, fun b z => ?_⟩, f.keep, f.there⟩) (Fws.setV fun _ e => nomatch e))
    rcases List.mem_append.mp z with z | z
    · exact hps b z
    · have z' : b = a := by simpa using z
      rw [z']
      exact hn
  | exc c fs M' =>
    rw [q] at P
    exact fun p1 H1 dx f C S1 g => P p1 σ H1 dx f C S1 g.ws
  | fail => rw [q] at P; exact P
theorem zs_setC (hN : X.N.Nodup) (hi : X.N[i]? = some x) (hx : Loc X.env.scope x) (hf : X.fn x = true ∨ X.env.scope.names.lookup x = some .local) (h : ZF X W cl e z)
    (hs : swapsWith e (some (.Name x pos')) pos.line X.env = pure false) : Zs X W cl (.Assign [.Name x pos'] e pos) (zSetC i z) := by
  obtain ⟨t, p, q⟩ := h.ex
  exact ⟨_, ps_set hN hi hx p hs hf, fun F ph M env σ H B h1 h2 S P => q F ph M env σ H _ h1 h2 S (post_cel S P)⟩
/-! targets -/
theorem PG.or {tg : Expr} {g g' : TG} (h : PG X tg g) (h' : PG X tg g') : PG X tg fun v σ H Q => g v σ H Q ∨ g' v σ H Q :=
  ⟨fun pins s σ H v u Q I r q => q.elim (h.run pins s σ H v u Q I r) (h'.run pins s σ H v u Q I r)⟩
abbrev ZTg := D → Ev → Option Ev
structure Zg (X : Cx) (tg : Expr) (gz : ZTg) : Prop where
  ex : ∃ g, PG X tg g ∧ ∀ F ph M env σ H (Q : St → Hp → Prop) v d env', F.K = X.K → Sim F ph M env σ H → Rep (gh F ph env σ) H v d → gz d env = some env' → (∀ σ', Sim F ph M env' σ' H → Fws F ph env σ H ph env' σ' H → Q σ' H) → g v σ H Q
def tgN (i : Nat) : ZTg := fun d env => some (env.set i (.val d))
theorem zg_name (hN : X.N.Nodup) (hi : X.N[i]? = some x) (hx : Loc X.env.scope x) (hf : X.fn x = true ∨ X.env.scope.names.lookup x = some .local) : Zg X (.Name x pos) (tgN i) :=
  ⟨_, pg_name hN hi hx hf, fun F ph M env σ H Q v d env' _ S r e k => by
    cases e
    exact k _ (S.setV r) (Fws.setV fun _ e => nomatch e)⟩
def setAll (env : Ev) : List Nat → List D → Option Ev
  | [], [] => some env
  | i :: is, d :: ds => setAll (env.set i (.val d)) is ds
  | _, _ => none
def gNms : List Nat → TGs
  | [] => gNil
  | i :: is => gCons (gName i) (gNms is)
theorem nms_run {F : Fr} {ph : List Addr} {M : Sto} {H : Hp} : ∀ {is : List Nat} {env : Ev} {σ : St} {xs : List V} {ds : List D} {env' : Ev} {Q : St → Hp → Prop}, Sim F ph M env σ H → RepL (gh F ph env σ) H xs ds → setAll env is ds = some env' →
    (∀ σ', Sim F ph M env' σ' H → Fws F ph env σ H ph env' σ' H → Q σ' H) → gNms is xs σ H Q
  | [], env, σ, xs, ds, env', Q, S, r, e, k => by
    cases ds with
    | nil =>
      cases r
      cases e
      exact ⟨rfl, k σ S Fws.refl⟩
    | cons d ds => cases e
  | i :: is, env, σ, xs, ds, env', Q, S, r, e, k => by
    cases ds with
    | nil => cases e
    | cons d ds =>
      cases r with
      | @cons v _ _ _ h t =>
        refine ⟨_, _, rfl, ?_⟩
        have f : Fws F ph env σ H ph (env.set i (.val d)) (σ.set i (some v)) H := Fws.setV fun _ e => nomatch e
        exact nms_run (is := is) (S.setV h) (RepL.mo f.mo t) e fun σ' S' f' => k σ' S' (f.trans f')
theorem setAll_len : ∀ {is : List Nat} {ds : List D} {env env' : Ev}, setAll env is ds = some env' → ds.length = is.length
  | [], [], _, _, _ => rfl
  | [], _ :: _, _, _, e => by cases e
  | _ :: _, [], _, _, e => by cases e
  | i :: is, d :: ds, env, env', e => by
    rw [List.length_cons, List.length_cons, setAll_len (is := is) (ds := ds) (env := env.set i (.val d)) e]
structure NamesAt (X : Cx) (es : List Expr) (is : List Nat) : Prop where
  gs : PGs X es (gNms is)
  len : (assignEach es X.env).length = is.length
  st : (assignEach es X.env).findIdx? (·.1) = none
theorem namesAt_nil : NamesAt X [] [] := ⟨pgs_nil, rfl, rfl⟩
theorem namesAt_cons {is : List Nat} (hN : X.N.Nodup) (hi : X.N[i]? = some x) (hx : Loc X.env.scope x) (hf : X.fn x = true ∨ X.env.scope.names.lookup x = some .local) (h : NamesAt X es is) : NamesAt X (.Name x pos :: es) (i :: is) := by
  have e : assignEach (.Name x pos :: es) X.env = (false, assign (.Name x pos) X.env) :: assignEach es X.env := rfl
  refine ⟨pgs_cons (pg_name hN hi hx hf) h.gs, ?_, ?_⟩
  · rw [e, List.length_cons, List.length_cons, h.len]
  · rw [e, List.findIdx?_cons]
    simp [h.st]
def tgT (is : List Nat) : ZTg := fun d env => (itemsD d).bind (setAll env is)
theorem zg_names {k : Nat} {is : List Nat} (hc : X.calm = true) (g : NamesAt X es is) : Zg X (.Tuple es k pos) (tgT is) := by
  refine ⟨_, PG.or (pg_tup (n := is.length) hc g.gs g.len g.st) (pg_unl (n := is.length) hc g.gs g.len g.st), fun F ph M env σ H Q v d env' hK S r e k => ?_⟩
  unfold tgT at e
  cases e1 : itemsD d with
  | none => rw [e1] at e; cases e
  | some ds =>
    rw [e1] at e
    have e2 : setAll env is ds = some env' := e
    obtain ⟨a, xs, rfl, hq, rr⟩ := (Lk.of r).seq e1
    have hK' : (gh F ph env σ).K = X.K := hK
    rw [hK'] at hq
    have hl : xs.length = is.length := by rw [rr.length, setAll_len e2]
    have run := nms_run S rr e2 k
    rcases hq with hq | hq
    · exact .inr ⟨a, xs, rfl, hq, hl, run⟩
    · exact .inl ⟨a, xs, rfl, hq, hl, run⟩
def zAsg (gz : ZTg) (z : ZX) : ZS := fun env M => (z env M).toS env fun d M1 => match gz d env with
  | some env' => .nx env' M1
  | none => .fail
theorem zs_asg {tg : Expr} {gz : ZTg} (h : ZE X W cl e z) (g : Zg X tg gz) (hs : swapsWithSole [tg] e pos.line X.env = pure false) (hw : swappedStores [tg] e X.env = pure none) (h1 : (assignEach [tg] X.env).map (·.2) = [assign tg X.env]) :
    Zs X W cl (.Assign [tg] e pos) (zAsg gz z) := by
  obtain ⟨t, p, q⟩ := h.ex
  obtain ⟨tg', pg, qg⟩ := g.ex
  refine ⟨_, ps_asg p pg hs hw h1, fun F ph M env σ H B h1 h2 S P => q F ph M env σ H _ h1 h2 S (PoS.step P fun d M1 ph1 H1 v S1 f1 r1 P1 => ?_)⟩
  cases e1 : gz d env with
  | none => rw [e1] at P1; exact P1.elim
  | some env' =>
    rw [e1] at P1
    exact qg F ph1 M1 env σ H1 _ v d env' h2 S1 r1 e1 fun σ' S' f' => P1.nxt S' f'
/-- a, b = x, y -/
def zPar (i j : Nat) (l : ZL) : ZS := fun env M => (l env M).toS env fun ds M1 => match ds with
  | [d, e] => .nx ((env.set i (.val d)).set j (.val e)) M1
  | _ => .fail
theorem zs_par {x2 : Str} {px py pt pt2 : Pos} {kt k2 : Nat} (hc : X.calm = true) (hN : X.N.Nodup) (hi : X.N[i]? = some x) (hj : X.N[j]? = some x2) (hij : i ≠ j) (hx : X.env.scope.names.lookup x = some .local) (hy : X.env.scope.names.lookup x2 = some .local)
    (h : ZA X W cl [a, b] zs) (hw : swappedStores [.Tuple [.Name x px, .Name x2 py] kt pt] (.Tuple [a, b] k2 pt2) X.env = pure (some [x, x2])) (hs : swapsWithSole [.Tuple [.Name x px, .Name x2 py] kt pt] (.Tuple [a, b] k2 pt2) pos.line X.env = pure false) :
    Zs X W cl (.Assign [.Tuple [.Name x px, .Name x2 py] kt pt] (.Tuple [a, b] k2 pt2) pos) (zPar i j zs) := by
  obtain ⟨t, p, q⟩ := h.ex
  refine ⟨_, ps_par hc hN hi hj hij hx hy p hw hs, fun F ph M env σ H B h1 h2 S P => q F ph M env σ H _ h1 h2 S (PoS.step P fun ds M1 ph1 H1 vs S1 f1 r1 P1 => ?_)⟩
  match ds, r1, P1 with
  | [d, e], .cons (x := v) h (.cons (x := w) h' .nil), P1 =>
    refine ⟨v, w, rfl, ?_⟩
    have f : Fws F ph1 env σ H1 ph1 (env.set i (.val d)) (σ.set i (some v)) H1 := Fws.setV fun _ e => nomatch e
    have S2 := S1.setV (i := i) h
    exact P1.nxt (S2.setV (i := j) (h'.mo f.mo)) (f.trans (Fws.setV fun _ e => nomatch e))
  | [], r, P1 => exact P1.elim
  | [_], r, P1 => exact P1.elim
  | _ :: _ :: _ :: _, r, P1 => exact P1.elim
/-! tests, loops -/
def zIfS (t : ZB) (y y' : ZS) : ZS := fun env M => (t env M).toS env fun b M1 => if b = true then y env M1 else y' env M1
theorem zs_if {c : Expr} {sa sb : List Stmt} {ya yb' : ZS} (hc : ZT X W cl c yb) (ha : Zb X W cl sa ya) (hb : Zb X W cl sb yb') : Zs X W cl (.If c sa sb pos) (zIfS yb ya yb') := by
  obtain ⟨t, p, q⟩ := hc.ex
  obtain ⟨ta, pa, qa⟩ := ha.ex
  obtain ⟨tb, pb, qb⟩ := hb.ex
  refine ⟨_, ps_if p pa pb, fun F ph M env σ H B h1 h2 S P => q F ph M env σ H _ h1 h2 S (PoS.step P fun k M1 ph1 H1 w S1 f1 r1 P1 => ?_)⟩
  cases (show w = k from r1)
  cases k with
  | true => exact iteT (qa F ph1 M1 env σ H1 B h1 h2 S1 P1)
  | false => exact iteF (qb F ph1 M1 env σ H1 B h1 h2 S1 P1)
def zWh (c : ZB) (y : ZS) : Nat → ZS
  | 0 => fun _ _ => .fail
  | n + 1 => fun env M => (c env M).toS env fun b M1 => if b = true then match y env M1 with
    | .nx env' M' => zWh c y n env' M'
    | .ct env' M' => zWh c y n env' M'
    | .bk env' M' => .nx env' M'
    | o => o else .nx env M1
/-- the loop's own outcome, from its body's -/
def loopO (k : Ev → Sto → Out) : Out → Out
  | .nx env M => k env M
  | .ct env M => k env M
  | .bk env M => .nx env M
  | o => o
theorem pos_loop {F : Fr} {ph : List Addr} {env : Ev} {σ : St} {H : Hp} {B : Ends} {k : Ev → Sto → Out} {N : St → Hp → Prop} {o : Out} (P : PoS F W env σ ph H B (loopO k o))
    (h : ∀ ph' M' env' σ' H', Sim F ph' M' env' σ' H' → Fws F ph env σ H ph' env' σ' H' → PoS F W env' σ' ph' H' B (k env' M') → N σ' H') : PoS F W env σ ph H { B with nx := N, ct := N, bk := B.nx } o := by
  cases o with
  | nx env' M' => exact fun ph' σ' H' S f => h ph' M' env' σ' H' S f (PoS.fwd P f)
  | ct env' M' => exact fun ph' σ' H' S f => h ph' M' env' σ' H' S f (PoS.fwd P f)
  | bk env' M' => exact P
  | rt d M' => exact P
  | exc c fs env' M' => exact P
  | fail => exact P
theorem zs_while {c : Expr} {body : List Stmt} {n : Nat} (hp : PassesOwn (model X.prog X.w) X.A X.env X.xe) (hc : ZT X W cl c yb) (hb : Zb X W cl body y) : Zs X W cl (.While c body [] pos) (zWh yb y n) := by
  obtain ⟨t, p, q⟩ := hc.ex
  obtain ⟨ta, pa, qa⟩ := hb.ex
  refine ⟨_, ps_while hp p pa, fun F ph M env σ H B h1 h2 S P => ?_⟩
  refine ⟨fun m σ H => ∃ ph M env, Sim F ph M env σ H ∧ PoS F W env σ ph H B (zWh yb y m env M), ⟨n, ph, M, env, S, P⟩, ?_⟩
  rintro m σ H ⟨ph, M, env, S, P⟩
  cases m with
  | zero => exact P.elim
  | succ m =>
    refine q F ph M env σ H _ h1 h2 S (PoS.step P fun k M1 ph1 H1 w S1 f1 r1 P1 => ?_)
    cases (show w = k from r1)
    cases k with
    | true =>
      refine iteT ⟨fun σ' H' => ∃ ph M env, Sim F ph M env σ' H' ∧ PoS F W env σ' ph H' B (zWh yb y m env M), fun σ' H' h => ⟨m, Nat.lt_succ_self m, h⟩, ?_⟩
      refine qa F ph1 M1 env σ H1 _ h1 h2 S1 (pos_loop (k := zWh yb y m) (B := B) ?_ fun ph' M' env' σ' H' S' f' P' => ⟨ph', M', env', S', P'⟩)
      rw [if_pos rfl] at P1
      cases e : y env M1 <;> rw [e] at P1 <;> exact P1
    | false => exact iteF (P1.nxt S1 Fws.refl)
/-! for -/
/-- the same frame, with more cells that are not to be frozen (new ones) -/
structure FrEx (F F' : Fr) (H : Hp) : Prop where
  K : F'.K = F.K
  cl : F'.cl = F.cl
  H0 : F'.H0 = F.H0
  ph0 : F'.ph0 = F.ph0
  up : ∀ a, F.N0 a → F'.N0 a
  dn : ∀ a, F'.N0 a → F.N0 a ∨ H a = none
theorem FrEx.refl {F : Fr} {H : Hp} : FrEx F F H := ⟨rfl, rfl, rfl, rfl, fun _ z => z, fun _ z => .inl z⟩
theorem FrEx.plus {F : Fr} {H : Hp} {a : Addr} (h : H a = none) : FrEx F (F.plus a) H := ⟨rfl, rfl, rfl, rfl, fun _ z => .inl z, fun b z => z.elim .inl fun z => .inr (by rw [z]; exact h)⟩
def ItOk (F : Fr) (ph : List Addr) (env : Ev) (σ : St) (H : Hp) (J : It) (ds : List D) : Prop :=
  ∀ F' ph2 M2 env2 σ2 H2, FrEx F F' H → Sim F' ph2 M2 env2 σ2 H2 → Fws F ph env σ H ph2 env2 σ2 H2 →
    J.stop ds.length H2 ∧ ∀ (i : Nat) d, ds[i]? = some d → J.go i H2 ∧ ∀ x H3, J.yld i H2 x H3 → Sim F' ph2 M2 env2 σ2 H3 ∧ Fwd ph2 H2 ph2 H3 ∧ Rep (gh F' ph2 env2 σ2) H3 x d
theorem Fws.moX {F F' : Fr} {ph ph' : List Addr} {env env' : Ev} {σ σ' : St} {H H' : Hp} (f : Fws F ph env σ H ph' env' σ' H') (x : FrEx F F' H) : Mo (gh F ph env σ) (gh F' ph' env' σ') H H' := by
  have m := f.mo
  refine ⟨fun a o e n => ?_, m.ph, x.cl, x.K⟩
  obtain ⟨h1, h2⟩ := m.keep a o e n
  refine ⟨h1, fun z => ?_⟩
  rcases z with (z | z) | z
  · rcases x.dn a z with z | z
    · exact h2 (.inl (.inl z))
    · rw [e] at z; cases z
  · exact h2 (.inl (.inr z))
  · exact h2 (.inr z)
abbrev PoI (F : Fr) (W : WX) (env : Ev) (σ : St) (ph : List Addr) (H : Hp) (R : It → Hp → Prop) : Res (List D) → Prop :=
  @Post (List D) It (fun G H' J ds => ItOk F G.ph env σ H' J ds) F W env σ ph H R
structure Zi (X : Cx) (W : WX) (cl : String → Option Addr) (tg e : Expr) (z : ZL) : Prop where
  ex : ∃ wi, PI X tg e wi ∧ ∀ F ph M env σ H R, F.cl = cl → F.K = X.K → Sim F ph M env σ H → PoI F W env σ ph H R (z env M) → wi σ H R
def zForL (gz : ZTg) (y : ZS) : List D → ZS
  | [] => fun env M => .nx env M
  | d :: ds => fun env M => match gz d env with
    | some env1 => loopO (zForL gz y ds) (y env1 M)
    | none => .fail
def zFor (zi : ZL) (gz : ZTg) (y : ZS) : ZS := fun env M => (zi env M).toS env fun ds M1 => zForL gz y ds env M1
theorem zs_for {tg iter : Expr} {body : List Stmt} {zi : ZL} {gz : ZTg} (hp : PassesOwn (model X.prog X.w) X.A X.env X.xe) (hc : X.calm = true) (hi : Zi X W cl tg iter zi) (hg : Zg X tg gz) (hb : Zb X W cl body y)
    (hs : ∀ x, foldedSetIterable iter X.env x = pure x) : Zs X W cl (.For tg iter body [] pos) (zFor zi gz y) := by
  obtain ⟨wi, pi, qi⟩ := hi.ex
  obtain ⟨g, pg, qg⟩ := hg.ex
  obtain ⟨tb, pb, qb⟩ := hb.ex
  refine ⟨_, ps_for hp hc pi pg pb hs, fun F ph M env σ H B h1 h2 S P => qi F ph M env σ H _ h1 h2 S (PoS.step P fun ds M1 ph1 H1 J S1 f1 r1 P1 => ?_)⟩
  have IO : ItOk F ph1 env σ H1 J ds := r1
  refine ⟨fun i m σ2 H2 => m = ds.length - i ∧ i ≤ ds.length ∧ ∃ ph2 M2 env2, Sim F ph2 M2 env2 σ2 H2 ∧ Fws F ph1 env σ H1 ph2 env2 σ2 H2 ∧ PoS F W env2 σ2 ph2 H2 B (zForL gz y (ds.drop i) env2 M2),
    ⟨ds.length, rfl, Nat.zero_le _, ph1, M1, env, S1, Fws.refl, P1⟩, ?_⟩
  rintro i m σ2 H2 ⟨rfl, hi, ph2, M2, env2, S2, f2, P2⟩
  obtain ⟨st, go⟩ := IO F ph2 M2 env2 σ2 H2 FrEx.refl S2 f2
  by_cases hlt : i < ds.length
  · have ed : ds.drop i = ds[i] :: ds.drop (i + 1) := List.drop_eq_getElem_cons hlt
    obtain ⟨g1, yl⟩ := go i ds[i] (List.getElem?_eq_getElem hlt)
    refine .inr ⟨g1, fun σ' H' => ∃ ph' M' env', Sim F ph' M' env' σ' H' ∧ Fws F ph1 env σ H1 ph' env' σ' H' ∧ PoS F W env' σ' ph' H' B (zForL gz y (ds.drop (i + 1)) env' M'),
      fun σ' H' q => ⟨ds.length - (i + 1), by omega, rfl, hlt, q⟩, fun x H3 hy => ?_⟩
    obtain ⟨S3, f3, r3⟩ := yl x H3 hy
    rw [ed] at P2
    unfold zForL at P2
    cases e1 : gz ds[i] env2 with
    | none => rw [e1] at P2; exact P2.elim
    | some env3 =>
      rw [e1] at P2
      have P3 : PoS F W env2 σ2 ph2 H3 B (loopO (zForL gz y (ds.drop (i + 1))) (y env3 M2)) := PoS.fwd P2 f3.ws
      refine qg F ph2 M2 env2 σ2 H3 _ x _ env3 h2 S3 r3 e1 fun σ4 S4 f4 => ?_
      have P4 := PoS.fwd P3 f4
      refine qb F ph2 M2 env3 σ4 H3 _ h1 h2 S4 (pos_loop P4 fun ph' M' env' σ' H' S' f' P' => ⟨ph', M', env', S', ((f2.trans f3.ws).trans f4).trans f', P'⟩)
  · have e : i = ds.length := by omega
    subst e
    rw [List.drop_length] at P2
    exact .inl ⟨st, P2.nxt S2 Fws.refl⟩
/-! what is iterated -/
/-- read without keeping: no cell of one's own -/
def zBv (i : Nat) : ZX := fun env M => match env[i]? with
  | some (.val d) => .ok d M
  | some (.bor d) => .ok d M
  | _ => .fail
def RlB' (F : Fr) : Gh → Hp → V → D → Prop := fun G H v d => Rep G H v d ∨ ∃ a, v = .ref a ∧ F.N0 a ∧ Cel G H a d ∧ ∃ o, F.H0 a = some o
structure ZBm (X : Cx) (W : WX) (cl : String → Option Addr) (e : Expr) (z : ZX) : Prop where
  ex : ∃ t, PE X e t ∧ ∀ F ph M env σ H Q, F.cl = cl → F.K = X.K → Sim F ph M env σ H → @Post D V (RlB' F) F W env σ ph H Q (z env M) → t σ H Q
theorem ZE.toB (h : ZE X W cl e z) : ZBm X W cl e z := by
  obtain ⟨t, p, q⟩ := h.ex
  exact ⟨t, p, fun F ph M env σ H Q h1 h2 S P => q F ph M env σ H Q h1 h2 S (P.weak fun _ _ _ _ r => .inl r)⟩
theorem zbm_var (hN : X.N[i]? = some x) (hv : Vis X.env.scope x) (hd : (x == ("__debug__" : Str)) = false) (hc : (x == ("__classdict__" : Str)) = false) : ZBm X W cl (.Name x pos) (zBv i) := by
  refine ⟨_, pe_var hN hv hd hc, fun F ph M env σ H Q _ _ S P => ?_⟩
  unfold zBv at P
  split at P
  · rename_i d e
    obtain ⟨v, e1, r⟩ := S.val i d e
    exact ⟨v, e1, P.now S (.inl r)⟩
  · rename_i d e
    obtain ⟨a, e1, n, r, o⟩ := S.brw i d e
    exact ⟨_, e1, P.now S (.inr ⟨a, rfl, n, r, o⟩)⟩
  · exact P.elim
/-- such a value stays -/
theorem seq_stay {F : Fr} {ph : List Addr} {M : Sto} {env : Ev} {σ : St} {H : Hp} {v : V} {d : D} {ds : List D} (S : Sim F ph M env σ H) (r : RlB' F (gh F ph env σ) H v d) (e : itemsD d = some ds) :
    ∃ a xs, v = .ref a ∧ ((SqL F.K H a xs ∧ ∀ F' ph2 M2 env2 σ2 H2, FrEx F F' H → Sim F' ph2 M2 env2 σ2 H2 → Fws F ph env σ H ph2 env2 σ2 H2 → SqL F.K H2 a xs) ∨ (SqT F.K H a xs ∧ ∀ F' ph2 M2 env2 σ2 H2, FrEx F F' H → Sim F' ph2 M2 env2 σ2 H2 → Fws F ph env σ H ph2 env2 σ2 H2 → SqT F.K H2 a xs)) ∧ RepL (gh F ph env σ) H xs ds := by
  rcases r with r | ⟨a, rfl, n, c, o, ho⟩
  · cases r with
    | lst h n r =>
      cases e
      exact ⟨_, _, rfl, .inl ⟨SqL.of h, fun F' ph2 M2 env2 σ2 H2 _ S2 f => SqL.of (f.keep _ _ h n)⟩, r⟩
    | tup h n r =>
      cases e
      exact ⟨_, _, rfl, .inr ⟨SqT.of h, fun F' ph2 M2 env2 σ2 H2 _ S2 f => SqT.of (f.keep _ _ h n)⟩, r⟩
    | scr h n =>
      cases e
      exact ⟨_, _, rfl, .inl ⟨.inl (.inr ⟨_, h⟩), fun F' ph2 M2 env2 σ2 H2 _ S2 f => .inl (.inr ⟨_, f.keep _ _ h n⟩)⟩, repL_ints _ _ _⟩
    | scrK h =>
      cases e
      exact ⟨_, _, rfl, .inl ⟨h _, fun F' ph2 M2 env2 σ2 H2 _ S2 f => h _⟩, repL_ints _ _ _⟩
    | _ => cases e
  · have na : ∀ {F' ph2 M2 env2 σ2 H2}, FrEx F F' H → Sim F' ph2 M2 env2 σ2 H2 → H2 a = some o := fun {F' ph2 M2 env2 σ2 H2} x S2 => S2.keep a o (by rw [x.H0]; exact ho) fun z => by
      obtain ⟨ps, e1, _⟩ := S2.pre
      exact (S2.n0 a (x.up a n)).2 (by rw [e1]; exact List.mem_append_left _ z)
    cases c with
    | lst h r =>
      cases e
      have h' := na FrEx.refl S
      rw [h] at h'
      cases h'
      exact ⟨_, _, rfl, .inl ⟨SqL.of h, fun F' ph2 M2 env2 σ2 H2 x S2 f => SqL.of (na x S2)⟩, r⟩
    | _ => cases e
def itemsM (d : D) : Res (List D) := match itemsD d with
  | some ds => .ok ds []
  | none => .fail
def zSeqI (z : ZX) : ZL := fun env M => (z env M).bind fun d M1 => match itemsD d with
  | some ds => .ok ds M1
  | none => .fail
theorem PI.or {tg : Expr} {w1 w2 : TI} (h1 : PI X tg e w1) (h2 : PI X tg e w2) : PI X tg e fun σ H R => w1 σ H R ∨ w2 σ H R :=
  ⟨fun pins s σ H R I q => q.elim (h1.run pins s σ H R I) (h2.run pins s σ H R I)⟩
theorem itok_seq {F : Fr} {ph : List Addr} {env : Ev} {σ : St} {H : Hp} {J : It} {xs : List V} {ds : List D} {G : Hp → Prop} (w : Walk J xs.length G (YAt xs)) (r : RepL (gh F ph env σ) H xs ds)
    (st : ∀ F' ph2 M2 env2 σ2 H2, FrEx F F' H → Sim F' ph2 M2 env2 σ2 H2 → Fws F ph env σ H ph2 env2 σ2 H2 → G H2) : ItOk F ph env σ H J ds := by
  intro F' ph2 M2 env2 σ2 H2 fx S2 f
  have g := st F' ph2 M2 env2 σ2 H2 fx S2 f
  have hl := r.length
  refine ⟨by rw [← hl]; exact w.stops H2 g, fun i d e => ?_⟩
  have hi : i < ds.length := (List.getElem?_eq_some_iff.mp e).1
  refine ⟨w.goes i H2 (by omega) g, fun x H3 hy => ?_⟩
  obtain ⟨rfl, ex⟩ := w.yields i H2 x H3 (by omega) g hy
  obtain ⟨u, e2, r2⟩ := (RepL.mo (f.moX fx) r).at e
  rw [ex] at e2
  cases e2
  exact ⟨S2, Fwd.refl, r2⟩
/-- a list or a tuple, whichever has come -/
def iSeq (K : PySem.W.Frag) (tl : TE) : TI := fun σ H R => tl σ H fun x H1 => ∃ a, x = .ref a ∧ (((∃ xs, SqL K H1 a xs) ∧ R (Itl K a) H1) ∨ ((∃ xs, SqT K H1 a xs) ∧ R (Itt K a) H1))
theorem pi_seq {tg l : Expr} {tl : TE} (hl : PE X l tl) : PI X tg l (iSeq X.K tl) := by
  refine ⟨fun pn s0 σ0 H0 R I0 hw => thn (hl.run pn s0 σ0 H0 _ I0 hw) fun v s1 ⟨x, H1, J1, r1, a, ea, q⟩ => ?_⟩
  subst ea
  cases r1
  have fin : ∀ b ∈ [s1.heap.objs.size], FpOk X pn H1 b := fun b hb => by
    rw [List.mem_singleton.mp hb]
    exact J1.fpOk (Nat.le_refl _) (J1.hok.fresh (Nat.le_refl _))
  have J2 : ∀ o : Obj, Inv X pn σ0 H1 { s1 with heap := s1.heap.push o } := fun o => J1.kept (t' := s1.toks) fun b u z => Heap.get?_push_of_some _ z
  rcases q with ⟨⟨xs, hq⟩, q⟩ | ⟨⟨xs, hq⟩, q⟩
  · obtain ⟨its, _, pl, _⟩ := J1.list hq
    exact wpAny_pyIter_list pl.isList ⟨_, [s1.heap.objs.size], _, _, H1, rfl, J2 _, turn_list a _, ⟨_, Heap.get?_push_size _ rfl, rfl, rfl⟩, fin, q⟩
  · obtain ⟨its, _, pl, _⟩ := J1.tuple hq
    have it : s1.heap.IsTuple a its.toArray := pl
    exact wpAny_pyIter_tuple it ⟨_, [s1.heap.objs.size], _, _, H1, rfl, J2 _, turn_tuple a _, ⟨_, Heap.get?_push_size _ rfl, rfl, rfl⟩, fin, q⟩
theorem zi_seq {tg : Expr} (h : ZBm X W cl e z) : Zi X W cl tg e (zSeqI z) := by
  obtain ⟨t, p, q⟩ := h.ex
  refine ⟨_, pi_seq p, fun F ph M env σ H R h1 h2 S P => ?_⟩
  refine q F ph M env σ H _ h1 h2 S (Post.step P fun d M1 ph1 H1 v S1 f1 r1 P1 => ?_)
  cases e1 : itemsD d with
  | none => rw [e1] at P1; exact P1.elim
  | some ds =>
    rw [e1] at P1
    obtain ⟨a, xs, rfl, hq, rr⟩ := seq_stay S1 r1 e1
    rw [h2] at hq
    rcases hq with ⟨hq, st⟩ | ⟨hq, st⟩
    · exact ⟨a, rfl, .inl ⟨⟨xs, hq⟩, P1.now S1 (itok_seq walk_list rr st)⟩⟩
    · exact ⟨a, rfl, .inr ⟨⟨xs, hq⟩, P1.now S1 (itok_seq walk_tup rr st)⟩⟩
/-! ranges -/
def stpD (lo c : Int) (n : Nat) : List D := (List.range n).map fun i => D.int (lo + (i : Nat) * c)
theorem stpD_at {lo c : Int} {n i : Nat} {d : D} (e : (stpD lo c n)[i]? = some d) : i < n ∧ d = .int (lo + (i : Nat) * c) := by
  unfold stpD at e
  rw [List.getElem?_map] at e
  cases q : (List.range n)[i]? with
  | none => rw [q] at e; cases e
  | some j =>
    rw [q] at e
    have hi : i < n := by simpa using (List.getElem?_eq_some_iff.mp q).1
    rw [List.getElem?_range hi] at q
    cases q
    cases e
    exact ⟨hi, rfl⟩
theorem itok_fn {F : Fr} {ph : List Addr} {env : Ev} {σ : St} {H : Hp} {J : It} {n : Nat} {lo c : Int} (w : Walk J n (fun _ => True) (YFn fun i => .int (lo + (i : Nat) * c))) : ItOk F ph env σ H J (stpD lo c n) := by
  intro F' ph2 M2 env2 σ2 H2 _ S2 f
  have hl : (stpD lo c n).length = n := by simp [stpD]
  refine ⟨by rw [hl]; exact w.stops H2 trivial, fun i d e => ?_⟩
  obtain ⟨hi, rfl⟩ := stpD_at e
  refine ⟨w.goes i H2 hi trivial, fun x H3 hy => ?_⟩
  obtain ⟨rfl, rfl⟩ := w.yields i H2 x H3 hi trivial hy
  exact ⟨S2, Fwd.refl, .int _⟩
def sm62 (i : Int) : Bool := decide (-(2 ^ 62) ≤ i) && decide (i < 2 ^ 62)
theorem sm62_ok {i : Int} (h : sm62 i = true) : -(2 ^ 62) ≤ i ∧ i < 2 ^ 62 := by
  unfold sm62 at h
  simpa using h
theorem rng_one {lo : Int} : (fun i : Nat => V.int (lo + (i : Nat) * (1 : Int))) = fun i => V.int (lo + (i : Nat)) := by
  funext i
  rw [Int.mul_one]
theorem walk_rng1 {lo : Int} {n : Nat} : Walk (Itr lo n) n (fun _ => True) (YFn fun i => .int (lo + (i : Nat) * (1 : Int))) := by
  rw [rng_one]
  exact walk_range
def zRng1 (l : ZL) : ZL := fun env M => (l env M).bind fun ds M1 => match ds with
  | [.int j] => if sm62 j then .ok (stpD 0 1 j.toNat) M1 else .fail
  | _ => .fail
def zRng2 (l : ZL) : ZL := fun env M => (l env M).bind fun ds M1 => match ds with
  | [.int i, .int j] => if sm62 i && sm62 j then .ok (stpD i 1 (j - i).toNat) M1 else .fail
  | _ => .fail
def zRng3 (l : ZL) : ZL := fun env M => (l env M).bind fun ds M1 => match ds with
  | [.int i, .int j, .int c] => if decide (c ≠ 0) && (decide (c.natAbs < 1073741824) && (Builtin.Range.small i j c && decide (Builtin.Range.rangeSize i j c = ((Builtin.Range.rangeSize i j c).toNat : Int)))) then .ok (stpD i c (Builtin.Range.rangeSize i j c).toNat) M1 else .fail
  | _ => .fail
theorem one_int {G : Gh} {H : Hp} {vs : List V} {i : Int} (r : RepL G H vs [.int i]) : vs = [.int i] := by
  cases r with | cons r t => cases r; cases t; rfl
theorem two_int {G : Gh} {H : Hp} {vs : List V} {i j : Int} (r : RepL G H vs [.int i, .int j]) : vs = [.int i, .int j] := by
  cases r with | cons r t => cases r; cases one_int t; rfl
theorem three_int {G : Gh} {H : Hp} {vs : List V} {i j k : Int} (r : RepL G H vs [.int i, .int j, .int k]) : vs = [.int i, .int j, .int k] := by
  cases r with | cons r t => cases r; cases two_int t; rfl
theorem zi_range1 {tg : Expr} {p : Pos} (hg : Gl X "range") (hm : X.mg "range" = none) (h : ZA X W cl [a] zs) (hs : nostar a = true) : Zi X W cl tg (.Call (.Name "range" p) [a] [] pos) (zRng1 zs) := by
  obtain ⟨t, pa, q⟩ := h.ex
  refine ⟨_, pi_range1 hg hm pa (star_ok hs), fun F ph M env σ H R h1 h2 S P => q F ph M env σ H _ h1 h2 S (Post.step P fun ds M1 ph1 H1 vs S1 f1 r1 P1 => ?_)⟩
  split at P1
  · rename_i j
    split at P1
    · rename_i hs
      obtain ⟨b1, b2⟩ := sm62_ok hs
      exact ⟨j, one_int r1, b1, b2, P1.now S1 (itok_fn walk_rng1)⟩
    · exact P1.elim
  · exact P1.elim
theorem zi_range2 {tg : Expr} {p : Pos} (hg : Gl X "range") (hm : X.mg "range" = none) (h : ZA X W cl [a, b] zs) (hs : nostar a = true) (hs2 : nostar b = true) : Zi X W cl tg (.Call (.Name "range" p) [a, b] [] pos) (zRng2 zs) := by
  obtain ⟨t, pa, q⟩ := h.ex
  refine ⟨_, pi_range2 hg hm pa ((star_ok hs).trans (congrArg _ (star_ok hs2))) (star_ok hs2), fun F ph M env σ H R h1 h2 S P => q F ph M env σ H _ h1 h2 S (Post.step P fun ds M1 ph1 H1 vs S1 f1 r1 P1 => ?_)⟩
  split at P1
  · rename_i i j
    split at P1
    · rename_i hs
      simp only [Bool.and_eq_true] at hs
      obtain ⟨b1, b2⟩ := sm62_ok hs.1
      obtain ⟨b3, b4⟩ := sm62_ok hs.2
      exact ⟨i, j, two_int r1, ⟨b1, b2, b3, b4⟩, P1.now S1 (itok_fn walk_rng1)⟩
    · exact P1.elim
  · exact P1.elim
theorem zi_range3 {tg c : Expr} {p : Pos} (hg : Gl X "range") (hm : X.mg "range" = none) (h : ZA X W cl [a, b, c] zs) (hs : nostar a = true) (hs2 : nostar b = true) (hs3 : nostar c = true) : Zi X W cl tg (.Call (.Name "range" p) [a, b, c] [] pos) (zRng3 zs) := by
  obtain ⟨t, pa, q⟩ := h.ex
  have hpl : (backTo pos (starEach [b, c] X.env)).any (·.1) = false := by rw [star_ok hs2, star_ok hs3]; rfl
  refine ⟨_, pi_range3 hg hm pa (star_ok hs) hpl, fun F ph M env σ H R h1 h2 S P => q F ph M env σ H _ h1 h2 S (Post.step P fun ds M1 ph1 H1 vs S1 f1 r1 P1 => ?_)⟩
  split at P1
  · rename_i i j k
    split at P1
    · rename_i hs
      simp only [Bool.and_eq_true, decide_eq_true_eq] at hs
      exact ⟨i, j, k, _, three_int r1, ⟨hs.1, hs.2.1, hs.2.2.1, hs.2.2.2⟩, P1.now S1 (itok_fn walk_rangeC)⟩
    · exact P1.elim
  · exact P1.elim
end
end Zy
set_option maxHeartbeats 2000000
namespace Zy
open PySem PySem.Spec PyProof.Rows L2

/-! what may be changed: one's own slot, a cell of the store -/
def getPl (env : Ev) (M : Sto) (i : Nat) : Option D := match env[i]? with
  | some (.own d) => some d
  | some (.val (.ref c)) => M[c]?
  | _ => none
def setPl (env : Ev) (M : Sto) (i : Nat) (d : D) : Ev × Sto := match env[i]? with
  | some (.own _) => (env.set i (.own d), M)
  | some (.val (.ref c)) => (env, M.set c d)
  | _ => (env, M)
section
variable {F : Fr} {W : WX} {ph ph' : List Addr} {M M' : Sto} {env env' : Ev} {σ σ' : St} {H H' : Hp} {B : Ends} {G : Gh}
theorem mo_wr {a : Addr} {o' : HO} (h : G.off a) : Mo G G H (upd H a o') := ⟨fun b o e n => by
  have nb : b ≠ a := fun z => n (by rw [z]; exact h)
  exact ⟨by rw [upd_ne nb]; exact e, n⟩, fun _ _ h => h, rfl, rfl⟩
theorem Sim.wrCel {c : Nat} {d' : D} {a : Addr} {o' : HO} (S : Sim F ph M env σ H) (hc : ph[c]? = some a) (c' : Cel (gh F ph env σ) (upd H a o') a d') :
    Sim F ph (M.set c d') env σ (upd H a o') ∧ Fws F ph env σ H ph env σ (upd H a o') := by
  have ha : a ∈ ph := List.mem_of_getElem? hc
  have offa : (gh F ph env σ).off a := .inr ha
  have m : Mo (gh F ph env σ) (gh F ph env σ) H (upd H a o') := mo_wr offa
  have kp : ∀ b, b ≠ a → ∀ o, H b = some o → upd H a o' b = some o := fun b nb o e => by rw [upd_ne nb]; exact e
  have there : ∀ b o, H b = some o → ∃ u, upd H a o' b = some u := fun b o e => by
    by_cases nb : b = a
    · exact ⟨o', by rw [nb]; exact upd_same⟩
    · exact ⟨o, kp b nb o e⟩
  refine ⟨⟨S.len, S.pre, fun b u e n => ?_, fun b z => ?_, by rw [List.length_set]; exact S.ml, S.nd, fun j d e => ?_, fun j d e => ?_, fun j d e => ?_, S.ap, fun j d e => ?_⟩,
    ⟨⟨[], by simp, fun b h => by simp at h⟩, fun b o e n => (m.keep b o e n).1, fun b z => .inl z, there⟩⟩
  · refine kp b (fun z => ?_) u (S.keep b u e n)
    obtain ⟨ps, e1, hps⟩ := S.pre
    rw [z] at n e
    rw [e1] at ha
    rcases List.mem_append.mp ha with q | q
    · exact n q
    · rw [hps a q] at e
      cases e
  · obtain ⟨⟨o, q⟩, n⟩ := S.n0 b z
    exact ⟨there b o q, n⟩
  · by_cases hj : j = c
    · subst hj
      refine ⟨a, hc, ?_⟩
      have hl : j < M.length := by rw [S.ml]; exact (List.getElem?_eq_some_iff.mp hc).1
      rw [List.getElem?_set_self hl] at e
      cases e
      exact c'
    · rw [List.getElem?_set_ne (fun z => hj z.symm)] at e
      obtain ⟨b, q, cc⟩ := S.sto j d e
      refine ⟨b, q, cc.mo m (kp b fun z => hj ?_)⟩
      rw [z] at q
      exact (List.getElem?_inj (List.getElem?_eq_some_iff.mp q).1 S.nd).mp (q.trans hc.symm)
  · obtain ⟨v, q, r⟩ := S.val j d e
    exact ⟨v, q, r.mo m⟩
  · obtain ⟨b, q, cc, h, n, k⟩ := S.own j d e
    exact ⟨b, q, cc.mo m (kp b fun z => n (z ▸ ha)), h, n, k⟩
  · obtain ⟨b, q, n, cc, o⟩ := S.brw j d e
    exact ⟨b, q, n, cc.mo m (kp b fun z => (S.n0 b n).2 (z ▸ ha)), o⟩
theorem Sim.place {i : Nat} {d : D} (S : Sim F ph M env σ H) (e : getPl env M i = some d) :
    ∃ a, σ[i]? = some (some (.ref a)) ∧ Cel (gh F ph env σ) H a d ∧ (gh F ph env σ).off a ∧
      ∀ o' d', Cel (gh F ph env σ) (upd H a o') a d' → Sim F ph (setPl env M i d').2 (setPl env M i d').1 σ (upd H a o') ∧ Fws F ph env σ H ph (setPl env M i d').1 σ (upd H a o') := by
  unfold getPl at e
  unfold setPl
  split at e
  · rename_i d0 e0
    cases e
    obtain ⟨a, q, c, _⟩ := S.own i _ e0
    refine ⟨a, q, c, .inl (.inr ⟨i, _, e0, q⟩), fun o' d' c' => ?_⟩
    exact S.wrOwn e0 q c'
  · rename_i c0 e0
    obtain ⟨v, q, r⟩ := S.val i _ e0
    cases r with
    | @ref a _ h =>
      obtain ⟨b, q2, c⟩ := S.sto c0 d e
      have h' : ph[c0]? = some a := h
      rw [h'] at q2
      cases q2
      exact ⟨a, q, c, .inr (List.mem_of_getElem? h'), fun o' d' c' => S.wrCel h' c'⟩
  · cases e
end
section
variable {X : Cx} {W : WX} {cl : String → Option Addr} {e a b : Expr} {es : List Expr} {z za zb zc : ZX} {zs : ZL} {pos pos' p1 p2 p3 : Pos} {i j : Nat} {x : Str}
/-- x[k] = e -/
def putL (env : Ev) (M : Sto) (i : Nat) (k v : D) : Out := match getPl env M i, k with
  | some (.lst ds), .int n => match ixN ds.length n with
    | some j => .nx (setPl env M i (.lst (ds.set j v))).1 (setPl env M i (.lst (ds.set j v))).2
    | none => .fail
  | _, _ => .fail
def zPut (i : Nat) (ze zi : ZX) : ZS := fun env M => (ze env M).toS env fun v M1 => match getPl env M1 i with
  | some _ => (zi env M1).toS env fun k M2 => putL env M2 i k v
  | none => .fail
theorem putL_run {F : Fr} {ph : List Addr} {M : Sto} {env : Ev} {σ : St} {H : Hp} {B : Ends} {k v : D} {kv vv : V} (S : Sim F ph M env σ H) (rk : Rep (gh F ph env σ) H kv k) (rv : Rep (gh F ph env σ) H vv v) (P : PoS F W env σ ph H B (putL env M i k v)) :
    ∃ o, σ[i]? = some (some o) ∧ rSetL o kv vv H fun H3 => B.nx σ H3 := by
  unfold putL at P
  split at P
  · rename_i ds n e1
    split at P
    · rename_i j e2
      obtain ⟨p, q, c, off, wr⟩ := S.place e1
      cases c with
      | @lst xs _ h r =>
        cases rk
        have r2 : RepL (gh F ph env σ) (upd H p (.lst (xs.set j vv))) (xs.set j vv) (ds.set j v) := RepL.mo (mo_wr off) (r.set rv j)
        obtain ⟨S', f'⟩ := wr (.lst (xs.set j vv)) (.lst (ds.set j v)) (.lst upd_same r2)
        refine ⟨_, q, p, xs, n, j, rfl, rfl, h, by rw [r.length]; exact e2, P.nxt S' f'⟩
    · exact P.elim
  · exact P.elim
theorem zs_put (hN : X.N[i]? = some x) (hv : Vis X.env.scope x) (hd : (x == ("__debug__" : Str)) = false) (hcd : (x == ("__classdict__" : Str)) = false) (h : ZE X W cl e z) (hk : ZE X W cl b zb)
    (hs : swapsWithSole [.Subscript (.Name x p1) b p2] e pos.line X.env = pure false) (hw : swappedStores [.Subscript (.Name x p1) b p2] e X.env = pure none)
    (h1 : (assignEach [.Subscript (.Name x p1) b p2] X.env).map (·.2) = [assign (.Subscript (.Name x p1) b p2) X.env])
    (ha : ∀ v, assign (.Subscript (.Name x p1) b p2) X.env v = (do
      let ov ← holding [v] (eval (.Name x p1) X.env)
      let iv ← holding [v, ov] (eval b X.env)
      standAt p2
      holding [v, ov, iv] (setItem ov iv v)
      release [v, ov, iv] [])) :
    Zs X W cl (.Assign [.Subscript (.Name x p1) b p2] e pos) (zPut i z zb) := by
  obtain ⟨t, p, q⟩ := h.ex
  obtain ⟨tb, pb, qb⟩ := hk.ex
  refine ⟨_, ps_asg p (pg_sub (pe_var hN hv hd hcd) pb set_list ha) hs hw h1, fun F ph M env σ H B h1 h2 S P => q F ph M env σ H _ h1 h2 S (PoS.step P fun v M1 ph1 H1 vv S1 f1 r1 P1 => ?_)⟩
  cases e1 : getPl env M1 i with
  | none => rw [e1] at P1; exact P1.elim
  | some d0 =>
    rw [e1] at P1
    obtain ⟨a, q0, _⟩ := S1.place e1
    refine ⟨.ref a, q0, qb F ph1 M1 env σ H1 _ h1 h2 S1 (PoS.step P1 fun k M2 ph2 H2 kv S2 f2 r2 P2 => ?_)⟩
    obtain ⟨o, q1, r⟩ := putL_run S2 r2 (r1.mo (f2.mo S1)) P2
    rw [q0] at q1
    cases q1
    exact r
/-- x.append(e) -/
def zApp (i : Nat) (z : ZX) : ZS := fun env M => match getPl env M i with
  | some (.lst _) => (z env M).toS env fun v M1 => match getPl env M1 i with
    | some (.lst ds) => if ds.length < sizeLine then .nx (setPl env M1 i (.lst (ds ++ [v]))).1 (setPl env M1 i (.lst (ds ++ [v]))).2 else .fail
    | _ => .fail
  | _ => .fail
theorem cel_lst {G : Gh} {H : Hp} {a : Addr} {ds : List D} (c : Cel G H a (.lst ds)) : ∃ xs, H a = some (.lst xs) ∧ RepL G H xs ds := by
  cases c with | lst h r => exact ⟨_, h, r⟩
theorem zs_app (hN : X.N[i]? = some x) (hv : Vis X.env.scope x) (hd : (x == ("__debug__" : Str)) = false) (hcd : (x == ("__classdict__" : Str)) = false) (h : ZE X W cl e z) (hn : nostar e = true) (hs : swapsWith (.Call (.Attribute (.Name x p1) "append" p2) [e] [] p3) none pos.line X.env = pure false)
    (hline : (p2.endLine == p3.line) = true) : Zs X W cl (.Expr (.Call (.Attribute (.Name x p1) "append" p2) [e] [] p3) pos) (zApp i z) := by
  obtain ⟨t, p, q⟩ := h.ex
  refine ⟨_, ps_expr (pe_bm PySem.F.plainAttrs_list PySem.F.slot_list_append PySem.F.type_list_append mt_append (pe_var hN hv hd hcd) (pa_cons p pa_nil (star_ok hn)) (hbase := by rfl) (hfew := ?_) (hline := hline) (hs := star_ok hn) (hplain := by rfl)) hs, fun F ph M env σ H B h1 h2 S P => ?_⟩
  · rw [star_ok hn]; rfl
  · unfold zApp at P
    split at P
    · rename_i ds0 e0
      obtain ⟨a, q0, c0, off0, _⟩ := S.place e0
      obtain ⟨xs0, hx0, _⟩ := cel_lst c0
      refine ⟨.ref a, q0, .inl ⟨rfl, xs0, SqL.of hx0⟩, q F ph M env σ H _ h1 h2 S (PoS.step P fun v M1 ph1 H1 vv S1 f1 r1 P1 => ?_)⟩
      split at P1
      · rename_i ds e1
        obtain ⟨a1, q1, c1, off, wr⟩ := S1.place e1
        rw [q0] at q1
        cases q1
        split at P1
        · rename_i hl
          obtain ⟨xs, hx, rx⟩ := cel_lst c1
          have r2 : RepL (gh F ph1 env σ) (upd H1 a (.lst (xs ++ [vv]))) (xs ++ [vv]) (ds ++ [v]) := RepL.mo (mo_wr off) (rx.app (.cons r1 .nil))
          obtain ⟨S', f'⟩ := wr (.lst (xs ++ [vv])) (.lst (ds ++ [v])) (.lst upd_same r2)
          exact ⟨a, xs, vv, rfl, rfl, hx, by rw [rx.length]; exact hl, P1.nxt S' f'⟩
        · exact P1.elim
      · exact P1.elim
    · exact P.elim
/-- x op= e, a number -/
def zAugN (i : Nat) (g : Int → Int → Int) (z : ZX) : ZS := fun env M => match env[i]? with
  | some (.val (.int n)) => (z env M).toS env fun v M1 => match v with
    | .int m => .nx (env.set i (.val (.int (g n m)))) M1
    | _ => .fail
  | _ => .fail
theorem zs_aug {op : Operator} {g : Int → Int → Int} (ho : PIp X op (ipI g)) (hN : X.N.Nodup) (hi : X.N[i]? = some x) (hx : Loc X.env.scope x) (hf : X.fn x = true ∨ X.env.scope.names.lookup x = some .local) (h : ZE X W cl e z) :
    Zs X W cl (.AugAssign (.Name x pos') op e pos) (zAugN i g z) := by
  obtain ⟨t, p, q⟩ := h.ex
  refine ⟨_, ps_aug hN hi hx p ho hf, fun F ph M env σ H B h1 h2 S P => ?_⟩
  unfold zAugN at P
  split at P
  · rename_i n e0
    obtain ⟨v, q0, r0⟩ := S.val i _ e0
    cases r0
    refine ⟨.int n, q0, q F ph M env σ H _ h1 h2 S (PoS.step P fun d M1 ph1 H1 vv S1 f1 r1 P1 => ?_)⟩
    split at P1
    · rename_i m
      cases r1
      exact ⟨n, m, rfl, rfl, P1.setV S1 (.int _)⟩
    · exact P1.elim
  · exact P.elim
end
end Zy
set_option maxHeartbeats 2000000
namespace Zy
open PySem PySem.Spec PyProof.Rows L2

/-! one reading for each meaning -/
def tE (W : WX) (cl : String → Option Addr) (K : PySem.W.Frag) (z : ZX) : TE := fun σ H Q => ∃ F ph M env, F.cl = cl ∧ F.K = K ∧ Sim F ph M env σ H ∧ PoE F W env σ ph H Q (z env M)
def tB (W : WX) (cl : String → Option Addr) (K : PySem.W.Frag) (z : ZB) : TT := fun σ H Q => ∃ F ph M env, F.cl = cl ∧ F.K = K ∧ Sim F ph M env σ H ∧ PoT F W env σ ph H Q (z env M)
section
variable {X : Cx} {W : WX} {cl : String → Option Addr} {e : Expr} {z : ZX} {y : ZB}
theorem ZE.pe (h : ZE X W cl e z) : PE X e (tE W cl X.K z) := by
  obtain ⟨t, p, q⟩ := h.ex
  exact ⟨fun pins s σ H Q I ⟨F, ph, M, env, h1, h2, S, P⟩ => p.run pins s σ H Q I (q F ph M env σ H Q h1 h2 S P)⟩
theorem ZT.pt (h : ZT X W cl e y) : PT X e (tB W cl X.K y) := by
  obtain ⟨t, p, q⟩ := h.ex
  exact ⟨fun pins s σ H Q I ⟨F, ph, M, env, h1, h2, S, P⟩ => p.run pins s σ H Q I (q F ph M env σ H Q h1 h2 S P)⟩
end
section
variable {F F' : Fr} {W : WX} {ph ph' : List Addr} {M M' : Sto} {env env' : Ev} {σ σ' : St} {H H' : Hp}
/-- back in the frame around, behind what ran in another -/
theorem Sim.back (S : Sim F ph M env σ H) (S' : Sim F' ph' M' env' σ' H') (f : Fwd ph H ph' H') (hK : F'.K = F.K) (hc : F'.cl = F.cl) (hN : ∀ a, nof F env σ a → nof F' env' σ' a) : Sim F ph' M' env σ H' := by
  have m : Mo (gh F ph env σ) (gh F ph' env σ) H H' := f.mo S
  have m' : Mo (gh F' ph' env' σ') (gh F ph' env σ) H' H' := ⟨fun a o e n => ⟨e, fun z => n (z.elim (fun z => .inl (hN a z)) .inr)⟩, fun _ _ e => e, hc.symm, hK.symm⟩
  obtain ⟨ps, e1, n1⟩ := S.pre
  obtain ⟨qs, e2, n2⟩ := f.ext
  have nph : ∀ a o, F.H0 a = some o → a ∉ F.ph0 → a ∉ ph := fun a o e n z => by
    rw [e1] at z
    rcases List.mem_append.mp z with z | z
    · exact n z
    · rw [n1 a z] at e
      cases e
  have old : ∀ a, a ∉ ph → (∃ o, H a = some o) → a ∉ ph' := fun a n ⟨o, e⟩ z => by
    rw [e2] at z
    rcases List.mem_append.mp z with z | z
    · exact n z
    · rw [n2 a z] at e
      cases e
  refine ⟨S.len, ⟨ps ++ qs, by rw [e2, e1, List.append_assoc], fun a z => ?_⟩, fun a o e n => f.keep a o (S.keep a o e n) (nph a o e n), fun a z => ?_, S'.ml, S'.nd, fun i d e => ?_, fun i d e => ?_, fun i d e => ?_, S.ap, fun i d e => ?_⟩
  · rcases List.mem_append.mp z with z | z
    · exact n1 a z
    · exact S.h0 (n2 a z)
  · obtain ⟨⟨o, q⟩, n⟩ := S.n0 a z
    exact ⟨f.there a o q, old a n ⟨o, q⟩⟩
  · obtain ⟨a, q, c⟩ := S'.sto i d e
    exact ⟨a, q, c.mo m' fun _ h => h⟩
  · obtain ⟨v, q, r⟩ := S.val i d e
    exact ⟨v, q, r.mo m⟩
  · obtain ⟨a, q, c, h0, n, k⟩ := S.own i d e
    exact ⟨a, q, c.mo m fun o h => f.keep a o h n, h0, old a n c.there, k⟩
  · obtain ⟨a, q, n, c, o⟩ := S.brw i d e
    exact ⟨a, q, n, c.mo m fun o h => f.keep a o h (S.n0 a n).2, o⟩
/-! a block's own names -/
def wipeE (env : Ev) : List Nat → Ev
  | [] => env
  | v :: vs => (wipeE env vs).set v .no
theorem wipeE_some {i : Nat} {w : Sl} : ∀ {vs : List Nat}, (wipeE env vs)[i]? = some w → w ≠ .no → env[i]? = some w ∧ i ∉ vs
  | [], h, _ => ⟨h, by simp⟩
  | v :: vs, h, n => by
    unfold wipeE at h
    rcases getE_set h with ⟨_, e⟩ | ⟨ne, e⟩
    · exact absurd e n
    · obtain ⟨h1, h2⟩ := wipeE_some e n
      exact ⟨h1, by simp only [List.mem_cons, not_or]; exact ⟨ne, h2⟩⟩
theorem wipeE_len : ∀ {vs : List Nat}, (wipeE env vs).length = env.length
  | [] => rfl
  | v :: vs => by unfold wipeE; rw [List.length_set, wipeE_len]
theorem wipe_keep {i : Nat} : ∀ {vs : List Nat}, i ∉ vs → (wipe σ vs)[i]? = σ[i]?
  | [], _ => rfl
  | v :: vs, h => by
    simp only [List.mem_cons, not_or] at h
    unfold wipe
    rw [List.getElem?_set_ne (fun z => h.1 z.symm), wipe_keep h.2]
theorem wipeE_keep {i : Nat} : ∀ {vs : List Nat}, i ∉ vs → (wipeE env vs)[i]? = env[i]?
  | [], _ => rfl
  | v :: vs, h => by
    simp only [List.mem_cons, not_or] at h
    unfold wipeE
    rw [List.getElem?_set_ne (fun z => h.1 z.symm), wipeE_keep h.2]
theorem wipe_in {i : Nat} : ∀ {vs : List Nat}, i ∈ vs → (wipe σ vs)[i]? = σ[i]?.map fun _ => none
  | [], h => by simp at h
  | v :: vs, h => by
    unfold wipe
    by_cases e : v = i
    · subst e
      by_cases hl : v < σ.length
      · rw [List.getElem?_set_self (by rw [wipe_length]; exact hl), List.getElem?_eq_getElem hl]
        rfl
      · rw [List.getElem?_eq_none (by rw [List.length_set, wipe_length]; omega), List.getElem?_eq_none (by omega)]
        rfl
    · rw [List.getElem?_set_ne e]
      have h' : i ∈ vs := by
        rcases List.mem_cons.mp h with h | h
        · exact absurd h.symm e
        · exact h
      exact wipe_in h'
theorem wipe_eq {vs : List Nat} (h : ∀ i, i ∉ vs → σ'[i]? = σ[i]?) (hl : σ'.length = σ.length) : wipe σ' vs = wipe σ vs := by
  apply List.ext_getElem?
  intro i
  by_cases hi : i ∈ vs
  · rw [wipe_in hi, wipe_in hi]
    by_cases hb : i < σ.length
    · rw [List.getElem?_eq_getElem hb, List.getElem?_eq_getElem (by omega)]
      rfl
    · rw [List.getElem?_eq_none (by omega), List.getElem?_eq_none (by omega)]
  · rw [wipe_keep hi, wipe_keep hi, h i hi]
def noOwn (env : Ev) (vs : List Nat) : Bool := vs.all fun i => match env[i]? with
  | some (.own _) => false
  | _ => true
theorem noOwn_at {vs : List Nat} (h : noOwn env vs = true) {i : Nat} (hi : i ∈ vs) {d : D} : env[i]? ≠ some (.own d) := fun e => by
  have := List.all_eq_true.mp h i hi
  rw [e] at this
  cases this
theorem nof_wipe {vs : List Nat} (h : noOwn env vs = true) (a : Addr) : nof F (wipeE env vs) (wipe σ vs) a ↔ nof F env σ a := by
  constructor
  · rintro (z | ⟨i, d, e1, e2⟩)
    · exact .inl z
    · obtain ⟨h1, h2⟩ := wipeE_some e1 (fun z => nomatch z)
      rw [wipe_keep h2] at e2
      exact .inr ⟨i, d, h1, e2⟩
  · rintro (z | ⟨i, d, e1, e2⟩)
    · exact .inl z
    · have hi : i ∉ vs := fun hi => noOwn_at h hi e1
      exact .inr ⟨i, d, by rw [wipeE_keep hi]; exact e1, by rw [wipe_keep hi]; exact e2⟩
theorem Sim.block {vs : List Nat} (S : Sim F ph M env σ H) (h : noOwn env vs = true) : Sim F ph M (wipeE env vs) (wipe σ vs) H := by
  have m : Mo (gh F ph env σ) (gh F ph (wipeE env vs) (wipe σ vs)) H H := gh_mo fun a z => (nof_wipe h a).mp z
  refine ⟨by rw [wipeE_len, wipe_length]; exact S.len, S.pre, S.keep, S.n0, S.ml, S.nd, fun i d e => ?_, fun i d e => ?_, fun i d e => ?_, fun i j d e a e1 e2 e3 e4 => ?_, fun i d e => ?_⟩
  · obtain ⟨a, q, c⟩ := S.sto i d e
    exact ⟨a, q, c.mo m fun _ h => h⟩
  · obtain ⟨h1, h2⟩ := wipeE_some e (fun z => nomatch z)
    obtain ⟨v, q, r⟩ := S.val i d h1
    exact ⟨v, by rw [wipe_keep h2]; exact q, r.mo m⟩
  · obtain ⟨h1, h2⟩ := wipeE_some e (fun z => nomatch z)
    obtain ⟨a, q, c, r⟩ := S.own i d h1
    exact ⟨a, by rw [wipe_keep h2]; exact q, c.mo m fun _ h => h, r⟩
  · obtain ⟨h1, h2⟩ := wipeE_some e1 (fun z => nomatch z)
    obtain ⟨h3, h4⟩ := wipeE_some e2 (fun z => nomatch z)
    rw [wipe_keep h2] at e3
    rw [wipe_keep h4] at e4
    exact S.ap i j d e a h1 h3 e3 e4
  · obtain ⟨h1, h2⟩ := wipeE_some e (fun z => nomatch z)
    obtain ⟨a, q, n, c, o⟩ := S.brw i d h1
    exact ⟨a, by rw [wipe_keep h2]; exact q, n, c.mo m fun _ h => h, o⟩
end
/-! targets within a block -/
def RunT (K : PySem.W.Frag) (is : List Nat) (gz : ZTg) (g : TG) : Prop := ∀ F ph M env σ H (Q : St → Hp → Prop) v d env', F.K = K → Sim F ph M env σ H → Rep (gh F ph env σ) H v d → gz d env = some env' →
    (∀ σ', Sim F ph M env' σ' H → (∀ a, nof F env' σ' a → nof F env σ a) → (∀ i, i ∉ is → σ'[i]? = σ[i]? ∧ env'[i]? = env[i]?) → σ'.length = σ.length → Q σ' H) → g v σ H Q
structure Zgb (X : Cx) (tg : Expr) (is : List Nat) (gz : ZTg) (g : TG) : Prop where
  pg : PG X tg g
  run : RunT X.K is gz g
section
variable {X : Cx} {i : Nat} {x : Str} {pos : Pos} {es : List Expr}
theorem zgb_name (hN : X.N.Nodup) (hi : X.N[i]? = some x) (hx : Loc X.env.scope x) (hf : X.fn x = true ∨ X.env.scope.names.lookup x = some .local) : Zgb X (.Name x pos) [i] (tgN i) (gName i) :=
  ⟨pg_name hN hi hx hf, fun F ph M env σ H Q v d env' _ S r e k => by
    cases e
    refine k _ (S.setV r) (fun a z => ?_) (fun j hj => ?_) (List.length_set ..)
    · rcases z with z | ⟨j, d', e1, e2⟩
      · exact .inl z
      · rcases getE_set e1 with ⟨_, e⟩ | ⟨ne, e⟩
        · cases e
        · rcases getE_set e2 with ⟨e', _⟩ | ⟨_, e'⟩
          · exact absurd e' ne
          · exact .inr ⟨j, d', e, e'⟩
    · exact ⟨List.getElem?_set_ne fun z => hj (by simp [z]), List.getElem?_set_ne fun z => hj (by simp [z])⟩⟩
theorem nms_runB {F : Fr} {ph : List Addr} {M : Sto} {H : Hp} : ∀ {is : List Nat} {env : Ev} {σ : St} {xs : List V} {ds : List D} {env' : Ev} {Q : St → Hp → Prop}, Sim F ph M env σ H → RepL (gh F ph env σ) H xs ds → setAll env is ds = some env' →
    (∀ σ', Sim F ph M env' σ' H → (∀ a, nof F env' σ' a → nof F env σ a) → (∀ i, i ∉ is → σ'[i]? = σ[i]? ∧ env'[i]? = env[i]?) → σ'.length = σ.length → Q σ' H) → gNms is xs σ H Q
  | [], env, σ, xs, ds, env', Q, S, r, e, k => by
    cases ds with
    | nil =>
      cases r
      cases e
      exact ⟨rfl, k σ S (fun _ z => z) (fun _ _ => ⟨rfl, rfl⟩) rfl⟩
    | cons d ds => cases e
  | i :: is, env, σ, xs, ds, env', Q, S, r, e, k => by
    cases ds with
    | nil => cases e
    | cons d ds =>
      cases r with
      | @cons v _ _ _ h t =>
        refine ⟨_, _, rfl, ?_⟩
        have f : Fws F ph env σ H ph (env.set i (.val d)) (σ.set i (some v)) H := Fws.setV fun _ e => nomatch e
        refine nms_runB (is := is) (S.setV h) (RepL.mo f.mo t) e fun σ' S' n' k' l' => k σ' S' (fun a z => ?_) (fun j hj => ?_) (l'.trans (List.length_set ..))
        · rcases n' a z with z | ⟨j, d', e1, e2⟩
          · exact .inl z
          · rcases getE_set e1 with ⟨_, e⟩ | ⟨ne, e⟩
            · cases e
            · rcases getE_set e2 with ⟨e', _⟩ | ⟨_, e'⟩
              · exact absurd e' ne
              · exact .inr ⟨j, d', e, e'⟩
        · simp only [List.mem_cons, not_or] at hj
          exact ⟨by rw [(k' j hj.2).1, List.getElem?_set_ne fun z => hj.1 z.symm], by rw [(k' j hj.2).2, List.getElem?_set_ne fun z => hj.1 z.symm]⟩
theorem zgb_names {k : Nat} {is : List Nat} (hc : X.calm = true) (g : NamesAt X es is) : Zgb X (.Tuple es k pos) is (tgT is) (fun v σ H Q => gTup X.K is.length (gNms is) v σ H Q ∨ gUnl X.K is.length (gNms is) v σ H Q) := by
  refine ⟨PG.or (pg_tup (n := is.length) hc g.gs g.len g.st) (pg_unl (n := is.length) hc g.gs g.len g.st), fun F ph M env σ H Q v d env' hK S r e k => ?_⟩
  unfold tgT at e
  cases e1 : itemsD d with
  | none => rw [e1] at e; cases e
  | some ds =>
    rw [e1] at e
    have e2 : setAll env is ds = some env' := e
    obtain ⟨a, xs, rfl, hq, rr⟩ := (Lk.of r).seq e1
    have hK' : (gh F ph env σ).K = X.K := hK
    rw [hK'] at hq
    have hl : xs.length = is.length := by rw [rr.length, setAll_len e2]
    have run := nms_runB S rr e2 k
    rcases hq with hq | hq
    · exact .inr ⟨a, xs, rfl, hq, hl, run⟩
    · exact .inl ⟨a, xs, rfl, hq, hl, run⟩
end
/-! list comprehensions -/
def Wf : WX := fun _ _ _ _ => False
def zLcL (gz : ZTg) (zt : ZB) (ze : ZX) (envb : Ev) : List D → List D → Sto → Res D
  | [], acc, M => .ok (.lst acc) M
  | d :: ds, acc, M => match gz d envb with
    | some envc => match zt envc M with
      | .ok true M1 => match ze envc M1 with
        | .ok y M2 => if acc.length < sizeLine then zLcL gz zt ze envb ds (acc ++ [y]) M2 else .fail
        | _ => .fail
      | .ok false M1 => zLcL gz zt ze envb ds acc M1
      | _ => .fail
    | none => .fail
def zLc (zi : ZL) (gz : ZTg) (zt : ZB) (ze : ZX) (vs : List Nat) : ZX := fun env M => (zi env M).bind fun ds M1 => if noOwn env vs = true then zLcL gz zt ze (wipeE env vs) ds [] M1 else .fail
/-- a value read in a block, of no wish for exceptions -/
theorem post_block {α β : Type} {Rl : Gh → Hp → β → α → Prop} {F : Fr} {env : Ev} {σ : St} {ph : List Addr} {H : Hp} {Q : β → Hp → Prop} {r : Res α} (h : ∀ a M', r = .ok a M' → ∀ ph' H' b, Sim F ph' M' env σ H' → Fwd ph H ph' H' → Rl (gh F ph' env σ) H' b a → Q b H') (hn : ∃ a M', r = .ok a M') :
    Post Rl F Wf env σ ph H Q r := by
  obtain ⟨a, M', rfl⟩ := hn
  exact fun ph' H' b S f r => h a M' rfl ph' H' b S f r
/-- a cell that the frame leaves alone is written -/
theorem Sim.wrN0 {F : Fr} {ph : List Addr} {M : Sto} {env : Ev} {σ : St} {H : Hp} {a : Addr} {o' : HO} (S : Sim F ph M env σ H) (hn : F.N0 a) (h0 : F.H0 a = none) : Sim F ph M env σ (upd H a o') := by
  have offa : (gh F ph env σ).off a := .inl (.inl hn)
  have m : Mo (gh F ph env σ) (gh F ph env σ) H (upd H a o') := mo_wr offa
  have na : a ∉ ph := (S.n0 a hn).2
  have kp : ∀ b, b ≠ a → ∀ o, H b = some o → upd H a o' b = some o := fun b nb o e => by rw [upd_ne nb]; exact e
  refine ⟨S.len, S.pre, fun b u e n => kp b (fun z => ?_) u (S.keep b u e n), fun b z => ?_, S.ml, S.nd, fun j d e => ?_, fun j d e => ?_, fun j d e => ?_, S.ap, fun j d e => ?_⟩
  · rw [z, h0] at e
    cases e
  · obtain ⟨⟨o, q⟩, n⟩ := S.n0 b z
    refine ⟨?_, n⟩
    by_cases nb : b = a
    · exact ⟨o', by rw [nb]; exact upd_same⟩
    · exact ⟨o, kp b nb o q⟩
  · obtain ⟨b, q, c⟩ := S.sto j d e
    exact ⟨b, q, c.mo m (kp b fun z => na (z ▸ List.mem_of_getElem? q))⟩
  · obtain ⟨v, q, r⟩ := S.val j d e
    exact ⟨v, q, r.mo m⟩
  · obtain ⟨b, q, c, h, n, k⟩ := S.own j d e
    exact ⟨b, q, c.mo m (kp b fun z => k (z ▸ hn)), h, n, k⟩
  · obtain ⟨b, q, n, c, o, ho⟩ := S.brw j d e
    exact ⟨b, q, n, c.mo m (kp b fun z => by rw [z, h0] at ho; cases ho), o, ho⟩
section
variable {X : Cx} {W : WX} {cl : String → Option Addr}
theorem lc_run {zi : ZL} {gz : ZTg} {zt : ZB} {ze : ZX} {is vs : List Nat} {wi : TI} {g : TG} {F : Fr} {ph : List Addr} {M : Sto} {env : Ev} {σ : St} {H : Hp} {Q : VK}
    (qi : ∀ F ph M env σ H R, F.cl = cl → F.K = X.K → Sim F ph M env σ H → PoI F W env σ ph H R (zi env M) → wi σ H R)
    (hg : RunT X.K is gz g)
    (hv : ∀ i ∈ is, i ∈ vs) (h1 : F.cl = cl) (h2 : F.K = X.K) (S : Sim F ph M env σ H) (P : PoF F W env σ ph H Q (zLc zi gz zt ze vs env M)) :
    tLc wi g (tB Wf cl X.K zt) (tE Wf cl X.K ze) vs σ H Q := by
  refine qi F ph M env σ H _ h1 h2 S (PoF.step P fun ds M1 ph1 H1 J S1 f1 r1 P1 => ?_)
  have IO : ItOk F ph1 env σ H1 J ds := r1
  by_cases hno : noOwn env vs = true
  · rw [if_pos hno] at P1
    intro A hA
    obtain ⟨S2, m2⟩ := S1.lay (o := .lst []) hA
    refine ⟨fun i m H2 => m = ds.length - i ∧ i ≤ ds.length ∧ ∃ ph2 M2 acc xs, Sim (F.plus A) ph2 M2 env σ H2 ∧ Fwd ph1 H1 ph2 H2 ∧ H2 A = some (.lst xs) ∧ RepL (gh (F.plus A) ph2 env σ) H2 xs acc ∧
      PoF F W env σ ph1 H1 Q (zLcL gz zt ze (wipeE env vs) (ds.drop i) acc M2), ⟨ds.length, rfl, Nat.zero_le _, ph1, M1, [], [], S2, Fwd.alloc hA, upd_same, .nil, P1⟩, ?_⟩
    rintro i m H2 ⟨rfl, hi, ph2, M2, acc, xs, S3, f3, hx, rx, P3⟩
    obtain ⟨st, go⟩ := IO (F.plus A) ph2 M2 env σ H2 (FrEx.plus hA) S3 f3.ws
    by_cases hlt : i < ds.length
    · have ed : ds.drop i = ds[i] :: ds.drop (i + 1) := List.drop_eq_getElem_cons hlt
      obtain ⟨g1, yl⟩ := go i ds[i] (List.getElem?_eq_getElem hlt)
      rw [ed] at P3
      unfold zLcL at P3
      refine .inr ⟨g1, fun H' => ∃ ph2 M2 acc xs, Sim (F.plus A) ph2 M2 env σ H' ∧ Fwd ph1 H1 ph2 H' ∧ H' A = some (.lst xs) ∧ RepL (gh (F.plus A) ph2 env σ) H' xs acc ∧ PoF F W env σ ph1 H1 Q (zLcL gz zt ze (wipeE env vs) (ds.drop (i + 1)) acc M2),
        fun H' q => ⟨ds.length - (i + 1), by omega, rfl, hlt, q⟩, fun x H3 hy => ?_⟩
      obtain ⟨S4, f4, r4⟩ := yl x H3 hy
      have hA2 : A ∉ ph2 := (S3.n0 A (.inr rfl)).2
      have S5 := S4.block hno
      have rb : Rep (gh (F.plus A) ph2 (wipeE env vs) (wipe σ vs)) H3 x ds[i] := r4.mo (gh_mo fun a z => (nof_wipe hno a).mp z)
      cases e1 : gz ds[i] (wipeE env vs) with
      | none => rw [e1] at P3; exact P3.elim
      | some envc =>
        simp only [e1] at P3
        refine hg (F.plus A) ph2 M2 _ _ H3 _ x _ envc h2 S5 rb e1 fun σc S6 n6 k6 l6 => ⟨wipe_eq (fun j hj => ?_) (l6.trans (wipe_length ..)), ?_⟩
        · rw [(k6 j (fun z => hj (hv j z))).1, wipe_keep hj]
        · have nback : ∀ a, nof (F.plus A) env σ a → nof (F.plus A) envc σc a := fun a z => by
            rcases z with z | ⟨j, d, q1, q2⟩
            · exact .inl z
            · have hj : j ∉ vs := fun z => noOwn_at hno z q1
              obtain ⟨k7, k8⟩ := k6 j (fun z => hj (hv j z))
              exact .inr ⟨j, d, by rw [k8, wipeE_keep hj]; exact q1, by rw [k7, wipe_keep hj]; exact q2⟩
          refine ⟨F.plus A, ph2, M2, envc, h1, h2, S6, ?_⟩
          cases e2 : zt envc M2 with
          | ok b M4 =>
            simp only [e2] at P3
            intro ph4 H4 b' S7 f7 rb'
            cases (show b' = b from rb')
            have S8 : Sim (F.plus A) ph4 M4 env σ H4 := S4.back S7 f7 rfl rfl nback
            have mo8 := f7.mo S4
            have hx4 : H4 A = some (.lst xs) := f7.keep A _ (f4.keep A _ hx hA2) hA2
            have rx4 : RepL (gh (F.plus A) ph4 env σ) H4 xs acc := RepL.mo mo8 (RepL.mo (f4.mo S3) rx)
            cases b with
            | false =>
              refine iteF ⟨ph4, M4, acc, xs, S8, (f3.trans f4).trans f7, hx4, rx4, P3⟩
            | true =>
              refine iteT ⟨F.plus A, ph4, M4, envc, h1, h2, S7, ?_⟩
              cases e3 : ze envc M4 with
              | ok y M5 =>
                simp only [e3] at P3
                by_cases hl : acc.length < sizeLine
                · rw [if_pos hl] at P3
                  intro ph5 H5 v S9 f9 r9
                  have hA4 : A ∉ ph4 := (S8.n0 A (.inr rfl)).2
                  have hx5 : H5 A = some (.lst xs) := f9.keep A _ hx4 hA4
                  have S10 : Sim (F.plus A) ph5 M5 env σ H5 := S8.back S9 f9 rfl rfl nback
                  have rx5 : RepL (gh (F.plus A) ph5 env σ) H5 xs acc := RepL.mo (f9.mo S8) rx4
                  have r10 : Rep (gh (F.plus A) ph5 env σ) H5 v y := r9.mo (gh_mo nback)
                  refine ⟨xs, hx5, by rw [rx5.length]; exact hl, ph5, M5, acc ++ [y], xs ++ [v], ?_, ?_, upd_same, ?_, P3⟩
                  · exact S10.wrN0 (.inr rfl) (S.h0 (f1.back hA))
                  · refine ⟨((f3.trans f4).trans (f7.trans f9)).ext, fun a o e n => ?_, fun a o e => ?_⟩
                    · rw [upd_ne (ne_of_none e hA)]
                      exact ((f3.trans f4).trans (f7.trans f9)).keep a o e n
                    · rw [upd_ne (ne_of_none e hA)]
                      exact ((f3.trans f4).trans (f7.trans f9)).there a o e
                  · exact RepL.mo (mo_wr (show (gh (F.plus A) ph5 env σ).off A from .inl (.inl (.inr rfl)))) (rx5.app (.cons r10 .nil))
                · rw [if_neg hl] at P3; exact P3.elim
              | exc c fs M5 => simp only [e3] at P3; exact P3.elim
              | fail => simp only [e3] at P3; exact P3.elim
          | exc c fs M4 => simp only [e2] at P3; exact P3.elim
          | fail => simp only [e2] at P3; exact P3.elim
    · have e : i = ds.length := by omega
      subst e
      rw [List.drop_length] at P3
      exact .inl ⟨st, P3 ph2 H2 A S3 f3 (.lst hx rx) hA⟩
  · rw [if_neg hno] at P1
    exact P1.elim
theorem pof_of {F : Fr} {env : Ev} {σ : St} {ph : List Addr} {M : Sto} {H : Hp} {Q : VK} {r : Res D} (S : Sim F ph M env σ H) (P : PoE F W env σ ph H Q r) : PoF F W env σ ph H Q r := by
  cases r with
  | fail => exact P
  | exc c fs M' => exact P
  | ok d M' =>
    intro ph' H' a S' f c hn
    obtain ⟨S1, m⟩ := S'.unplus (S.h0 hn)
    refine P ph' H' (.ref a) S1 f (c.rep m fun z => ?_)
    rcases z with z | z
    · exact nof_none (M := M) (ph := ph) (H := H) (F := F) (env := env) (σ := σ) S hn (by
        rcases z with z | ⟨i, d', e1, e2⟩
        · exact .inl z
        · exact .inr ⟨i, d', e1, e2⟩)
    · exact (S'.n0 a (.inr rfl)).2 z
/-- what a comprehension asks of its parts -/
structure LcOk (X : Cx) (cl : String → Option Addr) (W : WX) (tg iter elt : Expr) (ifs : List Expr) (scope : Scope) (own : List (Str × Nat)) (zi : ZL) (gz : ZTg) (zt : ZB) (ze : ZX) : Prop where
  it : Zi X W cl tg iter zi
  blk : BlkOk X.N X.env.scope scope own
  tgt : ∃ is g, (∀ i ∈ is, i ∈ own.map (·.2)) ∧ RunT X.K is gz g ∧ ∀ (s : Shared) (H : Hp) (C : Addr) (cs : List (Str × Addr)) (fp : List Addr), PG (X.blk s H scope (compEnvC scope cs C X.env) fp) tg g
  tst : (ifs = [] ∧ zt = fun _ M => .ok true M) ∨ ∃ c, ifs = [c] ∧ ∀ (s : Shared) (H : Hp) (C : Addr) (cs : List (Str × Addr)) (fp : List Addr), ZT (X.blk s H scope (compEnvC scope cs C X.env) fp) Wf cl c zt
  el : ∀ (s : Shared) (H : Hp) (C : Addr) (cs : List (Str × Addr)) (fp : List Addr), ZE (X.blk s H scope (compEnvC scope cs C X.env) fp) Wf cl elt ze
  fold : ∀ x, foldedSetIterable iter X.env x = pure x
variable {tg iter elt : Expr} {ifs : List Expr} {scope : Scope} {own : List (Str × Nat)} {zi : ZL} {gz : ZTg} {zt : ZB} {ze : ZX} {pos pos' spos : Pos} {i : Nat} {x : Str}
theorem pts_of {Y : Cx} (hK : Y.K = X.K) (h : (ifs = [] ∧ zt = fun _ M => .ok true M) ∨ ∃ c, ifs = [c] ∧ ZT Y Wf cl c zt) : PTs Y ifs (tB Wf cl X.K zt) := by
  rcases h with ⟨rfl, rfl⟩ | ⟨c, rfl, h⟩
  · exact ⟨fun pins s σ H Q I ⟨F, ph, M, env, h1, h2, S, P⟩ => pts_nil.run pins s σ H Q I (P ph H true S Fwd.refl rfl)⟩
  · rw [← hK]
    exact pts_one h.pt
theorem LcOk.parts (L : LcOk X cl W tg iter elt ifs scope own zi gz zt ze) (hc : X.calm = true) (hN : X.N.Nodup) :
    ∃ t, PE X (.ListComp elt [⟨tg, iter, ifs, 0⟩] scope pos) t ∧ (∀ py y sp i, X.N[i]? = some y → X.env.scope.names.lookup y = some .local → swapsWith (.ListComp elt [⟨tg, iter, ifs, 0⟩] scope pos) (some (.Name y py)) sp.line X.env = pure true →
      PS X (.Assign [.Name y py] (.ListComp elt [⟨tg, iter, ifs, 0⟩] scope pos) sp) (tAsg t (gName i))) ∧
      ∀ F ph M env σ H Q, F.cl = cl → F.K = X.K → Sim F ph M env σ H → PoF F W env σ ph H Q (zLc zi gz zt ze (own.map (·.2)) env M) → t σ H Q := by
  obtain ⟨wi, pi, qi⟩ := L.it.ex
  obtain ⟨is, g, hv, hr, hg⟩ := L.tgt
  have ht : ∀ (s : Shared) (H : Hp) (C : Addr) (cs : List (Str × Addr)) (fp : List Addr), PTs (X.blk s H scope (compEnvC scope cs C X.env) fp) ifs (tB Wf cl X.K zt) := fun s H C cs fp => by
    refine pts_of (X := X) rfl ?_
    rcases L.tst with h | ⟨c, h, q⟩
    · exact .inl h
    · exact .inr ⟨c, h, q s H C cs fp⟩
  have he : ∀ (s : Shared) (H : Hp) (C : Addr) (cs : List (Str × Addr)) (fp : List Addr), PE (X.blk s H scope (compEnvC scope cs C X.env) fp) elt (tE Wf cl X.K ze) := fun s H C cs fp => (L.el s H C cs fp).pe
  exact ⟨_, pe_lc hc hN pi L.blk hg ht he L.fold, fun py y sp i h1 h2 h3 => ps_setLc hc hN h1 h2 h3 pi L.blk hg ht he L.fold, fun F ph M env σ H Q h1 h2 S P => lc_run (X := X) qi hr hv h1 h2 S P⟩
theorem zf_lc (L : LcOk X cl W tg iter elt ifs scope own zi gz zt ze) (hc : X.calm = true) (hN : X.N.Nodup) : ZF X W cl (.ListComp elt [⟨tg, iter, ifs, 0⟩] scope pos) (zLc zi gz zt ze (own.map (·.2))) := by
  obtain ⟨t, p, _, q⟩ := L.parts (pos := pos) hc hN
  exact ⟨t, p, q⟩
/-- x = [..] on one line -/
theorem zs_setLc (L : LcOk X cl W tg iter elt ifs scope own zi gz zt ze) (hc : X.calm = true) (hN : X.N.Nodup) (hi : X.N[i]? = some x) (hx : X.env.scope.names.lookup x = some .local)
    (hs : swapsWith (.ListComp elt [⟨tg, iter, ifs, 0⟩] scope pos) (some (.Name x pos')) spos.line X.env = pure true) : Zs X W cl (.Assign [.Name x pos'] (.ListComp elt [⟨tg, iter, ifs, 0⟩] scope pos) spos) (zSet i (zLc zi gz zt ze (own.map (·.2)))) := by
  obtain ⟨t, _, p, q⟩ := L.parts (pos := pos) hc hN
  refine ⟨_, p pos' x spos i hi hx hs, fun F ph M env σ H B h1 h2 S P => q F ph M env σ H _ h1 h2 S (pof_of S ?_)⟩
  exact PoS.step P fun d M1 ph1 H1 v S1 f1 r1 P1 => P1.setV S1 r1
theorem zs_setLcO (L : LcOk X cl W tg iter elt ifs scope own zi gz zt ze) (hc : X.calm = true) (hN : X.N.Nodup) (hi : X.N[i]? = some x) (hx : X.env.scope.names.lookup x = some .local)
    (hs : swapsWith (.ListComp elt [⟨tg, iter, ifs, 0⟩] scope pos) (some (.Name x pos')) spos.line X.env = pure true) : Zs X W cl (.Assign [.Name x pos'] (.ListComp elt [⟨tg, iter, ifs, 0⟩] scope pos) spos) (zSetO i (zLc zi gz zt ze (own.map (·.2)))) := by
  obtain ⟨t, _, p, q⟩ := L.parts (pos := pos) hc hN
  exact ⟨_, p pos' x spos i hi hx hs, fun F ph M env σ H B h1 h2 S P => q F ph M env σ H _ h1 h2 S (post_own S P)⟩
theorem zs_setLcC (L : LcOk X cl W tg iter elt ifs scope own zi gz zt ze) (hc : X.calm = true) (hN : X.N.Nodup) (hi : X.N[i]? = some x) (hx : X.env.scope.names.lookup x = some .local)
    (hs : swapsWith (.ListComp elt [⟨tg, iter, ifs, 0⟩] scope pos) (some (.Name x pos')) spos.line X.env = pure true) : Zs X W cl (.Assign [.Name x pos'] (.ListComp elt [⟨tg, iter, ifs, 0⟩] scope pos) spos) (zSetC i (zLc zi gz zt ze (own.map (·.2)))) := by
  obtain ⟨t, _, p, q⟩ := L.parts (pos := pos) hc hN
  exact ⟨_, p pos' x spos i hi hx hs, fun F ph M env σ H B h1 h2 S P => q F ph M env σ H _ h1 h2 S (post_cel S P)⟩
end
end Zy
set_option maxHeartbeats 2000000
namespace Zy
open PySem PySem.Spec PyProof.Rows L2

/-! a def's promise where nothing is guarded (repr) -/
structure FnG (P : Program) (w : World) (K : PySem.W.Frag) (mg : Str → Option Value) (base : Heap) (CX : CXT) (k : Nat) (f : Addr) (fd : FuncData) (ps : List Str) (sp : Sp) : Prop where
  len : ∀ vs H Q E, sp vs H Q E → vs.length = ps.length
  run : ∀ (A : Around) (outer : List Env) (s : Shared) (H : Hp) (args : Args) (us : List Value) (vs : List V) (Q : VK) (E : XK), A.guards = some [] → Room k A → Env0 P w K mg base A outer s H → BindsTo s fd args (ps.zip us) → Vals vs us → sp vs H Q E →
    codeAny (model P w) A (.call (.ref f) args) (CR CX outer P w H s Q E) s
theorem FnG.mono {P : Program} {w : World} {K : PySem.W.Frag} {mg : Str → Option Value} {base : Heap} {CX : CXT} {j k : Nat} {f : Addr} {fd : FuncData} {ps : List Str} {sp : Sp} (F : FnG P w K mg base CX j f fd ps sp) (h : j ≤ k) : FnG P w K mg base CX k f fd ps sp :=
  ⟨F.len, fun A outer s H args us vs Q E hg hr => F.run A outer s H args us vs Q E hg (hr.mono h)⟩
/-- a def of the text, by its body -/
theorem fnG_of {CX : CXT} {P : Program} {w : World} {K : PySem.W.Frag} {mg : Str → Option Value} {base : Heap} {xn qual : Str} {params : Arguments} {body : List Stmt} {scope : Scope} {dvs : List V} {dk : List (Str × V)} {f : Addr} {fd : FuncData} {N ps : List Str} {k : Nat} {sp : Sp}
    (Fd : FunD K xn qual params body scope dvs dk f fd) (S : FnScope N ps scope) (len : ∀ vs H Q E, sp vs H Q E → vs.length = ps.length)
    (hb : ∀ (cdv : Value) (A : Around) (outer : List Env) (s : Shared) (H : Hp) (vs : List V) (Q : VK) (E : XK), A.guards = some [] → Room k (A.deeper (envOfC qual scope s.heap.objs.size f cdv)) → sp vs H Q E →
      ∃ t, PSs (cxOf CX P w K mg base N qual scope f cdv A outer s H E) body t ∧ t { nx := fun _ H' => Q .non H', rt := Q } (L2.start N vs) H) : FnG P w K mg base CX (k + 1) f fd ps sp := by
  obtain ⟨oc, od, dV, kV, doc, pm, an, cdv, ct, osl, rfl, lk, hcd, _, _⟩ := Fd.ex
  refine ⟨len, fun A outer s H args us vs Q E hg hr e0 hbind r hsp => ?_⟩
  have inn : ∀ b o, base.get? b = some o → s.heap.get? b = some o := fun b o e => (e0.bs b o e).1
  have kx : K.In s.heap := e0.mod.kin.keeps inn
  refine codeAny_call_function hr.depth (kx _ _ lk) rfl S.co S.gen rfl (PySem.W.codeRec_of kx hcd) (hbind _ _ _ _ ?_)
  refine wpAny_newFunctionEnv_cells S.kind (fun y hy => ?_) fun env he s1 x => ?_
  · rcases S.par y.1 (List.of_mem_zip hy).1 with q | q
    · exact .inl q
    · exact .inr ⟨q, PySem.W.cellsFrom_some _ _ _ (.inl q)⟩
  · subst he
    refine ⟨(e0.mod.nolimit.keeps inn).keeps x.toInCall.keep, codeAny_func ?_⟩
    obtain ⟨t, ht, hq⟩ := hb cdv A outer s H vs Q E hg (hr.deeper _) hsp
    have J0 := inv_start (CX := CX) (N := N) (E := E) S hr.hd e0 (len _ _ _ _ hsp) r x
    refine wpAny_mono (ht.run [] s1 _ H _ J0 hq) (fun fl s' hs => ?_) fun _ _ z => z
    match fl, hs with
    | .ret u, ⟨v, _, H', J, rv, q⟩ => exact ⟨v, H', J.os, J.bare, J.base, J.hok, rv, q⟩
    | .next, ⟨_, H', J, q⟩ => exact ⟨V.non, H', J.os, J.bare, J.base, J.hok, rfl, q⟩
    | .brk, ⟨_, _, _, q⟩ => exact q.elim
    | .cont, ⟨_, _, _, q⟩ => exact q.elim
/-! arguments as slots -/
def RlS (G : Gh) (H : Hp) (v : V) : Sl → Prop
  | .val d => Rep G H v d
  | .bor d => ∃ a, v = .ref a ∧ Cel G H a d ∧ a ∉ G.ph ∧ G.N a
  | _ => False
inductive RsL (G : Gh) (H : Hp) : List V → List Sl → Prop
  | nil : RsL G H [] []
  | cons {x : V} {d : Sl} {xs : List V} {ds : List Sl} (h : RlS G H x d) (t : RsL G H xs ds) : RsL G H (x :: xs) (d :: ds)
theorem RsL.length {G : Gh} {H : Hp} : ∀ {xs : List V} {ds : List Sl}, RsL G H xs ds → xs.length = ds.length
  | _, _, .nil => rfl
  | _, _, .cons _ t => by rw [List.length_cons, List.length_cons, RsL.length t]
theorem RsL.app {G : Gh} {H : Hp} : ∀ {xs ys : List V} {ds es : List Sl}, RsL G H xs ds → RsL G H ys es → RsL G H (xs ++ ys) (ds ++ es)
  | _, _, _, _, .nil, s => s
  | _, _, _, _, .cons h t, s => .cons h (RsL.app t s)
theorem RsL.at {G : Gh} {H : Hp} : ∀ {xs : List V} {ds : List Sl}, RsL G H xs ds → ∀ {i : Nat} {d : Sl}, ds[i]? = some d → ∃ x, xs[i]? = some x ∧ RlS G H x d
  | _, _, .nil, i, d, e => by simp at e
  | _, _, .cons h t, 0, d, e => by
    have e' := Option.some.inj e
    subst e'
    exact ⟨_, rfl, h⟩
  | _, _, .cons h t, i + 1, d, e => RsL.at t (i := i) (d := d) (by simpa using e)
theorem rsl_vals {G : Gh} {H : Hp} : ∀ {xs : List V} {ds : List D}, RepL G H xs ds → RsL G H xs (ds.map .val)
  | _, _, .nil => .nil
  | _, _, .cons h t => .cons h (rsl_vals t)
abbrev ZSl := Ev → Sto → Res (List Sl)
section
variable {F : Fr} {W : WX} {ph ph' : List Addr} {M M' : Sto} {env : Ev} {σ : St} {H H' : Hp} {v : V} {d : Sl}
theorem RlS.fwd (S : Sim F ph M env σ H) (f : Fwd ph H ph' H') (r : RlS (gh F ph env σ) H v d) : RlS (gh F ph' env σ) H' v d := by
  cases d with
  | val d => exact Rep.mo (f.mo S) r
  | bor d =>
    obtain ⟨a, e, c, n, hN⟩ := r
    rcases (RlC.fwd (d := d) S f (.inr ⟨a, e, c, n, hN⟩)) with q | q
    · obtain ⟨o, ho⟩ := c.there
      subst e
      have m := f.mo S
      refine ⟨a, rfl, c.mo m fun o h => f.keep a o h n, fun z => ?_, hN⟩
      obtain ⟨ps, e1, hn⟩ := f.ext
      have z' : a ∈ ph' := z
      rw [e1] at z'
      rcases List.mem_append.mp z' with q | q
      · exact n q
      · rw [hn a q] at ho
        cases ho
    · exact q
  | no => exact r
  | own d => exact r
theorem RsL.fwd (S : Sim F ph M env σ H) (f : Fwd ph H ph' H') : ∀ {xs : List V} {ds : List Sl}, RsL (gh F ph env σ) H xs ds → RsL (gh F ph' env σ) H' xs ds
  | _, _, .nil => .nil
  | _, _, .cons h t => .cons (h.fwd S f) (RsL.fwd S f t)
end
structure ZSa (X : Cx) (W : WX) (cl : String → Option Addr) (es : List Expr) (z : ZSl) : Prop where
  ex : ∃ t, PA X es t ∧ ∀ F ph M env σ H Q, F.cl = cl → F.K = X.K → Sim F ph M env σ H → @Post (List Sl) (List V) RsL F W env σ ph H Q (z env M) → t σ H Q
structure ZSk (X : Cx) (W : WX) (cl : String → Option Addr) (kws : List Keyword) (z : ZSl) : Prop where
  ex : ∃ t, PK X kws t ∧ ∀ F ph M env σ H Q, F.cl = cl → F.K = X.K → Sim F ph M env σ H → @Post (List Sl) (List V) RsL F W env σ ph H Q (z env M) → t σ H Q
abbrev ZS1 := Ev → Sto → Res Sl
structure ZS1j (X : Cx) (W : WX) (cl : String → Option Addr) (e : Expr) (z : ZS1) : Prop where
  ex : ∃ t, PE X e t ∧ ∀ F ph M env σ H Q, F.cl = cl → F.K = X.K → Sim F ph M env σ H → @Post Sl V RlS F W env σ ph H Q (z env M) → t σ H Q
def zSv (i : Nat) : ZS1 := fun env M => match env[i]? with
  | some (.val d) => .ok (.val d) M
  | some (.own d) => .ok (.bor d) M
  | some (.bor d) => .ok (.bor d) M
  | _ => .fail
def zVl (z : ZX) : ZS1 := fun env M => (z env M).bind fun d M1 => .ok (.val d) M1
def sNil : ZSl := fun _ M => .ok [] M
def sCons (z : ZS1) (l : ZSl) : ZSl := fun env M => (z env M).bind fun d M1 => (l env M1).bind fun ds M2 => .ok (d :: ds) M2
section
variable {X : Cx} {W : WX} {cl : String → Option Addr} {e : Expr} {es : List Expr} {kws : List Keyword} {z : ZX} {z1 : ZS1} {zs zk : ZSl} {pos p kpos : Pos} {i : Nat} {x : Str} {nm : Option Str}
theorem zs1_var (hN : X.N[i]? = some x) (hv : Vis X.env.scope x) (hd : (x == ("__debug__" : Str)) = false) (hc : (x == ("__classdict__" : Str)) = false) : ZS1j X W cl (.Name x pos) (zSv i) := by
  refine ⟨_, pe_var hN hv hd hc, fun F ph M env σ H Q _ _ S P => ?_⟩
  unfold zSv at P
  split at P
  · rename_i d e
    obtain ⟨v, e1, r⟩ := S.val i d e
    exact ⟨v, e1, P.now S r⟩
  · rename_i d e
    obtain ⟨a, e1, r, _, n, _⟩ := S.own i d e
    exact ⟨_, e1, P.now S ⟨a, rfl, r, n, .inr ⟨i, d, e, e1⟩⟩⟩
  · rename_i d e
    obtain ⟨a, e1, n, r, _⟩ := S.brw i d e
    exact ⟨_, e1, P.now S ⟨a, rfl, r, (S.n0 a n).2, .inl n⟩⟩
  · exact P.elim
theorem ZE.to1 (h : ZE X W cl e z) : ZS1j X W cl e (zVl z) := by
  obtain ⟨t, p, q⟩ := h.ex
  exact ⟨t, p, fun F ph M env σ H Q h1 h2 S P => q F ph M env σ H Q h1 h2 S (Post.step P fun d M1 ph1 H1 v S1 f1 r1 P1 => P1.now S1 r1)⟩
theorem zsa_nil : ZSa X W cl [] sNil := ⟨_, pa_nil, fun F ph M env σ H Q _ _ S P => P.now S .nil⟩
theorem zsa_cons (h : ZS1j X W cl e z1) (t : ZSa X W cl es zs) (n : nostar e = true) : ZSa X W cl (e :: es) (sCons z1 zs) := by
  obtain ⟨te, pe, qe⟩ := h.ex
  obtain ⟨ts, ps, qs⟩ := t.ex
  refine ⟨_, pa_cons pe ps (star_ok n), fun F ph M env σ H Q h1 h2 S P => qe F ph M env σ H _ h1 h2 S (P.step fun d M1 ph1 H1 v S1 f1 r1 P1 => ?_)⟩
  refine qs F ph1 M1 env σ H1 _ h1 h2 S1 (P1.step fun ds M2 ph2 H2 ws S2 f2 r2 P2 => ?_)
  exact P2.now S2 (.cons (r1.fwd S1 f2) r2)
theorem zsk_nil : ZSk X W cl [] sNil := ⟨_, pk_nil, fun F ph M env σ H Q _ _ S P => P.now S .nil⟩
theorem zsk_cons (h : ZS1j X W cl e z1) (t : ZSk X W cl kws zk) : ZSk X W cl (⟨nm, e, kpos⟩ :: kws) (sCons z1 zk) := by
  obtain ⟨te, pe, qe⟩ := h.ex
  obtain ⟨ts, ps, qs⟩ := t.ex
  refine ⟨_, pk_cons pe ps, fun F ph M env σ H Q h1 h2 S P => qe F ph M env σ H _ h1 h2 S (P.step fun d M1 ph1 H1 v S1 f1 r1 P1 => ?_)⟩
  refine qs F ph1 M1 env σ H1 _ h1 h2 S1 (P1.step fun ds M2 ph2 H2 ws S2 f2 r2 P2 => ?_)
  exact P2.now S2 (.cons (r1.fwd S1 f2) r2)
/-! a def's promise -/
abbrev Sem1 := List Sl → Sto → Res D
def spZ (cl : String → Option Addr) (K : PySem.W.Frag) (n : Nat) (f : Sem1) : Sp := fun vs H Q E => vs.length = n ∧ ∃ F ph M env σ as, F.cl = cl ∧ F.K = K ∧ Sim F ph M env σ H ∧ RsL (gh F ph env σ) H vs as ∧
  PoE F (fun c d _ H' => E c d H') env σ ph H Q (f as M)
/-- the parameters' places among what is written and the defaults -/
def perm {α : Type} (l : List α) : List Nat → Option (List α)
  | [] => some []
  | i :: is => match l[i]?, perm l is with
    | some x, some xs => some (x :: xs)
    | _, _ => none
theorem perm_vals {α β : Type} {R : α → β → Prop} {l : List α} {m : List β} (h : ∀ (i : Nat) b, m[i]? = some b → ∃ a, l[i]? = some a ∧ R a b) : ∀ {is : List Nat} {ys : List β}, perm m is = some ys → ∃ xs, perm l is = some xs ∧ Paired R xs ys
  | [], ys, e => by
    cases e
    exact ⟨[], rfl, .nil⟩
  | i :: is, ys, e => by
    unfold perm at e
    cases e1 : m[i]? with
    | none => rw [e1] at e; cases e
    | some b =>
      cases e2 : perm m is with
      | none => rw [e1, e2] at e; cases e
      | some bs =>
        rw [e1, e2] at e
        cases e
        obtain ⟨a, q1, r1⟩ := h i b e1
        obtain ⟨as, q2, r2⟩ := perm_vals h e2
        exact ⟨a :: as, by unfold perm; rw [q1, q2], .cons r1 r2⟩
theorem perm_len {α : Type} {l : List α} : ∀ {is : List Nat} {ys : List α}, perm l is = some ys → ys.length = is.length
  | [], ys, e => by cases e; rfl
  | i :: is, ys, e => by
    unfold perm at e
    cases e1 : l[i]? with
    | none => rw [e1] at e; cases e
    | some b =>
      cases e2 : perm l is with
      | none => rw [e1, e2] at e; cases e
      | some bs =>
        rw [e1, e2] at e
        cases e
        rw [List.length_cons, List.length_cons, perm_len e2]
structure Pat (K : PySem.W.Frag) (fd : FuncData) (ps : List Str) (n : Nat) (ks : List Str) (is : List Nat) (dd : List D) : Prop where
  len : is.length = ps.length
  ex : ∃ (dv : List V) (du : List Value), Vals dv du ∧ (∀ G H, RepL G H dv dd) ∧ ∀ (s : Shared) (us ws ys : List Value), K.In s.heap → us.length = n → ws.length = ks.length → perm (us ++ ws ++ du) is = some ys → BindsTo s fd ⟨us, ks.zip ws⟩ (ps.zip ys)
def zCall (f : Sem1) (n m : Nat) (is : List Nat) (dd : List D) (zs zk : ZSl) : ZX := fun env M => (zs env M).bind fun as M1 => (zk env M1).bind fun bs M2 =>
  if as.length = n ∧ bs.length = m then match perm (as ++ bs ++ dd.map .val) is with
    | some ys => f ys M2
    | none => .fail else .fail
theorem RsL.paired {G : Gh} {H : Hp} : ∀ {xs : List V} {ds : List Sl}, Paired (RlS G H) xs ds → RsL G H xs ds
  | _, _, .nil => .nil
  | _, _, .cons h t => .cons h (RsL.paired t)
theorem callG {CX : CXT} {k : Nat} {f : Addr} {fd : FuncData} {ps ks : List Str} {sp : Sp} {E : St → XK} {pins : List (Addr × Obj)} {σ : St} {H : Hp} {s : Shared} {Q : VK} {us ws ys : List Value} {zs : List V} (F : FnG X.prog X.w X.K X.mg X.base CX k f fd ps sp) (hgd : X.A.guards = some []) (hr : Room k X.A)
    (hx : PassesAt CX X σ (E σ)) (I : Inv X pins σ H s) (hb : BindsTo s fd ⟨us, ks.zip ws⟩ (ps.zip ys)) (r : Vals zs ys) (h : sp zs H Q (E σ)) :
    wpAny (model X.prog X.w) X.A (call (.ref f) us (ks.zip ws)) (EP X pins σ Q) X.xe s := by
  refine wpAny_call (codeAny_mono (F.run X.A X.stack s H ⟨us, ks.zip ws⟩ ys zs Q (E σ) hgd hr I.env0 hb r h) fun res s' hq => ?_)
  match res, hq with
  | .error e, hq => exact hx pins H s e s' I hq
  | .ok (.ret u), hq => exact I.after hq
theorem call_fin {k : Nat} {f : Addr} {fd : FuncData} {ps ks : List Str} {n : Nat} {is : List Nat} {dd : List D} {g : Sem1} {dv : List V} {du : List Value} (F : FnG X.prog X.w X.K X.mg X.base (L2.CX X.prog X.w) k f fd ps (spZ cl X.K ps.length g)) (hgd : X.A.guards = some []) (hr : Room k X.A) (tk : Takes X W)
    (rdu : Vals dv du) (hB : ∀ (s : Shared) (us ws ys : List Value), X.K.In s.heap → us.length = n → ws.length = ks.length → perm (us ++ ws ++ du) is = some ys → BindsTo s fd ⟨us, ks.zip ws⟩ (ps.zip ys))
    {pins : List (Addr × Obj)} {σ : St} {Q : VK} {us ws : List Value} {s2 : Shared} {vs zs : List V} {H2 : Hp} (I2 : Inv X pins σ H2 s2) (r1 : Vals vs us) (r2 : Vals zs ws) (h : vs.length = n ∧ zs.length = ks.length ∧ ∃ ys, perm (vs ++ zs ++ dv) is = some ys ∧ spZ cl X.K ps.length g ys H2 Q (WE W σ)) :
    X.K.In s2.heap ∧ wpAny (model X.prog X.w) X.A (call (.ref f) us (ks.zip ws)) (EP X pins σ Q) X.xe s2 := by
  obtain ⟨l1, l2, ys, hp, hsp⟩ := h
  have rr : Vals (vs ++ zs ++ dv) (us ++ ws ++ du) := (r1.append r2).append rdu
  have look : ∀ (i : Nat) (b : V), (vs ++ zs ++ dv)[i]? = some b → ∃ a, (us ++ ws ++ du)[i]? = some a ∧ (fun (a : Value) (b : V) => RelV b a) a b := fun i b e => rr.get e
  obtain ⟨yv, hp2, py⟩ := perm_vals (R := fun (a : Value) (b : V) => RelV b a) look hp
  have ry : Vals ys yv := by
    clear hp hp2 hsp
    induction py with
    | nil => exact .nil
    | cons h t ih => exact .cons h ih
  exact ⟨I2.kIn, callG (E := WE W) F hgd hr (passAt tk σ) I2 (hB s2 us ws yv I2.kIn (by rw [← r1.length]; exact l1) (by rw [← r2.length]; exact l2) hp2) ry hsp⟩
theorem call_post {ps ks : List Str} {n : Nat} {is : List Nat} {dd : List D} {g : Sem1} {dv : List V} {F : Fr} {ph : List Addr} {M2 : Sto} {env : Ev} {σ : St} {H : Hp} {Q : VK} {as bs : List Sl} {vs zv : List V} (h1 : F.cl = cl) (h2 : F.K = X.K) (S2 : Sim F ph M2 env σ H)
    (hlen : is.length = ps.length) (r1 : RsL (gh F ph env σ) H vs as) (r2 : RsL (gh F ph env σ) H zv bs) (rdv : RepL (gh F ph env σ) H dv dd)
    (P2 : PoE F W env σ ph H Q (if as.length = n ∧ bs.length = ks.length then match perm (as ++ bs ++ dd.map .val) is with
      | some ys => g ys M2
      | none => .fail else .fail)) : vs.length = n ∧ zv.length = ks.length ∧ ∃ ys, perm (vs ++ zv ++ dv) is = some ys ∧ spZ cl X.K ps.length g ys H Q (WE W σ) := by
  split at P2
  · rename_i hl
    cases e1 : perm (as ++ bs ++ dd.map .val) is with
    | none => rw [e1] at P2; exact P2.elim
    | some ys =>
      rw [e1] at P2
      have rr : RsL (gh F ph env σ) H (vs ++ zv ++ dv) (as ++ bs ++ dd.map .val) := (r1.app r2).app (rsl_vals rdv)
      obtain ⟨yv, hp2, py⟩ := perm_vals (R := RlS (gh F ph env σ) H) (fun i b e => rr.at e) e1
      exact ⟨by rw [r1.length]; exact hl.1, by rw [r2.length]; exact hl.2, yv, hp2, by rw [perm_len hp2, hlen], F, ph, M2, env, σ, ys, h1, h2, S2, RsL.paired py, P2⟩
  · exact P2.elim
/-- f(e, .., k = v, ..) of a def of the module -/
theorem ze_call {k : Nat} {f : Addr} {fd : FuncData} {ps ks : List Str} {n : Nat} {is : List Nat} {dd : List D} {g : Sem1} (F : FnG X.prog X.w X.K X.mg X.base (L2.CX X.prog X.w) k f fd ps (spZ cl X.K ps.length g)) (hgd : X.A.guards = some []) (hr : Room k X.A) (tk : Takes X W)
    (hg : Gl X x) (hm : X.mg x = some (.ref f)) (hk : PySem.W.keepIn X.K (.ref f) = true) (B : Pat X.K fd ps n ks is dd) (hdb : (x == ("__debug__" : Str)) = false) (ha : ZSa X W cl (e :: es) zs) (hkw : ZSk X W cl kws zk)
    (hst : nostar e = true) (hall : (backToKw pos (keywordEach kws X.env)).all (·.1.isSome) = true) (hks : (backToKw pos (keywordEach kws X.env)).filterMap (·.1) = ks)
    (hpl : ((backTo pos (starEach (e :: es) X.env)).any (·.1) || (backToKw pos (keywordEach kws X.env)).any (·.1.isNone)) = false) :
    ZE X W cl (.Call (.Name x p) (e :: es) kws pos) (zCall g n ks.length is dd zs zk) := by
  obtain ⟨t, pa, qa⟩ := ha.ex
  obtain ⟨tk', pk, qk⟩ := hkw.ex
  obtain ⟨dv, du, rdu, rdv, hB⟩ := B.ex
  refine ⟨fun σ H Q => t σ H fun vs H1 => tk' σ H1 fun zs H2 => vs.length = n ∧ zs.length = ks.length ∧ ∃ ys, perm (vs ++ zs ++ dv) is = some ys ∧ spZ cl X.K ps.length g ys H2 Q (WE W σ), ⟨fun pins s σ H Q I h => ?_⟩, fun F ph M env σ H Q h1 h2 S P => ?_⟩
  · refine wpAny_Call_Name_kw (ld_glob I hg hm ?_ hdb)
    refine PySem.W.callWith_KW (h₀ := X.base) I.ok.mod.kin hk hall (thn (pa.run pos pins s σ H _ I h) fun us s1 ⟨vs, H1, I1, r1, q⟩ => ?_) hpl (star_ok hst)
    refine thn (pk.run pos pins s1 σ H1 _ I1 q) fun ws s2 ⟨zs, H2, I2, r2, q2⟩ => ?_
    rw [hks]
    exact call_fin (dd := dd) F hgd hr tk rdu hB I2 r1 r2 q2
  · refine qa F ph M env σ H _ h1 h2 S (P.step fun as M1 ph1 H1 vs S1 f1 r1 P1 => ?_)
    refine qk F ph1 M1 env σ H1 _ h1 h2 S1 (P1.step fun bs M2 ph2 H2 zv S2 f2 r2 P2 => ?_)
    exact call_post h1 h2 S2 B.len (r1.fwd S1 f2) r2 (rdv _ _) P2
/-- f(k = v, ..) -/
theorem ze_call0 {k : Nat} {f : Addr} {fd : FuncData} {ps ks : List Str} {is : List Nat} {dd : List D} {g : Sem1} (F : FnG X.prog X.w X.K X.mg X.base (L2.CX X.prog X.w) k f fd ps (spZ cl X.K ps.length g)) (hgd : X.A.guards = some []) (hr : Room k X.A) (tk : Takes X W)
    (hg : Gl X x) (hm : X.mg x = some (.ref f)) (hk : PySem.W.keepIn X.K (.ref f) = true) (B : Pat X.K fd ps 0 ks is dd) (hdb : (x == ("__debug__" : Str)) = false) (hkw : ZSk X W cl kws zk)
    (hall : (backToKw pos (keywordEach kws X.env)).all (·.1.isSome) = true) (hks : (backToKw pos (keywordEach kws X.env)).filterMap (·.1) = ks) (hpl : ((backTo pos (starEach [] X.env)).any (·.1) || (backToKw pos (keywordEach kws X.env)).any (·.1.isNone)) = false) :
    ZE X W cl (.Call (.Name x p) [] kws pos) (zCall g 0 ks.length is dd sNil zk) := by
  obtain ⟨tk', pk, qk⟩ := hkw.ex
  obtain ⟨dv, du, rdu, rdv, hB⟩ := B.ex
  refine ⟨fun σ H Q => tk' σ H fun zs H2 => ([] : List V).length = 0 ∧ zs.length = ks.length ∧ ∃ ys, perm ([] ++ zs ++ dv) is = some ys ∧ spZ cl X.K ps.length g ys H2 Q (WE W σ), ⟨fun pins s σ H Q I h => ?_⟩, fun F ph M env σ H Q h1 h2 S P => ?_⟩
  · refine wpAny_Call_Name_kw (ld_glob I hg hm ?_ hdb)
    refine PySem.W.callWith_KW0 (h₀ := X.base) I.ok.mod.kin hk hall ?_ hpl
    refine thn (pk.run pos pins s σ H _ I h) fun ws s2 ⟨zs, H2, I2, r2, q2⟩ => ?_
    rw [hks]
    exact call_fin (us := []) (vs := []) (dd := dd) F hgd hr tk rdu hB I2 .nil r2 q2
  · refine qk F ph M env σ H _ h1 h2 S ((show PoE F W env σ ph H Q ((zk env M).bind _) from P).step fun bs M2 ph2 H2 zv S2 f2 r2 P2 => ?_)
    exact call_post h1 h2 S2 B.len .nil r2 (rdv _ _) P2
/-! a def by its body -/
def zFun (np nN : Nat) (y : ZS) : Sem1 := fun as M => if as.length = np then match y (as ++ List.replicate (nN - np) .no) M with
  | .rt d M' => .ok d M'
  | .nx _ M' => .ok .non M'
  | .exc c fs _ M' => .exc c fs M'
  | _ => .fail else .fail
theorem sim_start {F : Fr} {ph : List Addr} {M : Sto} {env : Ev} {σ : St} {H : Hp} {N : List Str} {vs : List V} {as : List Sl} {m : Nat} (S : Sim F ph M env σ H) (r : RsL (gh F ph env σ) H vs as) (hm : N.length - vs.length = m) :
    Sim ⟨F.K, F.cl, nof F env σ, H, ph⟩ ph M (as ++ List.replicate m .no) (L2.start N vs) H := by
  have slot : ∀ {i : Nat} {d : Sl}, (as ++ List.replicate m Sl.no)[i]? = some d → d ≠ .no → ∃ v, (L2.start N vs)[i]? = some (some v) ∧ RlS (gh F ph env σ) H v d := fun {i d} e n => by
    by_cases hi : i < as.length
    · rw [List.getElem?_append_left hi] at e
      obtain ⟨v, q, rr⟩ := r.at e
      refine ⟨v, ?_, rr⟩
      unfold L2.start
      rw [List.getElem?_append_left (by rw [List.length_map, r.length]; exact hi), List.getElem?_map, q]
      rfl
    · rw [List.getElem?_append_right (by omega), List.getElem?_replicate] at e
      split at e
      · exact absurd (Option.some.inj e).symm n
      · cases e
  have noown : ∀ {i : Nat} {d : D}, (as ++ List.replicate m Sl.no)[i]? ≠ some (.own d) := fun {i d} e => by
    obtain ⟨v, _, rr⟩ := slot e (fun z => nomatch z)
    exact rr
  have m0 : Mo (gh F ph env σ) (gh ⟨F.K, F.cl, nof F env σ, H, ph⟩ ph (as ++ List.replicate m .no) (L2.start N vs)) H H := by
    refine ⟨fun a o e n => ⟨e, fun z => n ?_⟩, fun _ _ e => e, rfl, rfl⟩
    rcases z with (z | ⟨i, d, e1, _⟩) | z
    · exact .inl z
    · exact absurd e1 noown
    · exact .inr z
  refine ⟨?_, ⟨[], by simp, fun a z => by simp at z⟩, fun a o e _ => e, fun a z => ?_, S.ml, S.nd, fun i d e => ?_, fun i d e => ?_, fun i d e => absurd e noown, fun i j d e a e1 => absurd e1 noown, fun i d e => ?_⟩
  · unfold L2.start
    rw [List.length_append, List.length_append, List.length_map, List.length_replicate, List.length_replicate, r.length, ← hm, r.length]
  · have z' : nof F env σ a := z
    rcases z' with z' | ⟨i, d, e1, e2⟩
    · exact S.n0 a z'
    · obtain ⟨b, q, c, _, n, _⟩ := S.own i d e1
      rw [e2] at q
      cases q
      exact ⟨c.there, n⟩
  · obtain ⟨a, q, c⟩ := S.sto i d e
    exact ⟨a, q, c.mo m0 fun _ h => h⟩
  · obtain ⟨v, q, rr⟩ := slot e (fun z => nomatch z)
    exact ⟨v, q, Rep.mo m0 rr⟩
  · obtain ⟨v, q, a, ev, c, n, hN⟩ := slot e (fun z => nomatch z)
    subst ev
    exact ⟨a, q, hN, c.mo m0 fun _ h => h, c.there⟩
theorem start_fwd {F : Fr} {ph ph' : List Addr} {M : Sto} {N0 : Addr → Prop} {env env' : Ev} {σ σ' : St} {H H' : Hp} (f : Fws ⟨F.K, F.cl, N0, H, ph⟩ ph env σ H ph' env' σ' H') (S' : Sim ⟨F.K, F.cl, N0, H, ph⟩ ph' M env' σ' H') : Fwd ph H ph' H' :=
  ⟨f.ext, fun a o e n => S'.keep a o e n, f.there⟩
theorem fn_run {P : Program} {w : World} {K : PySem.W.Frag} {mg : Str → Option Value} {base : Heap} {qual xn : Str} {params : Arguments} {body : List Stmt} {scope : Scope} {dvs : List V} {dk : List (Str × V)} {f : Addr} {fd : FuncData} {N ps : List Str} {k : Nat} {y : ZS}
    (Fd : FunD K xn qual params body scope dvs dk f fd) (S : FnScope N ps scope)
    (hb : ∀ (cdv : Value) (A : Around) (outer : List Env) (s : Shared) (H : Hp) (E : XK) (W : WX), A.guards = some [] → Room k (A.deeper (envOfC qual scope s.heap.objs.size f cdv)) → Takes (cxOf (L2.CX P w) P w K mg base N qual scope f cdv A outer s H E) W →
      PassesOwn (model P w) (cxOf (L2.CX P w) P w K mg base N qual scope f cdv A outer s H E).A (cxOf (L2.CX P w) P w K mg base N qual scope f cdv A outer s H E).env (cxOf (L2.CX P w) P w K mg base N qual scope f cdv A outer s H E).xe →
      Zb (cxOf (L2.CX P w) P w K mg base N qual scope f cdv A outer s H E) W cl body y) :
    FnG P w K mg base (L2.CX P w) (k + 1) f fd ps (spZ cl K ps.length (zFun ps.length N.length y)) := by
  refine fnG_of Fd S (fun vs H Q E h => h.1) fun cdv A outer s H vs Q E hgd hr h => ?_
  obtain ⟨hl, F, ph, M, env, σ, as, h1, h2, S0, r, P0⟩ := h
  obtain ⟨t, p, q⟩ := (hb cdv A outer s H E (fun c d _ H' => E c d H') hgd hr (takes_of rfl rfl rfl rfl) (passes_of rfl)).ex
  refine ⟨t, p, q ⟨F.K, F.cl, nof F env σ, H, ph⟩ ph M (as ++ List.replicate (N.length - ps.length) .no) (L2.start N vs) H _ h1 h2 (sim_start S0 r (by rw [hl])) ?_⟩
  unfold zFun at P0
  split at P0
  · rename_i hl2
    have key : ∀ {ph' M' env' σ' H'}, Sim ⟨F.K, F.cl, nof F env σ, H, ph⟩ ph' M' env' σ' H' → Fws ⟨F.K, F.cl, nof F env σ, H, ph⟩ ph (as ++ List.replicate (N.length - ps.length) .no) (L2.start N vs) H ph' env' σ' H' →
        Sim F ph' M' env σ H' ∧ Fwd ph H ph' H' := fun {ph' M' env' σ' H'} S' f => by
      have g := start_fwd (F := F) (N0 := nof F env σ) f S'
      exact ⟨S0.back S' g rfl rfl fun a z => .inl z, g⟩
    cases hz : y (as ++ List.replicate (N.length - ps.length) .no) M with
    | nx env' M' =>
      rw [hz] at P0
      intro ph' σ' H' S' f
      obtain ⟨S1, g⟩ := key S' f
      exact P0 ph' H' .non S1 g .non
    | bk env' M' => rw [hz] at P0; exact P0.elim
    | ct env' M' => rw [hz] at P0; exact P0.elim
    | rt d M' =>
      rw [hz] at P0
      intro ph' env' σ' H' v S' f rv
      obtain ⟨S1, g⟩ := key S' f
      exact P0 ph' H' v S1 g (rv.mo ⟨fun a o e n => ⟨e, n⟩, fun _ _ e => e, rfl, rfl⟩)
    | exc c fs env' M' =>
      rw [hz] at P0
      intro ph' σ' H' dx ff C S' f e1 e2 rr
      obtain ⟨S1, g⟩ := key S' f
      refine P0 ph' H' dx ff C S1 g e1 e2 (RepP.mo ?_ rr)
      exact ⟨fun a o e n => ⟨e, fun z => n (z.elim (fun z => .inl (.inl z)) .inr)⟩, fun _ _ e => e, rfl, rfl⟩
    | fail => rw [hz] at P0; exact P0.elim
  · exact P0.elim
end
end Zy
set_option maxHeartbeats 2000000
namespace Zy
open PySem PySem.Spec PyProof.Rows L2

/-! repr -/
def rRepr (K : PySem.W.Frag) : List V → Hp → VK → Prop := fun xs H Q => ∃ x d, xs = [x] ∧ Dp K H x d ∧ d.showable = true ∧ d.hasDict = false ∧ d.depth ≤ 60 ∧ d.shown.length ≤ sizeLine ∧ Q (.str d.shown) H
section
variable {X : Cx} {W : WX} {cl : String → Option Addr} {a b e : Expr} {za zb : ZX} {pos pos' p p2 p3 : Pos}
theorem cr_repr (hgd : X.A.guards = some []) (hu : X.A.units + 64 < cLine) : CallR X (.builtin "repr") (rRepr X.K) := by
  intro pins s σ H xs us Q I r h
  obtain ⟨x, d, rfl, hd, h1, h2, h3, h4, q⟩ := h
  obtain ⟨u, rfl, ru⟩ := vals1 r
  obtain ⟨as, rr⟩ := Dp.reads I d x u hd ru
  have big : ∀ a, u = .ref a → wpAny (model X.prog X.w) X.A (call (.builtin "repr") [u]) (EP X pins σ Q) X.xe s := fun a e => by
    subst e
    exact repr_of_reads' rr h1 (PyData.noDict_hsm h2) hgd (by omega) (fun _ _ z => z) (fun h' t tk hk => ⟨.str d.shown, H, I.kept hk, ⟨_, rfl⟩, q⟩) h4
  cases rr with
  | none => exact PySem.P.repr_of_none ⟨.str _, H, I.tok _, ⟨_, rfl⟩, q⟩
  | bool b => exact PySem.P.repr_of_bool ⟨.str _, H, I.tok _, ⟨_, rfl⟩, q⟩
  | int i t => exact PySem.P.repr_of_int (by simpa [PyData.showable] using h1) ⟨.str _, H, I.tok _, ⟨_, rfl⟩, q⟩
  | str x t => exact PySem.P.repr_of_str ⟨.str _, H, I.tok _, ⟨_, rfl⟩, q⟩ h4
  | list _ _ _ _ => exact big _ rfl
  | tuple _ _ _ _ => exact big _ rfl
  | dict _ _ _ _ _ => exact big _ rfl
def reprD (d : D) : Option Str := match toPy d with
  | some p => if p.showable = true ∧ p.hasDict = false ∧ p.depth ≤ 60 ∧ p.shown.length ≤ sizeLine then some p.shown else none
  | none => none
def gRepr : GB := fun ds M => match ds with
  | [d] => match (deref M d).bind reprD with
    | some s => .ok (.str s) M
    | none => .fail
  | _ => .fail
theorem bz_repr : BfZ X W cl (rRepr X.K) gRepr := by
  intro F ph M env σ H Q xs ds h1 h2 S r P
  unfold gRepr at P
  split at P
  · rename_i d
    obtain ⟨x, rfl, rx⟩ := r.one
    cases e1 : deref M d with
    | none => rw [e1] at P; exact P.elim
    | some c =>
      rw [e1] at P
      have L := rx.look S e1
      rw [show (gh F ph env σ) = (gh F ph env σ) from rfl] at L
      cases e2 : toPy c with
      | none => simp only [Option.bind_some, reprD, e2] at P; exact P.elim
      | some q =>
        simp only [Option.bind_some, reprD, e2] at P
        by_cases hc : q.showable = true ∧ q.hasDict = false ∧ q.depth ≤ 60 ∧ q.shown.length ≤ sizeLine
        · rw [if_pos hc] at P
          have hd := L.dp e2
          rw [show (gh F ph env σ).K = X.K from h2] at hd
          exact ⟨x, q, rfl, hd, hc.1, hc.2.1, hc.2.2.1, hc.2.2.2, P.now S (.str _)⟩
        · rw [if_neg hc] at P; exact P.elim
  · exact P.elim
theorem ze_repr (hgd : X.A.guards = some []) (hu : X.A.units + 64 < cLine) (hg : Gl X "repr") (hm : X.mg "repr" = none) (ha : ZC X W cl a za) (n : nostar a = true) : ZE X W cl (.Call (.Name "repr" p) [a] [] pos) (zBf gRepr (zCons za zNil)) :=
  ze_bf (cr_repr hgd hu) bz_repr hg hm (by decide +kernel) (zk_cons ha zk_nil n) (he := n)
/-! isinstance against built-in types -/
def tyD : D → Option String
  | .non => some "NoneType"
  | .bl _ => some "bool"
  | .int _ => some "int"
  | .str _ => some "str"
  | .tup _ => some "tuple"
  | .lst _ => some "list"
  | .scr _ => some "list"
  | .dK _ => some "dict"
  | .dT _ => some "dict"
  | _ => none
def isTy (t T : String) : Bool := t == T || (t == "bool" && T == "int")
def okTy (T : String) : Bool := T == "int" || (T == "bool" || (T == "list" || (T == "tuple" || (T == "str" || T == "dict"))))
theorem kitB_ok {t T : String} {d : D} (h : tyD d = some t) (hT : okTy T = true) : kitB t T = some (isTy t T) := by
  have hT' : T = "int" ∨ T = "bool" ∨ T = "list" ∨ T = "tuple" ∨ T = "str" ∨ T = "dict" := by
    simpa [okTy] using hT
  have ht : t = "NoneType" ∨ t = "bool" ∨ t = "int" ∨ t = "str" ∨ t = "tuple" ∨ t = "list" ∨ t = "dict" := by
    cases d <;> simp [tyD] at h <;> subst h <;> simp
  rcases ht with rfl | rfl | rfl | rfl | rfl | rfl | rfl <;> rcases hT' with rfl | rfl | rfl | rfl | rfl | rfl <;> decide +kernel
theorem tyX_of {G : Gh} {H : Hp} {v : V} {d : D} {t : String} (L : Lk G H v d) (e : tyD d = some t) (hs : ∀ a ns, d = .scr ns → v = .ref a → TyX G.K H v (.type "list")) : TyX G.K H v (.type t) := by
  cases d with
  | non => cases e; rw [L.non_inv]; exact .base .non
  | bl b => cases e; rw [L.bl_inv]; exact .base (.bl _)
  | int i => cases e; rw [L.int_inv]; exact .base (.int _)
  | str s => cases e; rw [L.str_inv]; exact .base (.str _)
  | tup ds => cases e; obtain ⟨a, xs, rfl, h, _⟩ := L.tup_inv; exact .base (.tup h)
  | lst ds => cases e; obtain ⟨a, xs, rfl, h, _⟩ := L.lst_inv; exact .base (.lst h)
  | dK ds => cases e; obtain ⟨a, xs, rfl, h, _⟩ := L.dK_inv; exact .base (.dK h)
  | dT ds => cases e; obtain ⟨a, xs, rfl, h, _⟩ := L.dT_inv; exact .base (.dT h)
  | scr ns => cases e; obtain ⟨a, rfl, h⟩ := L.scr_inv; exact hs a ns rfl rfl
  | ins c fs => cases e
  | ref i => cases e
def isiD (Ts : List String) : D → Option Bool
  | .scr _ => none
  | d => (tyD d).map fun t => Ts.any (isTy t)
theorem isiD_ok {G : Gh} {H : Hp} {v : V} {d : D} {Ts : List String} {b : Bool} (L : Lk G H v d) (e : isiD Ts d = some b) : ∃ t, TyX G.K H v (.type t) ∧ tyD d = some t ∧ b = Ts.any (isTy t) := by
  have key : ∀ t, tyD d = some t → (∀ ns, d ≠ .scr ns) → TyX G.K H v (.type t) := fun t h n => tyX_of L h fun a ns z => absurd z (n ns)
  cases d with
  | scr ns => cases e
  | ref i => cases e
  | ins c fs => cases e
  | _ => cases e; exact ⟨_, key _ rfl (fun _ z => nomatch z), rfl, rfl⟩
def zIsi (Ts : List String) (z : ZX) : ZX := fun env M => (z env M).bind fun d M1 => match (deref M1 d).bind (isiD Ts) with
  | some b => .ok (.bl b) M1
  | none => .fail
theorem ze_isi {T : Str} {n : String} (hg : Gl X "isinstance") (hm : X.mg "isinstance" = none) (hgT : Gl X T) (hmT : X.mg T = none) (hvT : bootBuiltins T = some (.type n)) (hn : T ≠ "__name__") (hd : (T == ("__debug__" : Str)) = false) (hok : okTy n = true)
    (ha : ZC X W cl a za) (hst : nostar a = true) : ZE X W cl (.Call (.Name "isinstance" p) [a, .Name T p2] [] pos) (zIsi [n] za) := by
  obtain ⟨t, pa, q⟩ := ha.ex
  refine ⟨_, pe_callB call_isi hg hm (by decide +kernel) (pa_cons pa (pa_cons (pe_bltn (v := .ty n) hgT hmT hvT rfl hn hd) pa_nil) (star_ok hst)) (by decide) (by decide) (star_ok hst) (by rfl), fun F ph M env σ H Q h1 h2 S P => q F ph M env σ H _ h1 h2 S (P.step fun d M1 ph1 H1 v S1 f1 r1 P1 => ?_)⟩
  cases e1 : deref M1 d with
  | none => rw [e1] at P1; exact P1.elim
  | some c =>
    cases e2 : isiD [n] c with
    | none => simp only [e1, Option.bind_some, e2] at P1; exact P1.elim
    | some b =>
      simp only [e1, Option.bind_some, e2] at P1
      obtain ⟨ty, h3, h4, rfl⟩ := isiD_ok (r1.look S1 e1) e2
      rw [show (gh F ph1 env σ).K = X.K from h2] at h3
      exact ⟨v, .ty n, .type ty, .type n, _, rfl, .ty n, h3, kit_ty (kitB_ok h4 hok), P1.now S1 (by simp; exact .bl _)⟩
theorem ze_isi2 {T U : Str} {n m : String} {k : Nat} (hg : Gl X "isinstance") (hm : X.mg "isinstance" = none) (hgT : Gl X T) (hmT : X.mg T = none) (hvT : bootBuiltins T = some (.type n)) (hn : T ≠ "__name__") (hd : (T == ("__debug__" : Str)) = false) (hok : okTy n = true)
    (hgU : Gl X U) (hmU : X.mg U = none) (hvU : bootBuiltins U = some (.type m)) (hnU : U ≠ "__name__") (hdU : (U == ("__debug__" : Str)) = false) (hokU : okTy m = true)
    (ha : ZC X W cl a za) (hst : nostar a = true) : ZE X W cl (.Call (.Name "isinstance" p) [a, .Tuple [.Name T p2, .Name U p3] k pos'] [] pos) (zIsi [n, m] za) := by
  obtain ⟨t, pa, q⟩ := ha.ex
  refine ⟨_, pe_callB call_isiT hg hm (by decide +kernel) (pa_cons pa (pa_cons (pe_tup (pa_cons (pe_bltn (v := .ty n) hgT hmT hvT rfl hn hd) (pa_cons (pe_bltn (v := .ty m) hgU hmU hvU rfl hnU hdU) pa_nil))) pa_nil) (star_ok hst)) (by decide) (by decide) (star_ok hst) (by rfl), fun F ph M env σ H Q h1 h2 S P => q F ph M env σ H _ h1 h2 S (P.step fun d M1 ph1 H1 v S1 f1 r1 P1 => ?_)⟩
  cases e1 : deref M1 d with
  | none => rw [e1] at P1; exact P1.elim
  | some c =>
    cases e2 : isiD [n, m] c with
    | none => simp only [e1, Option.bind_some, e2] at P1; exact P1.elim
    | some b =>
      simp only [e1, Option.bind_some, e2] at P1
      refine ⟨by show 2 ≤ sizeLine; rw [sizeLine_eq]; decide, fun tp hp => ?_⟩
      have S2 := S1.alloc (o := .tup [.ty n, .ty m]) hp
      have f2 : Fwd ph1 H1 ph1 (upd H1 tp (.tup [.ty n, .ty m])) := Fwd.alloc hp
      obtain ⟨ty, h3, h4, rfl⟩ := isiD_ok ((r1.fwd S1 f2).look S2 e1) e2
      rw [show (gh F ph1 env σ).K = X.K from h2] at h3
      have kA : PySem.W.kitAny X.K (.type ty) [.type n, .type m] = some ([n, m].any (isTy ty)) := by
        have k1 := kit_ty (K := X.K) (kitB_ok h4 hok)
        have k2 := kit_ty (K := X.K) (kitB_ok h4 hokU)
        refine kitAny_cons k1 (fun e => kitAny_cons k2 (fun e' => ?_) fun e' => ?_) fun e => ?_
        · rw [kitAny_nil]; simp [e, e']
        · simp [e']
        · simp [e]
      exact ⟨v, tp, [.ty n, .ty m], .type ty, [.type n, .type m], _, rfl, upd_same, .cons (.ty n) (.cons (.ty m) .nil), h3, kA, Post.now (Post.fwd P1 f2) S2 (.bl _)⟩
end
end Zy

set_option maxHeartbeats 2000000
namespace Zy
open PySem PySem.Spec PyProof.Rows L2
/-! l.index(x) of whole numbers -/
section
variable {X : Cx} {W : WX} {cl : String → Option Addr} {o b : Expr} {za zb : ZX} {apos pos p : Pos}
def gIdx : G2 := fun d e M => match deref M d, e with
  | some (.lst ds), .int i => match intsD ds with
    | some ns => match ns.findIdx? (· == i) with
      | some j => .ok (.int (j : Nat)) M
      | none => .fail
    | none => .fail
  | _, _ => .fail
def zIdx (z y : ZX) : ZX := fun env M => (z env M).bind fun d M1 => match deref M1 d with
  | some (.lst _) => (y env M1).bind fun e M2 => gIdx d e M2
  | _ => .fail
theorem flat_ints : ∀ ns : List Int, (ns.map V.int).all flatV = true
  | [] => rfl
  | n :: ns => by
    rw [List.map_cons, List.all_cons, flat_ints ns]
    rfl
theorem ze_idx {x : Str} (ha : ZC X W cl (.Name x p) za) (hb : ZE X W cl b zb) (hn : nostar b = true) (hline : (apos.endLine == pos.line) = true) : ZE X W cl (.Call (.Attribute (.Name x p) "index" apos) [b] [] pos) (zIdx za zb) := by
  obtain ⟨ta, pa, qa⟩ := ha.ex
  obtain ⟨tb, pb, qb⟩ := hb.ex
  refine ⟨_, pe_bm PySem.F.plainAttrs_list PySem.F.slot_list_index PySem.F.type_list_index mt_index pa (pa_cons pb pa_nil (star_ok hn)) (hbase := by rfl) (hfew := ?_) (hline := hline) (hs := star_ok hn) (hplain := by rfl), fun F ph M env σ H Q h1 h2 S P => ?_⟩
  · rw [star_ok hn]; rfl
  · refine qa F ph M env σ H _ h1 h2 S (P.step fun d M1 ph1 H1 v S1 f1 r1 P1 => ?_)
    split at P1
    · rename_i ds0 e1
      obtain ⟨a, xs, rfl, ha, ra⟩ := (r1.look S1 e1).lst_inv
      refine ⟨.inl ⟨rfl, xs, SqL.of ha⟩, ?_⟩
      refine qb F ph1 M1 env σ H1 _ h1 h2 S1 (P1.step fun e M2 ph2 H2 w S2 f2 r2 P2 => ?_)
      unfold gIdx at P2
      split at P2
      · rename_i ds i e2 
        obtain ⟨a', ys, e3, ha', ra'⟩ := ((r1.fwd S1 f2).look S2 e2).lst_inv
        cases e3
        split at P2
        · rename_i ns hns
          split at P2
          · rename_i j hj
            have hy := ra'.ints hns
            subst hy
            cases r2
            obtain ⟨hlt, h3, h4⟩ := List.findIdx?_eq_some_iff_getElem.mp hj
            refine ⟨_, _, _, j, .int ns[j], rfl, rfl, SqL.of ha', rfl, flat_ints ns, ?_, ?_, fun m z' hm hz => ?_, P2.now S2 (.int _)⟩
            · rw [List.getElem?_map, List.getElem?_eq_getElem hlt]; rfl
            · exact h3
            · rw [List.getElem?_map, List.getElem?_eq_getElem (Nat.lt_trans hm hlt)] at hz
              cases hz
              have := h4 m hm
              simpa [eqV] using this
          · exact P2.elim
        · exact P2.elim
      · exact P2.elim
    · exact P1.elim
end
end Zy
set_option maxHeartbeats 2000000
namespace Zy
open PySem PySem.Spec PyProof.Rows L2

/-! the text's own meaning -/
structure Pt where
  name : Str
  n : Nat
  ks : List Str
  is : List Nat
  dd : List D
structure Px where
  free : List Str
  pats : List Pt
structure Stt where
  px : Px
  call : Str → Sem1
  N : List Str
  sc : Scope
  owns : List Str
  cels : List Str
def failX : ZX := fun _ _ => .fail
def failL : ZL := fun _ _ => .fail
def failS : ZS := fun _ _ => .fail
def ixOf (N : List Str) (x : Str) : Option Nat := N.findIdx? (· == x)
def isVis (sc : Scope) (x : Str) : Bool := match sc.names.lookup x with
  | some .local | some .cell | some .free => true
  | _ => false
def isGlo (sc : Scope) (x : Str) : Bool := match sc.names.lookup x with
  | some .globalImplicit => true
  | _ => false
def plainN (x : Str) : Bool := !(x == ("__debug__" : Str)) && !(x == ("__classdict__" : Str))
/-- a built-in name that the module leaves alone -/
def Stt.bi (st : Stt) (x : Str) : Bool := isGlo st.sc x && st.px.free.contains x
def slotOf (st : Stt) (x : Str) : Option Nat := if isVis st.sc x && plainN x then ixOf st.N x else none
def cmpG : CmpOp → Option G2
  | .Eq => some gEq
  | .NotEq => some gNe
  | .Lt => some gLt
  | .LtE => some gLe
  | .Gt => some gGt
  | .GtE => some gGe
  | .Is => some gIs
  | .IsNot => some gIsNot
  | _ => none
def binG : Operator → Option G2
  | .Add => some gAdd
  | .Sub => some gSub
  | .Mult => some gMul
  | .FloorDiv => some gFdiv
  | .Mod => some gMod
  | .Pow => some gPow
  | _ => none
/-- reading a name, or what r makes of it -/
def rdC (st : Stt) (r : Expr → ZX) : Expr → ZX
  | .Name x _ => match slotOf st x with
    | some i => zCv i
    | none => failX
  | e => r e
def rdB (st : Stt) (r : Expr → ZX) : Expr → ZX
  | .Name x _ => match slotOf st x with
    | some i => zBv i
    | none => failX
  | e => r e
def rdS (st : Stt) (r : Expr → ZX) : Expr → ZS1
  | .Name x _ => match slotOf st x with
    | some i => zSv i
    | none => fun _ _ => .fail
  | e => zVl (r e)
def andV (r : Expr → ZX) : List Expr → ZX
  | [] => failX
  | [a] => r a
  | a :: es => zAndV (r a) (andV r es)
def orV (r : Expr → ZX) : List Expr → ZX
  | [] => failX
  | [a] => r a
  | a :: es => zOrV (r a) (orV r es)
def andT (r : Expr → ZB) : List Expr → ZB
  | [] => fun _ _ => .fail
  | [a] => r a
  | a :: es => zAnd (r a) (andT r es)
def orT (r : Expr → ZB) : List Expr → ZB
  | [] => fun _ _ => .fail
  | [a] => r a
  | a :: es => zOr (r a) (orT r es)
def rdA (r : Expr → ZX) : List Expr → ZL
  | [] => zNil
  | e :: es => if nostar e = true then zCons (r e) (rdA r es) else failL
def rdSs (r : Expr → ZS1) : List Expr → ZSl
  | [] => sNil
  | e :: es => if nostar e = true then sCons (r e) (rdSs r es) else fun _ _ => .fail
def rdKs (r : Expr → ZS1) : List Keyword → ZSl
  | [] => sNil
  | k :: ks => sCons (r k.value) (rdKs r ks)
def rdP (r : Expr → ZX) : Option Expr → ZO
  | none => zNoP
  | some e => zPart (r e)
/-- subscripts that are no slices -/
def plainSub : Expr → Bool
  | .Name .. | .Constant (.int _) .. | .BinOp .. | .Call .. | .Subscript .. | .Attribute .. => true
  | .UnaryOp .. => true
  | _ => false
def truE : Expr → Bool
  | .Name .. | .Call .. | .Subscript .. | .Attribute .. => true
  | _ => false
def foldOk : Expr → Bool
  | .Name .. | .Call .. | .Subscript .. | .Attribute .. | .List .. | .Tuple .. | .BinOp .. | .ListComp .. => true
  | _ => false
def tyName (x : Str) : Option String :=
  if x = ("int" : Str) then some "int" else if x = ("bool" : Str) then some "bool" else if x = ("list" : Str) then some "list" else if x = ("tuple" : Str) then some "tuple" else if x = ("str" : Str) then some "str" else if x = ("dict" : Str) then some "dict" else none
def Stt.rng (st : Stt) (r : Expr → ZX) : Expr → Option ZR
  | .Call (.Name x _) [a] [] _ => if x = ("range" : Str) ∧ st.bi x = true ∧ nostar a = true then some (zRg1 (r a)) else none
  | .Call (.Name x _) [a, b] [] _ => if x = ("range" : Str) ∧ st.bi x = true ∧ nostar a = true ∧ nostar b = true then some (zRg2 (r a) (r b)) else none
  | _ => none
/-- a built-in of one argument -/
def bi1 (st : Stt) (r : Expr → ZX) (x : Str) (a : Expr) : ZX :=
  if x = ("len" : Str) then zBf gLen (zCons (rdC st r a) zNil) else
  if x = ("int" : Str) then zBf gInt (zCons (rdC st r a) zNil) else
  if x = ("abs" : Str) then zBf gAbs (zCons (rdC st r a) zNil) else
  if x = ("sum" : Str) then zBf gSum (zCons (rdC st r a) zNil) else
  if x = ("max" : Str) then zBf gMax (zCons (rdC st r a) zNil) else
  if x = ("min" : Str) then zBf gMin (zCons (rdC st r a) zNil) else
  if x = ("all" : Str) then zBf gAll (zCons (rdC st r a) zNil) else
  if x = ("any" : Str) then zBf gAny (zCons (rdC st r a) zNil) else
  if x = ("repr" : Str) then zBf gRepr (zCons (rdC st r a) zNil) else
  if x = ("tuple" : Str) then (match st.rng r a with
    | some z => zTupRg z
    | none => zTupOf (rdC st r a)) else
  if x = ("list" : Str) then (match st.rng r a with
    | some z => zLstRg z
    | none => zLstOf (rdC st r a)) else failX
def bi2 (st : Stt) (r : Expr → ZX) (x : Str) (a b : Expr) : ZX :=
  if x = ("max" : Str) then zBf gMax2 (zCons (rdC st r a) (zCons (rdC st r b) zNil)) else
  if x = ("min" : Str) then zBf gMin2 (zCons (rdC st r a) (zCons (rdC st r b) zNil)) else
  if x = ("isinstance" : Str) then (match b with
    | .Name T _ => if st.bi T = true then (match tyName T with
      | some n => zIsi [n] (rdC st r a)
      | none => failX) else failX
    | .Tuple [.Name T _, .Name U _] _ _ => if st.bi T = true ∧ st.bi U = true then (match tyName T, tyName U with
      | some n, some m => zIsi [n, m] (rdC st r a)
      | _, _ => failX) else failX
    | _ => failX) else failX
def kwNames : List Keyword → List Str
  | [] => []
  | k :: ks => match k.arg with
    | some x => x :: kwNames ks
    | none => kwNames ks
/-- a call of a def -/
def usr (st : Stt) (r : Expr → ZX) (x : Str) (es : List Expr) (kws : List Keyword) : ZX :=
  if isGlo st.sc x = true ∧ plainN x = true ∧ es.all nostar = true ∧ kws.all (fun k => k.arg.isSome) = true then
    match st.px.pats.find? fun p => decide (p.name = x) && (decide (p.n = es.length) && decide (p.ks = kwNames kws)) with
    | some p => zCall (st.call x) p.n p.ks.length p.is p.dd (rdSs (rdS st r) es) (rdKs (rdS st r) kws)
    | none => failX
  else failX
/-- what is iterated -/
def rdI (st : Stt) (r : Expr → ZX) : Expr → ZL
  | .Call (.Name x p) es kws pos => if x = ("range" : Str) ∧ st.bi x = true ∧ kws.isEmpty = true then (match es with
      | [a] => if nostar a = true then zRng1 (rdA r [a]) else failL
      | [a, b] => if nostar a = true ∧ nostar b = true then zRng2 (rdA r [a, b]) else failL
      | [a, b, c] => if nostar a = true ∧ nostar b = true ∧ nostar c = true then zRng3 (rdA r [a, b, c]) else failL
      | _ => failL) else zSeqI (rdB st r (.Call (.Name x p) es kws pos))
  | e => zSeqI (rdB st r e)
/-- the slots of names -/
def slots (N : List Str) (ok : Str → Bool) : List Expr → Option (List Nat)
  | [] => some []
  | .Name x _ :: es => if ok x = true then (match ixOf N x, slots N ok es with
    | some i, some is => some (i :: is)
    | _, _ => none) else none
  | _ => none
def rdG (N : List Str) (ok : Str → Bool) : Expr → Option (List Nat × ZTg)
  | .Name x _ => if ok x = true then (match ixOf N x with
    | some i => some ([i], tgN i)
    | none => none) else none
  | .Tuple es _ _ => match slots N ok es with
    | some is => some (is, tgT is)
    | none => none
  | _ => none
/-- a comprehension's own names and their slots -/
def ownOf (N : List Str) (scope : Scope) : List (Str × Nat) := scope.names.filterMap fun y => match y.2 with
  | .local | .cell => (ixOf N y.1).map fun i => (y.1, i)
  | _ => none
def okStore (scope : Scope) (sc : Scope) (x : Str) : Bool := match (relS scope sc).names.lookup x with
  | some .local => true
  | some .cell => scope.names.lookup x == some .cell
  | _ => false
def Stt.blk (st : Stt) (scope : Scope) : Stt := { st with sc := relS scope st.sc }
def subset (a b : List Nat) : Bool := a.all b.contains
def ev : Nat → Stt → Expr → ZX × ZB
  | 0, _, _ => (failX, fun _ _ => .fail)
  | n + 1, st, e =>
    let r := fun e => (ev n st e).1
    let t := fun e => (ev n st e).2
    (match e with
    | .Constant .none _ _ => zK .non
    | .Constant (.bool b) _ _ => zK (.bl b)
    | .Constant (.int i) _ _ => zK (.int i)
    | .Constant (.str s) _ _ => zK (.str s)
    | .Name x _ => match slotOf st x with
      | some i => zVar i
      | none => failX
    | .BinOp a op b _ => match binG op with
      | some g => zOp g (rdC st r a) (rdC st r b)
      | none => failX
    | .UnaryOp .USub a _ => zNeg (r a)
    | .UnaryOp .Not a _ => zNotV (r a)
    | .Compare a [o] [b] _ => match cmpG o with
      | some g => zOp g (rdC st r a) (rdC st r b)
      | none => failX
    | .Compare a [o, o'] [b, c] _ => match cmpG o, cmpG o' with
      | some g, some g' => zCh g g' (rdC st r a) (rdC st r b) (rdC st r c)
      | _, _ => failX
    | .BoolOp .And es _ => andV r es
    | .BoolOp .Or es _ => orV r es
    | .IfExp c a b _ => zIf (t c) (r a) (r b)
    | .Tuple es _ _ => zTup (rdA r es)
    | .List es _ => zLst (rdA r es)
    | .Subscript a (.Slice lo hi none _) _ => zSl (rdC st r a) (rdP r lo) (rdP r hi)
    | .Subscript a (.Slice none none (some (.UnaryOp .USub (.Constant (.int 1) _ _) _)) _) _ => zRv (rdC st r a)
    | .Subscript a b _ => if plainSub b = true then zOp gIx (rdC st r a) (rdC st r b) else failX
    | .ListComp elt [⟨tg, iter, ifs, 0⟩] scope _ => match rdG st.N (okStore scope st.sc) tg with
      | some (is, gz) => if blkC st.N st.sc scope (ownOf st.N scope) = true ∧ subset is ((ownOf st.N scope).map (·.2)) = true ∧ foldOk iter = true then
          (match ifs with
          | [] => zLc (rdI st r iter) gz (fun _ M => .ok true M) (ev n (st.blk scope) elt).1 ((ownOf st.N scope).map (·.2))
          | [c] => zLc (rdI st r iter) gz (ev n (st.blk scope) c).2 (ev n (st.blk scope) elt).1 ((ownOf st.N scope).map (·.2))
          | _ => failX) else failX
      | none => failX
    | .Call (.Name x _) es kws _ => if st.bi x = true then (match es, kws with
        | [a], [] => if nostar a = true then bi1 st r x a else failX
        | [a, b], [] => if nostar a = true ∧ nostar b = true then bi2 st r x a b else failX
        | _, _ => failX) else usr st r x es kws
    | .Call (.Attribute (.Name x _) m p2) [b] [] p3 => match slotOf st x with
      | some i => if m = ("index" : Str) ∧ nostar b = true ∧ (p2.endLine == p3.line) = true then zIdx (zCv i) (r b) else failX
      | none => failX
    | _ => failX,
    match e with
    | .Compare a [o] [b] _ => match cmpG o with
      | some g => zTst (zOp g (rdC st r a) (rdC st r b))
      | none => fun _ _ => .fail
    | .Compare a [o, o'] [b, c] _ => match cmpG o, cmpG o' with
      | some g, some g' => zTst (zCh g g' (rdC st r a) (rdC st r b) (rdC st r c))
      | _, _ => fun _ _ => .fail
    | .BoolOp .And es _ => andT t es
    | .BoolOp .Or es _ => orT t es
    | .UnaryOp .Not a _ => zNot (t a)
    | e => if truE e = true then zTru (rdC st r e) else fun _ _ => .fail)
end Zy
set_option maxHeartbeats 4000000
namespace Zy
open PySem PySem.Spec PyProof.Rows L2

structure Tab (P : Program) (w : World) (K : PySem.W.Frag) (mg : Str → Option Value) (base : Heap) (cl : String → Option Addr) (k : Nat) (px : Px) (call : Str → Sem1) : Prop where
  free : ∀ x, x ∈ px.free → mg x = none
  fn : ∀ p, p ∈ px.pats → ∃ f fd ps, mg p.name = some (.ref f) ∧ PySem.W.keepIn K (.ref f) = true ∧ Pat K fd ps p.n p.ks p.is p.dd ∧ FnG P w K mg base (L2.CX P w) k f fd ps (spZ cl K ps.length (call p.name))
structure Ct (X : Cx) (W : WX) (cl : String → Option Addr) (k : Nat) (st : Stt) : Prop where
  N : X.N = st.N
  sc : X.env.scope = st.sc
  calm : X.calm = true
  nd : st.N.Nodup
  tk : Takes X W
  room : Room k X.A
  gd : X.A.guards = some []
  tab : Tab X.prog X.w X.K X.mg X.base cl k st.px st.call
  kind : st.sc.kind = .function
section
variable {X : Cx} {W : WX} {cl : String → Option Addr} {k : Nat} {st : Stt} {e a b : Expr} {es : List Expr} {r : Expr → ZX} {t : Expr → ZB} {x : Str} {i : Nat}
theorem ze_fail : ZE X W cl e failX := ⟨fun _ _ _ => False, ⟨fun _ _ _ _ _ _ h => h.elim⟩, fun F ph M env σ H Q _ _ S P => P⟩
theorem zt_fail : ZT X W cl e fun _ _ => .fail := ⟨fun _ _ _ => False, ⟨fun _ _ _ _ _ _ h => h.elim⟩, fun F ph M env σ H Q _ _ S P => P⟩
theorem za_fail : ZA X W cl es failL := ⟨fun _ _ _ => False, ⟨fun _ _ _ _ _ _ _ h => h.elim⟩, fun F ph M env σ H Q _ _ S P => P⟩
theorem zsa_fail : ZSa X W cl es fun _ _ => .fail := ⟨fun _ _ _ => False, ⟨fun _ _ _ _ _ _ _ h => h.elim⟩, fun F ph M env σ H Q _ _ S P => P⟩
theorem zi_fail {tg : Expr} : Zi X W cl tg e failL := ⟨fun _ _ _ => False, ⟨fun _ _ _ _ _ _ h => h.elim⟩, fun F ph M env σ H Q _ _ S P => P⟩
theorem zs1_fail : ZS1j X W cl e fun _ _ => .fail := ⟨fun _ _ _ => False, ⟨fun _ _ _ _ _ _ h => h.elim⟩, fun F ph M env σ H Q _ _ S P => P⟩
theorem ixOf_at {N : List Str} {x : Str} {i : Nat} (h : ixOf N x = some i) : N[i]? = some x := by
  obtain ⟨hi, h1, _⟩ := List.findIdx?_eq_some_iff_getElem.mp h
  rw [List.getElem?_eq_getElem hi]
  exact congrArg some (eq_of_beq h1)
theorem isVis_ok {sc : Scope} (h : isVis sc x = true) : Vis sc x := by
  unfold isVis at h
  unfold Vis
  split at h <;> simp_all
theorem isGlo_ok (c : Ct X W cl k st) (h : isGlo st.sc x = true) : Gl X x := by
  unfold isGlo at h
  unfold Gl
  show X.env.scope.names.lookup x = _
  rw [c.sc]
  split at h <;> simp_all
theorem plainN_ok (h : plainN x = true) : (x == ("__debug__" : Str)) = false ∧ (x == ("__classdict__" : Str)) = false := by
  unfold plainN at h
  simpa using h
theorem slotOf_ok (c : Ct X W cl k st) (h : slotOf st x = some i) : X.N[i]? = some x ∧ Vis X.env.scope x ∧ (x == ("__debug__" : Str)) = false ∧ (x == ("__classdict__" : Str)) = false := by
  unfold slotOf at h
  split at h
  · rename_i hc
    simp only [Bool.and_eq_true] at hc
    rw [c.N, c.sc]
    exact ⟨ixOf_at h, isVis_ok hc.1, plainN_ok hc.2⟩
  · cases h
theorem bi_ok (c : Ct X W cl k st) (h : st.bi x = true) : Gl X x ∧ X.mg x = none := by
  unfold Stt.bi at h
  simp only [Bool.and_eq_true] at h
  exact ⟨isGlo_ok c h.1, c.tab.free x (by simpa using h.2)⟩
theorem rdC_ok (c : Ct X W cl k st) (hr : ∀ e, ZE X W cl e (r e)) : ∀ e, ZC X W cl e (rdC st r e) := by
  intro e
  unfold rdC
  split
  · rename_i x p
    split
    · rename_i i h
      obtain ⟨h1, h2, h3, h4⟩ := slotOf_ok c h
      exact zc_var h1 h2 h3 h4
    · exact ze_fail.toC
  · exact (hr _).toC
theorem rdB_ok (c : Ct X W cl k st) (hr : ∀ e, ZE X W cl e (r e)) : ∀ e, ZBm X W cl e (rdB st r e) := by
  intro e
  unfold rdB
  split
  · split
    · rename_i i h
      obtain ⟨h1, h2, h3, h4⟩ := slotOf_ok c h
      exact zbm_var h1 h2 h3 h4
    · exact ze_fail.toB
  · exact (hr _).toB
theorem rdS_ok (c : Ct X W cl k st) (hr : ∀ e, ZE X W cl e (r e)) : ∀ e, ZS1j X W cl e (rdS st r e) := by
  intro e
  unfold rdS
  split
  · split
    · rename_i i h
      obtain ⟨h1, h2, h3, h4⟩ := slotOf_ok c h
      exact zs1_var h1 h2 h3 h4
    · exact zs1_fail
  · exact (hr _).to1
theorem andV_ok {pos : Pos} (hr : ∀ e, ZE X W cl e (r e)) : ∀ es, ZE X W cl (.BoolOp .And es pos) (andV r es)
  | [] => ze_fail
  | [a] => ze_one (hr a)
  | a :: b :: es => ze_and (hr a) (andV_ok hr (b :: es))
theorem orV_ok {pos : Pos} (hr : ∀ e, ZE X W cl e (r e)) : ∀ es, ZE X W cl (.BoolOp .Or es pos) (orV r es)
  | [] => ze_fail
  | [a] => ze_one (hr a)
  | a :: b :: es => ze_or (hr a) (orV_ok hr (b :: es))
theorem zw_fail : ZW X W cl e fun _ _ => .fail := ⟨fun _ _ _ => False, ⟨fun _ _ _ _ _ _ _ h => h.elim⟩, fun F ph M env σ H Q _ _ S P => P⟩
theorem andT_ok {pos : Pos} (ht : ∀ e, ZT X W cl e (t e)) : ∀ es, ZW X W cl (.BoolOp .And es pos) (andT t es)
  | [] => zw_fail
  | [a] => zw_and1 (ht a)
  | a :: b :: es => zw_and (ht a) (andT_ok ht (b :: es))
theorem orT_ok {pos : Pos} (ht : ∀ e, ZT X W cl e (t e)) : ∀ es, ZW X W cl (.BoolOp .Or es pos) (orT t es)
  | [] => zw_fail
  | [a] => zw_or1 (ht a)
  | a :: b :: es => zw_or (ht a) (orT_ok ht (b :: es))
theorem rdA_ok (hr : ∀ e, ZE X W cl e (r e)) : ∀ es, ZA X W cl es (rdA r es)
  | [] => za_nil
  | e :: es => by
    unfold rdA
    split
    · rename_i h
      exact za_cons (hr e) (rdA_ok hr es) h
    · exact za_fail
theorem rdSs_ok {r : Expr → ZS1} (hr : ∀ e, ZS1j X W cl e (r e)) : ∀ es, ZSa X W cl es (rdSs r es)
  | [] => zsa_nil
  | e :: es => by
    unfold rdSs
    split
    · rename_i h
      exact zsa_cons (hr e) (rdSs_ok hr es) h
    · exact zsa_fail
theorem rdKs_ok {r : Expr → ZS1} (hr : ∀ e, ZS1j X W cl e (r e)) : ∀ ks, ZSk X W cl ks (rdKs r ks)
  | [] => zsk_nil
  | ⟨nm, e, p⟩ :: ks => zsk_cons (hr e) (rdKs_ok hr ks)
theorem rdP_ok (hr : ∀ e, ZE X W cl e (r e)) : ∀ o, ZP X W cl o (rdP r o)
  | none => zp_none
  | some e => zp_some (hr e)
theorem plainSub_ok (h : plainSub b = true) : PlainIx b := by
  cases b with
  | Constant c k p => cases c <;> first | exact fun _ _ => rfl | cases h
  | _ => first | exact fun _ _ => rfl | cases h
theorem truE_ok (h : truE a = true) : ∀ whole, isTrue a X.env whole = (do let v ← whole; standAt a.pos; holding [v] (truthy v)) := by
  cases a <;> first | exact fun _ => rfl | cases h
theorem foldOk_ok (h : foldOk a = true) : ∀ x, foldedSetIterable a X.env x = pure x := by
  cases a <;> first | exact fun _ => rfl | cases h
theorem Ct.units (c : Ct X W cl k st) : X.A.units + 64 < cLine := c.room.units
theorem tyName_ok {n : String} (h : tyName x = some n) : bootBuiltins x = some (.type n) ∧ x ≠ "__name__" ∧ (x == ("__debug__" : Str)) = false ∧ okTy n = true := by
  unfold tyName at h
  split at h
  · rename_i e; cases h; subst e; exact ⟨by decide +kernel, by decide +kernel, by decide +kernel, rfl⟩
  split at h
  · rename_i e; cases h; subst e; exact ⟨by decide +kernel, by decide +kernel, by decide +kernel, by decide +kernel⟩
  split at h
  · rename_i e; cases h; subst e; exact ⟨by decide +kernel, by decide +kernel, by decide +kernel, by decide +kernel⟩
  split at h
  · rename_i e; cases h; subst e; exact ⟨by decide +kernel, by decide +kernel, by decide +kernel, by decide +kernel⟩
  split at h
  · rename_i e; cases h; subst e; exact ⟨by decide +kernel, by decide +kernel, by decide +kernel, by decide +kernel⟩
  split at h
  · rename_i e; cases h; subst e; exact ⟨by decide +kernel, by decide +kernel, by decide +kernel, by decide +kernel⟩
  · cases h
theorem bin_ok (c : Ct X W cl k st) {op : Operator} {g : G2} {pos : Pos} {za zb : ZX} (h : binG op = some g) (ha : ZC X W cl a za) (hb : ZC X W cl b zb) : ZE X W cl (.BinOp a op b pos) (zOp g za zb) := by
  cases op <;> simp only [binG, Option.some.injEq, reduceCtorEq] at h <;> subst h
  · exact ze_add ha hb
  · exact ze_sub ha hb
  · exact ze_mul ha hb
  · exact ze_mod ha hb
  · exact ze_pow ha hb
  · exact ze_fdiv ha hb
theorem cmp_ok (c : Ct X W cl k st) {op : CmpOp} {g : G2} (h : cmpG op = some g) : ∃ r, OpR X (compareOp op) r ∧ OpZ X W cl r g ∧ op ≠ .In ∧ op ≠ .NotIn := by
  cases op <;> simp only [cmpG, Option.some.injEq, reduceCtorEq] at h <;> subst h
  · exact ⟨_, op_eq.or (op_eqD c.units), oz_eq, by decide, by decide⟩
  · exact ⟨_, op_ne.or (op_neD c.units), oz_ne, by decide, by decide⟩
  · exact ⟨_, op_lt, oz_cmp, by decide, by decide⟩
  · exact ⟨_, op_le, oz_cmp, by decide, by decide⟩
  · exact ⟨_, op_gt, oz_cmp, by decide, by decide⟩
  · exact ⟨_, op_ge, oz_cmp, by decide, by decide⟩
  · exact ⟨_, op_isN.or op_isBl, oz_is, by decide, by decide⟩
  · exact ⟨_, op_notN.or op_notBl, oz_isNot, by decide, by decide⟩
theorem rng_ok (c : Ct X W cl k st) (hr : ∀ e, ZE X W cl e (r e)) {z : ZR} (h : st.rng r e = some z) : ZRg X W cl e z ∧ nostar e = true := by
  unfold Stt.rng at h
  split at h
  · split at h
    · rename_i hc
      obtain ⟨rfl, h2, h3⟩ := hc
      cases h
      obtain ⟨g1, g2⟩ := bi_ok c h2
      exact ⟨zr_1 g1 g2 (hr _) h3, rfl⟩
    · cases h
  · split at h
    · rename_i hc
      obtain ⟨rfl, h2, h3, h4⟩ := hc
      cases h
      obtain ⟨g1, g2⟩ := bi_ok c h2
      exact ⟨zr_2 g1 g2 (hr _) (hr _) h3 h4, rfl⟩
    · cases h
  · cases h
theorem bi1_ok (c : Ct X W cl k st) (hr : ∀ e, ZE X W cl e (r e)) {p pos : Pos} (hb : st.bi x = true) (hn : nostar a = true) : ZE X W cl (.Call (.Name x p) [a] [] pos) (bi1 st r x a) := by
  obtain ⟨hg, hm⟩ := bi_ok c hb
  have ha := rdC_ok c hr a
  unfold bi1
  split
  · rename_i e; subst e; exact ze_len hg hm ha hn
  split
  · rename_i e; subst e; exact ze_callInt hg hm ha hn
  split
  · rename_i e; subst e; exact ze_abs hg hm ha hn
  split
  · rename_i e; subst e; exact ze_sum c.calm hg hm ha hn
  split
  · rename_i e; subst e; exact ze_max c.calm hg hm ha hn
  split
  · rename_i e; subst e; exact ze_min c.calm hg hm ha hn
  split
  · rename_i e; subst e; exact ze_all c.calm hg hm ha hn
  split
  · rename_i e; subst e; exact ze_any c.calm hg hm ha hn
  split
  · rename_i e; subst e; exact ze_repr c.gd c.units hg hm ha hn
  split
  · rename_i e
    subst e
    split
    · rename_i z h
      exact ze_tupRg c.calm hg hm (rng_ok c hr h).1 hn
    · exact ze_tupOf hg hm ha hn
  split
  · rename_i e
    subst e
    split
    · rename_i z h
      exact (zf_lstRg c.calm hg hm (rng_ok c hr h).1 hn).toE
    · exact (zf_lstOf hg hm ha hn).toE
  · exact ze_fail
theorem bi2_ok (c : Ct X W cl k st) (hr : ∀ e, ZE X W cl e (r e)) {p pos : Pos} (hb : st.bi x = true) (hn : nostar a = true) (hn2 : nostar b = true) : ZE X W cl (.Call (.Name x p) [a, b] [] pos) (bi2 st r x a b) := by
  obtain ⟨hg, hm⟩ := bi_ok c hb
  have ha := rdC_ok c hr a
  unfold bi2
  split
  · rename_i e; subst e; exact ze_max2 c.calm hg hm ha (rdC_ok c hr b) hn hn2
  split
  · rename_i e; subst e; exact ze_min2 c.calm hg hm ha (rdC_ok c hr b) hn hn2
  split
  · rename_i e
    subst e
    split
    · split
      · rename_i hT
        split
        · rename_i n h
          obtain ⟨g1, g2⟩ := bi_ok c hT
          obtain ⟨t1, t2, t3, t4⟩ := tyName_ok h
          exact ze_isi hg hm g1 g2 t1 t2 t3 t4 ha hn
        · exact ze_fail
      · exact ze_fail
    · split
      · rename_i hT
        split
        · rename_i n m h h'
          obtain ⟨g1, g2⟩ := bi_ok c hT.1
          obtain ⟨g3, g4⟩ := bi_ok c hT.2
          obtain ⟨t1, t2, t3, t4⟩ := tyName_ok h
          obtain ⟨u1, u2, u3, u4⟩ := tyName_ok h'
          exact ze_isi2 hg hm g1 g2 t1 t2 t3 t4 g3 g4 u1 u2 u3 u4 ha hn
        · exact ze_fail
      · exact ze_fail
    · exact ze_fail
  · exact ze_fail
theorem starAny : ∀ {es : List Expr} {env : Env} {pos : Pos}, es.all nostar = true → (backTo pos (starEach es env)).any (·.1) = false
  | [], _, _, _ => rfl
  | e :: es, env, pos, h => by
    simp only [List.all_cons, Bool.and_eq_true] at h
    rw [star_ok h.1]
    show (false || (backTo pos (starEach es env)).any (·.1)) = false
    rw [starAny h.2]
    rfl
theorem kwAll : ∀ {ks : List Keyword} {env : Env} {pos : Pos}, ks.all (fun k => k.arg.isSome) = true → (backToKw pos (keywordEach ks env)).all (·.1.isSome) = true ∧ (backToKw pos (keywordEach ks env)).any (·.1.isNone) = false ∧ (backToKw pos (keywordEach ks env)).filterMap (·.1) = kwNames ks
  | [], _, _, _ => ⟨rfl, rfl, rfl⟩
  | ⟨some x, e, p⟩ :: ks, env, pos, h => by
    simp only [List.all_cons, Bool.and_eq_true] at h
    obtain ⟨h1, h2, h3⟩ := kwAll (env := env) (pos := pos) h.2
    refine ⟨?_, ?_, ?_⟩
    · show (true && (backToKw pos (keywordEach ks env)).all (·.1.isSome)) = true
      rw [h1]; rfl
    · show (false || (backToKw pos (keywordEach ks env)).any (·.1.isNone)) = false
      rw [h2]; rfl
    · show x :: (backToKw pos (keywordEach ks env)).filterMap (·.1) = x :: kwNames ks
      rw [h3]
  | ⟨none, e, p⟩ :: ks, env, pos, h => by simp at h
theorem usr_ok (c : Ct X W cl k st) (hr : ∀ e, ZE X W cl e (r e)) {p pos : Pos} {kws : List Keyword} : ZE X W cl (.Call (.Name x p) es kws pos) (usr st r x es kws) := by
  unfold usr
  split
  · rename_i hc
    obtain ⟨h1, h2, h3, h4⟩ := hc
    split
    · rename_i q hq
      have hmem := List.mem_of_find?_eq_some hq
      have hp := List.find?_some hq
      simp only [Bool.and_eq_true, decide_eq_true_eq] at hp
      obtain ⟨p1, p2, p3⟩ := hp
      obtain ⟨f, fd, ps, hm, hk, B, F⟩ := c.tab.fn q hmem
      rw [p1] at hm F
      obtain ⟨k1, k2, k3⟩ := kwAll (env := X.env) (pos := pos) h4
      have hpl : ((backTo pos (starEach es X.env)).any (·.1) || (backToKw pos (keywordEach kws X.env)).any (·.1.isNone)) = false := by rw [starAny h3, k2]; rfl
      cases es with
      | nil =>
        have p2' : q.n = 0 := p2
        rw [p2'] at B ⊢
        exact ze_call0 F c.gd c.room c.tk (isGlo_ok c h1) hm hk B (plainN_ok h2).1 (rdKs_ok (rdS_ok c hr) kws) k1 (k3.trans p3.symm) hpl
      | cons e es =>
        have h3' := h3
        simp only [List.all_cons, Bool.and_eq_true] at h3'
        exact ze_call F c.gd c.room c.tk (isGlo_ok c h1) hm hk B (plainN_ok h2).1 (rdSs_ok (rdS_ok c hr) (e :: es)) (rdKs_ok (rdS_ok c hr) kws) h3'.1 k1 (k3.trans p3.symm) hpl
    · exact ze_fail
  · exact ze_fail
theorem rdI_ok (c : Ct X W cl k st) (hr : ∀ e, ZE X W cl e (r e)) {tg : Expr} : ∀ e, Zi X W cl tg e (rdI st r e) := by
  intro e
  unfold rdI
  split
  · split
    · rename_i hc
      obtain ⟨rfl, h2, h3⟩ := hc
      obtain ⟨g1, g2⟩ := bi_ok c h2
      rename_i kws pos
      have h3' : kws = [] := by simpa using h3
      subst h3'
      split
      · split
        · rename_i h
          exact zi_range1 g1 g2 (rdA_ok hr _) h
        · exact zi_fail
      · split
        · rename_i h
          exact zi_range2 g1 g2 (rdA_ok hr _) h.1 h.2
        · exact zi_fail
      · split
        · rename_i h
          exact zi_range3 g1 g2 (rdA_ok hr _) h.1 h.2.1 h.2.2
        · exact zi_fail
      · exact zi_fail
    · exact zi_seq (rdB_ok c hr _)
  · exact zi_seq (rdB_ok c hr _)
end
end Zy
set_option maxHeartbeats 4000000
namespace Zy
open PySem PySem.Spec PyProof.Rows L2

section
variable {X : Cx} {W : WX} {cl : String → Option Addr} {k : Nat} {st : Stt} {e a b : Expr} {es : List Expr} {r : Expr → ZX} {t : Expr → ZB} {x : Str} {i : Nat}
theorem slots_ok {N : List Str} {ok : Str → Bool} (hN : X.N = N) (nd : N.Nodup) (h : ∀ x, ok x = true → Loc X.env.scope x ∧ (X.fn x = true ∨ X.env.scope.names.lookup x = some .local)) : ∀ {es : List Expr} {is : List Nat}, slots N ok es = some is → NamesAt X es is
  | [], is, e => by
    cases e
    exact namesAt_nil
  | e :: es, is, q => by
    cases e with
    | Name x p =>
      simp only [slots] at q
      split at q
      · rename_i hx
        split at q
        · rename_i i is' h1 h2
          cases q
          exact namesAt_cons (by rw [hN]; exact nd) (by rw [hN]; exact ixOf_at h1) (h x hx).1 (h x hx).2 (slots_ok hN nd h h2)
        · cases q
      · cases q
    | _ => simp [slots] at q
/-- a target of names: its index list, its meaning; the reading is told by the list alone -/
def gOf (K : PySem.W.Frag) : Expr → List Nat → TG
  | .Name .., [i] => gName i
  | _, is => fun v σ H Q => gTup K is.length (gNms is) v σ H Q ∨ gUnl K is.length (gNms is) v σ H Q
theorem rdG_ok {N : List Str} {ok : Str → Bool} {tg : Expr} {is : List Nat} {gz : ZTg} (hN : X.N = N) (nd : N.Nodup) (hc : X.calm = true) (h : ∀ x, ok x = true → Loc X.env.scope x ∧ (X.fn x = true ∨ X.env.scope.names.lookup x = some .local)) (q : rdG N ok tg = some (is, gz)) :
    Zgb X tg is gz (gOf X.K tg is) ∧ Zg X tg gz := by
  unfold rdG at q
  split at q
  · split at q
    · rename_i hx
      split at q
      · rename_i i h1
        cases q
        obtain ⟨l, f⟩ := h _ hx
        have hi := ixOf_at h1
        rw [← hN] at hi nd
        exact ⟨zgb_name nd hi l f, zg_name nd hi l f⟩
      · cases q
    · cases q
  · split at q
    · rename_i is' h1
      cases q
      have hs := slots_ok hN nd h h1
      exact ⟨zgb_names hc hs, zg_names hc hs⟩
    · cases q
  · cases q
theorem Ct.block (c : Ct X W cl k st) {scope : Scope} (hk : scope.kind = .function) (s : Shared) (H : Hp) (C : Addr) (cs : List (Str × Addr)) (fp : List Addr) : Ct (X.blk s H scope (compEnvC scope cs C X.env) fp) Wf cl k (st.blk scope) :=
  ⟨c.N, by show relS scope X.env.scope = relS scope st.sc; rw [c.sc], c.calm, c.nd, takes0, c.room, c.gd, c.tab, hk⟩
theorem blkC_kind {N : List Str} {sc scope : Scope} {own : List (Str × Nat)} (h : blkC N sc scope own = true) : scope.kind = .function := (blkOk_by h).kind
/-- the parts of a comprehension -/
theorem lcOk (c : Ct X W cl k st) {tg iter elt : Expr} {ifs : List Expr} {scope : Scope} {is : List Nat} {gz : ZTg} {zt : ZB} {ze : ZX} (hr : ∀ e, ZE X W cl e (r e)) (hg : rdG st.N (okStore scope st.sc) tg = some (is, gz))
    (hb : blkC st.N st.sc scope (ownOf st.N scope) = true) (hs : subset is ((ownOf st.N scope).map (·.2)) = true) (hf : foldOk iter = true)
    (ht : (ifs = [] ∧ zt = fun _ M => .ok true M) ∨ ∃ c, ifs = [c] ∧ ∀ X' W', Ct X' W' cl k (st.blk scope) → ZT X' W' cl c zt) (he : ∀ X' W', Ct X' W' cl k (st.blk scope) → ZE X' W' cl elt ze) :
    LcOk X cl W tg iter elt ifs scope (ownOf st.N scope) (rdI st r iter) gz zt ze := by
  have hk := blkC_kind hb
  have hstore : ∀ (s : Shared) (H : Hp) (C : Addr) (cs : List (Str × Addr)) (fp : List Addr) x, okStore scope st.sc x = true → Loc (X.blk s H scope (compEnvC scope cs C X.env) fp).env.scope x ∧ ((X.blk s H scope (compEnvC scope cs C X.env) fp).fn x = true ∨ (X.blk s H scope (compEnvC scope cs C X.env) fp).env.scope.names.lookup x = some .local) := by
    intro s H C cs fp x h
    have e : (X.blk s H scope (compEnvC scope cs C X.env) fp).env.scope = relS scope st.sc := (c.block hk s H C cs fp).sc
    rw [e]
    unfold okStore at h
    split at h
    · rename_i q
      exact ⟨.inl q, .inr q⟩
    · rename_i q
      exact ⟨.inr q, .inl h⟩
    · cases h
  refine ⟨rdI_ok c hr iter, ?_, ⟨is, gOf X.K tg is, fun i hi => ?_, ?_, fun s H C cs fp => ?_⟩, ?_, fun s H C cs fp => he _ _ (c.block hk s H C cs fp), foldOk_ok hf⟩
  · rw [c.N, c.sc]
    exact blkOk_by hb
  · have := List.all_eq_true.mp hs i hi
    simpa using this
  · -- the reading of the target hangs on the written part alone
    unfold rdG at hg
    split at hg
    · split at hg
      · split at hg
        · cases hg
          exact fun F ph M env σ H Q v d env' _ S r e k => by
            cases e
            refine k _ (S.setV r) (fun a z => ?_) (fun j hj => ?_) (List.length_set ..)
            · rcases z with z | ⟨j, d', e1, e2⟩
              · exact .inl z
              · rcases getE_set e1 with ⟨_, e⟩ | ⟨ne, e⟩
                · cases e
                · rcases getE_set e2 with ⟨e', _⟩ | ⟨_, e'⟩
                  · exact absurd e' ne
                  · exact .inr ⟨j, d', e, e'⟩
            · exact ⟨List.getElem?_set_ne fun z => hj (by simp [z]), List.getElem?_set_ne fun z => hj (by simp [z])⟩
        · cases hg
      · cases hg
    · split at hg
      · rename_i is' h1
        cases hg
        intro F ph M env σ H Q v d env' hK S r e k
        unfold tgT at e
        cases e1 : itemsD d with
        | none => rw [e1] at e; cases e
        | some ds =>
          rw [e1] at e
          have e2 : setAll env is ds = some env' := e
          obtain ⟨a, xs, rfl, hq, rr⟩ := (Lk.of r).seq e1
          have hK' : (gh F ph env σ).K = X.K := hK
          rw [hK'] at hq
          have hl : xs.length = is.length := by rw [rr.length, setAll_len e2]
          have run := nms_runB S rr e2 k
          rcases hq with hq | hq
          · exact .inr ⟨a, xs, rfl, hq, hl, run⟩
          · exact .inl ⟨a, xs, rfl, hq, hl, run⟩
      · cases hg
    · cases hg
  · exact (rdG_ok (X := X.blk s H scope (compEnvC scope cs C X.env) fp) c.N c.nd c.calm (hstore s H C cs fp) hg).1.pg
  · rcases ht with h | ⟨q, h, h'⟩
    · exact .inl h
    · exact .inr ⟨q, h, fun s H C cs fp => h' _ _ (c.block hk s H C cs fp)⟩
end
theorem sound {cl : String → Option Addr} {k : Nat} : ∀ (n : Nat) (st : Stt) (e : Expr), (∀ X W, Ct X W cl k st → ZE X W cl e (ev n st e).1) ∧ (∀ X W, Ct X W cl k st → ZT X W cl e (ev n st e).2)
  | 0, st, e => ⟨fun _ _ _ => ze_fail, fun _ _ _ => zt_fail⟩
  | n + 1, st, e => by
    have ih := sound (cl := cl) (k := k) n
    refine ⟨fun X W c => ?_, fun X W c => ?_⟩
    · have hr : ∀ e, ZE X W cl e ((fun e => (ev n st e).1) e) := fun e => (ih st e).1 X W c
      have ht : ∀ e, ZT X W cl e ((fun e => (ev n st e).2) e) := fun e => (ih st e).2 X W c
      unfold ev
      simp only
      split
      · exact ze_non
      · exact ze_bl
      · exact ze_int
      · exact ze_str
      · split
        · rename_i i h
          obtain ⟨h1, h2, h3, h4⟩ := slotOf_ok c h
          exact ze_var h1 h2 h3 h4
        · exact ze_fail
      · split
        · rename_i g h
          exact bin_ok c h (rdC_ok c hr _) (rdC_ok c hr _)
        · exact ze_fail
      · exact ze_neg (hr _)
      · exact ze_not (hr _)
      · split
        · rename_i g h
          obtain ⟨q, h1, h2, h3, h4⟩ := cmp_ok c h
          exact ze_cmp h1 h2 (rdC_ok c hr _) (rdC_ok c hr _) (nobehind _ h3 h4)
        · exact ze_fail
      · split
        · rename_i g g' h h'
          obtain ⟨q, h1, h2, h3, h4⟩ := cmp_ok c h
          obtain ⟨q', h5, h6, h7, h8⟩ := cmp_ok c h'
          exact ze_ch h1 h5 h2 h6 (rdC_ok c hr _) (rdC_ok c hr _) (rdC_ok c hr _) ⟨h3, h4, h7, h8⟩
        · exact ze_fail
      · exact andV_ok hr _
      · exact orV_ok hr _
      · exact ze_if (ht _) (hr _) (hr _)
      · exact ze_tup (rdA_ok hr _)
      · exact (zf_lst (rdA_ok hr _)).toE
      · exact ze_sl (rdC_ok c hr _) (rdP_ok hr _) (rdP_ok hr _)
      · exact ze_rv (rdC_ok c hr _)
      · split
        · rename_i h
          exact ze_ix (rdC_ok c hr _) (rdC_ok c hr _) (plainSub_ok h)
        · exact ze_fail
      · split
        · rename_i is gz hg
          split
          · rename_i hc
            split
            · exact (zf_lc (lcOk c hr hg hc.1 hc.2.1 hc.2.2 (.inl ⟨rfl, rfl⟩) fun X' W' c' => (ih _ _).1 X' W' c') c.calm (by rw [c.N]; exact c.nd)).toE
            · exact (zf_lc (lcOk c hr hg hc.1 hc.2.1 hc.2.2 (.inr ⟨_, rfl, fun X' W' c' => (ih _ _).2 X' W' c'⟩) fun X' W' c' => (ih _ _).1 X' W' c') c.calm (by rw [c.N]; exact c.nd)).toE
            · exact ze_fail
          · exact ze_fail
        · exact ze_fail
      · split
        · rename_i hb
          split
          · split
            · rename_i hn
              exact bi1_ok c hr hb hn
            · exact ze_fail
          · split
            · rename_i hn
              exact bi2_ok c hr hb hn.1 hn.2
            · exact ze_fail
          · exact ze_fail
        · exact usr_ok c hr
      · split
        · rename_i i h
          split
          · rename_i hc
            obtain ⟨h1, h2, h3, h4⟩ := slotOf_ok c h
            obtain ⟨rfl, hn, hl⟩ := hc
            exact ze_idx (zc_var h1 h2 h3 h4) (hr _) hn hl
          · exact ze_fail
        · exact ze_fail
      · exact ze_fail
    · have hr : ∀ e, ZE X W cl e ((fun e => (ev n st e).1) e) := fun e => (ih st e).1 X W c
      have ht : ∀ e, ZT X W cl e ((fun e => (ev n st e).2) e) := fun e => (ih st e).2 X W c
      unfold ev
      simp only
      split
      · split
        · rename_i g h
          obtain ⟨q, h1, h2, h3, h4⟩ := cmp_ok c h
          exact zt_cmp h1 h2 (rdC_ok c hr _) (rdC_ok c hr _) (nobehind _ h3 h4)
        · exact zt_fail
      · split
        · rename_i g g' h h'
          obtain ⟨q, h1, h2, h3, h4⟩ := cmp_ok c h
          obtain ⟨q', h5, h6, h7, h8⟩ := cmp_ok c h'
          exact zt_ch h1 h5 h2 h6 (rdC_ok c hr _) (rdC_ok c hr _) (rdC_ok c hr _) ⟨h3, h4, h7, h8⟩
        · exact zt_fail
      · exact (andT_ok ht _).toT
      · exact (orT_ok ht _).toT
      · exact zt_not (ht _)
      · split
        · rename_i h
          exact zt_tru (rdC_ok c hr _) (truE_ok h)
        · exact zt_fail
end Zy
set_option maxHeartbeats 4000000
namespace Zy
open PySem PySem.Spec PyProof.Rows L2

/-! statements of the text -/
def vmC (f : Expr → List Str) : Expr → List Str
  | .Name .. => []
  | e => f e
/-- the names that stand where a value is kept -/
def vmE : Nat → Expr → List Str
  | 0, _ => []
  | n + 1, e => let f := vmE n
    match e with
    | .Name x _ => [x]
    | .BinOp a _ b _ => vmC f a ++ vmC f b
    | .UnaryOp _ a _ => vmC f a
    | .Compare a _ bs _ => vmC f a ++ bs.flatMap (vmC f)
    | .BoolOp _ es _ => es.flatMap f
    | .IfExp c a b _ => vmC f c ++ f a ++ f b
    | .Tuple es _ _ => es.flatMap f
    | .List es _ => es.flatMap f
    | .Subscript a (.Slice lo hi _ _) _ => vmC f a ++ lo.toList.flatMap f ++ hi.toList.flatMap f
    | .Subscript a b _ => vmC f a ++ vmC f b
    | .ListComp elt gs _ _ => f elt ++ gs.flatMap fun g => f g.iter ++ g.ifs.flatMap (vmC f)
    | .Call _ es kws _ => es.flatMap (vmC f) ++ kws.flatMap fun k => vmC f k.value
    | _ => []
def vmS (st : Stmt) : List Str := match st with
  | .Return (some e) _ => vmE 60 e
  | .Assign [.Subscript _ b _] e _ => vmE 60 e ++ vmE 60 b
  | .Assign _ e _ => vmE 60 e
  | .AugAssign _ _ e _ => vmE 60 e
  | .Expr (.Call (.Attribute _ _ _) es _ _) _ => es.flatMap (vmE 60)
  | .Expr e _ => vmC (vmE 60) e
  | .If c _ _ _ => vmC (vmE 60) c
  | .While c _ _ _ => vmC (vmE 60) c
  | .For _ it _ _ _ => vmE 60 it
  | _ => []
def frzS (st : Stt) (s : Stmt) : List Nat := ((vmS s).filter st.owns.contains).filterMap (ixOf st.N)
def okLoc (sc : Scope) (x : Str) : Bool := match sc.names.lookup x with
  | some .local | some .cell => true
  | _ => false
def swapB (sc : Scope) (x : Str) (p : Pos) : Expr → Bool
  | .ListComp _ _ scope vp => (sc.names.lookup x == some .local) && (p.line == vp.line) && !(scope.names.any fun (n, k) => n == x && (k == .local || k == .cell))
  | _ => false
def isComp : Expr → Bool
  | .ListComp .. | .SetComp .. | .DictComp .. => true
  | _ => false
def lcZ (n : Nat) (st : Stt) (elt tg iter : Expr) (ifs : List Expr) (scope : Scope) : Option ZX :=
  match rdG st.N (okStore scope st.sc) tg with
  | some (is, gz) => if blkC st.N st.sc scope (ownOf st.N scope) = true ∧ subset is ((ownOf st.N scope).map (·.2)) = true ∧ foldOk iter = true then
      (match ifs with
      | [] => some (zLc (rdI st (fun e => (ev n st e).1) iter) gz (fun _ M => .ok true M) (ev n (st.blk scope) elt).1 ((ownOf st.N scope).map (·.2)))
      | [c] => some (zLc (rdI st (fun e => (ev n st e).1) iter) gz (ev n (st.blk scope) c).2 (ev n (st.blk scope) elt).1 ((ownOf st.N scope).map (·.2)))
      | _ => none) else none
  | none => none
/-- what is new -/
def frE (n : Nat) (st : Stt) (e : Expr) : Option ZX :=
  let r := fun e => (ev n st e).1
  match e with
  | .List es _ => some (zLst (rdA r es))
  | .ListComp elt [⟨tg, iter, ifs, 0⟩] scope _ => lcZ n st elt tg iter ifs scope
  | .Call (.Name x _) [a] [] _ => if x = ("list" : Str) ∧ st.bi x = true ∧ nostar a = true then (match st.rng r a with
    | some z => some (zLstRg z)
    | none => some (zLstOf (rdC st r a))) else none
  | _ => none
def asgN (n : Nat) (st : Stt) (x : Str) (e : Expr) : ZS := if okLoc st.sc x = true then match ixOf st.N x with
    | some i => if st.owns.contains x = true then (match frE n st e with
        | some z => zSetO i z
        | none => failS) else if st.cels.contains x = true then (match frE n st e with
        | some z => zSetC i z
        | none => failS) else if isComp e = true then (match frE n st e with
        | some z => zSet i z
        | none => failS) else zSet i (ev n st e).1
    | none => failS else failS
def parB (x y : Str) (px py : Pos) (a b : Expr) : Bool := !(x == y) && (py.line == px.line) && nostar a && nostar b && !([a, b].all (foldedForSure 8)) && !([a, b].all (constantsAlone 8))
def isLoc (sc : Scope) (x : Str) : Bool := match sc.names.lookup x with
  | some .local => true
  | _ => false
def notTup : Expr → Bool
  | .Tuple .. => false
  | _ => true
def augG : Operator → Option (Int → Int → Int)
  | .Add => some fun i j => i + j
  | .Sub => some fun i j => i - j
  | _ => none
def exL (f : Stmt → ZS) : List Stmt → ZS
  | [] => fun env M => .nx env M
  | s :: ss => zSeq (f s) (exL f ss)
def ex1 (n : Nat) (st : Stt) (f : Stmt → ZS) (s : Stmt) : ZS :=
  let r := fun e => (ev n st e).1
  match s with
  | .Pass _ => fun env M => .nx env M
  | .Break _ => fun env M => .bk env M
  | .Continue _ => fun env M => .ct env M
  | .Return (some e) _ => zRet (r e)
  | .Return none _ => fun _ M => .rt .non M
  | .Assign [.Name x _] e _ => asgN n st x e
  | .Assign [.Tuple [.Name x px, .Name y py] _ _] (.Tuple [a, b] _ _) _ => if parB x y px py a b = true ∧ isLoc st.sc x = true ∧ isLoc st.sc y = true then (match ixOf st.N x, ixOf st.N y with
    | some i, some j => zPar i j (rdA r [a, b])
    | _, _ => failS) else failS
  | .Assign [.Tuple es k p] e _ => if notTup e = true then (match rdG st.N (okLoc st.sc) (.Tuple es k p) with
    | some (_, gz) => zAsg gz (r e)
    | none => failS) else failS
  | .Assign [.Subscript (.Name x _) b _] e _ => if plainSub b = true then (match slotOf st x with
    | some i => zPut i (r e) (r b)
    | none => failS) else failS
  | .AugAssign (.Name x _) op e _ => if okLoc st.sc x = true then (match ixOf st.N x, augG op with
    | some i, some g => zAugN i g (r e)
    | _, _ => failS) else failS
  | .Expr (.Call (.Attribute (.Name x _) m ap) [e] [] cp) _ => if m = ("append" : Str) ∧ nostar e = true ∧ (ap.endLine == cp.line) = true then (match slotOf st x with
    | some i => zApp i (r e)
    | none => failS) else failS
  | .Expr e _ => if isComp e = true then failS else zDrop (rdC st r e)
  | .If c a b _ => zIfS (ev n st c).2 (exL f a) (exL f b)
  | .While c body [] _ => zWh (ev n st c).2 (exL f body) 100000
  | .For tg iter body [] _ => if foldOk iter = true then (match rdG st.N (okLoc st.sc) tg with
    | some (_, gz) => zFor (rdI st r iter) gz (exL f body)
    | none => failS) else failS
  | _ => failS
def exS : Nat → Stt → Stmt → ZS
  | 0, _, _ => failS
  | n + 1, st, s => zFrz (frzS st s) (ex1 60 st (exS n st) s)
def exB (st : Stt) (ss : List Stmt) : ZS := exL (exS 40 st) ss
section
variable {X : Cx} {W : WX} {cl : String → Option Addr} {k : Nat} {st : Stt} {e a b : Expr} {es : List Expr} {x : Str} {i n : Nat} {pos pos' : Pos} {s : Stmt}
theorem zs_fail : Zs X W cl s failS := zs_never
theorem blockKind_ok (c : Ct X W cl k st) : X.env.blockKind = .function := by
  have hk : X.env.scope.kind = .function := by rw [c.sc]; exact c.kind
  unfold Env.blockKind
  rw [hk]
  rfl
theorem swap_ok (c : Ct X W cl k st) {l : Nat} (h : isComp e = false ∨ ∃ el gs sc p, e = .ListComp el gs sc p) : swapsWith e (some (.Name x pos)) l X.env = pure (swapB st.sc x pos e) := by
  rcases h with h | ⟨el, gs, sc, p, rfl⟩
  · cases e <;> first | rfl | cases h
  · have hb := blockKind_ok c
    have hk : X.env.kindOf x = st.sc.names.lookup x := by show X.env.scope.names.lookup x = _; rw [c.sc]
    unfold swapsWith swapB
    simp only [hb, hk, Expr.pos, beq_self_eq_true, Bool.true_and]
theorem swapN_ok {l : Nat} {t : Expr} (h : ∀ x p, t ≠ .Name x p) : swapsWithSole [t] e l X.env = pure false := by
  show swapsWith e (some t) l X.env = pure false
  cases e <;> first
    | rfl
    | (cases t <;> first | rfl | exact absurd rfl (h _ _))
theorem swap0_ok {l : Nat} (h : isComp e = false) : swapsWith e none l X.env = pure false := by
  cases e <;> first | rfl | cases h
theorem okLoc_ok (c : Ct X W cl k st) (h : okLoc st.sc x = true) : Loc X.env.scope x := by
  rw [c.sc]
  unfold okLoc at h
  unfold L2.Loc
  split at h <;> simp_all
theorem isLoc_ok (c : Ct X W cl k st) (h : isLoc st.sc x = true) : X.env.scope.names.lookup x = some .local := by
  rw [c.sc]
  unfold isLoc at h
  split at h <;> simp_all
theorem lcZ_ok (c : Ct X W cl k st) {tg iter elt : Expr} {ifs : List Expr} {scope : Scope} {z : ZX} (h : lcZ n st elt tg iter ifs scope = some z) :
    ∃ gz zt ze, LcOk X cl W tg iter elt ifs scope (ownOf st.N scope) (rdI st (fun e => (ev n st e).1) iter) gz zt ze ∧ z = zLc (rdI st (fun e => (ev n st e).1) iter) gz zt ze ((ownOf st.N scope).map (·.2)) := by
  unfold lcZ at h
  split at h
  · rename_i is gz hg
    split at h
    · rename_i hc
      have hr : ∀ e, ZE X W cl e ((fun e => (ev n st e).1) e) := fun e => (sound (cl := cl) (k := k) n st e).1 X W c
      split at h
      · cases h
        exact ⟨_, _, _, lcOk c hr hg hc.1 hc.2.1 hc.2.2 (.inl ⟨rfl, rfl⟩) fun X' W' c' => (sound n _ _).1 X' W' c', rfl⟩
      · cases h
        exact ⟨_, _, _, lcOk c hr hg hc.1 hc.2.1 hc.2.2 (.inr ⟨_, rfl, fun X' W' c' => (sound n _ _).2 X' W' c'⟩) fun X' W' c' => (sound n _ _).1 X' W' c', rfl⟩
      · cases h
    · cases h
  · cases h
theorem frE_ok (c : Ct X W cl k st) {z : ZX} (h : frE n st e = some z) : ZF X W cl e z := by
  have hr : ∀ e, ZE X W cl e ((fun e => (ev n st e).1) e) := fun e => (sound (cl := cl) (k := k) n st e).1 X W c
  unfold frE at h
  simp only at h
  split at h
  · cases h
    exact zf_lst (rdA_ok hr _)
  · obtain ⟨gz, zt, ze, L, rfl⟩ := lcZ_ok c h
    exact zf_lc L c.calm (by rw [c.N]; exact c.nd)
  · split at h
    · rename_i hc
      obtain ⟨rfl, h2, h3⟩ := hc
      obtain ⟨g1, g2⟩ := bi_ok c h2
      split at h
      · rename_i z' hz
        cases h
        exact zf_lstRg c.calm g1 g2 (rng_ok c hr hz).1 h3
      · cases h
        exact zf_lstOf g1 g2 (rdC_ok c hr _) h3
    · cases h
  · cases h
/-- a comprehension is given to a name: by either way -/
theorem asgC_ok (c : Ct X W cl k st) (hf : ∀ x, X.fn x = true) {z : ZX} (hx : okLoc st.sc x = true) (hi : ixOf st.N x = some i) (h : frE n st e = some z) (hcomp : isComp e = true) :
    Zs X W cl (.Assign [.Name x pos'] e pos) (zSet i z) ∧ Zs X W cl (.Assign [.Name x pos'] e pos) (zSetO i z) ∧ Zs X W cl (.Assign [.Name x pos'] e pos) (zSetC i z) := by
  have hN : X.N.Nodup := by rw [c.N]; exact c.nd
  have hi' : X.N[i]? = some x := by rw [c.N]; exact ixOf_at hi
  have hF := frE_ok c h
  have hform : ∃ el tg iter ifs sc p, e = .ListComp el [⟨tg, iter, ifs, 0⟩] sc p := by
    unfold frE at h
    simp only at h
    split at h
    · cases hcomp
    · exact ⟨_, _, _, _, _, _, rfl⟩
    · cases hcomp
    · cases h
  obtain ⟨el, tg, iter, ifs, sc, p, rfl⟩ := hform
  cases hs : swapB st.sc x pos' (.ListComp el [⟨tg, iter, ifs, 0⟩] sc p) with
  | false =>
    have sw := (swap_ok c (x := x) (pos := pos') (l := pos.line) (.inr ⟨el, _, sc, p, rfl⟩)).trans (congrArg pure hs)
    exact ⟨zs_set hN hi' (okLoc_ok c hx) (.inl (hf x)) hF.toE sw, zs_setO hN hi' (okLoc_ok c hx) (.inl (hf x)) hF sw, zs_setC hN hi' (okLoc_ok c hx) (.inl (hf x)) hF sw⟩
  | true =>
    have sw := (swap_ok c (x := x) (pos := pos') (l := pos.line) (.inr ⟨el, _, sc, p, rfl⟩)).trans (congrArg pure hs)
    have hl : X.env.scope.names.lookup x = some .local := by
      rw [c.sc]
      simp only [swapB, Bool.and_eq_true] at hs
      exact eq_of_beq hs.1.1
    unfold frE at h
    simp only at h
    obtain ⟨gz, zt, ze, L, rfl⟩ := lcZ_ok c h
    exact ⟨zs_setLc L c.calm hN hi' hl sw, zs_setLcO L c.calm hN hi' hl sw, zs_setLcC L c.calm hN hi' hl sw⟩
theorem asgN_ok (c : Ct X W cl k st) (hf : ∀ x, X.fn x = true) : Zs X W cl (.Assign [.Name x pos'] e pos) (asgN n st x e) := by
  have hN : X.N.Nodup := by rw [c.N]; exact c.nd
  unfold asgN
  split
  · rename_i hx
    split
    · rename_i i hi
      have hi' : X.N[i]? = some x := by rw [c.N]; exact ixOf_at hi
      have plain : isComp e = false → swapsWith e (some (.Name x pos')) pos.line X.env = pure false := fun h => by
        cases e <;> first | rfl | cases h
      split
      · split
        · rename_i z hz
          cases hc : isComp e with
          | true => exact (asgC_ok c hf hx hi hz hc).2.1
          | false => exact zs_setO hN hi' (okLoc_ok c hx) (.inl (hf x)) (frE_ok c hz) (plain hc)
        · exact zs_fail
      · split
        · split
          · rename_i z hz
            cases hc : isComp e with
            | true => exact (asgC_ok c hf hx hi hz hc).2.2
            | false => exact zs_setC hN hi' (okLoc_ok c hx) (.inl (hf x)) (frE_ok c hz) (plain hc)
          · exact zs_fail
        · split
          · rename_i hc
            split
            · rename_i z hz
              exact (asgC_ok c hf hx hi hz hc).1
            · exact zs_fail
          · rename_i hc
            exact zs_set hN hi' (okLoc_ok c hx) (.inl (hf x)) ((sound (cl := cl) (k := k) n st e).1 X W c) (plain (by simpa using hc))
    · exact zs_fail
  · exact zs_fail
theorem par_ok (c : Ct X W cl k st) {y : Str} {px py pt pt2 : Pos} {kt k2 : Nat} (h : parB x y px py a b = true) (hx : isLoc st.sc x = true) (hy : isLoc st.sc y = true) :
    swappedStores [.Tuple [.Name x px, .Name y py] kt pt] (.Tuple [a, b] k2 pt2) X.env = pure (some [x, y]) ∧ x ≠ y ∧ nostar a = true ∧ nostar b = true := by
  unfold parB at h
  simp only [Bool.and_eq_true, Bool.not_eq_true', beq_eq_false_iff_ne, ne_eq, beq_iff_eq] at h
  obtain ⟨⟨⟨⟨⟨h1, h2⟩, h3⟩, h4⟩, h5⟩, h6⟩ := h
  refine ⟨?_, h1, h3, h4⟩
  have hb := blockKind_ok c
  have kx : X.env.kindOf x = some .local := isLoc_ok c hx
  have ky : X.env.kindOf y = some .local := isLoc_ok c hy
  have e1 : (x == y) = false := beq_eq_false_iff_ne.mpr h1
  have e2 : (y == x) = false := beq_eq_false_iff_ne.mpr fun z => h1 z.symm
  have st1 : ([a, b].any fun | .Starred .. => true | _ => false) = false := by
    cases a <;> cases b <;> first | rfl | exact Bool.noConfusion h3 | exact Bool.noConfusion h4
  unfold swappedStores
  simp only [hb, List.length_cons, List.length_nil, Expr.pos, List.head?_cons, Option.map_some, Option.getD_some, List.filterMap_cons, kx, ky, h2, beq_self_eq_true, Bool.and_self, if_true, List.filterMap_nil, st1, h5, h6]
  simp [List.eraseDups_cons, e1, e2]
  rintro (h | h)
  · cases a <;> first | exact Bool.noConfusion h | exact Bool.noConfusion h3
  · cases b <;> first | exact Bool.noConfusion h | exact Bool.noConfusion h4
theorem assign_sub {p1 p2 : Pos} (h : plainSub b = true) : ∀ v, assign (.Subscript (.Name x p1) b p2) X.env v = (do
      let ov ← holding [v] (eval (.Name x p1) X.env)
      let iv ← holding [v, ov] (eval b X.env)
      standAt p2
      holding [v, ov, iv] (setItem ov iv v)
      release [v, ov, iv] []) := by
  cases b with
  | Constant c k p => cases c <;> first | exact fun _ => rfl | cases h
  | _ => first | exact fun _ => rfl | cases h
theorem aug_ok {op : Operator} {g : Int → Int → Int} (h : augG op = some g) : PIp X op (ipI g) := by
  cases op <;> simp only [augG, Option.some.injEq, reduceCtorEq] at h <;> subst h
  · exact ip_add
  · exact ip_sub
theorem swTup_none {es : List Expr} {kk : Nat} (h : notTup e = true) : swappedStores [.Tuple es kk pos'] e X.env = pure none := by
  cases e <;> first | rfl | exact Bool.noConfusion h
theorem exL_ok {f : Stmt → ZS} (hf : ∀ s, Zs X W cl s (f s)) : ∀ ss, Zb X W cl ss (exL f ss)
  | [] => zb_nil
  | s :: ss => zb_cons (hf s) (exL_ok hf ss)
theorem ex1_ok (c : Ct X W cl k st) (hfn : ∀ x, X.fn x = true) (hp : PassesOwn (model X.prog X.w) X.A X.env X.xe) {f : Stmt → ZS} (hf : ∀ s, Zs X W cl s (f s)) (s : Stmt) : Zs X W cl s (ex1 n st f s) := by
  have hr : ∀ e, ZE X W cl e ((fun e => (ev n st e).1) e) := fun e => (sound (cl := cl) (k := k) n st e).1 X W c
  have ht : ∀ e, ZT X W cl e (ev n st e).2 := fun e => (sound (cl := cl) (k := k) n st e).2 X W c
  have hN : X.N.Nodup := by rw [c.N]; exact c.nd
  have at_ : ∀ {x i}, ixOf st.N x = some i → X.N[i]? = some x := fun h => by rw [c.N]; exact ixOf_at h
  have hG : ∀ {tg is gz}, rdG st.N (okLoc st.sc) tg = some (is, gz) → Zg X tg gz := fun {tg is gz} h => (rdG_ok c.N c.nd c.calm (fun x hx => ⟨okLoc_ok c hx, .inl (hfn x)⟩) h).2
  unfold ex1
  simp only
  split
  · exact zs_pass
  · exact zs_break
  · exact zs_continue
  · exact zs_ret (hr _)
  · exact zs_retN
  · exact asgN_ok c hfn
  · split
    · rename_i hc
      split
      · rename_i i j hi hj
        obtain ⟨h1, h2, h3, h4⟩ := par_ok c hc.1 hc.2.1 hc.2.2
        refine zs_par c.calm hN (at_ hi) (at_ hj) (fun z => h2 ?_) (isLoc_ok c hc.2.1) (isLoc_ok c hc.2.2) (rdA_ok hr _) h1 (swapN_ok fun _ _ z => nomatch z)
        subst z
        have e1 := at_ hi
        rw [at_ hj] at e1
        exact (Option.some.inj e1).symm
      · exact zs_fail
    · exact zs_fail
  · split
    · rename_i hc
      split
      · rename_i gz hg
        exact zs_asg (hr _) (hG hg) (swapN_ok fun _ _ z => nomatch z) (swTup_none hc) rfl
      · exact zs_fail
    · exact zs_fail
  · split
    · rename_i hc
      split
      · rename_i i hi
        obtain ⟨h1, h2, h3, h4⟩ := slotOf_ok c hi
        exact zs_put h1 h2 h3 h4 (hr _) (hr _) (swapN_ok fun _ _ z => nomatch z) rfl rfl (assign_sub hc)
      · exact zs_fail
    · exact zs_fail
  · split
    · rename_i hx
      split
      · rename_i i g hi hg
        exact zs_aug (aug_ok hg) hN (at_ hi) (okLoc_ok c hx) (.inl (hfn _)) (hr _)
      · exact zs_fail
    · exact zs_fail
  · split
    · rename_i hc
      obtain ⟨rfl, h5, h6⟩ := hc
      split
      · rename_i i hi
        obtain ⟨h1, h2, h3, h4⟩ := slotOf_ok c hi
        exact zs_app h1 h2 h3 h4 (hr _) h5 rfl h6
      · exact zs_fail
    · exact zs_fail
  · split
    · exact zs_fail
    · rename_i hc
      exact zs_expr (rdC_ok c hr _) (swap0_ok (by simpa using hc))
  · exact zs_if (ht _) (exL_ok hf _) (exL_ok hf _)
  · exact zs_while hp (ht _) (exL_ok hf _)
  · split
    · rename_i hc
      split
      · rename_i gz hg
        exact zs_for hp c.calm (rdI_ok c hr _) (hG hg) (exL_ok hf _) (foldOk_ok hc)
      · exact zs_fail
    · exact zs_fail
  · exact zs_fail
theorem exS_ok (c : Ct X W cl k st) (hfn : ∀ x, X.fn x = true) (hp : PassesOwn (model X.prog X.w) X.A X.env X.xe) : ∀ (m : Nat) (s : Stmt), Zs X W cl s (exS m st s)
  | 0, s => zs_fail
  | m + 1, s => zs_frz (ex1_ok c hfn hp (exS_ok c hfn hp m) s)
theorem exB_ok (c : Ct X W cl k st) (hfn : ∀ x, X.fn x = true) (hp : PassesOwn (model X.prog X.w) X.A X.env X.xe) (ss : List Stmt) : Zb X W cl ss (exB st ss) := exL_ok (exS_ok c hfn hp 40) ss
end
end Zy
set_option maxHeartbeats 4000000
namespace Zy
open PySem PySem.Spec PyProof.Rows L2

/-! the text's defs -/
structure Fi where
  d : He.DefD
  ps : List Str
  N : List Str
  owns : List Str
  cels : List Str
def Fi.stt (f : Fi) (px : Px) (call : Str → Sem1) : Stt := ⟨px, call, f.N, f.d.scope, f.owns, f.cels⟩
def callF (fns : List Fi) (px : Px) : Nat → Str → Sem1
  | 0 => fun _ _ _ => .fail
  | k + 1 => fun x => match fns.find? fun f => decide (f.d.name = x) with
    | some f => zFun f.ps.length f.N.length (exB (f.stt px (callF fns px k)) f.d.body)
    | none => fun _ _ => .fail
def scopeB (N ps : List Str) (sc : Scope) : Bool :=
  (match sc.kind with | .function => true | _ => false) && !sc.isCoroutine && !sc.isGenerator && decide N.Nodup && decide (N.take ps.length = ps) &&
    (ps.all fun x => match sc.names.lookup x with | some .local | some .cell => true | _ => false) && (sc.names.all fun y => match y.2 with | .free => false | _ => true)
theorem scopeB_ok {N ps : List Str} {sc : Scope} (h : scopeB N ps sc = true) : FnScope N ps sc := by
  unfold scopeB at h
  simp only [Bool.and_eq_true, Bool.not_eq_true', decide_eq_true_eq, List.all_eq_true] at h
  obtain ⟨⟨⟨⟨⟨⟨h1, h2⟩, h3⟩, h4⟩, h5⟩, h6⟩, h7⟩ := h
  refine ⟨?_, h2, h3, h4, h5, fun x hx => ?_, fun y hy e => ?_⟩
  · split at h1 <;> simp_all
  · have := h6 x hx
    split at this <;> simp_all
  · have := h7 y hy
    rw [e] at this
    cases this
/-- how a def without defaults is bound -/
structure Bnd (f : Fi) (n : Nat) (ks : List Str) (is : List Nat) : Prop where
  no : f.d.dfl = [] ∧ f.d.kwd = []
  len : is.length = f.ps.length
  eq : ∀ (kV doc pm : Value) (an : Option Addr) (cdv ct : Value) (us ws : List Value), us.length = n → ws.length = ks.length →
    ∃ ys, perm (us ++ ws) is = some ys ∧ bindArgs (PySem.W.fnOf f.d.name f.d.qual f.d.params f.d.body f.d.scope .none kV doc pm an cdv ct) ⟨us, ks.zip ws⟩ = pure (f.ps.zip ys)
/-- what is decided of the text -/
structure TextOk (fns : List Fi) (px : Px) : Prop where
  at_ : ∀ f ∈ fns, f.d.at_ = (f.d.name, none) ∧ scopeB f.N f.ps f.d.scope = true
  pats : ∀ p ∈ px.pats, ∃ f ∈ fns, fns.find? (fun g => decide (g.d.name = p.name)) = some f ∧ f.d.name = p.name ∧ p.dd = [] ∧ Bnd f p.n p.ks p.is
/-- .. and of what stands behind the top -/
structure HeadOk (fns : List Fi) (px : Px) (K : PySem.W.Frag) (mg : Str → Option Value) : Prop where
  fn : ∀ f ∈ fns, ∃ fd, FunD K f.d.name f.d.qual f.d.params f.d.body f.d.scope (f.d.dvs K) (f.d.kws K) (He.fAd K f.d.at_) fd ∧ mg f.d.name = some (.ref (He.fAd K f.d.at_))
  free : ∀ x ∈ px.free, mg x = none
section
variable {fns : List Fi} {px : Px} {P : Program} {w : World} {K : PySem.W.Frag} {mg : Str → Option Value} {base : Heap} {cl : String → Option Addr}
theorem fnG_fail {k : Nat} {f : Addr} {fd : FuncData} {ps : List Str} : FnG P w K mg base (L2.CX P w) k f fd ps (spZ cl K ps.length fun _ _ => .fail) :=
  ⟨fun vs H Q E h => h.1, fun A outer s H args us vs Q E hg hr he hb hv h => by
    obtain ⟨_, F, ph, M, env, σ, as, _, _, _, _, P⟩ := h
    exact P.elim⟩
theorem pat_of {f : Fi} {fd : FuncData} {n : Nat} {ks : List Str} {is : List Nat} {a : Addr} (B : Bnd f n ks is) (Fd : FunD K f.d.name f.d.qual f.d.params f.d.body f.d.scope (f.d.dvs K) (f.d.kws K) a fd) : Pat K fd f.ps n ks is [] := by
  refine ⟨B.len, [], [], .nil, fun _ _ => .nil, fun s us ws ys X h1 h2 hp => ?_⟩
  obtain ⟨oc, od, dV, kV, doc, pm, an, cdv, ct, osl, rfl, lk, hcd, hD, hK⟩ := Fd.ex
  have e0 : f.d.dvs K = [] := by unfold He.DefD.dvs; rw [B.no.1]; rfl
  rw [e0] at hD
  rcases hD with ⟨_, rfl⟩ | ⟨z, _⟩
  · obtain ⟨ys', q1, q2⟩ := B.eq kV doc pm an cdv ct us ws h1 h2
    rw [List.append_nil] at hp
    rw [q1] at hp
    cases hp
    exact .of_eq q2
  · exact absurd rfl z
theorem fnG_all (T : TextOk fns px) (Hd : HeadOk fns px K mg) : ∀ k, (∀ f ∈ fns, fns.find? (fun g => decide (g.d.name = f.d.name)) = some f → ∀ fd, FunD K f.d.name f.d.qual f.d.params f.d.body f.d.scope (f.d.dvs K) (f.d.kws K) (He.fAd K f.d.at_) fd →
      FnG P w K mg base (L2.CX P w) k (He.fAd K f.d.at_) fd f.ps (spZ cl K f.ps.length (callF fns px k f.d.name)))
  | 0, f, hf, hq, fd, Fd => fnG_fail
  | k + 1, f, hf, hq, fd, Fd => by
    have tab : Tab P w K mg base cl k px (callF fns px k) := by
      refine ⟨Hd.free, fun p hp => ?_⟩
      obtain ⟨g, hg, hq, hn, hdd, B⟩ := T.pats p hp
      obtain ⟨gd, Gd, hm⟩ := Hd.fn g hg
      rw [hdd, ← hn]
      exact ⟨_, gd, g.ps, hm, Gd.kp, pat_of B Gd, fnG_all T Hd k g hg (by rw [hn]; exact hq) gd Gd⟩
    have hS := scopeB_ok (T.at_ f hf).2
    have e : callF fns px (k + 1) f.d.name = zFun f.ps.length f.N.length (exB (f.stt px (callF fns px k)) f.d.body) := by
      show (match fns.find? (fun g => decide (g.d.name = f.d.name)) with
        | some f => zFun f.ps.length f.N.length (exB (f.stt px (callF fns px k)) f.d.body)
        | none => fun _ _ => .fail) = _
      rw [hq]
    rw [e]
    refine fn_run Fd hS fun cdv A outer s H E W hgd hr tk hp => ?_
    exact exB_ok (k := k) (st := f.stt px (callF fns px k)) ⟨rfl, rfl, rfl, hS.nd, tk, hr, hgd, tab, hS.kind⟩ (fun _ => rfl) hp f.d.body
/-- the script's list, as it stands at the law's entry -/
theorem law_g {k : Nat} {fa a : Addr} {fd : FuncData} {x : Str} {sp : Sp} {s₁ : Shared} {vs : List Value} {ns : List Int} {mb : Str → Option Value}
    (KX : K.In s₁.heap) (hns : s₁.heap.Ns mainGlobals mg) (hb : s₁.heap.Ns builtinsNs mb) (hbb : ∀ x : Str, x ≠ "__name__" → mb x = bootBuiltins x) (hlim : s₁.heap.NoLimit) (hg : s₁.gens = #[])
    (ha : s₁.heap.get? a = some { cls := .type "list", data := .seq vs.toArray }) (hi : IntsAre vs ns) (hl : ns.length ≤ sizeLine) (hr : Room k callerA)
    (G : ∀ base : Heap, K.In base → base.Ns mainGlobals mg → FnG P w K mg base (L2.CX P w) k fa fd [x] sp) (hbind : ∀ (s : Shared) (u : Value), BindsTo s fd ⟨[u], []⟩ [(x, u)])
    (hsp : ∀ H : Hp, (∀ b u, H b = some u → ∃ ob xs, u = .frz ob (.lst xs)) → SqL K H a (ns.map V.int) → sp [.ref a] H (fun v _ => v = .bl true) fun _ _ _ => False) :
    codeAny (model P w) callerA (.call (.ref fa) ⟨[.ref a], []⟩) (fun r s' => r = .ok (.ret (.bool true)) ∧ OldK s₁.heap s'.heap ∧ s'.os = s₁.os ∧ AllBare s'.gens) s₁ := by
  have rv := vals_ints hi
  generalize hob : ({ cls := .type "list", data := .seq vs.toArray } : Obj) = ob at ha
  -- tracked: the script, unless it is an object of the written part
  obtain ⟨H, hH, hS, hok, hKa, hfz⟩ : ∃ H : Hp, (∀ b, H b = none ∨ b = a) ∧ SqL K H a (ns.map V.int) ∧ HOk P w H s₁.heap ∧ (H a ≠ none → K.lookup a = none) ∧ (∀ b u, H b = some u → ∃ xs, u = .frz ob (.lst xs)) := by
    cases hk : K.lookup a with
    | some o =>
      have e := KX a o hk
      rw [ha] at e
      cases e
      subst hob
      refine ⟨fun _ => none, fun _ => .inl rfl, .inr ⟨_, vs.toArray, _, hk, rfl, rfl, rfl, ?_, by simpa using rv⟩, ?_, ?_, ?_⟩
      · rw [List.size_toArray, hi.length]
        exact hl
      · intro b u z
        cases (show (none : Option HO) = some u from z)
      · exact fun z => absurd rfl z
      · intro b u z
        cases (show (none : Option HO) = some u from z)
    | none =>
      have at_ : ∀ b u, (if b = a then some (HO.frz ob (.lst (ns.map V.int))) else none) = some u → b = a ∧ u = .frz ob (.lst (ns.map V.int)) := fun b u z => by
        by_cases q : b = a
        · rw [if_pos q] at z
          exact ⟨q, (Option.some.inj z).symm⟩
        · rw [if_neg q] at z
          cases z
      refine ⟨fun b => if b = a then some (.frz ob (.lst (ns.map V.int))) else none, fun b => ?_, .inl (.inr ⟨ob, if_pos rfl⟩), ?_, fun _ => rfl, fun b u z => ⟨_, (at_ b u z).2⟩⟩
      · by_cases q : b = a
        · exact .inr q
        · exact .inl (if_neg q)
      · intro b u z
        obtain ⟨rfl, rfl⟩ := at_ b u z
        subst hob
        exact ⟨ha, by rw [List.length_map]; exact hl, vs, _, rv, ha⟩
  have dict_free : ∀ {b : Addr} {o : Obj} {es : Array DictEntry} {ep : Nat}, s₁.heap.get? b = some o → o.data = .dict es ep → H b = none := fun {b o es ep} e d => by
    rcases hH b with q | q
    · exact q
    · rw [q, ha] at e
      cases e
      rw [← hob] at d
      cases d
  have ns_base : ∀ {b : Addr} {m : Str → Option Value}, s₁.heap.Ns b m → (hidT s₁.heap H).Ns b m := fun {b m} ⟨o, es, ep, e, d, r⟩ => ⟨o, es, ep, hidT_get e (dict_free e d), d, r⟩
  have kin : K.In (hidT s₁.heap H) := fun b o e => hidT_get (KX b o e) (by
    rcases hH b with q | q
    · exact q
    · cases z : H b with
      | none => rfl
      | some u =>
        rw [q] at z e
        rw [hKa (by rw [z]; simp)] at e
        cases e)
  have md : Mod K mg (hidT s₁.heap H) := ⟨kin, ns_base hns, ⟨mb, ns_base hb, hbb⟩, hlim.imp fun mc h => ⟨ns_base h.1, h.2⟩⟩
  have e0 : Env0 P w K mg (hidT s₁.heap H) callerA [] s₁ H := ⟨rfl, md, fun b o e => of_hidT e, Nat.le_of_eq (hidT_size _ _), trivial, fun b z => by simp [frs] at z, hok, .of_eq hg⟩
  refine codeAny_mono ((G _ kin (ns_base hns)).run callerA [] s₁ H ⟨[.ref a], []⟩ [.ref a] [.ref a] _ _ rfl hr e0 (hbind s₁ (.ref a)) (.cons rfl .nil) (hsp H (fun b u z => ⟨ob, hfz b u z⟩) hS)) fun r s' h => ?_
  match r, h with
  | .error e, h =>
    obtain ⟨_, _, _, _, _, _, _, _, _, _, _, _, z⟩ := h
    exact z.elim
  | .ok (.ret u), ⟨v, H', os, bare, un, hok', r', q⟩ =>
    have q' : v = .bl true := q
    subst q'
    obtain rfl : u = Value.bool true := r'
    refine ⟨rfl, OldK.of_keep fun b o e => ?_, os, bare⟩
    cases q : H b with
    | none => exact un.keep b o e q (by simp [frs]) (by simp)
    | some u =>
      obtain ⟨xs, rfl⟩ := hfz b u q
      obtain ⟨e1, _⟩ := hok b _ q
      obtain ⟨e2, _⟩ := hok' b _ (un.frzs b ob _ q)
      rw [e] at e1
      cases e1
      exact e2
/-- the goal of the head, from the law's promise -/
theorem walk_g {l : PySem.W.OpenLaw} {n k : Nat} {q : Program} {loose : List Str} {XP : (Str → Option Value) → Heap → Prop} {YP : World → Heap → Prop} {d : DefRec} {x : Str}
    (hn : l.most = some n) (hn2 : n ≤ sizeLine) (hdf : d.params.defaults = []) (hr : Room k callerA)
    (G : ∀ (w : World) (mg : Str → Option Value) (fa : Addr) (h : Heap), YP w h → h.Ns mainGlobals mg → mg d.name = some (.ref fa) →
      ∃ (K : PySem.W.Frag) (fd : FuncData) (sp : Sp), K.In h ∧ (∀ (s : Shared) (u : Value), BindsTo s fd ⟨[u], []⟩ [(x, u)]) ∧
        (∀ (H : Hp) (a : Addr) (ns : List Int), ns.length ≤ n → (∀ b u, H b = some u → ∃ ob xs, u = .frz ob (.lst xs)) → SqL K H a (ns.map V.int) → sp [.ref a] H (fun v _ => v = .bl true) fun _ _ _ => False) ∧
        ∀ base : Heap, K.In base → base.Ns mainGlobals mg → FnG l.prog w K mg base (L2.CX l.prog w) k fa fd [x] sp) :
    PySem.W.WalkO q loose XP YP l.row.toRowW d [] (fun f vs => PySem.call f vs) := by
  refine Att.attach_call hn hdf fun w s₀ s₁ mg mb fa o pm cd doc a vs ns Gr Y ho hd hcd hmg hobj hints hlen hg => ?_
  obtain ⟨K, fd, sp, KX, hb, hsp, hG⟩ := G w mg fa _ Y Gr.T.g hmg
  exact law_g KX Gr.T.g Gr.T.b Gr.T.builtins Gr.T.nolimit hg hobj hints (Nat.le_trans hlen hn2) hr hG hb fun H hH hS => hsp H a ns hlen hH hS
/-- the law's promise from its meaning -/
theorem law_sp {a : Addr} {H : Hp} {ns : List Int} {f : Sem1} (hH : ∀ b u, H b = some u → ∃ ob xs, u = .frz ob (.lst xs)) (hS : SqL K H a (ns.map V.int)) (h : ∃ M', f [.val (.scr ns)] [] = .ok (.bl true) M') :
    spZ cl K 1 f [.ref a] H (fun v _ => v = .bl true) fun _ _ _ => False := by
  have S : Sim ⟨K, cl, fun _ => False, H, []⟩ [] [] [] [] H :=
    ⟨rfl, ⟨[], rfl, fun a z => by simp at z⟩, fun a o e _ => e, fun a z => z.elim, rfl, List.nodup_nil, fun i d e => by simp at e, fun i d e => by simp at e, fun i d e => by simp at e, fun i j d e a e1 => by simp at e1, fun i d e => by simp at e⟩
  refine ⟨rfl, ⟨K, cl, fun _ => False, H, []⟩, [], [], [], [], [.val (.scr ns)], rfl, rfl, S, .cons ?_ .nil, ?_⟩
  · have off : ¬ (gh ⟨K, cl, fun _ => False, H, []⟩ [] [] []).off a := fun z => by
      rcases z with (z | ⟨i, d, e, _⟩) | z
      · exact z
      · simp at e
      · have z' : a ∈ ([] : List Addr) := z
        simp at z'
    rcases hS with (h | ⟨o, h⟩) | h
    · obtain ⟨ob, xs, e⟩ := hH a _ h
      cases e
    · exact .scr h off
    · exact .scrK fun H' => .inr h
  · obtain ⟨M', e⟩ := h
    rw [e]
    intro ph' H' v _ _ r
    cases r
    rfl
/-- what the head tells -/
def faOf (fns : List Fi) (px : Px) : List He.Fa := fns.map (fun f => .glo f.d.name) ++ px.free.map .free
theorem head_of (T : TextOk fns px) {h : Heap} (X : K.In h) (G : h.Ns mainGlobals mg) (c : He.SaysD (faOf fns px) (fns.map (·.d)) K) : HeadOk fns px K mg := by
  refine ⟨fun f hf => ?_, fun x hx => ?_⟩
  · obtain ⟨fd, Fd⟩ := c.defs (d := f.d) (List.mem_map_of_mem hf)
    refine ⟨fd, Fd, ?_⟩
    have e : He.fAd K f.d.at_ = He.ga K f.d.name := by rw [(T.at_ f hf).1]; rfl
    rw [e]
    exact He.glo_ok X G (c.facts (List.mem_append_left _ (List.mem_map_of_mem hf)))
  · exact He.free_ok X G (c.facts (List.mem_append_right _ (List.mem_map_of_mem hx)))
theorem all_nil {α : Type} {q : α → Prop} : ∀ x ∈ ([] : List α), q x := fun _ h => by simp at h
theorem all_cons {α : Type} {q : α → Prop} {a : α} {l : List α} (h : q a) (t : ∀ x ∈ l, q x) : ∀ x ∈ a :: l, q x := fun x hx => by
  rcases List.mem_cons.mp hx with rfl | hx
  · exact h
  · exact t x hx
theorem pat_ok {p : Pt} {f : Fi} (i : Nat) (hi : fns[i]? = some f) (hf : fns.find? (fun g => decide (g.d.name = p.name)) = some f) (hn : f.d.name = p.name) (hd : p.dd = []) (B : Bnd f p.n p.ks p.is) :
    ∃ f ∈ fns, fns.find? (fun g => decide (g.d.name = p.name)) = some f ∧ f.d.name = p.name ∧ p.dd = [] ∧ Bnd f p.n p.ks p.is := ⟨f, List.mem_of_getElem? hi, hf, hn, hd, B⟩
/-- the end of a law: the facts of its text, and its meaning -/
theorem law_end {l : PySem.W.OpenLaw} {k j : Nat} {q : Program} {loose : List Str} {XP : (Str → Option Value) → Heap → Prop} {d : DefRec} {lf : Fi} {x : Str}
    (hn : l.most = some 63) (hdf : d.params.defaults = []) (hr : Room k callerA) (T : TextOk fns px) (hl : lf ∈ fns) (hfi : fns.find? (fun g => decide (g.d.name = lf.d.name)) = some lf) (hps : lf.ps = [x]) (hd0 : lf.d.dfl = [] ∧ lf.d.kwd = []) (hname : d.name = lf.d.name)
    (hb : ∀ (kV doc pm : Value) (an : Option Addr) (cdv ct : Value) (us : List Value), us.length = 1 → bindArgs (PySem.W.fnOf lf.d.name lf.d.qual lf.d.params lf.d.body lf.d.scope .none kV doc pm an cdv ct) ⟨us, []⟩ = pure (([x] : List Str).zip us))
    (h : ∀ ns : List Int, ns.length ≤ 63 → ∃ M', callF fns px k lf.d.name [.val (.scr ns)] [] = .ok (.bl true) M') :
    PySem.W.WalkO q loose XP (He.hookD j (faOf fns px) (fns.map (·.d))).says l.row.toRowW d [] (fun f vs => PySem.call f vs) := by
  refine walk_g (x := x) (k := k) hn (by decide) hdf hr fun w mg fa hh Y G hmg => ?_
  obtain ⟨K, KX, c⟩ := Y
  have Hd := head_of T KX G c
  obtain ⟨fd, Fd, hm⟩ := Hd.fn lf hl
  rw [hname, hm] at hmg
  cases hmg
  refine ⟨K, fd, spZ (fun _ => none) K 1 (callF fns px k lf.d.name), KX, fun s u => ?_, fun H a ns hlen hH hS => law_sp hH hS (h ns hlen), fun base kin hns => ?_⟩
  · obtain ⟨oc, od, dV, kV, doc, pm, an, cdv, ct, osl, rfl, lk, hcd, hD, hK⟩ := Fd.ex
    have e0 : lf.d.dvs K = [] := by unfold He.DefD.dvs; rw [hd0.1]; rfl
    rw [e0] at hD
    rcases hD with ⟨_, rfl⟩ | ⟨z, _⟩
    · exact .of_eq (hb kV doc pm an cdv ct [u] rfl)
    · exact absurd rfl z
  · have Hd2 : HeadOk fns px K mg := Hd
    have F := fnG_all (P := l.prog) (w := w) (base := base) (cl := fun _ => none) T Hd2 k lf hl hfi fd Fd
    rw [hps] at F
    exact F
end
end Zy
set_option maxHeartbeats 2000000
namespace Zy
open PySem PySem.Spec PyProof.Rows L2
def zNx : ZS := fun env M => .nx env M
def zBk : ZS := fun env M => .bk env M
def zCt : ZS := fun env M => .ct env M

/-! ### the pure half: loops and comprehensions by what holds between their turns -/
/-- what a turn has to reach -/
def stepO (N : Ev → Sto → Prop) (Q : Out → Prop) : Out → Prop
  | .nx e m => N e m
  | .ct e m => N e m
  | .bk e m => Q (.nx e m)
  | o => Q o
theorem zForL_gen {gz : ZTg} {y : ZS} (I : Nat → Ev → Sto → Prop) (Q : Out → Prop) : ∀ {ds : List D} {n : Nat} {env : Ev} {M : Sto}, I n env M →
    (∀ (i : Nat) d env M, ds[i]? = some d → I (n + i) env M → ∃ env1, gz d env = some env1 ∧ stepO (I (n + i + 1)) Q (y env1 M)) → (∀ env M, I (n + ds.length) env M → Q (.nx env M)) → Q (zForL gz y ds env M)
  | [], n, env, M, h0, _, he => he env M h0
  | d :: ds, n, env, M, h0, st, he => by
    obtain ⟨env1, e1, s1⟩ := st 0 d env M rfl h0
    unfold zForL
    rw [e1]
    have go : ∀ e m, I (n + 0 + 1) e m → Q (zForL gz y ds e m) := fun e m h => by
      refine zForL_gen (n := n + 1) I Q (by simpa using h) (fun i d' env' M' hi h' => ?_) fun env' M' h' => ?_
      · have := st (i + 1) d' env' M' (by simpa using hi) (by rw [show n + (i + 1) = n + 1 + i by omega]; exact h')
        rw [show n + 1 + i + 1 = n + (i + 1) + 1 by omega]
        exact this
      · refine he env' M' ?_
        rw [List.length_cons, show n + (ds.length + 1) = n + 1 + ds.length by omega]
        exact h'
    show Q (loopO (zForL gz y ds) (y env1 M))
    cases q : y env1 M with
    | nx e m => rw [q] at s1; exact go e m s1
    | ct e m => rw [q] at s1; exact go e m s1
    | bk e m => rw [q] at s1; exact s1
    | rt d m => rw [q] at s1; exact s1
    | exc c fs e m => rw [q] at s1; exact s1
    | fail => rw [q] at s1; exact s1
theorem zFor_gen {zi : ZL} {gz : ZTg} {y : ZS} {ds : List D} {env : Ev} {M M1 : Sto} (hi : zi env M = .ok ds M1) (I : Nat → Ev → Sto → Prop) (Q : Out → Prop) (h0 : I 0 env M1)
    (st : ∀ (i : Nat) d env M, ds[i]? = some d → I i env M → ∃ env1, gz d env = some env1 ∧ stepO (I (i + 1)) Q (y env1 M)) (he : ∀ env M, I ds.length env M → Q (.nx env M)) : Q (zFor zi gz y env M) := by
  unfold zFor
  rw [hi]
  exact zForL_gen (n := 0) I Q h0 (fun i d e m hi h => by simpa using st i d e m hi (by simpa using h)) (fun e m h => he e m (by simpa using h))
theorem zWh_gen {c : ZB} {y : ZS} (I : Ev → Sto → Prop) (μ : Ev → Sto → Nat) (Q : Out → Prop) (st : ∀ env M, I env M → ∃ b M1, c env M = .ok b M1 ∧ (if b = true then stepO (fun e m => I e m ∧ μ e m < μ env M) Q (y env M1) else Q (.nx env M1))) :
    ∀ {n : Nat} {env : Ev} {M : Sto}, I env M → μ env M < n → Q (zWh c y n env M)
  | 0, env, M, _, h => absurd h (Nat.not_lt_zero _)
  | n + 1, env, M, h, hn => by
    obtain ⟨b, M1, e1, s1⟩ := st env M h
    unfold zWh
    rw [e1]
    show Q (if b = true then _ else _)
    cases b with
    | false => exact s1
    | true =>
      rw [if_pos rfl] at s1 ⊢
      cases q : y env M1 with
      | nx e m => rw [q] at s1; exact zWh_gen I μ Q st s1.1 (Nat.lt_of_lt_of_le s1.2 (Nat.le_of_lt_succ hn))
      | ct e m => rw [q] at s1; exact zWh_gen I μ Q st s1.1 (Nat.lt_of_lt_of_le s1.2 (Nat.le_of_lt_succ hn))
      | bk e m => rw [q] at s1; exact s1
      | rt d m => rw [q] at s1; exact s1
      | exc c fs e m => rw [q] at s1; exact s1
      | fail => rw [q] at s1; exact s1
theorem zLcL_gen {gz : ZTg} {zt : ZB} {ze : ZX} {envb : Ev} (I : Nat → List D → Sto → Prop) : ∀ {ds : List D} {n : Nat} {acc : List D} {M : Sto}, I n acc M →
    (∀ (i : Nat) d acc M, ds[i]? = some d → I (n + i) acc M → ∃ envc b M1, gz d envb = some envc ∧ zt envc M = .ok b M1 ∧ (if b = true then ∃ y M2, ze envc M1 = .ok y M2 ∧ acc.length < sizeLine ∧ I (n + i + 1) (acc ++ [y]) M2 else I (n + i + 1) acc M1)) →
    ∃ acc' M', zLcL gz zt ze envb ds acc M = .ok (.lst acc') M' ∧ I (n + ds.length) acc' M'
  | [], n, acc, M, h0, _ => ⟨acc, M, rfl, h0⟩
  | d :: ds, n, acc, M, h0, st => by
    obtain ⟨envc, b, M1, e1, e2, s1⟩ := st 0 d acc M rfl h0
    have go : ∀ acc M, I (n + 0 + 1) acc M → ∃ acc' M', zLcL gz zt ze envb ds acc M = .ok (.lst acc') M' ∧ I (n + (d :: ds).length) acc' M' := fun acc M h => by
      rw [List.length_cons, show n + (ds.length + 1) = n + 1 + ds.length by omega]
      refine zLcL_gen (n := n + 1) I (by simpa using h) fun i d' acc' M' hi h' => ?_
      have := st (i + 1) d' acc' M' (by simpa using hi) (by rw [show n + (i + 1) = n + 1 + i by omega]; exact h')
      rw [show n + 1 + i + 1 = n + (i + 1) + 1 by omega]
      exact this
    unfold zLcL
    simp only [e1, e2]
    cases b with
    | false => exact go acc M1 s1
    | true =>
      rw [if_pos rfl] at s1
      obtain ⟨y, M2, e3, hl, s2⟩ := s1
      simp only [e3, if_pos hl]
      exact go _ _ s2
theorem zLc_gen {zi : ZL} {gz : ZTg} {zt : ZB} {ze : ZX} {vs : List Nat} {env : Ev} {ds : List D} {M M1 : Sto} (hi : zi env M = .ok ds M1) (hno : noOwn env vs = true) (I : Nat → List D → Sto → Prop) (h0 : I 0 [] M1)
    (st : ∀ (i : Nat) d acc M, ds[i]? = some d → I i acc M → ∃ envc b M1, gz d (wipeE env vs) = some envc ∧ zt envc M = .ok b M1 ∧ (if b = true then ∃ y M2, ze envc M1 = .ok y M2 ∧ acc.length < sizeLine ∧ I (i + 1) (acc ++ [y]) M2 else I (i + 1) acc M1)) :
    ∃ acc' M', zLc zi gz zt ze vs env M = .ok (.lst acc') M' ∧ I ds.length acc' M' := by
  unfold zLc
  rw [hi]
  show ∃ acc' M', (if noOwn env vs = true then zLcL gz zt ze (wipeE env vs) ds [] M1 else .fail) = .ok (.lst acc') M' ∧ _
  rw [if_pos hno]
  have := zLcL_gen (n := 0) (acc := []) I h0 fun i d acc M hi h => by simpa using st i d acc M hi (by simpa using h)
  simpa using this
/-- [f(d) for d in ds], nothing changed -/
theorem zLc_map {zi : ZL} {gz : ZTg} {ze : ZX} {vs : List Nat} {env : Ev} {ds : List D} {M M1 : Sto} (f : D → D) (hi : zi env M = .ok ds M1) (hno : noOwn env vs = true) (hl : ds.length ≤ sizeLine)
    (st : ∀ d ∈ ds, ∃ envc, gz d (wipeE env vs) = some envc ∧ ze envc M1 = .ok (f d) M1) : zLc zi gz (fun _ M => .ok true M) ze vs env M = .ok (.lst (ds.map f)) M1 := by
  obtain ⟨acc, M', e, h1, h2⟩ := zLc_gen (zt := fun _ M => .ok true M) (ze := ze) (gz := gz) hi hno (fun i acc M => acc = (ds.take i).map f ∧ M = M1) ⟨by simp, rfl⟩ fun i d acc M hd h => by
    obtain ⟨rfl, rfl⟩ := h
    obtain ⟨envc, e1, e2⟩ := st d (List.mem_of_getElem? hd)
    have hi := (List.getElem?_eq_some_iff.mp hd).1
    refine ⟨envc, true, M, e1, rfl, ?_⟩
    rw [if_pos rfl]
    refine ⟨f d, M, e2, by rw [List.length_map, List.length_take]; omega, ?_, rfl⟩
    rw [List.take_add_one, hd]
    simp
  rw [e, h1, h2, List.take_length]

/-! ### the law's own draws -/
def takeY : ZS :=
  (zSeq (zFrz [] (zSet 2 (zOp gIx (zCv 0) (zK (.int 1)))))
      (zSeq (zFrz [] (zPut 0 (zOp gAdd (zCv 2) (zK (.int 1))) (zK (.int 1))))
      (zSeq (zFrz [] (zSet 3 (zOp gIx (zCv 0) (zK (.int 0)))))
      (zSeq (zFrz [] (zIfS (zTst (zOp gGe (zCv 2) (zBf gLen (zCons (zCv 3) zNil))))
    (zSeq (zFrz [] (zRet (zK (.int 0))))
      zNx)
    zNx))
      (zSeq (zFrz [] (zRet (zOp gMod (zOp gFdiv (zBf gInt (zCons (zOp gIx (zCv 3) (zCv 2)) zNil)) (zK (.int 7))) (zCv 1))))
      zNx)))))
theorem take_ok {h : Nat} {M : Sto} {ns : List Int} {p m : Int} (hM : M[h]? = some (.lst [.lst (ns.map .int), .int p])) (hp : 0 ≤ p) (hm : 0 < m) :
    ∃ r, 0 ≤ r ∧ r < m ∧ zFun 2 4 takeY [.val (.ref h), .val (.int m)] M = .ok (.int r) (M.set h (.lst [.lst (ns.map .int), .int (p + 1)])) := by
  have hh : h < M.length := (List.getElem?_eq_some_iff.mp hM).1
  have hS : (M.set h (.lst [.lst (ns.map .int), .int (p + 1)]))[h]? = some (.lst [.lst (ns.map .int), .int (p + 1)]) := by rw [List.getElem?_set_self hh]
  by_cases hg : (ns.length : Int) ≤ p
  · refine ⟨0, Int.le_refl _, hm, ?_⟩
    simp [zFun, takeY, zSeq, zFrz, frz, zSet, zPut, zOp, zCv, zK, gIx, gAdd, deref, hM, hS, itemsD, atI, ixN, putL, getPl, setPl, zIfS, zTst, gCmpI, zBf, zCons, zNil, gLen, zRet, Res.toS, Res.bind, hg]
  · have hlt : p.toNat < ns.length := by omega
    have hlt2 : p < (ns.length : Int) := by omega
    have lg : (7 : Int).natAbs.log2 < 9000 := by decide
    have lg2 : Nat.log2 7 < 9000 := by decide
    refine ⟨ns[p.toNat] / 7 % m, Int.emod_nonneg _ (by omega), Int.emod_lt_of_pos _ hm, ?_⟩
    simp [zFun, takeY, zSeq, zFrz, frz, zSet, zPut, zOp, zCv, zK, gIx, gAdd, deref, hM, hS, itemsD, atI, ixN, putL, getPl, setPl, zIfS, zTst, gCmpI, zBf, zCons, zNil, gLen, zRet, Res.toS, Res.bind, hg, hp, gInt, gFdiv, gMod, zNx, hm, hlt, hlt2, lg, lg2]
end Zy
set_option maxHeartbeats 2000000
namespace Zy
open PySem PySem.Spec PyProof.Rows L2
section
variable {env : Ev} {M : Sto} {y y' : ZS} {z za zb zc : ZX} {l : ZL} {i j : Nat} {g : G2} {d e : D}
@[simp] theorem zNx_z : zNx env M = .nx env M := id rfl
@[simp] theorem zBk_z : zBk env M = .bk env M := id rfl
@[simp] theorem zCt_z : zCt env M = .ct env M := id rfl
@[simp] theorem zSeq_z : zSeq y y' env M = match y env M with
  | .nx env M => y' env M
  | o => o := id rfl
@[simp] theorem zFrz_z : zFrz [] y = y := id rfl
@[simp] theorem zSet_z : zSet i z env M = (z env M).toS env fun d M1 => .nx (env.set i (.val d)) M1 := id rfl
@[simp] theorem zSetO_z : zSetO i z env M = (z env M).toS env fun d M1 => .nx (env.set i (.own d)) M1 := id rfl
@[simp] theorem zSetC_z : zSetC i z env M = (z env M).toS env fun d M1 => .nx (env.set i (.val (.ref M1.length))) (M1 ++ [d]) := id rfl
@[simp] theorem zRet_z : zRet z env M = (z env M).toS env fun d M1 => .rt d M1 := id rfl
@[simp] theorem zDrop_z : zDrop z env M = (z env M).toS env fun _ M1 => .nx env M1 := id rfl
@[simp] theorem zIfS_z {t : ZB} : zIfS t y y' env M = (t env M).toS env fun b M1 => if b = true then y env M1 else y' env M1 := id rfl
@[simp] theorem zVar_z : zVar i env M = match env[i]? with
  | some (.val d) => .ok d M
  | _ => .fail := id rfl
@[simp] theorem zBv_z : zBv i env M = match env[i]? with
  | some (.val d) => .ok d M
  | some (.bor d) => .ok d M
  | _ => .fail := id rfl
@[simp] theorem zCv_z : zCv i env M = match env[i]? with
  | some (.val d) => .ok d M
  | some (.own d) => .ok d M
  | some (.bor d) => .ok d M
  | _ => .fail := id rfl
@[simp] theorem zK_z : zK d env M = .ok d M := id rfl
@[simp] theorem zOp_z : zOp g za zb env M = (za env M).bind fun d M1 => (zb env M1).bind fun e M2 => g d e M2 := id rfl
@[simp] theorem zTst_z : zTst z env M = (z env M).bind fun d M1 => match d with
  | .bl b => .ok b M1
  | _ => .fail := id rfl
@[simp] theorem zAnd_z {t u : ZB} : zAnd t u env M = (t env M).bind fun b M1 => if b = true then u env M1 else .ok false M1 := id rfl
@[simp] theorem zOr_z {t u : ZB} : zOr t u env M = (t env M).bind fun b M1 => if b = true then .ok true M1 else u env M1 := id rfl
@[simp] theorem zNot_z {t : ZB} : zNot t env M = (t env M).bind fun b M1 => .ok (!b) M1 := id rfl
@[simp] theorem zTru_z : zTru z env M = (z env M).bind fun d M1 => match (deref M1 d).bind truD with
  | some b => .ok b M1
  | none => .fail := id rfl
@[simp] theorem zAndV_z : zAndV z za env M = (z env M).bind fun d M1 => match d with
  | .bl true => za env M1
  | .bl false => .ok (.bl false) M1
  | _ => .fail := id rfl
@[simp] theorem zNotV_z : zNotV z env M = (z env M).bind fun d M1 => match d with
  | .bl b => .ok (.bl (!b)) M1
  | _ => .fail := id rfl
@[simp] theorem zNil_z : zNil env M = .ok [] M := id rfl
@[simp] theorem zCons_z : zCons z l env M = (z env M).bind fun d M1 => (l env M1).bind fun ds M2 => .ok (d :: ds) M2 := id rfl
@[simp] theorem zTup_z : zTup l env M = (l env M).bind fun ds M1 => if ds.length ≤ sizeLine then .ok (.tup ds) M1 else .fail := id rfl
@[simp] theorem zLst_z : zLst l env M = (l env M).bind fun ds M1 => if ds.length ≤ sizeLine then .ok (.lst ds) M1 else .fail := id rfl
@[simp] theorem zBf_z {g : GB} : zBf g l env M = (l env M).bind fun ds M1 => g ds M1 := id rfl
@[simp] theorem zNeg_z : zNeg z env M = (z env M).bind fun d M1 => match d with
  | .int i => .ok (.int (-i)) M1
  | _ => .fail := id rfl
@[simp] theorem sNil_z : sNil env M = .ok [] M := id rfl
@[simp] theorem sCons_z {s : ZS1} {l : ZSl} : sCons s l env M = (s env M).bind fun d M1 => (l env M1).bind fun ds M2 => .ok (d :: ds) M2 := id rfl
@[simp] theorem zSv_z : zSv i env M = match env[i]? with
  | some (.val d) => .ok (.val d) M
  | some (.own d) => .ok (.bor d) M
  | some (.bor d) => .ok (.bor d) M
  | _ => .fail := id rfl
@[simp] theorem zVl_z : zVl z env M = (z env M).bind fun d M1 => .ok (.val d) M1 := id rfl
@[simp] theorem zTupOf_z : zTupOf z env M = (z env M).bind fun d M1 => match (deref M1 d).bind itemsD with
  | some ds => .ok (.tup ds) M1
  | none => .fail := id rfl
@[simp] theorem zLstOf_z : zLstOf z env M = (z env M).bind fun d M1 => match (deref M1 d).bind itemsD with
  | some ds => .ok (.lst ds) M1
  | none => .fail := id rfl
@[simp] theorem zSeqI_z : zSeqI z env M = (z env M).bind fun d M1 => match itemsD d with
  | some ds => .ok ds M1
  | none => .fail := id rfl
def rngR (ds : List D) (M : Sto) : Res (List D) := match ds with
  | [.int j] => if sm62 j then .ok (stpD 0 1 j.toNat) M else .fail
  | _ => .fail
@[simp] theorem zRng1_z : zRng1 l env M = (l env M).bind rngR := id rfl
@[simp] theorem rngR_nat (n : Nat) (h : n ≤ 1000000000) : rngR [.int (n : Int)] M = .ok (stpD 0 1 n) M := by
  have : sm62 (n : Int) = true := by
    simp only [sm62, Bool.and_eq_true, decide_eq_true_eq]
    have : (1000000000 : Int) < 2 ^ 62 := by decide
    have : (-(2 ^ 62) : Int) ≤ 0 := by decide
    omega
  unfold rngR
  simp only [this, if_true, Int.toNat_natCast]
theorem rngR_lit {j : Int} (h : sm62 j = true) : rngR [.int j] M = .ok (stpD 0 1 j.toNat) M := by
  unfold rngR
  simp only [h, if_true]
def tupR (p : Int × Int) (M : Sto) : Res D := if -(2 ^ 62) ≤ p.1 ∧ p.1 < 2 ^ 62 ∧ -(2 ^ 62) ≤ p.2 ∧ p.2 < 2 ^ 62 ∧ (p.2 - p.1).toNat ≤ 2 ^ 24 then .ok (.tup (rngD p.1 p.2)) M else .fail
@[simp] theorem zTupRg_z {r : ZR} : zTupRg r env M = (r env M).bind tupR := id rfl
theorem tupR_ok {a b : Int} (h0 : 0 ≤ a) (h1 : a ≤ 1000000) (h2 : 0 ≤ b) (h3 : b ≤ 1000000) : tupR (a, b) M = .ok (.tup (rngD a b)) M := by
  unfold tupR
  rw [if_pos]
  have h4 : (1000000 : Int) < 2 ^ 62 := by decide
  have h5 : (-(2 ^ 62) : Int) ≤ 0 := by decide
  refine ⟨Int.le_trans h5 h0, Int.lt_of_le_of_lt h1 h4, Int.le_trans h5 h2, Int.lt_of_le_of_lt h3 h4, ?_⟩
  have h6 : 1000000 ≤ 2 ^ 24 := by decide
  show (b - a).toNat ≤ _
  omega
@[simp] theorem zRg2_z : zRg2 za zb env M = (za env M).bind fun d M1 => (zb env M1).bind fun e M2 => match d, e with
  | .int i, .int j => .ok (i, j) M2
  | _, _ => .fail := id rfl
@[simp] theorem zIsi_z {Ts : List String} : zIsi Ts z env M = (z env M).bind fun d M1 => match (deref M1 d).bind (isiD Ts) with
  | some b => .ok (.bl b) M1
  | none => .fail := id rfl
@[simp] theorem zPart_z : zPart z env M = (z env M).bind fun d M1 => match d with
  | .int i => .ok (some i) M1
  | _ => .fail := id rfl
@[simp] theorem zNoP_z : zNoP env M = .ok none M := id rfl
@[simp] theorem zPut_z : zPut i z za env M = (z env M).toS env fun v M1 => match getPl env M1 i with
  | some _ => (za env M1).toS env fun k M2 => putL env M2 i k v
  | none => .fail := id rfl
@[simp] theorem zApp_z : zApp i z env M = match getPl env M i with
  | some (.lst _) => (z env M).toS env fun v M1 => match getPl env M1 i with
    | some (.lst ds) => if ds.length < sizeLine then .nx (setPl env M1 i (.lst (ds ++ [v]))).1 (setPl env M1 i (.lst (ds ++ [v]))).2 else .fail
    | _ => .fail
  | _ => .fail := id rfl
@[simp] theorem zAugN_z {g : Int → Int → Int} : zAugN i g z env M = match env[i]? with
  | some (.val (.int n)) => (z env M).toS env fun v M1 => match v with
    | .int m => .nx (env.set i (.val (.int (g n m)))) M1
    | _ => .fail
  | _ => .fail := id rfl
@[simp] theorem gAdd_int {a b : Int} : gAdd (.int a) (.int b) M = .ok (.int (a + b)) M := id rfl
@[simp] theorem gSub_int {a b : Int} : gSub (.int a) (.int b) M = .ok (.int (a - b)) M := id rfl
@[simp] theorem gMul_int {a b : Int} : gMul (.int a) (.int b) M = if smallI a ∨ smallI b then .ok (.int (a * b)) M else .fail := id rfl
@[simp] theorem gFdiv_int {a b : Int} : gFdiv (.int a) (.int b) M = if 0 < b ∧ b.natAbs.log2 < 9000 then .ok (.int (a / b)) M else .fail := id rfl
@[simp] theorem gMod_int {a b : Int} : gMod (.int a) (.int b) M = if 0 < b then .ok (.int (a % b)) M else .fail := id rfl
@[simp] theorem gPow_int {a b : Int} : gPow (.int a) (.int b) M = if 0 ≤ b ∧ b ≤ 1000000 ∧ a.natAbs < 2 ^ 64 then .ok (.int (a ^ b.toNat)) M else .fail := id rfl
@[simp] theorem gCmpI_int {p : Int → Int → Bool} {a b : Int} : gCmpI p (.int a) (.int b) M = .ok (.bl (p a b)) M := id rfl
@[simp] theorem gInt_int {a : Int} : gInt [.int a] M = .ok (.int a) M := id rfl
@[simp] theorem gAbs_int {a : Int} : gAbs [.int a] M = .ok (.int (if a < 0 then -a else a)) M := id rfl
@[simp] theorem gLen_lst {ds : List D} : gLen [.lst ds] M = .ok (.int ds.length) M := id rfl
@[simp] theorem gLen_tup {ds : List D} : gLen [.tup ds] M = .ok (.int ds.length) M := id rfl
@[simp] theorem gLen_scr {ns : List Int} : gLen [.scr ns] M = .ok (.int ns.length) M := by simp [gLen, deref, itemsD]
theorem gIx_of {c : D} {ds : List D} (h : itemsD c = some ds) {n : Nat} {x : D} (hx : ds[n]? = some x) (hn : deref M c = some c) : gIx c (.int n) M = .ok x M := by
  have hl := (List.getElem?_eq_some_iff.mp hx).1
  have : (n : Int) < ds.length := by omega
  simp [gIx, hn, h, atI, ixN, this, hx]
theorem gIx_lst {ds : List D} {n : Int} {x : D} (h0 : 0 ≤ n) (hx : ds[n.toNat]? = some x) : gIx (.lst ds) (.int n) M = .ok x M := by
  have := gIx_of (M := M) (c := .lst ds) rfl hx rfl
  rwa [Int.toNat_of_nonneg h0] at this
theorem gIx_tup {ds : List D} {n : Int} {x : D} (h0 : 0 ≤ n) (hx : ds[n.toNat]? = some x) : gIx (.tup ds) (.int n) M = .ok x M := by
  have := gIx_of (M := M) (c := .tup ds) rfl hx rfl
  rwa [Int.toNat_of_nonneg h0] at this
theorem gIx_scr {ns : List Int} {n : Int} {x : Int} (h0 : 0 ≤ n) (hx : ns[n.toNat]? = some x) : gIx (.scr ns) (.int n) M = .ok (.int x) M := by
  have := gIx_of (M := M) (c := .scr ns) rfl (x := .int x) (n := n.toNat) (by simp [hx]) rfl
  rwa [Int.toNat_of_nonneg h0] at this
theorem stpD_get {a c : Int} {n i : Nat} {d : D} (h : (stpD a c n)[i]? = some d) : d = .int (a + i * c) ∧ i < n := by
  simp only [stpD, List.getElem?_map] at h
  cases q : (List.range n)[i]? with
  | none => simp [q] at h
  | some k =>
    have := List.getElem?_eq_some_iff.mp q
    obtain ⟨h1, h2⟩ := this
    simp at h1 h2
    subst h2
    simp [q] at h
    exact ⟨h.symm, h1⟩
@[simp] theorem stpD_len {a c : Int} {n : Nat} : (stpD a c n).length = n := by simp [stpD]
end
def pyAbs (i : Int) : Int := if i < 0 then -i else i
def drawsTail : ZS :=
      (zSeq (zFrz [] (zSet 6 (zOp gMod (zBf gInt (zCons (zOp gAdd (zOp gAdd (zOp gMul (zCv 5) (zK (.int 48271))) (zOp gMul (zCv 4) (zK (.int 69621)))) (zK (.int 11))) zNil)) (zK (.int 2147483647)))))
      (zSeq (zFrz [] (zSet 6 (zOp gMod (zBf gInt (zCons (zOp gAdd (zOp gFdiv (zOp gMul (zCv 6) (zCv 6)) (zK (.int 4096))) (zCv 6)) zNil)) (zK (.int 2147483629)))))
      (zSeq (zFrz [] (zApp 3 (zOp gMod (zBf gInt (zCons (zOp gAdd (zOp gFdiv (zOp gMul (zCv 6) (zCv 6)) (zK (.int 4096))) (zOp gMul (zCv 4) (zK (.int 7919)))) zNil)) (zK (.int 2147483629)))))
      zNx)))
def drawsBody : ZS :=
    (zSeq (zFrz [] (zSet 5 (zVar 4)))
      (zSeq (zFrz [] (zIfS (zTst (zOp gGt (zBf gLen (zCons (zCv 0) zNil)) (zK (.int 0))))
    (zSeq (zFrz [] (zSet 7 (zOp gMod (zCv 4) (zBf gLen (zCons (zCv 0) zNil)))))
      (zSeq (zFrz [] (zSet 5 (zBf gInt (zCons (zOp gIx (zCv 0) (zCv 7)) zNil))))
      (zSeq (zFrz [] (zIfS (zAnd (zTst (zOp gGe (zCv 5) (zOp gPow (zK (.int 10)) (zK (.int 18))))) (zTst (zOp gGt (zOp gIx (zCv 2) (zCv 7)) (zK (.int 0)))))
    (zSeq (zFrz [] (zApp 3 (zOp gMod (zBf gInt (zCons (zOp gIx (zCv 2) (zCv 7)) zNil)) (zK (.int 1000003)))))
      (zSeq (zFrz [] (zPut 2 (zOp gFdiv (zBf gInt (zCons (zOp gIx (zCv 2) (zCv 7)) zNil)) (zK (.int 1000003))) (zVar 7)))
      (zSeq (zFrz [] zCt)
      zNx)))
    zNx))
      zNx)))
    zNx))
      drawsTail))
def drawsY : ZS :=
  (zSeq (zFrz [] (zSetO 2 (zLc (zSeqI (zBv 0)) (tgN 5) (fun _ M => .ok true M) (zBf gAbs (zCons (zBf gInt (zCons (zCv 5) zNil)) zNil)) [5])))
      (zSeq (zFrz [] (zSetO 3 (zLst zNil)))
      (zSeq (zFrz [] (zFor (zRng1 (zCons (zVar 1) zNil)) (tgN 4) drawsBody))
      (zSeq (zFrz [3] (zRet (zVar 3)))
      zNx))))
theorem small_mod {a b : Int} (h : 0 < b) (hb : b < 2 ^ 64) : smallI (a % b) := ⟨by have := Int.emod_nonneg a (b := b) (by omega); omega, by have := Int.emod_lt_of_pos a h; omega⟩
theorem sm1 : smallI 48271 := by decide
theorem sm2 : smallI 69621 := by decide
theorem sm3 : smallI 7919 := by decide
theorem lg4096 : (4096 : Int).natAbs.log2 < 9000 := by decide
theorem lg4096' : Nat.log2 4096 < 9000 := by decide
theorem lgM : Nat.log2 1000003 < 9000 := by decide
theorem drawsTail_ok {s n e2 e6 e7 : Sl} {M : Sto} {ds : List D} {k c : Int} (hl : ds.length < sizeLine) : ∃ x y, drawsTail [s, n, e2, .own (.lst ds), .val (.int k), .val (.int c), e6, e7] M = .nx [s, n, e2, .own (.lst (ds ++ [.int x])), .val (.int k), .val (.int c), y, e7] M := by
  have s6 : ∀ z : Int, smallI (z % 2147483647) := fun z => small_mod (by decide) (by decide)
  have s7 : ∀ z : Int, smallI (z % 2147483629) := fun z => small_mod (by decide) (by decide)
  simp [drawsTail, sm1, sm2, sm3, s6, s7, lg4096', getPl, setPl, hl]
theorem drawsBody_ok {n e4 e5 e6 e7 : Sl} {M : Sto} {ns rs : List Int} {ds : List D} {k : Nat} (hr : rs.length = ns.length) (hl : ds.length < sizeLine) :
    ∃ x e5' e6' e7', ∃ rs' : List Int, rs'.length = ns.length ∧ (drawsBody [.val (.scr ns), n, .own (.lst (rs.map .int)), .own (.lst ds), .val (.int (k : Nat)), e5, e6, e7] M = .nx [.val (.scr ns), n, .own (.lst (rs'.map .int)), .own (.lst (ds ++ [.int x])), .val (.int (k : Nat)), e5', e6', e7'] M ∨ drawsBody [.val (.scr ns), n, .own (.lst (rs.map .int)), .own (.lst ds), .val (.int (k : Nat)), e5, e6, e7] M = .ct [.val (.scr ns), n, .own (.lst (rs'.map .int)), .own (.lst (ds ++ [.int x])), .val (.int (k : Nat)), e5', e6', e7'] M) := by
  by_cases h0 : ns = []
  · subst h0
    obtain ⟨x, y, e⟩ := drawsTail_ok (s := .val (.scr [])) (n := n) (e2 := .own (.lst (rs.map .int))) (e6 := e6) (e7 := e7) (M := M) (ds := ds) (k := k) (c := k) hl
    refine ⟨x, .val (.int k), y, e7, rs, hr, .inl ?_⟩
    simp [drawsBody, e]
  · have hp : 0 < ns.length := List.length_pos_iff.mpr h0
    have hm : k % ns.length < ns.length := Nat.mod_lt _ hp
    have hm' : k % ns.length < rs.length := by omega
    have gs : gIx (.scr ns) (.int ((k : Int) % (ns.length : Int))) M = .ok (.int ns[k % ns.length]) M := gIx_scr (by omega) (by rw [← Int.natCast_emod, Int.toNat_natCast]; exact List.getElem?_eq_getElem hm)
    have gr : ∀ M, gIx (.lst (rs.map .int)) (.int ((k : Int) % (ns.length : Int))) M = .ok (.int rs[k % ns.length]) M := fun M => gIx_lst (by omega) (by rw [← Int.natCast_emod, Int.toNat_natCast, List.getElem?_map, List.getElem?_eq_getElem hm']; rfl)
    by_cases hc : (10 : Int) ^ 18 ≤ ns[k % ns.length] ∧ 0 < rs[k % ns.length]
    · refine ⟨rs[k % ns.length] % 1000003, .val (.int ns[k % ns.length]), e6, .val (.int ((k : Int) % ns.length)), rs.set (k % ns.length) (rs[k % ns.length] / 1000003), by simpa using hr, .inr ?_⟩
      have h1 : (1000000000000000000 : Int) ≤ ns[k % ns.length] := hc.1
      have h3 : ((k : Int) % (ns.length : Int)) < (rs.length : Int) := by rw [← Int.natCast_emod]; omega
      have h4 : 0 ≤ ((k : Int) % (ns.length : Int)) := by omega
      have h6 : ((k : Int) % (ns.length : Int)).toNat = k % ns.length := by rw [← Int.natCast_emod, Int.toNat_natCast]
      simp [drawsBody, hp, gs, gr, h1, hc.2, lgM, getPl, setPl, hl, putL, ixN, h3, h4, h6]
    · obtain ⟨x, y, e⟩ := drawsTail_ok (s := .val (.scr ns)) (n := n) (e2 := .own (.lst (rs.map .int))) (e6 := e6) (e7 := .val (.int ((k : Int) % ns.length))) (M := M) (ds := ds) (k := k) (c := ns[k % ns.length]) hl
      refine ⟨x, .val (.int ns[k % ns.length]), y, .val (.int ((k : Int) % ns.length)), rs, hr, .inl ?_⟩
      rw [← e]
      by_cases h1 : (1000000000000000000 : Int) ≤ ns[k % ns.length]
      · have h2 : ¬ 0 < rs[k % ns.length] := fun h => hc ⟨h1, h⟩
        simp [drawsBody, hp, gs, gr, h1, h2]
      · simp [drawsBody, hp, gs, gr, h1]
theorem draws_rests {M : Sto} {ns : List Int} {m : Nat} (hns : ns.length ≤ 1000) : zLc (zSeqI (zBv 0)) (tgN 5) (fun _ M => .ok true M) (zBf gAbs (zCons (zBf gInt (zCons (zCv 5) zNil)) zNil)) [5] [.val (.scr ns), .val (.int m), .no, .no, .no, .no, .no, .no] M = .ok (.lst ((ns.map pyAbs).map .int)) M := by
  have c1 : zLc (zSeqI (zBv 0)) (tgN 5) (fun _ M => .ok true M) (zBf gAbs (zCons (zBf gInt (zCons (zCv 5) zNil)) zNil)) [5] [.val (.scr ns), .val (.int m), .no, .no, .no, .no, .no, .no] M = .ok (.lst ((ns.map D.int).map fun d => match d with
      | D.int i => D.int (pyAbs i)
      | d => d)) M := by
    refine zLc_map _ (ds := ns.map .int) rfl rfl (by rw [List.length_map]; exact Nat.le_trans hns (by decide)) fun d hd => ?_
    obtain ⟨n, _, rfl⟩ := List.mem_map.mp hd
    exact ⟨_, rfl, by simp [wipeE, pyAbs]⟩
  rw [List.map_map] at c1
  have c2 : (fun d => match d with
      | D.int i => D.int (pyAbs i)
      | d => d) ∘ D.int = D.int ∘ pyAbs := rfl
  rw [c2, ← List.map_map] at c1
  exact c1
end Zy
set_option maxHeartbeats 2000000
namespace Zy
open PySem PySem.Spec PyProof.Rows L2
def BodyOk (y : ZS) : Prop := ∀ {n e5 e6 e7 : Sl} {M : Sto} {ns rs : List Int} {ds : List D} {k : Nat}, rs.length = ns.length → ds.length < sizeLine →
    ∃ x e5' e6' e7', ∃ rs' : List Int, rs'.length = ns.length ∧ (y [.val (.scr ns), n, .own (.lst (rs.map .int)), .own (.lst ds), .val (.int (k : Nat)), e5, e6, e7] M = .nx [.val (.scr ns), n, .own (.lst (rs'.map .int)), .own (.lst (ds ++ [.int x])), .val (.int (k : Nat)), e5', e6', e7'] M ∨ y [.val (.scr ns), n, .own (.lst (rs.map .int)), .own (.lst ds), .val (.int (k : Nat)), e5, e6, e7] M = .ct [.val (.scr ns), n, .own (.lst (rs'.map .int)), .own (.lst (ds ++ [.int x])), .val (.int (k : Nat)), e5', e6', e7'] M)
theorem bodyOk : BodyOk drawsBody := fun h1 h2 => drawsBody_ok (e4 := .no) h1 h2
theorem draws_loop {y : ZS} (hy : BodyOk y) {M : Sto} {ns rs0 : List Int} {m : Nat} (hr0 : rs0.length = ns.length) (hm : m ≤ 1000) :
    ∃ e2 e4 e5 e6 e7, ∃ ds : List Int, zFor (zRng1 (zCons (zVar 1) zNil)) (tgN 4) y [.val (.scr ns), .val (.int m), .own (.lst (rs0.map .int)), .own (.lst []), .no, .no, .no, .no] M = .nx [.val (.scr ns), .val (.int m), e2, .own (.lst (ds.map .int)), e4, e5, e6, e7] M := by
  have hz : zRng1 (zCons (zVar 1) zNil) [.val (.scr ns), .val (.int m), .own (.lst (rs0.map .int)), .own (.lst []), .no, .no, .no, .no] M = .ok (stpD 0 1 m) M := by simp [rngR_nat m (by omega)]
  refine zFor_gen (I := fun i env M' => ∃ e4 e5 e6 e7, ∃ rs ds : List Int, env = [.val (.scr ns), .val (.int m), .own (.lst (rs.map .int)), .own (.lst (ds.map .int)), e4, e5, e6, e7] ∧ rs.length = ns.length ∧ ds.length = i ∧ M' = M)
    (Q := fun o => ∃ e2 e4 e5 e6 e7, ∃ ds : List Int, o = .nx [.val (.scr ns), .val (.int m), e2, .own (.lst (ds.map .int)), e4, e5, e6, e7] M) hz
    ⟨.no, .no, .no, .no, rs0, [], rfl, hr0, rfl, rfl⟩ (fun i d env M' hi h => ?_) fun env M' h => ?_
  · obtain ⟨e4, e5, e6, e7, rs, ds, rfl, h1, h2, rfl⟩ := h
    obtain ⟨rfl, hlt⟩ := stpD_get hi
    obtain ⟨x, e5', e6', e7', rs', h3, h4⟩ := hy (n := .val (.int m)) (e5 := e5) (e6 := e6) (e7 := e7) (M := M') (ns := ns) (rs := rs) (ds := ds.map .int) (k := i) h1 (by rw [List.length_map, h2]; exact Nat.lt_of_lt_of_le hlt (Nat.le_trans hm (by decide)))
    refine ⟨_, rfl, ?_⟩
    simp only [Int.zero_add, Int.mul_one, List.set_cons_succ, List.set_cons_zero]
    rcases h4 with h4 | h4 <;> rw [h4] <;> exact ⟨.val (.int i), e5', e6', e7', rs', ds ++ [x], by simp, h3, by simp [h2], rfl⟩
  · obtain ⟨e4, e5, e6, e7, rs, ds, rfl, h1, h2, rfl⟩ := h
    exact ⟨_, _, _, _, _, ds, rfl⟩
theorem draws_seq {z : ZX} {y : ZS} {M : Sto} {ns : List Int} {m : Nat} {r : D}
    (c1 : z [.val (.scr ns), .val (.int m), .no, .no, .no, .no, .no, .no] M = .ok r M) {e2 e4 e5 e6 e7 : Sl} {ds : List Int}
    (c3 : y [.val (.scr ns), .val (.int m), .own r, .own (.lst []), .no, .no, .no, .no] M = .nx [.val (.scr ns), .val (.int m), e2, .own (.lst (ds.map .int)), e4, e5, e6, e7] M) :
    zFun 2 8 (zSeq (zFrz [] (zSetO 2 z)) (zSeq (zFrz [] (zSetO 3 (zLst zNil))) (zSeq (zFrz [] y) (zSeq (zFrz [3] (zRet (zVar 3))) zNx)))) [.val (.scr ns), .val (.int m)] M = .ok (.lst (ds.map .int)) M := by
  unfold zFun
  simp [c1, c3, zFrz, frz]
theorem draws_ok {M : Sto} {ns : List Int} {m : Nat} (hns : ns.length ≤ 1000) (hm : m ≤ 1000) : ∃ ds : List Int, zFun 2 8 drawsY [.val (.scr ns), .val (.int m)] M = .ok (.lst (ds.map .int)) M := by
  obtain ⟨e2, e4, e5, e6, e7, ds, c3⟩ := draws_loop bodyOk (M := M) (ns := ns) (rs0 := ns.map pyAbs) (m := m) (List.length_map ..) hm
  exact ⟨ds, draws_seq (draws_rests (M := M) (m := m) hns) c3⟩
end Zy
set_option maxHeartbeats 2000000
namespace Zy
open PySem PySem.Spec PyProof.Rows L2
/-! what many laws share: the hand, plain values, cuts -/
section
variable {M : Sto}
@[simp] theorem gEq_int {a b : Int} : gEq (.int a) (.int b) M = .ok (.bl (decide (a = b))) M := by
  show (match eqD2 (.int a) (.int b) with
    | some b => Res.ok (D.bl (if false then !b else b)) M
    | none => .fail) = _
  have : eqD2 (.int a) (.int b) = some (decide (a = b)) := by
    show (if SeqAt.shaped (.int a) = true ∧ SeqAt.shaped (.int b) = true then some (PyData.eqv (.int a) (.int b)) else none) = _
    rw [if_pos ⟨rfl, rfl⟩]
    simp [PyData.eqv, Bool.beq_eq_decide_eq]
  rw [this]; rfl
theorem gNe_bl {a : Bool} : gNe (.bl a) (.bl a) M = .ok (.bl false) M := by
  cases a <;> rfl
theorem gNe_str {a b : Str} : gNe (.str a) (.str b) M = .ok (.bl (!decide (a = b))) M := rfl
@[simp] theorem gNe_strs {a : Str} : gNe (.str a) (.str a) M = .ok (.bl false) M := by
  rw [gNe_str]; simp
theorem gAdd_tup {a b : List D} (h : a.length + b.length ≤ 1000) : gAdd (.tup a) (.tup b) M = .ok (.tup (a ++ b)) M := by
  show (if a.length + b.length ≤ sizeLine then Res.ok (D.tup (a ++ b)) M else .fail) = _
  rw [if_pos (Nat.le_trans h (by decide))]
theorem cutD_len (ds : List D) (lo hi : Option Int) : (cutD ds lo hi).length ≤ ds.length := by
  unfold cutD
  rw [List.length_take, List.length_drop]
  omega
theorem cutD_mem {ds : List D} {lo hi : Option Int} {d : D} (h : d ∈ cutD ds lo hi) : d ∈ ds := List.mem_of_mem_drop (List.mem_of_mem_take h)
end
/-- values without hidden parts -/
def pl : D → Bool
  | .non | .bl _ | .int _ | .str _ | .tup _ | .lst _ => true
  | _ => false
def Pls (ds : List D) : Prop := ∀ d ∈ ds, pl d = true
theorem Pls.app {a b : List D} (h : Pls a) (k : Pls b) : Pls (a ++ b) := fun d m => (List.mem_append.mp m).elim (h d) (k d)
theorem Pls.cut {a : List D} {lo hi : Option Int} (h : Pls a) : Pls (cutD a lo hi) := fun d m => h d (cutD_mem m)
theorem Pls.ints (ns : List Int) : Pls (ns.map .int) := fun d m => by
  obtain ⟨n, _, rfl⟩ := List.mem_map.mp m
  rfl
/-- a value and its parts -/
def Plv (d : D) : Prop := pl d = true ∧ ∀ ds, itemsD d = some ds → Pls ds
theorem pl_deref {d : D} {M : Sto} (h : pl d = true) : deref M d = some d := by
  cases d <;> first | rfl | cases h
def okC : D → Bool
  | .int i => decide (1 ≤ i)
  | _ => false
def sumD (ds : List D) : Int := ((intsD ds).getD []).sum
def cutV (n : Int) (d : D) : Bool := match d with
  | .tup ds | .lst ds => ds.all okC && decide (sumD ds = n)
  | _ => false
theorem okC_ints : ∀ {ds : List D}, ds.all okC = true → ∃ ns : List Int, ds = ns.map .int
  | [], _ => ⟨[], rfl⟩
  | d :: ds, h => by
    rw [List.all_cons, Bool.and_eq_true] at h
    obtain ⟨ns, rfl⟩ := okC_ints h.2
    cases d with
    | int i => exact ⟨i :: ns, rfl⟩
    | _ => cases h.1
theorem intsD_ints : ∀ ns : List Int, intsD (ns.map .int) = some ns
  | [] => rfl
  | n :: ns => by simp [intsD, intsD_ints ns]
/-- the hand of the laws: one cell -/
def Hd (M : Sto) : Prop := ∃ (ns : List Int) (p : Int), M = [.lst [.lst (ns.map .int), .int p]] ∧ 0 ≤ p
def TakeOk (f : Sem1) : Prop := ∀ M (m : Int), Hd M → 0 < m → ∃ r M', 0 ≤ r ∧ r < m ∧ Hd M' ∧ f [.val (.ref 0), .val (.int m)] M = .ok (.int r) M'
theorem takeOk : TakeOk (zFun 2 4 takeY) := fun M m h hm => by
  obtain ⟨ns, p, rfl, hp⟩ := h
  obtain ⟨r, h1, h2, h3⟩ := take_ok (h := 0) (M := [.lst [.lst (ns.map .int), .int p]]) (ns := ns) (p := p) (m := m) rfl hp hm
  exact ⟨r, _, h1, h2, ⟨ns, p + 1, rfl, by omega⟩, h3⟩
theorem len_le_sum : ∀ {cs : List Int}, (∀ c ∈ cs, 1 ≤ c) → (cs.length : Int) ≤ cs.sum
  | [], _ => Int.le_refl _
  | c :: cs, h => by
    have h1 := h c (List.mem_cons_self ..)
    have h2 := len_le_sum fun d m => h d (List.mem_cons_of_mem _ m)
    rw [List.length_cons, List.sum_cons]
    omega
/-- a drawn cut of n into parts that are at least 1 -/
def Cut (n : Nat) (cs : List Int) : Prop := (∀ c ∈ cs, 1 ≤ c) ∧ cs.sum = n
theorem Cut.len {n : Nat} {cs : List Int} (h : Cut n cs) : cs.length ≤ n := by
  have := len_le_sum h.1
  rw [h.2] at this
  omega
theorem zCall2 {f : Sem1} {zs : ZSl} {env : Ev} {M M1 : Sto} {a b : Sl} (h : zs env M = .ok [a, b] M1) : zCall f 2 0 [0, 1] [] zs sNil env M = f [a, b] M1 := by
  unfold zCall
  rw [h]
  rfl
theorem zCall1 {f : Sem1} {zs : ZSl} {env : Ev} {M M1 : Sto} {a : Sl} (h : zs env M = .ok [a] M1) : zCall f 1 0 [0] [] zs sNil env M = f [a] M1 := by
  unfold zCall
  rw [h]
  rfl
theorem zCall3 {f : Sem1} {zs : ZSl} {env : Ev} {M M1 : Sto} {a b c : Sl} (h : zs env M = .ok [a, b, c] M1) : zCall f 3 0 [0, 1, 2] [] zs sNil env M = f [a, b, c] M1 := by
  unfold zCall
  rw [h]
  rfl
theorem zCallK1 {f : Sem1} {zk : ZSl} {env : Ev} {M M1 : Sto} {a : Sl} (h : zk env M = .ok [a] M1) : zCall f 0 1 [0] [] sNil zk env M = f [a] M1 := by
  unfold zCall
  show ((zk env M).bind _) = _
  rw [h]
  rfl
theorem zCallK2 {f : Sem1} {zk : ZSl} {env : Ev} {M M1 : Sto} {a b : Sl} (h : zk env M = .ok [a, b] M1) : zCall f 0 2 [0, 1] [] sNil zk env M = f [a, b] M1 := by
  unfold zCall
  show ((zk env M).bind _) = _
  rw [h]
  rfl
end Zy
set_option maxHeartbeats 2000000
namespace Zy
open PySem PySem.Spec PyProof.Rows L2
def callR (f : Sem1) (n m : Nat) (is : List Nat) (dd : List D) (as bs : List Sl) (M : Sto) : Res D := if as.length = n ∧ bs.length = m then match perm (as ++ bs ++ dd.map .val) is with
    | some ys => f ys M
    | none => .fail else .fail
@[simp] theorem zCall_z {f : Sem1} {n m : Nat} {is : List Nat} {dd : List D} {zs zk : ZSl} {env : Ev} {M : Sto} : zCall f n m is dd zs zk env M = (zs env M).bind fun as M1 => (zk env M1).bind fun bs M2 => callR f n m is dd as bs M2 := id rfl
@[simp] theorem callR1 {f : Sem1} {a : Sl} {M : Sto} : callR f 1 0 [0] [] [a] [] M = f [a] M := id rfl
@[simp] theorem callR2 {f : Sem1} {a b : Sl} {M : Sto} : callR f 2 0 [0, 1] [] [a, b] [] M = f [a, b] M := id rfl
@[simp] theorem callR3 {f : Sem1} {a b c : Sl} {M : Sto} : callR f 3 0 [0, 1, 2] [] [a, b, c] [] M = f [a, b, c] M := id rfl
@[simp] theorem callRk1 {f : Sem1} {a : Sl} {M : Sto} : callR f 0 1 [0] [] [] [a] M = f [a] M := id rfl
@[simp] theorem callRk2 {f : Sem1} {a b : Sl} {M : Sto} : callR f 0 2 [0, 1] [] [] [a, b] M = f [a, b] M := id rfl
@[simp] theorem sizeLine_big {n : Nat} (h : n ≤ 1000) : n ≤ sizeLine := Nat.le_trans h (by decide)
theorem gIx_get {ds : List D} {n : Int} {M : Sto} (h0 : 0 ≤ n) (h1 : n < ds.length) : ∃ x, x ∈ ds ∧ ds[n.toNat]? = some x ∧ gIx (.lst ds) (.int n) M = .ok x M := by
  have hl : n.toNat < ds.length := by omega
  exact ⟨ds[n.toNat], List.getElem_mem hl, List.getElem?_eq_getElem hl, gIx_lst h0 (List.getElem?_eq_getElem hl)⟩

/-! what repr answers, by size -/
structure Sm (k w : Nat) (p : PyData) : Prop where
  sh : p.showable = true
  hd : p.hasDict = false
  dp : p.depth ≤ k
  lv : p.leavesShort 13 = true
  we : p.weight ≤ w
theorem log_small {k : Nat} (h : k ≤ 1000) : k.log2 < 10 := by
  by_cases hn : k = 0
  · subst hn; decide
  · exact (Nat.log2_lt hn).mpr (Nat.lt_of_le_of_lt h (by decide))
theorem Sm.int {i : Int} (h0 : 0 ≤ i) (h : i ≤ 1000) : Sm 0 10 (.int i) := by
  refine ⟨?_, rfl, Nat.le_refl _, ?_, ?_⟩
  · simp only [PyData.showable, decide_eq_true_eq]
    exact Nat.lt_trans (log_small (by omega)) (by decide)
  · simp only [PyData.leavesShort, decide_eq_true_eq]
    exact PyData.shown_int_le (Nat.lt_of_le_of_lt (show i.natAbs ≤ 1000 by omega) (by decide))
  · simp only [PyData.weight]
    split
    · decide
    · have := log_small (k := i.natAbs) (by omega)
      omega
theorem smAll {k w : Nat} : ∀ {xs : List PyData}, (∀ x ∈ xs, Sm k w x) → PyData.showableAll xs = true ∧ PyData.hasDictAll xs = false ∧ PyData.depthAll xs ≤ k ∧ PyData.leavesShortAll 13 xs = true ∧ PyData.weightAll xs ≤ xs.length * (w + 1)
  | [], _ => ⟨rfl, rfl, Nat.zero_le _, rfl, Nat.zero_le _⟩
  | x :: xs, h => by
    obtain ⟨a1, a2, a3, a4, a5⟩ := smAll fun y m => h y (List.mem_cons_of_mem _ m)
    obtain ⟨b1, b2, b3, b4, b5⟩ := h x (List.mem_cons_self ..)
    refine ⟨?_, ?_, ?_, ?_, ?_⟩
    · simp [PyData.showableAll, a1, b1]
    · simp [PyData.hasDictAll, a2, b2]
    · simp only [PyData.depthAll]; omega
    · simp [PyData.leavesShortAll, a4, b4]
    · simp only [PyData.weightAll, List.length_cons]
      rw [Nat.add_mul]
      omega
theorem Sm.list {k w m : Nat} {xs : List PyData} (h : ∀ x ∈ xs, Sm k w x) (hl : xs.length ≤ m) : Sm (k + 1) (m * (w + 1)) (.list xs) := by
  obtain ⟨a1, a2, a3, a4, a5⟩ := smAll h
  refine ⟨by simpa only [PyData.showable] using a1, by simpa only [PyData.hasDict] using a2, ?_, by simpa only [PyData.leavesShort] using a4, ?_⟩
  · simp only [PyData.depth]; omega
  · simp only [PyData.weight]; exact Nat.le_trans a5 (Nat.mul_le_mul_right _ hl)
theorem Sm.tuple {k w m : Nat} {xs : List PyData} (h : ∀ x ∈ xs, Sm k w x) (hl : xs.length ≤ m) : Sm (k + 1) (m * (w + 1)) (.tuple xs) := by
  obtain ⟨a1, a2, a3, a4, a5⟩ := smAll h
  refine ⟨by simpa only [PyData.showable] using a1, by simpa only [PyData.hasDict] using a2, ?_, by simpa only [PyData.leavesShort] using a4, ?_⟩
  · simp only [PyData.depth]; omega
  · simp only [PyData.weight]; exact Nat.le_trans a5 (Nat.mul_le_mul_right _ hl)
def RD (k w : Nat) (d : D) : Prop := ∃ p, toPy d = some p ∧ Sm k w p
theorem RD.all {k w : Nat} : ∀ {ds : List D}, (∀ d ∈ ds, RD k w d) → ∃ ps, toPys ds = some ps ∧ ps.length = ds.length ∧ ∀ p ∈ ps, Sm k w p
  | [], _ => ⟨[], rfl, rfl, fun _ m => nomatch m⟩
  | d :: ds, h => by
    obtain ⟨ps, e, l, s⟩ := RD.all fun y m => h y (List.mem_cons_of_mem _ m)
    obtain ⟨p, e1, s1⟩ := h d (List.mem_cons_self ..)
    exact ⟨p :: ps, by simp [toPys, e, e1], by simp [l], fun q m => (List.mem_cons.mp m).elim (fun z => z ▸ s1) (s q)⟩
theorem RD.tup {k w m : Nat} {ds : List D} (h : ∀ d ∈ ds, RD k w d) (hl : ds.length ≤ m) : RD (k + 1) (m * (w + 1)) (.tup ds) := by
  obtain ⟨ps, e, l, s⟩ := RD.all h
  exact ⟨.tuple ps, by simp [toPy, e], Sm.tuple s (by omega)⟩
theorem RD.lst {k w m : Nat} {ds : List D} (h : ∀ d ∈ ds, RD k w d) (hl : ds.length ≤ m) : RD (k + 1) (m * (w + 1)) (.lst ds) := by
  obtain ⟨ps, e, l, s⟩ := RD.all h
  exact ⟨.list ps, by simp [toPy, e], Sm.list s (by omega)⟩
theorem RD.int {i : Int} (h0 : 0 ≤ i) (h : i ≤ 1000) : RD 0 10 (.int i) := ⟨.int i, rfl, Sm.int h0 h⟩
def ReprOk (d : D) : Prop := ∃ s, ∀ M, gRepr [d] M = .ok (.str s) M
theorem toPy_deref {d : D} {p : PyData} {M : Sto} (h : toPy d = some p) : deref M d = some d := by
  cases d <;> first | rfl | (cases h; done)
theorem RD.repr {k w : Nat} {d : D} (h : RD k w d) (hk : k ≤ 60) (hw : w ≤ 2 ^ 20) : ReprOk d := by
  obtain ⟨p, e, s⟩ := h
  refine ⟨p.shown, fun M => ?_⟩
  have hr : reprD d = some p.shown := by
    unfold reprD
    rw [e]
    exact if_pos ⟨s.sh, s.hd, Nat.le_trans s.dp hk, PyData.shown_fits (by decide) (by decide) s.lv (Nat.le_trans s.we hw)⟩
  unfold gRepr
  simp only [toPy_deref e, Option.bind_some, hr]
end Zy
set_option maxHeartbeats 2000000
namespace Zy
/-! work with falls: the jumps and the walk -/
def tl (u e c : Int) : Int := if u = 0 then 0 else u + c * ((u - 1) / e)
def Og (w e c : Int) : Int → Int → Int → List Int → Int × Int
  | m, k, l, [] => (m + tl (w - k) e c, l)
  | m, k, l, f :: fs => if m + tl (w - k) e c ≤ f then (m + tl (w - k) e c, l) else Og w e c f (k + (f - m) / (e + c) * e) (l + min e ((f - m) % (e + c))) fs
section
variable {w e c m d l f : Int} {fs : List Int}
theorem tl_small {u : Int} (he : 1 ≤ e) (h1 : 1 ≤ u) (h : u ≤ e) : tl u e c = u := by
  unfold tl
  rw [if_neg (by omega), Int.ediv_eq_zero_of_lt (by omega) (by omega), Int.mul_zero, Int.add_zero]
theorem tl_big {u : Int} (he : 1 ≤ e) (h : e < u) : tl u e c = e + c + tl (u - e) e c := by
  unfold tl
  rw [if_neg (by omega), if_neg (by omega)]
  have : (u - 1) / e = (u - e - 1) / e + 1 := by
    rw [show u - 1 = (u - e - 1) + 1 * e by omega, Int.add_mul_ediv_right _ _ (by omega)]
  rw [this, Int.mul_add]
  omega
theorem tl_pos {u : Int} (he : 1 ≤ e) (hc : 0 ≤ c) (h : 1 ≤ u) : u ≤ tl u e c := by
  unfold tl
  rw [if_neg (by omega)]
  have := Int.mul_nonneg hc (Int.ediv_nonneg (show 0 ≤ u - 1 by omega) (show 0 ≤ e by omega))
  omega
theorem tl_zero : tl 0 e c = 0 := rfl
/-- a full work is told at once -/
theorem Og_done (h : ∀ f ∈ fs, m ≤ f) : Og w e c m w l fs = (m, l) := by
  cases fs with
  | nil => simp [Og, tl_zero]
  | cons f fs =>
    unfold Og
    rw [Int.sub_self, tl_zero, Int.add_zero, if_pos (h f (List.mem_cons_self ..))]
theorem Og_skip (he : 1 ≤ e) (hc : 0 ≤ c) (hd : d ≤ w) (h : ∀ f ∈ fs, m ≤ f) : Og w e c m d l (m :: fs) = Og w e c m d l fs := by
  by_cases hw : d = w
  · subst hw
    rw [Og_done h, Og_done fun f hf => ?_]
    rcases List.mem_cons.mp hf with rfl | hf
    · exact Int.le_refl _
    · exact h f hf
  · have := tl_pos he hc (show 1 ≤ w - d by omega)
    conv => lhs; unfold Og
    rw [if_neg (by omega), Int.sub_self, Int.zero_ediv, Int.zero_mul, Int.add_zero, Int.zero_emod, Int.min_eq_right (by omega), Int.add_zero]
/-- how far one turn of the walk goes -/
def unitsW (w e d : Int) : Int := min e (w - d)
def endW (w e c m d : Int) : Int := if d + unitsW w e d < w then m + unitsW w e d + c else m + unitsW w e d
theorem Og_fall (he : 1 ≤ e) (hc : 0 ≤ c) (hd : d < w) (h1 : m < f) (h2 : f < endW w e c m d) : Og w e c m d l (f :: fs) = Og w e c f d (l + min (unitsW w e d) (f - m)) fs := by
  have hlt : f - m < e + c := by
    unfold endW unitsW at h2
    split at h2 <;> omega
  have hno : ¬ m + tl (w - d) e c ≤ f := by
    unfold endW unitsW at h2
    by_cases hu : w - d ≤ e
    · rw [tl_small he (by omega) hu]
      split at h2 <;> omega
    · rw [tl_big he (by omega)]
      have := tl_pos he hc (show 1 ≤ w - d - e by omega)
      split at h2 <;> omega
  have hm : min e (f - m) = min (unitsW w e d) (f - m) := by
    unfold endW unitsW at h2
    unfold unitsW
    split at h2 <;> omega
  conv => lhs; unfold Og
  rw [if_neg hno, Int.ediv_eq_zero_of_lt (by omega) hlt, Int.emod_eq_of_lt (by omega) hlt, Int.zero_mul, Int.add_zero, hm]
theorem end_tl (he : 1 ≤ e) (hd : d < w) : m + tl (w - d) e c = endW w e c m d + tl (w - (d + unitsW w e d)) e c := by
  unfold endW unitsW
  by_cases hu : w - d ≤ e
  · rw [tl_small he (by omega) hu, Int.min_eq_right hu, show w - (d + (w - d)) = 0 by omega, tl_zero, if_neg (by omega)]
    omega
  · rw [tl_big he (by omega), Int.min_eq_left (by omega), if_pos (by omega), show w - (d + e) = w - d - e by omega]
    omega
theorem Og_step (he : 1 ≤ e) (hc : 0 ≤ c) (hd : d < w) (h : ∀ f ∈ fs, endW w e c m d ≤ f) : Og w e c m d l fs = Og w e c (endW w e c m d) (d + unitsW w e d) l fs := by
  have e1 := end_tl (c := c) (m := m) he hd
  cases fs with
  | nil => simp only [Og, e1]
  | cons f fs =>
    have hf := h f (List.mem_cons_self ..)
    unfold Og
    rw [e1]
    by_cases hq : endW w e c m d + tl (w - (d + unitsW w e d)) e c ≤ f
    · rw [if_pos hq, if_pos hq]
    · rw [if_neg hq, if_neg hq]
      by_cases hu : w - d ≤ e
      · have : unitsW w e d = w - d := Int.min_eq_right hu
        rw [this, show w - (d + (w - d)) = 0 by omega, tl_zero] at hq
        omega
      · have hue : unitsW w e d = e := Int.min_eq_left (by omega)
        have hen : endW w e c m d = m + e + c := by
          unfold endW
          rw [hue, if_pos (by omega)]
        rw [hue, hen]
        have hs : f - m = (f - (m + e + c)) + 1 * (e + c) := by omega
        have hdiv : (f - m) / (e + c) = (f - (m + e + c)) / (e + c) + 1 := by
          rw [hs, Int.add_mul_ediv_right _ _ (by omega)]
        have hmod : (f - m) % (e + c) = (f - (m + e + c)) % (e + c) := by
          rw [hs, Int.add_mul_emod_self_right]
        rw [hdiv, hmod, Int.add_mul]
        congr 1
        omega
theorem units_pos (he : 1 ≤ e) (hd : d < w) : 1 ≤ unitsW w e d ∧ d + unitsW w e d ≤ w := by
  unfold unitsW
  omega
end
end Zy
set_option maxHeartbeats 2000000
namespace Zy
open PySem PySem.Spec PyProof.Rows L2
theorem Og_cons {w e c m k l f : Int} {fs : List Int} : Og w e c m k l (f :: fs) = if m + tl (w - k) e c ≤ f then (m + tl (w - k) e c, l) else Og w e c f (k + (f - m) / (e + c) * e) (l + min e ((f - m) % (e + c))) fs := rfl
theorem sm_of {i : Int} (h0 : 0 ≤ i) (h : i ≤ 2000) : smallI i := ⟨by omega, by omega⟩
theorem lg_of {i : Int} (h0 : 0 ≤ i) (h : i ≤ 2000) : i.natAbs.log2 < 9000 := by
  by_cases hn : i.natAbs = 0
  · rw [hn]; decide
  · exact Nat.lt_trans ((Nat.log2_lt hn (k := 11)).mpr (Nat.lt_of_le_of_lt (show i.natAbs ≤ 2000 by omega) (by decide))) (by decide)
theorem gMin2_int {i j : Int} {M : Sto} : gMin2 [.int i, .int j] M = .ok (.int (min i j)) M := by
  unfold gMin2
  simp only
  congr 2
  split <;> omega
theorem gMul_r {a b : Int} {M : Sto} (h : smallI b) : gMul (.int a) (.int b) M = .ok (.int (a * b)) M := by
  rw [gMul_int]; simp only [h, or_true, if_true]
theorem gMul_l {a b : Int} {M : Sto} (h : smallI a) : gMul (.int a) (.int b) M = .ok (.int (a * b)) M := by
  rw [gMul_int]; simp only [h, true_or, if_true]
theorem gFdiv_ok {a b : Int} {M : Sto} (h : 1 ≤ b) (h2 : b ≤ 2000) : gFdiv (.int a) (.int b) M = .ok (.int (a / b)) M := by
  rw [gFdiv_int, if_pos ⟨by omega, lg_of (by omega) h2⟩]
theorem gMod_ok {a b : Int} {M : Sto} (h : 1 ≤ b) : gMod (.int a) (.int b) M = .ok (.int (a % b)) M := by
  rw [gMod_int, if_pos (by omega)]
def TlOk (f : Sem1) : Prop := ∀ M (u e c : Int), 1 ≤ e → e ≤ 1000 → 0 ≤ c → c ≤ 1000 → f [.val (.int u), .val (.int e), .val (.int c)] M = .ok (.int (tl u e c)) M
def tlY : ZS :=
  (zSeq (zFrz [] (zIfS (zTst (zOp gEq (zCv 0) (zK (.int 0))))
    (zSeq (zFrz [] (zRet (zK (.int 0))))
      zNx)
    zNx))
      (zSeq (zFrz [] (zRet (zOp gAdd (zCv 0) (zOp gMul (zCv 2) (zOp gFdiv (zOp gSub (zCv 0) (zK (.int 1))) (zCv 1))))))
      zNx))
theorem tlOk : TlOk (zFun 3 3 tlY) := fun M u e c h1 h2 h3 h4 => by
  unfold tl
  by_cases hu : u = 0
  · simp [zFun, tlY, hu]
  · simp [zFun, tlY, hu, gFdiv_ok h1 (show e ≤ 2000 by omega), gMul_l (sm_of h3 (show c ≤ 2000 by omega)), -gFdiv_int, -gMul_int]
def outBody (T : Sem1) : ZS :=
    (zSeq (zFrz [] (zIfS (zTst (zOp gLe (zOp gAdd (zCv 4) (zCall T 3 0 [0, 1, 2] [] (sCons (zVl (zOp gSub (zCv 0) (zCv 5))) (sCons (zSv 1) (sCons (zSv 2) sNil))) sNil)) (zCv 7)))
    (zSeq (zFrz [] zBk)
      zNx)
    zNx))
      (zSeq (zFrz [] (zSet 8 (zOp gFdiv (zOp gSub (zCv 7) (zCv 4)) (zOp gAdd (zCv 1) (zCv 2)))))
      (zSeq (zFrz [] (zAugN 5 (fun i j => i + j) (zOp gMul (zCv 8) (zCv 1))))
      (zSeq (zFrz [] (zAugN 6 (fun i j => i + j) (zBf gMin2 (zCons (zCv 1) (zCons (zOp gMod (zOp gSub (zCv 7) (zCv 4)) (zOp gAdd (zCv 1) (zCv 2))) zNil)))))
      (zSeq (zFrz [] (zSet 4 (zVar 7)))
      zNx)))))
def oE (w e c : Int) (d : D) (m k l : Int) (e7 e8 : Sl) : Ev := [.val (.int w), .val (.int e), .val (.int c), .val d, .val (.int m), .val (.int k), .val (.int l), e7, e8]
theorem outBody_ok {T : Sem1} (hT : TlOk T) {w e c m k l f : Int} {d : D} {e8 : Sl} {M : Sto} (h1 : 1 ≤ e) (h2 : e ≤ 1000) (h3 : 0 ≤ c) (h4 : c ≤ 1000) :
    outBody T (oE w e c d m k l (.val (.int f)) e8) M = if m + tl (w - k) e c ≤ f then .bk (oE w e c d m k l (.val (.int f)) e8) M else .nx (oE w e c d f (k + (f - m) / (e + c) * e) (l + min e ((f - m) % (e + c))) (.val (.int f)) (.val (.int ((f - m) / (e + c))))) M := by
  have t := fun M => hT M (w - k) e c h1 h2 h3 h4
  unfold oE
  by_cases hq : m + tl (w - k) e c ≤ f
  · rw [if_pos hq]
    simp [outBody, t, hq]
  · rw [if_neg hq]
    simp [outBody, t, hq, gFdiv_ok (show 1 ≤ e + c by omega) (show e + c ≤ 2000 by omega), gMul_r (sm_of (show 0 ≤ e by omega) (show e ≤ 2000 by omega)), gMod_ok (show 1 ≤ e + c by omega), gMin2_int, -gFdiv_int, -gMul_int, -gMod_int]
def OutOk (f : Sem1) : Prop := ∀ M (w e c : Int) (d : D) (falls : List Int), itemsD d = some (falls.map .int) → 1 ≤ e → e ≤ 1000 → 0 ≤ c → c ≤ 1000 →
  f [.val (.int w), .val (.int e), .val (.int c), .val d] M = .ok (.tup [.int (Og w e c 0 0 0 falls).1, .int (Og w e c 0 0 0 falls).2]) M
theorem outLoop_ok {T : Sem1} (hT : TlOk T) {w e c : Int} {d : D} {falls : List Int} {M : Sto} (hd : itemsD d = some (falls.map .int)) (h1 : 1 ≤ e) (h2 : e ≤ 1000) (h3 : 0 ≤ c) (h4 : c ≤ 1000) :
    ∃ m k l e7 e8, zFor (zSeqI (zBv 3)) (tgN 7) (outBody T) (oE w e c d 0 0 0 .no .no) M = .nx (oE w e c d m k l e7 e8) M ∧ Og w e c 0 0 0 falls = (m + tl (w - k) e c, l) := by
  have hb := @outBody_ok T hT
  generalize outBody T = y at hb
  have hz : zSeqI (zBv 3) (oE w e c d 0 0 0 .no .no) M = .ok (falls.map .int) M := by
    unfold oE
    simp [hd]
  refine zFor_gen (I := fun i env M' => ∃ m k l e7 e8, env = oE w e c d m k l e7 e8 ∧ M' = M ∧ Og w e c 0 0 0 falls = Og w e c m k l (falls.drop i)) (Q := fun o => ∃ m k l e7 e8, o = .nx (oE w e c d m k l e7 e8) M ∧ Og w e c 0 0 0 falls = (m + tl (w - k) e c, l)) hz ⟨0, 0, 0, .no, .no, rfl, rfl, rfl⟩ (fun i x env M' hi hI => ?_) fun env M' hI => ?_
  · obtain ⟨m, k, l, e7, e8, rfl, rfl, ho⟩ := hI
    rw [List.getElem?_map] at hi
    cases q : falls[i]? with
    | none => rw [q] at hi; cases hi
    | some f =>
      rw [q] at hi
      cases hi
      obtain ⟨hl, hf⟩ := List.getElem?_eq_some_iff.mp q
      have hdr : falls.drop i = f :: falls.drop (i + 1) := by rw [List.drop_eq_getElem_cons hl, hf]
      rw [hdr] at ho
      refine ⟨oE w e c d m k l (.val (.int f)) e8, rfl, ?_⟩
      rw [hb h1 h2 h3 h4]
      rw [Og_cons] at ho
      by_cases hq : m + tl (w - k) e c ≤ f
      · rw [if_pos hq] at ho ⊢
        exact ⟨m, k, l, _, _, rfl, ho⟩
      · rw [if_neg hq] at ho ⊢
        exact ⟨_, _, _, _, _, rfl, rfl, ho⟩
  · obtain ⟨m, k, l, e7, e8, rfl, rfl, ho⟩ := hI
    rw [List.length_map, List.drop_length] at ho
    exact ⟨m, k, l, e7, e8, rfl, ho⟩
theorem out_seq {T : Sem1} (hT : TlOk T) {y : ZS} {w e c : Int} {d : D} {m k l : Int} {e7 e8 : Sl} {M : Sto} (h1 : 1 ≤ e) (h2 : e ≤ 1000) (h3 : 0 ≤ c) (h4 : c ≤ 1000) (h : y (oE w e c d 0 0 0 .no .no) M = .nx (oE w e c d m k l e7 e8) M) :
    zFun 4 9 (zSeq (zFrz [] (zSet 4 (zK (.int 0)))) (zSeq (zFrz [] (zSet 5 (zK (.int 0)))) (zSeq (zFrz [] (zSet 6 (zK (.int 0)))) (zSeq (zFrz [] y)
      (zSeq (zFrz [] (zRet (zTup (zCons (zOp gAdd (zCv 4) (zCall T 3 0 [0, 1, 2] [] (sCons (zVl (zOp gSub (zCv 0) (zCv 5))) (sCons (zSv 1) (sCons (zSv 2) sNil))) sNil)) (zCons (zVar 6) zNil)))))
      zNx))))) [.val (.int w), .val (.int e), .val (.int c), .val d] M = .ok (.tup [.int (m + tl (w - k) e c), .int l]) M := by
  have t := fun M => hT M (w - k) e c h1 h2 h3 h4
  have e2 : (2 : Nat) ≤ sizeLine := by decide
  unfold oE at h
  unfold zFun
  simp [h, t, e2]
theorem outOk {T : Sem1} (hT : TlOk T) : OutOk (zFun 4 9 (zSeq (zFrz [] (zSet 4 (zK (.int 0)))) (zSeq (zFrz [] (zSet 5 (zK (.int 0)))) (zSeq (zFrz [] (zSet 6 (zK (.int 0)))) (zSeq (zFrz [] (zFor (zSeqI (zBv 3)) (tgN 7) (outBody T)))
      (zSeq (zFrz [] (zRet (zTup (zCons (zOp gAdd (zCv 4) (zCall T 3 0 [0, 1, 2] [] (sCons (zVl (zOp gSub (zCv 0) (zCv 5))) (sCons (zSv 1) (sCons (zSv 2) sNil))) sNil)) (zCons (zVar 6) zNil)))))
      zNx)))))) := fun M w e c d falls hd h1 h2 h3 h4 => by
  obtain ⟨m, k, l, e7, e8, q, ho⟩ := outLoop_ok hT (M := M) (w := w) hd h1 h2 h3 h4
  rw [out_seq hT h1 h2 h3 h4 q, ho]
end Zy
set_option maxHeartbeats 2000000
namespace Zy
open PySem PySem.Spec PyProof.Rows L2
/-! the walk step by step -/
def rE (w e c : Int) (fl : List Int) (t d l : Int) (s : Nat) (e8 e9 e10 : Sl) : Ev := [.val (.int w), .val (.int e), .val (.int c), .val (.lst (fl.map .int)), .val (.int t), .val (.int d), .val (.int l), .val (.int (s : Nat)), e8, e9, e10]
def skT : ZB := zAnd (zTst (zOp gLt (zCv 7) (zBf gLen (zCons (zCv 3) zNil)))) (zTst (zOp gLe (zOp gIx (zCv 3) (zCv 7)) (zCv 4)))
def skY : ZS := zSeq (zFrz [] (zSet 7 (zOp gAdd (zCv 7) (zK (.int 1))))) zNx
theorem drop_at {fl : List Int} {s : Nat} {f : Int} {r : List Int} (h : fl.drop s = f :: r) : s < fl.length ∧ (∀ M, gIx (.lst (fl.map .int)) (.int (s : Nat)) M = .ok (.int f) M) ∧ fl.drop (s + 1) = r := by
  have hl : s < fl.length := by
    rcases Nat.lt_or_ge s fl.length with z | z
    · exact z
    · rw [List.drop_of_length_le z] at h
      cases h
  have hd := List.drop_eq_getElem_cons hl
  rw [h] at hd
  cases hd
  exact ⟨hl, fun M => gIx_of (c := .lst (fl.map .int)) rfl (by rw [List.getElem?_map, List.getElem?_eq_getElem hl]; rfl) rfl, rfl⟩
theorem drop_nil {fl : List Int} {s : Nat} (h : fl.drop s = []) : fl.length ≤ s := List.drop_eq_nil_iff.mp h
theorem skT_end {w e c t d l : Int} {fl : List Int} {s : Nat} {e8 e9 e10 : Sl} {M : Sto} (h : fl.length ≤ s) : skT (rE w e c fl t d l s e8 e9 e10) M = .ok false M := by
  have h' : ¬ s < fl.length := by omega
  unfold rE skT
  simp [h']
theorem skT_at {w e c t d l f : Int} {fl r : List Int} {s : Nat} {e8 e9 e10 : Sl} {M : Sto} (h : fl.drop s = f :: r) : skT (rE w e c fl t d l s e8 e9 e10) M = .ok (decide (f ≤ t)) M := by
  obtain ⟨h1, h2, _⟩ := drop_at h
  unfold rE skT
  simp [h1, h2]
theorem skip_ok {w e c t d l : Int} {fl r : List Int} {s : Nat} {e8 e9 e10 : Sl} {M : Sto} (hr : ∀ f ∈ r, t < f) (h : fl.drop s = r ∨ fl.drop s = t :: r) (hlen : fl.length < 1000) (hs : s ≤ fl.length) :
    ∃ s', fl.drop s' = r ∧ s' ≤ fl.length ∧ zWh skT skY 100000 (rE w e c fl t d l s e8 e9 e10) M = .nx (rE w e c fl t d l s' e8 e9 e10) M := by
  refine zWh_gen (fun env M' => ∃ s', (fl.drop s' = r ∨ fl.drop s' = t :: r) ∧ s' ≤ fl.length ∧ env = rE w e c fl t d l s' e8 e9 e10 ∧ M' = M) (fun env _ => match env with
    | [_, _, _, _, _, _, _, .val (.int j), _, _, _] => fl.length - j.toNat
    | _ => 0) (fun o => ∃ s', fl.drop s' = r ∧ s' ≤ fl.length ∧ o = .nx (rE w e c fl t d l s' e8 e9 e10) M) (fun env M' hI => ?_) ⟨s, h, hs, rfl, rfl⟩ (by show fl.length - _ < 100000; omega)
  obtain ⟨s', h1, h2, rfl, rfl⟩ := hI
  rcases h1 with h1 | h1
  · cases r with
    | nil =>
      refine ⟨false, M', skT_end (drop_nil h1), ?_⟩
      rw [if_neg (by decide)]
      exact ⟨s', h1, h2, rfl⟩
    | cons f r =>
      have := hr f (List.mem_cons_self ..)
      refine ⟨_, M', skT_at h1, ?_⟩
      rw [if_neg (by simp only [decide_eq_true_eq]; omega)]
      exact ⟨s', h1, h2, rfl⟩
  · obtain ⟨k1, k2, k3⟩ := drop_at h1
    refine ⟨_, M', skT_at h1, ?_⟩
    rw [if_pos (by simp)]
    have b : skY (rE w e c fl t d l s' e8 e9 e10) M' = .nx (rE w e c fl t d l (s' + 1) e8 e9 e10) M' := by
      unfold rE skY
      simp
    rw [b]
    refine ⟨⟨s' + 1, .inl k3, k1, rfl, rfl⟩, ?_⟩
    show fl.length - ((s' + 1 : Nat) : Int).toNat < fl.length - (s' : Int).toNat
    omega
def ruY : ZS :=
      (zSeq (zFrz [] (zSet 9 (zBf gMin2 (zCons (zCv 1) (zCons (zOp gSub (zCv 0) (zCv 5)) zNil)))))
      (zSeq (zFrz [] (zSet 10 (zOp gAdd (zCv 4) (zCv 9))))
      (zSeq (zFrz [] (zIfS (zTst (zOp gLt (zOp gAdd (zCv 5) (zCv 9)) (zCv 0)))
    (zSeq (zFrz [] (zSet 10 (zOp gAdd (zCv 10) (zCv 2))))
      zNx)
    zNx))
      zNx)))
theorem ruY_ok {w e c t d l : Int} {fl : List Int} {s : Nat} {e8 e9 e10 : Sl} {M : Sto} : ruY (rE w e c fl t d l s e8 e9 e10) M = .nx (rE w e c fl t d l s e8 (.val (.int (unitsW w e d))) (.val (.int (endW w e c t d)))) M := by
  unfold rE ruY endW unitsW
  by_cases h : d + min e (w - d) < w <;> simp [h, gMin2_int]
def ruZ : ZS := (zIfS (zAnd (zTst (zOp gLt (zCv 7) (zBf gLen (zCons (zCv 3) zNil)))) (zTst (zOp gLt (zOp gIx (zCv 3) (zCv 7)) (zCv 10))))
    (zSeq (zFrz [] (zSet 6 (zOp gAdd (zCv 6) (zBf gMin2 (zCons (zCv 9) (zCons (zOp gSub (zOp gIx (zCv 3) (zCv 7)) (zCv 4)) zNil))))))
      (zSeq (zFrz [] (zSet 4 (zOp gIx (zCv 3) (zCv 7))))
      zNx))
    (zSeq (zFrz [] (zSet 4 (zVar 10)))
      (zSeq (zFrz [] (zSet 5 (zOp gAdd (zCv 5) (zCv 9))))
      zNx)))
theorem ruZ_end {w e c t d l u n : Int} {fl : List Int} {s : Nat} {e8 : Sl} {M : Sto} (h : fl.length ≤ s) : ruZ (rE w e c fl t d l s e8 (.val (.int u)) (.val (.int n))) M = .nx (rE w e c fl n (d + u) l s e8 (.val (.int u)) (.val (.int n))) M := by
  have h' : ¬ s < fl.length := by omega
  unfold rE ruZ
  simp [h']
theorem ruZ_at {w e c t d l u n f : Int} {fl r : List Int} {s : Nat} {e8 : Sl} {M : Sto} (h : fl.drop s = f :: r) : ruZ (rE w e c fl t d l s e8 (.val (.int u)) (.val (.int n))) M = if f < n then .nx (rE w e c fl f d (l + min u (f - t)) s e8 (.val (.int u)) (.val (.int n))) M else .nx (rE w e c fl n (d + u) l s e8 (.val (.int u)) (.val (.int n))) M := by
  obtain ⟨h1, h2, _⟩ := drop_at h
  unfold rE ruZ
  by_cases hf : f < n <;> simp [h1, h2, hf, gMin2_int]
def ruBody (y : ZS) : ZS :=
    (zSeq (zFrz [] (zIfS (zTst (zOp gGe (zCv 5) (zCv 0)))
    (zSeq (zFrz [] zBk)
      zNx)
    zNx)) y)
theorem ruBody_z {w e c t d l : Int} {fl : List Int} {s : Nat} {e8 e9 e10 : Sl} {M : Sto} {y : ZS} : ruBody y (rE w e c fl t d l s e8 e9 e10) M = if w ≤ d then .bk (rE w e c fl t d l s e8 e9 e10) M else y (rE w e c fl t d l s e8 e9 e10) M := by
  unfold rE ruBody
  by_cases h : w ≤ d <;> simp [h]
/-- what holds between the turns: i turns are over -/
structure Wk (w e c F : Int) (fl : List Int) (i : Nat) (t d l : Int) (s : Nat) (r : List Int) : Prop where
  d0 : 0 ≤ d
  dw : d ≤ w
  og : Og w e c 0 0 0 fl = Og w e c t d l r
  gt : ∀ f ∈ r, t < f
  asc : r.Pairwise (· < ·)
  at' : fl.drop s = r ∨ fl.drop s = t :: r
  sl : s ≤ fl.length
  cnt : (i : Int) + r.length ≤ d + fl.length
  rl : r.length ≤ fl.length
  t0 : 0 ≤ t
  tb : t ≤ F + d + c * d
  fb : ∀ f ∈ r, f ≤ F
  l0 : 0 ≤ l
  lb : l + e * r.length ≤ e * fl.length
theorem step_ok {w e c F : Int} {fl r : List Int} {i : Nat} {t d l : Int} {s s' : Nat} {e8 : Sl} {M : Sto} (he : 1 ≤ e) (hc : 0 ≤ c) (k : Wk w e c F fl i t d l s r) (hd : d < w) (hs : fl.drop s' = r) (hsl : s' ≤ fl.length) :
    ∃ t' d' l' r', Wk w e c F fl (i + 1) t' d' l' s' r' ∧ ∃ a b, ruZ (rE w e c fl t d l s' e8 (.val (.int (unitsW w e d))) (.val (.int (endW w e c t d)))) M = .nx (rE w e c fl t' d' l' s' e8 a b) M := by
  obtain ⟨u1, u2⟩ := units_pos he hd
  have hend : t + unitsW w e d ≤ endW w e c t d ∧ endW w e c t d ≤ t + unitsW w e d + c := by
    unfold endW
    split <;> omega
  have htb : endW w e c t d ≤ F + (d + unitsW w e d) + c * (d + unitsW w e d) := by
    have h1 := k.tb
    have h2 : c * 1 ≤ c * unitsW w e d := Int.mul_le_mul_of_nonneg_left u1 hc
    rw [Int.mul_add]
    omega
  cases r with
  | nil =>
    refine ⟨_, _, _, [], ?_, _, _, ruZ_end (drop_nil hs)⟩
    have ho := Og_step (l := l) (m := t) (fs := []) he hc hd (fun f m => nomatch m)
    have := k.cnt
    have := k.t0
    refine ⟨by have := k.d0; omega, u2, k.og.trans ho, (fun f m => nomatch m), .nil, .inl hs, hsl, ?_, Nat.zero_le _, by omega, htb, (fun f m => nomatch m), k.l0, k.lb⟩
    simp only [List.length_nil] at *
    omega
  | cons f r =>
    have hf := k.gt f (List.mem_cons_self ..)
    obtain ⟨hp, hp2⟩ := List.pairwise_cons.mp k.asc
    have hlen : ((f :: r).length : Int) = r.length + 1 := by simp
    have hcnt := k.cnt
    have hrl := k.rl
    rw [List.length_cons] at hrl
    have hlb := k.lb
    rw [hlen, Int.mul_add, Int.mul_one] at hlb
    by_cases hq : f < endW w e c t d
    · refine ⟨f, d, l + min (unitsW w e d) (f - t), r, ?_, .val (.int (unitsW w e d)), .val (.int (endW w e c t d)), by rw [ruZ_at hs, if_pos hq]⟩
      have ho := Og_fall (l := l) (fs := r) he hc hd hf hq
      have h0 := k.t0
      have hu : unitsW w e d ≤ e := Int.min_le_left ..
      have h1 := Int.mul_nonneg hc k.d0
      have h2 := k.fb f (List.mem_cons_self ..)
      have h3 := k.d0
      have h4 := k.l0
      refine ⟨k.d0, k.dw, k.og.trans ho, hp, hp2, .inr hs, hsl, by omega, by omega, by omega, by omega, fun x m => k.fb x (List.mem_cons_of_mem _ m), by omega, by omega⟩
    · have ho := Og_step (l := l) (m := t) (fs := f :: r) he hc hd fun x m => by
        rcases List.mem_cons.mp m with rfl | m
        · omega
        · have := hp x m; omega
      have h0 := k.t0
      have h3 := k.d0
      have hr : ruZ (rE w e c fl t d l s' e8 (.val (.int (unitsW w e d))) (.val (.int (endW w e c t d)))) M = .nx (rE w e c fl (endW w e c t d) (d + unitsW w e d) l s' e8 (.val (.int (unitsW w e d))) (.val (.int (endW w e c t d)))) M := by
        rw [ruZ_at hs, if_neg hq]
      by_cases hz : f = endW w e c t d
      · refine ⟨endW w e c t d, d + unitsW w e d, l, r, ?_, _, _, hr⟩
        have hsk : Og w e c (endW w e c t d) (d + unitsW w e d) l (f :: r) = Og w e c (endW w e c t d) (d + unitsW w e d) l r := by
          rw [hz]
          exact Og_skip he hc u2 fun x m => by have := hp x m; omega
        refine ⟨by omega, u2, (k.og.trans ho).trans hsk, fun x m => by have := hp x m; omega, hp2, .inr (by rw [← hz]; exact hs), hsl, by omega, by omega, by omega, htb, fun x m => k.fb x (List.mem_cons_of_mem _ m), k.l0, by omega⟩
      · refine ⟨endW w e c t d, d + unitsW w e d, l, f :: r, ?_, _, _, hr⟩
        have hlt : endW w e c t d < f := by omega
        refine ⟨by omega, u2, k.og.trans ho, fun x m => ?_, k.asc, .inl hs, hsl, by omega, k.rl, by omega, htb, k.fb, k.l0, k.lb⟩
        rcases List.mem_cons.mp m with rfl | m
        · exact hlt
        · have := hp x m; omega
end Zy
set_option maxHeartbeats 2000000
namespace Zy
open PySem PySem.Spec PyProof.Rows L2
def ruTail : ZS := fun env M => match ruY env M with
  | .nx env M => match zWh skT skY 100000 env M with
    | .nx env M => ruZ env M
    | o => o
  | o => o
/-- falls: ascending, above 0, bounded -/
structure Fl (F : Int) (fl : List Int) : Prop where
  gt : ∀ f ∈ fl, 0 < f
  asc : fl.Pairwise (· < ·)
  le : ∀ f ∈ fl, f ≤ F
  len : fl.length ≤ 100
  F0 : 0 ≤ F
theorem ruTail_ok {w e c F : Int} {fl r : List Int} {i : Nat} {t d l : Int} {s : Nat} {e8 e9 e10 : Sl} {M : Sto} (he : 1 ≤ e) (hc : 0 ≤ c) (hF : Fl F fl) (k : Wk w e c F fl i t d l s r) (hd : d < w) :
    ∃ t' d' l' s' r', Wk w e c F fl (i + 1) t' d' l' s' r' ∧ ∃ a b, ruTail (rE w e c fl t d l s e8 e9 e10) M = .nx (rE w e c fl t' d' l' s' e8 a b) M := by
  have hlen : fl.length < 1000 := Nat.lt_of_le_of_lt hF.len (by decide)
  obtain ⟨s', h1, h2, h3⟩ := skip_ok (w := w) (e := e) (c := c) (d := d) (l := l) (e8 := e8) (e9 := .val (.int (unitsW w e d))) (e10 := .val (.int (endW w e c t d))) (M := M) k.gt k.at' hlen k.sl
  obtain ⟨t', d', l', r', k', a, b, h4⟩ := step_ok (e8 := e8) (M := M) he hc k hd h1 h2
  exact ⟨t', d', l', s', r', k', a, b, by simp only [ruTail, ruY_ok, h3, h4]⟩
theorem runLoop_ok {w e c F : Int} {fl : List Int} {M : Sto} (hw : 0 ≤ w) (hw2 : w ≤ 1000) (he : 1 ≤ e) (hc : 0 ≤ c) (hF : Fl F fl) {y : ZS} (hy : ∀ env M, y env M = ruTail env M) :
    ∃ t l s e8 e9 e10, (0 ≤ t ∧ t ≤ F + w + c * w ∧ 0 ≤ l ∧ l ≤ e * fl.length) ∧ Og w e c 0 0 0 fl = (t, l) ∧
      zFor (zRng1 (zCons (zOp gAdd (zOp gAdd (zCv 0) (zBf gLen (zCons (zCv 3) zNil))) (zK (.int 1))) zNil)) (tgN 8) (ruBody y) (rE w e c fl 0 0 0 0 .no .no .no) M = .nx (rE w e c fl t w l s e8 e9 e10) M := by
  have hl := hF.len
  have hz : zRng1 (zCons (zOp gAdd (zOp gAdd (zCv 0) (zBf gLen (zCons (zCv 3) zNil))) (zK (.int 1))) zNil) (rE w e c fl 0 0 0 0 .no .no .no) M = .ok (stpD 0 1 (w + fl.length + 1).toNat) M := by
    have hn : w + (fl.length : Int) + 1 = (((w + fl.length + 1).toNat : Nat) : Int) := by omega
    have g := rngR_nat (M := M) (w + fl.length + 1).toNat (by omega)
    rw [← hn] at g
    unfold rE
    simp [g]
  have h0 : Wk w e c F fl 0 0 0 0 0 fl := by
    have := hF.F0
    refine ⟨Int.le_refl _, hw, rfl, hF.gt, hF.asc, .inl rfl, Nat.zero_le _, by omega, Nat.le_refl _, Int.le_refl _, by rw [Int.mul_zero]; omega, hF.le, Int.le_refl _, by omega⟩
  have fin : ∀ {i : Nat} {t l : Int} {s : Nat} {r : List Int}, Wk w e c F fl i t w l s r → (0 ≤ t ∧ t ≤ F + w + c * w ∧ 0 ≤ l ∧ l ≤ e * fl.length) ∧ Og w e c 0 0 0 fl = (t, l) := fun {i t l s r} k => by
    have hnn := Int.mul_nonneg (show 0 ≤ e by omega) (show (0 : Int) ≤ r.length by omega)
    have := k.lb
    exact ⟨⟨k.t0, k.tb, k.l0, by omega⟩, k.og.trans (Og_done fun f m => Int.le_of_lt (k.gt f m))⟩
  refine zFor_gen (I := fun i env M' => ∃ t d l s r e8 e9 e10, env = rE w e c fl t d l s e8 e9 e10 ∧ M' = M ∧ Wk w e c F fl i t d l s r)
    (Q := fun o => ∃ t l s e8 e9 e10, (0 ≤ t ∧ t ≤ F + w + c * w ∧ 0 ≤ l ∧ l ≤ e * fl.length) ∧ Og w e c 0 0 0 fl = (t, l) ∧ o = .nx (rE w e c fl t w l s e8 e9 e10) M) hz ⟨0, 0, 0, 0, fl, .no, .no, .no, rfl, rfl, h0⟩ (fun i x env M' hi hI => ?_) fun env M' hI => ?_
  · obtain ⟨t, d, l, s, r, e8, e9, e10, rfl, rfl, k⟩ := hI
    refine ⟨rE w e c fl t d l s (.val x) e9 e10, rfl, ?_⟩
    rw [ruBody_z]
    by_cases hd : w ≤ d
    · rw [if_pos hd]
      have : d = w := by have := k.dw; omega
      subst this
      obtain ⟨f1, f2⟩ := fin k
      exact ⟨t, l, s, _, _, _, f1, f2, rfl⟩
    · rw [if_neg hd, hy]
      obtain ⟨t', d', l', s', r', k', a, b, h4⟩ := ruTail_ok (e8 := .val x) (e9 := e9) (e10 := e10) (M := M') he hc hF k (by omega)
      rw [h4]
      exact ⟨t', d', l', s', r', _, _, _, rfl, rfl, k'⟩
  · obtain ⟨t, d, l, s, r, e8, e9, e10, rfl, rfl, k⟩ := hI
    have h1 := k.cnt
    have h2 := k.dw
    rw [stpD_len] at h1
    omega
def RunsOk (f : Sem1) : Prop := ∀ M (w e c F : Int) (fl : List Int), 0 ≤ w → w ≤ 1000 → 1 ≤ e → 0 ≤ c → Fl F fl → ∃ t l, (0 ≤ t ∧ t ≤ F + w + c * w ∧ 0 ≤ l ∧ l ≤ e * fl.length) ∧ Og w e c 0 0 0 fl = (t, l) ∧
  f [.val (.int w), .val (.int e), .val (.int c), .val (.lst (fl.map .int))] M = .ok (.lst [.int t, .int l]) M
theorem run_seq {y : ZS} {w e c t l : Int} {fl : List Int} {s : Nat} {e8 e9 e10 : Sl} {M : Sto} (h : y (rE w e c fl 0 0 0 0 .no .no .no) M = .nx (rE w e c fl t w l s e8 e9 e10) M) :
    zFun 4 11 (zSeq (zFrz [] (zSet 4 (zK (.int 0)))) (zSeq (zFrz [] (zSet 5 (zK (.int 0)))) (zSeq (zFrz [] (zSet 6 (zK (.int 0)))) (zSeq (zFrz [] (zSet 7 (zK (.int 0)))) (zSeq (zFrz [] y)
      (zSeq (zFrz [] (zRet (zLst (zCons (zVar 4) (zCons (zVar 6) zNil))))) zNx)))))) [.val (.int w), .val (.int e), .val (.int c), .val (.lst (fl.map .int))] M = .ok (.lst [.int t, .int l]) M := by
  have e2 : (2 : Nat) ≤ sizeLine := by decide
  unfold rE at h
  unfold zFun
  have h' : y [.val (.int w), .val (.int e), .val (.int c), .val (.lst (fl.map .int)), .val (.int 0), .val (.int 0), .val (.int 0), .val (.int 0), .no, .no, .no] M = _ := h
  simp [h', e2]
theorem seq5 {a b c' W Z : ZS} {env : Ev} {M : Sto} : zSeq a (zSeq b (zSeq c' (zSeq W (zSeq Z zNx)))) env M = (match zSeq a (zSeq b (zSeq c' zNx)) env M with
    | .nx env M => (match W env M with
      | .nx env M => Z env M
      | o => o)
    | o => o) := by
  unfold zSeq zNx
  cases a env M <;> simp only
  rename_i e1 m1
  cases b e1 m1 <;> simp only
  rename_i e2 m2
  cases c' e2 m2 <;> simp only
  rename_i e3 m3
  cases W e3 m3 <;> simp only
  rename_i e4 m4
  cases Z e4 m4 <;> rfl
def ruRest : ZS :=
      (zSeq (zFrz [] (zSet 9 (zBf gMin2 (zCons (zCv 1) (zCons (zOp gSub (zCv 0) (zCv 5)) zNil)))))
      (zSeq (zFrz [] (zSet 10 (zOp gAdd (zCv 4) (zCv 9))))
      (zSeq (zFrz [] (zIfS (zTst (zOp gLt (zOp gAdd (zCv 5) (zCv 9)) (zCv 0)))
    (zSeq (zFrz [] (zSet 10 (zOp gAdd (zCv 10) (zCv 2))))
      zNx)
    zNx))
      (zSeq (zFrz [] (zWh skT skY 100000))
      (zSeq (zFrz [] ruZ)
      zNx)))))
theorem ruRest_z (env : Ev) (M : Sto) : ruRest env M = ruTail env M := seq5
theorem runsOk : RunsOk (zFun 4 11 (zSeq (zFrz [] (zSet 4 (zK (.int 0)))) (zSeq (zFrz [] (zSet 5 (zK (.int 0)))) (zSeq (zFrz [] (zSet 6 (zK (.int 0)))) (zSeq (zFrz [] (zSet 7 (zK (.int 0)))) (zSeq (zFrz [] (zFor (zRng1 (zCons (zOp gAdd (zOp gAdd (zCv 0) (zBf gLen (zCons (zCv 3) zNil))) (zK (.int 1))) zNil)) (tgN 8) (ruBody ruRest)))
      (zSeq (zFrz [] (zRet (zLst (zCons (zVar 4) (zCons (zVar 6) zNil))))) zNx))))))) := fun M w e c F fl h1 h2 h3 h4 h5 => by
  obtain ⟨t, l, s, e8, e9, e10, b, o, q⟩ := runLoop_ok (M := M) h1 h2 h3 h4 h5 (y := ruRest) ruRest_z
  exact ⟨t, l, b, o, run_seq q⟩
end Zy
set_option maxHeartbeats 2000000
namespace Zy
open PySem PySem.Spec PyProof.Rows L2
theorem RD.int2 {i : Int} (h0 : 0 ≤ i) (h : i ≤ 1000000) : RD 0 20 (.int i) := by
  have lg : i.natAbs.log2 < 20 := by
    by_cases hn : i.natAbs = 0
    · rw [hn]; decide
    · exact (Nat.log2_lt hn).mpr (Nat.lt_of_le_of_lt (show i.natAbs ≤ 1000000 by omega) (by decide))
  refine ⟨.int i, rfl, ?_, rfl, Nat.le_refl _, ?_, ?_⟩
  · simp only [PyData.showable, decide_eq_true_eq]
    exact Nat.lt_trans lg (by decide)
  · simp only [PyData.leavesShort, decide_eq_true_eq]
    exact PyData.shown_int_le (Nat.lt_of_le_of_lt (show i.natAbs ≤ 1000000 by omega) (by decide))
  · simp only [PyData.weight]
    split
    · decide
    · omega
theorem gNe_int {a b : Int} {M : Sto} : gNe (.int a) (.int b) M = .ok (.bl (!decide (a = b))) M := by
  show (match eqD2 (.int a) (.int b) with
    | some b => Res.ok (D.bl (if true then !b else b)) M
    | none => .fail) = _
  have : eqD2 (.int a) (.int b) = some (decide (a = b)) := by
    show (if SeqAt.shaped (.int a) = true ∧ SeqAt.shaped (.int b) = true then some (PyData.eqv (.int a) (.int b)) else none) = _
    rw [if_pos ⟨rfl, rfl⟩]
    simp [PyData.eqv, Bool.beq_eq_decide_eq]
  rw [this]; rfl
theorem toPys_ints : ∀ ns : List Int, toPys (ns.map .int) = some (ns.map .int)
  | [] => rfl
  | n :: ns => by simp [toPys, toPy, toPys_ints ns]
theorem lay_ints : ∀ ns : List Int, PyData.canLayAll0 (ns.map .int) = true ∧ PyData.depthAll (ns.map .int) = 0 ∧ PyData.eqvAll (ns.map .int) (ns.map .int) = true
  | [] => ⟨rfl, rfl, by simp [PyData.eqvAll]⟩
  | n :: ns => by
    obtain ⟨h1, h2, h3⟩ := lay_ints ns
    refine ⟨?_, ?_, ?_⟩
    · simp [PyData.canLayAll0, PyData.canLay0, h1]
    · simp [PyData.depthAll, PyData.depth, h2]
    · simp [PyData.eqvAll, PyData.eqv, h3]
theorem gNe_ints {ns : List Int} {M : Sto} : gNe (.lst (ns.map .int)) (.lst (ns.map .int)) M = .ok (.bl false) M := by
  obtain ⟨h1, h2, h3⟩ := lay_ints ns
  have hs : SeqAt.shaped (.list (ns.map .int)) = true := by
    simp [SeqAt.shaped, PyData.canLay0, PyData.depth, h1, h2]
  have he : eqD (.lst (ns.map .int)) (.lst (ns.map .int)) = some true := by
    unfold eqD
    simp [toPy, toPys_ints, hs, PyData.eqv, h3]
  show (match eqD2 (.lst (ns.map .int)) (.lst (ns.map .int)) with
    | some b => Res.ok (D.bl (if true then !b else b)) M
    | none => .fail) = _
  have : eqD2 (.lst (ns.map .int)) (.lst (ns.map .int)) = some true := he
  rw [this]; rfl
theorem gMax2_int {i j : Int} {M : Sto} : gMax2 [.int i, .int j] M = .ok (.int (max i j)) M := by
  unfold gMax2
  simp only
  congr 2
  split <;> omega
def TwOk (f : Sem1) : Prop := ∀ M (w e c : Int) (d : D) (falls : List Int), itemsD d = some (falls.map .int) → 1 ≤ e → e ≤ 1000 → 0 ≤ c → c ≤ 1000 → f [.val (.int w), .val (.int e), .val (.int c), .val d] M = .ok (.int (Og w e c 0 0 0 falls).1) M
def UaOk (f : Sem1) : Prop := ∀ M (w e c : Int) (d : D) (falls : List Int), itemsD d = some (falls.map .int) → 1 ≤ e → e ≤ 1000 → 0 ≤ c → c ≤ 1000 → f [.val (.int w), .val (.int e), .val (.int c), .val d] M = .ok (.int (Og w e c 0 0 0 falls).2) M
@[simp] theorem callR4 {f : Sem1} {a b c d : Sl} {M : Sto} : callR f 4 0 [0, 1, 2, 3] [] [a, b, c, d] [] M = f [a, b, c, d] M := id rfl
@[simp] theorem callRk4 {f : Sem1} {a b c d : Sl} {M : Sto} : callR f 0 4 [0, 1, 2, 3] [] [] [a, b, c, d] M = f [a, b, c, d] M := id rfl
@[simp] theorem callRk3 {f : Sem1} {a b c : Sl} {M : Sto} : callR f 0 3 [0, 1, 2] [] [] [a, b, c] M = f [a, b, c] M := id rfl
def pickY (O : Sem1) (i : Int) : ZS := (zSeq (zFrz [] (zRet (zOp gIx (zCall O 4 0 [0, 1, 2, 3] [] (sCons (zSv 0) (sCons (zSv 1) (sCons (zSv 2) (sCons (zSv 3) sNil)))) sNil) (zK (.int i))))) zNx)
theorem twOk {O : Sem1} (hO : OutOk O) : TwOk (zFun 4 4 (pickY O 0)) := fun M w e c d falls hd h1 h2 h3 h4 => by
  have o := hO M w e c d falls hd h1 h2 h3 h4
  have g : gIx (.tup [.int (Og w e c 0 0 0 falls).1, .int (Og w e c 0 0 0 falls).2]) (.int 0) M = .ok (.int (Og w e c 0 0 0 falls).1) M := gIx_tup (by decide) rfl
  simp [zFun, pickY, o, g]
theorem uaOk {O : Sem1} (hO : OutOk O) : UaOk (zFun 4 4 (pickY O 1)) := fun M w e c d falls hd h1 h2 h3 h4 => by
  have o := hO M w e c d falls hd h1 h2 h3 h4
  have g : gIx (.tup [.int (Og w e c 0 0 0 falls).1, .int (Og w e c 0 0 0 falls).2]) (.int 1) M = .ok (.int (Og w e c 0 0 0 falls).2) M := gIx_tup (by decide) rfl
  simp [zFun, pickY, o, g]
def mI (ts : List Int) : Nat := (ts.findIdx? (· == (ts.min?).getD 0)).getD 0
theorem mI_ok {ts : List Int} (h : ts ≠ []) (M : Sto) : gMin [.lst (ts.map .int)] M = .ok (.int ((ts.min?).getD 0)) M ∧ gIdx (.lst (ts.map .int)) (.int ((ts.min?).getD 0)) M = .ok (.int (mI ts)) M ∧ mI ts < ts.length := by
  obtain ⟨m, hm⟩ : ∃ m, ts.min? = some m := by
    cases q : ts.min? with
    | none => exact absurd (List.min?_eq_none_iff.mp q) h
    | some m => exact ⟨m, rfl⟩
  have hmem : m ∈ ts := List.min?_mem hm
  obtain ⟨j, hj⟩ : ∃ j, ts.findIdx? (· == m) = some j := by
    cases q : ts.findIdx? (· == m) with
    | none =>
      have := List.findIdx?_eq_none_iff.mp q m hmem
      simp at this
    | some j => exact ⟨j, rfl⟩
  have hlt := (List.findIdx?_eq_some_iff_getElem.mp hj).1
  refine ⟨?_, ?_, ?_⟩
  · simp [gMx, deref, lintsD, intsD_ints, hm]
  · simp [gIdx, deref, intsD_ints, hm, hj, mI]
  · simp [mI, hm, hj, hlt]
@[simp] theorem zIdx_z {z y : ZX} {env : Ev} {M : Sto} : zIdx z y env M = (z env M).bind fun d M1 => match deref M1 d with
  | some (.lst _) => (y env M1).bind fun e M2 => gIdx d e M2
  | _ => .fail := id rfl
def rngR2 (ds : List D) (M : Sto) : Res (List D) := match ds with
  | [.int i, .int j] => if sm62 i && sm62 j then .ok (stpD i 1 (j - i).toNat) M else .fail
  | _ => .fail
@[simp] theorem zRng2_z {l : ZL} {env : Ev} {M : Sto} : zRng2 l env M = (l env M).bind rngR2 := id rfl
theorem rngR2_ok {a b : Int} {M : Sto} (h0 : 0 ≤ a) (h1 : a ≤ 1000000) (h2 : 0 ≤ b) (h3 : b ≤ 1000000) : rngR2 [.int a, .int b] M = .ok (stpD a 1 (b - a).toNat) M := by
  have h4 : (1000000 : Int) < 2 ^ 62 := by decide
  have h5 : (-(2 ^ 62) : Int) ≤ 0 := by decide
  have s : ∀ x : Int, 0 ≤ x → x ≤ 1000000 → sm62 x = true := fun x k1 k2 => by
    simp only [sm62, Bool.and_eq_true, decide_eq_true_eq]
    exact ⟨Int.le_trans h5 k1, Int.lt_of_le_of_lt k2 h4⟩
  unfold rngR2
  simp only [s a h0 h1, s b h2 h3, Bool.and_self, if_true]
/-- the times of every distance -/
def tims (w c : Int) (falls : List Int) : List Int := (List.range w.toNat).map fun i => (Og w (1 + (i : Nat) * 1) c 0 0 0 falls).1
theorem tims_map {w c : Int} {falls : List Int} (g : D → D) (hg : ∀ i : Nat, i < w.toNat → g (.int (1 + (i : Nat) * 1)) = .int (Og w (1 + (i : Nat) * 1) c 0 0 0 falls).1) : (stpD 1 1 w.toNat).map g = (tims w c falls).map .int := by
  unfold stpD tims
  rw [List.map_map, List.map_map]
  refine List.map_congr_left fun i hi => ?_
  exact hg i (List.mem_range.mp hi)
theorem tims_ne {w c : Int} {falls : List Int} (h : 1 ≤ w) : tims w c falls ≠ [] := by
  intro z
  have : (tims w c falls).length = 0 := by rw [z]; rfl
  rw [tims, List.length_map, List.length_range] at this
  omega
theorem tims_len {w c : Int} {falls : List Int} : (tims w c falls).length = w.toNat := by rw [tims, List.length_map, List.length_range]
def timD (w c : Int) (falls : List Int) : D → D
  | .int e => .int (Og w e c 0 0 0 falls).1
  | d => d
def LeOk (f : Sem1) : Prop := ∀ M (w c : Int) (d : D) (falls : List Int), itemsD d = some (falls.map .int) → 1 ≤ w → w ≤ 900 → 0 ≤ c → c ≤ 1000 → f [.val (.int w), .val (.int c), .val d] M = .ok (.int (mI (tims w c falls) + 1)) M
def leZ (T : Sem1) : ZX := (zLc (zRng2 (zCons (zK (.int 1)) (zCons (zOp gAdd (zCv 0) (zK (.int 1))) zNil))) (tgN 4) (fun _ M => .ok true M) (zCall T 4 0 [0, 1, 2, 3] [] (sCons (zSv 0) (sCons (zSv 4) (sCons (zSv 1) (sCons (zSv 2) sNil)))) sNil) [4])
theorem leZ_ok {T : Sem1} (hT : TwOk T) {w c : Int} {d : D} {falls : List Int} {M : Sto} (hd : itemsD d = some (falls.map .int)) (h1 : 1 ≤ w) (h2 : w ≤ 900) (h3 : 0 ≤ c) (h4 : c ≤ 1000) :
    leZ T [.val (.int w), .val (.int c), .val d, .no, .no] M = .ok (.lst ((tims w c falls).map .int)) M := by
  have hz : zRng2 (zCons (zK (.int 1)) (zCons (zOp gAdd (zCv 0) (zK (.int 1))) zNil)) [.val (.int w), .val (.int c), .val d, .no, .no] M = .ok (stpD 1 1 w.toNat) M := by
    have g := rngR2_ok (M := M) (a := 1) (b := w + 1) (by decide) (by decide) (by omega) (by omega)
    rw [show w + 1 - 1 = w by omega] at g
    simp [g]
  have m := zLc_map (gz := tgN 4) (ze := zCall T 4 0 [0, 1, 2, 3] [] (sCons (zSv 0) (sCons (zSv 4) (sCons (zSv 1) (sCons (zSv 2) sNil)))) sNil) (vs := [4]) (timD w c falls) hz rfl (by rw [stpD_len]; exact Nat.le_trans (show w.toNat ≤ 1000 by omega) (by decide)) fun x hx => by
    obtain ⟨i, hi⟩ := List.getElem?_of_mem hx
    obtain ⟨rfl, hlt⟩ := stpD_get hi
    refine ⟨_, rfl, ?_⟩
    have t := hT M w (1 + (i : Nat) * 1) c d falls hd (by omega) (by omega) h3 h4
    simp only [wipeE, List.set_cons_succ, List.set_cons_zero, zCall_z, sCons_z, sNil_z, zSv_z, List.getElem?_cons_succ, List.getElem?_cons_zero, Res.bind_ok, callR4, t, timD]
  rw [tims_map (timD w c falls) fun i _ => rfl] at m
  exact m
theorem le_seq {z : ZX} {w c : Int} {d : D} {ts : List Int} {M : Sto} (hz : z [.val (.int w), .val (.int c), .val d, .no, .no] M = .ok (.lst (ts.map .int)) M) (hne : ts ≠ []) :
    zFun 3 5 (zSeq (zFrz [] (zSet 3 z)) (zSeq (zFrz [] (zRet (zOp gAdd (zIdx (zCv 3) (zBf gMin (zCons (zCv 3) zNil))) (zK (.int 1))))) zNx)) [.val (.int w), .val (.int c), .val d] M = .ok (.int (mI ts + 1)) M := by
  obtain ⟨m1, m2, _⟩ := mI_ok hne M
  unfold zFun
  simp [hz, deref, m1, m2]
theorem leOk {T : Sem1} (hT : TwOk T) : LeOk (zFun 3 5 (zSeq (zFrz [] (zSet 3 (leZ T))) (zSeq (zFrz [] (zRet (zOp gAdd (zIdx (zCv 3) (zBf gMin (zCons (zCv 3) zNil))) (zK (.int 1))))) zNx))) := fun M w c d falls hd h1 h2 h3 h4 =>
  le_seq (leZ_ok hT hd h1 h2 h3 h4) (tims_ne h1)
end Zy
set_option maxHeartbeats 2000000
namespace Zy
open PySem PySem.Spec PyProof.Rows L2
/-! drawn falls -/
theorem pick_int {ds : List D} {n lo hi : Int} {M : Sto} (h0 : 0 ≤ n) (h1 : n < ds.length) (h : ∀ x ∈ ds, ∃ i, x = .int i ∧ lo ≤ i ∧ i ≤ hi) : ∃ i, lo ≤ i ∧ i ≤ hi ∧ gIx (.lst ds) (.int n) M = .ok (.int i) M := by
  obtain ⟨x, hx, _, g⟩ := gIx_get (M := M) h0 h1
  obtain ⟨i, rfl, h2, h3⟩ := h x hx
  exact ⟨i, h2, h3, g⟩
def fBody (T : Sem1) : ZS :=
    (zSeq (zFrz [] (zSet 7 (zOp gAdd (zK (.int 1)) (zOp gIx (zLst (zCons (zCall T 2 0 [0, 1] [] (sCons (zSv 0) (sCons (zVl (zK (.int 4))) sNil)) sNil) (zCons (zCall T 2 0 [0, 1] [] (sCons (zSv 0) (sCons (zVl (zOp gAdd (zCv 1) (zK (.int 3)))) sNil)) sNil) (zCons (zOp gSub (zOp gAdd (zCv 2) (zCv 3)) (zK (.int 1))) (zCons (zOp gSub (zCv 2) (zK (.int 1))) zNil))))) (zCall T 2 0 [0, 1] [] (sCons (zSv 0) (sCons (zVl (zK (.int 4))) sNil)) sNil)))))
      (zSeq (zFrz [] (zSet 5 (zOp gAdd (zCv 5) (zBf gMax2 (zCons (zK (.int 1)) (zCons (zCv 7) zNil))))))
      (zSeq (zFrz [] (zApp 4 (zVar 5)))
      zNx)))
def fE (w e c : Int) (fs : List D) (m : Int) (e6 e7 : Sl) : Ev := [.val (.ref 0), .val (.int w), .val (.int e), .val (.int c), .own (.lst fs), .val (.int m), e6, e7]
theorem fBody_ok {T : Sem1} (hT : TakeOk T) {w e c m : Int} {fs : List D} {e6 e7 : Sl} {M : Sto} (hM : Hd M) (hw : 0 ≤ w) (hw2 : w ≤ 300) (he : 1 ≤ e) (he2 : e ≤ 300) (hc : 0 ≤ c) (hc2 : c ≤ 60) (hl : fs.length < 900) :
    ∃ s st M', 1 ≤ s ∧ s ≤ 400 ∧ Hd M' ∧ fBody T (fE w e c fs m e6 e7) M = .nx (fE w e c (fs ++ [.int (m + s)]) (m + s) e6 st) M' := by
  obtain ⟨r1, M1, a1, a2, a3, a4⟩ := hT M 4 hM (by decide)
  obtain ⟨r2, M2, b1, b2, b3, b4⟩ := hT M1 (w + 3) a3 (by omega)
  obtain ⟨r3, M3, c1, c2, c3, c4⟩ := hT M2 4 b3 (by decide)
  have e4 : (4 : Nat) ≤ sizeLine := by decide
  obtain ⟨x, x1, x2, g⟩ := pick_int (ds := [.int r1, .int r2, .int (e + c - 1), .int (e - 1)]) (lo := 0) (hi := 399) (M := M3) c1 (by simpa using c2) (by
    simp only [List.forall_mem_cons]
    exact ⟨⟨_, rfl, by omega, by omega⟩, ⟨_, rfl, by omega, by omega⟩, ⟨_, rfl, by omega, by omega⟩, ⟨_, rfl, by omega, by omega⟩, fun x m => nomatch m⟩)
  have hls : fs.length < sizeLine := Nat.lt_trans hl (by decide)
  refine ⟨max 1 (1 + x), .val (.int (1 + x)), M3, by omega, by omega, c3, ?_⟩
  unfold fE fBody
  simp only [zSeq_z, zFrz_z, zSet_z, zOp_z, zK_z, zLst_z, zCons_z, zNil_z, zCall_z, sCons_z, sNil_z, zSv_z, zVl_z, zCv_z, List.getElem?_cons_succ, List.getElem?_cons_zero, Res.bind_ok, callR2, a4, b4, c4, gAdd_int, gSub_int, List.length_cons, List.length_nil, Nat.zero_add, Nat.reduceAdd, e4, if_true, g, Res.toS_ok, List.set_cons_succ, List.set_cons_zero, zBf_z, gMax2_int, zApp_z, getPl, zVar_z, hls, setPl, zNx_z]
def DfOk (f : Sem1) : Prop := ∀ M (w e c : Int), Hd M → 0 ≤ w → w ≤ 300 → 1 ≤ e → e ≤ 300 → 0 ≤ c → c ≤ 60 → ∃ fl M', Fl 8000 fl ∧ Hd M' ∧ f [.val (.ref 0), .val (.int w), .val (.int e), .val (.int c)] M = .ok (.lst (fl.map .int)) M'
def fCnt (T : Sem1) : ZL := zRng1 (zCons (zOp gIx (zLst (zCons (zK (.int 0)) (zCons (zK (.int 1)) (zCons (zK (.int 2)) (zCons (zK (.int 3)) (zCons (zK (.int 6)) (zCons (zK (.int 20)) zNil))))))) (zCall T 2 0 [0, 1] [] (sCons (zSv 0) (sCons (zVl (zK (.int 6))) sNil)) sNil)) zNil)
theorem fCnt_ok {T : Sem1} (hT : TakeOk T) {w e c m : Int} {fs : List D} {e6 e7 : Sl} {M : Sto} (hM : Hd M) : ∃ n M', n ≤ 20 ∧ Hd M' ∧ fCnt T (fE w e c fs m e6 e7) M = .ok (stpD 0 1 n) M' := by
  obtain ⟨r1, M1, a1, a2, a3, a4⟩ := hT M 6 hM (by decide)
  obtain ⟨x, x1, x2, g⟩ := pick_int (ds := [.int 0, .int 1, .int 2, .int 3, .int 6, .int 20]) (lo := 0) (hi := 20) (M := M1) a1 (by simpa using a2) (by
    simp only [List.forall_mem_cons]
    exact ⟨⟨_, rfl, by decide, by decide⟩, ⟨_, rfl, by decide, by decide⟩, ⟨_, rfl, by decide, by decide⟩, ⟨_, rfl, by decide, by decide⟩, ⟨_, rfl, by decide, by decide⟩, ⟨_, rfl, by decide, by decide⟩, fun x m => nomatch m⟩)
  have e6' : (6 : Nat) ≤ sizeLine := by decide
  have hx : x = ((x.toNat : Nat) : Int) := by omega
  have gr := rngR_nat (M := M1) x.toNat (by omega)
  rw [← hx] at gr
  refine ⟨x.toNat, M1, by omega, a3, ?_⟩
  unfold fE fCnt
  simp only [zRng1_z, zOp_z, zK_z, zLst_z, zCons_z, zNil_z, zCall_z, sCons_z, sNil_z, zSv_z, zVl_z, List.getElem?_cons_succ, List.getElem?_cons_zero, Res.bind_ok, callR2, a4, List.length_cons, List.length_nil, Nat.zero_add, Nat.reduceAdd, e6', if_true, g, gr]
theorem fLoop_ok {T : Sem1} (hT : TakeOk T) {w e c : Int} {M : Sto} (hM : Hd M) (hw : 0 ≤ w) (hw2 : w ≤ 300) (he : 1 ≤ e) (he2 : e ≤ 300) (hc : 0 ≤ c) (hc2 : c ≤ 60) :
    ∃ fl m e6 e7 M', Fl 8000 fl ∧ Hd M' ∧ zFor (fCnt T) (tgN 6) (fBody T) (fE w e c [] 0 .no .no) M = .nx (fE w e c (fl.map .int) m e6 e7) M' := by
  obtain ⟨n, M1, n1, n2, n3⟩ := fCnt_ok hT (w := w) (e := e) (c := c) (m := 0) (fs := []) (e6 := .no) (e7 := .no) hM
  have hb := @fBody_ok T hT w e c
  generalize fBody T = y at hb
  refine zFor_gen (I := fun i env M' => ∃ (fl : List Int) (m : Int) (e6 e7 : Sl), env = fE w e c (fl.map .int) m e6 e7 ∧ Hd M' ∧ fl.length = i ∧ i ≤ n ∧ fl.Pairwise (· < ·) ∧ (∀ f ∈ fl, 0 < f ∧ f ≤ m) ∧ 0 ≤ m ∧ m ≤ 400 * i)
    (Q := fun o => ∃ fl m e6 e7 M', Fl 8000 fl ∧ Hd M' ∧ o = .nx (fE w e c (fl.map .int) m e6 e7) M') n3 ⟨[], 0, .no, .no, rfl, n2, rfl, Nat.zero_le _, .nil, (fun f m => nomatch m), Int.le_refl _, by decide⟩ (fun i x env M' hi hI => ?_) fun env M' hI => ?_
  · obtain ⟨fl, m, e6, e7, rfl, h1, h2, h3, h4, h5, h6, h7⟩ := hI
    obtain ⟨rfl, hlt⟩ := stpD_get hi
    obtain ⟨s, st, M2, s1, s2, s3, s4⟩ := @hb m (fl.map .int) (.val (.int (0 + i * 1))) e7 M' h1 hw hw2 he he2 hc hc2 (by rw [List.length_map]; omega)
    refine ⟨fE w e c (fl.map .int) m (.val (.int (0 + i * 1))) e7, rfl, ?_⟩
    rw [s4]
    refine ⟨fl ++ [m + s], m + s, _, _, by rw [List.map_append]; rfl, s3, by simp [h2], by omega, ?_, ?_, by omega, by omega⟩
    · rw [List.pairwise_append]
      refine ⟨h4, List.pairwise_singleton .., fun a ha b hb => ?_⟩
      rw [List.mem_singleton.mp hb]
      have := h5 a ha
      omega
    · intro f hf
      rcases List.mem_append.mp hf with hf | hf
      · have := h5 f hf
        omega
      · rw [List.mem_singleton.mp hf]
        omega
  · obtain ⟨fl, m, e6, e7, rfl, h1, h2, h3, h4, h5, h6, h7⟩ := hI
    refine ⟨fl, m, e6, e7, M', ⟨fun f hf => (h5 f hf).1, h4, fun f hf => ?_, by omega, by decide⟩, h1, rfl⟩
    have := (h5 f hf).2
    omega
theorem f_seq {y : ZS} {w e c m : Int} {fs : List D} {e6 e7 : Sl} {M M' : Sto} (h : y (fE w e c [] 0 .no .no) M = .nx (fE w e c fs m e6 e7) M') :
    zFun 4 8 (zSeq (zFrz [] (zSetO 4 (zLst zNil))) (zSeq (zFrz [] (zSet 5 (zK (.int 0)))) (zSeq (zFrz [] y) (zSeq (zFrz [4] (zRet (zVar 4))) zNx)))) [.val (.ref 0), .val (.int w), .val (.int e), .val (.int c)] M = .ok (.lst fs) M' := by
  unfold fE at h
  unfold zFun
  simp [h, zFrz, frz]
theorem dfOk {T : Sem1} (hT : TakeOk T) : DfOk (zFun 4 8 (zSeq (zFrz [] (zSetO 4 (zLst zNil))) (zSeq (zFrz [] (zSet 5 (zK (.int 0)))) (zSeq (zFrz [] (zFor (fCnt T) (tgN 6) (fBody T))) (zSeq (zFrz [4] (zRet (zVar 4))) zNx))))) := fun M w e c hM h1 h2 h3 h4 h5 h6 => by
  obtain ⟨fl, m, e6, e7, M', k1, k2, k3⟩ := fLoop_ok hT hM h1 h2 h3 h4 h5 h6
  exact ⟨fl, M', k1, k2, f_seq k3⟩
end Zy
set_option maxHeartbeats 2000000
namespace Zy
open PySem PySem.Spec PyProof.Rows L2
theorem sz2 : (2 : Nat) ≤ sizeLine := by decide
def lG (a0 e2 e3 e4 e5 e6 e7 e8 e9 e10 e11 e12 : Sl) : Ev := [a0, .val (.ref 0), e2, e3, e4, e5, e6, e7, e8, e9, e10, e11, e12]
def g3 (T : Sem1) : ZS := (zSet 3 (zOp gIx (zLst (zCons (zCall T 2 0 [0, 1] [] (sCons (zSv 1) (sCons (zVl (zK (.int 12))) sNil)) sNil) (zCons (zCall T 2 0 [0, 1] [] (sCons (zSv 1) (sCons (zVl (zK (.int 201))) sNil)) sNil) zNil))) (zCall T 2 0 [0, 1] [] (sCons (zSv 1) (sCons (zVl (zK (.int 2))) sNil)) sNil)))
def g4 (T : Sem1) : ZS := (zSet 4 (zOp gAdd (zK (.int 1)) (zOp gIx (zLst (zCons (zCall T 2 0 [0, 1] [] (sCons (zSv 1) (sCons (zVl (zK (.int 5))) sNil)) sNil) (zCons (zCall T 2 0 [0, 1] [] (sCons (zSv 1) (sCons (zVl (zOp gAdd (zCv 3) (zK (.int 2)))) sNil)) sNil) zNil))) (zCall T 2 0 [0, 1] [] (sCons (zSv 1) (sCons (zVl (zK (.int 2))) sNil)) sNil))))
def g5 (T : Sem1) : ZS := (zSet 5 (zOp gIx (zLst (zCons (zCall T 2 0 [0, 1] [] (sCons (zSv 1) (sCons (zVl (zK (.int 4))) sNil)) sNil) (zCons (zCall T 2 0 [0, 1] [] (sCons (zSv 1) (sCons (zVl (zK (.int 51))) sNil)) sNil) (zCons (zK (.int 0)) zNil)))) (zCall T 2 0 [0, 1] [] (sCons (zSv 1) (sCons (zVl (zK (.int 3))) sNil)) sNil)))
def g6 (Df : Sem1) : ZS := (zSet 6 (zCall Df 4 0 [0, 1, 2, 3] [] (sCons (zSv 1) (sCons (zSv 3) (sCons (zSv 4) (sCons (zSv 5) sNil)))) sNil))
def g7 (T : Sem1) : ZS := (zSet 7 (zOp gIx (zLst (zCons (zVar 6) (zCons (zTupOf (zCv 6)) zNil))) (zCall T 2 0 [0, 1] [] (sCons (zSv 1) (sCons (zVl (zK (.int 2))) sNil)) sNil)))
def g8 (R : Sem1) : ZS := (zAsg (tgT [10, 11]) (zCall R 4 0 [0, 1, 2, 3] [] (sCons (zSv 3) (sCons (zSv 4) (sCons (zSv 5) (sCons (zSv 6) sNil)))) sNil))
def retF : ZS := (zSeq (zFrz [] (zRet (zK (.bl false)))) zNx)
def g9 (Tw : Sem1) : ZS := (zIfS (zTst (zOp gNe (zBf gRepr (zCons (zCall Tw 0 4 [0, 1, 2, 3] [] sNil (sCons (zSv 3) (sCons (zSv 4) (sCons (zSv 5) (sCons (zSv 7) sNil))))) zNil)) (zBf gRepr (zCons (zCv 10) zNil)))) retF zNx)
def g10 (Ua : Sem1) : ZS := (zIfS (zOr (zTst (zOp gNe (zBf gRepr (zCons (zCall Ua 0 4 [0, 1, 2, 3] [] sNil (sCons (zSv 3) (sCons (zSv 4) (sCons (zSv 5) (sCons (zSv 7) sNil))))) zNil)) (zBf gRepr (zCons (zCv 11) zNil)))) (zTst (zOp gNe (zLstOf (zCv 7)) (zCv 6)))) retF zNx)
def g11 (Tw : Sem1) : ZS := (zIfS (zAnd (zTst (zOp gGt (zCv 3) (zK (.int 0)))) (zTst (zOp gNe (zCall Tw 4 0 [0, 1, 2, 3] [] (sCons (zSv 3) (sCons (zSv 4) (sCons (zSv 5) (sCons (zVl (zLst zNil)) sNil)))) sNil) (zOp gAdd (zCv 3) (zOp gMul (zCv 5) (zOp gFdiv (zOp gSub (zCv 3) (zK (.int 1))) (zCv 4))))))) retF zNx)
def g12 : ZS := (zSet 8 (zOp gAdd (zK (.int 1)) (zOp gMod (zBf gInt (zCons (zCv 3) zNil)) (zK (.int 25)))))
def g13z (R : Sem1) : ZX := (zLc (zRng2 (zCons (zK (.int 1)) (zCons (zOp gAdd (zCv 8) (zK (.int 1))) zNil))) (tgN 12) (fun _ M => .ok true M) (zOp gIx (zCall R 4 0 [0, 1, 2, 3] [] (sCons (zSv 8) (sCons (zSv 12) (sCons (zSv 5) (sCons (zSv 6) sNil)))) sNil) (zK (.int 0))) [12])
def g13 (R : Sem1) : ZS := (zSet 9 (g13z R))
def g14 (Le : Sem1) : ZS := (zIfS (zTst (zOp gNe (zBf gRepr (zCons (zCall Le 0 3 [0, 1, 2] [] sNil (sCons (zSv 8) (sCons (zSv 5) (sCons (zSv 7) sNil)))) zNil)) (zBf gRepr (zCons (zOp gAdd (zK (.int 1)) (zIdx (zCv 9) (zBf gMin (zCons (zCv 9) zNil)))) zNil)))) retF zNx)
section
variable {a0 e2 e3 e4 e5 e6 e7 e8 e9 e10 e11 e12 : Sl} {M : Sto} {w e c : Int}
theorem g3_ok {T : Sem1} (hT : TakeOk T) (hM : Hd M) : ∃ w M', 0 ≤ w ∧ w ≤ 200 ∧ Hd M' ∧ g3 T (lG a0 e2 e3 e4 e5 e6 e7 e8 e9 e10 e11 e12) M = .nx (lG a0 e2 (.val (.int w)) e4 e5 e6 e7 e8 e9 e10 e11 e12) M' := by
  obtain ⟨r1, M1, a1, a2, a3, a4⟩ := hT M 12 hM (by decide)
  obtain ⟨r2, M2, b1, b2, b3, b4⟩ := hT M1 201 a3 (by decide)
  obtain ⟨r3, M3, c1, c2, c3, c4⟩ := hT M2 2 b3 (by decide)
  obtain ⟨x, x1, x2, g⟩ := pick_int (ds := [.int r1, .int r2]) (lo := 0) (hi := 200) (M := M3) c1 (by simpa using c2) (by
    simp only [List.forall_mem_cons]
    exact ⟨⟨_, rfl, by omega, by omega⟩, ⟨_, rfl, by omega, by omega⟩, fun x m => nomatch m⟩)
  refine ⟨x, M3, x1, x2, c3, ?_⟩
  unfold lG g3
  simp only [zSet_z, zOp_z, zK_z, zLst_z, zCons_z, zNil_z, zCall_z, sCons_z, sNil_z, zSv_z, zVl_z, List.getElem?_cons_succ, List.getElem?_cons_zero, Res.bind_ok, callR2, a4, b4, c4, List.length_cons, List.length_nil, Nat.zero_add, Nat.reduceAdd, sz2, if_true, g, Res.toS_ok, List.set_cons_succ, List.set_cons_zero]
theorem g4_ok {T : Sem1} (hT : TakeOk T) (hM : Hd M) (h0 : 0 ≤ w) (h1 : w ≤ 200) : ∃ e M', 1 ≤ e ∧ e ≤ 250 ∧ Hd M' ∧ g4 T (lG a0 e2 (.val (.int w)) e4 e5 e6 e7 e8 e9 e10 e11 e12) M = .nx (lG a0 e2 (.val (.int w)) (.val (.int e)) e5 e6 e7 e8 e9 e10 e11 e12) M' := by
  obtain ⟨r1, M1, a1, a2, a3, a4⟩ := hT M 5 hM (by decide)
  obtain ⟨r2, M2, b1, b2, b3, b4⟩ := hT M1 (w + 2) a3 (by omega)
  obtain ⟨r3, M3, c1, c2, c3, c4⟩ := hT M2 2 b3 (by decide)
  obtain ⟨x, x1, x2, g⟩ := pick_int (ds := [.int r1, .int r2]) (lo := 0) (hi := 249) (M := M3) c1 (by simpa using c2) (by
    simp only [List.forall_mem_cons]
    exact ⟨⟨_, rfl, by omega, by omega⟩, ⟨_, rfl, by omega, by omega⟩, fun x m => nomatch m⟩)
  refine ⟨1 + x, M3, by omega, by omega, c3, ?_⟩
  unfold lG g4
  simp only [zSet_z, zOp_z, zK_z, zLst_z, zCons_z, zNil_z, zCall_z, sCons_z, sNil_z, zSv_z, zVl_z, zCv_z, gAdd_int, List.getElem?_cons_succ, List.getElem?_cons_zero, Res.bind_ok, callR2, a4, b4, c4, List.length_cons, List.length_nil, Nat.zero_add, Nat.reduceAdd, sz2, if_true, g, Res.toS_ok, List.set_cons_succ, List.set_cons_zero]
theorem g5_ok {T : Sem1} (hT : TakeOk T) (hM : Hd M) : ∃ c M', 0 ≤ c ∧ c ≤ 50 ∧ Hd M' ∧ g5 T (lG a0 e2 e3 e4 e5 e6 e7 e8 e9 e10 e11 e12) M = .nx (lG a0 e2 e3 e4 (.val (.int c)) e6 e7 e8 e9 e10 e11 e12) M' := by
  obtain ⟨r1, M1, a1, a2, a3, a4⟩ := hT M 4 hM (by decide)
  obtain ⟨r2, M2, b1, b2, b3, b4⟩ := hT M1 51 a3 (by decide)
  obtain ⟨r3, M3, c1, c2, c3, c4⟩ := hT M2 3 b3 (by decide)
  have sz3 : (3 : Nat) ≤ sizeLine := by decide
  obtain ⟨x, x1, x2, g⟩ := pick_int (ds := [.int r1, .int r2, .int 0]) (lo := 0) (hi := 50) (M := M3) c1 (by simpa using c2) (by
    simp only [List.forall_mem_cons]
    exact ⟨⟨_, rfl, by omega, by omega⟩, ⟨_, rfl, by omega, by omega⟩, ⟨_, rfl, by decide, by decide⟩, fun x m => nomatch m⟩)
  refine ⟨x, M3, x1, x2, c3, ?_⟩
  unfold lG g5
  simp only [zSet_z, zOp_z, zK_z, zLst_z, zCons_z, zNil_z, zCall_z, sCons_z, sNil_z, zSv_z, zVl_z, List.getElem?_cons_succ, List.getElem?_cons_zero, Res.bind_ok, callR2, a4, b4, c4, List.length_cons, List.length_nil, Nat.zero_add, Nat.reduceAdd, sz3, if_true, g, Res.toS_ok, List.set_cons_succ, List.set_cons_zero]
theorem g6_ok {Df : Sem1} (hD : DfOk Df) (hM : Hd M) (h0 : 0 ≤ w) (h1 : w ≤ 200) (h2 : 1 ≤ e) (h3 : e ≤ 250) (h4 : 0 ≤ c) (h5 : c ≤ 50) : ∃ fl M', Fl 8000 fl ∧ Hd M' ∧ g6 Df (lG a0 e2 (.val (.int w)) (.val (.int e)) (.val (.int c)) e6 e7 e8 e9 e10 e11 e12) M = .nx (lG a0 e2 (.val (.int w)) (.val (.int e)) (.val (.int c)) (.val (.lst (fl.map .int))) e7 e8 e9 e10 e11 e12) M' := by
  obtain ⟨fl, M', k1, k2, k3⟩ := hD M w e c hM h0 (by omega) h2 (by omega) h4 (by omega)
  refine ⟨fl, M', k1, k2, ?_⟩
  unfold lG g6
  simp only [zSet_z, zCall_z, sCons_z, sNil_z, zSv_z, List.getElem?_cons_succ, List.getElem?_cons_zero, Res.bind_ok, callR4, k3, Res.toS_ok, List.set_cons_succ, List.set_cons_zero]
theorem g7_ok {T : Sem1} (hT : TakeOk T) (hM : Hd M) {fl : List Int} : ∃ d M', itemsD d = some (fl.map .int) ∧ pl d = true ∧ Hd M' ∧ g7 T (lG a0 e2 e3 e4 e5 (.val (.lst (fl.map .int))) e7 e8 e9 e10 e11 e12) M = .nx (lG a0 e2 e3 e4 e5 (.val (.lst (fl.map .int))) (.val d) e8 e9 e10 e11 e12) M' := by
  obtain ⟨r3, M3, c1, c2, c3, c4⟩ := hT M 2 hM (by decide)
  obtain ⟨d, hd, _, g⟩ := gIx_get (ds := [.lst (fl.map .int), .tup (fl.map .int)]) (M := M3) c1 (by simpa using c2)
  have hh : itemsD d = some (fl.map .int) ∧ pl d = true := by
    rcases List.mem_cons.mp hd with rfl | hd
    · exact ⟨rfl, rfl⟩
    · rw [List.mem_singleton.mp hd]
      exact ⟨rfl, rfl⟩
  refine ⟨d, M3, hh.1, hh.2, c3, ?_⟩
  unfold lG g7
  simp only [zSet_z, zOp_z, zK_z, zLst_z, zCons_z, zNil_z, zCall_z, sCons_z, sNil_z, zSv_z, zVl_z, zVar_z, zCv_z, zTupOf_z, deref, Option.bind_some, itemsD, List.getElem?_cons_succ, List.getElem?_cons_zero, Res.bind_ok, callR2, c4, List.length_cons, List.length_nil, Nat.zero_add, Nat.reduceAdd, sz2, if_true, g, Res.toS_ok, List.set_cons_succ, List.set_cons_zero]
theorem g8_ok {R : Sem1} {fl : List Int} {t l : Int} (h : R [.val (.int w), .val (.int e), .val (.int c), .val (.lst (fl.map .int))] M = .ok (.lst [.int t, .int l]) M) : g8 R (lG a0 e2 (.val (.int w)) (.val (.int e)) (.val (.int c)) (.val (.lst (fl.map .int))) e7 e8 e9 e10 e11 e12) M = .nx (lG a0 e2 (.val (.int w)) (.val (.int e)) (.val (.int c)) (.val (.lst (fl.map .int))) e7 e8 e9 (.val (.int t)) (.val (.int l)) e12) M := by
  unfold lG g8 zAsg
  simp only [zCall_z, sCons_z, sNil_z, zSv_z, List.getElem?_cons_succ, List.getElem?_cons_zero, Res.bind_ok, callR4, h, Res.toS_ok, tgT, itemsD, Option.bind_some, setAll, List.set_cons_succ, List.set_cons_zero]
theorem g9_ok {Tw : Sem1} {d : D} {t : Int} (h : Tw [.val (.int w), .val (.int e), .val (.int c), .val d] M = .ok (.int t) M) (ht : ReprOk (.int t)) : g9 Tw (lG a0 e2 (.val (.int w)) (.val (.int e)) (.val (.int c)) e6 (.val d) e8 e9 (.val (.int t)) e11 e12) M = .nx (lG a0 e2 (.val (.int w)) (.val (.int e)) (.val (.int c)) e6 (.val d) e8 e9 (.val (.int t)) e11 e12) M := by
  obtain ⟨s, hs⟩ := ht
  unfold lG g9
  simp only [zIfS_z, zTst_z, zOp_z, zBf_z, zCons_z, zNil_z, zCall_z, sCons_z, sNil_z, zSv_z, zCv_z, List.getElem?_cons_succ, List.getElem?_cons_zero, Res.bind_ok, callRk4, h, hs, gNe_strs, Res.toS_ok, Bool.false_eq_true, if_false, zNx_z]
theorem g10_ok {Ua : Sem1} {d : D} {fl : List Int} {l : Int} (h : Ua [.val (.int w), .val (.int e), .val (.int c), .val d] M = .ok (.int l) M) (ht : ReprOk (.int l)) (hd : itemsD d = some (fl.map .int)) (hp : pl d = true) : g10 Ua (lG a0 e2 (.val (.int w)) (.val (.int e)) (.val (.int c)) (.val (.lst (fl.map .int))) (.val d) e8 e9 e10 (.val (.int l)) e12) M = .nx (lG a0 e2 (.val (.int w)) (.val (.int e)) (.val (.int c)) (.val (.lst (fl.map .int))) (.val d) e8 e9 e10 (.val (.int l)) e12) M := by
  obtain ⟨s, hs⟩ := ht
  unfold lG g10
  simp only [zIfS_z, zOr_z, zTst_z, zOp_z, zBf_z, zCons_z, zNil_z, zCall_z, sCons_z, sNil_z, zSv_z, zCv_z, zLstOf_z, List.getElem?_cons_succ, List.getElem?_cons_zero, Res.bind_ok, callRk4, h, hs, gNe_strs, pl_deref hp, Option.bind_some, hd, gNe_ints, Res.toS_ok, Bool.false_eq_true, if_false, zNx_z]
theorem g11_ok {Tw : Sem1} (hT : TwOk Tw) (h0 : 0 ≤ w) (h2 : 1 ≤ e) (h3 : e ≤ 250) (h4 : 0 ≤ c) (h5 : c ≤ 50) : g11 Tw (lG a0 e2 (.val (.int w)) (.val (.int e)) (.val (.int c)) e6 e7 e8 e9 e10 e11 e12) M = .nx (lG a0 e2 (.val (.int w)) (.val (.int e)) (.val (.int c)) e6 e7 e8 e9 e10 e11 e12) M := by
  have sz0 : (0 : Nat) ≤ sizeLine := Nat.zero_le _
  by_cases hw : 0 < w
  · have h := hT M w e c (.lst []) [] rfl h2 (by omega) h4 (by omega)
    have ho : (Og w e c 0 0 0 []).1 = w + c * ((w - 1) / e) := by
      show 0 + tl (w - 0) e c = _
      rw [Int.sub_zero, tl, if_neg (by omega), Int.zero_add]
    rw [ho] at h
    unfold lG g11
    simp only [zIfS_z, zAnd_z, zTst_z, zOp_z, zBf_z, zLst_z, zNil_z, zCall_z, sCons_z, sNil_z, zSv_z, zVl_z, zCv_z, zK_z, List.getElem?_cons_succ, List.getElem?_cons_zero, Res.bind_ok, gCmpI_int, hw, decide_true, if_true, List.length_nil, sz0, callR4, h, gSub_int, gFdiv_ok h2 (show e ≤ 2000 by omega), gMul_l (sm_of h4 (show c ≤ 2000 by omega)), gAdd_int, gNe_int, Bool.not_true, Res.toS_ok, Bool.false_eq_true, if_false, zNx_z]
  · unfold lG g11
    simp only [zIfS_z, zAnd_z, zTst_z, zOp_z, zCv_z, zK_z, List.getElem?_cons_succ, List.getElem?_cons_zero, Res.bind_ok, gCmpI_int, hw, decide_false, Bool.false_eq_true, if_false, Res.toS_ok, zNx_z]
theorem g12_ok : g12 (lG a0 e2 (.val (.int w)) e4 e5 e6 e7 e8 e9 e10 e11 e12) M = .nx (lG a0 e2 (.val (.int w)) e4 e5 e6 e7 (.val (.int (1 + w % 25))) e9 e10 e11 e12) M := by
  unfold lG g12
  simp only [zSet_z, zOp_z, zBf_z, zCons_z, zNil_z, zCv_z, zK_z, List.getElem?_cons_succ, List.getElem?_cons_zero, Res.bind_ok, gInt_int, gMod_ok (show (1 : Int) ≤ 25 by decide), gAdd_int, Res.toS_ok, List.set_cons_succ, List.set_cons_zero]
theorem g13_ok {R : Sem1} (hR : RunsOk R) {v F : Int} {fl : List Int} (hF : Fl F fl) (h0 : 1 ≤ v) (h1 : v ≤ 900) (h4 : 0 ≤ c) (hno : noOwn (lG a0 e2 e3 e4 (.val (.int c)) (.val (.lst (fl.map .int))) e7 (.val (.int v)) e9 e10 e11 e12) [12] = true) : g13 R (lG a0 e2 e3 e4 (.val (.int c)) (.val (.lst (fl.map .int))) e7 (.val (.int v)) e9 e10 e11 e12) M = .nx (lG a0 e2 e3 e4 (.val (.int c)) (.val (.lst (fl.map .int))) e7 (.val (.int v)) (.val (.lst ((tims v c fl).map .int))) e10 e11 e12) M := by
  have hz : zRng2 (zCons (zK (.int 1)) (zCons (zOp gAdd (zCv 8) (zK (.int 1))) zNil)) (lG a0 e2 e3 e4 (.val (.int c)) (.val (.lst (fl.map .int))) e7 (.val (.int v)) e9 e10 e11 e12) M = .ok (stpD 1 1 v.toNat) M := by
    have g := rngR2_ok (M := M) (a := 1) (b := v + 1) (by decide) (by decide) (by omega) (by omega)
    rw [show v + 1 - 1 = v by omega] at g
    unfold lG
    simp only [zRng2_z, zCons_z, zNil_z, zK_z, zOp_z, zCv_z, List.getElem?_cons_succ, List.getElem?_cons_zero, Res.bind_ok, gAdd_int, g]
  have m := zLc_map (gz := tgN 12) (ze := zOp gIx (zCall R 4 0 [0, 1, 2, 3] [] (sCons (zSv 8) (sCons (zSv 12) (sCons (zSv 5) (sCons (zSv 6) sNil)))) sNil) (zK (.int 0))) (vs := [12]) (timD v c fl) hz hno (by rw [stpD_len]; exact Nat.le_trans (show v.toNat ≤ 1000 by omega) (by decide)) fun x hx => by
    obtain ⟨i, hi⟩ := List.getElem?_of_mem hx
    obtain ⟨rfl, hlt⟩ := stpD_get hi
    refine ⟨_, rfl, ?_⟩
    obtain ⟨t, l, _, o, r⟩ := hR M v (1 + (i : Nat) * 1) c F fl (by omega) (by omega) (by omega) h4 hF
    have gx : gIx (.lst [.int t, .int l]) (.int 0) M = .ok (.int t) M := gIx_lst (by decide) rfl
    unfold lG
    simp only [wipeE, List.set_cons_succ, List.set_cons_zero, zOp_z, zK_z, zCall_z, sCons_z, sNil_z, zSv_z, List.getElem?_cons_succ, List.getElem?_cons_zero, Res.bind_ok, callR4, r, gx, timD, o]
  rw [tims_map (timD v c fl) fun i _ => rfl] at m
  unfold g13 g13z
  rw [zSet_z, m]
  rfl
theorem g14_ok {Le : Sem1} {v : Int} {d : D} {ts : List Int} (h : Le [.val (.int v), .val (.int c), .val d] M = .ok (.int (mI ts + 1)) M) (hne : ts ≠ []) (hl : ts.length ≤ 900) : g14 Le (lG a0 e2 e3 e4 (.val (.int c)) e6 (.val d) (.val (.int v)) (.val (.lst (ts.map .int))) e10 e11 e12) M = .nx (lG a0 e2 e3 e4 (.val (.int c)) e6 (.val d) (.val (.int v)) (.val (.lst (ts.map .int))) e10 e11 e12) M := by
  obtain ⟨m1, m2, m3⟩ := mI_ok hne M
  obtain ⟨s, hs⟩ := (RD.int2 (i := (mI ts : Int) + 1) (by omega) (by omega)).repr (by decide) (by decide)
  have hc : (1 : Int) + (mI ts : Int) = (mI ts : Int) + 1 := Int.add_comm ..
  unfold lG g14
  simp only [zIfS_z, zTst_z, zOp_z, zBf_z, zCons_z, zNil_z, zCall_z, sCons_z, sNil_z, zSv_z, zCv_z, zK_z, zIdx_z, deref, List.getElem?_cons_succ, List.getElem?_cons_zero, Res.bind_ok, callRk3, h, hs, m1, m2, gAdd_int, hc, gNe_strs, Res.toS_ok, Bool.false_eq_true, if_false, zNx_z]
end
end Zy
set_option maxHeartbeats 0
namespace Zy.stagesfull_k59_work_with_falls
open PySem PySem.Spec PyProof.Rows L2 Zy
def top (i : Nat) : Stmt := PySem.Challenge.pw_stagesfull_k59_work_with_falls.main.body.getD i (.Pass ⟨0, 0, 0, 0⟩)
abbrev s_time_with_falls : Stmt := top 1
def f_time_with_falls : Fi := ⟨⟨("time_with_falls", none), "time_with_falls", "time_with_falls", defArgs s_time_with_falls, defBody s_time_with_falls, defScope s_time_with_falls, [], []⟩, ["work", "every", "cost", "falls"], ["work", "every", "cost", "falls"], [], []⟩
abbrev s_units_again : Stmt := top 2
def f_units_again : Fi := ⟨⟨("units_again", none), "units_again", "units_again", defArgs s_units_again, defBody s_units_again, defScope s_units_again, [], []⟩, ["work", "every", "cost", "falls"], ["work", "every", "cost", "falls"], [], []⟩
abbrev s_least_every : Stmt := top 3
def f_least_every : Fi := ⟨⟨("least_every", none), "least_every", "least_every", defArgs s_least_every, defBody s_least_every, defScope s_least_every, [], []⟩, ["work", "cost", "falls"], ["work", "cost", "falls", "times", "every"], [], []⟩
abbrev s__outcome : Stmt := top 4
def f__outcome : Fi := ⟨⟨("_outcome", none), "_outcome", "_outcome", defArgs s__outcome, defBody s__outcome, defScope s__outcome, [], []⟩, ["work", "every", "cost", "falls"], ["work", "every", "cost", "falls", "moment", "kept", "lost", "fall", "turns"], [], []⟩
abbrev s__time_left : Stmt := top 5
def f__time_left : Fi := ⟨⟨("_time_left", none), "_time_left", "_time_left", defArgs s__time_left, defBody s__time_left, defScope s__time_left, [], []⟩, ["units", "every", "cost"], ["units", "every", "cost"], [], []⟩
abbrev s__law_draws : Stmt := top 7
def f__law_draws : Fi := ⟨⟨("_law_draws", none), "_law_draws", "_law_draws", defArgs s__law_draws, defBody s__law_draws, defScope s__law_draws, [], []⟩, ["script", "many"], ["script", "many", "rests", "draws", "k", "cell", "mixed", "spot"], ["draws", "rests"], []⟩
abbrev s__law_take : Stmt := top 8
def f__law_take : Fi := ⟨⟨("_law_take", none), "_law_take", "_law_take", defArgs s__law_take, defBody s__law_take, defScope s__law_take, [], []⟩, ["hand", "many"], ["hand", "many", "spot", "draws"], [], []⟩
abbrev s__law_runs : Stmt := top 9
def f__law_runs : Fi := ⟨⟨("_law_runs", none), "_law_runs", "_law_runs", defArgs s__law_runs, defBody s__law_runs, defScope s__law_runs, [], []⟩, ["work", "every", "cost", "falls"], ["work", "every", "cost", "falls", "time", "done", "lost", "spot", "step", "units", "end"], [], []⟩
abbrev s__law_drawn_falls : Stmt := top 10
def f__law_drawn_falls : Fi := ⟨⟨("_law_drawn_falls", none), "_law_drawn_falls", "_law_drawn_falls", defArgs s__law_drawn_falls, defBody s__law_drawn_falls, defScope s__law_drawn_falls, [], []⟩, ["hand", "work", "every", "cost"], ["hand", "work", "every", "cost", "falls", "moment", "k", "step"], ["falls"], []⟩
abbrev s_law : Stmt := top 11
def f_law : Fi := ⟨⟨("law", none), "law", "law", defArgs s_law, defBody s_law, defScope s_law, [], []⟩, ["script"], ["script", "hand", "k", "work", "every", "cost", "falls", "passed", "small", "times", "time", "lost", "more"], [], ["hand"]⟩
def fns : List Fi := [f_time_with_falls, f_units_again, f_least_every, f__outcome, f__time_left, f__law_draws, f__law_take, f__law_runs, f__law_drawn_falls, f_law]
def p_0 : Pt := ⟨"_outcome", 4, [], [0, 1, 2, 3], []⟩
def p_1 : Pt := ⟨"time_with_falls", 4, [], [0, 1, 2, 3], []⟩
def p_2 : Pt := ⟨"_time_left", 3, [], [0, 1, 2], []⟩
def p_3 : Pt := ⟨"_law_take", 2, [], [0, 1], []⟩
def p_4 : Pt := ⟨"_law_draws", 2, [], [0, 1], []⟩
def p_5 : Pt := ⟨"_law_drawn_falls", 4, [], [0, 1, 2, 3], []⟩
def p_6 : Pt := ⟨"_law_runs", 4, [], [0, 1, 2, 3], []⟩
def p_7 : Pt := ⟨"time_with_falls", 0, ["work", "every", "cost", "falls"], [0, 1, 2, 3], []⟩
def p_8 : Pt := ⟨"least_every", 0, ["work", "cost", "falls"], [0, 1, 2], []⟩
def p_9 : Pt := ⟨"units_again", 0, ["work", "every", "cost", "falls"], [0, 1, 2, 3], []⟩
def px : Px := ⟨["len", "int", "abs", "sum", "max", "min", "all", "any", "repr", "tuple", "list", "range", "isinstance", "bool", "str", "dict", "sorted", "enumerate", "zip", "reversed"], [p_0, p_1, p_2, p_3, p_4, p_5, p_6, p_7, p_8, p_9]⟩
theorem b_0 : Bnd f__outcome 4 [] p_0.is := ⟨⟨rfl, rfl⟩, rfl, fun _ _ _ _ _ _ us ws h1 h2 => match us, ws, h1, h2 with | [a0, a1, a2, a3], [], _, _ => ⟨_, rfl, rfl⟩⟩
theorem b_1 : Bnd f_time_with_falls 4 [] p_1.is := ⟨⟨rfl, rfl⟩, rfl, fun _ _ _ _ _ _ us ws h1 h2 => match us, ws, h1, h2 with | [a0, a1, a2, a3], [], _, _ => ⟨_, rfl, rfl⟩⟩
theorem b_2 : Bnd f__time_left 3 [] p_2.is := ⟨⟨rfl, rfl⟩, rfl, fun _ _ _ _ _ _ us ws h1 h2 => match us, ws, h1, h2 with | [a0, a1, a2], [], _, _ => ⟨_, rfl, rfl⟩⟩
theorem b_3 : Bnd f__law_take 2 [] p_3.is := ⟨⟨rfl, rfl⟩, rfl, fun _ _ _ _ _ _ us ws h1 h2 => match us, ws, h1, h2 with | [a0, a1], [], _, _ => ⟨_, rfl, rfl⟩⟩
theorem b_4 : Bnd f__law_draws 2 [] p_4.is := ⟨⟨rfl, rfl⟩, rfl, fun _ _ _ _ _ _ us ws h1 h2 => match us, ws, h1, h2 with | [a0, a1], [], _, _ => ⟨_, rfl, rfl⟩⟩
theorem b_5 : Bnd f__law_drawn_falls 4 [] p_5.is := ⟨⟨rfl, rfl⟩, rfl, fun _ _ _ _ _ _ us ws h1 h2 => match us, ws, h1, h2 with | [a0, a1, a2, a3], [], _, _ => ⟨_, rfl, rfl⟩⟩
theorem b_6 : Bnd f__law_runs 4 [] p_6.is := ⟨⟨rfl, rfl⟩, rfl, fun _ _ _ _ _ _ us ws h1 h2 => match us, ws, h1, h2 with | [a0, a1, a2, a3], [], _, _ => ⟨_, rfl, rfl⟩⟩
theorem b_7 : Bnd f_time_with_falls 0 ["work", "every", "cost", "falls"] p_7.is := ⟨⟨rfl, rfl⟩, rfl, fun _ _ _ _ _ _ us ws h1 h2 => match us, ws, h1, h2 with | [], [b0, b1, b2, b3], _, _ => ⟨_, rfl, rfl⟩⟩
theorem b_8 : Bnd f_least_every 0 ["work", "cost", "falls"] p_8.is := ⟨⟨rfl, rfl⟩, rfl, fun _ _ _ _ _ _ us ws h1 h2 => match us, ws, h1, h2 with | [], [b0, b1, b2], _, _ => ⟨_, rfl, rfl⟩⟩
theorem b_9 : Bnd f_units_again 0 ["work", "every", "cost", "falls"] p_9.is := ⟨⟨rfl, rfl⟩, rfl, fun _ _ _ _ _ _ us ws h1 h2 => match us, ws, h1, h2 with | [], [b0, b1, b2, b3], _, _ => ⟨_, rfl, rfl⟩⟩
theorem text : TextOk fns px := by
  refine ⟨?_, ?_⟩
  · exact all_cons ⟨rfl, by decide +kernel⟩ (all_cons ⟨rfl, by decide +kernel⟩ (all_cons ⟨rfl, by decide +kernel⟩ (all_cons ⟨rfl, by decide +kernel⟩ (all_cons ⟨rfl, by decide +kernel⟩ (all_cons ⟨rfl, by decide +kernel⟩ (all_cons ⟨rfl, by decide +kernel⟩ (all_cons ⟨rfl, by decide +kernel⟩ (all_cons ⟨rfl, by decide +kernel⟩ (all_cons ⟨rfl, by decide +kernel⟩ (all_nil))))))))))
  · exact all_cons (pat_ok 3 rfl rfl rfl rfl b_0) (all_cons (pat_ok 0 rfl rfl rfl rfl b_1) (all_cons (pat_ok 4 rfl rfl rfl rfl b_2) (all_cons (pat_ok 6 rfl rfl rfl rfl b_3) (all_cons (pat_ok 5 rfl rfl rfl rfl b_4) (all_cons (pat_ok 8 rfl rfl rfl rfl b_5) (all_cons (pat_ok 7 rfl rfl rfl rfl b_6) (all_cons (pat_ok 0 rfl rfl rfl rfl b_7) (all_cons (pat_ok 2 rfl rfl rfl rfl b_8) (all_cons (pat_ok 1 rfl rfl rfl rfl b_9) (all_nil))))))))))
abbrev R : PySem.W.OpenRow := PySem.W.OpenLaw.row PySem.Challenge.rw_stagesfull_k59_work_with_falls
def facts : List He.Fa := faOf fns px
def dfs : List He.DefD := fns.map (·.d)
abbrev hk : PySem.W.Hook := He.hookD 4 facts dfs
def ob (s : PySem.W.SharedT) : He.AlD := He.obsDG 4 facts dfs (HandSHeadRun.getT s)
theorem ob_eq (s : PySem.W.SharedT) : ob s = hk.obs s.abs := He.obsDG_eq (HandSHeadRun.getT_eq s)
def loose : List PySem.Str := ["time_with_falls", "units_again", "least_every", "_outcome", "_time_left", "_law_draws", "_law_take", "_law_runs", "_law_drawn_falls"]
theorem run (w : World) : HandSHeadRun.RunEq R (PySem.W.view R.prog [11]) hk ob 4000 loose w := by
  intro os
  kernel_rfl
def meaning : Prop := ∀ ns : List Int, ns.length ≤ 63 → ∃ M, callF fns px 5 "law" [.val (.scr ns)] [] = .ok (.bl true) M
end Zy.stagesfull_k59_work_with_falls
open PySem PySem.W PySem.Calls PyProof.Rows
theorem Zy.stagesfull_k59_work_with_falls.ends (h : Zy.stagesfull_k59_work_with_falls.meaning) : PySem.Challenge.rw_stagesfull_k59_work_with_falls.Holds := by
  w_on; o_law
  refine HandSHeadRun.head_any (r := OpenLaw.row PySem.Challenge.rw_stagesfull_k59_work_with_falls) (q := view (OpenLaw.row PySem.Challenge.rw_stagesfull_k59_work_with_falls).prog [11]) (H := Zy.stagesfull_k59_work_with_falls.hk) (ob := Zy.stagesfull_k59_work_with_falls.ob) (M := 4000) (loose := Zy.stagesfull_k59_work_with_falls.loose) (d := HandSHeadRun.topDef (OpenLaw.row PySem.Challenge.rw_stagesfull_k59_work_with_falls).prog 11) (kwd := []) Zy.stagesfull_k59_work_with_falls.ob_eq
    (by kernel_rfl) (fun s => by kernel_rfl) Zy.stagesfull_k59_work_with_falls.run (by kernel_rfl) (by kernel_rfl) (by kernel_rfl) (by rfl) (by first | assumption | decide +kernel) (by decide +kernel) ⟨rfl, rfl, rfl, rfl, rfl, by decide +kernel⟩ ?hw ?hc
  case hw => w_witness2
  case hc =>
    exact Zy.law_end (l := PySem.Challenge.rw_stagesfull_k59_work_with_falls) (k := 5) (x := "script") (lf := Zy.stagesfull_k59_work_with_falls.f_law) rfl (by kernel_rfl) ⟨rfl, by decide, by decide⟩ Zy.stagesfull_k59_work_with_falls.text (List.mem_of_getElem? (i := 9) rfl) rfl rfl ⟨rfl, rfl⟩ (by kernel_rfl) (fun _ _ _ _ _ _ us hl => match us, hl with | [_], _ => rfl) h
set_option maxHeartbeats 0
namespace Zy.stagesfull_k59_work_with_falls
open PySem PySem.Spec PyProof.Rows L2 Zy
def y_time_with_falls (C : Str → Sem1) : ZS :=
  (zSeq (zFrz [] (zRet (zOp gIx (zCall (C "_outcome") 4 0 [0, 1, 2, 3] [] (sCons (zSv 0) (sCons (zSv 1) (sCons (zSv 2) (sCons (zSv 3) sNil)))) sNil) (zK (.int 0)))))
      zNx)
theorem e_time_with_falls (k : Nat) : callF fns px (k + 1) "time_with_falls" = zFun 4 4 (y_time_with_falls (callF fns px k)) := by kernel_rfl
def y_units_again (C : Str → Sem1) : ZS :=
  (zSeq (zFrz [] (zRet (zOp gIx (zCall (C "_outcome") 4 0 [0, 1, 2, 3] [] (sCons (zSv 0) (sCons (zSv 1) (sCons (zSv 2) (sCons (zSv 3) sNil)))) sNil) (zK (.int 1)))))
      zNx)
theorem e_units_again (k : Nat) : callF fns px (k + 1) "units_again" = zFun 4 4 (y_units_again (callF fns px k)) := by kernel_rfl
def y_least_every (C : Str → Sem1) : ZS :=
  (zSeq (zFrz [] (zSet 3 (zLc (zRng2 (zCons (zK (.int 1)) (zCons (zOp gAdd (zCv 0) (zK (.int 1))) zNil))) (tgN 4) (fun _ M => .ok true M) (zCall (C "time_with_falls") 4 0 [0, 1, 2, 3] [] (sCons (zSv 0) (sCons (zSv 4) (sCons (zSv 1) (sCons (zSv 2) sNil)))) sNil) [4])))
      (zSeq (zFrz [] (zRet (zOp gAdd (zIdx (zCv 3) (zBf gMin (zCons (zCv 3) zNil))) (zK (.int 1)))))
      zNx))
theorem e_least_every (k : Nat) : callF fns px (k + 1) "least_every" = zFun 3 5 (y_least_every (callF fns px k)) := by kernel_rfl
def y__outcome (C : Str → Sem1) : ZS :=
  (zSeq (zFrz [] (zSet 4 (zK (.int 0))))
      (zSeq (zFrz [] (zSet 5 (zK (.int 0))))
      (zSeq (zFrz [] (zSet 6 (zK (.int 0))))
      (zSeq (zFrz [] (zFor (zSeqI (zBv 3)) (tgN 7)
    (zSeq (zFrz [] (zIfS (zTst (zOp gLe (zOp gAdd (zCv 4) (zCall (C "_time_left") 3 0 [0, 1, 2] [] (sCons (zVl (zOp gSub (zCv 0) (zCv 5))) (sCons (zSv 1) (sCons (zSv 2) sNil))) sNil)) (zCv 7)))
    (zSeq (zFrz [] zBk)
      zNx)
    zNx))
      (zSeq (zFrz [] (zSet 8 (zOp gFdiv (zOp gSub (zCv 7) (zCv 4)) (zOp gAdd (zCv 1) (zCv 2)))))
      (zSeq (zFrz [] (zAugN 5 (fun i j => i + j) (zOp gMul (zCv 8) (zCv 1))))
      (zSeq (zFrz [] (zAugN 6 (fun i j => i + j) (zBf gMin2 (zCons (zCv 1) (zCons (zOp gMod (zOp gSub (zCv 7) (zCv 4)) (zOp gAdd (zCv 1) (zCv 2))) zNil)))))
      (zSeq (zFrz [] (zSet 4 (zVar 7)))
      zNx)))))))
      (zSeq (zFrz [] (zRet (zTup (zCons (zOp gAdd (zCv 4) (zCall (C "_time_left") 3 0 [0, 1, 2] [] (sCons (zVl (zOp gSub (zCv 0) (zCv 5))) (sCons (zSv 1) (sCons (zSv 2) sNil))) sNil)) (zCons (zVar 6) zNil)))))
      zNx)))))
theorem e__outcome (k : Nat) : callF fns px (k + 1) "_outcome" = zFun 4 9 (y__outcome (callF fns px k)) := by kernel_rfl
def y__time_left (C : Str → Sem1) : ZS :=
  (zSeq (zFrz [] (zIfS (zTst (zOp gEq (zCv 0) (zK (.int 0))))
    (zSeq (zFrz [] (zRet (zK (.int 0))))
      zNx)
    zNx))
      (zSeq (zFrz [] (zRet (zOp gAdd (zCv 0) (zOp gMul (zCv 2) (zOp gFdiv (zOp gSub (zCv 0) (zK (.int 1))) (zCv 1))))))
      zNx))
theorem e__time_left (k : Nat) : callF fns px (k + 1) "_time_left" = zFun 3 3 (y__time_left (callF fns px k)) := by kernel_rfl
def y__law_draws (C : Str → Sem1) : ZS :=
  (zSeq (zFrz [] (zSetO 2 (zLc (zSeqI (zBv 0)) (tgN 5) (fun _ M => .ok true M) (zBf gAbs (zCons (zBf gInt (zCons (zCv 5) zNil)) zNil)) [5])))
      (zSeq (zFrz [] (zSetO 3 (zLst zNil)))
      (zSeq (zFrz [] (zFor (zRng1 (zCons (zVar 1) zNil)) (tgN 4)
    (zSeq (zFrz [] (zSet 5 (zVar 4)))
      (zSeq (zFrz [] (zIfS (zTst (zOp gGt (zBf gLen (zCons (zCv 0) zNil)) (zK (.int 0))))
    (zSeq (zFrz [] (zSet 7 (zOp gMod (zCv 4) (zBf gLen (zCons (zCv 0) zNil)))))
      (zSeq (zFrz [] (zSet 5 (zBf gInt (zCons (zOp gIx (zCv 0) (zCv 7)) zNil))))
      (zSeq (zFrz [] (zIfS (zAnd (zTst (zOp gGe (zCv 5) (zOp gPow (zK (.int 10)) (zK (.int 18))))) (zTst (zOp gGt (zOp gIx (zCv 2) (zCv 7)) (zK (.int 0)))))
    (zSeq (zFrz [] (zApp 3 (zOp gMod (zBf gInt (zCons (zOp gIx (zCv 2) (zCv 7)) zNil)) (zK (.int 1000003)))))
      (zSeq (zFrz [] (zPut 2 (zOp gFdiv (zBf gInt (zCons (zOp gIx (zCv 2) (zCv 7)) zNil)) (zK (.int 1000003))) (zVar 7)))
      (zSeq (zFrz [] zCt)
      zNx)))
    zNx))
      zNx)))
    zNx))
      (zSeq (zFrz [] (zSet 6 (zOp gMod (zBf gInt (zCons (zOp gAdd (zOp gAdd (zOp gMul (zCv 5) (zK (.int 48271))) (zOp gMul (zCv 4) (zK (.int 69621)))) (zK (.int 11))) zNil)) (zK (.int 2147483647)))))
      (zSeq (zFrz [] (zSet 6 (zOp gMod (zBf gInt (zCons (zOp gAdd (zOp gFdiv (zOp gMul (zCv 6) (zCv 6)) (zK (.int 4096))) (zCv 6)) zNil)) (zK (.int 2147483629)))))
      (zSeq (zFrz [] (zApp 3 (zOp gMod (zBf gInt (zCons (zOp gAdd (zOp gFdiv (zOp gMul (zCv 6) (zCv 6)) (zK (.int 4096))) (zOp gMul (zCv 4) (zK (.int 7919)))) zNil)) (zK (.int 2147483629)))))
      zNx)))))))
      (zSeq (zFrz [3] (zRet (zVar 3)))
      zNx))))
theorem e__law_draws (k : Nat) : callF fns px (k + 1) "_law_draws" = zFun 2 8 (y__law_draws (callF fns px k)) := by kernel_rfl
def y__law_take (C : Str → Sem1) : ZS :=
  (zSeq (zFrz [] (zSet 2 (zOp gIx (zCv 0) (zK (.int 1)))))
      (zSeq (zFrz [] (zPut 0 (zOp gAdd (zCv 2) (zK (.int 1))) (zK (.int 1))))
      (zSeq (zFrz [] (zSet 3 (zOp gIx (zCv 0) (zK (.int 0)))))
      (zSeq (zFrz [] (zIfS (zTst (zOp gGe (zCv 2) (zBf gLen (zCons (zCv 3) zNil))))
    (zSeq (zFrz [] (zRet (zK (.int 0))))
      zNx)
    zNx))
      (zSeq (zFrz [] (zRet (zOp gMod (zOp gFdiv (zBf gInt (zCons (zOp gIx (zCv 3) (zCv 2)) zNil)) (zK (.int 7))) (zCv 1))))
      zNx)))))
theorem e__law_take (k : Nat) : callF fns px (k + 1) "_law_take" = zFun 2 4 (y__law_take (callF fns px k)) := by kernel_rfl
def y__law_runs (C : Str → Sem1) : ZS :=
  (zSeq (zFrz [] (zSet 4 (zK (.int 0))))
      (zSeq (zFrz [] (zSet 5 (zK (.int 0))))
      (zSeq (zFrz [] (zSet 6 (zK (.int 0))))
      (zSeq (zFrz [] (zSet 7 (zK (.int 0))))
      (zSeq (zFrz [] (zFor (zRng1 (zCons (zOp gAdd (zOp gAdd (zCv 0) (zBf gLen (zCons (zCv 3) zNil))) (zK (.int 1))) zNil)) (tgN 8)
    (zSeq (zFrz [] (zIfS (zTst (zOp gGe (zCv 5) (zCv 0)))
    (zSeq (zFrz [] zBk)
      zNx)
    zNx))
      (zSeq (zFrz [] (zSet 9 (zBf gMin2 (zCons (zCv 1) (zCons (zOp gSub (zCv 0) (zCv 5)) zNil)))))
      (zSeq (zFrz [] (zSet 10 (zOp gAdd (zCv 4) (zCv 9))))
      (zSeq (zFrz [] (zIfS (zTst (zOp gLt (zOp gAdd (zCv 5) (zCv 9)) (zCv 0)))
    (zSeq (zFrz [] (zSet 10 (zOp gAdd (zCv 10) (zCv 2))))
      zNx)
    zNx))
      (zSeq (zFrz [] (zWh (zAnd (zTst (zOp gLt (zCv 7) (zBf gLen (zCons (zCv 3) zNil)))) (zTst (zOp gLe (zOp gIx (zCv 3) (zCv 7)) (zCv 4))))
    (zSeq (zFrz [] (zSet 7 (zOp gAdd (zCv 7) (zK (.int 1)))))
      zNx) 100000))
      (zSeq (zFrz [] (zIfS (zAnd (zTst (zOp gLt (zCv 7) (zBf gLen (zCons (zCv 3) zNil)))) (zTst (zOp gLt (zOp gIx (zCv 3) (zCv 7)) (zCv 10))))
    (zSeq (zFrz [] (zSet 6 (zOp gAdd (zCv 6) (zBf gMin2 (zCons (zCv 9) (zCons (zOp gSub (zOp gIx (zCv 3) (zCv 7)) (zCv 4)) zNil))))))
      (zSeq (zFrz [] (zSet 4 (zOp gIx (zCv 3) (zCv 7))))
      zNx))
    (zSeq (zFrz [] (zSet 4 (zVar 10)))
      (zSeq (zFrz [] (zSet 5 (zOp gAdd (zCv 5) (zCv 9))))
      zNx))))
      zNx))))))))
      (zSeq (zFrz [] (zRet (zLst (zCons (zVar 4) (zCons (zVar 6) zNil)))))
      zNx))))))
theorem e__law_runs (k : Nat) : callF fns px (k + 1) "_law_runs" = zFun 4 11 (y__law_runs (callF fns px k)) := by kernel_rfl
def y__law_drawn_falls (C : Str → Sem1) : ZS :=
  (zSeq (zFrz [] (zSetO 4 (zLst zNil)))
      (zSeq (zFrz [] (zSet 5 (zK (.int 0))))
      (zSeq (zFrz [] (zFor (zRng1 (zCons (zOp gIx (zLst (zCons (zK (.int 0)) (zCons (zK (.int 1)) (zCons (zK (.int 2)) (zCons (zK (.int 3)) (zCons (zK (.int 6)) (zCons (zK (.int 20)) zNil))))))) (zCall (C "_law_take") 2 0 [0, 1] [] (sCons (zSv 0) (sCons (zVl (zK (.int 6))) sNil)) sNil)) zNil)) (tgN 6)
    (zSeq (zFrz [] (zSet 7 (zOp gAdd (zK (.int 1)) (zOp gIx (zLst (zCons (zCall (C "_law_take") 2 0 [0, 1] [] (sCons (zSv 0) (sCons (zVl (zK (.int 4))) sNil)) sNil) (zCons (zCall (C "_law_take") 2 0 [0, 1] [] (sCons (zSv 0) (sCons (zVl (zOp gAdd (zCv 1) (zK (.int 3)))) sNil)) sNil) (zCons (zOp gSub (zOp gAdd (zCv 2) (zCv 3)) (zK (.int 1))) (zCons (zOp gSub (zCv 2) (zK (.int 1))) zNil))))) (zCall (C "_law_take") 2 0 [0, 1] [] (sCons (zSv 0) (sCons (zVl (zK (.int 4))) sNil)) sNil)))))
      (zSeq (zFrz [] (zSet 5 (zOp gAdd (zCv 5) (zBf gMax2 (zCons (zK (.int 1)) (zCons (zCv 7) zNil))))))
      (zSeq (zFrz [] (zApp 4 (zVar 5)))
      zNx)))))
      (zSeq (zFrz [4] (zRet (zVar 4)))
      zNx))))
theorem e__law_drawn_falls (k : Nat) : callF fns px (k + 1) "_law_drawn_falls" = zFun 4 8 (y__law_drawn_falls (callF fns px k)) := by kernel_rfl
def y_law (C : Str → Sem1) : ZS :=
  (zSeq (zFrz [] (zSetC 1 (zLst (zCons (zCall (C "_law_draws") 2 0 [0, 1] [] (sCons (zSv 0) (sCons (zVl (zK (.int 100))) sNil)) sNil) (zCons (zK (.int 0)) zNil)))))
      (zSeq (zFrz [] (zFor (zRng1 (zCons (zK (.int 3)) zNil)) (tgN 2)
    (zSeq (zFrz [] (zSet 3 (zOp gIx (zLst (zCons (zCall (C "_law_take") 2 0 [0, 1] [] (sCons (zSv 1) (sCons (zVl (zK (.int 12))) sNil)) sNil) (zCons (zCall (C "_law_take") 2 0 [0, 1] [] (sCons (zSv 1) (sCons (zVl (zK (.int 201))) sNil)) sNil) zNil))) (zCall (C "_law_take") 2 0 [0, 1] [] (sCons (zSv 1) (sCons (zVl (zK (.int 2))) sNil)) sNil))))
      (zSeq (zFrz [] (zSet 4 (zOp gAdd (zK (.int 1)) (zOp gIx (zLst (zCons (zCall (C "_law_take") 2 0 [0, 1] [] (sCons (zSv 1) (sCons (zVl (zK (.int 5))) sNil)) sNil) (zCons (zCall (C "_law_take") 2 0 [0, 1] [] (sCons (zSv 1) (sCons (zVl (zOp gAdd (zCv 3) (zK (.int 2)))) sNil)) sNil) zNil))) (zCall (C "_law_take") 2 0 [0, 1] [] (sCons (zSv 1) (sCons (zVl (zK (.int 2))) sNil)) sNil)))))
      (zSeq (zFrz [] (zSet 5 (zOp gIx (zLst (zCons (zCall (C "_law_take") 2 0 [0, 1] [] (sCons (zSv 1) (sCons (zVl (zK (.int 4))) sNil)) sNil) (zCons (zCall (C "_law_take") 2 0 [0, 1] [] (sCons (zSv 1) (sCons (zVl (zK (.int 51))) sNil)) sNil) (zCons (zK (.int 0)) zNil)))) (zCall (C "_law_take") 2 0 [0, 1] [] (sCons (zSv 1) (sCons (zVl (zK (.int 3))) sNil)) sNil))))
      (zSeq (zFrz [] (zSet 6 (zCall (C "_law_drawn_falls") 4 0 [0, 1, 2, 3] [] (sCons (zSv 1) (sCons (zSv 3) (sCons (zSv 4) (sCons (zSv 5) sNil)))) sNil)))
      (zSeq (zFrz [] (zSet 7 (zOp gIx (zLst (zCons (zVar 6) (zCons (zTupOf (zCv 6)) zNil))) (zCall (C "_law_take") 2 0 [0, 1] [] (sCons (zSv 1) (sCons (zVl (zK (.int 2))) sNil)) sNil))))
      (zSeq (zFrz [] (zAsg (tgT [10, 11]) (zCall (C "_law_runs") 4 0 [0, 1, 2, 3] [] (sCons (zSv 3) (sCons (zSv 4) (sCons (zSv 5) (sCons (zSv 6) sNil)))) sNil)))
      (zSeq (zFrz [] (zIfS (zTst (zOp gNe (zBf gRepr (zCons (zCall (C "time_with_falls") 0 4 [0, 1, 2, 3] [] sNil (sCons (zSv 3) (sCons (zSv 4) (sCons (zSv 5) (sCons (zSv 7) sNil))))) zNil)) (zBf gRepr (zCons (zCv 10) zNil))))
    (zSeq (zFrz [] (zRet (zK (.bl false))))
      zNx)
    zNx))
      (zSeq (zFrz [] (zIfS (zOr (zTst (zOp gNe (zBf gRepr (zCons (zCall (C "units_again") 0 4 [0, 1, 2, 3] [] sNil (sCons (zSv 3) (sCons (zSv 4) (sCons (zSv 5) (sCons (zSv 7) sNil))))) zNil)) (zBf gRepr (zCons (zCv 11) zNil)))) (zTst (zOp gNe (zLstOf (zCv 7)) (zCv 6))))
    (zSeq (zFrz [] (zRet (zK (.bl false))))
      zNx)
    zNx))
      (zSeq (zFrz [] (zIfS (zAnd (zTst (zOp gGt (zCv 3) (zK (.int 0)))) (zTst (zOp gNe (zCall (C "time_with_falls") 4 0 [0, 1, 2, 3] [] (sCons (zSv 3) (sCons (zSv 4) (sCons (zSv 5) (sCons (zVl (zLst zNil)) sNil)))) sNil) (zOp gAdd (zCv 3) (zOp gMul (zCv 5) (zOp gFdiv (zOp gSub (zCv 3) (zK (.int 1))) (zCv 4)))))))
    (zSeq (zFrz [] (zRet (zK (.bl false))))
      zNx)
    zNx))
      (zSeq (zFrz [] (zSet 8 (zOp gAdd (zK (.int 1)) (zOp gMod (zBf gInt (zCons (zCv 3) zNil)) (zK (.int 25))))))
      (zSeq (zFrz [] (zSet 9 (zLc (zRng2 (zCons (zK (.int 1)) (zCons (zOp gAdd (zCv 8) (zK (.int 1))) zNil))) (tgN 12) (fun _ M => .ok true M) (zOp gIx (zCall (C "_law_runs") 4 0 [0, 1, 2, 3] [] (sCons (zSv 8) (sCons (zSv 12) (sCons (zSv 5) (sCons (zSv 6) sNil)))) sNil) (zK (.int 0))) [12])))
      (zSeq (zFrz [] (zIfS (zTst (zOp gNe (zBf gRepr (zCons (zCall (C "least_every") 0 3 [0, 1, 2] [] sNil (sCons (zSv 8) (sCons (zSv 5) (sCons (zSv 7) sNil)))) zNil)) (zBf gRepr (zCons (zOp gAdd (zK (.int 1)) (zIdx (zCv 9) (zBf gMin (zCons (zCv 9) zNil)))) zNil))))
    (zSeq (zFrz [] (zRet (zK (.bl false))))
      zNx)
    zNx))
      zNx))))))))))))))
      (zSeq (zFrz [] (zRet (zK (.bl true))))
      zNx)))
theorem e_law (k : Nat) : callF fns px (k + 1) "law" = zFun 1 13 (y_law (callF fns px k)) := by kernel_rfl
end Zy.stagesfull_k59_work_with_falls
set_option maxHeartbeats 2000000
namespace Zy
open PySem PySem.Spec PyProof.Rows L2
def gBody (T Df R Tw Ua Le : Sem1) : ZS :=
    (zSeq (zFrz [] (g3 T))
      (zSeq (zFrz [] (g4 T))
      (zSeq (zFrz [] (g5 T))
      (zSeq (zFrz [] (g6 Df))
      (zSeq (zFrz [] (g7 T))
      (zSeq (zFrz [] (g8 R))
      (zSeq (zFrz [] (g9 Tw))
      (zSeq (zFrz [] (g10 Ua))
      (zSeq (zFrz [] (g11 Tw))
      (zSeq (zFrz [] g12)
      (zSeq (zFrz [] (g13 R))
      (zSeq (zFrz [] (g14 Le))
      zNx))))))))))))
theorem mul_le2 {a b : Int} {x y : Int} (h0 : 0 ≤ a) (h1 : a ≤ x) (h2 : 0 ≤ b) (h3 : b ≤ y) : a * b ≤ x * y := Int.mul_le_mul h1 h3 h2 (by omega)
theorem gBody_ok {T Df R Tw Ua Le : Sem1} (hT : TakeOk T) (hD : DfOk Df) (hR : RunsOk R) (hTw : TwOk Tw) (hUa : UaOk Ua) (hLe : LeOk Le) {a0 e2 e3 e4 e5 e6 e7 e8 e9 e10 e11 : Sl} {M : Sto} (hM : Hd M) :
    ∃ e3' e4' e5' e6' e7' e8' e9' e10' e11' M', Hd M' ∧ gBody T Df R Tw Ua Le (lG a0 e2 e3 e4 e5 e6 e7 e8 e9 e10 e11 .no) M = .nx (lG a0 e2 e3' e4' e5' e6' e7' e8' e9' e10' e11' .no) M' := by
  obtain ⟨w, M1, w0, w1, k1, s3⟩ := g3_ok (a0 := a0) (e2 := e2) (e3 := e3) (e4 := e4) (e5 := e5) (e6 := e6) (e7 := e7) (e8 := e8) (e9 := e9) (e10 := e10) (e11 := e11) (e12 := .no) hT hM
  obtain ⟨e, M2, he0, he1, k2, s4⟩ := g4_ok (a0 := a0) (e2 := e2) (e4 := e4) (e5 := e5) (e6 := e6) (e7 := e7) (e8 := e8) (e9 := e9) (e10 := e10) (e11 := e11) (e12 := .no) hT k1 w0 w1
  obtain ⟨c, M3, c0, c1, k3, s5⟩ := g5_ok (a0 := a0) (e2 := e2) (e3 := .val (.int w)) (e4 := .val (.int e)) (e5 := e5) (e6 := e6) (e7 := e7) (e8 := e8) (e9 := e9) (e10 := e10) (e11 := e11) (e12 := .no) hT k2
  obtain ⟨fl, M4, hF, k4, s6⟩ := g6_ok (a0 := a0) (e2 := e2) (e6 := e6) (e7 := e7) (e8 := e8) (e9 := e9) (e10 := e10) (e11 := e11) (e12 := .no) hD k3 w0 w1 he0 he1 c0 c1
  obtain ⟨d, M5, hd, hp, k5, s7⟩ := g7_ok (a0 := a0) (e2 := e2) (e3 := .val (.int w)) (e4 := .val (.int e)) (e5 := .val (.int c)) (e7 := e7) (e8 := e8) (e9 := e9) (e10 := e10) (e11 := e11) (e12 := .no) (fl := fl) hT k4
  obtain ⟨t, l, ⟨t0, t1, l0, l1⟩, o, r⟩ := hR M5 w e c 8000 fl w0 (by omega) he0 c0 hF
  have s8 := g8_ok (a0 := a0) (e2 := e2) (e7 := .val d) (e8 := e8) (e9 := e9) (e10 := e10) (e11 := e11) (e12 := .no) r
  have hcw : c * w ≤ 50 * 200 := mul_le2 c0 c1 w0 w1
  have hel : e * (fl.length : Int) ≤ 250 * 100 := mul_le2 (by omega) he1 (by omega) (by have := hF.len; omega)
  have rt : ReprOk (.int t) := (RD.int2 (i := t) t0 (by omega)).repr (by decide) (by decide)
  have rl : ReprOk (.int l) := (RD.int2 (i := l) l0 (by omega)).repr (by decide) (by decide)
  have h9 := hTw M5 w e c d fl hd he0 (by omega) c0 (by omega)
  rw [o] at h9
  have h10 := hUa M5 w e c d fl hd he0 (by omega) c0 (by omega)
  rw [o] at h10
  have s9 := g9_ok (a0 := a0) (e2 := e2) (e6 := .val (.lst (fl.map .int))) (e8 := e8) (e9 := e9) (e11 := .val (.int l)) (e12 := .no) h9 rt
  have s10 := g10_ok (a0 := a0) (e2 := e2) (e8 := e8) (e9 := e9) (e10 := .val (.int t)) (e12 := .no) h10 rl hd hp
  have s11 := g11_ok (a0 := a0) (e2 := e2) (e6 := .val (.lst (fl.map .int))) (e7 := .val d) (e8 := e8) (e9 := e9) (e10 := .val (.int t)) (e11 := .val (.int l)) (e12 := .no) (M := M5) hTw w0 he0 he1 c0 c1
  have s12 := g12_ok (a0 := a0) (e2 := e2) (w := w) (e4 := .val (.int e)) (e5 := .val (.int c)) (e6 := .val (.lst (fl.map .int))) (e7 := .val d) (e8 := e8) (e9 := e9) (e10 := .val (.int t)) (e11 := .val (.int l)) (e12 := .no) (M := M5)
  have v0 : 1 ≤ 1 + w % 25 := by omega
  have v1 : 1 + w % 25 ≤ 25 := by omega
  have s13 := g13_ok (a0 := a0) (e2 := e2) (e3 := .val (.int w)) (e4 := .val (.int e)) (e7 := .val d) (e9 := e9) (e10 := .val (.int t)) (e11 := .val (.int l)) (e12 := .no) (M := M5) hR hF v0 (by omega) c0 rfl
  have h14 := hLe M5 (1 + w % 25) c d fl hd v0 (by omega) c0 (by omega)
  have s14 := g14_ok (a0 := a0) (e2 := e2) (e3 := .val (.int w)) (e4 := .val (.int e)) (e6 := .val (.lst (fl.map .int))) (e10 := .val (.int t)) (e11 := .val (.int l)) (e12 := .no) h14 (tims_ne v0) (by rw [tims_len]; omega)
  refine ⟨.val (.int w), .val (.int e), .val (.int c), .val (.lst (fl.map .int)), .val d, .val (.int (1 + w % 25)), .val (.lst ((tims (1 + w % 25) c fl).map .int)), .val (.int t), .val (.int l), M5, k5, ?_⟩
  unfold gBody
  simp only [zSeq_z, zFrz_z, s3, s4, s5, s6, s7, s8, s9, s10, s11, s12, s13, s14, zNx_z]
theorem gLoop_ok {T Df R Tw Ua Le : Sem1} (hT : TakeOk T) (hD : DfOk Df) (hR : RunsOk R) (hTw : TwOk Tw) (hUa : UaOk Ua) (hLe : LeOk Le) {a0 : Sl} {M : Sto} (hM : Hd M) :
    ∃ env M', zFor (zRng1 (zCons (zK (.int 3)) zNil)) (tgN 2) (gBody T Df R Tw Ua Le) (lG a0 .no .no .no .no .no .no .no .no .no .no .no) M = .nx env M' := by
  have hb := fun (e2 e3 e4 e5 e6 e7 e8 e9 e10 e11 : Sl) (M : Sto) (hM : Hd M) => gBody_ok (a0 := a0) (e2 := e2) (e3 := e3) (e4 := e4) (e5 := e5) (e6 := e6) (e7 := e7) (e8 := e8) (e9 := e9) (e10 := e10) (e11 := e11) hT hD hR hTw hUa hLe hM
  generalize gBody T Df R Tw Ua Le = y at hb
  have hz : zRng1 (zCons (zK (.int 3)) zNil) (lG a0 .no .no .no .no .no .no .no .no .no .no .no) M = .ok (stpD 0 1 3) M := by
    simp only [zRng1_z, zCons_z, zNil_z, zK_z, Res.bind_ok]
    exact rngR_nat 3 (by decide)
  refine zFor_gen (I := fun i env M' => ∃ e2 e3 e4 e5 e6 e7 e8 e9 e10 e11, env = lG a0 e2 e3 e4 e5 e6 e7 e8 e9 e10 e11 .no ∧ Hd M') (Q := fun o => ∃ env M', o = .nx env M') hz ⟨.no, .no, .no, .no, .no, .no, .no, .no, .no, .no, rfl, hM⟩ (fun i x env M' hi hI => ?_) fun env M' hI => ⟨_, _, rfl⟩
  obtain ⟨e2, e3, e4, e5, e6, e7, e8, e9, e10, e11, rfl, h⟩ := hI
  obtain ⟨u3, u4, u5, u6, u7, u8, u9, u10, u11, M2, h2, w⟩ := hb (.val x) e3 e4 e5 e6 e7 e8 e9 e10 e11 M' h
  refine ⟨lG a0 (.val x) e3 e4 e5 e6 e7 e8 e9 e10 e11 .no, rfl, ?_⟩
  rw [w]
  exact ⟨_, _, _, _, _, _, _, _, _, _, rfl, h2⟩
def DrOk (f : Sem1) (m : Nat) : Prop := ∀ M (ns : List Int), ns.length ≤ 1000 → ∃ ds : List Int, f [.val (.scr ns), .val (.int m)] M = .ok (.lst (ds.map .int)) M
theorem law59_seq {A : Sem1} {y : ZS} (hA : DrOk A 100) {ns : List Int} (hns : ns.length ≤ 1000) (hy : ∀ a0 M, Hd M → ∃ env M', y (lG a0 .no .no .no .no .no .no .no .no .no .no .no) M = .nx env M') :
    ∃ M', zFun 1 13 (zSeq (zFrz [] (zSetC 1 (zLst (zCons (zCall A 2 0 [0, 1] [] (sCons (zSv 0) (sCons (zVl (zK (.int 100))) sNil)) sNil) (zCons (zK (.int 0)) zNil)))))
      (zSeq (zFrz [] y) (zSeq (zFrz [] (zRet (zK (.bl true)))) zNx))) [.val (.scr ns)] [] = .ok (.bl true) M' := by
  obtain ⟨ds, a1⟩ := hA [] ns hns
  have h0 : Hd [.lst [.lst (ds.map .int), .int 0]] := ⟨ds, 0, rfl, Int.le_refl _⟩
  obtain ⟨env, M', w⟩ := hy (.val (.scr ns)) _ h0
  refine ⟨M', ?_⟩
  have a1' : A [.val (.scr ns), .val (.int 100)] [] = .ok (.lst (ds.map .int)) [] := a1
  unfold lG at w
  unfold zFun
  rw [if_pos (show [Sl.val (.scr ns)].length = 1 from rfl)]
  simp only [zSeq_z, zFrz_z, zSetC_z, zLst_z, zCons_z, zNil_z, zCall_z, sCons_z, sNil_z, zSv_z, zVl_z, zK_z, List.cons_append, List.nil_append, Nat.reduceSub, List.replicate_succ, List.replicate_zero, List.getElem?_cons_succ, List.getElem?_cons_zero, Res.bind_ok, callR2, a1', List.length_cons, List.length_nil, Nat.zero_add, Nat.reduceAdd, sz2, if_true, Res.toS_ok, List.set_cons_succ, List.set_cons_zero, w, zRet_z]
namespace stagesfull_k59_work_with_falls
theorem take_at (k : Nat) : TakeOk (callF fns px (k + 1) "_law_take") := by
  rw [e__law_take k]
  exact takeOk
theorem draws_at (k : Nat) : DrOk (callF fns px (k + 1) "_law_draws") 100 := by
  rw [e__law_draws k]
  exact fun M ns h => draws_ok (m := 100) h (by decide)
theorem tl_at (k : Nat) : TlOk (callF fns px (k + 1) "_time_left") := by
  rw [e__time_left k]
  exact tlOk
theorem out_at (k : Nat) : OutOk (callF fns px (k + 1 + 1) "_outcome") := by
  rw [e__outcome (k + 1)]
  exact outOk (tl_at k)
theorem tw_at (k : Nat) : TwOk (callF fns px (k + 1 + 1 + 1) "time_with_falls") := by
  rw [e_time_with_falls (k + 1 + 1)]
  exact twOk (out_at k)
theorem ua_at (k : Nat) : UaOk (callF fns px (k + 1 + 1 + 1) "units_again") := by
  rw [e_units_again (k + 1 + 1)]
  exact uaOk (out_at k)
theorem le_at (k : Nat) : LeOk (callF fns px (k + 1 + 1 + 1 + 1) "least_every") := by
  rw [e_least_every (k + 1 + 1 + 1)]
  exact leOk (tw_at k)
theorem runs_at (k : Nat) : RunsOk (callF fns px (k + 1) "_law_runs") := by
  rw [e__law_runs k]
  exact runsOk
theorem df_at (k : Nat) : DfOk (callF fns px (k + 1 + 1) "_law_drawn_falls") := by
  rw [e__law_drawn_falls (k + 1)]
  exact dfOk (take_at k)
theorem law_true (C : Str → Sem1) (h1 : DrOk (C "_law_draws") 100) (h2 : TakeOk (C "_law_take")) (h3 : DfOk (C "_law_drawn_falls")) (h4 : RunsOk (C "_law_runs")) (h5 : TwOk (C "time_with_falls")) (h6 : UaOk (C "units_again")) (h7 : LeOk (C "least_every"))
    {ns : List Int} (hns : ns.length ≤ 1000) : ∃ M', zFun 1 13 (y_law C) [.val (.scr ns)] [] = .ok (.bl true) M' :=
  law59_seq h1 hns (y := zFor (zRng1 (zCons (zK (.int 3)) zNil)) (tgN 2) (gBody (C "_law_take") (C "_law_drawn_falls") (C "_law_runs") (C "time_with_falls") (C "units_again") (C "least_every"))) fun a0 M hM => gLoop_ok h2 h3 h4 h5 h6 h7 hM
theorem means : meaning := fun ns h => by
  rw [e_law 4]
  exact law_true _ (draws_at 3) (take_at 3) (df_at 2) (runs_at 3) (tw_at 1) (ua_at 1) (le_at 0) (by omega)
end stagesfull_k59_work_with_falls
end Zy
theorem PySem.Challenge.cw_stagesfull_k59_work_with_falls_holds : PySem.Challenge.rw_stagesfull_k59_work_with_falls.Holds := by
  exact Zy.stagesfull_k59_work_with_falls.ends Zy.stagesfull_k59_work_with_falls.means
