import PyProof.Rows.All
import Wide.All
import OpenK.AllK
import Wide.FinOn
import HandS.CallSlots
import HandS.Conv
import HandS.Deep
import HandS.Defaults
import HandS.Dict
import HandS.ExcField
import HandS.ExcInit
import HandS.ExcSuper
import HandS.ForExc
import HandS.ForMost
import HandS.Gcd
import HandS.Head2
import HandS.HeadEnd
import HandS.HeadHook2
import HandS.HeadHook4
import HandS.IsInst
import HandS.NoneIn
import HandS.Property
import HandS.Rev
import HandS.RevRange
import HandS.Small
import HandS.Style
import HandS.TryMany
import HandS.TupAny
import HandS.TupLen
import HandS.TupMul
import HandS.Walk
import HandS.Wide
import HandS.Zip
import KE.GoesEnum
import KE.GoesMore
import KE.KExcIs
import KE.KExcMake
import KE.KExcSuper
import KE.SortData
import PySem.Challenge.RW_stagesfull_k53_whole_two_machines
set_option Elab.async false
set_option linter.all false
set_option maxRecDepth 100000
set_option maxHeartbeats 2000000
namespace Zy
open PySem PySem.Spec PyProof.Rows L2

abbrev St := L2.St
/-! plain data -/
inductive D where
  | non | bl (b : Bool) | int (i : Int) | str (s : Str)
  | tup (ds : List D) | lst (ds : List D)
  | dK (kvs : List (Key × D)) | dT (kvs : List (List Key × D))
  | ins (c : String) (fs : List (Str × D)) | ref (i : Nat) | scr (ns : List Int)
  | exn (c : String) (fs : List (Str × D))

abbrev Sto := List D
inductive Sl where
  | no | val (d : D) | own (d : D) | bor (d : D)
abbrev Ev := List Sl
inductive Res (α : Type) where
  | ok (a : α) (M : Sto) | exc (c : String) (fs : List (Str × D)) (M : Sto) | fail
def Res.bind {α β : Type} : Res α → (α → Sto → Res β) → Res β
  | .ok a M, k => k a M
  | .exc c fs M, _ => .exc c fs M
  | .fail, _ => .fail
@[simp] theorem Res.bind_ok {α β : Type} (a : α) (M : Sto) (k : α → Sto → Res β) : (Res.ok a M).bind k = k a M := id rfl
@[simp] theorem Res.bind_exc {α β : Type} (c : String) (fs : List (Str × D)) (M : Sto) (k : α → Sto → Res β) : (Res.exc c fs M : Res α).bind k = .exc c fs M := id rfl
@[simp] theorem Res.bind_fail {α β : Type} (k : α → Sto → Res β) : (Res.fail : Res α).bind k = .fail := id rfl

/-! how data lie in the abstract heap -/
structure Gh where
  K : PySem.W.Frag
  cl : String → Option Addr
  N : Addr → Prop
  ph : List Addr
def Gh.off (G : Gh) (a : Addr) : Prop := G.N a ∨ a ∈ G.ph

mutual
inductive Rep (G : Gh) (H : Hp) : V → D → Prop
  | non : Rep G H .non .non
  | bl (b : Bool) : Rep G H (.bl b) (.bl b)
  | int (i : Int) : Rep G H (.int i) (.int i)
  | str (s : Str) : Rep G H (.str s) (.str s)
  | tup {a : Addr} {xs : List V} {ds : List D} (h : H a = some (.tup xs)) (n : ¬ G.off a) (r : RepL G H xs ds) : Rep G H (.ref a) (.tup ds)
  | lst {a : Addr} {xs : List V} {ds : List D} (h : H a = some (.lst xs)) (n : ¬ G.off a) (r : RepL G H xs ds) : Rep G H (.ref a) (.lst ds)
  | dK {a : Addr} {ks : List (Key × V)} {kvs : List (Key × D)} (h : H a = some (.dK ks)) (n : ¬ G.off a) (r : RepP G H Key ks kvs) : Rep G H (.ref a) (.dK kvs)
  | dT {a : Addr} {ks : List (List Key × V)} {kvs : List (List Key × D)} (h : H a = some (.dT ks)) (n : ¬ G.off a) (r : RepP G H (List Key) ks kvs) : Rep G H (.ref a) (.dT kvs)
  | ins {a C dx : Addr} {c : String} {f : List (Str × V)} {fs : List (Str × D)} (h : H a = some (.ins C dx f)) (n : ¬ G.off a) (hc : G.cl c = some C) (r : RepP G H Str f fs) : Rep G H (.ref a) (.ins c fs)
  | ref {a : Addr} {i : Nat} (h : G.ph[i]? = some a) : Rep G H (.ref a) (.ref i)
  | scr {a : Addr} {o : Obj} {ns : List Int} (h : H a = some (.frz o (.lst (ns.map V.int)))) (n : ¬ G.off a) : Rep G H (.ref a) (.scr ns)
  | scrK {a : Addr} {ns : List Int} (h : ∀ H', SqL G.K H' a (ns.map V.int)) : Rep G H (.ref a) (.scr ns)
  | exn {a dd C : Addr} {c : String} {f : List (Str × V)} {fs : List (Str × D)} (ha : G.cl "#a" = some a) (hd : G.cl "#d" = some dd) (hC : G.cl "#c" = some C) (hc : G.cl c = some C) (h : H dd = some (.xd f)) (n : ¬ G.off dd) (r : RepP G H Str f fs) : Rep G H (.ref a) (.exn c fs)
inductive RepL (G : Gh) (H : Hp) : List V → List D → Prop
  | nil : RepL G H [] []
  | cons {x : V} {d : D} {xs : List V} {ds : List D} (h : Rep G H x d) (t : RepL G H xs ds) : RepL G H (x :: xs) (d :: ds)
inductive RepP (G : Gh) (H : Hp) : (κ : Type) → List (κ × V) → List (κ × D) → Prop
  | nil {κ : Type} : RepP G H κ [] []
  | cons {κ : Type} {k : κ} {x : V} {d : D} {xs : List (κ × V)} {ds : List (κ × D)} (h : Rep G H x d) (t : RepP G H κ xs ds) : RepP G H κ ((k, x) :: xs) ((k, d) :: ds)
end

inductive Cel (G : Gh) (H : Hp) (a : Addr) : D → Prop
  | lst {xs : List V} {ds : List D} (h : H a = some (.lst xs)) (r : RepL G H xs ds) : Cel G H a (.lst ds)
  | dK {ks : List (Key × V)} {kvs : List (Key × D)} (h : H a = some (.dK ks)) (r : RepP G H Key ks kvs) : Cel G H a (.dK kvs)
  | dT {ks : List (List Key × V)} {kvs : List (List Key × D)} (h : H a = some (.dT ks)) (r : RepP G H (List Key) ks kvs) : Cel G H a (.dT kvs)
  | ins {C dx : Addr} {c : String} {f : List (Str × V)} {fs : List (Str × D)} (h : H a = some (.ins C dx f)) (hc : G.cl c = some C) (r : RepP G H Str f fs) : Cel G H a (.ins c fs)

/-- from one heap to a later one -/
structure Mo (G G' : Gh) (H H' : Hp) : Prop where
  keep : ∀ a o, H a = some o → ¬ G.off a → H' a = some o ∧ ¬ G'.off a
  ph : ∀ (i : Nat) a, G.ph[i]? = some a → G'.ph[i]? = some a
  cl : G'.cl = G.cl
  K : G'.K = G.K

mutual
theorem Rep.mo {G G' : Gh} {H H' : Hp} (m : Mo G G' H H') : ∀ {v : V} {d : D}, Rep G H v d → Rep G' H' v d
  | _, _, .non => .non
  | _, _, .bl b => .bl b
  | _, _, .int i => .int i
  | _, _, .str s => .str s
  | _, _, .tup h n r => .tup (m.keep _ _ h n).1 (m.keep _ _ h n).2 (RepL.mo m r)
  | _, _, .lst h n r => .lst (m.keep _ _ h n).1 (m.keep _ _ h n).2 (RepL.mo m r)
  | _, _, .dK h n r => .dK (m.keep _ _ h n).1 (m.keep _ _ h n).2 (RepP.mo m r)
  | _, _, .dT h n r => .dT (m.keep _ _ h n).1 (m.keep _ _ h n).2 (RepP.mo m r)
  | _, _, .ins h n hc r => .ins (m.keep _ _ h n).1 (m.keep _ _ h n).2 (by rw [m.cl]; exact hc) (RepP.mo m r)
  | _, _, .ref h => .ref (m.ph _ _ h)
  | _, _, .scr h n => .scr (m.keep _ _ h n).1 (m.keep _ _ h n).2
  | _, _, .scrK h => .scrK (by rw [m.K]; exact h)
  | _, _, .exn ha hd hC hc h n r => .exn (by rw [m.cl]; exact ha) (by rw [m.cl]; exact hd) (by rw [m.cl]; exact hC) (by rw [m.cl]; exact hc) (m.keep _ _ h n).1 (m.keep _ _ h n).2 (RepP.mo m r)
theorem RepL.mo {G G' : Gh} {H H' : Hp} (m : Mo G G' H H') : ∀ {xs : List V} {ds : List D}, RepL G H xs ds → RepL G' H' xs ds
  | _, _, .nil => .nil
  | _, _, .cons h t => .cons (Rep.mo m h) (RepL.mo m t)
theorem RepP.mo {G G' : Gh} {H H' : Hp} (m : Mo G G' H H') : ∀ {κ : Type} {xs : List (κ × V)} {ds : List (κ × D)}, RepP G H κ xs ds → RepP G' H' κ xs ds
  | _, _, _, .nil => .nil
  | _, _, _, .cons h t => .cons (Rep.mo m h) (RepP.mo m t)
end
theorem Cel.mo {G G' : Gh} {H H' : Hp} (m : Mo G G' H H') {a : Addr} (k : ∀ o, H a = some o → H' a = some o) {d : D} : Cel G H a d → Cel G' H' a d
  | .lst h r => .lst (k _ h) (r.mo m)
  | .dK h r => .dK (k _ h) (r.mo m)
  | .dT h r => .dT (k _ h) (r.mo m)
  | .ins h hc r => .ins (k _ h) (by rw [m.cl]; exact hc) (r.mo m)
theorem Cel.there {G : Gh} {H : Hp} {a : Addr} {d : D} : Cel G H a d → ∃ o, H a = some o
  | .lst h _ => ⟨_, h⟩
  | .dK h _ => ⟨_, h⟩
  | .dT h _ => ⟨_, h⟩
  | .ins h _ _ => ⟨_, h⟩
/-- a cell that nothing else may change, as a value -/
theorem Cel.rep {G G' : Gh} {H : Hp} {a : Addr} {d : D} (m : Mo G G' H H) (n : ¬ G'.off a) : Cel G H a d → Rep G' H (.ref a) d
  | .lst h r => .lst h n (r.mo m)
  | .dK h r => .dK h n (r.mo m)
  | .dT h r => .dT h n (r.mo m)
  | .ins h hc r => .ins h n (by rw [m.cl]; exact hc) (r.mo m)
theorem RepL.length {G : Gh} {H : Hp} : ∀ {xs : List V} {ds : List D}, RepL G H xs ds → xs.length = ds.length
  | _, _, .nil => rfl
  | _, _, .cons _ t => by rw [List.length_cons, List.length_cons, RepL.length t]
theorem RepP.length {G : Gh} {H : Hp} : ∀ {κ : Type} {xs : List (κ × V)} {ds : List (κ × D)}, RepP G H κ xs ds → xs.length = ds.length
  | _, _, _, .nil => rfl
  | _, _, _, .cons _ t => by rw [List.length_cons, List.length_cons, RepP.length t]
theorem RepL.app {G : Gh} {H : Hp} : ∀ {xs ys : List V} {ds es : List D}, RepL G H xs ds → RepL G H ys es → RepL G H (xs ++ ys) (ds ++ es)
  | _, _, _, _, .nil, s => s
  | _, _, _, _, .cons h t, s => .cons h (RepL.app t s)
theorem RepL.at {G : Gh} {H : Hp} : ∀ {xs : List V} {ds : List D}, RepL G H xs ds → ∀ {i : Nat} {d : D}, ds[i]? = some d → ∃ x, xs[i]? = some x ∧ Rep G H x d
  | _, _, .nil, i, d, e => by simp at e
  | _, _, .cons h t, 0, d, e => by
    have e' := Option.some.inj e
    subst e'
    exact ⟨_, rfl, h⟩
  | _, _, .cons h t, i + 1, d, e => RepL.at t (i := i) (d := d) (by simpa using e)
theorem RepL.at' {G : Gh} {H : Hp} : ∀ {xs : List V} {ds : List D}, RepL G H xs ds → ∀ {i : Nat} {x : V}, xs[i]? = some x → ∃ d, ds[i]? = some d ∧ Rep G H x d
  | _, _, .nil, i, d, e => by simp at e
  | _, _, .cons h t, 0, d, e => by
    have e' := Option.some.inj e
    subst e'
    exact ⟨_, rfl, h⟩
  | _, _, .cons h t, i + 1, d, e => RepL.at' t (i := i) (x := d) (by simpa using e)
theorem RepL.set {G : Gh} {H : Hp} {x : V} {d : D} (h : Rep G H x d) : ∀ {xs : List V} {ds : List D} (i : Nat), RepL G H xs ds → RepL G H (xs.set i x) (ds.set i d)
  | _, _, _, .nil => .nil
  | _, _, 0, .cons _ t => .cons h t
  | _, _, i + 1, .cons q t => .cons q (RepL.set h i t)
theorem RepL.take {G : Gh} {H : Hp} : ∀ {xs : List V} {ds : List D} (n : Nat), RepL G H xs ds → RepL G H (xs.take n) (ds.take n)
  | _, _, 0, _ => .nil
  | _, _, _ + 1, .nil => .nil
  | _, _, n + 1, .cons h t => .cons h (RepL.take n t)
theorem RepL.drop {G : Gh} {H : Hp} : ∀ {xs : List V} {ds : List D} (n : Nat), RepL G H xs ds → RepL G H (xs.drop n) (ds.drop n)
  | _, _, 0, r => r
  | _, _, _ + 1, .nil => .nil
  | _, _, n + 1, .cons _ t => RepL.drop n t

/-! a def running -/
structure Fr where
  K : PySem.W.Frag
  cl : String → Option Addr
  N0 : Addr → Prop
  H0 : Hp
  ph0 : List Addr
def nof (F : Fr) (env : Ev) (σ : St) : Addr → Prop := fun a => F.N0 a ∨ ∃ (i : Nat) (d : D), env[i]? = some (.own d) ∧ σ[i]? = some (some (.ref a))
def gh (F : Fr) (ph : List Addr) (env : Ev) (σ : St) : Gh := ⟨F.K, F.cl, nof F env σ, ph⟩
structure Sim (F : Fr) (ph : List Addr) (M : Sto) (env : Ev) (σ : St) (H : Hp) : Prop where
  len : env.length = σ.length
  pre : ∃ ps, ph = F.ph0 ++ ps ∧ ∀ a ∈ ps, F.H0 a = none
  keep : ∀ a o, F.H0 a = some o → a ∉ F.ph0 → H a = some o
  n0 : ∀ a, F.N0 a → (∃ o, H a = some o) ∧ a ∉ ph
  ml : M.length = ph.length
  nd : ph.Nodup
  sto : ∀ (i : Nat) d, M[i]? = some d → ∃ a, ph[i]? = some a ∧ Cel (gh F ph env σ) H a d
  val : ∀ (i : Nat) d, env[i]? = some (.val d) → ∃ v, σ[i]? = some (some v) ∧ Rep (gh F ph env σ) H v d
  own : ∀ (i : Nat) d, env[i]? = some (.own d) → ∃ a, σ[i]? = some (some (.ref a)) ∧ Cel (gh F ph env σ) H a d ∧ F.H0 a = none ∧ a ∉ ph ∧ ¬ F.N0 a
  ap : ∀ (i j : Nat) d e a, env[i]? = some (.own d) → env[j]? = some (.own e) → σ[i]? = some (some (.ref a)) → σ[j]? = some (some (.ref a)) → i = j
  brw : ∀ (i : Nat) d, env[i]? = some (.bor d) → ∃ a, σ[i]? = some (some (.ref a)) ∧ F.N0 a ∧ Cel (gh F ph env σ) H a d ∧ ∃ o, F.H0 a = some o
structure Fwd (ph : List Addr) (H : Hp) (ph' : List Addr) (H' : Hp) : Prop where
  ext : ∃ ps, ph' = ph ++ ps ∧ ∀ a ∈ ps, H a = none
  keep : ∀ a o, H a = some o → a ∉ ph → H' a = some o
  there : ∀ a o, H a = some o → ∃ o', H' a = some o'

theorem Fwd.refl {ph : List Addr} {H : Hp} : Fwd ph H ph H := ⟨⟨[], by simp, fun a h => by simp at h⟩, fun _ _ h _ => h, fun _ o h => ⟨o, h⟩⟩
theorem Fwd.trans {p1 p2 p3 : List Addr} {H1 H2 H3 : Hp} (f : Fwd p1 H1 p2 H2) (g : Fwd p2 H2 p3 H3) : Fwd p1 H1 p3 H3 := by
  obtain ⟨a1, e1, n1⟩ := f.ext
  obtain ⟨a2, e2, n2⟩ := g.ext
  have back : ∀ a, H2 a = none → H1 a = none := fun a h => by
    cases q : H1 a with
    | none => rfl
    | some o =>
      obtain ⟨o', z⟩ := f.there a o q
      rw [h] at z
      cases z
  refine ⟨⟨a1 ++ a2, by rw [e2, e1, List.append_assoc], fun a h => ?_⟩, fun a o h n => ?_, fun a o h => ?_⟩
  · rcases List.mem_append.mp h with h | h
    · exact n1 a h
    · exact back a (n2 a h)
  · refine g.keep a o (f.keep a o h n) fun m => ?_
    rw [e1] at m
    rcases List.mem_append.mp m with m | m
    · exact n m
    · rw [n1 a m] at h
      cases h
  · obtain ⟨o', z⟩ := f.there a o h
    exact g.there a o' z
theorem Fwd.back {ph ph' : List Addr} {H H' : Hp} (f : Fwd ph H ph' H') {a : Addr} (h : H' a = none) : H a = none := by
  cases q : H a with
  | none => rfl
  | some o =>
    obtain ⟨o', z⟩ := f.there a o q
    rw [h] at z
    cases z

section
variable {F : Fr} {ph ph' : List Addr} {M M' : Sto} {env env' : Ev} {σ σ' : St} {H H' : Hp} {p a : Addr} {o : HO}
theorem Sim.phIn (S : Sim F ph M env σ H) (h : a ∈ ph) : ∃ o, H a = some o := by
  obtain ⟨i, hi, e⟩ := List.getElem_of_mem h
  have hM : i < M.length := by rw [S.ml]; exact hi
  obtain ⟨b, e1, c⟩ := S.sto i M[i] (by simp [hM])
  have : b = a := by
    rw [List.getElem?_eq_getElem hi, e] at e1
    exact (Option.some.inj e1).symm
  subst this
  exact c.there
theorem Sim.fresh (S : Sim F ph M env σ H) (h : H p = none) : ¬ (gh F ph env σ).off p := by
  intro z
  have no : ∀ o, H p = some o → False := fun o e => by rw [h] at e; cases e
  rcases z with z | z
  · rcases z with z | ⟨i, d, e1, e2⟩
    · obtain ⟨⟨o, q⟩, _⟩ := S.n0 p z
      exact no o q
    · obtain ⟨b, q, c, _⟩ := S.own i d e1
      rw [e2] at q
      cases q
      obtain ⟨o, q⟩ := c.there
      exact no o q
  · obtain ⟨o, q⟩ := S.phIn z
    exact no o q
theorem Sim.h0 (S : Sim F ph M env σ H) (h : H p = none) : F.H0 p = none := by
  cases q : F.H0 p with
  | none => rfl
  | some o =>
    by_cases m : p ∈ F.ph0
    · obtain ⟨ps, e, _⟩ := S.pre
      obtain ⟨u, z⟩ := S.phIn (a := p) (by rw [e]; exact List.mem_append_left _ m)
      rw [h] at z
      cases z
    · rw [S.keep p o q m] at h
      cases h
theorem Fwd.mo (S : Sim F ph M env σ H) (f : Fwd ph H ph' H') : Mo (gh F ph env σ) (gh F ph' env σ) H H' := by
  obtain ⟨ps, e, n⟩ := f.ext
  refine ⟨fun a o h k => ⟨f.keep a o h fun m => k (.inr m), fun z => ?_⟩, fun i a h => ?_, rfl, rfl⟩
  · rcases z with z | z
    · exact k (.inl z)
    · have z' : a ∈ ph' := z
      rw [e] at z'
      rcases List.mem_append.mp z' with m | m
      · exact k (.inr m)
      · rw [n a m] at h
        cases h
  · show ph'[i]? = some a
    have h' : ph[i]? = some a := h
    rw [e, List.getElem?_append_left (List.getElem?_eq_some_iff.mp h').1]
    exact h'
theorem Fwd.alloc (h : H p = none) : Fwd ph H ph (upd H p o) :=
  ⟨⟨[], by simp, fun a h => by simp at h⟩, fun a u e _ => by rw [upd_ne (ne_of_none e h)]; exact e, fun a u e => ⟨u, by rw [upd_ne (ne_of_none e h)]; exact e⟩⟩
theorem Sim.alloc (S : Sim F ph M env σ H) (h : H p = none) : Sim F ph M env σ (upd H p o) := by
  have m : Mo (gh F ph env σ) (gh F ph env σ) H (upd H p o) := (Fwd.alloc h).mo S
  have k : ∀ (a : Addr) u, H a = some u → upd H p o a = some u := fun a u e => by rw [upd_ne (ne_of_none e h)]; exact e
  refine ⟨S.len, S.pre, fun a u e n => k a u (S.keep a u e n), fun a z => ?_, S.ml, S.nd, fun i d e => ?_, fun i d e => ?_, fun i d e => ?_, S.ap, fun i d e => ?_⟩
  · obtain ⟨⟨u, q⟩, n⟩ := S.n0 a z
    exact ⟨⟨u, k a u q⟩, n⟩
  · obtain ⟨a, q, c⟩ := S.sto i d e
    exact ⟨a, q, c.mo m (k a)⟩
  · obtain ⟨v, q, r⟩ := S.val i d e
    exact ⟨v, q, r.mo m⟩
  · obtain ⟨a, q, c, r⟩ := S.own i d e
    exact ⟨a, q, c.mo m (k a), r⟩
  · obtain ⟨a, q, n, c, o⟩ := S.brw i d e
    exact ⟨a, q, n, c.mo m (k a), o⟩
end

/-! what is wanted of a meaning's outcome -/
def Post {α β : Type} (Rl : Gh → Hp → β → α → Prop) (F : Fr) (W : WX) (env : Ev) (σ : St) (ph : List Addr) (H : Hp) (Q : β → Hp → Prop) : Res α → Prop
  | .ok d M' => ∀ ph' H' v, Sim F ph' M' env σ H' → Fwd ph H ph' H' → Rl (gh F ph' env σ) H' v d → Q v H'
  | .exc c fs M' => ∀ ph' H' dx f C, Sim F ph' M' env σ H' → Fwd ph H ph' H' → F.cl c = some C → H' dx = some (.xd f) → ¬ (gh F ph' env σ).off dx → RepP (gh F ph' env σ) H' Str f fs → W (.ref C) (some dx) σ H'
  | .fail => False
abbrev PoE := @Post D V Rep
abbrev PoA := @Post (List D) (List V) RepL
def RlB : Gh → Hp → Bool → Bool → Prop := fun _ _ a b => a = b
abbrev PoT := @Post Bool Bool RlB

section
variable {F : Fr} {W : WX} {ph ph' : List Addr} {M M' : Sto} {env : Ev} {σ : St} {H H' : Hp} {α β γ δ : Type} {Rl : Gh → Hp → β → α → Prop} {Rl' : Gh → Hp → δ → γ → Prop}
theorem Post.fwd {Q : β → Hp → Prop} {r : Res α} (P : Post Rl F W env σ ph H Q r) (f : Fwd ph H ph' H') : Post Rl F W env σ ph' H' Q r := by
  cases r with
  | ok d M' => exact fun p1 H1 v S g r => P p1 H1 v S (f.trans g) r
  | exc c fs M' => exact fun p1 H1 dx ff C S g e1 e2 n r => P p1 H1 dx ff C S (f.trans g) e1 e2 n r
  | fail => exact P
theorem Post.step {Q : δ → Hp → Prop} {Q' : β → Hp → Prop} {r : Res α} {k : α → Sto → Res γ} (P : Post Rl' F W env σ ph H Q (r.bind k))
    (hk : ∀ a M' ph' H' b, Sim F ph' M' env σ H' → Fwd ph H ph' H' → Rl (gh F ph' env σ) H' b a → Post Rl' F W env σ ph' H' Q (k a M') → Q' b H') : Post Rl F W env σ ph H Q' r := by
  cases r with
  | ok d M' => exact fun p1 H1 v S g r => hk d M' p1 H1 v S g r (Post.fwd P g)
  | exc c fs M' => exact P
  | fail => exact P
theorem Post.now {Q : β → Hp → Prop} {d : α} {v : β} (P : Post Rl F W env σ ph H Q (.ok d M)) (S : Sim F ph M env σ H) (r : Rl (gh F ph env σ) H v d) : Q v H := P ph H v S Fwd.refl r
end

/-! meanings -/
abbrev ZX := Ev → Sto → Res D
abbrev ZL := Ev → Sto → Res (List D)
abbrev ZB := Ev → Sto → Res Bool
structure ZE (X : Cx) (W : WX) (cl : String → Option Addr) (e : Expr) (z : ZX) : Prop where
  ex : ∃ t, PE X e t ∧ ∀ F ph M env σ H Q, F.cl = cl → F.K = X.K → Sim F ph M env σ H → PoE F W env σ ph H Q (z env M) → t σ H Q
structure ZA (X : Cx) (W : WX) (cl : String → Option Addr) (es : List Expr) (z : ZL) : Prop where
  ex : ∃ t, PA X es t ∧ ∀ F ph M env σ H Q, F.cl = cl → F.K = X.K → Sim F ph M env σ H → PoA F W env σ ph H Q (z env M) → t σ H Q
structure ZT (X : Cx) (W : WX) (cl : String → Option Addr) (e : Expr) (z : ZB) : Prop where
  ex : ∃ t, PT X e t ∧ ∀ F ph M env σ H Q, F.cl = cl → F.K = X.K → Sim F ph M env σ H → PoT F W env σ ph H Q (z env M) → t σ H Q
end Zy
set_option maxHeartbeats 2000000
namespace Zy
open PySem PySem.Spec PyProof.Rows L2

/-! reading: frozen values, owned slots, cells of the store -/
def deref (M : Sto) : D → Option D
  | .ref j => M[j]?
  | d => some d
def RlC (G : Gh) (H : Hp) (v : V) (d : D) : Prop := Rep G H v d ∨ ∃ a, v = .ref a ∧ Cel G H a d ∧ a ∉ G.ph ∧ G.N a
inductive Lk (G : Gh) (H : Hp) : V → D → Prop
  | of {v : V} {d : D} (h : Rep G H v d) : Lk G H v d
  | cel {a : Addr} {d : D} (h : Cel G H a d) : Lk G H (.ref a) d
abbrev PoC := @Post D V RlC
inductive RcL (G : Gh) (H : Hp) : List V → List D → Prop
  | nil : RcL G H [] []
  | cons {x : V} {d : D} {xs : List V} {ds : List D} (h : RlC G H x d) (t : RcL G H xs ds) : RcL G H (x :: xs) (d :: ds)

section
variable {F : Fr} {W : WX} {ph ph' : List Addr} {M M' : Sto} {env : Ev} {σ : St} {H H' : Hp} {v : V} {d c : D} {G : Gh}
theorem RlC.look (S : Sim F ph M env σ H) (r : RlC (gh F ph env σ) H v d) (e : deref M d = some c) : Lk (gh F ph env σ) H v c := by
  rcases r with r | ⟨a, rfl, r, _, _⟩
  · cases r with
    | @ref a i h =>
      obtain ⟨b, e1, q⟩ := S.sto i c e
      have h' : ph[i]? = some a := h
      rw [h'] at e1
      cases e1
      exact .cel q
    | non => cases e; exact .of .non
    | bl b => cases e; exact .of (.bl b)
    | int i => cases e; exact .of (.int i)
    | str s => cases e; exact .of (.str s)
    | tup h n r => cases e; exact .of (.tup h n r)
    | lst h n r => cases e; exact .of (.lst h n r)
    | dK h n r => cases e; exact .of (.dK h n r)
    | dT h n r => cases e; exact .of (.dT h n r)
    | ins h n hc r => cases e; exact .of (.ins h n hc r)
    | scr h n => cases e; exact .of (.scr h n)
    | scrK h => cases e; exact .of (.scrK h)
    | exn ha hd hC hc h n r => cases e; exact .of (.exn ha hd hC hc h n r)
  · cases r with
    | lst h r => cases e; exact .cel (.lst h r)
    | dK h r => cases e; exact .cel (.dK h r)
    | dT h r => cases e; exact .cel (.dT h r)
    | ins h hc r => cases e; exact .cel (.ins h hc r)
theorem RlC.fwd (S : Sim F ph M env σ H) (f : Fwd ph H ph' H') (r : RlC (gh F ph env σ) H v d) : RlC (gh F ph' env σ) H' v d := by
  have m := f.mo S
  rcases r with r | ⟨a, e, r, n, hN⟩
  · exact .inl (r.mo m)
  · obtain ⟨o, ho⟩ := r.there
    have n' : a ∉ ph := n
    refine .inr ⟨a, e, r.mo m fun o h => f.keep a o h n', fun z => ?_, hN⟩
    obtain ⟨ps, e1, hn⟩ := f.ext
    have z' : a ∈ ph' := z
    rw [e1] at z'
    rcases List.mem_append.mp z' with q | q
    · exact n' q
    · rw [hn a q] at ho
      cases ho
theorem RcL.fwd (S : Sim F ph M env σ H) (f : Fwd ph H ph' H') : ∀ {xs : List V} {ds : List D}, RcL (gh F ph env σ) H xs ds → RcL (gh F ph' env σ) H' xs ds
  | _, _, .nil => .nil
  | _, _, .cons h t => .cons (h.fwd S f) (RcL.fwd S f t)
theorem Lk.non_inv (h : Lk G H v .non) : v = .non := by cases h with | of h => cases h; rfl | cel h => cases h
theorem Lk.int_inv {i : Int} (h : Lk G H v (.int i)) : v = .int i := by cases h with | of h => cases h; rfl | cel h => cases h
theorem Lk.bl_inv {b : Bool} (h : Lk G H v (.bl b)) : v = .bl b := by cases h with | of h => cases h; rfl | cel h => cases h
theorem Lk.str_inv {s : Str} (h : Lk G H v (.str s)) : v = .str s := by cases h with | of h => cases h; rfl | cel h => cases h
theorem Lk.lst_inv {ds : List D} (h : Lk G H v (.lst ds)) : ∃ a xs, v = .ref a ∧ H a = some (.lst xs) ∧ RepL G H xs ds := by
  cases h with
  | of h => cases h with | lst h n r => exact ⟨_, _, rfl, h, r⟩
  | cel h => cases h with | lst h r => exact ⟨_, _, rfl, h, r⟩
theorem Lk.tup_inv {ds : List D} (h : Lk G H v (.tup ds)) : ∃ a xs, v = .ref a ∧ H a = some (.tup xs) ∧ RepL G H xs ds := by
  cases h with
  | of h => cases h with | tup h n r => exact ⟨_, _, rfl, h, r⟩
  | cel h => cases h
theorem Lk.dK_inv {ds : List (Key × D)} (h : Lk G H v (.dK ds)) : ∃ a xs, v = .ref a ∧ H a = some (.dK xs) ∧ RepP G H Key xs ds := by
  cases h with
  | of h => cases h with | dK h n r => exact ⟨_, _, rfl, h, r⟩
  | cel h => cases h with | dK h r => exact ⟨_, _, rfl, h, r⟩
theorem Lk.dT_inv {ds : List (List Key × D)} (h : Lk G H v (.dT ds)) : ∃ a xs, v = .ref a ∧ H a = some (.dT xs) ∧ RepP G H (List Key) xs ds := by
  cases h with
  | of h => cases h with | dT h n r => exact ⟨_, _, rfl, h, r⟩
  | cel h => cases h with | dT h r => exact ⟨_, _, rfl, h, r⟩
theorem Lk.ins_inv {c : String} {fs : List (Str × D)} (h : Lk G H v (.ins c fs)) : ∃ a C dx f, v = .ref a ∧ H a = some (.ins C dx f) ∧ G.cl c = some C ∧ RepP G H Str f fs := by
  cases h with
  | of h => cases h with | ins h n hc r => exact ⟨_, _, _, _, rfl, h, hc, r⟩
  | cel h => cases h with | ins h hc r => exact ⟨_, _, _, _, rfl, h, hc, r⟩
theorem Lk.scr_inv {ns : List Int} (h : Lk G H v (.scr ns)) : ∃ a, v = .ref a ∧ SqL G.K H a (ns.map V.int) := by
  cases h with
  | of h =>
    cases h with
    | scr h n => exact ⟨_, rfl, .inl (.inr ⟨_, h⟩)⟩
    | scrK h => exact ⟨_, rfl, h H⟩
  | cel h => cases h
theorem Rep.rc (h : Rep G H v d) : RlC G H v d := .inl h
/-- as list or tuple -/
def itemsD : D → Option (List D)
  | .lst ds => some ds
  | .tup ds => some ds
  | .scr ns => some (ns.map .int)
  | _ => none
theorem repL_ints (G : Gh) (H : Hp) : ∀ ns : List Int, RepL G H (ns.map V.int) (ns.map D.int)
  | [] => .nil
  | n :: r => .cons (.int n) (repL_ints G H r)
theorem Lk.seq {ds : List D} (h : Lk G H v c) (e : itemsD c = some ds) : ∃ a xs, v = .ref a ∧ (SqL G.K H a xs ∨ SqT G.K H a xs) ∧ RepL G H xs ds := by
  cases c <;> simp only [itemsD, Option.some.injEq, reduceCtorEq] at e
  · subst e; obtain ⟨a, xs, e, h, r⟩ := h.tup_inv; exact ⟨a, xs, e, .inr (SqT.of h), r⟩
  · subst e; obtain ⟨a, xs, e, h, r⟩ := h.lst_inv; exact ⟨a, xs, e, .inl (SqL.of h), r⟩
  · subst e; obtain ⟨a, e, h⟩ := h.scr_inv; exact ⟨a, _, e, .inl h, repL_ints G H _⟩
end

/-! judgements in the way of reading -/
structure ZC (X : Cx) (W : WX) (cl : String → Option Addr) (e : Expr) (z : ZX) : Prop where
  ex : ∃ t, PE X e t ∧ ∀ F ph M env σ H Q, F.cl = cl → F.K = X.K → Sim F ph M env σ H → PoC F W env σ ph H Q (z env M) → t σ H Q
structure ZK (X : Cx) (W : WX) (cl : String → Option Addr) (es : List Expr) (z : ZL) : Prop where
  ex : ∃ t, PA X es t ∧ ∀ F ph M env σ H Q, F.cl = cl → F.K = X.K → Sim F ph M env σ H → @Post (List D) (List V) RcL F W env σ ph H Q (z env M) → t σ H Q
section
variable {X : Cx} {W : WX} {cl : String → Option Addr} {e a b : Expr} {es : List Expr} {z za zb zc : ZX} {zs : ZL} {pos : Pos} {op : Operator} {co co' : CmpOp}
theorem Post.weak {α β : Type} {Rl Rl' : Gh → Hp → β → α → Prop} {F : Fr} {env : Ev} {σ : St} {ph : List Addr} {H : Hp} {Q : β → Hp → Prop} {r : Res α} (h : ∀ G H v d, Rl G H v d → Rl' G H v d) (P : Post Rl' F W env σ ph H Q r) : Post Rl F W env σ ph H Q r := by
  cases r with
  | ok d M' => exact fun p1 H1 v S g r => P p1 H1 v S g (h _ _ _ _ r)
  | exc c fs M' => exact P
  | fail => exact P
theorem ZE.toC (h : ZE X W cl e z) : ZC X W cl e z := by
  obtain ⟨t, p, q⟩ := h.ex
  exact ⟨t, p, fun F ph M env σ H Q h1 h2 S P => q F ph M env σ H Q h1 h2 S (P.weak fun _ _ _ _ r => .inl r)⟩

/-! names, constants -/
def zVar (i : Nat) : ZX := fun env M => match env[i]? with
  | some (.val d) => .ok d M
  | _ => .fail
def zCv (i : Nat) : ZX := fun env M => match env[i]? with
  | some (.val d) => .ok d M
  | some (.own d) => .ok d M
  | some (.bor d) => .ok d M
  | _ => .fail
theorem ze_var {i : Nat} {x : Str} (hN : X.N[i]? = some x) (hv : Vis X.env.scope x) (hd : (x == ("__debug__" : Str)) = false := by decide) (hc : (x == ("__classdict__" : Str)) = false := by decide) : ZE X W cl (.Name x pos) (zVar i) := by
  refine ⟨_, pe_var hN hv hd hc, fun F ph M env σ H Q _ _ S P => ?_⟩
  unfold zVar at P
  split at P
  · rename_i d e
    obtain ⟨v, e1, r⟩ := S.val i d e
    exact ⟨v, e1, P.now S r⟩
  · exact P.elim
theorem zc_var {i : Nat} {x : Str} (hN : X.N[i]? = some x) (hv : Vis X.env.scope x) (hd : (x == ("__debug__" : Str)) = false := by decide) (hc : (x == ("__classdict__" : Str)) = false := by decide) : ZC X W cl (.Name x pos) (zCv i) := by
  refine ⟨_, pe_var hN hv hd hc, fun F ph M env σ H Q _ _ S P => ?_⟩
  unfold zCv at P
  split at P
  · rename_i d e
    obtain ⟨v, e1, r⟩ := S.val i d e
    exact ⟨v, e1, P.now S (.inl r)⟩
  · rename_i d e
    obtain ⟨a, e1, r, _, n, _⟩ := S.own i d e
    exact ⟨_, e1, P.now S (.inr ⟨a, rfl, r, n, .inr ⟨i, d, e, e1⟩⟩)⟩
  · rename_i d e
    obtain ⟨a, e1, n, r, _⟩ := S.brw i d e
    exact ⟨_, e1, P.now S (.inr ⟨a, rfl, r, (S.n0 a n).2, .inl n⟩)⟩
  · exact P.elim
def zK (d : D) : ZX := fun _ M => .ok d M
theorem ze_const {d : D} {v : V} (h : PE X e (tC v)) (r : ∀ G H, Rep G H v d) : ZE X W cl e (zK d) :=
  ⟨_, h, fun F ph M env σ H Q _ _ S P => P.now S (r _ _)⟩
theorem ze_int {i : Int} {j : Nat} : ZE X W cl (.Constant (.int i) j pos) (zK (.int i)) := ze_const pe_int fun _ _ => .int i
theorem ze_str {s : Str} {j : Nat} : ZE X W cl (.Constant (.str s) j pos) (zK (.str s)) := ze_const pe_str fun _ _ => .str s
theorem ze_bl {b : Bool} {j : Nat} : ZE X W cl (.Constant (.bool b) j pos) (zK (.bl b)) := ze_const pe_bl fun _ _ => .bl b
theorem ze_non {j : Nat} : ZE X W cl (.Constant .none j pos) (zK .non) := ze_const pe_non fun _ _ => .non

/-! operators by values -/
abbrev G2 := D → D → Sto → Res D
def zOp (g : G2) (za zb : ZX) : ZX := fun env M => (za env M).bind fun d M1 => (zb env M1).bind fun e M2 => g d e M2
def OpZ (X : Cx) (W : WX) (cl : String → Option Addr) (r : R2) (g : G2) : Prop := ∀ (F : Fr) (ph : List Addr) (M : Sto) (env : Ev) (σ : St) (H : Hp) (Q : VK) (x y : V) (d e : D), F.cl = cl → F.K = X.K → Sim F ph M env σ H →
  RlC (gh F ph env σ) H x d → RlC (gh F ph env σ) H y e → PoE F W env σ ph H Q (g d e M) → r x y H Q
theorem op_run {r : R2} {g : G2} {ta tb : TE} (hz : OpZ X W cl r g)
    (ha : ∀ F ph M env σ H Q, F.cl = cl → F.K = X.K → Sim F ph M env σ H → PoC F W env σ ph H Q (za env M) → ta σ H Q)
    (hb : ∀ F ph M env σ H Q, F.cl = cl → F.K = X.K → Sim F ph M env σ H → PoC F W env σ ph H Q (zb env M) → tb σ H Q)
    {F : Fr} {ph : List Addr} {M : Sto} {env : Ev} {σ : St} {H : Hp} {Q : VK} (h1 : F.cl = cl) (h2 : F.K = X.K) (S : Sim F ph M env σ H) (P : PoE F W env σ ph H Q (zOp g za zb env M)) : tOp r ta tb σ H Q := by
  refine ha F ph M env σ H _ h1 h2 S (P.step fun d M1 ph1 H1 x S1 f1 r1 P1 => ?_)
  refine hb F ph1 M1 env σ H1 _ h1 h2 S1 (P1.step fun e M2 ph2 H2 y S2 f2 r2 P2 => ?_)
  exact hz F ph2 M2 env σ H2 Q x y d e h1 h2 S2 (r1.fwd S1 f2) r2 P2
theorem ze_op {r : R2} {g : G2} (ho : OpR X (binaryOp op) r) (hz : OpZ X W cl r g) (ha : ZC X W cl a za) (hb : ZC X W cl b zb) : ZE X W cl (.BinOp a op b pos) (zOp g za zb) := by
  obtain ⟨ta, pa, qa⟩ := ha.ex
  obtain ⟨tb, pb, qb⟩ := hb.ex
  exact ⟨_, pe_op ho pa pb, fun F ph M env σ H Q h1 h2 S P => op_run hz qa qb h1 h2 S P⟩
theorem ze_cmp {r : R2} {g : G2} (ho : OpR X (compareOp co) r) (hz : OpZ X W cl r g) (ha : ZC X W cl a za) (hb : ZC X W cl b zb) (hm : behindInMarks co b = false) : ZE X W cl (.Compare a [co] [b] pos) (zOp g za zb) := by
  obtain ⟨ta, pa, qa⟩ := ha.ex
  obtain ⟨tb, pb, qb⟩ := hb.ex
  exact ⟨_, pe_cmpR ho pa pb hm, fun F ph M env σ H Q h1 h2 S P => op_run hz qa qb h1 h2 S P⟩

/-! tests -/
def zTst (z : ZX) : ZB := fun env M => (z env M).bind fun d M1 => match d with
  | .bl b => .ok b M1
  | _ => .fail
theorem post_tst {F : Fr} {env : Ev} {σ : St} {ph : List Addr} {H : Hp} {M : Sto} {Q : Bool → Hp → Prop} (P : PoT F W env σ ph H Q (zTst z env M)) : PoE F W env σ ph H (fun x H' => ∃ k, x = .bl k ∧ Q k H') (z env M) := by
  refine P.step fun d M1 ph1 H1 v S1 f1 r1 P1 => ?_
  cases d with
  | bl b =>
    cases r1
    exact ⟨b, rfl, P1.now S1 rfl⟩
  | _ => exact P1.elim
theorem zt_cmp {r : R2} {g : G2} (ho : OpR X (compareOp co) r) (hz : OpZ X W cl r g) (ha : ZC X W cl a za) (hb : ZC X W cl b zb) (hm : behindInMarks co b = false) : ZT X W cl (.Compare a [co] [b] pos) (zTst (zOp g za zb)) := by
  obtain ⟨ta, pa, qa⟩ := ha.ex
  obtain ⟨tb, pb, qb⟩ := hb.ex
  exact ⟨_, pt_cmpR ho pa pb hm, fun F ph M env σ H Q h1 h2 S P => op_run hz qa qb h1 h2 S (post_tst P)⟩
/-- a < b < c -/
def zCh (g g' : G2) (za zb zc : ZX) : ZX := fun env M => (za env M).bind fun d M1 => (zb env M1).bind fun e M2 => (g d e M2).bind fun k M3 => match k with
  | .bl true => (zc env M3).bind fun c M4 => g' e c M4
  | .bl false => .ok (.bl false) M3
  | _ => .fail
theorem ch_run {r r' : R2} {g g' : G2} {ta tb tc : TE} (hz : OpZ X W cl r g) (hz' : OpZ X W cl r' g')
    (ha : ∀ F ph M env σ H Q, F.cl = cl → F.K = X.K → Sim F ph M env σ H → PoC F W env σ ph H Q (za env M) → ta σ H Q)
    (hb : ∀ F ph M env σ H Q, F.cl = cl → F.K = X.K → Sim F ph M env σ H → PoC F W env σ ph H Q (zb env M) → tb σ H Q)
    (hc : ∀ F ph M env σ H Q, F.cl = cl → F.K = X.K → Sim F ph M env σ H → PoC F W env σ ph H Q (zc env M) → tc σ H Q)
    {F : Fr} {ph : List Addr} {M : Sto} {env : Ev} {σ : St} {H : Hp} {Q : VK} (h1 : F.cl = cl) (h2 : F.K = X.K) (S : Sim F ph M env σ H) (P : PoE F W env σ ph H Q (zCh g g' za zb zc env M)) : tChain r r' ta tb tc σ H Q := by
  refine ha F ph M env σ H _ h1 h2 S (P.step fun d M1 ph1 H1 x S1 f1 r1 P1 => ?_)
  refine hb F ph1 M1 env σ H1 _ h1 h2 S1 (P1.step fun e M2 ph2 H2 y S2 f2 r2 P2 => ?_)
  refine hz F ph2 M2 env σ H2 _ x y d e h1 h2 S2 (r1.fwd S1 f2) r2 (P2.step fun k M3 ph3 H3 w S3 f3 r3 P3 => ?_)
  cases k with
  | bl b =>
    cases r3
    refine ⟨b, rfl, ?_⟩
    cases b with
    | true =>
      refine iteT (hc F ph3 M3 env σ H3 _ h1 h2 S3 (P3.step fun c M4 ph4 H4 u S4 f4 r4 P4 => ?_))
      exact hz' F ph4 M4 env σ H4 Q y u e c h1 h2 S4 ((r2.fwd S2 f3).fwd S3 f4) r4 P4
    | false => exact iteF (P3.now S3 (.bl false))
  | _ => exact P3.elim
theorem ze_ch {r r' : R2} {g g' : G2} {c : Expr} (ho : OpR X (compareOp co) r) (ho' : OpR X (compareOp co') r') (hz : OpZ X W cl r g) (hz' : OpZ X W cl r' g') (ha : ZC X W cl a za) (hb : ZC X W cl b zb) (hc : ZC X W cl c zc)
    (h1 : co ≠ .In ∧ co ≠ .NotIn ∧ co' ≠ .In ∧ co' ≠ .NotIn := by decide) : ZE X W cl (.Compare a [co, co'] [b, c] pos) (zCh g g' za zb zc) := by
  obtain ⟨ta, pa, qa⟩ := ha.ex
  obtain ⟨tb, pb, qb⟩ := hb.ex
  obtain ⟨tc, pc, qc⟩ := hc.ex
  exact ⟨_, pe_chain ho ho' pa pb pc (nobehind _ h1.2.2.1 h1.2.2.2), fun F ph M env σ H Q h1 h2 S P => ch_run hz hz' qa qb qc h1 h2 S P⟩
theorem zt_ch {r r' : R2} {g g' : G2} {c : Expr} (ho : OpR X (compareOp co) r) (ho' : OpR X (compareOp co') r') (hz : OpZ X W cl r g) (hz' : OpZ X W cl r' g') (ha : ZC X W cl a za) (hb : ZC X W cl b zb) (hc : ZC X W cl c zc)
    (h1 : co ≠ .In ∧ co ≠ .NotIn ∧ co' ≠ .In ∧ co' ≠ .NotIn := by decide) : ZT X W cl (.Compare a [co, co'] [b, c] pos) (zTst (zCh g g' za zb zc)) := by
  obtain ⟨ta, pa, qa⟩ := ha.ex
  obtain ⟨tb, pb, qb⟩ := hb.ex
  obtain ⟨tc, pc, qc⟩ := hc.ex
  exact ⟨_, pt_chain ho ho' pa pb pc (nobehind _ h1.2.2.1 h1.2.2.2), fun F ph M env σ H Q h1 h2 S P => ch_run hz hz' qa qb qc h1 h2 S (post_tst P)⟩
/-- and, or, not as tests -/
structure ZW (X : Cx) (W : WX) (cl : String → Option Addr) (e : Expr) (z : ZB) : Prop where
  ex : ∃ t, PW X e t ∧ ∀ F ph M env σ H Q, F.cl = cl → F.K = X.K → Sim F ph M env σ H → PoT F W env σ ph H Q (z env M) → t σ H Q
def zAnd (z y : ZB) : ZB := fun env M => (z env M).bind fun b M1 => if b = true then y env M1 else .ok false M1
def zOr (z y : ZB) : ZB := fun env M => (z env M).bind fun b M1 => if b = true then .ok true M1 else y env M1
def zNot (z : ZB) : ZB := fun env M => (z env M).bind fun b M1 => .ok (!b) M1
variable {y y' : ZB} {rest : List Expr}
theorem ZW.toT (h : ZW X W cl e y) : ZT X W cl e y := by
  obtain ⟨t, p, q⟩ := h.ex
  exact ⟨t, p.pt, q⟩
theorem zw_and1 (h : ZT X W cl a y) : ZW X W cl (.BoolOp .And [a] pos) y := by
  obtain ⟨t, p, q⟩ := h.ex
  exact ⟨t, pw_and1 p, q⟩
theorem zw_or1 (h : ZT X W cl a y) : ZW X W cl (.BoolOp .Or [a] pos) y := by
  obtain ⟨t, p, q⟩ := h.ex
  exact ⟨t, pw_or1 p, q⟩
theorem zw_and (h : ZT X W cl a y) (h' : ZW X W cl (.BoolOp .And (b :: rest) pos) y') : ZW X W cl (.BoolOp .And (a :: b :: rest) pos) (zAnd y y') := by
  obtain ⟨t, p, q⟩ := h.ex
  obtain ⟨t', p', q'⟩ := h'.ex
  refine ⟨_, pw_and p p', fun F ph M env σ H Q h1 h2 S P => q F ph M env σ H _ h1 h2 S (P.step fun k M1 ph1 H1 w S1 f1 r1 P1 => ?_)⟩
  cases (show w = k from r1)
  cases k with
  | true => exact iteT (q' F ph1 M1 env σ H1 Q h1 h2 S1 P1)
  | false => exact iteF (P1.now S1 rfl)
theorem zw_or (h : ZT X W cl a y) (h' : ZW X W cl (.BoolOp .Or (b :: rest) pos) y') : ZW X W cl (.BoolOp .Or (a :: b :: rest) pos) (zOr y y') := by
  obtain ⟨t, p, q⟩ := h.ex
  obtain ⟨t', p', q'⟩ := h'.ex
  refine ⟨_, pw_or p p', fun F ph M env σ H Q h1 h2 S P => q F ph M env σ H _ h1 h2 S (P.step fun k M1 ph1 H1 w S1 f1 r1 P1 => ?_)⟩
  cases (show w = k from r1)
  cases k with
  | true => exact iteT (P1.now S1 rfl)
  | false => exact iteF (q' F ph1 M1 env σ H1 Q h1 h2 S1 P1)
theorem zt_not (h : ZT X W cl a y) : ZT X W cl (.UnaryOp .Not a pos) (zNot y) := by
  obtain ⟨t, p, q⟩ := h.ex
  refine ⟨_, pt_not p, fun F ph M env σ H Q h1 h2 S P => q F ph M env σ H _ h1 h2 S (P.step fun k M1 ph1 H1 w S1 f1 r1 P1 => ?_)⟩
  cases (show w = k from r1)
  exact P1.now S1 rfl
/-- .. as values (bools) -/
def zAndV (z y : ZX) : ZX := fun env M => (z env M).bind fun d M1 => match d with
  | .bl true => y env M1
  | .bl false => .ok (.bl false) M1
  | _ => .fail
def zOrV (z y : ZX) : ZX := fun env M => (z env M).bind fun d M1 => match d with
  | .bl false => y env M1
  | .bl true => .ok (.bl true) M1
  | _ => .fail
def zNotV (z : ZX) : ZX := fun env M => (z env M).bind fun d M1 => match d with
  | .bl b => .ok (.bl (!b)) M1
  | _ => .fail
theorem ze_one {bo : BoolOp} (h : ZE X W cl a z) : ZE X W cl (.BoolOp bo [a] pos) z := by
  obtain ⟨t, p, q⟩ := h.ex
  exact ⟨t, pe_one p, q⟩
theorem ze_and (h : ZE X W cl a z) (h' : ZE X W cl (.BoolOp .And (b :: rest) pos) zb) : ZE X W cl (.BoolOp .And (a :: b :: rest) pos) (zAndV z zb) := by
  obtain ⟨t, p, q⟩ := h.ex
  obtain ⟨t', p', q'⟩ := h'.ex
  refine ⟨_, pe_and p p', fun F ph M env σ H Q h1 h2 S P => q F ph M env σ H _ h1 h2 S (P.step fun k M1 ph1 H1 w S1 f1 r1 P1 => ?_)⟩
  cases k with
  | bl c =>
    cases r1
    refine ⟨c, rfl, ?_⟩
    cases c with
    | true => exact iteT (q' F ph1 M1 env σ H1 Q h1 h2 S1 P1)
    | false => exact iteF (P1.now S1 (.bl false))
  | _ => exact P1.elim
theorem ze_or (h : ZE X W cl a z) (h' : ZE X W cl (.BoolOp .Or (b :: rest) pos) zb) : ZE X W cl (.BoolOp .Or (a :: b :: rest) pos) (zOrV z zb) := by
  obtain ⟨t, p, q⟩ := h.ex
  obtain ⟨t', p', q'⟩ := h'.ex
  refine ⟨_, pe_or p p', fun F ph M env σ H Q h1 h2 S P => q F ph M env σ H _ h1 h2 S (P.step fun k M1 ph1 H1 w S1 f1 r1 P1 => ?_)⟩
  cases k with
  | bl c =>
    cases r1
    refine ⟨c, rfl, ?_⟩
    cases c with
    | true => exact iteT (P1.now S1 (.bl true))
    | false => exact iteF (q' F ph1 M1 env σ H1 Q h1 h2 S1 P1)
  | _ => exact P1.elim
theorem ze_not (h : ZE X W cl a z) : ZE X W cl (.UnaryOp .Not a pos) (zNotV z) := by
  obtain ⟨t, p, q⟩ := h.ex
  refine ⟨_, pe_not p, fun F ph M env σ H Q h1 h2 S P => q F ph M env σ H _ h1 h2 S (P.step fun k M1 ph1 H1 w S1 f1 r1 P1 => ?_)⟩
  cases k with
  | bl c =>
    cases r1
    exact ⟨c, rfl, P1.now S1 (.bl _)⟩
  | _ => exact P1.elim
/-- any value as a test -/
def truD : D → Option Bool
  | .non => some false
  | .bl b => some b
  | .int i => some (i != 0)
  | .str s => if s.length ≤ sizeLine then some ((s.length : Int) != 0) else none
  | .tup ds => some (!ds.isEmpty)
  | .lst ds => some (!ds.isEmpty)
  | .dK ds => some (!ds.isEmpty)
  | _ => none
def zTru (z : ZX) : ZB := fun env M => (z env M).bind fun d M1 => match (deref M1 d).bind truD with
  | some b => .ok b M1
  | none => .fail
theorem empty_len {α β : Type} {xs : List α} {ds : List β} (h : xs.length = ds.length) : (!xs.isEmpty) = (!ds.isEmpty) := by
  cases xs <;> cases ds <;> simp_all
theorem zt_tru (h : ZC X W cl a z) (he : ∀ whole, isTrue a X.env whole = (do let v ← whole; standAt a.pos; holding [v] (truthy v)) := by intro _; rfl) : ZT X W cl a (zTru z) := by
  obtain ⟨t, p, q⟩ := h.ex
  refine ⟨_, pt_truth p he, fun F ph M env σ H Q h1 h2 S P => q F ph M env σ H _ h1 h2 S (P.step fun d M1 ph1 H1 w S1 f1 r1 P1 => ?_)⟩
  cases e : deref M1 d with
  | none => rw [e] at P1; exact P1.elim
  | some c =>
    rw [e] at P1
    have L := r1.look S1 e
    cases e2 : truD c with
    | none => simp only [Option.bind_some, e2] at P1; exact P1.elim
    | some b =>
      simp only [Option.bind_some, e2] at P1
      refine ⟨b, ?_, P1.now S1 rfl⟩
      cases c with
      | non => cases L.non_inv; cases e2; rfl
      | bl x => cases L.bl_inv; cases e2; rfl
      | int i => cases L.int_inv; cases e2; rfl
      | str s =>
        cases L.str_inv
        by_cases hl : s.length ≤ sizeLine
        · have e3 : some ((s.length : Int) != 0) = some b := by rw [← e2]; simp [truD, hl]
          cases e3
          exact ⟨hl, rfl⟩
        · simp [truD, hl] at e2
      | tup ds => obtain ⟨p, xs, rfl, hp, r⟩ := L.tup_inv; cases e2; exact .inr (.inl ⟨xs, SqT.of hp, (empty_len r.length).symm⟩)
      | lst ds => obtain ⟨p, xs, rfl, hp, r⟩ := L.lst_inv; cases e2; exact .inl ⟨xs, SqL.of hp, (empty_len r.length).symm⟩
      | dK ds => obtain ⟨p, xs, rfl, hp, r⟩ := L.dK_inv; cases e2; exact .inr (.inr ⟨xs, hp, (empty_len r.length).symm⟩)
      | dT ds => cases e2
      | ins c fs => cases e2
      | ref i => cases e2
      | scr ns => cases e2
      | exn c fs => cases e2
/-- a if t else b -/
def zIf (t : ZB) (za zb : ZX) : ZX := fun env M => (t env M).bind fun b M1 => if b = true then za env M1 else zb env M1
theorem ze_if {c : Expr} (hc : ZT X W cl c y) (ha : ZE X W cl a za) (hb : ZE X W cl b zb) : ZE X W cl (.IfExp c a b pos) (zIf y za zb) := by
  obtain ⟨t, p, q⟩ := hc.ex
  obtain ⟨ta, pa, qa⟩ := ha.ex
  obtain ⟨tb, pb, qb⟩ := hb.ex
  refine ⟨_, pe_ifExp p pa pb, fun F ph M env σ H Q h1 h2 S P => q F ph M env σ H _ h1 h2 S (P.step fun k M1 ph1 H1 w S1 f1 r1 P1 => ?_)⟩
  cases (show w = k from r1)
  cases k with
  | true => exact iteT (qa F ph1 M1 env σ H1 Q h1 h2 S1 P1)
  | false => exact iteF (qb F ph1 M1 env σ H1 Q h1 h2 S1 P1)

/-! arguments -/
def zNil : ZL := fun _ M => .ok [] M
def zCons (z : ZX) (l : ZL) : ZL := fun env M => (z env M).bind fun d M1 => (l env M1).bind fun ds M2 => .ok (d :: ds) M2
def nostar : Expr → Bool
  | .Starred .. => false
  | _ => true
theorem star_ok {e : Expr} {es : List Expr} {env : Env} (h : nostar e = true) : starEach (e :: es) env = (false, eval e env) :: starEach es env := by
  cases e <;> first | rfl | cases h
theorem za_nil : ZA X W cl [] zNil := ⟨_, pa_nil, fun F ph M env σ H Q _ _ S P => P.now S .nil⟩
theorem za_cons (h : ZE X W cl e z) (t : ZA X W cl es zs) (n : nostar e = true := by rfl) : ZA X W cl (e :: es) (zCons z zs) := by
  obtain ⟨te, pe, qe⟩ := h.ex
  obtain ⟨ts, ps, qs⟩ := t.ex
  refine ⟨_, pa_cons pe ps (star_ok n), fun F ph M env σ H Q h1 h2 S P => qe F ph M env σ H _ h1 h2 S (P.step fun d M1 ph1 H1 w S1 f1 r1 P1 => ?_)⟩
  refine qs F ph1 M1 env σ H1 _ h1 h2 S1 (P1.step fun ds M2 ph2 H2 ws S2 f2 r2 P2 => ?_)
  exact P2.now S2 (.cons (r1.mo (f2.mo S1)) r2)
theorem zk_nil : ZK X W cl [] zNil := ⟨_, pa_nil, fun F ph M env σ H Q _ _ S P => P.now S .nil⟩
theorem zk_cons (h : ZC X W cl e z) (t : ZK X W cl es zs) (n : nostar e = true := by rfl) : ZK X W cl (e :: es) (zCons z zs) := by
  obtain ⟨te, pe, qe⟩ := h.ex
  obtain ⟨ts, ps, qs⟩ := t.ex
  refine ⟨_, pa_cons pe ps (star_ok n), fun F ph M env σ H Q h1 h2 S P => qe F ph M env σ H _ h1 h2 S (P.step fun d M1 ph1 H1 w S1 f1 r1 P1 => ?_)⟩
  refine qs F ph1 M1 env σ H1 _ h1 h2 S1 (P1.step fun ds M2 ph2 H2 ws S2 f2 r2 P2 => ?_)
  exact P2.now S2 (.cons (r1.fwd S1 f2) r2)

/-! what is new -/
def Fr.plus (F : Fr) (a : Addr) : Fr := { F with N0 := fun b => F.N0 b ∨ b = a }
def PoF (F : Fr) (W : WX) (env : Ev) (σ : St) (ph : List Addr) (H : Hp) (Q : VK) : Res D → Prop
  | .ok d M' => ∀ ph' H' a, Sim (F.plus a) ph' M' env σ H' → Fwd ph H ph' H' → Cel (gh (F.plus a) ph' env σ) H' a d → H a = none → Q (.ref a) H'
  | .exc c fs M' => ∀ ph' H' dx f C, Sim F ph' M' env σ H' → Fwd ph H ph' H' → F.cl c = some C → H' dx = some (.xd f) → ¬ (gh F ph' env σ).off dx → RepP (gh F ph' env σ) H' Str f fs → W (.ref C) (some dx) σ H'
  | .fail => False
structure ZF (X : Cx) (W : WX) (cl : String → Option Addr) (e : Expr) (z : ZX) : Prop where
  ex : ∃ t, PE X e t ∧ ∀ F ph M env σ H Q, F.cl = cl → F.K = X.K → Sim F ph M env σ H → PoF F W env σ ph H Q (z env M) → t σ H Q
theorem Sim.unplus {F : Fr} {ph : List Addr} {M : Sto} {env : Ev} {σ : St} {H : Hp} {p : Addr} (S : Sim (F.plus p) ph M env σ H) (hp : F.H0 p = none) : Sim F ph M env σ H ∧ Mo (gh (F.plus p) ph env σ) (gh F ph env σ) H H := by
  have m : Mo (gh (F.plus p) ph env σ) (gh F ph env σ) H H := ⟨fun a o h n => ⟨h, fun z => n (by
    rcases z with z | z
    · rcases z with z | z
      · exact .inl (.inl (.inl z))
      · exact .inl (.inr z)
    · exact .inr z)⟩, fun _ _ h => h, rfl, rfl⟩
  refine ⟨⟨S.len, S.pre, S.keep, fun a z => S.n0 a (.inl z), S.ml, S.nd, fun i d e => ?_, fun i d e => ?_, fun i d e => ?_, S.ap, fun i d e => ?_⟩, m⟩
  · obtain ⟨a, q, c⟩ := S.sto i d e
    exact ⟨a, q, c.mo m fun _ h => h⟩
  · obtain ⟨v, q, r⟩ := S.val i d e
    exact ⟨v, q, r.mo m⟩
  · obtain ⟨a, q, c, h0, n, k⟩ := S.own i d e
    exact ⟨a, q, c.mo m fun _ h => h, h0, n, fun z => k (.inl z)⟩
  · obtain ⟨a, q, n, c, o, ho⟩ := S.brw i d e
    rcases n with n | n
    · exact ⟨a, q, n, c.mo m fun _ h => h, o, ho⟩
    · have n' : a = p := n
      have ho' : F.H0 a = some o := ho
      rw [n', hp] at ho'
      cases ho'
/-- what is new may be frozen -/
theorem ZF.toE (h : ZF X W cl e z) : ZE X W cl e z := by
  obtain ⟨t, p, q⟩ := h.ex
  refine ⟨t, p, fun F ph M env σ H Q h1 h2 S P => q F ph M env σ H Q h1 h2 S ?_⟩
  cases hz : z env M with
  | fail => rw [hz] at P; exact P
  | exc c fs M' => rw [hz] at P; exact P
  | ok d M' =>
    rw [hz] at P
    intro ph' H' a S' f c hn
    obtain ⟨S1, m⟩ := S'.unplus (S.h0 hn)
    refine P ph' H' (.ref a) S1 f (c.rep m fun z => ?_)
    have na : ∀ o, H a ≠ some o := fun o e => by rw [hn] at e; cases e
    rcases z with z | z
    · rcases z with z | ⟨i, d', e1, e2⟩
      · obtain ⟨⟨o, e⟩, _⟩ := S.n0 a z
        exact na o e
      · obtain ⟨b, e3, c3, _⟩ := S.own i d' e1
        rw [e2] at e3
        cases e3
        obtain ⟨o, e⟩ := c3.there
        exact na o e
    · exact (S'.n0 a (.inr rfl)).2 z
/-- a new cell laid -/
theorem Sim.lay {F : Fr} {ph : List Addr} {M : Sto} {env : Ev} {σ : St} {H : Hp} {p : Addr} {o : HO} (S : Sim F ph M env σ H) (h : H p = none) : Sim (F.plus p) ph M env σ (upd H p o) ∧ Mo (gh F ph env σ) (gh (F.plus p) ph env σ) H (upd H p o) := by
  have k : ∀ (a : Addr) u, H a = some u → upd H p o a = some u := fun a u e => by rw [upd_ne (ne_of_none e h)]; exact e
  have m : Mo (gh F ph env σ) (gh (F.plus p) ph env σ) H (upd H p o) := ⟨fun a u e n => ⟨k a u e, fun z => n (by
    rcases z with z | z
    · rcases z with (z | z) | z
      · exact .inl (.inl z)
      · exact absurd z (ne_of_none e h)
      · exact .inl (.inr z)
    · exact .inr z)⟩, fun _ _ e => e, rfl, rfl⟩
  have hp : p ∉ ph := fun z => by
    obtain ⟨u, e⟩ := S.phIn z
    rw [h] at e
    cases e
  refine ⟨⟨S.len, S.pre, fun a u e n => k a u (S.keep a u e n), fun a z => ?_, S.ml, S.nd, fun i d e => ?_, fun i d e => ?_, fun i d e => ?_, S.ap, fun i d e => ?_⟩, m⟩
  · rcases z with z | z
    · obtain ⟨⟨u, q⟩, n⟩ := S.n0 a z
      exact ⟨⟨u, k a u q⟩, n⟩
    · have z' : a = p := z
      subst z'
      exact ⟨⟨o, upd_same⟩, hp⟩
  · obtain ⟨a, q, c⟩ := S.sto i d e
    exact ⟨a, q, c.mo m (k a)⟩
  · obtain ⟨v, q, r⟩ := S.val i d e
    exact ⟨v, q, r.mo m⟩
  · obtain ⟨a, q, c, h0, n, nn⟩ := S.own i d e
    refine ⟨a, q, c.mo m (k a), h0, n, fun z => ?_⟩
    rcases z with z | z
    · exact nn z
    · obtain ⟨u, hu⟩ := c.there
      exact absurd z (ne_of_none hu h)
  · obtain ⟨a, q, n, c, ho⟩ := S.brw i d e
    exact ⟨a, q, .inl n, c.mo m (k a), ho⟩
/-- a new tuple -/
theorem Post.newTup {F : Fr} {env : Ev} {σ : St} {ph : List Addr} {M : Sto} {H : Hp} {Q : VK} {ds : List D} {xs : List V} {p : Addr} (P : PoE F W env σ ph H Q (.ok (.tup ds) M)) (S : Sim F ph M env σ H) (r : RepL (gh F ph env σ) H xs ds) (hp : H p = none) :
    Q (.ref p) (upd H p (.tup xs)) :=
  P ph _ _ (S.alloc hp) (Fwd.alloc hp) (.tup upd_same (S.fresh hp) (r.mo ((Fwd.alloc hp).mo S)))
theorem Post.newLst {F : Fr} {env : Ev} {σ : St} {ph : List Addr} {M : Sto} {H : Hp} {Q : VK} {ds : List D} {xs : List V} {p : Addr} (P : PoE F W env σ ph H Q (.ok (.lst ds) M)) (S : Sim F ph M env σ H) (r : RepL (gh F ph env σ) H xs ds) (hp : H p = none) :
    Q (.ref p) (upd H p (.lst xs)) :=
  P ph _ _ (S.alloc hp) (Fwd.alloc hp) (.lst upd_same (S.fresh hp) (r.mo ((Fwd.alloc hp).mo S)))
def zTup (l : ZL) : ZX := fun env M => (l env M).bind fun ds M1 => if ds.length ≤ sizeLine then .ok (.tup ds) M1 else .fail
def zLst (l : ZL) : ZX := fun env M => (l env M).bind fun ds M1 => if ds.length ≤ sizeLine then .ok (.lst ds) M1 else .fail
theorem ze_tup {k : Nat} (h : ZA X W cl es zs) : ZE X W cl (.Tuple es k pos) (zTup zs) := by
  obtain ⟨t, p, q⟩ := h.ex
  refine ⟨_, pe_tup p, fun F ph M env σ H Q h1 h2 S P => q F ph M env σ H _ h1 h2 S (P.step fun ds M1 ph1 H1 xs S1 f1 r1 P1 => ?_)⟩
  split at P1
  · rename_i hl
    exact ⟨by rw [r1.length]; exact hl, fun p hp => P1.newTup S1 r1 hp⟩
  · exact P1.elim
theorem zf_lst (h : ZA X W cl es zs) : ZF X W cl (.List es pos) (zLst zs) := by
  obtain ⟨t, p, q⟩ := h.ex
  refine ⟨_, pe_lst p, fun F ph M env σ H Q h1 h2 S P => q F ph M env σ H _ h1 h2 S ?_⟩
  unfold zLst at P
  cases hz : zs env M with
  | fail => rw [hz] at P; exact P
  | exc c fs M' => rw [hz] at P; exact P
  | ok ds M1 =>
    rw [hz] at P
    simp only [Res.bind_ok] at P
    intro ph1 H1 xs S1 f1 r1
    split at P
    · rename_i hl
      refine ⟨by rw [r1.length]; exact hl, fun p hp => ?_⟩
      obtain ⟨S2, m⟩ := S1.lay (o := .lst xs) hp
      exact P ph1 _ p S2 (f1.trans (Fwd.alloc hp)) (.lst upd_same (r1.mo m)) (f1.back hp)
    · exact P.elim
end
end Zy
set_option maxHeartbeats 2000000
namespace Zy
open PySem PySem.Spec PyProof.Rows L2

/-! arithmetic by values -/
def gAdd : G2 := fun d e M => match deref M d, deref M e with
  | some (.int i), some (.int j) => .ok (.int (i + j)) M
  | some (.str a), some (.str b) => if a.length + b.length ≤ sizeLine then .ok (.str (a ++ b)) M else .fail
  | some (.tup a), some (.tup b) => if a.length + b.length ≤ sizeLine then .ok (.tup (a ++ b)) M else .fail
  | some (.lst a), some (.lst b) => if a.length + b.length ≤ sizeLine then .ok (.lst (a ++ b)) M else .fail
  | _, _ => .fail
def gSub : G2 := fun d e M => match deref M d, deref M e with
  | some (.int i), some (.int j) => .ok (.int (i - j)) M
  | _, _ => .fail
def smallI (i : Int) : Prop := -(2 ^ 64) < i ∧ i < 2 ^ 64
instance (i : Int) : Decidable (smallI i) := inferInstanceAs (Decidable (_ ∧ _))
def gMul : G2 := fun d e M => match deref M d, deref M e with
  | some (.int i), some (.int j) => if smallI i ∨ smallI j then .ok (.int (i * j)) M else .fail
  | some (.lst a), some (.int k) => if -(2 ^ 63) ≤ k ∧ k < 2 ^ 63 ∧ a.length * k.toNat ≤ sizeLine then .ok (.lst (List.replicate k.toNat a).flatten) M else .fail
  | some (.tup a), some (.int k) => if k = 1 then .ok (.tup a) M else if a ≠ [] ∧ 2 ≤ k ∧ k ≤ 1000 ∧ a.length ≤ 1000 then .ok (.tup (List.replicate k.toNat a).flatten) M else .fail
  | _, _ => .fail
def gFdiv : G2 := fun d e M => match deref M d, deref M e with
  | some (.int i), some (.int j) => if 0 < j ∧ j.natAbs.log2 < 9000 then .ok (.int (i / j)) M else .fail
  | _, _ => .fail
def gMod : G2 := fun d e M => match deref M d, deref M e with
  | some (.int i), some (.int j) => if 0 < j then .ok (.int (i % j)) M else .fail
  | _, _ => .fail
def gPow : G2 := fun d e M => match deref M d, deref M e with
  | some (.int i), some (.int j) => if 0 ≤ j ∧ j ≤ 1000000 ∧ i.natAbs < 2 ^ 64 then .ok (.int (i ^ j.toNat)) M else .fail
  | _, _ => .fail
def gCmpI (p : Int → Int → Bool) : G2 := fun d e M => match deref M d, deref M e with
  | some (.int i), some (.int j) => .ok (.bl (p i j)) M
  | _, _ => .fail
abbrev gLt : G2 := gCmpI fun i j => decide (i < j)
abbrev gLe : G2 := gCmpI fun i j => decide (i ≤ j)
abbrev gGt : G2 := gCmpI fun i j => decide (j < i)
abbrev gGe : G2 := gCmpI fun i j => decide (j ≤ i)

theorem tuple_mul1 (l : Addr) (items : Array Value) (n : Nat) (dd : Option Addr) (sl : Array (Option Value)) (u : Tok) :
    Meets (Builtin.«tuple.__mul__» ⟨[.ref l, .int 1 u], []⟩) (fun _ R s => s.heap.get? l = some { cls := .type "tuple", dict := dd, data := .seq items n, slots := sl } ∧ R (.ok (.ret (Value.ref l))) s) :=
  .of_wp fun prog w A R s h => by
    obtain ⟨hp, g, d, tk, os⟩ := s
    obtain ⟨hl, h⟩ := h
    have f1 := AutoSeq1.idx_int
    wp_walk using wpAny_loadPart' hl
    all_goals (try (refine wpAny_ite_true (by simp) ?_; wp_walk using wpAny_loadPart' hl))
    exact ⟨_, rfl, h⟩
section
variable {X : Cx} {W : WX} {cl : String → Option Addr}
def rMulT (K : PySem.W.Frag) : R2 := fun x y H Q => ∃ a xs, x = .ref a ∧ y = .int 1 ∧ SqT K H a xs ∧ Q x H
theorem op_mulT1 : OpR X (binaryOp .Mult) (rMulT X.K) := by
  intro pins s σ H x y v u Q I rx ry h
  obtain ⟨l, xs, rfl, rfl, hT, q⟩ := h
  obtain rfl : v = .ref l := rx
  obtain ⟨t, rfl⟩ := ry
  obtain ⟨its, r, ⟨⟨cls, dd, data, sl⟩, ho, hc, n, hd⟩, _⟩ := I.tuple hT
  simp only at hc hd
  subst hc hd
  have ty : s.TypeIs (.ref l) "tuple" := ⟨_, ho, rfl⟩
  refine wpAny_binaryOp_repeat_ref (by decide) ty (fun s' => typeIs_int s' 1 t) noFill_tuple_mul F.fills_int_mul F.slot_int_rmul repeat_tuple F.slot_int_index.lookup ?_
  refine call_meets F.slot_int_rmul (typeIs_int s 1 t) F.entry_int_rmul (F.args_int_rmul_2 _ _) (int_rmul_tuple 1 t l its.toArray n dd sl) ⟨ho, rfl, ty, ?_⟩
  exact call_meets F.slot_tuple_mul ty F.entry_tuple_mul (F.args_tuple_mul_2 _ _) (tuple_mul1 l its.toArray n dd sl t) ⟨ho, ⟨.ref l, H, I, rfl, q⟩⟩
theorem RlC.tupRep {F : Fr} {ph : List Addr} {M : Sto} {env : Ev} {σ : St} {H : Hp} {v : V} {d : D} {ds : List D} (S : Sim F ph M env σ H) (r : RlC (gh F ph env σ) H v d) (e : deref M d = some (.tup ds)) : Rep (gh F ph env σ) H v (.tup ds) := by
  rcases r with r | ⟨p, rfl, r, n, _⟩
  · cases r with
    | tup h n r => cases e; exact .tup h n r
    | ref h =>
      obtain ⟨b, e4, q⟩ := S.sto _ _ e
      cases q
    | _ => cases e
  · cases r <;> cases e
theorem oz_int {g : G2} {C : Int → Int → Prop} {f : Int → Int → D} {fv : Int → Int → V} (hf : ∀ G H i j, Rep G H (fv i j) (f i j))
    (hg : ∀ d e M r, g d e M = r → r = .fail ∨ (∃ i j, deref M d = some (.int i) ∧ deref M e = some (.int j) ∧ C i j ∧ r = .ok (f i j) M)) : OpZ X W cl (rI C fv) g := by
  intro F ph M env σ H Q x y d e h1 h2 S rx ry P
  rcases hg d e M _ rfl with h | ⟨i, j, e1, e2, c, h⟩
  · rw [h] at P; exact P.elim
  · rw [h] at P
    have l1 := (rx.look S e1).int_inv
    have l2 := (ry.look S e2).int_inv
    exact ⟨i, j, l1, l2, c, P.now S (hf _ _ i j)⟩
theorem oz_int0 {g : G2} {f : Int → Int → D} {fv : Int → Int → V} (hf : ∀ G H i j, Rep G H (fv i j) (f i j))
    (hg : ∀ d e M r, g d e M = r → r = .fail ∨ (∃ i j, deref M d = some (.int i) ∧ deref M e = some (.int j) ∧ r = .ok (f i j) M)) : OpZ X W cl (rI0 fv) g := by
  intro F ph M env σ H Q x y d e h1 h2 S rx ry P
  rcases hg d e M _ rfl with h | ⟨i, j, e1, e2, h⟩
  · rw [h] at P; exact P.elim
  · rw [h] at P
    have l1 := (rx.look S e1).int_inv
    have l2 := (ry.look S e2).int_inv
    exact ⟨i, j, l1, l2, P.now S (hf _ _ i j)⟩
theorem oz_sub : OpZ X W cl (rI0 fun i j => .int (i - j)) gSub := oz_int0 (f := fun i j => .int (i - j)) (fun _ _ _ _ => .int _) fun d e M r h => by
  unfold gSub at h
  split at h
  · rename_i i j e1 e2; exact .inr ⟨i, j, e1, e2, h.symm⟩
  · exact .inl h.symm
theorem oz_fdiv : OpZ X W cl (rI CDivW fun i j => .int (i / j)) gFdiv := oz_int (f := fun i j => .int (i / j)) (fun _ _ _ _ => .int _) fun d e M r h => by
  unfold gFdiv at h
  split at h
  · rename_i i j e1 e2
    split at h
    · rename_i c; exact .inr ⟨i, j, e1, e2, c, h.symm⟩
    · exact .inl h.symm
  · exact .inl h.symm
theorem oz_mod : OpZ X W cl (rI (fun _ j => 0 < j) fun i j => .int (i % j)) gMod := oz_int (f := fun i j => .int (i % j)) (fun _ _ _ _ => .int _) fun d e M r h => by
  unfold gMod at h
  split at h
  · rename_i i j e1 e2
    split at h
    · rename_i c; exact .inr ⟨i, j, e1, e2, c, h.symm⟩
    · exact .inl h.symm
  · exact .inl h.symm
theorem oz_pow : OpZ X W cl (rI CPow fun i j => .int (i ^ j.toNat)) gPow := oz_int (f := fun i j => .int (i ^ j.toNat)) (fun _ _ _ _ => .int _) fun d e M r h => by
  unfold gPow at h
  split at h
  · rename_i i j e1 e2
    split at h
    · rename_i c; exact .inr ⟨i, j, e1, e2, c, h.symm⟩
    · exact .inl h.symm
  · exact .inl h.symm
theorem oz_cmp {p : Int → Int → Bool} : OpZ X W cl (rI0 fun i j => .bl (p i j)) (gCmpI p) := oz_int0 (f := fun i j => .bl (p i j)) (fun _ _ _ _ => .bl _) fun d e M r h => by
  unfold gCmpI at h
  split at h
  · rename_i i j e1 e2; exact .inr ⟨i, j, e1, e2, h.symm⟩
  · exact .inl h.symm
theorem oz_add : OpZ X W cl (fun x y H Q => rI0 (fun i j => .int (i + j)) x y H Q ∨ ((∃ i j, x = .str i ∧ y = .str j ∧ i.length + j.length ≤ sizeLine ∧ Q (.str (i ++ j)) H) ∨ (rCatA X.K x y H Q ∨ rCat x y H Q))) gAdd := by
  intro F ph M env σ H Q x y d e h1 h2 S rx ry P
  unfold gAdd at P
  split at P
  · rename_i i j e1 e2
    exact .inl ⟨i, j, (rx.look S e1).int_inv, (ry.look S e2).int_inv, P.now S (.int _)⟩
  · rename_i i j e1 e2
    split at P
    · rename_i c; exact .inr (.inl ⟨i, j, (rx.look S e1).str_inv, (ry.look S e2).str_inv, c, P.now S (.str _)⟩)
    · exact P.elim
  · rename_i i j e1 e2
    split at P
    · rename_i c
      obtain ⟨a, xs, rfl, ha, ra⟩ := (rx.look S e1).tup_inv
      obtain ⟨b, ys, rfl, hb, rb⟩ := (ry.look S e2).tup_inv
      refine .inr (.inr (.inl ⟨a, b, xs, ys, rfl, rfl, SqT.of ha, SqT.of hb, by rw [ra.length, rb.length]; exact c, fun z => ?_, fun _ z => ?_, fun _ _ p hp => P.newTup S (ra.app rb) hp⟩))
      · subst z
        cases ra
        exact P.now S (ry.tupRep S e2)
      · subst z
        cases rb
        refine P.now S ?_
        rw [List.append_nil]
        exact rx.tupRep S e1
    · exact P.elim
  · rename_i i j e1 e2
    split at P
    · rename_i c
      obtain ⟨a, xs, rfl, ha, ra⟩ := (rx.look S e1).lst_inv
      obtain ⟨b, ys, rfl, hb, rb⟩ := (ry.look S e2).lst_inv
      exact .inr (.inr (.inr ⟨a, b, xs, ys, rfl, rfl, ha, hb, by rw [ra.length, rb.length]; exact c, fun p hp => P.newLst S (ra.app rb) hp⟩))
    · exact P.elim
  · exact P.elim
theorem repL_rep {G : Gh} {H : Hp} {xs : List V} {ds : List D} (r : RepL G H xs ds) : ∀ n : Nat, RepL G H (List.replicate n xs).flatten (List.replicate n ds).flatten
  | 0 => .nil
  | n + 1 => by
    rw [List.replicate_succ, List.replicate_succ, List.flatten_cons, List.flatten_cons]
    exact r.app (repL_rep r n)
theorem oz_mul : OpZ X W cl (fun x y H Q => rI CMul (fun i j => .int (i * j)) x y H Q ∨ (rRep x y H Q ∨ (rMulT X.K x y H Q ∨ rRepT X.K x y H Q))) gMul := by
  intro F ph M env σ H Q x y d e h1 h2 S rx ry P
  unfold gMul at P
  split at P
  · rename_i i j e1 e2
    split at P
    · rename_i c
      exact .inl ⟨i, j, (rx.look S e1).int_inv, (ry.look S e2).int_inv, c, P.now S (.int _)⟩
    · exact P.elim
  · rename_i i k e1 e2
    obtain ⟨a, xs, rfl, ha, ra⟩ := (rx.look S e1).lst_inv
    split at P
    · rename_i c
      exact .inr (.inl ⟨a, k, xs, rfl, (ry.look S e2).int_inv, ha, c.1, c.2.1, by rw [ra.length]; exact c.2.2, fun p hp => P.newLst S (repL_rep ra _) hp⟩)
    · exact P.elim
  · rename_i i k e1 e2
    obtain ⟨a, xs, rfl, ha, ra⟩ := (rx.look S e1).tup_inv
    split at P
    · rename_i c
      subst c
      exact .inr (.inr (.inl ⟨a, xs, rfl, (ry.look S e2).int_inv, SqT.of ha, P.now S (rx.tupRep S e1)⟩))
    · split at P
      · rename_i c
        refine .inr (.inr (.inr ⟨a, k, xs, rfl, (ry.look S e2).int_inv, SqT.of ha, fun z => c.1 ?_, c.2.1, c.2.2.1, by rw [ra.length]; exact c.2.2.2, fun p hp => P.newTup S (repL_rep ra _) hp⟩))
        subst z
        cases ra
        rfl
      · exact P.elim
  · exact P.elim

/-! the operators' rules -/
variable {a b : Expr} {za zb : ZX} {pos : Pos}
theorem ze_add (ha : ZC X W cl a za) (hb : ZC X W cl b zb) : ZE X W cl (.BinOp a .Add b pos) (zOp gAdd za zb) := ze_op (op_add.or (op_add_str.or (op_catA.or op_cat))) oz_add ha hb
theorem ze_sub (ha : ZC X W cl a za) (hb : ZC X W cl b zb) : ZE X W cl (.BinOp a .Sub b pos) (zOp gSub za zb) := ze_op op_sub oz_sub ha hb
theorem ze_mul (ha : ZC X W cl a za) (hb : ZC X W cl b zb) : ZE X W cl (.BinOp a .Mult b pos) (zOp gMul za zb) := ze_op (op_mul.or (op_rep.or (op_mulT1.or op_repT))) oz_mul ha hb
theorem ze_fdiv (ha : ZC X W cl a za) (hb : ZC X W cl b zb) : ZE X W cl (.BinOp a .FloorDiv b pos) (zOp gFdiv za zb) := ze_op op_fdivW oz_fdiv ha hb
theorem ze_mod (ha : ZC X W cl a za) (hb : ZC X W cl b zb) : ZE X W cl (.BinOp a .Mod b pos) (zOp gMod za zb) := ze_op op_mod oz_mod ha hb
theorem ze_pow (ha : ZC X W cl a za) (hb : ZC X W cl b zb) : ZE X W cl (.BinOp a .Pow b pos) (zOp gPow za zb) := ze_op op_pow oz_pow ha hb
def zNeg (z : ZX) : ZX := fun env M => (z env M).bind fun d M1 => match d with
  | .int i => .ok (.int (-i)) M1
  | _ => .fail
theorem ze_neg (ha : ZE X W cl a za) : ZE X W cl (.UnaryOp .USub a pos) (zNeg za) := by
  obtain ⟨t, p, q⟩ := ha.ex
  refine ⟨_, pe_un un_neg p, fun F ph M env σ H Q h1 h2 S P => q F ph M env σ H _ h1 h2 S (P.step fun d M1 ph1 H1 w S1 f1 r1 P1 => ?_)⟩
  cases d with
  | int i => cases r1; exact ⟨i, rfl, P1.now S1 (.int _)⟩
  | _ => exact P1.elim
theorem ze_lt (ha : ZC X W cl a za) (hb : ZC X W cl b zb) : ZE X W cl (.Compare a [.Lt] [b] pos) (zOp gLt za zb) := ze_cmp op_lt oz_cmp ha hb (nobehind _ (by decide) (by decide))
theorem ze_le (ha : ZC X W cl a za) (hb : ZC X W cl b zb) : ZE X W cl (.Compare a [.LtE] [b] pos) (zOp gLe za zb) := ze_cmp op_le oz_cmp ha hb (nobehind _ (by decide) (by decide))
theorem ze_gt (ha : ZC X W cl a za) (hb : ZC X W cl b zb) : ZE X W cl (.Compare a [.Gt] [b] pos) (zOp gGt za zb) := ze_cmp op_gt oz_cmp ha hb (nobehind _ (by decide) (by decide))
theorem ze_ge (ha : ZC X W cl a za) (hb : ZC X W cl b zb) : ZE X W cl (.Compare a [.GtE] [b] pos) (zOp gGe za zb) := ze_cmp op_ge oz_cmp ha hb (nobehind _ (by decide) (by decide))
theorem zt_lt (ha : ZC X W cl a za) (hb : ZC X W cl b zb) : ZT X W cl (.Compare a [.Lt] [b] pos) (zTst (zOp gLt za zb)) := zt_cmp op_lt oz_cmp ha hb (nobehind _ (by decide) (by decide))
theorem zt_le (ha : ZC X W cl a za) (hb : ZC X W cl b zb) : ZT X W cl (.Compare a [.LtE] [b] pos) (zTst (zOp gLe za zb)) := zt_cmp op_le oz_cmp ha hb (nobehind _ (by decide) (by decide))
theorem zt_gt (ha : ZC X W cl a za) (hb : ZC X W cl b zb) : ZT X W cl (.Compare a [.Gt] [b] pos) (zTst (zOp gGt za zb)) := zt_cmp op_gt oz_cmp ha hb (nobehind _ (by decide) (by decide))
theorem zt_ge (ha : ZC X W cl a za) (hb : ZC X W cl b zb) : ZT X W cl (.Compare a [.GtE] [b] pos) (zTst (zOp gGe za zb)) := zt_cmp op_ge oz_cmp ha hb (nobehind _ (by decide) (by decide))
end

/-! equality of data -/
mutual
def toPy : D → Option PyData
  | .non => some .none
  | .bl b => some (.bool b)
  | .int i => some (.int i)
  | .str s => some (.str s)
  | .tup ds => (toPys ds).map .tuple
  | .lst ds => (toPys ds).map .list
  | .scr ns => some (.list (ns.map .int))
  | .dK _ | .dT _ | .ins _ _ | .ref _ | .exn _ _ => none
def toPys : List D → Option (List PyData)
  | [] => some []
  | d :: ds => match toPy d, toPys ds with
    | some x, some xs => some (x :: xs)
    | _, _ => none
end
mutual
theorem Rep.dp {G : Gh} {H : Hp} : ∀ {d : D} {v : V} {p : PyData}, Rep G H v d → toPy d = some p → Dp G.K H v p
  | .non, _, p, .non, e => by cases e; exact .non
  | .bl b, _, p, .bl _, e => by cases e; exact .bl b
  | .int i, _, p, .int _, e => by cases e; exact .int i
  | .str i, _, p, .str _, e => by cases e; exact .str i
  | .tup ds, _, p, .tup h n r, e => by
    simp only [toPy, Option.map_eq_some_iff] at e
    obtain ⟨xs, e1, rfl⟩ := e
    exact .tup (SqT.of h) (RepL.dp r e1)
  | .lst ds, _, p, .lst h n r, e => by
    simp only [toPy, Option.map_eq_some_iff] at e
    obtain ⟨xs, e1, rfl⟩ := e
    exact .lst (SqL.of h) (RepL.dp r e1)
  | .scr ns, _, p, .scr h n, e => by cases e; exact .lst (.inl (.inr ⟨_, h⟩)) (dp_ints G H ns)
  | .scr ns, _, p, .scrK h, e => by cases e; exact .lst (h H) (dp_ints G H ns)
  | .dK _, _, p, _, e => by cases e
  | .dT _, _, p, _, e => by cases e
  | .ins _ _, _, p, _, e => by cases e
  | .ref _, _, p, _, e => by cases e
  | .exn _ _, _, p, _, e => by cases e
theorem RepL.dp {G : Gh} {H : Hp} : ∀ {ds : List D} {xs : List V} {ps : List PyData}, RepL G H xs ds → toPys ds = some ps → DpAll G.K H xs ps
  | [], _, ps, .nil, e => by cases e; exact .nil
  | d :: ds, _, ps, .cons h t, e => by
    simp only [toPys] at e
    split at e
    · rename_i x xs e1 e2
      cases e
      exact .cons (Rep.dp h e1) (RepL.dp t e2)
    · cases e
theorem dp_ints (G : Gh) (H : Hp) : ∀ ns : List Int, DpAll G.K H (ns.map V.int) (ns.map PyData.int)
  | [] => .nil
  | n :: r => .cons (.int n) (dp_ints G H r)
end
theorem Lk.dp {G : Gh} {H : Hp} {v : V} {d : D} {p : PyData} (l : Lk G H v d) (e : toPy d = some p) : Dp G.K H v p := by
  cases l with
  | of h => exact h.dp e
  | cel h =>
    cases h with
    | lst h r =>
      simp only [toPy, Option.map_eq_some_iff] at e
      obtain ⟨xs, e1, rfl⟩ := e
      exact .lst (SqL.of h) (r.dp e1)
    | _ => cases e
/-- d == e of data -/
def eqD (d e : D) : Option Bool := match toPy d, toPy e with
  | some p, some q => if SeqAt.shaped p = true ∧ SeqAt.shaped q = true then some (PyData.eqv p q) else none
  | _, _ => none
def strP : D → D → Option Bool
  | .str a, .str b => some (decide (a = b))
  | _, _ => none
def eqD2 (d e : D) : Option Bool := match strP d e with
  | some b => some b
  | none => eqD d e
def gEqB (neg : Bool) : G2 := fun d e M => match (deref M d).bind fun c => (deref M e).bind fun c' => eqD2 c c' with
  | some b => .ok (.bl (if neg then !b else b)) M
  | none => .fail
abbrev gEq : G2 := gEqB false
abbrev gNe : G2 := gEqB true
section
variable {X : Cx} {W : WX} {cl : String → Option Addr} {a b : Expr} {za zb : ZX} {pos : Pos}
theorem strP_inv {d e : D} {k : Bool} (h : strP d e = some k) : ∃ a b, d = .str a ∧ e = .str b ∧ k = decide (a = b) := by
  unfold strP at h
  split at h
  · cases h
    exact ⟨_, _, rfl, rfl, rfl⟩
  · cases h
theorem eq_run {F : Fr} {ph : List Addr} {M : Sto} {env : Ev} {σ : St} {H : Hp} {Q : VK} {x y : V} {d e : D} {neg : Bool} (S : Sim F ph M env σ H) (rx : RlC (gh F ph env σ) H x d) (ry : RlC (gh F ph env σ) H y e)
    (P : PoE F W env σ ph H Q (gEqB neg d e M)) : (scal x y = true ∧ Q (.bl (if neg then !decide (x = y) else decide (x = y))) H) ∨ ∃ p q, Dp F.K H x p ∧ Dp F.K H y q ∧ SeqAt.shaped p = true ∧ SeqAt.shaped q = true ∧ Q (.bl (if neg then !PyData.eqv p q else PyData.eqv p q)) H := by
  unfold gEqB at P
  cases e1 : deref M d with
  | none => rw [e1] at P; exact P.elim
  | some c =>
    cases e2 : deref M e with
    | none => rw [e1, e2] at P; exact P.elim
    | some c' =>
      simp only [e1, e2, Option.bind_some] at P
      cases e4 : strP c c' with
      | some k =>
        obtain ⟨a, b, rfl, rfl, rfl⟩ := strP_inv e4
        simp only [eqD2, e4] at P
        have h1 := (rx.look S e1).str_inv
        have h2 := (ry.look S e2).str_inv
        subst h1 h2
        refine .inl ⟨rfl, ?_⟩
        have := P.now S (.bl _)
        simpa using this
      | none =>
        simp only [eqD2, e4] at P
        refine .inr ?_
        cases e3 : eqD c c' with
        | none => rw [e3] at P; exact P.elim
        | some k =>
          rw [e3] at P
          unfold eqD at e3
          split at e3
          · rename_i p q p1 p2
            split at e3
            · rename_i hs
              cases e3
              exact ⟨p, q, (rx.look S e1).dp p1, (ry.look S e2).dp p2, hs.1, hs.2, P.now S (.bl _)⟩
            · cases e3
          · cases e3
theorem oz_eq : OpZ X W cl (fun x y H Q => rEq x y H Q ∨ rEqD X.K x y H Q) gEq := by
  intro F ph M env σ H Q x y d e h1 h2 S rx ry P
  rcases eq_run (neg := false) S rx ry P with ⟨a1, a2⟩ | ⟨p, q, a1, a2, a3, a4, a5⟩
  · exact .inl ⟨a1, a2⟩
  · rw [h2] at a1 a2
    exact .inr ⟨p, q, a1, a2, a3, a4, a5⟩
theorem oz_ne : OpZ X W cl (fun x y H Q => rNe x y H Q ∨ rNeD X.K x y H Q) gNe := by
  intro F ph M env σ H Q x y d e h1 h2 S rx ry P
  rcases eq_run (neg := true) S rx ry P with ⟨a1, a2⟩ | ⟨p, q, a1, a2, a3, a4, a5⟩
  · exact .inl ⟨a1, a2⟩
  · rw [h2] at a1 a2
    exact .inr ⟨p, q, a1, a2, a3, a4, a5⟩
theorem ze_eq (hu : X.A.units + 64 < cLine) (ha : ZC X W cl a za) (hb : ZC X W cl b zb) : ZE X W cl (.Compare a [.Eq] [b] pos) (zOp gEq za zb) := ze_cmp (op_eq.or (op_eqD hu)) oz_eq ha hb (nobehind _ (by decide) (by decide))
theorem ze_ne (hu : X.A.units + 64 < cLine) (ha : ZC X W cl a za) (hb : ZC X W cl b zb) : ZE X W cl (.Compare a [.NotEq] [b] pos) (zOp gNe za zb) := ze_cmp (op_ne.or (op_neD hu)) oz_ne ha hb (nobehind _ (by decide) (by decide))
theorem zt_eq (hu : X.A.units + 64 < cLine) (ha : ZC X W cl a za) (hb : ZC X W cl b zb) : ZT X W cl (.Compare a [.Eq] [b] pos) (zTst (zOp gEq za zb)) := zt_cmp (op_eq.or (op_eqD hu)) oz_eq ha hb (nobehind _ (by decide) (by decide))
theorem zt_ne (hu : X.A.units + 64 < cLine) (ha : ZC X W cl a za) (hb : ZC X W cl b zb) : ZT X W cl (.Compare a [.NotEq] [b] pos) (zTst (zOp gNe za zb)) := zt_cmp (op_ne.or (op_neD hu)) oz_ne ha hb (nobehind _ (by decide) (by decide))

/-! is None, is True -/
def isNon : D → Bool
  | .non => true
  | _ => false
def gIsB (neg : Bool) : G2 := fun d e M => match e with
  | .non => .ok (.bl (if neg then !isNon d else isNon d)) M
  | .bl b => match d with
    | .bl a => .ok (.bl (if neg then !decide (a = b) else decide (a = b))) M
    | _ => .fail
  | _ => .fail
abbrev gIs : G2 := gIsB false
abbrev gIsNot : G2 := gIsB true
theorem non_iff {G : Gh} {H : Hp} {v : V} {d : D} (r : RlC G H v d) : decide (v = .non) = isNon d := by
  rcases r with r | ⟨a, rfl, r, _, _⟩
  · cases r <;> simp [isNon]
  · cases r <;> simp [isNon]
theorem bl_of {G : Gh} {H : Hp} {v : V} {b : Bool} (r : RlC G H v (.bl b)) : v = .bl b := by
  rcases r with r | ⟨a, rfl, r, _, _⟩
  · cases r; rfl
  · cases r
theorem non_of {G : Gh} {H : Hp} {v : V} (r : RlC G H v .non) : v = .non := by
  rcases r with r | ⟨a, rfl, r, _, _⟩
  · cases r; rfl
  · cases r
theorem oz_is : OpZ X W cl (fun x y H Q => (y = .non ∧ Q (.bl (decide (x = .non))) H) ∨ rIsB x y H Q) gIs := by
  intro F ph M env σ H Q x y d e h1 h2 S rx ry P
  cases e with
  | non =>
    refine .inl ⟨non_of ry, ?_⟩
    rw [non_iff rx]
    exact P.now S (.bl _)
  | bl q =>
    cases d with
    | bl p => exact .inr ⟨p, q, bl_of rx, bl_of ry, P.now S (.bl _)⟩
    | _ => exact P.elim
  | _ => exact P.elim
theorem oz_isNot : OpZ X W cl (fun x y H Q => (y = .non ∧ Q (.bl (!decide (x = .non))) H) ∨ rNotB x y H Q) gIsNot := by
  intro F ph M env σ H Q x y d e h1 h2 S rx ry P
  cases e with
  | non =>
    refine .inl ⟨non_of ry, ?_⟩
    rw [non_iff rx]
    exact P.now S (.bl _)
  | bl q =>
    cases d with
    | bl p => exact .inr ⟨p, q, bl_of rx, bl_of ry, P.now S (.bl _)⟩
    | _ => exact P.elim
  | _ => exact P.elim
theorem ze_is (ha : ZC X W cl a za) (hb : ZC X W cl b zb) : ZE X W cl (.Compare a [.Is] [b] pos) (zOp gIs za zb) := ze_cmp (op_isN.or op_isBl) oz_is ha hb (nobehind _ (by decide) (by decide))
theorem ze_isNot (ha : ZC X W cl a za) (hb : ZC X W cl b zb) : ZE X W cl (.Compare a [.IsNot] [b] pos) (zOp gIsNot za zb) := ze_cmp (op_notN.or op_notBl) oz_isNot ha hb (nobehind _ (by decide) (by decide))
theorem zt_is (ha : ZC X W cl a za) (hb : ZC X W cl b zb) : ZT X W cl (.Compare a [.Is] [b] pos) (zTst (zOp gIs za zb)) := zt_cmp (op_isN.or op_isBl) oz_is ha hb (nobehind _ (by decide) (by decide))
theorem zt_isNot (ha : ZC X W cl a za) (hb : ZC X W cl b zb) : ZT X W cl (.Compare a [.IsNot] [b] pos) (zTst (zOp gIsNot za zb)) := zt_cmp (op_notN.or op_notBl) oz_isNot ha hb (nobehind _ (by decide) (by decide))
end
end Zy
set_option maxHeartbeats 2000000
namespace Zy
open PySem PySem.Spec PyProof.Rows L2

/-! dicts by value -/
def keyD : D → Option Key
  | .int i => some (.inl i)
  | .str s => some (.inr s)
  | _ => none
def keysD : List D → Option (List Key)
  | [] => some []
  | d :: ds => match keyD d, keysD ds with
    | some k, some ks => some (k :: ks)
    | _, _ => none
def valD {κ : Type} [DecidableEq κ] (kvs : List (κ × D)) (k : κ) : Option D := (kvs.find? fun kv => decide (kv.1 = k)).map (·.2)
def dputD {κ : Type} [DecidableEq κ] (kvs : List (κ × D)) (k : κ) (v : D) : List (κ × D) := if (kvs.any fun kv => decide (kv.1 = k)) then kvs.map fun kv => if kv.1 = k then (kv.1, v) else kv else kvs ++ [(k, v)]
/-- what a dict tells of a key -/
def dgetD (c e : D) : Option (Option D) := match c with
  | .dK kvs => (keyD e).map (valD kvs)
  | .dT kvs => match e with
    | .tup ds => (keysD ds).map (valD kvs)
    | _ => none
  | _ => none
def dgR (c e : D) (M : Sto) : Res D := match dgetD c e with
  | some (some x) => .ok x M
  | _ => .fail
theorem key_of {G : Gh} {H : Hp} {v : V} {d : D} {k : Key} (r : RlC G H v d) (h : keyD d = some k) : v = kV k := by
  cases d with
  | int i =>
    cases h
    rcases r with r | ⟨a, rfl, r, _⟩
    · cases r; rfl
    · cases r
  | str s =>
    cases h
    rcases r with r | ⟨a, rfl, r, _⟩
    · cases r; rfl
    · cases r
  | _ => cases h
theorem keys_of {G : Gh} {H : Hp} : ∀ {xs : List V} {ds : List D} {ks : List Key}, RepL G H xs ds → keysD ds = some ks → xs = ks.map kV
  | [], [], ks, _, h => by cases h; rfl
  | x :: xs, d :: ds, ks, .cons r t, h => by
    unfold keysD at h
    split at h
    · rename_i k ks' h1 h2
      cases h
      rw [List.map_cons, key_of (.inl r) h1, keys_of t h2]
    · cases h
theorem RepP.val {G : Gh} {H : Hp} {κ : Type} [DecidableEq κ] {k : κ} : ∀ {ks : List (κ × V)} {kvs : List (κ × D)}, RepP G H κ ks kvs → (valV ks k = none ∧ valD kvs k = none) ∨ ∃ v d, valV ks k = some v ∧ valD kvs k = some d ∧ Rep G H v d
  | _, _, .nil => .inl ⟨rfl, rfl⟩
  | _, _, .cons (k := j) (x := x) (d := d) h t => by
    by_cases e : j = k
    · refine .inr ⟨x, d, ?_, ?_, h⟩ <;> simp [valV, valD, List.find?_cons, e]
    · rcases RepP.val t with ⟨a, b⟩ | ⟨v, d', a, b, r⟩
      · refine .inl ⟨?_, ?_⟩
        · simp only [valV, List.find?_cons, decide_eq_false e] at a ⊢
          exact a
        · simp only [valD, List.find?_cons, decide_eq_false e] at b ⊢
          exact b
      · refine .inr ⟨v, d', ?_, ?_, r⟩
        · simp only [valV, List.find?_cons, decide_eq_false e] at a ⊢
          exact a
        · simp only [valD, List.find?_cons, decide_eq_false e] at b ⊢
          exact b
theorem dget_run {G : Gh} {H : Hp} {x y : V} {c e : D} {o : Option D} (L : Lk G H x c) (re : RlC G H y e) (h : dgetD c e = some o) : ∃ a u, x = .ref a ∧ DGet H a y u ∧ ((o = none ∧ u = none) ∨ ∃ d v, o = some d ∧ u = some v ∧ Rep G H v d) := by
  unfold dgetD at h
  split at h
  · rename_i kvs
    obtain ⟨a, ks, rfl, ha, r⟩ := L.dK_inv
    cases hk : keyD e with
    | none => rw [hk] at h; cases h
    | some k =>
      rw [hk] at h
      cases h
      refine ⟨a, valV ks k, rfl, .inl ⟨ks, k, .inl ha, key_of re hk, rfl⟩, ?_⟩
      rcases r.val (k := k) with ⟨p, q⟩ | ⟨v, d, p, q, rr⟩
      · exact .inl ⟨q, p⟩
      · exact .inr ⟨d, v, q, p, rr⟩
  · rename_i kvs
    split at h
    · rename_i ds
      obtain ⟨a, ks, rfl, ha, r⟩ := L.dT_inv
      cases hk : keysD ds with
      | none => rw [hk] at h; cases h
      | some k =>
        rw [hk] at h
        cases h
        obtain ⟨b, us, rfl, hb, rb⟩ : ∃ b us, y = .ref b ∧ H b = some (.tup us) ∧ RepL G H us ds := by
          rcases re with r | ⟨b, rfl, r, _⟩
          · cases r with
            | tup h1 h2 h3 => exact ⟨_, _, rfl, h1, h3⟩
          · cases r
        rw [keys_of rb hk] at hb
        refine ⟨a, valV ks k, rfl, .inr ⟨ks, k, b, .inl ha, rfl, hb, rfl⟩, ?_⟩
        rcases r.val (k := k) with ⟨p, q⟩ | ⟨v, d, p, q, rr⟩
        · exact .inl ⟨q, p⟩
        · exact .inr ⟨d, v, q, p, rr⟩
    · cases h
  · cases h
/-! subscripts -/
def gIx : G2 := fun d e M => match (deref M d), e with
  | some c, .int i => match itemsD c with
    | some ds => match atI ds i with
      | some x => .ok x M
      | none => .fail
    | none => match c with
      | .str z => if z.length ≤ sizeLine then match atI z.cps.toList i with
        | some c => .ok (.str ⟨#[c]⟩) M
        | none => .fail else .fail
      | c => dgR c (.int i) M
  | some c, e => dgR c e M
  | _, _ => .fail
theorem atI_len {α β : Type} {xs : List α} {ds : List β} (h : xs.length = ds.length) {i : Int} : ixN xs.length i = ixN ds.length i := by rw [h]
theorem RepL.atI {G : Gh} {H : Hp} {xs : List V} {ds : List D} (r : RepL G H xs ds) {i : Int} {d : D} (e : L2.atI ds i = some d) : ∃ x, L2.atI xs i = some x ∧ Rep G H x d := by
  unfold L2.atI at e ⊢
  rw [r.length]
  cases q : ixN ds.length i with
  | none => rw [q] at e; cases e
  | some j =>
    rw [q] at e
    exact r.at e
theorem int_of {G : Gh} {H : Hp} {v : V} {i : Int} (r : RlC G H v (.int i)) : v = .int i := by
  rcases r with r | ⟨a, rfl, r, _, _⟩
  · cases r; rfl
  · cases r
theorem str_of {G : Gh} {H : Hp} {v : V} {s : Str} (r : RlC G H v (.str s)) : v = .str s := by
  rcases r with r | ⟨a, rfl, r, _, _⟩
  · cases r; rfl
  · cases r
section
variable {X : Cx} {W : WX} {cl : String → Option Addr} {a b : Expr} {za zb : ZX} {pos : Pos}
theorem dgR_run {F : Fr} {ph : List Addr} {M : Sto} {env : Ev} {σ : St} {H : Hp} {Q : VK} {x y : V} {c e : D} (S : Sim F ph M env σ H) (L : Lk (gh F ph env σ) H x c) (ry : RlC (gh F ph env σ) H y e) (P : PoE F W env σ ph H Q (dgR c e M)) : ∃ a v, x = .ref a ∧ DGet H a y (some v) ∧ Q v H := by
  unfold dgR at P
  cases h : dgetD c e with
  | none => rw [h] at P; exact P.elim
  | some o =>
    rw [h] at P
    obtain ⟨a, u, rfl, g, r⟩ := dget_run L ry h
    rcases r with ⟨rfl, rfl⟩ | ⟨d, v, rfl, rfl, r⟩
    · exact P.elim
    · exact ⟨a, v, rfl, g, P.now S r⟩
/-- list, tuple, text, dict -/
def rIxU (K : PySem.W.Frag) : R2 := fun x y H Q => rIx K x y H Q ∨ ∃ a v, x = .ref a ∧ DGet H a y (some v) ∧ Q v H
theorem ix_dict (hu : X.A.units + 1 < cLine) : IxR X fun x y H Q => ∃ a v, x = .ref a ∧ DGet H a y (some v) ∧ Q v H := by
  intro value slice pins s σ H x y v u Q I rx ry h hs
  obtain ⟨a, w, rfl, g, q⟩ := h
  obtain rfl : v = Value.ref a := rx
  exact tail_any (dict_typeIs I g) PySem.F.slot_dict_getitem.lookup (d_getItem hu I g ry fun w' s' I' r' => ⟨w, H, I', r', q⟩) hs
theorem ix_all (hu : X.A.units + 1 < cLine) : IxR X (rIxU X.K) := ix_seq.or (ix_dict hu)
theorem oz_ix : OpZ X W cl (rIxU X.K) gIx := by
  intro F ph M env σ H Q x y d e h1 h2 S rx ry P
  unfold gIx at P
  cases e1 : deref M d with
  | none => rw [e1] at P; exact P.elim
  | some c =>
    rw [e1] at P
    have L := rx.look S e1
    cases e with
    | int i =>
      simp only at P
      cases e2 : itemsD c with
      | some ds =>
        simp only [e2] at P
        cases e3 : atI ds i with
        | none => rw [e3] at P; exact P.elim
        | some w =>
          rw [e3] at P
          obtain ⟨p, xs, rfl, hq, r⟩ := L.seq e2
          obtain ⟨u, e4, r4⟩ := r.atI e3
          have hK : (gh F ph env σ).K = X.K := h2
          rw [hK] at hq
          rcases hq with hq | hq
          · exact .inl (.inl ⟨p, xs, i, u, rfl, int_of ry, hq, e4, P.now S r4⟩)
          · exact .inl (.inr (.inl ⟨p, xs, i, u, rfl, int_of ry, hq, e4, P.now S r4⟩))
      | none =>
        simp only [e2] at P
        cases c with
        | str z =>
          simp only at P
          split at P
          · rename_i hl
            cases e3 : atI z.cps.toList i with
            | none => rw [e3] at P; exact P.elim
            | some w =>
              rw [e3] at P
              exact .inl (.inr (.inr ⟨z, i, w, L.str_inv, int_of ry, hl, e3, P.now S (.str _)⟩))
          · exact P.elim
        | _ => exact .inr (dgR_run S L ry P)
    | _ => exact .inr (dgR_run S L ry P)
theorem ze_ix (hu : X.A.units + 64 < cLine) (ha : ZC X W cl a za) (hb : ZC X W cl b zb) (hs : PlainIx b := by exact fun _ _ => rfl) : ZE X W cl (.Subscript a b pos) (zOp gIx za zb) := by
  obtain ⟨ta, pa, qa⟩ := ha.ex
  obtain ⟨tb, pb, qb⟩ := hb.ex
  exact ⟨_, pe_ix (ix_all (by omega)) pa pb hs, fun F ph M env σ H Q h1 h2 S P => op_run oz_ix qa qb h1 h2 S P⟩

/-! slices -/
abbrev ZO := Ev → Sto → Res (Option Int)
def RlO : Gh → Hp → Option Int → Option Int → Prop := fun _ _ a b => a = b
structure ZP (X : Cx) (W : WX) (cl : String → Option Addr) (e : Option Expr) (z : ZO) : Prop where
  ex : ∃ t, PO X e t ∧ ∀ F ph M env σ H Q, F.cl = cl → F.K = X.K → Sim F ph M env σ H → Post RlO F W env σ ph H Q (z env M) → t σ H Q
def zNoP : ZO := fun _ M => .ok none M
def zPart (z : ZX) : ZO := fun env M => (z env M).bind fun d M1 => match d with
  | .int i => .ok (some i) M1
  | _ => .fail
theorem zp_none : ZP X W cl none zNoP := ⟨_, po_none, fun F ph M env σ H Q _ _ S P => P.now S rfl⟩
theorem zp_some (ha : ZE X W cl a za) : ZP X W cl (some a) (zPart za) := by
  obtain ⟨t, p, q⟩ := ha.ex
  refine ⟨_, po_some p, fun F ph M env σ H Q h1 h2 S P => q F ph M env σ H _ h1 h2 S (P.step fun d M1 ph1 H1 w S1 f1 r1 P1 => ?_)⟩
  cases d with
  | int i => cases r1; exact ⟨i, rfl, P1.now S1 rfl⟩
  | _ => exact P1.elim
def cutD (ds : List D) (lo hi : Option Int) : List D := (ds.drop (HT.sIx ds.length 0 lo)).take (HT.sIx ds.length ds.length hi - HT.sIx ds.length 0 lo)
def slD (c : D) (lo hi : Option Int) : Option D := match c with
  | .lst ds => some (.lst (cutD ds lo hi))
  | .tup ds => some (.tup (cutD ds lo hi))
  | .str z => if z.length ≤ sizeLine then some (.str (cutS z lo hi)) else none
  | _ => none
def zSl (z : ZX) (zl zh : ZO) : ZX := fun env M => (z env M).bind fun d M1 => (zl env M1).bind fun lo M2 => (zh env M2).bind fun hi M3 => match (deref M3 d).bind fun c => slD c lo hi with
  | some r => .ok r M3
  | none => .fail
theorem RepL.cut {G : Gh} {H : Hp} {xs : List V} {ds : List D} (r : RepL G H xs ds) (lo hi : Option Int) : RepL G H (cutV xs lo hi) (cutD ds lo hi) := by
  unfold cutV cutD
  rw [r.length]
  exact (r.drop _).take _
theorem cut_all {ds : List D} {lo hi : Option Int} (h : HT.sIx ds.length 0 lo = 0 ∧ HT.sIx ds.length ds.length hi = ds.length) : cutD ds lo hi = ds := by
  unfold cutD
  rw [h.1, h.2]
  simp
theorem ze_sl {e : Expr} {lo hi : Option Expr} {p2 : Pos} {z : ZX} {zl zh : ZO} (he : ZC X W cl e z) (hl : ZP X W cl lo zl) (hh : ZP X W cl hi zh) : ZE X W cl (.Subscript e (.Slice lo hi none p2) pos) (zSl z zl zh) := by
  obtain ⟨t, p, q⟩ := he.ex
  obtain ⟨tl, pl, ql⟩ := hl.ex
  obtain ⟨th, pph, qh⟩ := hh.ex
  refine ⟨_, pe_slice (sl_list.or (sl_tupA.or sl_str)) p pl pph, fun F ph M env σ H Q h1 h2 S P => q F ph M env σ H _ h1 h2 S (P.step fun d M1 ph1 H1 w S1 f1 r1 P1 => ?_)⟩
  refine ql F ph1 M1 env σ H1 _ h1 h2 S1 (P1.step fun lo M2 ph2 H2 lo' S2 f2 r2 P2 => ?_)
  cases (show lo' = lo from r2)
  refine qh F ph2 M2 env σ H2 _ h1 h2 S2 (P2.step fun hi M3 ph3 H3 hi' S3 f3 r3 P3 => ?_)
  cases (show hi' = hi from r3)
  have rr := (r1.fwd S1 f2).fwd S2 f3
  cases e1 : deref M3 d with
  | none => rw [e1] at P3; exact P3.elim
  | some c =>
    rw [e1] at P3
    have L := rr.look S3 e1
    simp only [Option.bind_some] at P3
    cases c with
    | lst ds =>
      obtain ⟨a, xs, rfl, hq, r⟩ := L.lst_inv
      exact .inl ⟨a, xs, rfl, SqL.of hq, fun p hp => P3.newLst S3 (r.cut _ _) hp⟩
    | tup ds =>
      obtain ⟨a, xs, rfl, hq, r⟩ := L.tup_inv
      refine .inr (.inl ⟨a, xs, rfl, SqT.of hq, fun hw => ?_, fun _ p hp => P3.newTup S3 (r.cut _ _) hp⟩)
      rw [r.length] at hw
      refine P3.now S3 ?_
      rw [cut_all hw]
      exact rr.tupRep S3 e1
    | str z =>
      cases L.str_inv
      by_cases hz : z.length ≤ sizeLine
      · simp only [slD, hz, if_true] at P3
        exact .inr (.inr ⟨z, rfl, hz, P3.now S3 (.str _)⟩)
      · simp only [slD, hz, if_false] at P3
        exact P3.elim
    | _ => exact P3.elim
/-- xs[::-1] -/
def zRv (z : ZX) : ZX := fun env M => (z env M).bind fun d M1 => match deref M1 d with
  | some (.lst ds) => .ok (.lst ds.reverse) M1
  | _ => .fail
theorem RepL.rev {G : Gh} {H : Hp} : ∀ {xs : List V} {ds : List D}, RepL G H xs ds → RepL G H xs.reverse ds.reverse
  | _, _, .nil => .nil
  | _, _, .cons h t => by
    rw [List.reverse_cons, List.reverse_cons]
    exact (RepL.rev t).app (.cons h .nil)
theorem ze_rv {e : Expr} {k : Nat} {p1 p2 p3 : Pos} {z : ZX} (he : ZC X W cl e z) : ZE X W cl (.Subscript e (.Slice none none (some (.UnaryOp .USub (.Constant (.int 1) k p1) p2)) p3) pos) (zRv z) := by
  obtain ⟨t, p, q⟩ := he.ex
  refine ⟨_, pe_revL p, fun F ph M env σ H Q h1 h2 S P => q F ph M env σ H _ h1 h2 S (P.step fun d M1 ph1 H1 w S1 f1 r1 P1 => ?_)⟩
  cases e1 : deref M1 d with
  | none => rw [e1] at P1; exact P1.elim
  | some c =>
    rw [e1] at P1
    cases c with
    | lst ds =>
      obtain ⟨a, xs, rfl, hq, r⟩ := (r1.look S1 e1).lst_inv
      exact ⟨a, xs, rfl, SqL.of hq, fun p hp => P1.newLst S1 r.rev hp⟩
    | _ => exact P1.elim

/-! built-ins, by the list of their arguments -/
abbrev GB := List D → Sto → Res D
def zBf (g : GB) (l : ZL) : ZX := fun env M => (l env M).bind fun ds M1 => g ds M1
def BfZ (X : Cx) (W : WX) (cl : String → Option Addr) (r : List V → Hp → VK → Prop) (g : GB) : Prop := ∀ (F : Fr) (ph : List Addr) (M : Sto) (env : Ev) (σ : St) (H : Hp) (Q : VK) (xs : List V) (ds : List D), F.cl = cl → F.K = X.K → Sim F ph M env σ H →
  RcL (gh F ph env σ) H xs ds → PoE F W env σ ph H Q (g ds M) → r xs H Q
variable {x : Str} {p : Pos} {e : Expr} {es : List Expr} {zs : ZL} {id : String} {r : List V → Hp → VK → Prop} {g : GB}
theorem ze_bf (hc : CallR X (.builtin id) r) (hz : BfZ X W cl r g) (hg : Gl X x) (hm : X.mg x = none) (hv : bootBuiltins x = some (.builtin id)) (ha : ZK X W cl (e :: es) zs) (hn : x ≠ "__name__" := by decide) (hdb : (x == ("__debug__" : Str)) = false := by decide)
    (he : nostar e = true := by rfl) (hpl : (backTo pos (starEach es X.env)).any (·.1) = false := by rfl) : ZE X W cl (.Call (.Name x p) (e :: es) [] pos) (zBf g zs) := by
  obtain ⟨t, pa, q⟩ := ha.ex
  exact ⟨_, pe_callB hc hg hm hv pa hn hdb (star_ok he) hpl, fun F ph M env σ H Q h1 h2 S P => q F ph M env σ H _ h1 h2 S (P.step fun ds M1 ph1 H1 xs S1 f1 r1 P1 => hz F ph1 M1 env σ H1 Q xs ds h1 h2 S1 r1 P1)⟩
theorem ze_bt (hc : CallR X (.type id) r) (hz : BfZ X W cl r g) (hg : Gl X x) (hm : X.mg x = none) (hv : bootBuiltins x = some (.type id)) (ha : ZK X W cl (e :: es) zs) (hn : x ≠ "__name__" := by decide) (hdb : (x == ("__debug__" : Str)) = false := by decide)
    (he : nostar e = true := by rfl) (hpl : (backTo pos (starEach es X.env)).any (·.1) = false := by rfl) : ZE X W cl (.Call (.Name x p) (e :: es) [] pos) (zBf g zs) := by
  obtain ⟨t, pa, q⟩ := ha.ex
  exact ⟨_, pe_callTy hc hg hm hv pa hn hdb (star_ok he) hpl, fun F ph M env σ H Q h1 h2 S P => q F ph M env σ H _ h1 h2 S (P.step fun ds M1 ph1 H1 xs S1 f1 r1 P1 => hz F ph1 M1 env σ H1 Q xs ds h1 h2 S1 r1 P1)⟩
theorem CallR.or {f : Value} {r r' : List V → Hp → VK → Prop} (h : CallR X f r) (h' : CallR X f r') : CallR X f (fun xs H Q => r xs H Q ∨ r' xs H Q) := by
  intro pins s σ H xs us Q I rs q
  rcases q with q | q
  · exact h pins s σ H xs us Q I rs q
  · exact h' pins s σ H xs us Q I rs q
def gLen : GB := fun ds M => match ds with
  | [d] => match deref M d with
    | some c => match itemsD c with
      | some ds => .ok (.int ds.length) M
      | none => match c with
        | .str z => if z.length ≤ sizeLine then .ok (.int z.length) M else .fail
        | .dK kvs => .ok (.int kvs.length) M
        | .dT kvs => .ok (.int kvs.length) M
        | _ => .fail
    | none => .fail
  | _ => .fail
def LenD (K : PySem.W.Frag) (x : V) (H : Hp) (n : Nat) : Prop := LenV K x H n ∨ (∃ p kvs, x = .ref p ∧ H p = some (.dK kvs) ∧ n = kvs.length) ∨ ∃ p kvs, x = .ref p ∧ H p = some (.dT kvs) ∧ n = kvs.length
theorem call_lenD {X : Cx} : CallR X (.builtin "len") (fun xs H Q => ∃ x n, xs = [x] ∧ LenD X.K x H n ∧ Q (.int n) H) := by
  intro pins s σ H xs us Q I r h
  obtain ⟨x, n, rfl, e, q⟩ := h
  rcases e with e | ⟨p, kvs, rfl, hp, rfl⟩ | ⟨p, kvs, rfl, hp, rfl⟩
  · exact call_len pins s σ H [x] us Q I r ⟨x, n, rfl, e, q⟩
  · obtain ⟨u, rfl, rx⟩ := vals1 r
    obtain rfl : u = .ref p := rx
    exact d_len I (.inl hp) fun t s' I' => ⟨.int _, H, I', ⟨_, rfl⟩, q⟩
  · exact call_len_dT pins s σ H [.ref p] us Q I r ⟨p, kvs, rfl, hp, q⟩
theorem RcL.one {G : Gh} {H : Hp} {xs : List V} {d : D} (h : RcL G H xs [d]) : ∃ x, xs = [x] ∧ RlC G H x d := by
  cases h with
  | cons h t => cases t; exact ⟨_, rfl, h⟩
theorem RcL.two {G : Gh} {H : Hp} {xs : List V} {d e : D} (h : RcL G H xs [d, e]) : ∃ x y, xs = [x, y] ∧ RlC G H x d ∧ RlC G H y e := by
  cases h with
  | cons h t => cases t with | cons h' t => cases t; exact ⟨_, _, rfl, h, h'⟩
theorem bz_len : BfZ X W cl (fun xs H Q => ∃ x n, xs = [x] ∧ LenD X.K x H n ∧ Q (.int n) H) gLen := by
  intro F ph M env σ H Q xs ds h1 h2 S r P
  unfold gLen at P
  split at P
  · rename_i d
    obtain ⟨x, rfl, rx⟩ := r.one
    cases e1 : deref M d with
    | none => rw [e1] at P; exact P.elim
    | some c =>
      rw [e1] at P
      have L := rx.look S e1
      simp only at P
      cases e2 : itemsD c with
      | some ds =>
        rw [e2] at P
        obtain ⟨p, xs, rfl, hq, r⟩ := L.seq e2
        have hK : (gh F ph env σ).K = X.K := h2
        rw [hK] at hq
        refine ⟨_, ds.length, rfl, ?_, P.now S (.int _)⟩
        rcases hq with hq | hq
        · exact .inl (.inl ⟨xs, hq, r.length.symm⟩)
        · exact .inl (.inr ⟨xs, hq, r.length.symm⟩)
      | none =>
        rw [e2] at P
        cases c with
        | str z =>
          simp only at P
          split at P
          · rename_i hl
            exact ⟨_, z.length, rfl, .inl (by rw [L.str_inv]; exact ⟨hl, rfl⟩), P.now S (.int _)⟩
          · exact P.elim
        | dK kvs =>
          obtain ⟨p, ks, rfl, hp, r⟩ := L.dK_inv
          exact ⟨_, kvs.length, rfl, .inr (.inl ⟨p, ks, rfl, hp, r.length.symm⟩), P.now S (.int _)⟩
        | dT kvs =>
          obtain ⟨p, ks, rfl, hp, r⟩ := L.dT_inv
          exact ⟨_, kvs.length, rfl, .inr (.inr ⟨p, ks, rfl, hp, r.length.symm⟩), P.now S (.int _)⟩
        | _ => exact P.elim
  · exact P.elim
def gInt : GB := fun ds M => match ds with
  | [.int i] => .ok (.int i) M
  | [.bl b] => .ok (.int (if b then 1 else 0)) M
  | _ => .fail
theorem bz_int : BfZ X W cl (fun xs H Q => (∃ i, xs = [.int i] ∧ Q (.int i) H) ∨ ∃ k, xs = [.bl k] ∧ Q (.int (if k then 1 else 0)) H) gInt := by
  intro F ph M env σ H Q xs ds h1 h2 S r P
  unfold gInt at P
  split at P
  · rename_i i
    obtain ⟨x, rfl, rx⟩ := r.one
    exact .inl ⟨i, by rw [int_of rx], P.now S (.int _)⟩
  · rename_i i
    obtain ⟨x, rfl, rx⟩ := r.one
    exact .inr ⟨i, by rw [bl_of rx], P.now S (.int _)⟩
  · exact P.elim
def gAbs : GB := fun ds M => match ds with
  | [.int i] => .ok (.int (if i < 0 then -i else i)) M
  | _ => .fail
theorem bz_abs : BfZ X W cl (fun xs H Q => ∃ i, xs = [.int i] ∧ Q (.int (if i < 0 then -i else i)) H) gAbs := by
  intro F ph M env σ H Q xs ds h1 h2 S r P
  unfold gAbs at P
  split at P
  · rename_i i
    obtain ⟨x, rfl, rx⟩ := r.one
    exact ⟨i, by rw [int_of rx], P.now S (.int _)⟩
  · exact P.elim
def gMax2 : GB := fun ds M => match ds with
  | [.int i, .int j] => .ok (.int (if j > i then j else i)) M
  | _ => .fail
def gMin2 : GB := fun ds M => match ds with
  | [.int i, .int j] => .ok (.int (if j < i then j else i)) M
  | _ => .fail
theorem bz_max2 : BfZ X W cl (fun xs H Q => ∃ i j, xs = [.int i, .int j] ∧ Q (.int (if j > i then j else i)) H) gMax2 := by
  intro F ph M env σ H Q xs ds h1 h2 S r P
  unfold gMax2 at P
  split at P
  · rename_i i j
    obtain ⟨x, y, rfl, rx, ry⟩ := r.two
    exact ⟨i, j, by rw [int_of rx, int_of ry], P.now S (.int _)⟩
  · exact P.elim
theorem bz_min2 : BfZ X W cl (fun xs H Q => ∃ i j, xs = [.int i, .int j] ∧ Q (.int (if j < i then j else i)) H) gMin2 := by
  intro F ph M env σ H Q xs ds h1 h2 S r P
  unfold gMin2 at P
  split at P
  · rename_i i j
    obtain ⟨x, y, rfl, rx, ry⟩ := r.two
    exact ⟨i, j, by rw [int_of rx, int_of ry], P.now S (.int _)⟩
  · exact P.elim
/-- all ints; all bools -/
def intsD : List D → Option (List Int)
  | [] => some []
  | .int i :: r => (intsD r).map (i :: ·)
  | _ => none
def blsD : List D → Option (List Bool)
  | [] => some []
  | .bl i :: r => (blsD r).map (i :: ·)
  | _ => none
theorem RepL.ints {G : Gh} {H : Hp} : ∀ {ds : List D} {xs : List V} {ns : List Int}, RepL G H xs ds → intsD ds = some ns → xs = ns.map V.int
  | [], _, ns, .nil, e => by cases e; rfl
  | .int i :: r, _, ns, .cons h t, e => by
    simp only [intsD, Option.map_eq_some_iff] at e
    obtain ⟨ms, e1, rfl⟩ := e
    cases h
    rw [RepL.ints t e1]
    rfl
  | .non :: _, _, _, _, e | .bl _ :: _, _, _, _, e | .str _ :: _, _, _, _, e | .tup _ :: _, _, _, _, e | .lst _ :: _, _, _, _, e | .dK _ :: _, _, _, _, e | .dT _ :: _, _, _, _, e | .ins _ _ :: _, _, _, _, e | .ref _ :: _, _, _, _, e | .scr _ :: _, _, _, _, e | .exn _ _ :: _, _, _, _, e => by cases e
theorem RepL.bls {G : Gh} {H : Hp} : ∀ {ds : List D} {xs : List V} {ns : List Bool}, RepL G H xs ds → blsD ds = some ns → xs = ns.map V.bl
  | [], _, ns, .nil, e => by cases e; rfl
  | .bl i :: r, _, ns, .cons h t, e => by
    simp only [blsD, Option.map_eq_some_iff] at e
    obtain ⟨ms, e1, rfl⟩ := e
    cases h
    rw [RepL.bls t e1]
    rfl
  | .non :: _, _, _, _, e | .int _ :: _, _, _, _, e | .str _ :: _, _, _, _, e | .tup _ :: _, _, _, _, e | .lst _ :: _, _, _, _, e | .dK _ :: _, _, _, _, e | .dT _ :: _, _, _, _, e | .ins _ _ :: _, _, _, _, e | .ref _ :: _, _, _, _, e | .scr _ :: _, _, _, _, e | .exn _ _ :: _, _, _, _, e => by cases e
end
end Zy
set_option maxHeartbeats 2000000
namespace Zy
open PySem PySem.Spec PyProof.Rows L2

/-! sum, max, min, all, any -/
theorem preSum_get (ns : List Int) : ∀ n, n ≤ ns.length → preSum (fun i => ns.getD i 0) n = (ns.take n).sum
  | 0, _ => by simp [preSum]
  | n + 1, h => by
    have hn : n < ns.length := h
    rw [preSum, preSum_get ns n (Nat.le_of_lt hn), List.take_add_one, List.getElem?_eq_getElem hn, List.sum_append]
    simp [List.getD, List.getElem?_eq_getElem hn]
theorem sum_tupI {prog : Program} {w : World} {A : Around} {E : Value → Shared → Prop} {s : Shared} {t : Addr} {its : List Value} {ns : List Int} {Q : Value → Shared → Prop} (hh : A.handled = none) (ht : IsTup s.heap t its.toArray) (hi : Vals (ns.map V.int) its)
    (h : ∀ h' tk t', (∀ b o, s.heap.get? b = some o → h'.get? b = some o) → Q (.int ns.sum t') { s with heap := h', toks := tk }) : wpAny (model prog w) A (call (.builtin "sum") [.ref t]) Q E s := by
  have hl : its.length = ns.length := by rw [← hi.length, List.length_map]
  obtain ⟨o, ho, hc, n, hd⟩ := ht
  have ht : s.heap.IsTuple t its.toArray := ⟨o, ho, hc, n, hd⟩
  have hlt : t < s.heap.objs.size := Heap.lt_size ho
  refine call_sum_walkG (wpAny_pyIter_tuple ht ?_)
  refine ⟨s.heap.objs.size, _, _, _, _, _, fun i => ns.getD i 0, rfl, Walks.tuple (A := A.in1) hh s.heap.objs.size t (Nat.ne_of_lt hlt) its.toArray, ⟨⟨_, Heap.get?_push_size _ rfl, rfl, rfl⟩, ⟨o, Heap.get?_push_of_some _ ho, hc, n, hd⟩⟩, ?_, fun i v e => ?_, fun h' tk t' hk => ?_⟩
  · intro b hb
    show b < (s.heap.push _).objs.size
    rw [Heap.size_push]
    rcases List.mem_cons.mp hb with e | hb
    · subst e; exact Nat.lt_succ_self _
    · have e : b = t := by simpa using hb
      subst e; exact Nat.lt_succ_of_lt hlt
  · have e' : its[i]? = some v := by simpa using e
    have hi' : i < its.length := (List.getElem?_eq_some_iff.mp e').1
    obtain ⟨u, e2, r⟩ := hi.get (i := i) (x := .int (ns.getD i 0)) (by
      rw [List.getElem?_map, List.getElem?_eq_getElem (by omega)]
      simp [List.getD, List.getElem?_eq_getElem (show i < ns.length by omega)])
    rw [e'] at e2
    cases e2
    exact r
  · have e := preSum_get ns its.toArray.size (by rw [List.size_toArray, hl]; exact Nat.le_refl _)
    have e2 : ns.take its.toArray.size = ns := List.take_of_length_le (by rw [List.size_toArray, hl]; exact Nat.le_refl _)
    rw [e, e2]
    refine h h' tk t' fun b u hb => hk b u (fun hm => ?_) (Heap.get?_push_of_some _ hb)
    have e : b = s.heap.objs.size := by simpa using hm
    subst e
    exact absurd (Heap.lt_size hb) (Nat.lt_irrefl _)
def rSumT (K : PySem.W.Frag) : List V → Hp → VK → Prop := fun vs H Q => ∃ (a : Addr) (ns : List Int), vs = [V.ref a] ∧ SqT K H a (ns.map V.int) ∧ Q (.int ns.sum) H
section
variable {X : Cx} {W : WX} {cl : String → Option Addr} {a b e : Expr} {za zb : ZX} {pos p : Pos} {es : List Expr} {zs : ZL}
theorem cr_sumT (hc : X.calm = true) : CallR X (.builtin "sum") (rSumT X.K) := by
  intro pins s σ H vs us Q I r h
  obtain ⟨a, ns, rfl, hs, q⟩ := h
  obtain ⟨its, rv, ht, _⟩ := I.tuple hs
  rw [Vals.ref1 r]
  exact sum_tupI (I.ok.hd hc) ht rv fun h' tk t' hk => ⟨.int _, H, I.kept hk, ⟨_, rfl⟩, q⟩
def gSum : GB := fun ds M => match ds with
  | [d] => match ((deref M d).bind itemsD).bind intsD with
    | some ns => .ok (.int ns.sum) M
    | none => .fail
  | _ => .fail
theorem seq_ints {F : Fr} {ph : List Addr} {M : Sto} {env : Ev} {σ : St} {H : Hp} {v : V} {d : D} {ns : List Int} (S : Sim F ph M env σ H) (rx : RlC (gh F ph env σ) H v d) (e : ((deref M d).bind itemsD).bind intsD = some ns) :
    ∃ p, v = .ref p ∧ (SqL F.K H p (ns.map V.int) ∨ SqT F.K H p (ns.map V.int)) := by
  cases e1 : deref M d with
  | none => rw [e1] at e; cases e
  | some c =>
    cases e2 : itemsD c with
    | none => simp only [e1, e2, Option.bind_some, Option.bind_none] at e; cases e
    | some ds =>
      simp only [e1, e2, Option.bind_some] at e
      obtain ⟨p, xs, rfl, hq, r⟩ := (rx.look S e1).seq e2
      rw [r.ints e] at hq
      exact ⟨p, rfl, hq⟩
theorem bz_sum : BfZ X W cl (fun xs H Q => rSum X.K xs H Q ∨ rSumT X.K xs H Q) gSum := by
  intro F ph M env σ H Q xs ds h1 h2 S r P
  unfold gSum at P
  split at P
  · rename_i d
    obtain ⟨x, rfl, rx⟩ := r.one
    cases e : ((deref M d).bind itemsD).bind intsD with
    | none => rw [e] at P; exact P.elim
    | some ns =>
      rw [e] at P
      obtain ⟨p, rfl, hq⟩ := seq_ints S rx e
      rw [h2] at hq
      rcases hq with hq | hq
      · exact .inl ⟨p, ns, rfl, hq, P.now S (.int _)⟩
      · exact .inr ⟨p, ns, rfl, hq, P.now S (.int _)⟩
  · exact P.elim
/-- the ints of a list (no tuple) -/
def lintsD : D → Option (List Int)
  | .lst ds => intsD ds
  | _ => none
def lblsD : D → Option (List Bool)
  | .lst ds => blsD ds
  | _ => none
def gMx (f : List Int → Option Int) : GB := fun ds M => match ds with
  | [d] => match ((deref M d).bind lintsD).bind f with
    | some n => .ok (.int n) M
    | none => .fail
  | _ => .fail
abbrev gMax : GB := gMx List.max?
abbrev gMin : GB := gMx List.min?
theorem lints {F : Fr} {ph : List Addr} {M : Sto} {env : Ev} {σ : St} {H : Hp} {v : V} {d : D} {ns : List Int} (S : Sim F ph M env σ H) (rx : RlC (gh F ph env σ) H v d) (e : (deref M d).bind lintsD = some ns) :
    ∃ p, v = .ref p ∧ SqL F.K H p (ns.map V.int) := by
  cases e1 : deref M d with
  | none => rw [e1] at e; cases e
  | some c =>
    simp only [e1, Option.bind_some] at e
    cases c with
    | lst ds =>
      obtain ⟨p, xs, rfl, hq, r⟩ := (rx.look S e1).lst_inv
      rw [r.ints e] at hq
      exact ⟨p, rfl, SqL.of hq⟩
    | _ => cases e
theorem lbls {F : Fr} {ph : List Addr} {M : Sto} {env : Ev} {σ : St} {H : Hp} {v : V} {d : D} {ns : List Bool} (S : Sim F ph M env σ H) (rx : RlC (gh F ph env σ) H v d) (e : (deref M d).bind lblsD = some ns) :
    ∃ p, v = .ref p ∧ SqL F.K H p (ns.map V.bl) := by
  cases e1 : deref M d with
  | none => rw [e1] at e; cases e
  | some c =>
    simp only [e1, Option.bind_some] at e
    cases c with
    | lst ds =>
      obtain ⟨p, xs, rfl, hq, r⟩ := (rx.look S e1).lst_inv
      rw [r.bls e] at hq
      exact ⟨p, rfl, SqL.of hq⟩
    | _ => cases e
theorem bz_max : BfZ X W cl (rMax X.K) gMax := by
  intro F ph M env σ H Q xs ds h1 h2 S r P
  unfold gMax gMx at P
  split at P
  · rename_i d
    obtain ⟨x, rfl, rx⟩ := r.one
    cases e : (deref M d).bind lintsD with
    | none => rw [e] at P; exact P.elim
    | some ns =>
      obtain ⟨p, rfl, hq⟩ := lints S rx e
      rw [h2] at hq
      cases e2 : ns.max? with
      | none => simp only [e, Option.bind_some, e2] at P; exact P.elim
      | some n =>
        simp only [e, Option.bind_some, e2] at P
        have hm := List.max?_eq_some_iff.mp e2
        refine ⟨p, ns, rfl, hq, List.length_pos_of_mem hm.1, fun m m1 m2 => ?_⟩
        have : m = n := Int.le_antisymm (hm.2 m m1) (m2 n hm.1)
        subst this
        exact P.now S (.int _)
  · exact P.elim
theorem bz_min : BfZ X W cl (rMin X.K) gMin := by
  intro F ph M env σ H Q xs ds h1 h2 S r P
  unfold gMin gMx at P
  split at P
  · rename_i d
    obtain ⟨x, rfl, rx⟩ := r.one
    cases e : (deref M d).bind lintsD with
    | none => rw [e] at P; exact P.elim
    | some ns =>
      obtain ⟨p, rfl, hq⟩ := lints S rx e
      rw [h2] at hq
      cases e2 : ns.min? with
      | none => simp only [e, Option.bind_some, e2] at P; exact P.elim
      | some n =>
        simp only [e, Option.bind_some, e2] at P
        have hm := List.min?_eq_some_iff.mp e2
        refine ⟨p, ns, rfl, hq, List.length_pos_of_mem hm.1, fun m m1 m2 => ?_⟩
        have : m = n := Int.le_antisymm (m2 n hm.1) (hm.2 m m1)
        subst this
        exact P.now S (.int _)
  · exact P.elim
def gQuant (f : List Bool → Bool) : GB := fun ds M => match ds with
  | [d] => match (deref M d).bind lblsD with
    | some bs => .ok (.bl (f bs)) M
    | none => .fail
  | _ => .fail
abbrev gAll : GB := gQuant fun bs => bs.all id
abbrev gAny : GB := gQuant fun bs => bs.any id
theorem bz_all : BfZ X W cl (rAll X.K) gAll := by
  intro F ph M env σ H Q xs ds h1 h2 S r P
  unfold gAll gQuant at P
  split at P
  · rename_i d
    obtain ⟨x, rfl, rx⟩ := r.one
    cases e : (deref M d).bind lblsD with
    | none => rw [e] at P; exact P.elim
    | some ns =>
      rw [e] at P
      obtain ⟨p, rfl, hq⟩ := lbls S rx e
      rw [h2] at hq
      exact ⟨p, ns, rfl, hq, P.now S (.bl _)⟩
  · exact P.elim
theorem bz_any : BfZ X W cl (rAny X.K) gAny := by
  intro F ph M env σ H Q xs ds h1 h2 S r P
  unfold gAny gQuant at P
  split at P
  · rename_i d
    obtain ⟨x, rfl, rx⟩ := r.one
    cases e : (deref M d).bind lblsD with
    | none => rw [e] at P; exact P.elim
    | some ns =>
      rw [e] at P
      obtain ⟨p, rfl, hq⟩ := lbls S rx e
      rw [h2] at hq
      exact ⟨p, ns, rfl, hq, P.now S (.bl _)⟩
  · exact P.elim
section
variable (hm : X.mg "len" = none)
theorem ze_len (hg : Gl X "len") (hm : X.mg "len" = none) (ha : ZC X W cl a za) (n : nostar a = true := by rfl) : ZE X W cl (.Call (.Name "len" p) [a] [] pos) (zBf gLen (zCons za zNil)) := ze_bf call_lenD bz_len hg hm PySem.boot_len (zk_cons ha zk_nil n) (he := n)
theorem ze_callInt (hg : Gl X "int") (hm : X.mg "int" = none) (ha : ZC X W cl a za) (n : nostar a = true := by rfl) : ZE X W cl (.Call (.Name "int" p) [a] [] pos) (zBf gInt (zCons za zNil)) := ze_bt call_int1 bz_int hg hm (by decide +kernel) (zk_cons ha zk_nil n) (he := n)
theorem ze_abs (hg : Gl X "abs") (hm : X.mg "abs" = none) (ha : ZC X W cl a za) (n : nostar a = true := by rfl) : ZE X W cl (.Call (.Name "abs" p) [a] [] pos) (zBf gAbs (zCons za zNil)) := ze_bf call_abs bz_abs hg hm (by decide +kernel) (zk_cons ha zk_nil n) (he := n)
theorem ze_sum (hc : X.calm = true) (hg : Gl X "sum") (hm : X.mg "sum" = none) (ha : ZC X W cl a za) (n : nostar a = true := by rfl) : ZE X W cl (.Call (.Name "sum" p) [a] [] pos) (zBf gSum (zCons za zNil)) := ze_bf (CallR.or (cr_sum hc) (cr_sumT hc)) bz_sum hg hm (by decide +kernel) (zk_cons ha zk_nil n) (he := n)
theorem ze_max (hc : X.calm = true) (hg : Gl X "max") (hm : X.mg "max" = none) (ha : ZC X W cl a za) (n : nostar a = true := by rfl) : ZE X W cl (.Call (.Name "max" p) [a] [] pos) (zBf gMax (zCons za zNil)) := ze_bf (cr_max hc) bz_max hg hm (by decide +kernel) (zk_cons ha zk_nil n) (he := n)
theorem ze_min (hc : X.calm = true) (hg : Gl X "min") (hm : X.mg "min" = none) (ha : ZC X W cl a za) (n : nostar a = true := by rfl) : ZE X W cl (.Call (.Name "min" p) [a] [] pos) (zBf gMin (zCons za zNil)) := ze_bf (cr_min hc) bz_min hg hm (by decide +kernel) (zk_cons ha zk_nil n) (he := n)
theorem ze_all (hc : X.calm = true) (hg : Gl X "all") (hm : X.mg "all" = none) (ha : ZC X W cl a za) (n : nostar a = true := by rfl) : ZE X W cl (.Call (.Name "all" p) [a] [] pos) (zBf gAll (zCons za zNil)) := ze_bf (cr_all hc) bz_all hg hm (by decide +kernel) (zk_cons ha zk_nil n) (he := n)
theorem ze_any (hc : X.calm = true) (hg : Gl X "any") (hm : X.mg "any" = none) (ha : ZC X W cl a za) (n : nostar a = true := by rfl) : ZE X W cl (.Call (.Name "any" p) [a] [] pos) (zBf gAny (zCons za zNil)) := ze_bf (cr_any hc) bz_any hg hm (by decide +kernel) (zk_cons ha zk_nil n) (he := n)
theorem backTo_two (n' : nostar b = true) : (backTo pos (starEach [b] X.env)).any (·.1) = false := by
  rw [star_ok n']
  rfl
theorem ze_max2 (hc : X.calm = true) (hg : Gl X "max") (hm : X.mg "max" = none) (ha : ZC X W cl a za) (hb : ZC X W cl b zb) (n : nostar a = true := by rfl) (n' : nostar b = true := by rfl) : ZE X W cl (.Call (.Name "max" p) [a, b] [] pos) (zBf gMax2 (zCons za (zCons zb zNil))) :=
  ze_bf (call_max2 hc) bz_max2 hg hm (by decide +kernel) (zk_cons ha (zk_cons hb zk_nil n') n) (he := n) (hpl := backTo_two n')
theorem ze_min2 (hc : X.calm = true) (hg : Gl X "min") (hm : X.mg "min" = none) (ha : ZC X W cl a za) (hb : ZC X W cl b zb) (n : nostar a = true := by rfl) (n' : nostar b = true := by rfl) : ZE X W cl (.Call (.Name "min" p) [a, b] [] pos) (zBf gMin2 (zCons za (zCons zb zNil))) :=
  ze_bf (call_min2 hc) bz_min2 hg hm (by decide +kernel) (zk_cons ha (zk_cons hb zk_nil n') n) (he := n) (hpl := backTo_two n')
end

/-! tuple(..), list(..), ranges -/
def zTupOf (z : ZX) : ZX := fun env M => (z env M).bind fun d M1 => match (deref M1 d).bind itemsD with
  | some ds => .ok (.tup ds) M1
  | none => .fail
theorem ze_tupOf (hg : Gl X "tuple") (hm : X.mg "tuple" = none) (ha : ZC X W cl a za) (n : nostar a = true := by rfl) : ZE X W cl (.Call (.Name "tuple" p) [a] [] pos) (zTupOf za) := by
  obtain ⟨t, pa, q⟩ := ha.ex
  refine ⟨_, pe_tupleOf hg hm pa (star_ok n), fun F ph M env σ H Q h1 h2 S P => q F ph M env σ H _ h1 h2 S (P.step fun d M1 ph1 H1 w S1 f1 r1 P1 => ?_)⟩
  cases e1 : deref M1 d with
  | none => rw [e1] at P1; exact P1.elim
  | some c =>
    rw [e1] at P1
    have L := r1.look S1 e1
    simp only [Option.bind_some] at P1
    cases c with
    | tup ds =>
      obtain ⟨a, xs, rfl, hq, r⟩ := L.tup_inv
      exact .inr ⟨a, xs, rfl, SqT.of hq, P1.now S1 (r1.tupRep S1 e1)⟩
    | lst ds =>
      obtain ⟨a, xs, rfl, hq, r⟩ := L.lst_inv
      exact .inl ⟨a, xs, rfl, SqL.of hq, fun p hp => P1.newTup S1 r hp⟩
    | scr ns =>
      obtain ⟨a, rfl, hq⟩ := L.scr_inv
      rw [show (gh F ph1 env σ).K = X.K from h2] at hq
      exact .inl ⟨a, _, rfl, hq, fun p hp => P1.newTup S1 (repL_ints _ _ _) hp⟩
    | _ => exact P1.elim
theorem PoF.newLst {F : Fr} {env : Ev} {σ : St} {ph : List Addr} {M : Sto} {H : Hp} {Q : VK} {ds : List D} {xs : List V} {p : Addr} (P : PoF F W env σ ph H Q (.ok (.lst ds) M)) (S : Sim F ph M env σ H) (r : RepL (gh F ph env σ) H xs ds) (hp : H p = none) :
    Q (.ref p) (upd H p (.lst xs)) := by
  obtain ⟨S2, m⟩ := S.lay (o := .lst xs) hp
  exact P ph _ p S2 (Fwd.alloc hp) (.lst upd_same (r.mo m)) hp
theorem PoF.step {α β : Type} {Rl : Gh → Hp → β → α → Prop} {F : Fr} {env : Ev} {σ : St} {ph : List Addr} {H : Hp} {Q : VK} {Q' : β → Hp → Prop} {r : Res α} {k : α → Sto → Res D} (P : PoF F W env σ ph H Q (r.bind k))
    (hk : ∀ a M' ph' H' b, Sim F ph' M' env σ H' → Fwd ph H ph' H' → Rl (gh F ph' env σ) H' b a → PoF F W env σ ph' H' Q (k a M') → Q' b H') : Post Rl F W env σ ph H Q' r := by
  cases r with
  | ok d M' =>
    intro p1 H1 v S g r
    refine hk d M' p1 H1 v S g r ?_
    have P' : PoF F W env σ ph H Q (k d M') := P
    revert P'
    cases k d M' with
    | ok d2 M2 => exact fun P' p2 H2 a S2 g2 c hn => P' p2 H2 a S2 (g.trans g2) c (g.back hn)
    | exc c fs M2 => exact fun P' p2 H2 dx f C S2 g2 e1 e2 n r => P' p2 H2 dx f C S2 (g.trans g2) e1 e2 n r
    | fail => exact fun P' => P'
  | exc c fs M' => exact P
  | fail => exact P
def zLstOf (z : ZX) : ZX := fun env M => (z env M).bind fun d M1 => match (deref M1 d).bind itemsD with
  | some ds => .ok (.lst ds) M1
  | none => .fail
theorem zf_lstOf (hg : Gl X "list") (hm : X.mg "list" = none) (ha : ZC X W cl a za) (n : nostar a = true := by rfl) : ZF X W cl (.Call (.Name "list" p) [a] [] pos) (zLstOf za) := by
  obtain ⟨t, pa, q⟩ := ha.ex
  refine ⟨_, pe_callTy call_list_of hg hm (by decide +kernel) (pa_cons pa pa_nil (star_ok n)) (by decide) (by decide) (star_ok n), fun F ph M env σ H Q h1 h2 S P => q F ph M env σ H _ h1 h2 S (P.step fun d M1 ph1 H1 w S1 f1 r1 P1 => ?_)⟩
  cases e1 : deref M1 d with
  | none => rw [e1] at P1; exact P1.elim
  | some c =>
    rw [e1] at P1
    have L := r1.look S1 e1
    simp only [Option.bind_some] at P1
    cases e2 : itemsD c with
    | none => rw [e2] at P1; exact P1.elim
    | some ds =>
      rw [e2] at P1
      obtain ⟨a, xs, rfl, hq, r⟩ := L.seq e2
      rw [show (gh F ph1 env σ).K = X.K from h2] at hq
      exact ⟨a, xs, rfl, hq, fun p hp => P1.newLst S1 r hp⟩
/-- range(..) as it stands in tuple(..), list(..), reversed(..) -/
abbrev ZR := Ev → Sto → Res (Int × Int)
def RlR : Gh → Hp → Int × Int → Int × Int → Prop := fun _ _ a b => a = b
structure ZRg (X : Cx) (W : WX) (cl : String → Option Addr) (e : Expr) (z : ZR) : Prop where
  ex : ∃ t, PRg X e t ∧ ∀ F ph M env σ H Q, F.cl = cl → F.K = X.K → Sim F ph M env σ H → Post RlR F W env σ ph H (fun p H' => Q p.1 p.2 H') (z env M) → t σ H Q
def zRg1 (z : ZX) : ZR := fun env M => (z env M).bind fun d M1 => match d with
  | .int i => .ok (0, i) M1
  | _ => .fail
def zRg2 (z y : ZX) : ZR := fun env M => (z env M).bind fun d M1 => (y env M1).bind fun e M2 => match d, e with
  | .int i, .int j => .ok (i, j) M2
  | _, _ => .fail
theorem zr_1 (hg : Gl X "range") (hm : X.mg "range" = none) (ha : ZE X W cl a za) (n : nostar a = true := by rfl) : ZRg X W cl (.Call (.Name "range" p) [a] [] pos) (zRg1 za) := by
  obtain ⟨t, pa, q⟩ := ha.ex
  refine ⟨_, prg_1 hg hm pa (star_ok n), fun F ph M env σ H Q h1 h2 S P => q F ph M env σ H _ h1 h2 S (P.step fun d M1 ph1 H1 w S1 f1 r1 P1 => ?_)⟩
  cases d with
  | int i => cases r1; exact ⟨i, rfl, P1 ph1 H1 (0, i) S1 Fwd.refl rfl⟩
  | _ => exact P1.elim
theorem zr_2 (hg : Gl X "range") (hm : X.mg "range" = none) (ha : ZE X W cl a za) (hb : ZE X W cl b zb) (n : nostar a = true := by rfl) (n' : nostar b = true := by rfl) : ZRg X W cl (.Call (.Name "range" p) [a, b] [] pos) (zRg2 za zb) := by
  obtain ⟨t, pa, q⟩ := ha.ex
  obtain ⟨t', pb, q'⟩ := hb.ex
  refine ⟨_, prg_2 hg hm pa pb (star_ok n) (star_ok n') (hp := backTo_two n'), fun F ph M env σ H Q h1 h2 S P => q F ph M env σ H _ h1 h2 S (P.step fun d M1 ph1 H1 w S1 f1 r1 P1 => ?_)⟩
  refine q' F ph1 M1 env σ H1 _ h1 h2 S1 (P1.step fun e M2 ph2 H2 w2 S2 f2 r2 P2 => ?_)
  cases d with
  | int i =>
    cases e with
    | int j => cases r1; cases r2; exact ⟨i, j, rfl, rfl, P2 ph2 H2 (i, j) S2 Fwd.refl rfl⟩
    | _ => exact P2.elim
  | _ => exact P2.elim
def rngD (a b : Int) : List D := (List.range (b - a).toNat).map fun i => D.int (a + (i : Nat))
theorem repL_map {G : Gh} {H : Hp} {α : Type} (f : α → V) (g : α → D) (h : ∀ x, Rep G H (f x) (g x)) : ∀ l : List α, RepL G H (l.map f) (l.map g)
  | [] => .nil
  | x :: l => .cons (h x) (repL_map f g h l)
theorem repL_rng (G : Gh) (H : Hp) (a b : Int) : RepL G H (rgV a b) (rngD a b) := repL_map _ _ (fun i => .int _) _
def zTupRg (z : ZR) : ZX := fun env M => (z env M).bind fun p M1 => if -(2 ^ 62) ≤ p.1 ∧ p.1 < 2 ^ 62 ∧ -(2 ^ 62) ≤ p.2 ∧ p.2 < 2 ^ 62 ∧ (p.2 - p.1).toNat ≤ 2 ^ 24 then .ok (.tup (rngD p.1 p.2)) M1 else .fail
def zLstRg (z : ZR) : ZX := fun env M => (z env M).bind fun p M1 => if -(2 ^ 62) ≤ p.1 ∧ p.1 < 2 ^ 62 ∧ -(2 ^ 62) ≤ p.2 ∧ p.2 < 2 ^ 62 ∧ (p.2 - p.1).toNat ≤ 2 ^ 24 then .ok (.lst (rngD p.1 p.2)) M1 else .fail
theorem ze_tupRg {z : ZR} (hc : X.calm = true) (hg : Gl X "tuple") (hm : X.mg "tuple" = none) (he : ZRg X W cl e z) (n : nostar e = true := by rfl) : ZE X W cl (.Call (.Name "tuple" p) [e] [] pos) (zTupRg z) := by
  obtain ⟨t, pa, q⟩ := he.ex
  refine ⟨_, pe_tupRg hc hg hm pa (star_ok n), fun F ph M env σ H Q h1 h2 S P => q F ph M env σ H _ h1 h2 S (P.step fun d M1 ph1 H1 w S1 f1 r1 P1 => ?_)⟩
  cases (show w = d from r1)
  split at P1
  · rename_i c
    exact ⟨c, fun p hp => P1.newTup S1 (repL_rng _ _ _ _) hp⟩
  · exact P1.elim
theorem zf_lstRg {z : ZR} (hc : X.calm = true) (hg : Gl X "list") (hm : X.mg "list" = none) (he : ZRg X W cl e z) (n : nostar e = true := by rfl) : ZF X W cl (.Call (.Name "list" p) [e] [] pos) (zLstRg z) := by
  obtain ⟨t, pa, q⟩ := he.ex
  refine ⟨_, pe_listRg hc hg hm pa (star_ok n), fun F ph M env σ H Q h1 h2 S P => q F ph M env σ H _ h1 h2 S (P.step fun d M1 ph1 H1 w S1 f1 r1 P1 => ?_)⟩
  cases (show w = d from r1)
  split at P1
  · rename_i c
    exact ⟨c, fun p hp => P1.newLst S1 (repL_rng _ _ _ _) hp⟩
  · exact P1.elim
end
end Zy
set_option maxHeartbeats 2000000
namespace Zy
open PySem PySem.Spec PyProof.Rows L2

/-! statements -/
inductive Out where
  | nx (env : Ev) (M : Sto) | bk (env : Ev) (M : Sto) | ct (env : Ev) (M : Sto) | rt (d : D) (M : Sto) | exc (c : String) (fs : List (Str × D)) (env : Ev) (M : Sto) | fail
def Res.toS {α : Type} (r : Res α) (env : Ev) (k : α → Sto → Out) : Out := match r with
  | .ok a M => k a M
  | .exc c fs M => .exc c fs env M
  | .fail => .fail
@[simp] theorem Res.toS_ok {α : Type} (a : α) (M : Sto) (env : Ev) (k : α → Sto → Out) : (Res.ok a M).toS env k = k a M := id rfl
@[simp] theorem Res.toS_fail {α : Type} (env : Ev) (k : α → Sto → Out) : (Res.fail : Res α).toS env k = .fail := id rfl
@[simp] theorem Res.toS_exc {α : Type} (c : String) (fs : List (Str × D)) (M : Sto) (env : Ev) (k : α → Sto → Out) : (Res.exc c fs M : Res α).toS env k = .exc c fs env M := id rfl
/-- what a def hands back is read without the def's own cells -/
def gh0 (F : Fr) (ph : List Addr) : Gh := ⟨F.K, F.cl, F.N0, ph⟩
structure Fws (F : Fr) (ph : List Addr) (env : Ev) (σ : St) (H : Hp) (ph' : List Addr) (env' : Ev) (σ' : St) (H' : Hp) : Prop where
  ext : ∃ ps, ph' = ph ++ ps ∧ ∀ a ∈ ps, H a = none
  keep : ∀ a o, H a = some o → ¬ (gh F ph env σ).off a → H' a = some o
  own : ∀ a, nof F env' σ' a → nof F env σ a ∨ H a = none
  there : ∀ a o, H a = some o → ∃ o', H' a = some o'
def PoS (F : Fr) (W : WX) (env : Ev) (σ : St) (ph : List Addr) (H : Hp) (B : Ends) : Out → Prop
  | .nx env' M => ∀ ph' σ' H', Sim F ph' M env' σ' H' → Fws F ph env σ H ph' env' σ' H' → B.nx σ' H'
  | .bk env' M => ∀ ph' σ' H', Sim F ph' M env' σ' H' → Fws F ph env σ H ph' env' σ' H' → B.bk σ' H'
  | .ct env' M => ∀ ph' σ' H', Sim F ph' M env' σ' H' → Fws F ph env σ H ph' env' σ' H' → B.ct σ' H'
  | .rt d M => ∀ ph' env' σ' H' v, Sim F ph' M env' σ' H' → Fws F ph env σ H ph' env' σ' H' → Rep (gh0 F ph') H' v d → B.rt v H'
  | .exc c fs env' M => ∀ ph' σ' H' dx f C, Sim F ph' M env' σ' H' → Fws F ph env σ H ph' env' σ' H' → F.cl c = some C → H' dx = some (.xd f) → ¬ (gh F ph' env' σ').off dx → RepP (gh F ph' env' σ') H' Str f fs → W (.ref C) (some dx) σ' H'
  | .fail => False
section
variable {F : Fr} {W : WX} {ph ph' : List Addr} {M M' : Sto} {env env' : Ev} {σ σ' : St} {H H' : Hp} {α β : Type} {Rl : Gh → Hp → β → α → Prop} {B B' : Ends} {o : Out}
theorem Fwd.ws (f : Fwd ph H ph' H') : Fws F ph env σ H ph' env σ H' := ⟨f.ext, fun a o h n => f.keep a o h fun z => n (.inr z), fun a h => .inl h, f.there⟩
theorem Fws.refl : Fws F ph env σ H ph env σ H := Fwd.refl.ws
theorem Fws.back (f : Fws F ph env σ H ph' env' σ' H') {a : Addr} (h : H' a = none) : H a = none := by
  cases q : H a with
  | none => rfl
  | some o =>
    obtain ⟨o', z⟩ := f.there a o q
    rw [h] at z
    cases z
theorem Fws.mo (f : Fws F ph env σ H ph' env' σ' H') : Mo (gh F ph env σ) (gh F ph' env' σ') H H' := by
  obtain ⟨ps, e, n⟩ := f.ext
  refine ⟨fun a o h k => ⟨f.keep a o h k, fun z => ?_⟩, fun i a h => ?_, rfl, rfl⟩
  · rcases z with z | z
    · rcases f.own a z with z | z
      · exact k (.inl z)
      · rw [h] at z; cases z
    · have z' : a ∈ ph' := z
      rw [e] at z'
      rcases List.mem_append.mp z' with m | m
      · exact k (.inr m)
      · rw [n a m] at h
        cases h
  · show ph'[i]? = some a
    have h' : ph[i]? = some a := h
    rw [e, List.getElem?_append_left (List.getElem?_eq_some_iff.mp h').1]
    exact h'
theorem Fws.trans {p1 p2 p3 : List Addr} {e1 e2 e3 : Ev} {s1 s2 s3 : St} {H1 H2 H3 : Hp} (f : Fws F p1 e1 s1 H1 p2 e2 s2 H2) (g : Fws F p2 e2 s2 H2 p3 e3 s3 H3) : Fws F p1 e1 s1 H1 p3 e3 s3 H3 := by
  have m := f.mo
  obtain ⟨a1, q1, n1⟩ := f.ext
  obtain ⟨a2, q2, n2⟩ := g.ext
  refine ⟨⟨a1 ++ a2, by rw [q2, q1, List.append_assoc], fun a h => ?_⟩, fun a o h n => ?_, fun a h => ?_, fun a o h => ?_⟩
  · rcases List.mem_append.mp h with h | h
    · exact n1 a h
    · exact f.back (n2 a h)
  · obtain ⟨h2, n2⟩ := m.keep a o h n
    exact g.keep a o h2 n2
  · rcases g.own a h with h | h
    · exact f.own a h
    · exact .inr (f.back h)
  · obtain ⟨o', z⟩ := f.there a o h
    exact g.there a o' z
theorem PoS.fwd (P : PoS F W env σ ph H B o) (f : Fws F ph env σ H ph' env' σ' H') : PoS F W env' σ' ph' H' B o := by
  cases o with
  | nx env M => exact fun p1 s1 H1 S g => P p1 s1 H1 S (f.trans g)
  | bk env M => exact fun p1 s1 H1 S g => P p1 s1 H1 S (f.trans g)
  | ct env M => exact fun p1 s1 H1 S g => P p1 s1 H1 S (f.trans g)
  | rt d M => exact fun p1 e1 s1 H1 v S g => P p1 e1 s1 H1 v S (f.trans g)
  | exc c fs env M => exact fun p1 s1 H1 dx ff C S g => P p1 s1 H1 dx ff C S (f.trans g)
  | fail => exact P
theorem PoS.step {Q : β → Hp → Prop} {r : Res α} {k : α → Sto → Out} (P : PoS F W env σ ph H B (r.toS env k))
    (hk : ∀ a M' ph' H' b, Sim F ph' M' env σ H' → Fwd ph H ph' H' → Rl (gh F ph' env σ) H' b a → PoS F W env σ ph' H' B (k a M') → Q b H') : Post Rl F W env σ ph H Q r := by
  cases r with
  | ok d M' => exact fun p1 H1 v S g r => hk d M' p1 H1 v S g r (PoS.fwd P g.ws)
  | exc c fs M' => exact fun p1 H1 dx f C S g => P p1 σ H1 dx f C S g.ws
  | fail => exact P
/-- fewer cells of one's own -/
theorem gh_mo (h : ∀ a, nof F env' σ' a → nof F env σ a) : Mo (gh F ph env σ) (gh F ph env' σ') H H :=
  ⟨fun a o e n => ⟨e, fun z => n (z.elim (fun z => .inl (h a z)) .inr)⟩, fun _ _ h => h, rfl, rfl⟩
theorem gh0_mo : Mo (gh F ph env σ) (gh0 F ph) H H :=
  ⟨fun a o e n => ⟨e, fun z => n (z.elim (fun z => .inl (.inl z)) .inr)⟩, fun _ _ h => h, rfl, rfl⟩
theorem getE_set {α : Type} {l : List α} {i j : Nat} {x y : α} (h : (l.set i x)[j]? = some y) : (j = i ∧ y = x) ∨ (j ≠ i ∧ l[j]? = some y) := by
  by_cases e : i = j
  · subst e
    by_cases hl : i < l.length
    · rw [List.getElem?_set_self hl] at h
      exact .inl ⟨rfl, (Option.some.inj h).symm⟩
    · rw [List.getElem?_eq_none (by rw [List.length_set]; omega)] at h
      cases h
  · rw [List.getElem?_set_ne e] at h
    exact .inr ⟨fun z => e z.symm, h⟩
/-- slots i of env and σ are set, what is new there is no cell of one's own -/
theorem Sim.setSlot {i : Nat} {w : Sl} {v : V} (S : Sim F ph M env σ H) (hi : i < σ.length) (h1 : ∀ d, w ≠ .own d)
    (h2 : ∀ d, w = .val d → Rep (gh F ph env σ) H v d) (h3 : ∀ d, w = .bor d → ∃ a, v = .ref a ∧ F.N0 a ∧ Cel (gh F ph env σ) H a d ∧ ∃ o, F.H0 a = some o) : Sim F ph M (env.set i w) (σ.set i (some v)) H := by
  have sub : ∀ a, nof F (env.set i w) (σ.set i (some v)) a → nof F env σ a := fun a z => by
    rcases z with z | ⟨j, d, e1, e2⟩
    · exact .inl z
    · rcases getE_set e1 with ⟨_, e⟩ | ⟨ne, e⟩
      · exact absurd e.symm (h1 d)
      · rcases getE_set e2 with ⟨e', _⟩ | ⟨_, e'⟩
        · exact absurd e' ne
        · exact .inr ⟨j, d, e, e'⟩
  have m : Mo (gh F ph env σ) (gh F ph (env.set i w) (σ.set i (some v))) H H := gh_mo sub
  refine ⟨by rw [List.length_set, List.length_set]; exact S.len, S.pre, S.keep, S.n0, S.ml, S.nd, fun j d e => ?_, fun j d e => ?_, fun j d e => ?_, fun j k d e a e1 e2 e3 e4 => ?_, fun j d e => ?_⟩
  · obtain ⟨a, q, c⟩ := S.sto j d e
    exact ⟨a, q, c.mo m fun _ h => h⟩
  · rcases getE_set e with ⟨rfl, ee⟩ | ⟨ne, e⟩
    · exact ⟨v, by rw [List.getElem?_set_self hi], (h2 d ee.symm).mo m⟩
    · obtain ⟨u, q, r⟩ := S.val j d e
      exact ⟨u, by rw [List.getElem?_set_ne ne.symm]; exact q, r.mo m⟩
  · rcases getE_set e with ⟨rfl, ee⟩ | ⟨ne, e⟩
    · exact absurd ee.symm (h1 d)
    · obtain ⟨a, q, c, h⟩ := S.own j d e
      exact ⟨a, by rw [List.getElem?_set_ne ne.symm]; exact q, c.mo m fun _ h => h, h⟩
  · rcases getE_set e1 with ⟨_, z⟩ | ⟨n1, e1⟩
    · exact absurd z.symm (h1 d)
    rcases getE_set e2 with ⟨_, z⟩ | ⟨n2, e2⟩
    · exact absurd z.symm (h1 e)
    rw [List.getElem?_set_ne n1.symm] at e3
    rw [List.getElem?_set_ne n2.symm] at e4
    exact S.ap j k d e a e1 e2 e3 e4
  · rcases getE_set e with ⟨rfl, ee⟩ | ⟨ne, e⟩
    · obtain ⟨a, rfl, n, c, o⟩ := h3 d ee.symm
      exact ⟨a, by rw [List.getElem?_set_self hi], n, c.mo m fun _ h => h, o⟩
    · obtain ⟨a, q, n, c, o⟩ := S.brw j d e
      exact ⟨a, by rw [List.getElem?_set_ne ne.symm]; exact q, n, c.mo m fun _ h => h, o⟩
theorem Sim.setVal {i : Nat} {v : V} {d : D} (S : Sim F ph M env σ H) (hi : i < σ.length) (r : Rep (gh F ph env σ) H v d) : Sim F ph M (env.set i (.val d)) (σ.set i (some v)) H :=
  S.setSlot hi (fun _ e => nomatch e) (fun d' e => by cases e; exact r) (fun _ e => nomatch e)
/-- a new cell becomes the slot's own -/
theorem Sim.setOwn {i : Nat} {a : Addr} {d : D} (S : Sim (F.plus a) ph M env σ H) (hi : i < σ.length) (c : Cel (gh (F.plus a) ph env σ) H a d) (h0 : F.H0 a = none) (n0 : ¬ F.N0 a) :
    Sim F ph M (env.set i (.own d)) (σ.set i (some (.ref a))) H := by
  have hne : i < env.length := by rw [S.len]; exact hi
  have sub : ∀ b, nof F (env.set i (.own d)) (σ.set i (some (.ref a))) b → nof (F.plus a) env σ b := fun b z => by
    rcases z with z | ⟨j, d', e1, e2⟩
    · exact .inl (.inl z)
    · rcases getE_set e1 with ⟨rfl, _⟩ | ⟨ne, e⟩
      · rcases getE_set e2 with ⟨_, e'⟩ | ⟨n, _⟩
        · cases e'
          exact .inl (.inr rfl)
        · exact absurd rfl n
      · rcases getE_set e2 with ⟨e', _⟩ | ⟨_, e'⟩
        · exact absurd e' ne
        · exact .inr ⟨j, d', e, e'⟩
  have m : Mo (gh (F.plus a) ph env σ) (gh F ph (env.set i (.own d)) (σ.set i (some (.ref a)))) H H :=
    ⟨fun b o e n => ⟨e, fun z => n (z.elim (fun z => .inl (sub b z)) .inr)⟩, fun _ _ h => h, rfl, rfl⟩
  have na : a ∉ ph := (S.n0 a (.inr rfl)).2
  refine ⟨by rw [List.length_set, List.length_set]; exact S.len, S.pre, S.keep, fun b z => S.n0 b (.inl z), S.ml, S.nd, fun j d e => ?_, fun j d e => ?_, fun j d e => ?_, fun j k d e b e1 e2 e3 e4 => ?_, fun j d e => ?_⟩
  · obtain ⟨a, q, c⟩ := S.sto j d e
    exact ⟨a, q, c.mo m fun _ h => h⟩
  · rcases getE_set e with ⟨_, e⟩ | ⟨ne, e⟩
    · cases e
    · obtain ⟨u, q, r⟩ := S.val j d e
      exact ⟨u, by rw [List.getElem?_set_ne ne.symm]; exact q, r.mo m⟩
  · rcases getE_set e with ⟨rfl, ee⟩ | ⟨ne, e⟩
    · cases ee
      exact ⟨a, by rw [List.getElem?_set_self hi], c.mo m fun _ h => h, h0, na, n0⟩
    · obtain ⟨b, q, c, h, n, k⟩ := S.own j d e
      exact ⟨b, by rw [List.getElem?_set_ne ne.symm]; exact q, c.mo m fun _ h => h, h, n, fun z => k (.inl z)⟩
  · rcases getE_set e1 with ⟨rfl, z⟩ | ⟨n1, e1'⟩
    · rw [List.getElem?_set_self hi] at e3
      cases e3
      rcases getE_set e2 with ⟨rfl, z⟩ | ⟨n2, e2'⟩
      · rfl
      · rw [List.getElem?_set_ne n2.symm] at e4
        obtain ⟨b, q, _, _, _, kk⟩ := S.own k e e2'
        rw [e4] at q
        cases q
        exact absurd (.inr rfl) kk
    · rw [List.getElem?_set_ne n1.symm] at e3
      rcases getE_set e2 with ⟨rfl, z⟩ | ⟨n2, e2'⟩
      · rw [List.getElem?_set_self hi] at e4
        cases e4
        obtain ⟨b, q, _, _, _, kk⟩ := S.own j d e1'
        rw [e3] at q
        cases q
        exact absurd (.inr rfl) kk
      · rw [List.getElem?_set_ne n2.symm] at e4
        exact S.ap j k d e b e1' e2' e3 e4
  · rcases getE_set e with ⟨_, e⟩ | ⟨ne, e⟩
    · cases e
    · obtain ⟨b, q, n, c, o, ho⟩ := S.brw j d e
      rcases n with n | n
      · exact ⟨b, by rw [List.getElem?_set_ne ne.symm]; exact q, n, c.mo m fun _ h => h, o, ho⟩
      · have n' : b = a := n
        have ho' : F.H0 b = some o := ho
        rw [n', h0] at ho'
        cases ho'
/-- one's own cell is frozen -/
theorem Sim.freeze {i : Nat} {d : D} (S : Sim F ph M env σ H) (e0 : env[i]? = some (.own d)) : Sim F ph M (env.set i (.val d)) σ H := by
  obtain ⟨a, q0, c0, h0, n0, k0⟩ := S.own i d e0
  have hi : i < env.length := (List.getElem?_eq_some_iff.mp e0).1
  have sub : ∀ b, nof F (env.set i (.val d)) σ b → nof F env σ b := fun b z => by
    rcases z with z | ⟨j, d', e1, e2⟩
    · exact .inl z
    · rcases getE_set e1 with ⟨_, e⟩ | ⟨ne, e⟩
      · cases e
      · exact .inr ⟨j, d', e, e2⟩
  have m : Mo (gh F ph env σ) (gh F ph (env.set i (.val d)) σ) H H := gh_mo sub
  have off : ¬ (gh F ph (env.set i (.val d)) σ).off a := fun z => by
    rcases z with z | z
    · rcases z with z | ⟨j, d', e1, e2⟩
      · exact k0 z
      · rcases getE_set e1 with ⟨_, e⟩ | ⟨ne, e⟩
        · cases e
        · exact ne (S.ap j i d' d a e e0 e2 q0)
    · exact n0 z
  refine ⟨by rw [List.length_set]; exact S.len, S.pre, S.keep, S.n0, S.ml, S.nd, fun j d e => ?_, fun j d' e => ?_, fun j d' e => ?_, fun j k d e b e1 e2 e3 e4 => ?_, fun j d e => ?_⟩
  · obtain ⟨a, q, c⟩ := S.sto j d e
    exact ⟨a, q, c.mo m fun _ h => h⟩
  · rcases getE_set e with ⟨rfl, ee⟩ | ⟨ne, e⟩
    · cases ee
      exact ⟨.ref a, q0, c0.rep m off⟩
    · obtain ⟨u, q, r⟩ := S.val j d' e
      exact ⟨u, q, r.mo m⟩
  · rcases getE_set e with ⟨_, e⟩ | ⟨ne, e⟩
    · cases e
    · obtain ⟨b, q, c, h⟩ := S.own j d' e
      exact ⟨b, q, c.mo m fun _ h => h, h⟩
  · rcases getE_set e1 with ⟨_, z⟩ | ⟨n1, e1⟩
    · cases z
    rcases getE_set e2 with ⟨_, z⟩ | ⟨n2, e2⟩
    · cases z
    exact S.ap j k d e b e1 e2 e3 e4
  · rcases getE_set e with ⟨_, e⟩ | ⟨ne, e⟩
    · cases e
    · obtain ⟨b, q, n, c, o⟩ := S.brw j d e
      exact ⟨b, q, n, c.mo m fun _ h => h, o⟩
/-- one's own cell is written -/
theorem Sim.wrOwn {i : Nat} {d d' : D} {a : Addr} {o' : HO} (S : Sim F ph M env σ H) (e0 : env[i]? = some (.own d)) (q0 : σ[i]? = some (some (.ref a)))
    (c' : Cel (gh F ph env σ) (upd H a o') a d') : Sim F ph M (env.set i (.own d')) σ (upd H a o') ∧ Fws F ph env σ H ph (env.set i (.own d')) σ (upd H a o') := by
  obtain ⟨a', q, c0, h0, n0, k0⟩ := S.own i d e0
  rw [q0] at q
  cases q
  have hi : i < env.length := (List.getElem?_eq_some_iff.mp e0).1
  have offa : (gh F ph env σ).off a := .inl (.inr ⟨i, d, e0, q0⟩)
  have sub : ∀ b, nof F (env.set i (.own d')) σ b → nof F env σ b := fun b z => by
    rcases z with z | ⟨j, d2, e1, e2⟩
    · exact .inl z
    · rcases getE_set e1 with ⟨rfl, e⟩ | ⟨ne, e⟩
      · exact .inr ⟨j, d, e0, e2⟩
      · exact .inr ⟨j, d2, e, e2⟩
  have m : Mo (gh F ph env σ) (gh F ph (env.set i (.own d')) σ) H (upd H a o') := ⟨fun b o e n => by
    have nb : b ≠ a := fun z => n (by rw [z]; exact offa)
    exact ⟨by rw [upd_ne nb]; exact e, fun z => n (z.elim (fun z => .inl (sub b z)) .inr)⟩, fun _ _ h => h, rfl, rfl⟩
  have m2 : Mo (gh F ph env σ) (gh F ph (env.set i (.own d')) σ) (upd H a o') (upd H a o') := gh_mo sub
  have kp : ∀ b, b ≠ a → ∀ o, H b = some o → upd H a o' b = some o := fun b nb o e => by rw [upd_ne nb]; exact e
  have there : ∀ b o, H b = some o → ∃ u, upd H a o' b = some u := fun b o e => by
    by_cases nb : b = a
    · exact ⟨o', by rw [nb]; exact upd_same⟩
    · exact ⟨o, kp b nb o e⟩
  refine ⟨⟨by rw [List.length_set]; exact S.len, S.pre, fun b u e n => ?_, fun b z => ?_, S.ml, S.nd, fun j d e => ?_, fun j d2 e => ?_, fun j d2 e => ?_, fun j k d2 e b e1 e2 e3 e4 => ?_, fun j d2 e => ?_⟩,
    ⟨⟨[], by simp, fun b h => by simp at h⟩, fun b o e n => (m.keep b o e n).1, fun b z => .inl (sub b z), there⟩⟩
  · refine kp b (fun z => ?_) u (S.keep b u e n)
    rw [z, h0] at e
    cases e
  · obtain ⟨⟨o, q⟩, n⟩ := S.n0 b z
    exact ⟨there b o q, n⟩
  · obtain ⟨b, q, c⟩ := S.sto j d e
    refine ⟨b, q, c.mo m (kp b fun z => n0 ?_)⟩
    rw [← z]
    exact List.mem_of_getElem? q
  · rcases getE_set e with ⟨_, e⟩ | ⟨ne, e⟩
    · cases e
    · obtain ⟨u, q, r⟩ := S.val j d2 e
      exact ⟨u, q, r.mo m⟩
  · rcases getE_set e with ⟨rfl, ee⟩ | ⟨ne, e⟩
    · cases ee
      exact ⟨a, q0, c'.mo m2 fun _ h => h, h0, n0, k0⟩
    · obtain ⟨b, q, c, h⟩ := S.own j d2 e
      refine ⟨b, q, c.mo m (kp b fun z => ne ?_), h⟩
      rw [z] at q
      exact S.ap j i d2 d a e e0 q q0
  · rcases getE_set e1 with ⟨rfl, z⟩ | ⟨n1, e1'⟩
    · rcases getE_set e2 with ⟨rfl, z⟩ | ⟨n2, e2'⟩
      · rfl
      · exact S.ap j k d e b e0 e2' e3 e4
    · rcases getE_set e2 with ⟨rfl, z⟩ | ⟨n2, e2'⟩
      · exact S.ap j k d2 d b e1' e0 e3 e4
      · exact S.ap j k d2 e b e1' e2' e3 e4
  · rcases getE_set e with ⟨_, e⟩ | ⟨ne, e⟩
    · cases e
    · obtain ⟨b, q, n, c, o⟩ := S.brw j d2 e
      refine ⟨b, q, n, c.mo m (kp b fun z => k0 ?_), o⟩
      rw [← z]
      exact n
end
end Zy
set_option maxHeartbeats 2000000
namespace Zy
open PySem PySem.Spec PyProof.Rows L2

abbrev ZS := Ev → Sto → Out
structure Zs (X : Cx) (W : WX) (cl : String → Option Addr) (st : Stmt) (z : ZS) : Prop where
  ex : ∃ t, PS X st t ∧ ∀ F ph M env σ H B, F.cl = cl → F.K = X.K → Sim F ph M env σ H → PoS F W env σ ph H B (z env M) → t B σ H
structure Zb (X : Cx) (W : WX) (cl : String → Option Addr) (sts : List Stmt) (z : ZS) : Prop where
  ex : ∃ t, PSs X sts t ∧ ∀ F ph M env σ H B, F.cl = cl → F.K = X.K → Sim F ph M env σ H → PoS F W env σ ph H B (z env M) → t B σ H
section
variable {F : Fr} {W : WX} {ph ph' : List Addr} {M M' : Sto} {env env' : Ev} {σ σ' : St} {H H' : Hp} {B : Ends}
theorem set_out {α : Type} {l : List α} {i : Nat} {x : α} (h : ¬ i < l.length) : l.set i x = l := by
  apply List.ext_getElem?
  intro j
  by_cases e : i = j
  · subst e
    rw [List.getElem?_eq_none (by rw [List.length_set]; omega), List.getElem?_eq_none (by omega)]
  · rw [List.getElem?_set_ne e]
theorem Sim.setV {i : Nat} {v : V} {d : D} (S : Sim F ph M env σ H) (r : Rep (gh F ph env σ) H v d) : Sim F ph M (env.set i (.val d)) (σ.set i (some v)) H := by
  by_cases hi : i < σ.length
  · exact S.setVal hi r
  · rw [set_out hi, set_out (by rw [S.len]; exact hi)]
    exact S
/-- setting a slot frees at most a cell of one's own -/
theorem Fws.setV {i : Nat} {w : Sl} {v : Option V} (h : ∀ d, w ≠ .own d) : Fws F ph env σ H ph (env.set i w) (σ.set i v) H := by
  refine ⟨⟨[], by simp, fun a h => by simp at h⟩, fun _ _ e _ => e, fun a z => .inl ?_, fun a o e => ⟨o, e⟩⟩
  rcases z with z | ⟨j, d, e1, e2⟩
  · exact .inl z
  · rcases getE_set e1 with ⟨_, e⟩ | ⟨ne, e⟩
    · exact absurd e.symm (h d)
    · rcases getE_set e2 with ⟨e', _⟩ | ⟨_, e'⟩
      · exact absurd e' ne
      · exact .inr ⟨j, d, e, e'⟩
theorem Fws.frz {i : Nat} {d : D} : Fws F ph env σ H ph (env.set i (.val d)) σ H := by
  refine ⟨⟨[], by simp, fun a h => by simp at h⟩, fun _ _ e _ => e, fun a z => .inl ?_, fun a o e => ⟨o, e⟩⟩
  rcases z with z | ⟨j, d, e1, e2⟩
  · exact .inl z
  · rcases getE_set e1 with ⟨_, e⟩ | ⟨ne, e⟩
    · cases e
    · exact .inr ⟨j, d, e, e2⟩
/-- a statement's way on -/
theorem PoS.nxt (P : PoS F W env σ ph H B (.nx env' M')) (S : Sim F ph' M' env' σ' H') (f : Fws F ph env σ H ph' env' σ' H') : B.nx σ' H' := P ph' σ' H' S f
theorem PoS.setV {i : Nat} {v : V} {d : D} (P : PoS F W env σ ph H B (.nx (env.set i (.val d)) M)) (S : Sim F ph M env σ H) (r : Rep (gh F ph env σ) H v d) : B.nx (σ.set i (some v)) H :=
  P ph _ H (S.setV r) (Fws.setV fun _ e => nomatch e)
end
section
variable {X : Cx} {W : WX} {cl : String → Option Addr} {e a b : Expr} {es : List Expr} {z za zb zc : ZX} {zs : ZL} {pos pos' : Pos} {st : Stmt} {sts : List Stmt} {y y' : ZS} {yb : ZB} {i j : Nat} {x : Str}
theorem zb_nil : Zb X W cl [] fun env M => .nx env M := ⟨_, pss_nil, fun F ph M env σ H B _ _ S P => P.nxt S Fws.refl⟩
def zSeq (y y' : ZS) : ZS := fun env M => match y env M with
  | .nx env M => y' env M
  | o => o
theorem pos_seq {F : Fr} {ph : List Addr} {M : Sto} {env : Ev} {σ : St} {H : Hp} {B : Ends} {nx' : St → Hp → Prop} (P : PoS F W env σ ph H B (zSeq y y' env M))
    (h : ∀ ph' M' env' σ' H', Sim F ph' M' env' σ' H' → PoS F W env' σ' ph' H' B (y' env' M') → nx' σ' H') : PoS F W env σ ph H { B with nx := nx' } (y env M) := by
  unfold zSeq at P
  cases q : y env M with
  | nx env' M' =>
    rw [q] at P
    exact fun ph' σ' H' S f => h ph' M' env' σ' H' S (PoS.fwd P f)
  | bk env' M' => rw [q] at P; exact P
  | ct env' M' => rw [q] at P; exact P
  | rt d M' => rw [q] at P; exact P
  | exc c fs env' M' => rw [q] at P; exact P
  | fail => rw [q] at P; exact P
theorem zb_cons (h1 : Zs X W cl st y) (h2 : Zb X W cl sts y') : Zb X W cl (st :: sts) (zSeq y y') := by
  obtain ⟨t, p, q⟩ := h1.ex
  obtain ⟨t', p', q'⟩ := h2.ex
  exact ⟨_, pss_cons p p', fun F ph M env σ H B h1 h2 S P => q F ph M env σ H _ h1 h2 S (pos_seq P fun ph' M' env' σ' H' S' P' => q' F ph' M' env' σ' H' B h1 h2 S' P')⟩
theorem zs_pass : Zs X W cl (.Pass pos) fun env M => .nx env M := ⟨_, ps_pass, fun F ph M env σ H B _ _ S P => P.nxt S Fws.refl⟩
theorem zs_break : Zs X W cl (.Break pos) fun env M => .bk env M := ⟨_, ps_break, fun F ph M env σ H B _ _ S P => P ph σ H S Fws.refl⟩
theorem zs_continue : Zs X W cl (.Continue pos) fun env M => .ct env M := ⟨_, ps_continue, fun F ph M env σ H B _ _ S P => P ph σ H S Fws.refl⟩
theorem zs_never : Zs X W cl st fun _ _ => .fail := ⟨_, ps_never, fun F ph M env σ H B _ _ S P => P⟩
/-- one's own cells at these slots are frozen first -/
def frz (env : Ev) : List Nat → Ev
  | [] => env
  | i :: is => frz (match env[i]? with
    | some (.own d) => env.set i (.val d)
    | _ => env) is
theorem Sim.frz {F : Fr} {ph : List Addr} {M : Sto} {σ : St} {H : Hp} : ∀ {is : List Nat} {env : Ev}, Sim F ph M env σ H → Sim F ph M (Zy.frz env is) σ H ∧ Fws F ph env σ H ph (Zy.frz env is) σ H
  | [], env, S => ⟨S, Fws.refl⟩
  | i :: is, env, S => by
    unfold Zy.frz
    split
    · rename_i d e
      obtain ⟨S1, f1⟩ := Sim.frz (is := is) (S.freeze e)
      exact ⟨S1, Fws.trans Fws.frz f1⟩
    · exact Sim.frz S
def zFrz (is : List Nat) (y : ZS) : ZS := fun env M => y (frz env is) M
theorem zs_frz {is : List Nat} (h : Zs X W cl st y) : Zs X W cl st (zFrz is y) := by
  obtain ⟨t, p, q⟩ := h.ex
  refine ⟨t, p, fun F ph M env σ H B h1 h2 S P => ?_⟩
  obtain ⟨S1, f1⟩ := Sim.frz (is := is) S
  exact q F ph M _ σ H B h1 h2 S1 (PoS.fwd P f1)
def zDrop (z : ZX) : ZS := fun env M => (z env M).toS env fun _ M1 => .nx env M1
theorem zs_expr (h : ZC X W cl e z) (hs : swapsWith e none pos.line X.env = pure false) : Zs X W cl (.Expr e pos) (zDrop z) := by
  obtain ⟨t, p, q⟩ := h.ex
  exact ⟨_, ps_expr p hs, fun F ph M env σ H B h1 h2 S P => q F ph M env σ H _ h1 h2 S (PoS.step P fun d M1 ph1 H1 v S1 f1 r1 P1 => P1.nxt S1 Fws.refl)⟩
def zRet (z : ZX) : ZS := fun env M => (z env M).toS env fun d M1 => .rt d M1
theorem zs_ret (h : ZE X W cl e z) : Zs X W cl (.Return (some e) pos) (zRet z) := by
  obtain ⟨t, p, q⟩ := h.ex
  exact ⟨_, ps_ret p, fun F ph M env σ H B h1 h2 S P => q F ph M env σ H _ h1 h2 S (PoS.step P fun d M1 ph1 H1 v S1 f1 r1 P1 => P1 ph1 env σ H1 v S1 Fws.refl (r1.mo gh0_mo))⟩
theorem zs_retN : Zs X W cl (.Return none pos) fun _ M => .rt .non M := ⟨_, ps_retN, fun F ph M env σ H B _ _ S P => P ph env σ H .non S Fws.refl .non⟩
/-- x = e -/
def zSet (i : Nat) (z : ZX) : ZS := fun env M => (z env M).toS env fun d M1 => .nx (env.set i (.val d)) M1
theorem zs_set (hN : X.N.Nodup) (hi : X.N[i]? = some x) (hx : Loc X.env.scope x) (hf : X.fn x = true ∨ X.env.scope.names.lookup x = some .local) (h : ZE X W cl e z)
    (hs : swapsWith e (some (.Name x pos')) pos.line X.env = pure false) : Zs X W cl (.Assign [.Name x pos'] e pos) (zSet i z) := by
  obtain ⟨t, p, q⟩ := h.ex
  exact ⟨_, ps_set hN hi hx p hs hf, fun F ph M env σ H B h1 h2 S P => q F ph M env σ H _ h1 h2 S (PoS.step P fun d M1 ph1 H1 v S1 f1 r1 P1 => P1.setV S1 r1)⟩
/-- from a fresh value: what is wanted of the new cell -/
theorem PoS.stepF {F : Fr} {ph : List Addr} {M : Sto} {env : Ev} {σ : St} {H : Hp} {B : Ends} {Q : VK} {r : Res D} {k : D → Sto → Out} (P : PoS F W env σ ph H B (r.toS env k))
    (hk : ∀ d M' ph' H' a, Sim (F.plus a) ph' M' env σ H' → Fwd ph H ph' H' → Cel (gh (F.plus a) ph' env σ) H' a d → H a = none → PoS F W env σ ph' H' B (k d M') → Q (.ref a) H') : PoF F W env σ ph H Q r := by
  cases r with
  | ok d M' => exact fun p1 H1 a S f c hn => hk d M' p1 H1 a S f c hn (PoS.fwd P f.ws)
  | exc c fs M' => exact fun p1 H1 dx f C S g => P p1 σ H1 dx f C S g.ws
  | fail => exact P
def zSetO (i : Nat) (z : ZX) : ZS := fun env M => (z env M).toS env fun d M1 => .nx (env.set i (.own d)) M1
theorem Sim.setO {F : Fr} {ph : List Addr} {M : Sto} {env : Ev} {σ : St} {H : Hp} {i : Nat} {a : Addr} {d : D} (S : Sim (F.plus a) ph M env σ H) (c : Cel (gh (F.plus a) ph env σ) H a d) (h0 : F.H0 a = none) (n0 : ¬ F.N0 a) :
    Sim F ph M (env.set i (.own d)) (σ.set i (some (.ref a))) H := by
  by_cases hi : i < σ.length
  · exact S.setOwn hi c h0 n0
  · rw [set_out hi, set_out (by rw [S.len]; exact hi)]
    exact (S.unplus h0).1
theorem nof_none {F : Fr} {ph : List Addr} {M : Sto} {env : Ev} {σ : St} {H : Hp} {a : Addr} (S : Sim F ph M env σ H) (h : H a = none) : ¬ nof F env σ a := fun z => S.fresh h (.inl z)
theorem n0_none {F : Fr} {ph : List Addr} {M : Sto} {env : Ev} {σ : St} {H : Hp} {a : Addr} (S : Sim F ph M env σ H) (h : H a = none) : ¬ F.N0 a := fun z => S.fresh h (.inl (.inl z))
theorem own_ws {F : Fr} {ph ph' : List Addr} {M : Sto} {env : Ev} {σ : St} {H H' : Hp} {i : Nat} {a : Addr} {d : D} (f : Fwd ph H ph' H') (h : H a = none) : Fws F ph env σ H ph' (env.set i (.own d)) (σ.set i (some (.ref a))) H' := by
  refine ⟨f.ext, fun b o e n => f.keep b o e fun z => n (.inr z), fun b z => ?_, f.there⟩
  rcases z with z | ⟨j, d', e1, e2⟩
  · exact .inl (.inl z)
  · rcases getE_set e1 with ⟨rfl, _⟩ | ⟨ne, e⟩
    · rcases getE_set e2 with ⟨_, e'⟩ | ⟨n, _⟩
      · cases e'
        exact .inr h
      · exact absurd rfl n
    · rcases getE_set e2 with ⟨e', _⟩ | ⟨_, e'⟩
      · exact absurd e' ne
      · exact .inl (.inr ⟨j, d', e, e'⟩)
/-- what reads a fresh value and goes on with it as a new own slot -/
theorem post_own {F : Fr} {ph : List Addr} {M : Sto} {env : Ev} {σ : St} {H : Hp} {B : Ends} (S : Sim F ph M env σ H) (P : PoS F W env σ ph H B (zSetO i z env M)) : PoF F W env σ ph H (fun v H1 => gName i v σ H1 B.nx) (z env M) := by
  unfold zSetO at P
  cases q : z env M with
  | ok d M' =>
    rw [q] at P
    exact fun p1 H1 a S1 f c hn => PoS.nxt P (S1.setO c (S.h0 hn) (n0_none S hn)) (own_ws (M := M') f hn)
  | exc c fs M' =>
    rw [q] at P
    exact fun p1 H1 dx f C S1 g => P p1 σ H1 dx f C S1 g.ws
  | fail => rw [q] at P; exact P
theorem zs_setO (hN : X.N.Nodup) (hi : X.N[i]? = some x) (hx : Loc X.env.scope x) (hf : X.fn x = true ∨ X.env.scope.names.lookup x = some .local) (h : ZF X W cl e z)
    (hs : swapsWith e (some (.Name x pos')) pos.line X.env = pure false) : Zs X W cl (.Assign [.Name x pos'] e pos) (zSetO i z) := by
  obtain ⟨t, p, q⟩ := h.ex
  exact ⟨_, ps_set hN hi hx p hs hf, fun F ph M env σ H B h1 h2 S P => q F ph M env σ H _ h1 h2 S (post_own S P)⟩
/-- .. as a new cell of the store -/
def zSetC (i : Nat) (z : ZX) : ZS := fun env M => (z env M).toS env fun d M1 => .nx (env.set i (.val (.ref M1.length))) (M1 ++ [d])
theorem Sim.toSto {F : Fr} {ph : List Addr} {M : Sto} {env : Ev} {σ : St} {H : Hp} {a : Addr} {d : D} (S : Sim (F.plus a) ph M env σ H) (c : Cel (gh (F.plus a) ph env σ) H a d) (h0 : F.H0 a = none) (n0 : ¬ F.N0 a) : Sim F (ph ++ [a]) (M ++ [d]) env σ H ∧ (ph ++ [a])[M.length]? = some a := by
  have na : a ∉ ph := (S.n0 a (.inr rfl)).2
  have m : Mo (gh (F.plus a) ph env σ) (gh F (ph ++ [a]) env σ) H H := by
    refine ⟨fun b o e n => ⟨e, fun z => n ?_⟩, fun j b e => ?_, rfl, rfl⟩
    · rcases z with z | z
      · rcases z with z | z
        · exact .inl (.inl (.inl z))
        · exact .inl (.inr z)
      · rcases List.mem_append.mp (show b ∈ ph ++ [a] from z) with z | z
        · exact .inr z
        · exact .inl (.inl (.inr (by simpa using z)))
    · have e' : ph[j]? = some b := e
      show (ph ++ [a])[j]? = some b
      rw [List.getElem?_append_left (List.getElem?_eq_some_iff.mp e').1]
      exact e'
  have la : (ph ++ [a])[M.length]? = some a := by rw [S.ml]; simp
  refine ⟨⟨S.len, ?_, S.keep, fun b z => ?_, by rw [List.length_append, List.length_append, S.ml]; rfl, ?_, fun j d' e => ?_, fun j d' e => ?_, fun j d' e => ?_, S.ap, fun j d' e => ?_⟩, la⟩
  · obtain ⟨ps, e, n⟩ := S.pre
    refine ⟨ps ++ [a], by rw [e]; exact List.append_assoc _ _ _, fun b z => ?_⟩
    rcases List.mem_append.mp z with z | z
    · exact n b z
    · have z' : b = a := by simpa using z
      rw [z']
      exact h0
  · obtain ⟨q, n⟩ := S.n0 b (.inl z)
    refine ⟨q, fun k => ?_⟩
    rcases List.mem_append.mp k with k | k
    · exact n k
    · have k' : b = a := by simpa using k
      subst k'
      exact n0 z
  · rw [List.nodup_append]
    exact ⟨S.nd, by simp, fun b hb c hc => by
      have hc' : c = a := by simpa using hc
      rw [hc']
      exact fun z => na (z ▸ hb)⟩
  · by_cases hj : j < M.length
    · rw [List.getElem?_append_left hj] at e
      obtain ⟨b, q, c⟩ := S.sto j d' e
      exact ⟨b, by rw [List.getElem?_append_left (by rw [← S.ml]; exact hj)]; exact q, c.mo m fun _ h => h⟩
    · have hj' : j = M.length := by
        have := (List.getElem?_eq_some_iff.mp e).1
        simp at this
        omega
      subst hj'
      have e' : d = d' := by simpa using e
      subst e'
      exact ⟨a, la, c.mo m fun _ h => h⟩
  · obtain ⟨v, q, r⟩ := S.val j d' e
    exact ⟨v, q, r.mo m⟩
  · obtain ⟨b, q, c, h, n, k⟩ := S.own j d' e
    refine ⟨b, q, c.mo m fun _ h => h, h, fun z => ?_, fun z => k (.inl z)⟩
    rcases List.mem_append.mp z with z | z
    · exact n z
    · exact k (.inr (by simpa using z))
  · obtain ⟨b, q, n, c, o, ho⟩ := S.brw j d' e
    rcases n with n | n
    · exact ⟨b, q, n, c.mo m fun _ h => h, o, ho⟩
    · have n' : b = a := n
      have ho' : F.H0 b = some o := ho
      rw [n', h0] at ho'
      cases ho'
theorem post_cel {F : Fr} {ph : List Addr} {M : Sto} {env : Ev} {σ : St} {H : Hp} {B : Ends} (S : Sim F ph M env σ H) (P : PoS F W env σ ph H B (zSetC i z env M)) : PoF F W env σ ph H (fun v H1 => gName i v σ H1 B.nx) (z env M) := by
  unfold zSetC at P
  cases q : z env M with
  | ok d M' =>
    rw [q] at P
    intro p1 H1 a S1 f c hn
    obtain ⟨S2, la⟩ := S1.toSto c (S.h0 hn) (n0_none S hn)
    have r : Rep (gh F (p1 ++ [a]) env σ) H1 (.ref a) (.ref M'.length) := .ref la
    obtain ⟨ps, e1, hps⟩ := f.ext
    refine PoS.nxt P (S2.setV r) (Fws.trans (Fwd.ws (ph' := p1 ++ [a]) ⟨⟨ps ++ [a], by rw [e1]; exact List.append_assoc _ _ _, fun b z => ?_⟩, f.keep, f.there⟩) (Fws.setV fun _ e => nomatch e))
    rcases List.mem_append.mp z with z | z
    · exact hps b z
    · have z' : b = a := by simpa using z
      rw [z']
      exact hn
  | exc c fs M' =>
    rw [q] at P
    exact fun p1 H1 dx f C S1 g => P p1 σ H1 dx f C S1 g.ws
  | fail => rw [q] at P; exact P
theorem zs_setC (hN : X.N.Nodup) (hi : X.N[i]? = some x) (hx : Loc X.env.scope x) (hf : X.fn x = true ∨ X.env.scope.names.lookup x = some .local) (h : ZF X W cl e z)
    (hs : swapsWith e (some (.Name x pos')) pos.line X.env = pure false) : Zs X W cl (.Assign [.Name x pos'] e pos) (zSetC i z) := by
  obtain ⟨t, p, q⟩ := h.ex
  exact ⟨_, ps_set hN hi hx p hs hf, fun F ph M env σ H B h1 h2 S P => q F ph M env σ H _ h1 h2 S (post_cel S P)⟩
/-! targets -/
theorem PG.or {tg : Expr} {g g' : TG} (h : PG X tg g) (h' : PG X tg g') : PG X tg fun v σ H Q => g v σ H Q ∨ g' v σ H Q :=
  ⟨fun pins s σ H v u Q I r q => q.elim (h.run pins s σ H v u Q I r) (h'.run pins s σ H v u Q I r)⟩
abbrev ZTg := D → Ev → Option Ev
structure Zg (X : Cx) (tg : Expr) (gz : ZTg) : Prop where
  ex : ∃ g, PG X tg g ∧ ∀ F ph M env σ H (Q : St → Hp → Prop) v d env', F.K = X.K → Sim F ph M env σ H → Rep (gh F ph env σ) H v d → gz d env = some env' → (∀ σ', Sim F ph M env' σ' H → Fws F ph env σ H ph env' σ' H → Q σ' H) → g v σ H Q
def tgN (i : Nat) : ZTg := fun d env => some (env.set i (.val d))
theorem zg_name (hN : X.N.Nodup) (hi : X.N[i]? = some x) (hx : Loc X.env.scope x) (hf : X.fn x = true ∨ X.env.scope.names.lookup x = some .local) : Zg X (.Name x pos) (tgN i) :=
  ⟨_, pg_name hN hi hx hf, fun F ph M env σ H Q v d env' _ S r e k => by
    cases e
    exact k _ (S.setV r) (Fws.setV fun _ e => nomatch e)⟩
def setAll (env : Ev) : List Nat → List D → Option Ev
  | [], [] => some env
  | i :: is, d :: ds => setAll (env.set i (.val d)) is ds
  | _, _ => none
def gNms : List Nat → TGs
  | [] => gNil
  | i :: is => gCons (gName i) (gNms is)
theorem nms_run {F : Fr} {ph : List Addr} {M : Sto} {H : Hp} : ∀ {is : List Nat} {env : Ev} {σ : St} {xs : List V} {ds : List D} {env' : Ev} {Q : St → Hp → Prop}, Sim F ph M env σ H → RepL (gh F ph env σ) H xs ds → setAll env is ds = some env' →
    (∀ σ', Sim F ph M env' σ' H → Fws F ph env σ H ph env' σ' H → Q σ' H) → gNms is xs σ H Q
  | [], env, σ, xs, ds, env', Q, S, r, e, k => by
    cases ds with
    | nil =>
      cases r
      cases e
      exact ⟨rfl, k σ S Fws.refl⟩
    | cons d ds => cases e
  | i :: is, env, σ, xs, ds, env', Q, S, r, e, k => by
    cases ds with
    | nil => cases e
    | cons d ds =>
      cases r with
      | @cons v _ _ _ h t =>
        refine ⟨_, _, rfl, ?_⟩
        have f : Fws F ph env σ H ph (env.set i (.val d)) (σ.set i (some v)) H := Fws.setV fun _ e => nomatch e
        exact nms_run (is := is) (S.setV h) (RepL.mo f.mo t) e fun σ' S' f' => k σ' S' (f.trans f')
theorem setAll_len : ∀ {is : List Nat} {ds : List D} {env env' : Ev}, setAll env is ds = some env' → ds.length = is.length
  | [], [], _, _, _ => rfl
  | [], _ :: _, _, _, e => by cases e
  | _ :: _, [], _, _, e => by cases e
  | i :: is, d :: ds, env, env', e => by
    rw [List.length_cons, List.length_cons, setAll_len (is := is) (ds := ds) (env := env.set i (.val d)) e]
structure NamesAt (X : Cx) (es : List Expr) (is : List Nat) : Prop where
  gs : PGs X es (gNms is)
  len : (assignEach es X.env).length = is.length
  st : (assignEach es X.env).findIdx? (·.1) = none
theorem namesAt_nil : NamesAt X [] [] := ⟨pgs_nil, rfl, rfl⟩
theorem namesAt_cons {is : List Nat} (hN : X.N.Nodup) (hi : X.N[i]? = some x) (hx : Loc X.env.scope x) (hf : X.fn x = true ∨ X.env.scope.names.lookup x = some .local) (h : NamesAt X es is) : NamesAt X (.Name x pos :: es) (i :: is) := by
  have e : assignEach (.Name x pos :: es) X.env = (false, assign (.Name x pos) X.env) :: assignEach es X.env := rfl
  refine ⟨pgs_cons (pg_name hN hi hx hf) h.gs, ?_, ?_⟩
  · rw [e, List.length_cons, List.length_cons, h.len]
  · rw [e, List.findIdx?_cons]
    simp [h.st]
def tgT (is : List Nat) : ZTg := fun d env => (itemsD d).bind (setAll env is)
theorem zg_names {k : Nat} {is : List Nat} (hc : X.calm = true) (g : NamesAt X es is) : Zg X (.Tuple es k pos) (tgT is) := by
  refine ⟨_, PG.or (pg_tup (n := is.length) hc g.gs g.len g.st) (pg_unl (n := is.length) hc g.gs g.len g.st), fun F ph M env σ H Q v d env' hK S r e k => ?_⟩
  unfold tgT at e
  cases e1 : itemsD d with
  | none => rw [e1] at e; cases e
  | some ds =>
    rw [e1] at e
    have e2 : setAll env is ds = some env' := e
    obtain ⟨a, xs, rfl, hq, rr⟩ := (Lk.of r).seq e1
    have hK' : (gh F ph env σ).K = X.K := hK
    rw [hK'] at hq
    have hl : xs.length = is.length := by rw [rr.length, setAll_len e2]
    have run := nms_run S rr e2 k
    rcases hq with hq | hq
    · exact .inr ⟨a, xs, rfl, hq, hl, run⟩
    · exact .inl ⟨a, xs, rfl, hq, hl, run⟩
def zAsg (gz : ZTg) (z : ZX) : ZS := fun env M => (z env M).toS env fun d M1 => match gz d env with
  | some env' => .nx env' M1
  | none => .fail
theorem zs_asg {tg : Expr} {gz : ZTg} (h : ZE X W cl e z) (g : Zg X tg gz) (hs : swapsWithSole [tg] e pos.line X.env = pure false) (hw : swappedStores [tg] e X.env = pure none) (h1 : (assignEach [tg] X.env).map (·.2) = [assign tg X.env]) :
    Zs X W cl (.Assign [tg] e pos) (zAsg gz z) := by
  obtain ⟨t, p, q⟩ := h.ex
  obtain ⟨tg', pg, qg⟩ := g.ex
  refine ⟨_, ps_asg p pg hs hw h1, fun F ph M env σ H B h1 h2 S P => q F ph M env σ H _ h1 h2 S (PoS.step P fun d M1 ph1 H1 v S1 f1 r1 P1 => ?_)⟩
  cases e1 : gz d env with
  | none => rw [e1] at P1; exact P1.elim
  | some env' =>
    rw [e1] at P1
    exact qg F ph1 M1 env σ H1 _ v d env' h2 S1 r1 e1 fun σ' S' f' => P1.nxt S' f'
/-- a, b = x, y -/
def zPar (i j : Nat) (l : ZL) : ZS := fun env M => (l env M).toS env fun ds M1 => match ds with
  | [d, e] => .nx ((env.set i (.val d)).set j (.val e)) M1
  | _ => .fail
theorem zs_par {x2 : Str} {px py pt pt2 : Pos} {kt k2 : Nat} (hc : X.calm = true) (hN : X.N.Nodup) (hi : X.N[i]? = some x) (hj : X.N[j]? = some x2) (hij : i ≠ j) (hx : X.env.scope.names.lookup x = some .local) (hy : X.env.scope.names.lookup x2 = some .local)
    (h : ZA X W cl [a, b] zs) (hw : swappedStores [.Tuple [.Name x px, .Name x2 py] kt pt] (.Tuple [a, b] k2 pt2) X.env = pure (some [x, x2])) (hs : swapsWithSole [.Tuple [.Name x px, .Name x2 py] kt pt] (.Tuple [a, b] k2 pt2) pos.line X.env = pure false) :
    Zs X W cl (.Assign [.Tuple [.Name x px, .Name x2 py] kt pt] (.Tuple [a, b] k2 pt2) pos) (zPar i j zs) := by
  obtain ⟨t, p, q⟩ := h.ex
  refine ⟨_, ps_par hc hN hi hj hij hx hy p hw hs, fun F ph M env σ H B h1 h2 S P => q F ph M env σ H _ h1 h2 S (PoS.step P fun ds M1 ph1 H1 vs S1 f1 r1 P1 => ?_)⟩
  match ds, r1, P1 with
  | [d, e], .cons (x := v) h (.cons (x := w) h' .nil), P1 =>
    refine ⟨v, w, rfl, ?_⟩
    have f : Fws F ph1 env σ H1 ph1 (env.set i (.val d)) (σ.set i (some v)) H1 := Fws.setV fun _ e => nomatch e
    have S2 := S1.setV (i := i) h
    exact P1.nxt (S2.setV (i := j) (h'.mo f.mo)) (f.trans (Fws.setV fun _ e => nomatch e))
  | [], r, P1 => exact P1.elim
  | [_], r, P1 => exact P1.elim
  | _ :: _ :: _ :: _, r, P1 => exact P1.elim
/-! tests, loops -/
def zIfS (t : ZB) (y y' : ZS) : ZS := fun env M => (t env M).toS env fun b M1 => if b = true then y env M1 else y' env M1
theorem zs_if {c : Expr} {sa sb : List Stmt} {ya yb' : ZS} (hc : ZT X W cl c yb) (ha : Zb X W cl sa ya) (hb : Zb X W cl sb yb') : Zs X W cl (.If c sa sb pos) (zIfS yb ya yb') := by
  obtain ⟨t, p, q⟩ := hc.ex
  obtain ⟨ta, pa, qa⟩ := ha.ex
  obtain ⟨tb, pb, qb⟩ := hb.ex
  refine ⟨_, ps_if p pa pb, fun F ph M env σ H B h1 h2 S P => q F ph M env σ H _ h1 h2 S (PoS.step P fun k M1 ph1 H1 w S1 f1 r1 P1 => ?_)⟩
  cases (show w = k from r1)
  cases k with
  | true => exact iteT (qa F ph1 M1 env σ H1 B h1 h2 S1 P1)
  | false => exact iteF (qb F ph1 M1 env σ H1 B h1 h2 S1 P1)
def zWh (c : ZB) (y : ZS) : Nat → ZS
  | 0 => fun _ _ => .fail
  | n + 1 => fun env M => (c env M).toS env fun b M1 => if b = true then match y env M1 with
    | .nx env' M' => zWh c y n env' M'
    | .ct env' M' => zWh c y n env' M'
    | .bk env' M' => .nx env' M'
    | o => o else .nx env M1
/-- the loop's own outcome, from its body's -/
def loopO (k : Ev → Sto → Out) : Out → Out
  | .nx env M => k env M
  | .ct env M => k env M
  | .bk env M => .nx env M
  | o => o
theorem pos_loop {F : Fr} {ph : List Addr} {env : Ev} {σ : St} {H : Hp} {B : Ends} {k : Ev → Sto → Out} {N : St → Hp → Prop} {o : Out} (P : PoS F W env σ ph H B (loopO k o))
    (h : ∀ ph' M' env' σ' H', Sim F ph' M' env' σ' H' → Fws F ph env σ H ph' env' σ' H' → PoS F W env' σ' ph' H' B (k env' M') → N σ' H') : PoS F W env σ ph H { B with nx := N, ct := N, bk := B.nx } o := by
  cases o with
  | nx env' M' => exact fun ph' σ' H' S f => h ph' M' env' σ' H' S f (PoS.fwd P f)
  | ct env' M' => exact fun ph' σ' H' S f => h ph' M' env' σ' H' S f (PoS.fwd P f)
  | bk env' M' => exact P
  | rt d M' => exact P
  | exc c fs env' M' => exact P
  | fail => exact P
theorem zs_while {c : Expr} {body : List Stmt} {n : Nat} (hp : PassesOwn (model X.prog X.w) X.A X.env X.xe) (hc : ZT X W cl c yb) (hb : Zb X W cl body y) : Zs X W cl (.While c body [] pos) (zWh yb y n) := by
  obtain ⟨t, p, q⟩ := hc.ex
  obtain ⟨ta, pa, qa⟩ := hb.ex
  refine ⟨_, ps_while hp p pa, fun F ph M env σ H B h1 h2 S P => ?_⟩
  refine ⟨fun m σ H => ∃ ph M env, Sim F ph M env σ H ∧ PoS F W env σ ph H B (zWh yb y m env M), ⟨n, ph, M, env, S, P⟩, ?_⟩
  rintro m σ H ⟨ph, M, env, S, P⟩
  cases m with
  | zero => exact P.elim
  | succ m =>
    refine q F ph M env σ H _ h1 h2 S (PoS.step P fun k M1 ph1 H1 w S1 f1 r1 P1 => ?_)
    cases (show w = k from r1)
    cases k with
    | true =>
      refine iteT ⟨fun σ' H' => ∃ ph M env, Sim F ph M env σ' H' ∧ PoS F W env σ' ph H' B (zWh yb y m env M), fun σ' H' h => ⟨m, Nat.lt_succ_self m, h⟩, ?_⟩
      refine qa F ph1 M1 env σ H1 _ h1 h2 S1 (pos_loop (k := zWh yb y m) (B := B) ?_ fun ph' M' env' σ' H' S' f' P' => ⟨ph', M', env', S', P'⟩)
      rw [if_pos rfl] at P1
      cases e : y env M1 <;> rw [e] at P1 <;> exact P1
    | false => exact iteF (P1.nxt S1 Fws.refl)
/-! for -/
/-- the same frame, with more cells that are not to be frozen (new ones) -/
structure FrEx (F F' : Fr) (H : Hp) : Prop where
  K : F'.K = F.K
  cl : F'.cl = F.cl
  H0 : F'.H0 = F.H0
  ph0 : F'.ph0 = F.ph0
  up : ∀ a, F.N0 a → F'.N0 a
  dn : ∀ a, F'.N0 a → F.N0 a ∨ H a = none
theorem FrEx.refl {F : Fr} {H : Hp} : FrEx F F H := ⟨rfl, rfl, rfl, rfl, fun _ z => z, fun _ z => .inl z⟩
theorem FrEx.plus {F : Fr} {H : Hp} {a : Addr} (h : H a = none) : FrEx F (F.plus a) H := ⟨rfl, rfl, rfl, rfl, fun _ z => .inl z, fun b z => z.elim .inl fun z => .inr (by rw [z]; exact h)⟩
def ItOk (F : Fr) (ph : List Addr) (env : Ev) (σ : St) (H : Hp) (J : It) (ds : List D) : Prop :=
  ∀ F' ph2 M2 env2 σ2 H2, FrEx F F' H → Sim F' ph2 M2 env2 σ2 H2 → Fws F ph env σ H ph2 env2 σ2 H2 →
    J.stop ds.length H2 ∧ ∀ (i : Nat) d, ds[i]? = some d → J.go i H2 ∧ ∀ x H3, J.yld i H2 x H3 → Sim F' ph2 M2 env2 σ2 H3 ∧ Fwd ph2 H2 ph2 H3 ∧ Rep (gh F' ph2 env2 σ2) H3 x d
theorem Fws.moX {F F' : Fr} {ph ph' : List Addr} {env env' : Ev} {σ σ' : St} {H H' : Hp} (f : Fws F ph env σ H ph' env' σ' H') (x : FrEx F F' H) : Mo (gh F ph env σ) (gh F' ph' env' σ') H H' := by
  have m := f.mo
  refine ⟨fun a o e n => ?_, m.ph, x.cl, x.K⟩
  obtain ⟨h1, h2⟩ := m.keep a o e n
  refine ⟨h1, fun z => ?_⟩
  rcases z with (z | z) | z
  · rcases x.dn a z with z | z
    · exact h2 (.inl (.inl z))
    · rw [e] at z; cases z
  · exact h2 (.inl (.inr z))
  · exact h2 (.inr z)
abbrev PoI (F : Fr) (W : WX) (env : Ev) (σ : St) (ph : List Addr) (H : Hp) (R : It → Hp → Prop) : Res (List D) → Prop :=
  @Post (List D) It (fun G H' J ds => ItOk F G.ph env σ H' J ds) F W env σ ph H R
structure Zi (X : Cx) (W : WX) (cl : String → Option Addr) (tg e : Expr) (z : ZL) : Prop where
  ex : ∃ wi, PI X tg e wi ∧ ∀ F ph M env σ H R, F.cl = cl → F.K = X.K → Sim F ph M env σ H → PoI F W env σ ph H R (z env M) → wi σ H R
def zForL (gz : ZTg) (y : ZS) : List D → ZS
  | [] => fun env M => .nx env M
  | d :: ds => fun env M => match gz d env with
    | some env1 => loopO (zForL gz y ds) (y env1 M)
    | none => .fail
def zFor (zi : ZL) (gz : ZTg) (y : ZS) : ZS := fun env M => (zi env M).toS env fun ds M1 => zForL gz y ds env M1
theorem zs_for {tg iter : Expr} {body : List Stmt} {zi : ZL} {gz : ZTg} (hp : PassesOwn (model X.prog X.w) X.A X.env X.xe) (hc : X.calm = true) (hi : Zi X W cl tg iter zi) (hg : Zg X tg gz) (hb : Zb X W cl body y)
    (hs : ∀ x, foldedSetIterable iter X.env x = pure x) : Zs X W cl (.For tg iter body [] pos) (zFor zi gz y) := by
  obtain ⟨wi, pi, qi⟩ := hi.ex
  obtain ⟨g, pg, qg⟩ := hg.ex
  obtain ⟨tb, pb, qb⟩ := hb.ex
  refine ⟨_, ps_for hp hc pi pg pb hs, fun F ph M env σ H B h1 h2 S P => qi F ph M env σ H _ h1 h2 S (PoS.step P fun ds M1 ph1 H1 J S1 f1 r1 P1 => ?_)⟩
  have IO : ItOk F ph1 env σ H1 J ds := r1
  refine ⟨fun i m σ2 H2 => m = ds.length - i ∧ i ≤ ds.length ∧ ∃ ph2 M2 env2, Sim F ph2 M2 env2 σ2 H2 ∧ Fws F ph1 env σ H1 ph2 env2 σ2 H2 ∧ PoS F W env2 σ2 ph2 H2 B (zForL gz y (ds.drop i) env2 M2),
    ⟨ds.length, rfl, Nat.zero_le _, ph1, M1, env, S1, Fws.refl, P1⟩, ?_⟩
  rintro i m σ2 H2 ⟨rfl, hi, ph2, M2, env2, S2, f2, P2⟩
  obtain ⟨st, go⟩ := IO F ph2 M2 env2 σ2 H2 FrEx.refl S2 f2
  by_cases hlt : i < ds.length
  · have ed : ds.drop i = ds[i] :: ds.drop (i + 1) := List.drop_eq_getElem_cons hlt
    obtain ⟨g1, yl⟩ := go i ds[i] (List.getElem?_eq_getElem hlt)
    refine .inr ⟨g1, fun σ' H' => ∃ ph' M' env', Sim F ph' M' env' σ' H' ∧ Fws F ph1 env σ H1 ph' env' σ' H' ∧ PoS F W env' σ' ph' H' B (zForL gz y (ds.drop (i + 1)) env' M'),
      fun σ' H' q => ⟨ds.length - (i + 1), by omega, rfl, hlt, q⟩, fun x H3 hy => ?_⟩
    obtain ⟨S3, f3, r3⟩ := yl x H3 hy
    rw [ed] at P2
    unfold zForL at P2
    cases e1 : gz ds[i] env2 with
    | none => rw [e1] at P2; exact P2.elim
    | some env3 =>
      rw [e1] at P2
      have P3 : PoS F W env2 σ2 ph2 H3 B (loopO (zForL gz y (ds.drop (i + 1))) (y env3 M2)) := PoS.fwd P2 f3.ws
      refine qg F ph2 M2 env2 σ2 H3 _ x _ env3 h2 S3 r3 e1 fun σ4 S4 f4 => ?_
      have P4 := PoS.fwd P3 f4
      refine qb F ph2 M2 env3 σ4 H3 _ h1 h2 S4 (pos_loop P4 fun ph' M' env' σ' H' S' f' P' => ⟨ph', M', env', S', ((f2.trans f3.ws).trans f4).trans f', P'⟩)
  · have e : i = ds.length := by omega
    subst e
    rw [List.drop_length] at P2
    exact .inl ⟨st, P2.nxt S2 Fws.refl⟩
/-! what is iterated -/
/-- read without keeping: no cell of one's own -/
def zBv (i : Nat) : ZX := fun env M => match env[i]? with
  | some (.val d) => .ok d M
  | some (.bor d) => .ok d M
  | _ => .fail
def RlB' (F : Fr) : Gh → Hp → V → D → Prop := fun G H v d => Rep G H v d ∨ ∃ a, v = .ref a ∧ F.N0 a ∧ Cel G H a d ∧ ∃ o, F.H0 a = some o
structure ZBm (X : Cx) (W : WX) (cl : String → Option Addr) (e : Expr) (z : ZX) : Prop where
  ex : ∃ t, PE X e t ∧ ∀ F ph M env σ H Q, F.cl = cl → F.K = X.K → Sim F ph M env σ H → @Post D V (RlB' F) F W env σ ph H Q (z env M) → t σ H Q
theorem ZE.toB (h : ZE X W cl e z) : ZBm X W cl e z := by
  obtain ⟨t, p, q⟩ := h.ex
  exact ⟨t, p, fun F ph M env σ H Q h1 h2 S P => q F ph M env σ H Q h1 h2 S (P.weak fun _ _ _ _ r => .inl r)⟩
theorem zbm_var (hN : X.N[i]? = some x) (hv : Vis X.env.scope x) (hd : (x == ("__debug__" : Str)) = false) (hc : (x == ("__classdict__" : Str)) = false) : ZBm X W cl (.Name x pos) (zBv i) := by
  refine ⟨_, pe_var hN hv hd hc, fun F ph M env σ H Q _ _ S P => ?_⟩
  unfold zBv at P
  split at P
  · rename_i d e
    obtain ⟨v, e1, r⟩ := S.val i d e
    exact ⟨v, e1, P.now S (.inl r)⟩
  · rename_i d e
    obtain ⟨a, e1, n, r, o⟩ := S.brw i d e
    exact ⟨_, e1, P.now S (.inr ⟨a, rfl, n, r, o⟩)⟩
  · exact P.elim
/-- such a value stays -/
theorem seq_stay {F : Fr} {ph : List Addr} {M : Sto} {env : Ev} {σ : St} {H : Hp} {v : V} {d : D} {ds : List D} (S : Sim F ph M env σ H) (r : RlB' F (gh F ph env σ) H v d) (e : itemsD d = some ds) :
    ∃ a xs, v = .ref a ∧ ((SqL F.K H a xs ∧ ∀ F' ph2 M2 env2 σ2 H2, FrEx F F' H → Sim F' ph2 M2 env2 σ2 H2 → Fws F ph env σ H ph2 env2 σ2 H2 → SqL F.K H2 a xs) ∨ (SqT F.K H a xs ∧ ∀ F' ph2 M2 env2 σ2 H2, FrEx F F' H → Sim F' ph2 M2 env2 σ2 H2 → Fws F ph env σ H ph2 env2 σ2 H2 → SqT F.K H2 a xs)) ∧ RepL (gh F ph env σ) H xs ds := by
  rcases r with r | ⟨a, rfl, n, c, o, ho⟩
  · cases r with
    | lst h n r =>
      cases e
      exact ⟨_, _, rfl, .inl ⟨SqL.of h, fun F' ph2 M2 env2 σ2 H2 _ S2 f => SqL.of (f.keep _ _ h n)⟩, r⟩
    | tup h n r =>
      cases e
      exact ⟨_, _, rfl, .inr ⟨SqT.of h, fun F' ph2 M2 env2 σ2 H2 _ S2 f => SqT.of (f.keep _ _ h n)⟩, r⟩
    | scr h n =>
      cases e
      exact ⟨_, _, rfl, .inl ⟨.inl (.inr ⟨_, h⟩), fun F' ph2 M2 env2 σ2 H2 _ S2 f => .inl (.inr ⟨_, f.keep _ _ h n⟩)⟩, repL_ints _ _ _⟩
    | scrK h =>
      cases e
      exact ⟨_, _, rfl, .inl ⟨h _, fun F' ph2 M2 env2 σ2 H2 _ S2 f => h _⟩, repL_ints _ _ _⟩
    | _ => cases e
  · have na : ∀ {F' ph2 M2 env2 σ2 H2}, FrEx F F' H → Sim F' ph2 M2 env2 σ2 H2 → H2 a = some o := fun {F' ph2 M2 env2 σ2 H2} x S2 => S2.keep a o (by rw [x.H0]; exact ho) fun z => by
      obtain ⟨ps, e1, _⟩ := S2.pre
      exact (S2.n0 a (x.up a n)).2 (by rw [e1]; exact List.mem_append_left _ z)
    cases c with
    | lst h r =>
      cases e
      have h' := na FrEx.refl S
      rw [h] at h'
      cases h'
      exact ⟨_, _, rfl, .inl ⟨SqL.of h, fun F' ph2 M2 env2 σ2 H2 x S2 f => SqL.of (na x S2)⟩, r⟩
    | _ => cases e
def itemsM (d : D) : Res (List D) := match itemsD d with
  | some ds => .ok ds []
  | none => .fail
def zSeqI (z : ZX) : ZL := fun env M => (z env M).bind fun d M1 => match itemsD d with
  | some ds => .ok ds M1
  | none => .fail
theorem PI.or {tg : Expr} {w1 w2 : TI} (h1 : PI X tg e w1) (h2 : PI X tg e w2) : PI X tg e fun σ H R => w1 σ H R ∨ w2 σ H R :=
  ⟨fun pins s σ H R I q => q.elim (h1.run pins s σ H R I) (h2.run pins s σ H R I)⟩
theorem itok_seq {F : Fr} {ph : List Addr} {env : Ev} {σ : St} {H : Hp} {J : It} {xs : List V} {ds : List D} {G : Hp → Prop} (w : Walk J xs.length G (YAt xs)) (r : RepL (gh F ph env σ) H xs ds)
    (st : ∀ F' ph2 M2 env2 σ2 H2, FrEx F F' H → Sim F' ph2 M2 env2 σ2 H2 → Fws F ph env σ H ph2 env2 σ2 H2 → G H2) : ItOk F ph env σ H J ds := by
  intro F' ph2 M2 env2 σ2 H2 fx S2 f
  have g := st F' ph2 M2 env2 σ2 H2 fx S2 f
  have hl := r.length
  refine ⟨by rw [← hl]; exact w.stops H2 g, fun i d e => ?_⟩
  have hi : i < ds.length := (List.getElem?_eq_some_iff.mp e).1
  refine ⟨w.goes i H2 (by omega) g, fun x H3 hy => ?_⟩
  obtain ⟨rfl, ex⟩ := w.yields i H2 x H3 (by omega) g hy
  obtain ⟨u, e2, r2⟩ := (RepL.mo (f.moX fx) r).at e
  rw [ex] at e2
  cases e2
  exact ⟨S2, Fwd.refl, r2⟩
/-- a list or a tuple, whichever has come -/
def iSeq (K : PySem.W.Frag) (tl : TE) : TI := fun σ H R => tl σ H fun x H1 => ∃ a, x = .ref a ∧ (((∃ xs, SqL K H1 a xs) ∧ R (Itl K a) H1) ∨ ((∃ xs, SqT K H1 a xs) ∧ R (Itt K a) H1))
theorem pi_seq {tg l : Expr} {tl : TE} (hl : PE X l tl) : PI X tg l (iSeq X.K tl) := by
  refine ⟨fun pn s0 σ0 H0 R I0 hw => thn (hl.run pn s0 σ0 H0 _ I0 hw) fun v s1 ⟨x, H1, J1, r1, a, ea, q⟩ => ?_⟩
  subst ea
  cases r1
  have fin : ∀ b ∈ [s1.heap.objs.size], FpOk X pn H1 b := fun b hb => by
    rw [List.mem_singleton.mp hb]
    exact J1.fpOk (Nat.le_refl _) (J1.hok.fresh (Nat.le_refl _))
  have J2 : ∀ o : Obj, Inv X pn σ0 H1 { s1 with heap := s1.heap.push o } := fun o => J1.kept (t' := s1.toks) fun b u z => Heap.get?_push_of_some _ z
  rcases q with ⟨⟨xs, hq⟩, q⟩ | ⟨⟨xs, hq⟩, q⟩
  · obtain ⟨its, _, pl, _⟩ := J1.list hq
    exact wpAny_pyIter_list pl.isList ⟨_, [s1.heap.objs.size], _, _, H1, rfl, J2 _, turn_list a _, ⟨_, Heap.get?_push_size _ rfl, rfl, rfl⟩, fin, q⟩
  · obtain ⟨its, _, pl, _⟩ := J1.tuple hq
    have it : s1.heap.IsTuple a its.toArray := pl
    exact wpAny_pyIter_tuple it ⟨_, [s1.heap.objs.size], _, _, H1, rfl, J2 _, turn_tuple a _, ⟨_, Heap.get?_push_size _ rfl, rfl, rfl⟩, fin, q⟩
theorem zi_seq {tg : Expr} (h : ZBm X W cl e z) : Zi X W cl tg e (zSeqI z) := by
  obtain ⟨t, p, q⟩ := h.ex
  refine ⟨_, pi_seq p, fun F ph M env σ H R h1 h2 S P => ?_⟩
  refine q F ph M env σ H _ h1 h2 S (Post.step P fun d M1 ph1 H1 v S1 f1 r1 P1 => ?_)
  cases e1 : itemsD d with
  | none => rw [e1] at P1; exact P1.elim
  | some ds =>
    rw [e1] at P1
    obtain ⟨a, xs, rfl, hq, rr⟩ := seq_stay S1 r1 e1
    rw [h2] at hq
    rcases hq with ⟨hq, st⟩ | ⟨hq, st⟩
    · exact ⟨a, rfl, .inl ⟨⟨xs, hq⟩, P1.now S1 (itok_seq walk_list rr st)⟩⟩
    · exact ⟨a, rfl, .inr ⟨⟨xs, hq⟩, P1.now S1 (itok_seq walk_tup rr st)⟩⟩
/-! ranges -/
def stpD (lo c : Int) (n : Nat) : List D := (List.range n).map fun i => D.int (lo + (i : Nat) * c)
theorem stpD_at {lo c : Int} {n i : Nat} {d : D} (e : (stpD lo c n)[i]? = some d) : i < n ∧ d = .int (lo + (i : Nat) * c) := by
  unfold stpD at e
  rw [List.getElem?_map] at e
  cases q : (List.range n)[i]? with
  | none => rw [q] at e; cases e
  | some j =>
    rw [q] at e
    have hi : i < n := by simpa using (List.getElem?_eq_some_iff.mp q).1
    rw [List.getElem?_range hi] at q
    cases q
    cases e
    exact ⟨hi, rfl⟩
theorem itok_fn {F : Fr} {ph : List Addr} {env : Ev} {σ : St} {H : Hp} {J : It} {n : Nat} {lo c : Int} (w : Walk J n (fun _ => True) (YFn fun i => .int (lo + (i : Nat) * c))) : ItOk F ph env σ H J (stpD lo c n) := by
  intro F' ph2 M2 env2 σ2 H2 _ S2 f
  have hl : (stpD lo c n).length = n := by simp [stpD]
  refine ⟨by rw [hl]; exact w.stops H2 trivial, fun i d e => ?_⟩
  obtain ⟨hi, rfl⟩ := stpD_at e
  refine ⟨w.goes i H2 hi trivial, fun x H3 hy => ?_⟩
  obtain ⟨rfl, rfl⟩ := w.yields i H2 x H3 hi trivial hy
  exact ⟨S2, Fwd.refl, .int _⟩
def sm62 (i : Int) : Bool := decide (-(2 ^ 62) ≤ i) && decide (i < 2 ^ 62)
theorem sm62_ok {i : Int} (h : sm62 i = true) : -(2 ^ 62) ≤ i ∧ i < 2 ^ 62 := by
  unfold sm62 at h
  simpa using h
theorem rng_one {lo : Int} : (fun i : Nat => V.int (lo + (i : Nat) * (1 : Int))) = fun i => V.int (lo + (i : Nat)) := by
  funext i
  rw [Int.mul_one]
theorem walk_rng1 {lo : Int} {n : Nat} : Walk (Itr lo n) n (fun _ => True) (YFn fun i => .int (lo + (i : Nat) * (1 : Int))) := by
  rw [rng_one]
  exact walk_range
def zRng1 (l : ZL) : ZL := fun env M => (l env M).bind fun ds M1 => match ds with
  | [.int j] => if sm62 j then .ok (stpD 0 1 j.toNat) M1 else .fail
  | _ => .fail
def zRng2 (l : ZL) : ZL := fun env M => (l env M).bind fun ds M1 => match ds with
  | [.int i, .int j] => if sm62 i && sm62 j then .ok (stpD i 1 (j - i).toNat) M1 else .fail
  | _ => .fail
def zRng3 (l : ZL) : ZL := fun env M => (l env M).bind fun ds M1 => match ds with
  | [.int i, .int j, .int c] => if decide (c ≠ 0) && (decide (c.natAbs < 1073741824) && (Builtin.Range.small i j c && decide (Builtin.Range.rangeSize i j c = ((Builtin.Range.rangeSize i j c).toNat : Int)))) then .ok (stpD i c (Builtin.Range.rangeSize i j c).toNat) M1 else .fail
  | _ => .fail
theorem one_int {G : Gh} {H : Hp} {vs : List V} {i : Int} (r : RepL G H vs [.int i]) : vs = [.int i] := by
  cases r with | cons r t => cases r; cases t; rfl
theorem two_int {G : Gh} {H : Hp} {vs : List V} {i j : Int} (r : RepL G H vs [.int i, .int j]) : vs = [.int i, .int j] := by
  cases r with | cons r t => cases r; cases one_int t; rfl
theorem three_int {G : Gh} {H : Hp} {vs : List V} {i j k : Int} (r : RepL G H vs [.int i, .int j, .int k]) : vs = [.int i, .int j, .int k] := by
  cases r with | cons r t => cases r; cases two_int t; rfl
theorem zi_range1 {tg : Expr} {p : Pos} (hg : Gl X "range") (hm : X.mg "range" = none) (h : ZA X W cl [a] zs) (hs : nostar a = true) : Zi X W cl tg (.Call (.Name "range" p) [a] [] pos) (zRng1 zs) := by
  obtain ⟨t, pa, q⟩ := h.ex
  refine ⟨_, pi_range1 hg hm pa (star_ok hs), fun F ph M env σ H R h1 h2 S P => q F ph M env σ H _ h1 h2 S (Post.step P fun ds M1 ph1 H1 vs S1 f1 r1 P1 => ?_)⟩
  split at P1
  · rename_i j
    split at P1
    · rename_i hs
      obtain ⟨b1, b2⟩ := sm62_ok hs
      exact ⟨j, one_int r1, b1, b2, P1.now S1 (itok_fn walk_rng1)⟩
    · exact P1.elim
  · exact P1.elim
theorem zi_range2 {tg : Expr} {p : Pos} (hg : Gl X "range") (hm : X.mg "range" = none) (h : ZA X W cl [a, b] zs) (hs : nostar a = true) (hs2 : nostar b = true) : Zi X W cl tg (.Call (.Name "range" p) [a, b] [] pos) (zRng2 zs) := by
  obtain ⟨t, pa, q⟩ := h.ex
  refine ⟨_, pi_range2 hg hm pa ((star_ok hs).trans (congrArg _ (star_ok hs2))) (star_ok hs2), fun F ph M env σ H R h1 h2 S P => q F ph M env σ H _ h1 h2 S (Post.step P fun ds M1 ph1 H1 vs S1 f1 r1 P1 => ?_)⟩
  split at P1
  · rename_i i j
    split at P1
    · rename_i hs
      simp only [Bool.and_eq_true] at hs
      obtain ⟨b1, b2⟩ := sm62_ok hs.1
      obtain ⟨b3, b4⟩ := sm62_ok hs.2
      exact ⟨i, j, two_int r1, ⟨b1, b2, b3, b4⟩, P1.now S1 (itok_fn walk_rng1)⟩
    · exact P1.elim
  · exact P1.elim
theorem zi_range3 {tg c : Expr} {p : Pos} (hg : Gl X "range") (hm : X.mg "range" = none) (h : ZA X W cl [a, b, c] zs) (hs : nostar a = true) (hs2 : nostar b = true) (hs3 : nostar c = true) : Zi X W cl tg (.Call (.Name "range" p) [a, b, c] [] pos) (zRng3 zs) := by
  obtain ⟨t, pa, q⟩ := h.ex
  have hpl : (backTo pos (starEach [b, c] X.env)).any (·.1) = false := by rw [star_ok hs2, star_ok hs3]; rfl
  refine ⟨_, pi_range3 hg hm pa (star_ok hs) hpl, fun F ph M env σ H R h1 h2 S P => q F ph M env σ H _ h1 h2 S (Post.step P fun ds M1 ph1 H1 vs S1 f1 r1 P1 => ?_)⟩
  split at P1
  · rename_i i j k
    split at P1
    · rename_i hs
      simp only [Bool.and_eq_true, decide_eq_true_eq] at hs
      exact ⟨i, j, k, _, three_int r1, ⟨hs.1, hs.2.1, hs.2.2.1, hs.2.2.2⟩, P1.now S1 (itok_fn walk_rangeC)⟩
    · exact P1.elim
  · exact P1.elim
end
end Zy
set_option maxHeartbeats 2000000
namespace Zy
open PySem PySem.Spec PyProof.Rows L2

/-! what may be changed: one's own slot, a cell of the store -/
def getPl (env : Ev) (M : Sto) (i : Nat) : Option D := match env[i]? with
  | some (.own d) => some d
  | some (.val (.ref c)) => M[c]?
  | _ => none
def setPl (env : Ev) (M : Sto) (i : Nat) (d : D) : Ev × Sto := match env[i]? with
  | some (.own _) => (env.set i (.own d), M)
  | some (.val (.ref c)) => (env, M.set c d)
  | _ => (env, M)
section
variable {F : Fr} {W : WX} {ph ph' : List Addr} {M M' : Sto} {env env' : Ev} {σ σ' : St} {H H' : Hp} {B : Ends} {G : Gh}
theorem mo_wr {a : Addr} {o' : HO} (h : G.off a) : Mo G G H (upd H a o') := ⟨fun b o e n => by
  have nb : b ≠ a := fun z => n (by rw [z]; exact h)
  exact ⟨by rw [upd_ne nb]; exact e, n⟩, fun _ _ h => h, rfl, rfl⟩
theorem Sim.wrCel {c : Nat} {d' : D} {a : Addr} {o' : HO} (S : Sim F ph M env σ H) (hc : ph[c]? = some a) (c' : Cel (gh F ph env σ) (upd H a o') a d') :
    Sim F ph (M.set c d') env σ (upd H a o') ∧ Fws F ph env σ H ph env σ (upd H a o') := by
  have ha : a ∈ ph := List.mem_of_getElem? hc
  have offa : (gh F ph env σ).off a := .inr ha
  have m : Mo (gh F ph env σ) (gh F ph env σ) H (upd H a o') := mo_wr offa
  have kp : ∀ b, b ≠ a → ∀ o, H b = some o → upd H a o' b = some o := fun b nb o e => by rw [upd_ne nb]; exact e
  have there : ∀ b o, H b = some o → ∃ u, upd H a o' b = some u := fun b o e => by
    by_cases nb : b = a
    · exact ⟨o', by rw [nb]; exact upd_same⟩
    · exact ⟨o, kp b nb o e⟩
  refine ⟨⟨S.len, S.pre, fun b u e n => ?_, fun b z => ?_, by rw [List.length_set]; exact S.ml, S.nd, fun j d e => ?_, fun j d e => ?_, fun j d e => ?_, S.ap, fun j d e => ?_⟩,
    ⟨⟨[], by simp, fun b h => by simp at h⟩, fun b o e n => (m.keep b o e n).1, fun b z => .inl z, there⟩⟩
  · refine kp b (fun z => ?_) u (S.keep b u e n)
    obtain ⟨ps, e1, hps⟩ := S.pre
    rw [z] at n e
    rw [e1] at ha
    rcases List.mem_append.mp ha with q | q
    · exact n q
    · rw [hps a q] at e
      cases e
  · obtain ⟨⟨o, q⟩, n⟩ := S.n0 b z
    exact ⟨there b o q, n⟩
  · by_cases hj : j = c
    · subst hj
      refine ⟨a, hc, ?_⟩
      have hl : j < M.length := by rw [S.ml]; exact (List.getElem?_eq_some_iff.mp hc).1
      rw [List.getElem?_set_self hl] at e
      cases e
      exact c'
    · rw [List.getElem?_set_ne (fun z => hj z.symm)] at e
      obtain ⟨b, q, cc⟩ := S.sto j d e
      refine ⟨b, q, cc.mo m (kp b fun z => hj ?_)⟩
      rw [z] at q
      exact (List.getElem?_inj (List.getElem?_eq_some_iff.mp q).1 S.nd).mp (q.trans hc.symm)
  · obtain ⟨v, q, r⟩ := S.val j d e
    exact ⟨v, q, r.mo m⟩
  · obtain ⟨b, q, cc, h, n, k⟩ := S.own j d e
    exact ⟨b, q, cc.mo m (kp b fun z => n (z ▸ ha)), h, n, k⟩
  · obtain ⟨b, q, n, cc, o⟩ := S.brw j d e
    exact ⟨b, q, n, cc.mo m (kp b fun z => (S.n0 b n).2 (z ▸ ha)), o⟩
theorem Sim.place {i : Nat} {d : D} (S : Sim F ph M env σ H) (e : getPl env M i = some d) :
    ∃ a, σ[i]? = some (some (.ref a)) ∧ Cel (gh F ph env σ) H a d ∧ (gh F ph env σ).off a ∧
      ∀ o' d', Cel (gh F ph env σ) (upd H a o') a d' → Sim F ph (setPl env M i d').2 (setPl env M i d').1 σ (upd H a o') ∧ Fws F ph env σ H ph (setPl env M i d').1 σ (upd H a o') := by
  unfold getPl at e
  unfold setPl
  split at e
  · rename_i d0 e0
    cases e
    obtain ⟨a, q, c, _⟩ := S.own i _ e0
    refine ⟨a, q, c, .inl (.inr ⟨i, _, e0, q⟩), fun o' d' c' => ?_⟩
    exact S.wrOwn e0 q c'
  · rename_i c0 e0
    obtain ⟨v, q, r⟩ := S.val i _ e0
    cases r with
    | @ref a _ h =>
      obtain ⟨b, q2, c⟩ := S.sto c0 d e
      have h' : ph[c0]? = some a := h
      rw [h'] at q2
      cases q2
      exact ⟨a, q, c, .inr (List.mem_of_getElem? h'), fun o' d' c' => S.wrCel h' c'⟩
  · cases e
end
section
variable {X : Cx} {W : WX} {cl : String → Option Addr} {e a b : Expr} {es : List Expr} {z za zb zc : ZX} {zs : ZL} {pos pos' p1 p2 p3 : Pos} {i j : Nat} {x : Str}
theorem RepP.dany {G : Gh} {H : Hp} {κ : Type} [DecidableEq κ] {k : κ} : ∀ {ks : List (κ × V)} {kvs : List (κ × D)}, RepP G H κ ks kvs → (ks.any fun kv => decide (kv.1 = k)) = kvs.any fun kv => decide (kv.1 = k)
  | _, _, .nil => rfl
  | _, _, .cons _ t => by rw [List.any_cons, List.any_cons, RepP.dany t]
theorem RepP.dupd {G : Gh} {H : Hp} {κ : Type} [DecidableEq κ] {k : κ} {y : V} {e : D} (re : Rep G H y e) : ∀ {ks : List (κ × V)} {kvs : List (κ × D)}, RepP G H κ ks kvs → RepP G H κ (ks.map fun kv => if kv.1 = k then (kv.1, y) else kv) (kvs.map fun kv => if kv.1 = k then (kv.1, e) else kv)
  | _, _, .nil => .nil
  | _, _, .cons (k := j) h t => by
    rw [List.map_cons, List.map_cons]
    by_cases q : j = k
    · simp only [if_pos q]
      exact .cons re (RepP.dupd re t)
    · simp only [if_neg q]
      exact .cons h (RepP.dupd re t)
theorem RepP.dsnoc {G : Gh} {H : Hp} {κ : Type} {k : κ} {y : V} {e : D} (re : Rep G H y e) : ∀ {ks : List (κ × V)} {kvs : List (κ × D)}, RepP G H κ ks kvs → RepP G H κ (ks ++ [(k, y)]) (kvs ++ [(k, e)])
  | _, _, .nil => .cons re .nil
  | _, _, .cons h t => .cons h (RepP.dsnoc re t)
theorem RepP.dput {G : Gh} {H : Hp} {κ : Type} [DecidableEq κ] {k : κ} {y : V} {e : D} {ks : List (κ × V)} {kvs : List (κ × D)} (r : RepP G H κ ks kvs) (re : Rep G H y e) : RepP G H κ (putK ks k y) (dputD kvs k e) := by
  unfold putK dputD
  rw [r.dany]
  split
  · exact r.dupd re
  · exact r.dsnoc re
def rSetU : TSet := fun o i v H Q => rSetL o i v H Q ∨ rSetD o i v H Q
theorem set_all (hu : X.A.units + 1 < cLine) : PSet X rSetU := by
  intro pins s σ H o i v ov iv u Q I ro ri rv h
  rcases h with h | h
  · exact set_list pins s σ H o i v ov iv u Q I ro ri rv h
  · exact set_dict hu pins s σ H o i v ov iv u Q I ro ri rv h
/-- x[k] = e -/
def putDk (env : Ev) (M : Sto) (i : Nat) (kvs : List (Key × D)) (k : Option Key) (v : D) : Out := match k with
  | some k => if kvs.length < sizeLine then .nx (setPl env M i (.dK (dputD kvs k v))).1 (setPl env M i (.dK (dputD kvs k v))).2 else .fail
  | none => .fail
def putDt (env : Ev) (M : Sto) (i : Nat) (kvs : List (List Key × D)) (k : Option (List Key)) (v : D) : Out := match k with
  | some k => if kvs.length < sizeLine then .nx (setPl env M i (.dT (dputD kvs k v))).1 (setPl env M i (.dT (dputD kvs k v))).2 else .fail
  | none => .fail
def putL (env : Ev) (M : Sto) (i : Nat) (k v : D) : Out := match getPl env M i, k with
  | some (.lst ds), .int n => match ixN ds.length n with
    | some j => .nx (setPl env M i (.lst (ds.set j v))).1 (setPl env M i (.lst (ds.set j v))).2
    | none => .fail
  | some (.dK kvs), k => putDk env M i kvs (keyD k) v
  | some (.dT kvs), .tup ds => putDt env M i kvs (keysD ds) v
  | _, _ => .fail
def zPut (i : Nat) (ze zi : ZX) : ZS := fun env M => (ze env M).toS env fun v M1 => match getPl env M1 i with
  | some _ => (zi env M1).toS env fun k M2 => putL env M2 i k v
  | none => .fail
theorem putL_run {F : Fr} {ph : List Addr} {M : Sto} {env : Ev} {σ : St} {H : Hp} {B : Ends} {k v : D} {kv vv : V} (S : Sim F ph M env σ H) (rk : Rep (gh F ph env σ) H kv k) (rv : Rep (gh F ph env σ) H vv v) (P : PoS F W env σ ph H B (putL env M i k v)) :
    ∃ o, σ[i]? = some (some o) ∧ rSetU o kv vv H fun H3 => B.nx σ H3 := by
  unfold putL at P
  split at P
  · rename_i ds n e1
    split at P
    · rename_i j e2
      obtain ⟨p, q, c, off, wr⟩ := S.place e1
      cases c with
      | @lst xs _ h r =>
        cases rk
        have r2 : RepL (gh F ph env σ) (L2.upd H p (.lst (xs.set j vv))) (xs.set j vv) (ds.set j v) := RepL.mo (mo_wr off) (r.set rv j)
        obtain ⟨S', f'⟩ := wr (.lst (xs.set j vv)) (.lst (ds.set j v)) (.lst upd_same r2)
        refine ⟨_, q, .inl ⟨p, xs, n, j, rfl, rfl, h, by rw [r.length]; exact e2, P.nxt S' f'⟩⟩
    · exact P.elim
  · rename_i kvs e1
    unfold putDk at P
    split at P
    · rename_i kk e2
      split at P
      · rename_i hl
        obtain ⟨p, q, c, off, wr⟩ := S.place e1
        cases c with
        | @dK ks _ h r =>
          have r2 : RepP (gh F ph env σ) (L2.upd H p (.dK (putK ks kk vv))) Key (putK ks kk vv) (dputD kvs kk v) := RepP.mo (mo_wr off) (r.dput rv)
          obtain ⟨S', f'⟩ := wr (.dK (putK ks kk vv)) (.dK (dputD kvs kk v)) (.dK upd_same r2)
          exact ⟨_, q, .inr ⟨p, _, rfl, .inl ⟨ks, kk, h, key_of (.inl rk) e2, by rw [r.length]; exact hl, rfl⟩, P.nxt S' f'⟩⟩
      · exact P.elim
    · exact P.elim
  · rename_i kvs ds e1
    unfold putDt at P
    split at P
    · rename_i kk e2
      split at P
      · rename_i hl
        obtain ⟨p, q, c, off, wr⟩ := S.place e1
        cases rk with
        | @tup b us _ hb nb rb =>
          rw [keys_of rb e2] at hb
          cases c with
          | @dT ks _ h r =>
            have r2 : RepP (gh F ph env σ) (L2.upd H p (.dT (putK ks kk vv))) (List Key) (putK ks kk vv) (dputD kvs kk v) := RepP.mo (mo_wr off) (r.dput rv)
            obtain ⟨S', f'⟩ := wr (.dT (putK ks kk vv)) (.dT (dputD kvs kk v)) (.dT upd_same r2)
            exact ⟨_, q, .inr ⟨p, _, rfl, .inr ⟨ks, kk, b, h, rfl, hb, by rw [r.length]; exact hl, rfl⟩, P.nxt S' f'⟩⟩
      · exact P.elim
    · exact P.elim
  · exact P.elim
theorem zs_put (hu : X.A.units + 64 < cLine) (hN : X.N[i]? = some x) (hv : Vis X.env.scope x) (hd : (x == ("__debug__" : Str)) = false) (hcd : (x == ("__classdict__" : Str)) = false) (h : ZE X W cl e z) (hk : ZE X W cl b zb)
    (hs : swapsWithSole [.Subscript (.Name x p1) b p2] e pos.line X.env = pure false) (hw : swappedStores [.Subscript (.Name x p1) b p2] e X.env = pure none)
    (h1 : (assignEach [.Subscript (.Name x p1) b p2] X.env).map (·.2) = [assign (.Subscript (.Name x p1) b p2) X.env])
    (ha : ∀ v, assign (.Subscript (.Name x p1) b p2) X.env v = (do
      let ov ← holding [v] (eval (.Name x p1) X.env)
      let iv ← holding [v, ov] (eval b X.env)
      standAt p2
      holding [v, ov, iv] (setItem ov iv v)
      release [v, ov, iv] [])) :
    Zs X W cl (.Assign [.Subscript (.Name x p1) b p2] e pos) (zPut i z zb) := by
  obtain ⟨t, p, q⟩ := h.ex
  obtain ⟨tb, pb, qb⟩ := hk.ex
  refine ⟨_, ps_asg p (pg_sub (pe_var hN hv hd hcd) pb (set_all (by omega)) ha) hs hw h1, fun F ph M env σ H B h1 h2 S P => q F ph M env σ H _ h1 h2 S (PoS.step P fun v M1 ph1 H1 vv S1 f1 r1 P1 => ?_)⟩
  cases e1 : getPl env M1 i with
  | none => rw [e1] at P1; exact P1.elim
  | some d0 =>
    rw [e1] at P1
    obtain ⟨a, q0, _⟩ := S1.place e1
    refine ⟨.ref a, q0, qb F ph1 M1 env σ H1 _ h1 h2 S1 (PoS.step P1 fun k M2 ph2 H2 kv S2 f2 r2 P2 => ?_)⟩
    obtain ⟨o, q1, r⟩ := putL_run S2 r2 (r1.mo (f2.mo S1)) P2
    rw [q0] at q1
    cases q1
    exact r
/-- x.append(e) -/
def zApp (i : Nat) (z : ZX) : ZS := fun env M => match getPl env M i with
  | some (.lst _) => (z env M).toS env fun v M1 => match getPl env M1 i with
    | some (.lst ds) => if ds.length < sizeLine then .nx (setPl env M1 i (.lst (ds ++ [v]))).1 (setPl env M1 i (.lst (ds ++ [v]))).2 else .fail
    | _ => .fail
  | _ => .fail
theorem cel_lst {G : Gh} {H : Hp} {a : Addr} {ds : List D} (c : Cel G H a (.lst ds)) : ∃ xs, H a = some (.lst xs) ∧ RepL G H xs ds := by
  cases c with | lst h r => exact ⟨_, h, r⟩
theorem zs_app (hN : X.N[i]? = some x) (hv : Vis X.env.scope x) (hd : (x == ("__debug__" : Str)) = false) (hcd : (x == ("__classdict__" : Str)) = false) (h : ZE X W cl e z) (hn : nostar e = true) (hs : swapsWith (.Call (.Attribute (.Name x p1) "append" p2) [e] [] p3) none pos.line X.env = pure false)
    (hline : (p2.endLine == p3.line) = true) : Zs X W cl (.Expr (.Call (.Attribute (.Name x p1) "append" p2) [e] [] p3) pos) (zApp i z) := by
  obtain ⟨t, p, q⟩ := h.ex
  refine ⟨_, ps_expr (pe_bm PySem.F.plainAttrs_list PySem.F.slot_list_append PySem.F.type_list_append mt_append (pe_var hN hv hd hcd) (pa_cons p pa_nil (star_ok hn)) (hbase := by rfl) (hfew := ?_) (hline := hline) (hs := star_ok hn) (hplain := by rfl)) hs, fun F ph M env σ H B h1 h2 S P => ?_⟩
  · rw [star_ok hn]; rfl
  · unfold zApp at P
    split at P
    · rename_i ds0 e0
      obtain ⟨a, q0, c0, off0, _⟩ := S.place e0
      obtain ⟨xs0, hx0, _⟩ := cel_lst c0
      refine ⟨.ref a, q0, .inl ⟨rfl, xs0, SqL.of hx0⟩, q F ph M env σ H _ h1 h2 S (PoS.step P fun v M1 ph1 H1 vv S1 f1 r1 P1 => ?_)⟩
      split at P1
      · rename_i ds e1
        obtain ⟨a1, q1, c1, off, wr⟩ := S1.place e1
        rw [q0] at q1
        cases q1
        split at P1
        · rename_i hl
          obtain ⟨xs, hx, rx⟩ := cel_lst c1
          have r2 : RepL (gh F ph1 env σ) (upd H1 a (.lst (xs ++ [vv]))) (xs ++ [vv]) (ds ++ [v]) := RepL.mo (mo_wr off) (rx.app (.cons r1 .nil))
          obtain ⟨S', f'⟩ := wr (.lst (xs ++ [vv])) (.lst (ds ++ [v])) (.lst upd_same r2)
          exact ⟨a, xs, vv, rfl, rfl, hx, by rw [rx.length]; exact hl, P1.nxt S' f'⟩
        · exact P1.elim
      · exact P1.elim
    · exact P.elim
/-- x op= e, a number -/
def zAugN (i : Nat) (g : Int → Int → Int) (z : ZX) : ZS := fun env M => match env[i]? with
  | some (.val (.int n)) => (z env M).toS env fun v M1 => match v with
    | .int m => .nx (env.set i (.val (.int (g n m)))) M1
    | _ => .fail
  | _ => .fail
theorem zs_aug {op : Operator} {g : Int → Int → Int} (ho : PIp X op (ipI g)) (hN : X.N.Nodup) (hi : X.N[i]? = some x) (hx : Loc X.env.scope x) (hf : X.fn x = true ∨ X.env.scope.names.lookup x = some .local) (h : ZE X W cl e z) :
    Zs X W cl (.AugAssign (.Name x pos') op e pos) (zAugN i g z) := by
  obtain ⟨t, p, q⟩ := h.ex
  refine ⟨_, ps_aug hN hi hx p ho hf, fun F ph M env σ H B h1 h2 S P => ?_⟩
  unfold zAugN at P
  split at P
  · rename_i n e0
    obtain ⟨v, q0, r0⟩ := S.val i _ e0
    cases r0
    refine ⟨.int n, q0, q F ph M env σ H _ h1 h2 S (PoS.step P fun d M1 ph1 H1 vv S1 f1 r1 P1 => ?_)⟩
    split at P1
    · rename_i m
      cases r1
      exact ⟨n, m, rfl, rfl, P1.setV S1 (.int _)⟩
    · exact P1.elim
  · exact P.elim
end
end Zy
set_option maxHeartbeats 2000000
namespace Zy
open PySem PySem.Spec PyProof.Rows L2

/-! one reading for each meaning -/
def tE (W : WX) (cl : String → Option Addr) (K : PySem.W.Frag) (z : ZX) : TE := fun σ H Q => ∃ F ph M env, F.cl = cl ∧ F.K = K ∧ Sim F ph M env σ H ∧ PoE F W env σ ph H Q (z env M)
def tB (W : WX) (cl : String → Option Addr) (K : PySem.W.Frag) (z : ZB) : TT := fun σ H Q => ∃ F ph M env, F.cl = cl ∧ F.K = K ∧ Sim F ph M env σ H ∧ PoT F W env σ ph H Q (z env M)
section
variable {X : Cx} {W : WX} {cl : String → Option Addr} {e : Expr} {z : ZX} {y : ZB}
theorem ZE.pe (h : ZE X W cl e z) : PE X e (tE W cl X.K z) := by
  obtain ⟨t, p, q⟩ := h.ex
  exact ⟨fun pins s σ H Q I ⟨F, ph, M, env, h1, h2, S, P⟩ => p.run pins s σ H Q I (q F ph M env σ H Q h1 h2 S P)⟩
theorem ZT.pt (h : ZT X W cl e y) : PT X e (tB W cl X.K y) := by
  obtain ⟨t, p, q⟩ := h.ex
  exact ⟨fun pins s σ H Q I ⟨F, ph, M, env, h1, h2, S, P⟩ => p.run pins s σ H Q I (q F ph M env σ H Q h1 h2 S P)⟩
end
section
variable {F F' : Fr} {W : WX} {ph ph' : List Addr} {M M' : Sto} {env env' : Ev} {σ σ' : St} {H H' : Hp}
/-- back in the frame around, behind what ran in another -/
theorem Sim.back (S : Sim F ph M env σ H) (S' : Sim F' ph' M' env' σ' H') (f : Fwd ph H ph' H') (hK : F'.K = F.K) (hc : F'.cl = F.cl) (hN : ∀ a, nof F env σ a → nof F' env' σ' a) : Sim F ph' M' env σ H' := by
  have m : Mo (gh F ph env σ) (gh F ph' env σ) H H' := f.mo S
  have m' : Mo (gh F' ph' env' σ') (gh F ph' env σ) H' H' := ⟨fun a o e n => ⟨e, fun z => n (z.elim (fun z => .inl (hN a z)) .inr)⟩, fun _ _ e => e, hc.symm, hK.symm⟩
  obtain ⟨ps, e1, n1⟩ := S.pre
  obtain ⟨qs, e2, n2⟩ := f.ext
  have nph : ∀ a o, F.H0 a = some o → a ∉ F.ph0 → a ∉ ph := fun a o e n z => by
    rw [e1] at z
    rcases List.mem_append.mp z with z | z
    · exact n z
    · rw [n1 a z] at e
      cases e
  have old : ∀ a, a ∉ ph → (∃ o, H a = some o) → a ∉ ph' := fun a n ⟨o, e⟩ z => by
    rw [e2] at z
    rcases List.mem_append.mp z with z | z
    · exact n z
    · rw [n2 a z] at e
      cases e
  refine ⟨S.len, ⟨ps ++ qs, by rw [e2, e1, List.append_assoc], fun a z => ?_⟩, fun a o e n => f.keep a o (S.keep a o e n) (nph a o e n), fun a z => ?_, S'.ml, S'.nd, fun i d e => ?_, fun i d e => ?_, fun i d e => ?_, S.ap, fun i d e => ?_⟩
  · rcases List.mem_append.mp z with z | z
    · exact n1 a z
    · exact S.h0 (n2 a z)
  · obtain ⟨⟨o, q⟩, n⟩ := S.n0 a z
    exact ⟨f.there a o q, old a n ⟨o, q⟩⟩
  · obtain ⟨a, q, c⟩ := S'.sto i d e
    exact ⟨a, q, c.mo m' fun _ h => h⟩
  · obtain ⟨v, q, r⟩ := S.val i d e
    exact ⟨v, q, r.mo m⟩
  · obtain ⟨a, q, c, h0, n, k⟩ := S.own i d e
    exact ⟨a, q, c.mo m fun o h => f.keep a o h n, h0, old a n c.there, k⟩
  · obtain ⟨a, q, n, c, o⟩ := S.brw i d e
    exact ⟨a, q, n, c.mo m fun o h => f.keep a o h (S.n0 a n).2, o⟩
/-! a block's own names -/
def wipeE (env : Ev) : List Nat → Ev
  | [] => env
  | v :: vs => (wipeE env vs).set v .no
theorem wipeE_some {i : Nat} {w : Sl} : ∀ {vs : List Nat}, (wipeE env vs)[i]? = some w → w ≠ .no → env[i]? = some w ∧ i ∉ vs
  | [], h, _ => ⟨h, by simp⟩
  | v :: vs, h, n => by
    unfold wipeE at h
    rcases getE_set h with ⟨_, e⟩ | ⟨ne, e⟩
    · exact absurd e n
    · obtain ⟨h1, h2⟩ := wipeE_some e n
      exact ⟨h1, by simp only [List.mem_cons, not_or]; exact ⟨ne, h2⟩⟩
theorem wipeE_len : ∀ {vs : List Nat}, (wipeE env vs).length = env.length
  | [] => rfl
  | v :: vs => by unfold wipeE; rw [List.length_set, wipeE_len]
theorem wipe_keep {i : Nat} : ∀ {vs : List Nat}, i ∉ vs → (wipe σ vs)[i]? = σ[i]?
  | [], _ => rfl
  | v :: vs, h => by
    simp only [List.mem_cons, not_or] at h
    unfold wipe
    rw [List.getElem?_set_ne (fun z => h.1 z.symm), wipe_keep h.2]
theorem wipeE_keep {i : Nat} : ∀ {vs : List Nat}, i ∉ vs → (wipeE env vs)[i]? = env[i]?
  | [], _ => rfl
  | v :: vs, h => by
    simp only [List.mem_cons, not_or] at h
    unfold wipeE
    rw [List.getElem?_set_ne (fun z => h.1 z.symm), wipeE_keep h.2]
theorem wipe_in {i : Nat} : ∀ {vs : List Nat}, i ∈ vs → (wipe σ vs)[i]? = σ[i]?.map fun _ => none
  | [], h => by simp at h
  | v :: vs, h => by
    unfold wipe
    by_cases e : v = i
    · subst e
      by_cases hl : v < σ.length
      · rw [List.getElem?_set_self (by rw [wipe_length]; exact hl), List.getElem?_eq_getElem hl]
        rfl
      · rw [List.getElem?_eq_none (by rw [List.length_set, wipe_length]; omega), List.getElem?_eq_none (by omega)]
        rfl
    · rw [List.getElem?_set_ne e]
      have h' : i ∈ vs := by
        rcases List.mem_cons.mp h with h | h
        · exact absurd h.symm e
        · exact h
      exact wipe_in h'
theorem wipe_eq {vs : List Nat} (h : ∀ i, i ∉ vs → σ'[i]? = σ[i]?) (hl : σ'.length = σ.length) : wipe σ' vs = wipe σ vs := by
  apply List.ext_getElem?
  intro i
  by_cases hi : i ∈ vs
  · rw [wipe_in hi, wipe_in hi]
    by_cases hb : i < σ.length
    · rw [List.getElem?_eq_getElem hb, List.getElem?_eq_getElem (by omega)]
      rfl
    · rw [List.getElem?_eq_none (by omega), List.getElem?_eq_none (by omega)]
  · rw [wipe_keep hi, wipe_keep hi, h i hi]
def noOwn (env : Ev) (vs : List Nat) : Bool := vs.all fun i => match env[i]? with
  | some (.own _) => false
  | _ => true
theorem noOwn_at {vs : List Nat} (h : noOwn env vs = true) {i : Nat} (hi : i ∈ vs) {d : D} : env[i]? ≠ some (.own d) := fun e => by
  have := List.all_eq_true.mp h i hi
  rw [e] at this
  cases this
theorem nof_wipe {vs : List Nat} (h : noOwn env vs = true) (a : Addr) : nof F (wipeE env vs) (wipe σ vs) a ↔ nof F env σ a := by
  constructor
  · rintro (z | ⟨i, d, e1, e2⟩)
    · exact .inl z
    · obtain ⟨h1, h2⟩ := wipeE_some e1 (fun z => nomatch z)
      rw [wipe_keep h2] at e2
      exact .inr ⟨i, d, h1, e2⟩
  · rintro (z | ⟨i, d, e1, e2⟩)
    · exact .inl z
    · have hi : i ∉ vs := fun hi => noOwn_at h hi e1
      exact .inr ⟨i, d, by rw [wipeE_keep hi]; exact e1, by rw [wipe_keep hi]; exact e2⟩
theorem Sim.block {vs : List Nat} (S : Sim F ph M env σ H) (h : noOwn env vs = true) : Sim F ph M (wipeE env vs) (wipe σ vs) H := by
  have m : Mo (gh F ph env σ) (gh F ph (wipeE env vs) (wipe σ vs)) H H := gh_mo fun a z => (nof_wipe h a).mp z
  refine ⟨by rw [wipeE_len, wipe_length]; exact S.len, S.pre, S.keep, S.n0, S.ml, S.nd, fun i d e => ?_, fun i d e => ?_, fun i d e => ?_, fun i j d e a e1 e2 e3 e4 => ?_, fun i d e => ?_⟩
  · obtain ⟨a, q, c⟩ := S.sto i d e
    exact ⟨a, q, c.mo m fun _ h => h⟩
  · obtain ⟨h1, h2⟩ := wipeE_some e (fun z => nomatch z)
    obtain ⟨v, q, r⟩ := S.val i d h1
    exact ⟨v, by rw [wipe_keep h2]; exact q, r.mo m⟩
  · obtain ⟨h1, h2⟩ := wipeE_some e (fun z => nomatch z)
    obtain ⟨a, q, c, r⟩ := S.own i d h1
    exact ⟨a, by rw [wipe_keep h2]; exact q, c.mo m fun _ h => h, r⟩
  · obtain ⟨h1, h2⟩ := wipeE_some e1 (fun z => nomatch z)
    obtain ⟨h3, h4⟩ := wipeE_some e2 (fun z => nomatch z)
    rw [wipe_keep h2] at e3
    rw [wipe_keep h4] at e4
    exact S.ap i j d e a h1 h3 e3 e4
  · obtain ⟨h1, h2⟩ := wipeE_some e (fun z => nomatch z)
    obtain ⟨a, q, n, c, o⟩ := S.brw i d h1
    exact ⟨a, by rw [wipe_keep h2]; exact q, n, c.mo m fun _ h => h, o⟩
end
/-! targets within a block -/
def RunT (K : PySem.W.Frag) (is : List Nat) (gz : ZTg) (g : TG) : Prop := ∀ F ph M env σ H (Q : St → Hp → Prop) v d env', F.K = K → Sim F ph M env σ H → Rep (gh F ph env σ) H v d → gz d env = some env' →
    (∀ σ', Sim F ph M env' σ' H → (∀ a, nof F env' σ' a → nof F env σ a) → (∀ i, i ∉ is → σ'[i]? = σ[i]? ∧ env'[i]? = env[i]?) → σ'.length = σ.length → Q σ' H) → g v σ H Q
structure Zgb (X : Cx) (tg : Expr) (is : List Nat) (gz : ZTg) (g : TG) : Prop where
  pg : PG X tg g
  run : RunT X.K is gz g
section
variable {X : Cx} {i : Nat} {x : Str} {pos : Pos} {es : List Expr}
theorem zgb_name (hN : X.N.Nodup) (hi : X.N[i]? = some x) (hx : Loc X.env.scope x) (hf : X.fn x = true ∨ X.env.scope.names.lookup x = some .local) : Zgb X (.Name x pos) [i] (tgN i) (gName i) :=
  ⟨pg_name hN hi hx hf, fun F ph M env σ H Q v d env' _ S r e k => by
    cases e
    refine k _ (S.setV r) (fun a z => ?_) (fun j hj => ?_) (List.length_set ..)
    · rcases z with z | ⟨j, d', e1, e2⟩
      · exact .inl z
      · rcases getE_set e1 with ⟨_, e⟩ | ⟨ne, e⟩
        · cases e
        · rcases getE_set e2 with ⟨e', _⟩ | ⟨_, e'⟩
          · exact absurd e' ne
          · exact .inr ⟨j, d', e, e'⟩
    · exact ⟨List.getElem?_set_ne fun z => hj (by simp [z]), List.getElem?_set_ne fun z => hj (by simp [z])⟩⟩
theorem nms_runB {F : Fr} {ph : List Addr} {M : Sto} {H : Hp} : ∀ {is : List Nat} {env : Ev} {σ : St} {xs : List V} {ds : List D} {env' : Ev} {Q : St → Hp → Prop}, Sim F ph M env σ H → RepL (gh F ph env σ) H xs ds → setAll env is ds = some env' →
    (∀ σ', Sim F ph M env' σ' H → (∀ a, nof F env' σ' a → nof F env σ a) → (∀ i, i ∉ is → σ'[i]? = σ[i]? ∧ env'[i]? = env[i]?) → σ'.length = σ.length → Q σ' H) → gNms is xs σ H Q
  | [], env, σ, xs, ds, env', Q, S, r, e, k => by
    cases ds with
    | nil =>
      cases r
      cases e
      exact ⟨rfl, k σ S (fun _ z => z) (fun _ _ => ⟨rfl, rfl⟩) rfl⟩
    | cons d ds => cases e
  | i :: is, env, σ, xs, ds, env', Q, S, r, e, k => by
    cases ds with
    | nil => cases e
    | cons d ds =>
      cases r with
      | @cons v _ _ _ h t =>
        refine ⟨_, _, rfl, ?_⟩
        have f : Fws F ph env σ H ph (env.set i (.val d)) (σ.set i (some v)) H := Fws.setV fun _ e => nomatch e
        refine nms_runB (is := is) (S.setV h) (RepL.mo f.mo t) e fun σ' S' n' k' l' => k σ' S' (fun a z => ?_) (fun j hj => ?_) (l'.trans (List.length_set ..))
        · rcases n' a z with z | ⟨j, d', e1, e2⟩
          · exact .inl z
          · rcases getE_set e1 with ⟨_, e⟩ | ⟨ne, e⟩
            · cases e
            · rcases getE_set e2 with ⟨e', _⟩ | ⟨_, e'⟩
              · exact absurd e' ne
              · exact .inr ⟨j, d', e, e'⟩
        · simp only [List.mem_cons, not_or] at hj
          exact ⟨by rw [(k' j hj.2).1, List.getElem?_set_ne fun z => hj.1 z.symm], by rw [(k' j hj.2).2, List.getElem?_set_ne fun z => hj.1 z.symm]⟩
theorem zgb_names {k : Nat} {is : List Nat} (hc : X.calm = true) (g : NamesAt X es is) : Zgb X (.Tuple es k pos) is (tgT is) (fun v σ H Q => gTup X.K is.length (gNms is) v σ H Q ∨ gUnl X.K is.length (gNms is) v σ H Q) := by
  refine ⟨PG.or (pg_tup (n := is.length) hc g.gs g.len g.st) (pg_unl (n := is.length) hc g.gs g.len g.st), fun F ph M env σ H Q v d env' hK S r e k => ?_⟩
  unfold tgT at e
  cases e1 : itemsD d with
  | none => rw [e1] at e; cases e
  | some ds =>
    rw [e1] at e
    have e2 : setAll env is ds = some env' := e
    obtain ⟨a, xs, rfl, hq, rr⟩ := (Lk.of r).seq e1
    have hK' : (gh F ph env σ).K = X.K := hK
    rw [hK'] at hq
    have hl : xs.length = is.length := by rw [rr.length, setAll_len e2]
    have run := nms_runB S rr e2 k
    rcases hq with hq | hq
    · exact .inr ⟨a, xs, rfl, hq, hl, run⟩
    · exact .inl ⟨a, xs, rfl, hq, hl, run⟩
end
/-! list comprehensions -/
def Wf : WX := fun _ _ _ _ => False
def zLcL (gz : ZTg) (zt : ZB) (ze : ZX) (envb : Ev) : List D → List D → Sto → Res D
  | [], acc, M => .ok (.lst acc) M
  | d :: ds, acc, M => match gz d envb with
    | some envc => match zt envc M with
      | .ok true M1 => match ze envc M1 with
        | .ok y M2 => if acc.length < sizeLine then zLcL gz zt ze envb ds (acc ++ [y]) M2 else .fail
        | _ => .fail
      | .ok false M1 => zLcL gz zt ze envb ds acc M1
      | _ => .fail
    | none => .fail
def zLc (zi : ZL) (gz : ZTg) (zt : ZB) (ze : ZX) (vs : List Nat) : ZX := fun env M => (zi env M).bind fun ds M1 => if noOwn env vs = true then zLcL gz zt ze (wipeE env vs) ds [] M1 else .fail
/-- a value read in a block, of no wish for exceptions -/
theorem post_block {α β : Type} {Rl : Gh → Hp → β → α → Prop} {F : Fr} {env : Ev} {σ : St} {ph : List Addr} {H : Hp} {Q : β → Hp → Prop} {r : Res α} (h : ∀ a M', r = .ok a M' → ∀ ph' H' b, Sim F ph' M' env σ H' → Fwd ph H ph' H' → Rl (gh F ph' env σ) H' b a → Q b H') (hn : ∃ a M', r = .ok a M') :
    Post Rl F Wf env σ ph H Q r := by
  obtain ⟨a, M', rfl⟩ := hn
  exact fun ph' H' b S f r => h a M' rfl ph' H' b S f r
/-- a cell that the frame leaves alone is written -/
theorem Sim.wrN0 {F : Fr} {ph : List Addr} {M : Sto} {env : Ev} {σ : St} {H : Hp} {a : Addr} {o' : HO} (S : Sim F ph M env σ H) (hn : F.N0 a) (h0 : F.H0 a = none) : Sim F ph M env σ (upd H a o') := by
  have offa : (gh F ph env σ).off a := .inl (.inl hn)
  have m : Mo (gh F ph env σ) (gh F ph env σ) H (upd H a o') := mo_wr offa
  have na : a ∉ ph := (S.n0 a hn).2
  have kp : ∀ b, b ≠ a → ∀ o, H b = some o → upd H a o' b = some o := fun b nb o e => by rw [upd_ne nb]; exact e
  refine ⟨S.len, S.pre, fun b u e n => kp b (fun z => ?_) u (S.keep b u e n), fun b z => ?_, S.ml, S.nd, fun j d e => ?_, fun j d e => ?_, fun j d e => ?_, S.ap, fun j d e => ?_⟩
  · rw [z, h0] at e
    cases e
  · obtain ⟨⟨o, q⟩, n⟩ := S.n0 b z
    refine ⟨?_, n⟩
    by_cases nb : b = a
    · exact ⟨o', by rw [nb]; exact upd_same⟩
    · exact ⟨o, kp b nb o q⟩
  · obtain ⟨b, q, c⟩ := S.sto j d e
    exact ⟨b, q, c.mo m (kp b fun z => na (z ▸ List.mem_of_getElem? q))⟩
  · obtain ⟨v, q, r⟩ := S.val j d e
    exact ⟨v, q, r.mo m⟩
  · obtain ⟨b, q, c, h, n, k⟩ := S.own j d e
    exact ⟨b, q, c.mo m (kp b fun z => k (z ▸ hn)), h, n, k⟩
  · obtain ⟨b, q, n, c, o, ho⟩ := S.brw j d e
    exact ⟨b, q, n, c.mo m (kp b fun z => by rw [z, h0] at ho; cases ho), o, ho⟩
section
variable {X : Cx} {W : WX} {cl : String → Option Addr}
theorem lc_run {zi : ZL} {gz : ZTg} {zt : ZB} {ze : ZX} {is vs : List Nat} {wi : TI} {g : TG} {F : Fr} {ph : List Addr} {M : Sto} {env : Ev} {σ : St} {H : Hp} {Q : VK}
    (qi : ∀ F ph M env σ H R, F.cl = cl → F.K = X.K → Sim F ph M env σ H → PoI F W env σ ph H R (zi env M) → wi σ H R)
    (hg : RunT X.K is gz g)
    (hv : ∀ i ∈ is, i ∈ vs) (h1 : F.cl = cl) (h2 : F.K = X.K) (S : Sim F ph M env σ H) (P : PoF F W env σ ph H Q (zLc zi gz zt ze vs env M)) :
    tLc wi g (tB Wf cl X.K zt) (tE Wf cl X.K ze) vs σ H Q := by
  refine qi F ph M env σ H _ h1 h2 S (PoF.step P fun ds M1 ph1 H1 J S1 f1 r1 P1 => ?_)
  have IO : ItOk F ph1 env σ H1 J ds := r1
  by_cases hno : noOwn env vs = true
  · rw [if_pos hno] at P1
    intro A hA
    obtain ⟨S2, m2⟩ := S1.lay (o := .lst []) hA
    refine ⟨fun i m H2 => m = ds.length - i ∧ i ≤ ds.length ∧ ∃ ph2 M2 acc xs, Sim (F.plus A) ph2 M2 env σ H2 ∧ Fwd ph1 H1 ph2 H2 ∧ H2 A = some (.lst xs) ∧ RepL (gh (F.plus A) ph2 env σ) H2 xs acc ∧
      PoF F W env σ ph1 H1 Q (zLcL gz zt ze (wipeE env vs) (ds.drop i) acc M2), ⟨ds.length, rfl, Nat.zero_le _, ph1, M1, [], [], S2, Fwd.alloc hA, upd_same, .nil, P1⟩, ?_⟩
    rintro i m H2 ⟨rfl, hi, ph2, M2, acc, xs, S3, f3, hx, rx, P3⟩
    obtain ⟨st, go⟩ := IO (F.plus A) ph2 M2 env σ H2 (FrEx.plus hA) S3 f3.ws
    by_cases hlt : i < ds.length
    · have ed : ds.drop i = ds[i] :: ds.drop (i + 1) := List.drop_eq_getElem_cons hlt
      obtain ⟨g1, yl⟩ := go i ds[i] (List.getElem?_eq_getElem hlt)
      rw [ed] at P3
      unfold zLcL at P3
      refine .inr ⟨g1, fun H' => ∃ ph2 M2 acc xs, Sim (F.plus A) ph2 M2 env σ H' ∧ Fwd ph1 H1 ph2 H' ∧ H' A = some (.lst xs) ∧ RepL (gh (F.plus A) ph2 env σ) H' xs acc ∧ PoF F W env σ ph1 H1 Q (zLcL gz zt ze (wipeE env vs) (ds.drop (i + 1)) acc M2),
        fun H' q => ⟨ds.length - (i + 1), by omega, rfl, hlt, q⟩, fun x H3 hy => ?_⟩
      obtain ⟨S4, f4, r4⟩ := yl x H3 hy
      have hA2 : A ∉ ph2 := (S3.n0 A (.inr rfl)).2
      have S5 := S4.block hno
      have rb : Rep (gh (F.plus A) ph2 (wipeE env vs) (wipe σ vs)) H3 x ds[i] := r4.mo (gh_mo fun a z => (nof_wipe hno a).mp z)
      cases e1 : gz ds[i] (wipeE env vs) with
      | none => rw [e1] at P3; exact P3.elim
      | some envc =>
        simp only [e1] at P3
        refine hg (F.plus A) ph2 M2 _ _ H3 _ x _ envc h2 S5 rb e1 fun σc S6 n6 k6 l6 => ⟨wipe_eq (fun j hj => ?_) (l6.trans (wipe_length ..)), ?_⟩
        · rw [(k6 j (fun z => hj (hv j z))).1, wipe_keep hj]
        · have nback : ∀ a, nof (F.plus A) env σ a → nof (F.plus A) envc σc a := fun a z => by
            rcases z with z | ⟨j, d, q1, q2⟩
            · exact .inl z
            · have hj : j ∉ vs := fun z => noOwn_at hno z q1
              obtain ⟨k7, k8⟩ := k6 j (fun z => hj (hv j z))
              exact .inr ⟨j, d, by rw [k8, wipeE_keep hj]; exact q1, by rw [k7, wipe_keep hj]; exact q2⟩
          refine ⟨F.plus A, ph2, M2, envc, h1, h2, S6, ?_⟩
          cases e2 : zt envc M2 with
          | ok b M4 =>
            simp only [e2] at P3
            intro ph4 H4 b' S7 f7 rb'
            cases (show b' = b from rb')
            have S8 : Sim (F.plus A) ph4 M4 env σ H4 := S4.back S7 f7 rfl rfl nback
            have mo8 := f7.mo S4
            have hx4 : H4 A = some (.lst xs) := f7.keep A _ (f4.keep A _ hx hA2) hA2
            have rx4 : RepL (gh (F.plus A) ph4 env σ) H4 xs acc := RepL.mo mo8 (RepL.mo (f4.mo S3) rx)
            cases b with
            | false =>
              refine iteF ⟨ph4, M4, acc, xs, S8, (f3.trans f4).trans f7, hx4, rx4, P3⟩
            | true =>
              refine iteT ⟨F.plus A, ph4, M4, envc, h1, h2, S7, ?_⟩
              cases e3 : ze envc M4 with
              | ok y M5 =>
                simp only [e3] at P3
                by_cases hl : acc.length < sizeLine
                · rw [if_pos hl] at P3
                  intro ph5 H5 v S9 f9 r9
                  have hA4 : A ∉ ph4 := (S8.n0 A (.inr rfl)).2
                  have hx5 : H5 A = some (.lst xs) := f9.keep A _ hx4 hA4
                  have S10 : Sim (F.plus A) ph5 M5 env σ H5 := S8.back S9 f9 rfl rfl nback
                  have rx5 : RepL (gh (F.plus A) ph5 env σ) H5 xs acc := RepL.mo (f9.mo S8) rx4
                  have r10 : Rep (gh (F.plus A) ph5 env σ) H5 v y := r9.mo (gh_mo nback)
                  refine ⟨xs, hx5, by rw [rx5.length]; exact hl, ph5, M5, acc ++ [y], xs ++ [v], ?_, ?_, upd_same, ?_, P3⟩
                  · exact S10.wrN0 (.inr rfl) (S.h0 (f1.back hA))
                  · refine ⟨((f3.trans f4).trans (f7.trans f9)).ext, fun a o e n => ?_, fun a o e => ?_⟩
                    · rw [upd_ne (ne_of_none e hA)]
                      exact ((f3.trans f4).trans (f7.trans f9)).keep a o e n
                    · rw [upd_ne (ne_of_none e hA)]
                      exact ((f3.trans f4).trans (f7.trans f9)).there a o e
                  · exact RepL.mo (mo_wr (show (gh (F.plus A) ph5 env σ).off A from .inl (.inl (.inr rfl)))) (rx5.app (.cons r10 .nil))
                · rw [if_neg hl] at P3; exact P3.elim
              | exc c fs M5 => simp only [e3] at P3; exact P3.elim
              | fail => simp only [e3] at P3; exact P3.elim
          | exc c fs M4 => simp only [e2] at P3; exact P3.elim
          | fail => simp only [e2] at P3; exact P3.elim
    · have e : i = ds.length := by omega
      subst e
      rw [List.drop_length] at P3
      exact .inl ⟨st, P3 ph2 H2 A S3 f3 (.lst hx rx) hA⟩
  · rw [if_neg hno] at P1
    exact P1.elim
theorem pof_of {F : Fr} {env : Ev} {σ : St} {ph : List Addr} {M : Sto} {H : Hp} {Q : VK} {r : Res D} (S : Sim F ph M env σ H) (P : PoE F W env σ ph H Q r) : PoF F W env σ ph H Q r := by
  cases r with
  | fail => exact P
  | exc c fs M' => exact P
  | ok d M' =>
    intro ph' H' a S' f c hn
    obtain ⟨S1, m⟩ := S'.unplus (S.h0 hn)
    refine P ph' H' (.ref a) S1 f (c.rep m fun z => ?_)
    rcases z with z | z
    · exact nof_none (M := M) (ph := ph) (H := H) (F := F) (env := env) (σ := σ) S hn (by
        rcases z with z | ⟨i, d', e1, e2⟩
        · exact .inl z
        · exact .inr ⟨i, d', e1, e2⟩)
    · exact (S'.n0 a (.inr rfl)).2 z
/-- what a comprehension asks of its parts -/
structure LcOk (X : Cx) (cl : String → Option Addr) (W : WX) (tg iter elt : Expr) (ifs : List Expr) (scope : Scope) (own : List (Str × Nat)) (zi : ZL) (gz : ZTg) (zt : ZB) (ze : ZX) : Prop where
  it : Zi X W cl tg iter zi
  blk : BlkOk X.N X.env.scope scope own
  tgt : ∃ is g, (∀ i ∈ is, i ∈ own.map (·.2)) ∧ RunT X.K is gz g ∧ ∀ (s : Shared) (H : Hp) (C : Addr) (cs : List (Str × Addr)) (fp : List Addr), PG (X.blk s H scope (compEnvC scope cs C X.env) fp) tg g
  tst : (ifs = [] ∧ zt = fun _ M => .ok true M) ∨ ∃ c, ifs = [c] ∧ ∀ (s : Shared) (H : Hp) (C : Addr) (cs : List (Str × Addr)) (fp : List Addr), ZT (X.blk s H scope (compEnvC scope cs C X.env) fp) Wf cl c zt
  el : ∀ (s : Shared) (H : Hp) (C : Addr) (cs : List (Str × Addr)) (fp : List Addr), ZE (X.blk s H scope (compEnvC scope cs C X.env) fp) Wf cl elt ze
  fold : ∀ x, foldedSetIterable iter X.env x = pure x
variable {tg iter elt : Expr} {ifs : List Expr} {scope : Scope} {own : List (Str × Nat)} {zi : ZL} {gz : ZTg} {zt : ZB} {ze : ZX} {pos pos' spos : Pos} {i : Nat} {x : Str}
theorem pts_of {Y : Cx} (hK : Y.K = X.K) (h : (ifs = [] ∧ zt = fun _ M => .ok true M) ∨ ∃ c, ifs = [c] ∧ ZT Y Wf cl c zt) : PTs Y ifs (tB Wf cl X.K zt) := by
  rcases h with ⟨rfl, rfl⟩ | ⟨c, rfl, h⟩
  · exact ⟨fun pins s σ H Q I ⟨F, ph, M, env, h1, h2, S, P⟩ => pts_nil.run pins s σ H Q I (P ph H true S Fwd.refl rfl)⟩
  · rw [← hK]
    exact pts_one h.pt
theorem LcOk.parts (L : LcOk X cl W tg iter elt ifs scope own zi gz zt ze) (hc : X.calm = true) (hN : X.N.Nodup) :
    ∃ t, PE X (.ListComp elt [⟨tg, iter, ifs, 0⟩] scope pos) t ∧ (∀ py y sp i, X.N[i]? = some y → X.env.scope.names.lookup y = some .local → swapsWith (.ListComp elt [⟨tg, iter, ifs, 0⟩] scope pos) (some (.Name y py)) sp.line X.env = pure true →
      PS X (.Assign [.Name y py] (.ListComp elt [⟨tg, iter, ifs, 0⟩] scope pos) sp) (tAsg t (gName i))) ∧
      ∀ F ph M env σ H Q, F.cl = cl → F.K = X.K → Sim F ph M env σ H → PoF F W env σ ph H Q (zLc zi gz zt ze (own.map (·.2)) env M) → t σ H Q := by
  obtain ⟨wi, pi, qi⟩ := L.it.ex
  obtain ⟨is, g, hv, hr, hg⟩ := L.tgt
  have ht : ∀ (s : Shared) (H : Hp) (C : Addr) (cs : List (Str × Addr)) (fp : List Addr), PTs (X.blk s H scope (compEnvC scope cs C X.env) fp) ifs (tB Wf cl X.K zt) := fun s H C cs fp => by
    refine pts_of (X := X) rfl ?_
    rcases L.tst with h | ⟨c, h, q⟩
    · exact .inl h
    · exact .inr ⟨c, h, q s H C cs fp⟩
  have he : ∀ (s : Shared) (H : Hp) (C : Addr) (cs : List (Str × Addr)) (fp : List Addr), PE (X.blk s H scope (compEnvC scope cs C X.env) fp) elt (tE Wf cl X.K ze) := fun s H C cs fp => (L.el s H C cs fp).pe
  exact ⟨_, pe_lc hc hN pi L.blk hg ht he L.fold, fun py y sp i h1 h2 h3 => ps_setLc hc hN h1 h2 h3 pi L.blk hg ht he L.fold, fun F ph M env σ H Q h1 h2 S P => lc_run (X := X) qi hr hv h1 h2 S P⟩
theorem zf_lc (L : LcOk X cl W tg iter elt ifs scope own zi gz zt ze) (hc : X.calm = true) (hN : X.N.Nodup) : ZF X W cl (.ListComp elt [⟨tg, iter, ifs, 0⟩] scope pos) (zLc zi gz zt ze (own.map (·.2))) := by
  obtain ⟨t, p, _, q⟩ := L.parts (pos := pos) hc hN
  exact ⟨t, p, q⟩
/-- x = [..] on one line -/
theorem zs_setLc (L : LcOk X cl W tg iter elt ifs scope own zi gz zt ze) (hc : X.calm = true) (hN : X.N.Nodup) (hi : X.N[i]? = some x) (hx : X.env.scope.names.lookup x = some .local)
    (hs : swapsWith (.ListComp elt [⟨tg, iter, ifs, 0⟩] scope pos) (some (.Name x pos')) spos.line X.env = pure true) : Zs X W cl (.Assign [.Name x pos'] (.ListComp elt [⟨tg, iter, ifs, 0⟩] scope pos) spos) (zSet i (zLc zi gz zt ze (own.map (·.2)))) := by
  obtain ⟨t, _, p, q⟩ := L.parts (pos := pos) hc hN
  refine ⟨_, p pos' x spos i hi hx hs, fun F ph M env σ H B h1 h2 S P => q F ph M env σ H _ h1 h2 S (pof_of S ?_)⟩
  exact PoS.step P fun d M1 ph1 H1 v S1 f1 r1 P1 => P1.setV S1 r1
theorem zs_setLcO (L : LcOk X cl W tg iter elt ifs scope own zi gz zt ze) (hc : X.calm = true) (hN : X.N.Nodup) (hi : X.N[i]? = some x) (hx : X.env.scope.names.lookup x = some .local)
    (hs : swapsWith (.ListComp elt [⟨tg, iter, ifs, 0⟩] scope pos) (some (.Name x pos')) spos.line X.env = pure true) : Zs X W cl (.Assign [.Name x pos'] (.ListComp elt [⟨tg, iter, ifs, 0⟩] scope pos) spos) (zSetO i (zLc zi gz zt ze (own.map (·.2)))) := by
  obtain ⟨t, _, p, q⟩ := L.parts (pos := pos) hc hN
  exact ⟨_, p pos' x spos i hi hx hs, fun F ph M env σ H B h1 h2 S P => q F ph M env σ H _ h1 h2 S (post_own S P)⟩
theorem zs_setLcC (L : LcOk X cl W tg iter elt ifs scope own zi gz zt ze) (hc : X.calm = true) (hN : X.N.Nodup) (hi : X.N[i]? = some x) (hx : X.env.scope.names.lookup x = some .local)
    (hs : swapsWith (.ListComp elt [⟨tg, iter, ifs, 0⟩] scope pos) (some (.Name x pos')) spos.line X.env = pure true) : Zs X W cl (.Assign [.Name x pos'] (.ListComp elt [⟨tg, iter, ifs, 0⟩] scope pos) spos) (zSetC i (zLc zi gz zt ze (own.map (·.2)))) := by
  obtain ⟨t, _, p, q⟩ := L.parts (pos := pos) hc hN
  exact ⟨_, p pos' x spos i hi hx hs, fun F ph M env σ H B h1 h2 S P => q F ph M env σ H _ h1 h2 S (post_cel S P)⟩
end
end Zy
set_option maxHeartbeats 2000000
namespace Zy
open PySem PySem.Spec PyProof.Rows L2

/-! a def's promise where nothing is guarded (repr) -/
structure FnG (P : Program) (w : World) (K : PySem.W.Frag) (mg : Str → Option Value) (base : Heap) (CX : CXT) (k : Nat) (f : Addr) (fd : FuncData) (ps : List Str) (sp : Sp) : Prop where
  len : ∀ vs H Q E, sp vs H Q E → vs.length = ps.length
  run : ∀ (A : Around) (outer : List Env) (s : Shared) (H : Hp) (args : Args) (us : List Value) (vs : List V) (Q : VK) (E : XK), A.guards = some [] → Room k A → Env0 P w K mg base A outer s H → BindsTo s fd args (ps.zip us) → Vals vs us → sp vs H Q E →
    codeAny (model P w) A (.call (.ref f) args) (CR CX outer P w H s Q E) s
theorem FnG.mono {P : Program} {w : World} {K : PySem.W.Frag} {mg : Str → Option Value} {base : Heap} {CX : CXT} {j k : Nat} {f : Addr} {fd : FuncData} {ps : List Str} {sp : Sp} (F : FnG P w K mg base CX j f fd ps sp) (h : j ≤ k) : FnG P w K mg base CX k f fd ps sp :=
  ⟨F.len, fun A outer s H args us vs Q E hg hr => F.run A outer s H args us vs Q E hg (hr.mono h)⟩
/-- a def of the text, by its body -/
theorem fnG_of {CX : CXT} {P : Program} {w : World} {K : PySem.W.Frag} {mg : Str → Option Value} {base : Heap} {xn qual : Str} {params : Arguments} {body : List Stmt} {scope : Scope} {dvs : List V} {dk : List (Str × V)} {f : Addr} {fd : FuncData} {N ps : List Str} {k : Nat} {sp : Sp}
    (Fd : FunD K xn qual params body scope dvs dk f fd) (S : FnScope N ps scope) (len : ∀ vs H Q E, sp vs H Q E → vs.length = ps.length)
    (hb : ∀ (cdv : Value) (A : Around) (outer : List Env) (s : Shared) (H : Hp) (vs : List V) (Q : VK) (E : XK), A.guards = some [] → Room k (A.deeper (envOfC qual scope s.heap.objs.size f cdv)) → sp vs H Q E →
      ∃ t, PSs (cxOf CX P w K mg base N qual scope f cdv A outer s H E) body t ∧ t { nx := fun _ H' => Q .non H', rt := Q } (L2.start N vs) H) : FnG P w K mg base CX (k + 1) f fd ps sp := by
  obtain ⟨oc, od, dV, kV, doc, pm, an, cdv, ct, osl, rfl, lk, hcd, _, _⟩ := Fd.ex
  refine ⟨len, fun A outer s H args us vs Q E hg hr e0 hbind r hsp => ?_⟩
  have inn : ∀ b o, base.get? b = some o → s.heap.get? b = some o := fun b o e => (e0.bs b o e).1
  have kx : K.In s.heap := e0.mod.kin.keeps inn
  refine codeAny_call_function hr.depth (kx _ _ lk) rfl S.co S.gen rfl (PySem.W.codeRec_of kx hcd) (hbind _ _ _ _ ?_)
  refine wpAny_newFunctionEnv_cells S.kind (fun y hy => ?_) fun env he s1 x => ?_
  · rcases S.par y.1 (List.of_mem_zip hy).1 with q | q
    · exact .inl q
    · exact .inr ⟨q, PySem.W.cellsFrom_some _ _ _ (.inl q)⟩
  · subst he
    refine ⟨(e0.mod.nolimit.keeps inn).keeps x.toInCall.keep, codeAny_func ?_⟩
    obtain ⟨t, ht, hq⟩ := hb cdv A outer s H vs Q E hg (hr.deeper _) hsp
    have J0 := inv_start (CX := CX) (N := N) (E := E) S hr.hd e0 (len _ _ _ _ hsp) r x
    refine wpAny_mono (ht.run [] s1 _ H _ J0 hq) (fun fl s' hs => ?_) fun _ _ z => z
    match fl, hs with
    | .ret u, ⟨v, _, H', J, rv, q⟩ => exact ⟨v, H', J.os, J.bare, J.base, J.hok, rv, q⟩
    | .next, ⟨_, H', J, q⟩ => exact ⟨V.non, H', J.os, J.bare, J.base, J.hok, rfl, q⟩
    | .brk, ⟨_, _, _, q⟩ => exact q.elim
    | .cont, ⟨_, _, _, q⟩ => exact q.elim
/-! arguments as slots -/
def RlS (G : Gh) (H : Hp) (v : V) : Sl → Prop
  | .val d => Rep G H v d
  | .bor d => ∃ a, v = .ref a ∧ Cel G H a d ∧ a ∉ G.ph ∧ G.N a
  | _ => False
inductive RsL (G : Gh) (H : Hp) : List V → List Sl → Prop
  | nil : RsL G H [] []
  | cons {x : V} {d : Sl} {xs : List V} {ds : List Sl} (h : RlS G H x d) (t : RsL G H xs ds) : RsL G H (x :: xs) (d :: ds)
theorem RsL.length {G : Gh} {H : Hp} : ∀ {xs : List V} {ds : List Sl}, RsL G H xs ds → xs.length = ds.length
  | _, _, .nil => rfl
  | _, _, .cons _ t => by rw [List.length_cons, List.length_cons, RsL.length t]
theorem RsL.app {G : Gh} {H : Hp} : ∀ {xs ys : List V} {ds es : List Sl}, RsL G H xs ds → RsL G H ys es → RsL G H (xs ++ ys) (ds ++ es)
  | _, _, _, _, .nil, s => s
  | _, _, _, _, .cons h t, s => .cons h (RsL.app t s)
theorem RsL.at {G : Gh} {H : Hp} : ∀ {xs : List V} {ds : List Sl}, RsL G H xs ds → ∀ {i : Nat} {d : Sl}, ds[i]? = some d → ∃ x, xs[i]? = some x ∧ RlS G H x d
  | _, _, .nil, i, d, e => by simp at e
  | _, _, .cons h t, 0, d, e => by
    have e' := Option.some.inj e
    subst e'
    exact ⟨_, rfl, h⟩
  | _, _, .cons h t, i + 1, d, e => RsL.at t (i := i) (d := d) (by simpa using e)
theorem rsl_vals {G : Gh} {H : Hp} : ∀ {xs : List V} {ds : List D}, RepL G H xs ds → RsL G H xs (ds.map .val)
  | _, _, .nil => .nil
  | _, _, .cons h t => .cons h (rsl_vals t)
abbrev ZSl := Ev → Sto → Res (List Sl)
section
variable {F : Fr} {W : WX} {ph ph' : List Addr} {M M' : Sto} {env : Ev} {σ : St} {H H' : Hp} {v : V} {d : Sl}
theorem RlS.fwd (S : Sim F ph M env σ H) (f : Fwd ph H ph' H') (r : RlS (gh F ph env σ) H v d) : RlS (gh F ph' env σ) H' v d := by
  cases d with
  | val d => exact Rep.mo (f.mo S) r
  | bor d =>
    obtain ⟨a, e, c, n, hN⟩ := r
    rcases (RlC.fwd (d := d) S f (.inr ⟨a, e, c, n, hN⟩)) with q | q
    · obtain ⟨o, ho⟩ := c.there
      subst e
      have m := f.mo S
      refine ⟨a, rfl, c.mo m fun o h => f.keep a o h n, fun z => ?_, hN⟩
      obtain ⟨ps, e1, hn⟩ := f.ext
      have z' : a ∈ ph' := z
      rw [e1] at z'
      rcases List.mem_append.mp z' with q | q
      · exact n q
      · rw [hn a q] at ho
        cases ho
    · exact q
  | no => exact r
  | own d => exact r
theorem RsL.fwd (S : Sim F ph M env σ H) (f : Fwd ph H ph' H') : ∀ {xs : List V} {ds : List Sl}, RsL (gh F ph env σ) H xs ds → RsL (gh F ph' env σ) H' xs ds
  | _, _, .nil => .nil
  | _, _, .cons h t => .cons (h.fwd S f) (RsL.fwd S f t)
end
structure ZSa (X : Cx) (W : WX) (cl : String → Option Addr) (es : List Expr) (z : ZSl) : Prop where
  ex : ∃ t, PA X es t ∧ ∀ F ph M env σ H Q, F.cl = cl → F.K = X.K → Sim F ph M env σ H → @Post (List Sl) (List V) RsL F W env σ ph H Q (z env M) → t σ H Q
structure ZSk (X : Cx) (W : WX) (cl : String → Option Addr) (kws : List Keyword) (z : ZSl) : Prop where
  ex : ∃ t, PK X kws t ∧ ∀ F ph M env σ H Q, F.cl = cl → F.K = X.K → Sim F ph M env σ H → @Post (List Sl) (List V) RsL F W env σ ph H Q (z env M) → t σ H Q
abbrev ZS1 := Ev → Sto → Res Sl
structure ZS1j (X : Cx) (W : WX) (cl : String → Option Addr) (e : Expr) (z : ZS1) : Prop where
  ex : ∃ t, PE X e t ∧ ∀ F ph M env σ H Q, F.cl = cl → F.K = X.K → Sim F ph M env σ H → @Post Sl V RlS F W env σ ph H Q (z env M) → t σ H Q
def zSv (i : Nat) : ZS1 := fun env M => match env[i]? with
  | some (.val d) => .ok (.val d) M
  | some (.own d) => .ok (.bor d) M
  | some (.bor d) => .ok (.bor d) M
  | _ => .fail
def zVl (z : ZX) : ZS1 := fun env M => (z env M).bind fun d M1 => .ok (.val d) M1
def sNil : ZSl := fun _ M => .ok [] M
def sCons (z : ZS1) (l : ZSl) : ZSl := fun env M => (z env M).bind fun d M1 => (l env M1).bind fun ds M2 => .ok (d :: ds) M2
section
variable {X : Cx} {W : WX} {cl : String → Option Addr} {e : Expr} {es : List Expr} {kws : List Keyword} {z : ZX} {z1 : ZS1} {zs zk : ZSl} {pos p kpos : Pos} {i : Nat} {x : Str} {nm : Option Str}
theorem zs1_var (hN : X.N[i]? = some x) (hv : Vis X.env.scope x) (hd : (x == ("__debug__" : Str)) = false) (hc : (x == ("__classdict__" : Str)) = false) : ZS1j X W cl (.Name x pos) (zSv i) := by
  refine ⟨_, pe_var hN hv hd hc, fun F ph M env σ H Q _ _ S P => ?_⟩
  unfold zSv at P
  split at P
  · rename_i d e
    obtain ⟨v, e1, r⟩ := S.val i d e
    exact ⟨v, e1, P.now S r⟩
  · rename_i d e
    obtain ⟨a, e1, r, _, n, _⟩ := S.own i d e
    exact ⟨_, e1, P.now S ⟨a, rfl, r, n, .inr ⟨i, d, e, e1⟩⟩⟩
  · rename_i d e
    obtain ⟨a, e1, n, r, _⟩ := S.brw i d e
    exact ⟨_, e1, P.now S ⟨a, rfl, r, (S.n0 a n).2, .inl n⟩⟩
  · exact P.elim
theorem ZE.to1 (h : ZE X W cl e z) : ZS1j X W cl e (zVl z) := by
  obtain ⟨t, p, q⟩ := h.ex
  exact ⟨t, p, fun F ph M env σ H Q h1 h2 S P => q F ph M env σ H Q h1 h2 S (Post.step P fun d M1 ph1 H1 v S1 f1 r1 P1 => P1.now S1 r1)⟩
theorem zsa_nil : ZSa X W cl [] sNil := ⟨_, pa_nil, fun F ph M env σ H Q _ _ S P => P.now S .nil⟩
theorem zsa_cons (h : ZS1j X W cl e z1) (t : ZSa X W cl es zs) (n : nostar e = true) : ZSa X W cl (e :: es) (sCons z1 zs) := by
  obtain ⟨te, pe, qe⟩ := h.ex
  obtain ⟨ts, ps, qs⟩ := t.ex
  refine ⟨_, pa_cons pe ps (star_ok n), fun F ph M env σ H Q h1 h2 S P => qe F ph M env σ H _ h1 h2 S (P.step fun d M1 ph1 H1 v S1 f1 r1 P1 => ?_)⟩
  refine qs F ph1 M1 env σ H1 _ h1 h2 S1 (P1.step fun ds M2 ph2 H2 ws S2 f2 r2 P2 => ?_)
  exact P2.now S2 (.cons (r1.fwd S1 f2) r2)
theorem zsk_nil : ZSk X W cl [] sNil := ⟨_, pk_nil, fun F ph M env σ H Q _ _ S P => P.now S .nil⟩
theorem zsk_cons (h : ZS1j X W cl e z1) (t : ZSk X W cl kws zk) : ZSk X W cl (⟨nm, e, kpos⟩ :: kws) (sCons z1 zk) := by
  obtain ⟨te, pe, qe⟩ := h.ex
  obtain ⟨ts, ps, qs⟩ := t.ex
  refine ⟨_, pk_cons pe ps, fun F ph M env σ H Q h1 h2 S P => qe F ph M env σ H _ h1 h2 S (P.step fun d M1 ph1 H1 v S1 f1 r1 P1 => ?_)⟩
  refine qs F ph1 M1 env σ H1 _ h1 h2 S1 (P1.step fun ds M2 ph2 H2 ws S2 f2 r2 P2 => ?_)
  exact P2.now S2 (.cons (r1.fwd S1 f2) r2)
/-! a def's promise -/
abbrev Sem1 := List Sl → Sto → Res D
def spZ (cl : String → Option Addr) (K : PySem.W.Frag) (n : Nat) (f : Sem1) : Sp := fun vs H Q E => vs.length = n ∧ ∃ F ph M env σ as, F.cl = cl ∧ F.K = K ∧ Sim F ph M env σ H ∧ RsL (gh F ph env σ) H vs as ∧
  PoE F (fun c d _ H' => E c d H') env σ ph H Q (f as M)
/-- the parameters' places among what is written and the defaults -/
def perm {α : Type} (l : List α) : List Nat → Option (List α)
  | [] => some []
  | i :: is => match l[i]?, perm l is with
    | some x, some xs => some (x :: xs)
    | _, _ => none
theorem perm_vals {α β : Type} {R : α → β → Prop} {l : List α} {m : List β} (h : ∀ (i : Nat) b, m[i]? = some b → ∃ a, l[i]? = some a ∧ R a b) : ∀ {is : List Nat} {ys : List β}, perm m is = some ys → ∃ xs, perm l is = some xs ∧ Paired R xs ys
  | [], ys, e => by
    cases e
    exact ⟨[], rfl, .nil⟩
  | i :: is, ys, e => by
    unfold perm at e
    cases e1 : m[i]? with
    | none => rw [e1] at e; cases e
    | some b =>
      cases e2 : perm m is with
      | none => rw [e1, e2] at e; cases e
      | some bs =>
        rw [e1, e2] at e
        cases e
        obtain ⟨a, q1, r1⟩ := h i b e1
        obtain ⟨as, q2, r2⟩ := perm_vals h e2
        exact ⟨a :: as, by unfold perm; rw [q1, q2], .cons r1 r2⟩
theorem perm_len {α : Type} {l : List α} : ∀ {is : List Nat} {ys : List α}, perm l is = some ys → ys.length = is.length
  | [], ys, e => by cases e; rfl
  | i :: is, ys, e => by
    unfold perm at e
    cases e1 : l[i]? with
    | none => rw [e1] at e; cases e
    | some b =>
      cases e2 : perm l is with
      | none => rw [e1, e2] at e; cases e
      | some bs =>
        rw [e1, e2] at e
        cases e
        rw [List.length_cons, List.length_cons, perm_len e2]
structure Pat (K : PySem.W.Frag) (fd : FuncData) (ps : List Str) (n : Nat) (ks : List Str) (is : List Nat) (dd : List D) : Prop where
  len : is.length = ps.length
  ex : ∃ (dv : List V) (du : List Value), Vals dv du ∧ (∀ G H, RepL G H dv dd) ∧ ∀ (s : Shared) (us ws ys : List Value), K.In s.heap → us.length = n → ws.length = ks.length → perm (us ++ ws ++ du) is = some ys → BindsTo s fd ⟨us, ks.zip ws⟩ (ps.zip ys)
def zCall (f : Sem1) (n m : Nat) (is : List Nat) (dd : List D) (zs zk : ZSl) : ZX := fun env M => (zs env M).bind fun as M1 => (zk env M1).bind fun bs M2 =>
  if as.length = n ∧ bs.length = m then match perm (as ++ bs ++ dd.map .val) is with
    | some ys => f ys M2
    | none => .fail else .fail
theorem RsL.paired {G : Gh} {H : Hp} : ∀ {xs : List V} {ds : List Sl}, Paired (RlS G H) xs ds → RsL G H xs ds
  | _, _, .nil => .nil
  | _, _, .cons h t => .cons h (RsL.paired t)
theorem callG {CX : CXT} {k : Nat} {f : Addr} {fd : FuncData} {ps ks : List Str} {sp : Sp} {E : St → XK} {pins : List (Addr × Obj)} {σ : St} {H : Hp} {s : Shared} {Q : VK} {us ws ys : List Value} {zs : List V} (F : FnG X.prog X.w X.K X.mg X.base CX k f fd ps sp) (hgd : X.A.guards = some []) (hr : Room k X.A)
    (hx : PassesAt CX X σ (E σ)) (I : Inv X pins σ H s) (hb : BindsTo s fd ⟨us, ks.zip ws⟩ (ps.zip ys)) (r : Vals zs ys) (h : sp zs H Q (E σ)) :
    wpAny (model X.prog X.w) X.A (call (.ref f) us (ks.zip ws)) (EP X pins σ Q) X.xe s := by
  refine wpAny_call (codeAny_mono (F.run X.A X.stack s H ⟨us, ks.zip ws⟩ ys zs Q (E σ) hgd hr I.env0 hb r h) fun res s' hq => ?_)
  match res, hq with
  | .error e, hq => exact hx pins H s e s' I hq
  | .ok (.ret u), hq => exact I.after hq
theorem call_fin {k : Nat} {f : Addr} {fd : FuncData} {ps ks : List Str} {n : Nat} {is : List Nat} {dd : List D} {g : Sem1} {dv : List V} {du : List Value} (F : FnG X.prog X.w X.K X.mg X.base (L2.CX X.prog X.w) k f fd ps (spZ cl X.K ps.length g)) (hgd : X.A.guards = some []) (hr : Room k X.A) (tk : Takes X W)
    (rdu : Vals dv du) (hB : ∀ (s : Shared) (us ws ys : List Value), X.K.In s.heap → us.length = n → ws.length = ks.length → perm (us ++ ws ++ du) is = some ys → BindsTo s fd ⟨us, ks.zip ws⟩ (ps.zip ys))
    {pins : List (Addr × Obj)} {σ : St} {Q : VK} {us ws : List Value} {s2 : Shared} {vs zs : List V} {H2 : Hp} (I2 : Inv X pins σ H2 s2) (r1 : Vals vs us) (r2 : Vals zs ws) (h : vs.length = n ∧ zs.length = ks.length ∧ ∃ ys, perm (vs ++ zs ++ dv) is = some ys ∧ spZ cl X.K ps.length g ys H2 Q (WE W σ)) :
    X.K.In s2.heap ∧ wpAny (model X.prog X.w) X.A (call (.ref f) us (ks.zip ws)) (EP X pins σ Q) X.xe s2 := by
  obtain ⟨l1, l2, ys, hp, hsp⟩ := h
  have rr : Vals (vs ++ zs ++ dv) (us ++ ws ++ du) := (r1.append r2).append rdu
  have look : ∀ (i : Nat) (b : V), (vs ++ zs ++ dv)[i]? = some b → ∃ a, (us ++ ws ++ du)[i]? = some a ∧ (fun (a : Value) (b : V) => RelV b a) a b := fun i b e => rr.get e
  obtain ⟨yv, hp2, py⟩ := perm_vals (R := fun (a : Value) (b : V) => RelV b a) look hp
  have ry : Vals ys yv := by
    clear hp hp2 hsp
    induction py with
    | nil => exact .nil
    | cons h t ih => exact .cons h ih
  exact ⟨I2.kIn, callG (E := WE W) F hgd hr (passAt tk σ) I2 (hB s2 us ws yv I2.kIn (by rw [← r1.length]; exact l1) (by rw [← r2.length]; exact l2) hp2) ry hsp⟩
theorem call_post {ps ks : List Str} {n : Nat} {is : List Nat} {dd : List D} {g : Sem1} {dv : List V} {F : Fr} {ph : List Addr} {M2 : Sto} {env : Ev} {σ : St} {H : Hp} {Q : VK} {as bs : List Sl} {vs zv : List V} (h1 : F.cl = cl) (h2 : F.K = X.K) (S2 : Sim F ph M2 env σ H)
    (hlen : is.length = ps.length) (r1 : RsL (gh F ph env σ) H vs as) (r2 : RsL (gh F ph env σ) H zv bs) (rdv : RepL (gh F ph env σ) H dv dd)
    (P2 : PoE F W env σ ph H Q (if as.length = n ∧ bs.length = ks.length then match perm (as ++ bs ++ dd.map .val) is with
      | some ys => g ys M2
      | none => .fail else .fail)) : vs.length = n ∧ zv.length = ks.length ∧ ∃ ys, perm (vs ++ zv ++ dv) is = some ys ∧ spZ cl X.K ps.length g ys H Q (WE W σ) := by
  split at P2
  · rename_i hl
    cases e1 : perm (as ++ bs ++ dd.map .val) is with
    | none => rw [e1] at P2; exact P2.elim
    | some ys =>
      rw [e1] at P2
      have rr : RsL (gh F ph env σ) H (vs ++ zv ++ dv) (as ++ bs ++ dd.map .val) := (r1.app r2).app (rsl_vals rdv)
      obtain ⟨yv, hp2, py⟩ := perm_vals (R := RlS (gh F ph env σ) H) (fun i b e => rr.at e) e1
      exact ⟨by rw [r1.length]; exact hl.1, by rw [r2.length]; exact hl.2, yv, hp2, by rw [perm_len hp2, hlen], F, ph, M2, env, σ, ys, h1, h2, S2, RsL.paired py, P2⟩
  · exact P2.elim
/-- f(e, .., k = v, ..) of a def of the module -/
theorem ze_call {k : Nat} {f : Addr} {fd : FuncData} {ps ks : List Str} {n : Nat} {is : List Nat} {dd : List D} {g : Sem1} (F : FnG X.prog X.w X.K X.mg X.base (L2.CX X.prog X.w) k f fd ps (spZ cl X.K ps.length g)) (hgd : X.A.guards = some []) (hr : Room k X.A) (tk : Takes X W)
    (hg : Gl X x) (hm : X.mg x = some (.ref f)) (hk : PySem.W.keepIn X.K (.ref f) = true) (B : Pat X.K fd ps n ks is dd) (hdb : (x == ("__debug__" : Str)) = false) (ha : ZSa X W cl (e :: es) zs) (hkw : ZSk X W cl kws zk)
    (hst : nostar e = true) (hall : (backToKw pos (keywordEach kws X.env)).all (·.1.isSome) = true) (hks : (backToKw pos (keywordEach kws X.env)).filterMap (·.1) = ks)
    (hpl : ((backTo pos (starEach (e :: es) X.env)).any (·.1) || (backToKw pos (keywordEach kws X.env)).any (·.1.isNone)) = false) :
    ZE X W cl (.Call (.Name x p) (e :: es) kws pos) (zCall g n ks.length is dd zs zk) := by
  obtain ⟨t, pa, qa⟩ := ha.ex
  obtain ⟨tk', pk, qk⟩ := hkw.ex
  obtain ⟨dv, du, rdu, rdv, hB⟩ := B.ex
  refine ⟨fun σ H Q => t σ H fun vs H1 => tk' σ H1 fun zs H2 => vs.length = n ∧ zs.length = ks.length ∧ ∃ ys, perm (vs ++ zs ++ dv) is = some ys ∧ spZ cl X.K ps.length g ys H2 Q (WE W σ), ⟨fun pins s σ H Q I h => ?_⟩, fun F ph M env σ H Q h1 h2 S P => ?_⟩
  · refine wpAny_Call_Name_kw (ld_glob I hg hm ?_ hdb)
    refine PySem.W.callWith_KW (h₀ := X.base) I.ok.mod.kin hk hall (thn (pa.run pos pins s σ H _ I h) fun us s1 ⟨vs, H1, I1, r1, q⟩ => ?_) hpl (star_ok hst)
    refine thn (pk.run pos pins s1 σ H1 _ I1 q) fun ws s2 ⟨zs, H2, I2, r2, q2⟩ => ?_
    rw [hks]
    exact call_fin (dd := dd) F hgd hr tk rdu hB I2 r1 r2 q2
  · refine qa F ph M env σ H _ h1 h2 S (P.step fun as M1 ph1 H1 vs S1 f1 r1 P1 => ?_)
    refine qk F ph1 M1 env σ H1 _ h1 h2 S1 (P1.step fun bs M2 ph2 H2 zv S2 f2 r2 P2 => ?_)
    exact call_post h1 h2 S2 B.len (r1.fwd S1 f2) r2 (rdv _ _) P2
/-- f(k = v, ..) -/
theorem ze_call0 {k : Nat} {f : Addr} {fd : FuncData} {ps ks : List Str} {is : List Nat} {dd : List D} {g : Sem1} (F : FnG X.prog X.w X.K X.mg X.base (L2.CX X.prog X.w) k f fd ps (spZ cl X.K ps.length g)) (hgd : X.A.guards = some []) (hr : Room k X.A) (tk : Takes X W)
    (hg : Gl X x) (hm : X.mg x = some (.ref f)) (hk : PySem.W.keepIn X.K (.ref f) = true) (B : Pat X.K fd ps 0 ks is dd) (hdb : (x == ("__debug__" : Str)) = false) (hkw : ZSk X W cl kws zk)
    (hall : (backToKw pos (keywordEach kws X.env)).all (·.1.isSome) = true) (hks : (backToKw pos (keywordEach kws X.env)).filterMap (·.1) = ks) (hpl : ((backTo pos (starEach [] X.env)).any (·.1) || (backToKw pos (keywordEach kws X.env)).any (·.1.isNone)) = false) :
    ZE X W cl (.Call (.Name x p) [] kws pos) (zCall g 0 ks.length is dd sNil zk) := by
  obtain ⟨tk', pk, qk⟩ := hkw.ex
  obtain ⟨dv, du, rdu, rdv, hB⟩ := B.ex
  refine ⟨fun σ H Q => tk' σ H fun zs H2 => ([] : List V).length = 0 ∧ zs.length = ks.length ∧ ∃ ys, perm ([] ++ zs ++ dv) is = some ys ∧ spZ cl X.K ps.length g ys H2 Q (WE W σ), ⟨fun pins s σ H Q I h => ?_⟩, fun F ph M env σ H Q h1 h2 S P => ?_⟩
  · refine wpAny_Call_Name_kw (ld_glob I hg hm ?_ hdb)
    refine PySem.W.callWith_KW0 (h₀ := X.base) I.ok.mod.kin hk hall ?_ hpl
    refine thn (pk.run pos pins s σ H _ I h) fun ws s2 ⟨zs, H2, I2, r2, q2⟩ => ?_
    rw [hks]
    exact call_fin (us := []) (vs := []) (dd := dd) F hgd hr tk rdu hB I2 .nil r2 q2
  · refine qk F ph M env σ H _ h1 h2 S ((show PoE F W env σ ph H Q ((zk env M).bind _) from P).step fun bs M2 ph2 H2 zv S2 f2 r2 P2 => ?_)
    exact call_post h1 h2 S2 B.len .nil r2 (rdv _ _) P2
/-! a def by its body -/
def zFun (np nN : Nat) (y : ZS) : Sem1 := fun as M => if as.length = np then match y (as ++ List.replicate (nN - np) .no) M with
  | .rt d M' => .ok d M'
  | .nx _ M' => .ok .non M'
  | .exc c fs _ M' => .exc c fs M'
  | _ => .fail else .fail
theorem sim_start {F : Fr} {ph : List Addr} {M : Sto} {env : Ev} {σ : St} {H : Hp} {N : List Str} {vs : List V} {as : List Sl} {m : Nat} (S : Sim F ph M env σ H) (r : RsL (gh F ph env σ) H vs as) (hm : N.length - vs.length = m) :
    Sim ⟨F.K, F.cl, nof F env σ, H, ph⟩ ph M (as ++ List.replicate m .no) (L2.start N vs) H := by
  have slot : ∀ {i : Nat} {d : Sl}, (as ++ List.replicate m Sl.no)[i]? = some d → d ≠ .no → ∃ v, (L2.start N vs)[i]? = some (some v) ∧ RlS (gh F ph env σ) H v d := fun {i d} e n => by
    by_cases hi : i < as.length
    · rw [List.getElem?_append_left hi] at e
      obtain ⟨v, q, rr⟩ := r.at e
      refine ⟨v, ?_, rr⟩
      unfold L2.start
      rw [List.getElem?_append_left (by rw [List.length_map, r.length]; exact hi), List.getElem?_map, q]
      rfl
    · rw [List.getElem?_append_right (by omega), List.getElem?_replicate] at e
      split at e
      · exact absurd (Option.some.inj e).symm n
      · cases e
  have noown : ∀ {i : Nat} {d : D}, (as ++ List.replicate m Sl.no)[i]? ≠ some (.own d) := fun {i d} e => by
    obtain ⟨v, _, rr⟩ := slot e (fun z => nomatch z)
    exact rr
  have m0 : Mo (gh F ph env σ) (gh ⟨F.K, F.cl, nof F env σ, H, ph⟩ ph (as ++ List.replicate m .no) (L2.start N vs)) H H := by
    refine ⟨fun a o e n => ⟨e, fun z => n ?_⟩, fun _ _ e => e, rfl, rfl⟩
    rcases z with (z | ⟨i, d, e1, _⟩) | z
    · exact .inl z
    · exact absurd e1 noown
    · exact .inr z
  refine ⟨?_, ⟨[], by simp, fun a z => by simp at z⟩, fun a o e _ => e, fun a z => ?_, S.ml, S.nd, fun i d e => ?_, fun i d e => ?_, fun i d e => absurd e noown, fun i j d e a e1 => absurd e1 noown, fun i d e => ?_⟩
  · unfold L2.start
    rw [List.length_append, List.length_append, List.length_map, List.length_replicate, List.length_replicate, r.length, ← hm, r.length]
  · have z' : nof F env σ a := z
    rcases z' with z' | ⟨i, d, e1, e2⟩
    · exact S.n0 a z'
    · obtain ⟨b, q, c, _, n, _⟩ := S.own i d e1
      rw [e2] at q
      cases q
      exact ⟨c.there, n⟩
  · obtain ⟨a, q, c⟩ := S.sto i d e
    exact ⟨a, q, c.mo m0 fun _ h => h⟩
  · obtain ⟨v, q, rr⟩ := slot e (fun z => nomatch z)
    exact ⟨v, q, Rep.mo m0 rr⟩
  · obtain ⟨v, q, a, ev, c, n, hN⟩ := slot e (fun z => nomatch z)
    subst ev
    exact ⟨a, q, hN, c.mo m0 fun _ h => h, c.there⟩
theorem start_fwd {F : Fr} {ph ph' : List Addr} {M : Sto} {N0 : Addr → Prop} {env env' : Ev} {σ σ' : St} {H H' : Hp} (f : Fws ⟨F.K, F.cl, N0, H, ph⟩ ph env σ H ph' env' σ' H') (S' : Sim ⟨F.K, F.cl, N0, H, ph⟩ ph' M env' σ' H') : Fwd ph H ph' H' :=
  ⟨f.ext, fun a o e n => S'.keep a o e n, f.there⟩
theorem fn_run {P : Program} {w : World} {K : PySem.W.Frag} {mg : Str → Option Value} {base : Heap} {qual xn : Str} {params : Arguments} {body : List Stmt} {scope : Scope} {dvs : List V} {dk : List (Str × V)} {f : Addr} {fd : FuncData} {N ps : List Str} {k : Nat} {y : ZS}
    (Fd : FunD K xn qual params body scope dvs dk f fd) (S : FnScope N ps scope)
    (hb : ∀ (cdv : Value) (A : Around) (outer : List Env) (s : Shared) (H : Hp) (E : XK) (W : WX), A.guards = some [] → Room k (A.deeper (envOfC qual scope s.heap.objs.size f cdv)) → Takes (cxOf (L2.CX P w) P w K mg base N qual scope f cdv A outer s H E) W →
      PassesOwn (model P w) (cxOf (L2.CX P w) P w K mg base N qual scope f cdv A outer s H E).A (cxOf (L2.CX P w) P w K mg base N qual scope f cdv A outer s H E).env (cxOf (L2.CX P w) P w K mg base N qual scope f cdv A outer s H E).xe →
      Zb (cxOf (L2.CX P w) P w K mg base N qual scope f cdv A outer s H E) W cl body y) :
    FnG P w K mg base (L2.CX P w) (k + 1) f fd ps (spZ cl K ps.length (zFun ps.length N.length y)) := by
  refine fnG_of Fd S (fun vs H Q E h => h.1) fun cdv A outer s H vs Q E hgd hr h => ?_
  obtain ⟨hl, F, ph, M, env, σ, as, h1, h2, S0, r, P0⟩ := h
  obtain ⟨t, p, q⟩ := (hb cdv A outer s H E (fun c d _ H' => E c d H') hgd hr (takes_of rfl rfl rfl rfl) (passes_of rfl)).ex
  refine ⟨t, p, q ⟨F.K, F.cl, nof F env σ, H, ph⟩ ph M (as ++ List.replicate (N.length - ps.length) .no) (L2.start N vs) H _ h1 h2 (sim_start S0 r (by rw [hl])) ?_⟩
  unfold zFun at P0
  split at P0
  · rename_i hl2
    have key : ∀ {ph' M' env' σ' H'}, Sim ⟨F.K, F.cl, nof F env σ, H, ph⟩ ph' M' env' σ' H' → Fws ⟨F.K, F.cl, nof F env σ, H, ph⟩ ph (as ++ List.replicate (N.length - ps.length) .no) (L2.start N vs) H ph' env' σ' H' →
        Sim F ph' M' env σ H' ∧ Fwd ph H ph' H' := fun {ph' M' env' σ' H'} S' f => by
      have g := start_fwd (F := F) (N0 := nof F env σ) f S'
      exact ⟨S0.back S' g rfl rfl fun a z => .inl z, g⟩
    cases hz : y (as ++ List.replicate (N.length - ps.length) .no) M with
    | nx env' M' =>
      rw [hz] at P0
      intro ph' σ' H' S' f
      obtain ⟨S1, g⟩ := key S' f
      exact P0 ph' H' .non S1 g .non
    | bk env' M' => rw [hz] at P0; exact P0.elim
    | ct env' M' => rw [hz] at P0; exact P0.elim
    | rt d M' =>
      rw [hz] at P0
      intro ph' env' σ' H' v S' f rv
      obtain ⟨S1, g⟩ := key S' f
      exact P0 ph' H' v S1 g (rv.mo ⟨fun a o e n => ⟨e, n⟩, fun _ _ e => e, rfl, rfl⟩)
    | exc c fs env' M' =>
      rw [hz] at P0
      intro ph' σ' H' dx ff C S' f e1 e2 nn rr
      obtain ⟨S1, g⟩ := key S' f
      refine P0 ph' H' dx ff C S1 g e1 e2 (fun z => nn (z.elim (fun z => .inl (.inl z)) .inr)) (RepP.mo ?_ rr)
      exact ⟨fun a o e n => ⟨e, fun z => n (z.elim (fun z => .inl (.inl z)) .inr)⟩, fun _ _ e => e, rfl, rfl⟩
    | fail => rw [hz] at P0; exact P0.elim
  · exact P0.elim
end
end Zy
set_option maxHeartbeats 2000000
namespace Zy
open PySem PySem.Spec PyProof.Rows L2

/-! repr -/
def rRepr (K : PySem.W.Frag) : List V → Hp → VK → Prop := fun xs H Q => ∃ x d, xs = [x] ∧ Dp K H x d ∧ d.showable = true ∧ d.hasDict = false ∧ d.depth ≤ 60 ∧ d.shown.length ≤ sizeLine ∧ Q (.str d.shown) H
section
variable {X : Cx} {W : WX} {cl : String → Option Addr} {a b e : Expr} {za zb : ZX} {pos pos' p p2 p3 : Pos}
theorem cr_repr (hgd : X.A.guards = some []) (hu : X.A.units + 64 < cLine) : CallR X (.builtin "repr") (rRepr X.K) := by
  intro pins s σ H xs us Q I r h
  obtain ⟨x, d, rfl, hd, h1, h2, h3, h4, q⟩ := h
  obtain ⟨u, rfl, ru⟩ := vals1 r
  obtain ⟨as, rr⟩ := Dp.reads I d x u hd ru
  have big : ∀ a, u = .ref a → wpAny (model X.prog X.w) X.A (call (.builtin "repr") [u]) (EP X pins σ Q) X.xe s := fun a e => by
    subst e
    exact repr_of_reads' rr h1 (PyData.noDict_hsm h2) hgd (by omega) (fun _ _ z => z) (fun h' t tk hk => ⟨.str d.shown, H, I.kept hk, ⟨_, rfl⟩, q⟩) h4
  cases rr with
  | none => exact PySem.P.repr_of_none ⟨.str _, H, I.tok _, ⟨_, rfl⟩, q⟩
  | bool b => exact PySem.P.repr_of_bool ⟨.str _, H, I.tok _, ⟨_, rfl⟩, q⟩
  | int i t => exact PySem.P.repr_of_int (by simpa [PyData.showable] using h1) ⟨.str _, H, I.tok _, ⟨_, rfl⟩, q⟩
  | str x t => exact PySem.P.repr_of_str ⟨.str _, H, I.tok _, ⟨_, rfl⟩, q⟩ h4
  | list _ _ _ _ => exact big _ rfl
  | tuple _ _ _ _ => exact big _ rfl
  | dict _ _ _ _ _ => exact big _ rfl
def reprD (d : D) : Option Str := match toPy d with
  | some p => if p.showable = true ∧ p.hasDict = false ∧ p.depth ≤ 60 ∧ p.shown.length ≤ sizeLine then some p.shown else none
  | none => none
def gRepr : GB := fun ds M => match ds with
  | [d] => match (deref M d).bind reprD with
    | some s => .ok (.str s) M
    | none => .fail
  | _ => .fail
theorem bz_repr : BfZ X W cl (rRepr X.K) gRepr := by
  intro F ph M env σ H Q xs ds h1 h2 S r P
  unfold gRepr at P
  split at P
  · rename_i d
    obtain ⟨x, rfl, rx⟩ := r.one
    cases e1 : deref M d with
    | none => rw [e1] at P; exact P.elim
    | some c =>
      rw [e1] at P
      have L := rx.look S e1
      rw [show (gh F ph env σ) = (gh F ph env σ) from rfl] at L
      cases e2 : toPy c with
      | none => simp only [Option.bind_some, reprD, e2] at P; exact P.elim
      | some q =>
        simp only [Option.bind_some, reprD, e2] at P
        by_cases hc : q.showable = true ∧ q.hasDict = false ∧ q.depth ≤ 60 ∧ q.shown.length ≤ sizeLine
        · rw [if_pos hc] at P
          have hd := L.dp e2
          rw [show (gh F ph env σ).K = X.K from h2] at hd
          exact ⟨x, q, rfl, hd, hc.1, hc.2.1, hc.2.2.1, hc.2.2.2, P.now S (.str _)⟩
        · rw [if_neg hc] at P; exact P.elim
  · exact P.elim
theorem ze_repr (hgd : X.A.guards = some []) (hu : X.A.units + 64 < cLine) (hg : Gl X "repr") (hm : X.mg "repr" = none) (ha : ZC X W cl a za) (n : nostar a = true) : ZE X W cl (.Call (.Name "repr" p) [a] [] pos) (zBf gRepr (zCons za zNil)) :=
  ze_bf (cr_repr hgd hu) bz_repr hg hm (by decide +kernel) (zk_cons ha zk_nil n) (he := n)
/-! isinstance against built-in types -/
def tyD : D → Option String
  | .non => some "NoneType"
  | .bl _ => some "bool"
  | .int _ => some "int"
  | .str _ => some "str"
  | .tup _ => some "tuple"
  | .lst _ => some "list"
  | .scr _ => some "list"
  | .dK _ => some "dict"
  | .dT _ => some "dict"
  | _ => none
def isTy (t T : String) : Bool := t == T || (t == "bool" && T == "int")
def okTy (T : String) : Bool := T == "int" || (T == "bool" || (T == "list" || (T == "tuple" || (T == "str" || T == "dict"))))
theorem kitB_ok {t T : String} {d : D} (h : tyD d = some t) (hT : okTy T = true) : kitB t T = some (isTy t T) := by
  have hT' : T = "int" ∨ T = "bool" ∨ T = "list" ∨ T = "tuple" ∨ T = "str" ∨ T = "dict" := by
    simpa [okTy] using hT
  have ht : t = "NoneType" ∨ t = "bool" ∨ t = "int" ∨ t = "str" ∨ t = "tuple" ∨ t = "list" ∨ t = "dict" := by
    cases d <;> simp [tyD] at h <;> subst h <;> simp
  rcases ht with rfl | rfl | rfl | rfl | rfl | rfl | rfl <;> rcases hT' with rfl | rfl | rfl | rfl | rfl | rfl <;> decide +kernel
theorem tyX_of {G : Gh} {H : Hp} {v : V} {d : D} {t : String} (L : Lk G H v d) (e : tyD d = some t) (hs : ∀ a ns, d = .scr ns → v = .ref a → TyX G.K H v (.type "list")) : TyX G.K H v (.type t) := by
  cases d with
  | non => cases e; rw [L.non_inv]; exact .base .non
  | bl b => cases e; rw [L.bl_inv]; exact .base (.bl _)
  | int i => cases e; rw [L.int_inv]; exact .base (.int _)
  | str s => cases e; rw [L.str_inv]; exact .base (.str _)
  | tup ds => cases e; obtain ⟨a, xs, rfl, h, _⟩ := L.tup_inv; exact .base (.tup h)
  | lst ds => cases e; obtain ⟨a, xs, rfl, h, _⟩ := L.lst_inv; exact .base (.lst h)
  | dK ds => cases e; obtain ⟨a, xs, rfl, h, _⟩ := L.dK_inv; exact .base (.dK h)
  | dT ds => cases e; obtain ⟨a, xs, rfl, h, _⟩ := L.dT_inv; exact .base (.dT h)
  | scr ns => cases e; obtain ⟨a, rfl, h⟩ := L.scr_inv; exact hs a ns rfl rfl
  | ins c fs => cases e
  | exn c fs => cases e
  | ref i => cases e
def isiD (Ts : List String) : D → Option Bool
  | .scr _ => none
  | d => (tyD d).map fun t => Ts.any (isTy t)
theorem isiD_ok {G : Gh} {H : Hp} {v : V} {d : D} {Ts : List String} {b : Bool} (L : Lk G H v d) (e : isiD Ts d = some b) : ∃ t, TyX G.K H v (.type t) ∧ tyD d = some t ∧ b = Ts.any (isTy t) := by
  have key : ∀ t, tyD d = some t → (∀ ns, d ≠ .scr ns) → TyX G.K H v (.type t) := fun t h n => tyX_of L h fun a ns z => absurd z (n ns)
  cases d with
  | scr ns => cases e
  | ref i => cases e
  | exn c fs => cases e
  | ins c fs => cases e
  | _ => cases e; exact ⟨_, key _ rfl (fun _ z => nomatch z), rfl, rfl⟩
def zIsi (Ts : List String) (z : ZX) : ZX := fun env M => (z env M).bind fun d M1 => match (deref M1 d).bind (isiD Ts) with
  | some b => .ok (.bl b) M1
  | none => .fail
theorem ze_isi {T : Str} {n : String} (hg : Gl X "isinstance") (hm : X.mg "isinstance" = none) (hgT : Gl X T) (hmT : X.mg T = none) (hvT : bootBuiltins T = some (.type n)) (hn : T ≠ "__name__") (hd : (T == ("__debug__" : Str)) = false) (hok : okTy n = true)
    (ha : ZC X W cl a za) (hst : nostar a = true) : ZE X W cl (.Call (.Name "isinstance" p) [a, .Name T p2] [] pos) (zIsi [n] za) := by
  obtain ⟨t, pa, q⟩ := ha.ex
  refine ⟨_, pe_callB call_isi hg hm (by decide +kernel) (pa_cons pa (pa_cons (pe_bltn (v := .ty n) hgT hmT hvT rfl hn hd) pa_nil) (star_ok hst)) (by decide) (by decide) (star_ok hst) (by rfl), fun F ph M env σ H Q h1 h2 S P => q F ph M env σ H _ h1 h2 S (P.step fun d M1 ph1 H1 v S1 f1 r1 P1 => ?_)⟩
  cases e1 : deref M1 d with
  | none => rw [e1] at P1; exact P1.elim
  | some c =>
    cases e2 : isiD [n] c with
    | none => simp only [e1, Option.bind_some, e2] at P1; exact P1.elim
    | some b =>
      simp only [e1, Option.bind_some, e2] at P1
      obtain ⟨ty, h3, h4, rfl⟩ := isiD_ok (r1.look S1 e1) e2
      rw [show (gh F ph1 env σ).K = X.K from h2] at h3
      exact ⟨v, .ty n, .type ty, .type n, _, rfl, .ty n, h3, kit_ty (kitB_ok h4 hok), P1.now S1 (by simp; exact .bl _)⟩
theorem ze_isi2 {T U : Str} {n m : String} {k : Nat} (hg : Gl X "isinstance") (hm : X.mg "isinstance" = none) (hgT : Gl X T) (hmT : X.mg T = none) (hvT : bootBuiltins T = some (.type n)) (hn : T ≠ "__name__") (hd : (T == ("__debug__" : Str)) = false) (hok : okTy n = true)
    (hgU : Gl X U) (hmU : X.mg U = none) (hvU : bootBuiltins U = some (.type m)) (hnU : U ≠ "__name__") (hdU : (U == ("__debug__" : Str)) = false) (hokU : okTy m = true)
    (ha : ZC X W cl a za) (hst : nostar a = true) : ZE X W cl (.Call (.Name "isinstance" p) [a, .Tuple [.Name T p2, .Name U p3] k pos'] [] pos) (zIsi [n, m] za) := by
  obtain ⟨t, pa, q⟩ := ha.ex
  refine ⟨_, pe_callB call_isiT hg hm (by decide +kernel) (pa_cons pa (pa_cons (pe_tup (pa_cons (pe_bltn (v := .ty n) hgT hmT hvT rfl hn hd) (pa_cons (pe_bltn (v := .ty m) hgU hmU hvU rfl hnU hdU) pa_nil))) pa_nil) (star_ok hst)) (by decide) (by decide) (star_ok hst) (by rfl), fun F ph M env σ H Q h1 h2 S P => q F ph M env σ H _ h1 h2 S (P.step fun d M1 ph1 H1 v S1 f1 r1 P1 => ?_)⟩
  cases e1 : deref M1 d with
  | none => rw [e1] at P1; exact P1.elim
  | some c =>
    cases e2 : isiD [n, m] c with
    | none => simp only [e1, Option.bind_some, e2] at P1; exact P1.elim
    | some b =>
      simp only [e1, Option.bind_some, e2] at P1
      refine ⟨by show 2 ≤ sizeLine; rw [sizeLine_eq]; decide, fun tp hp => ?_⟩
      have S2 := S1.alloc (o := .tup [.ty n, .ty m]) hp
      have f2 : Fwd ph1 H1 ph1 (upd H1 tp (.tup [.ty n, .ty m])) := Fwd.alloc hp
      obtain ⟨ty, h3, h4, rfl⟩ := isiD_ok ((r1.fwd S1 f2).look S2 e1) e2
      rw [show (gh F ph1 env σ).K = X.K from h2] at h3
      have kA : PySem.W.kitAny X.K (.type ty) [.type n, .type m] = some ([n, m].any (isTy ty)) := by
        have k1 := kit_ty (K := X.K) (kitB_ok h4 hok)
        have k2 := kit_ty (K := X.K) (kitB_ok h4 hokU)
        refine kitAny_cons k1 (fun e => kitAny_cons k2 (fun e' => ?_) fun e' => ?_) fun e => ?_
        · rw [kitAny_nil]; simp [e, e']
        · simp [e']
        · simp [e]
      exact ⟨v, tp, [.ty n, .ty m], .type ty, [.type n, .type m], _, rfl, upd_same, .cons (.ty n) (.cons (.ty m) .nil), h3, kA, Post.now (Post.fwd P1 f2) S2 (.bl _)⟩
end
end Zy

set_option maxHeartbeats 2000000
namespace Zy
open PySem PySem.Spec PyProof.Rows L2
/-! l.index(x) of whole numbers -/
section
variable {X : Cx} {W : WX} {cl : String → Option Addr} {o b : Expr} {za zb : ZX} {apos pos p : Pos}
def gIdx : G2 := fun d e M => match deref M d, e with
  | some (.lst ds), .int i => match intsD ds with
    | some ns => match ns.findIdx? (· == i) with
      | some j => .ok (.int (j : Nat)) M
      | none => .fail
    | none => .fail
  | _, _ => .fail
def zIdx (z y : ZX) : ZX := fun env M => (z env M).bind fun d M1 => match deref M1 d with
  | some (.lst _) => (y env M1).bind fun e M2 => gIdx d e M2
  | _ => .fail
theorem flat_ints : ∀ ns : List Int, (ns.map V.int).all flatV = true
  | [] => rfl
  | n :: ns => by
    rw [List.map_cons, List.all_cons, flat_ints ns]
    rfl
theorem ze_idx {x : Str} (ha : ZC X W cl (.Name x p) za) (hb : ZE X W cl b zb) (hn : nostar b = true) (hline : (apos.endLine == pos.line) = true) : ZE X W cl (.Call (.Attribute (.Name x p) "index" apos) [b] [] pos) (zIdx za zb) := by
  obtain ⟨ta, pa, qa⟩ := ha.ex
  obtain ⟨tb, pb, qb⟩ := hb.ex
  refine ⟨_, pe_bm PySem.F.plainAttrs_list PySem.F.slot_list_index PySem.F.type_list_index mt_index pa (pa_cons pb pa_nil (star_ok hn)) (hbase := by rfl) (hfew := ?_) (hline := hline) (hs := star_ok hn) (hplain := by rfl), fun F ph M env σ H Q h1 h2 S P => ?_⟩
  · rw [star_ok hn]; rfl
  · refine qa F ph M env σ H _ h1 h2 S (P.step fun d M1 ph1 H1 v S1 f1 r1 P1 => ?_)
    split at P1
    · rename_i ds0 e1
      obtain ⟨a, xs, rfl, ha, ra⟩ := (r1.look S1 e1).lst_inv
      refine ⟨.inl ⟨rfl, xs, SqL.of ha⟩, ?_⟩
      refine qb F ph1 M1 env σ H1 _ h1 h2 S1 (P1.step fun e M2 ph2 H2 w S2 f2 r2 P2 => ?_)
      unfold gIdx at P2
      split at P2
      · rename_i ds i e2 
        obtain ⟨a', ys, e3, ha', ra'⟩ := ((r1.fwd S1 f2).look S2 e2).lst_inv
        cases e3
        split at P2
        · rename_i ns hns
          split at P2
          · rename_i j hj
            have hy := ra'.ints hns
            subst hy
            cases r2
            obtain ⟨hlt, h3, h4⟩ := List.findIdx?_eq_some_iff_getElem.mp hj
            refine ⟨_, _, _, j, .int ns[j], rfl, rfl, SqL.of ha', rfl, flat_ints ns, ?_, ?_, fun m z' hm hz => ?_, P2.now S2 (.int _)⟩
            · rw [List.getElem?_map, List.getElem?_eq_getElem hlt]; rfl
            · exact h3
            · rw [List.getElem?_map, List.getElem?_eq_getElem (Nat.lt_trans hm hlt)] at hz
              cases hz
              have := h4 m hm
              simpa [eqV] using this
          · exact P2.elim
        · exact P2.elim
      · exact P2.elim
    · exact P1.elim
end
end Zy
set_option maxHeartbeats 2000000
namespace Zy
open PySem PySem.Spec PyProof.Rows L2

/-! references below n -/
mutual
def lowD (n : Nat) : D → Bool
  | .non | .bl _ | .int _ | .str _ | .scr _ => true
  | .tup ds => lowL n ds
  | .lst ds => lowL n ds
  | .dK ds => lowK n ds
  | .dT ds => lowT n ds
  | .ins _ ds => lowS n ds
  | .ref i => decide (i < n)
  | .exn _ ds => lowS n ds
def lowL (n : Nat) : List D → Bool
  | [] => true
  | d :: ds => lowD n d && lowL n ds
def lowK (n : Nat) : List (Key × D) → Bool
  | [] => true
  | (_, d) :: ds => lowD n d && lowK n ds
def lowT (n : Nat) : List (List Key × D) → Bool
  | [] => true
  | (_, d) :: ds => lowD n d && lowT n ds
def lowS (n : Nat) : List (Str × D) → Bool
  | [] => true
  | (_, d) :: ds => lowD n d && lowS n ds
end
theorem lowK_all {n : Nat} : ∀ {ds : List (Key × D)}, lowK n ds = true → ∀ q ∈ ds, lowD n q.2 = true
  | [], _, _, m => by simp at m
  | (k, d) :: ds, h, q, m => by
    simp only [lowK, Bool.and_eq_true] at h
    rcases List.mem_cons.mp m with rfl | m
    · exact h.1
    · exact lowK_all h.2 q m
theorem lowT_all {n : Nat} : ∀ {ds : List (List Key × D)}, lowT n ds = true → ∀ q ∈ ds, lowD n q.2 = true
  | [], _, _, m => by simp at m
  | (k, d) :: ds, h, q, m => by
    simp only [lowT, Bool.and_eq_true] at h
    rcases List.mem_cons.mp m with rfl | m
    · exact h.1
    · exact lowT_all h.2 q m
theorem lowS_all {n : Nat} : ∀ {ds : List (Str × D)}, lowS n ds = true → ∀ q ∈ ds, lowD n q.2 = true
  | [], _, _, m => by simp at m
  | (k, d) :: ds, h, q, m => by
    simp only [lowS, Bool.and_eq_true] at h
    rcases List.mem_cons.mp m with rfl | m
    · exact h.1
    · exact lowS_all h.2 q m
/-- the same cells below n -/
structure Lo (n : Nat) (G G' : Gh) : Prop where
  off : ∀ a, ¬ G.off a → ¬ G'.off a
  ph : ∀ (i : Nat) a, i < n → G.ph[i]? = some a → G'.ph[i]? = some a
  cl : G'.cl = G.cl
  K : G'.K = G.K
mutual
theorem Rep.low {n : Nat} {G G' : Gh} {H : Hp} (l : Lo n G G') : ∀ {v : V} {d : D}, Rep G H v d → lowD n d = true → Rep G' H v d
  | _, _, .non, _ => .non
  | _, _, .bl b, _ => .bl b
  | _, _, .int i, _ => .int i
  | _, _, .str s, _ => .str s
  | _, _, .tup h m r, e => .tup h (l.off _ m) (RepL.low l r (by simpa only [lowD] using e))
  | _, _, .lst h m r, e => .lst h (l.off _ m) (RepL.low l r (by simpa only [lowD] using e))
  | _, _, .dK h m r, e => .dK h (l.off _ m) (RepP.low l r (lowK_all (by simpa only [lowD] using e)))
  | _, _, .dT h m r, e => .dT h (l.off _ m) (RepP.low l r (lowT_all (by simpa only [lowD] using e)))
  | _, _, .ins h m hc r, e => .ins h (l.off _ m) (by rw [l.cl]; exact hc) (RepP.low l r (lowS_all (by simpa only [lowD] using e)))
  | _, _, .ref h, e => .ref (l.ph _ _ (by simpa only [lowD, decide_eq_true_eq] using e) h)
  | _, _, .scr h m, _ => .scr h (l.off _ m)
  | _, _, .scrK h, _ => .scrK (by rw [l.K]; exact h)
  | _, _, .exn ha hd hC hc h m r, e => .exn (by rw [l.cl]; exact ha) (by rw [l.cl]; exact hd) (by rw [l.cl]; exact hC) (by rw [l.cl]; exact hc) h (l.off _ m) (RepP.low l r (lowS_all (by simpa only [lowD] using e)))
theorem RepL.low {n : Nat} {G G' : Gh} {H : Hp} (l : Lo n G G') : ∀ {xs : List V} {ds : List D}, RepL G H xs ds → lowL n ds = true → RepL G' H xs ds
  | _, _, .nil, _ => .nil
  | _, _, .cons h t, e => by
    simp only [lowL, Bool.and_eq_true] at e
    exact .cons (Rep.low l h e.1) (RepL.low l t e.2)
theorem RepP.low {n : Nat} {G G' : Gh} {H : Hp} (l : Lo n G G') : ∀ {κ : Type} {xs : List (κ × V)} {ds : List (κ × D)}, RepP G H κ xs ds → (∀ q ∈ ds, lowD n q.2 = true) → RepP G' H κ xs ds
  | _, _, _, .nil, _ => .nil
  | _, _, _, .cons h t, e => .cons (Rep.low l h (e _ (List.mem_cons_self ..))) (RepP.low l t fun q m => e q (List.mem_cons_of_mem _ m))
end
theorem Cel.low {n : Nat} {G G' : Gh} {H : Hp} {a : Addr} (l : Lo n G G') {d : D} (e : lowD n d = true) : Cel G H a d → Cel G' H a d
  | .lst h r => .lst h (r.low l (by simpa only [lowD] using e))
  | .dK h r => .dK h (r.low l (lowK_all (by simpa only [lowD] using e)))
  | .dT h r => .dT h (r.low l (lowT_all (by simpa only [lowD] using e)))
  | .ins h hc r => .ins h (by rw [l.cl]; exact hc) (r.low l (lowS_all (by simpa only [lowD] using e)))

/-! the youngest cell leaves the store -/
section
variable {F : Fr} {ph ph3 : List Addr} {M M3 : Sto} {env : Ev} {σ : St} {H H1 H' : Hp} {x : Addr} {d : D}
theorem Sim.pop (S : Sim F ph M env σ H) (hx : H x = none) (k1 : ∀ a o, H a = some o → H1 a = some o) (f : Fwd (ph ++ [x]) H1 ph3 H') (S3 : Sim F ph3 M3 env σ H') (hl : M3.length = M.length + 1)
    (hlow : ∀ i e, i < M.length → M3[i]? = some e → lowD M.length e = true) (hd : M3[M.length]? = some d) (hd2 : lowD M.length d = true) :
    ph3 = ph ++ [x] ∧ Lo M.length (gh F ph3 env σ) (gh (F.plus x) ph env σ) ∧ Sim (F.plus x) ph (M3.take M.length) env σ H' ∧ Fwd ph H ph H' ∧ Cel (gh (F.plus x) ph env σ) H' x d := by
  obtain ⟨ps, e1, _⟩ := f.ext
  have hps : ps = [] := by
    have q := S3.ml
    have q2 := S.ml
    rw [hl, e1] at q
    simp only [List.length_append, List.length_singleton] at q
    exact List.length_eq_zero_iff.mp (by omega)
  subst hps
  rw [List.append_nil] at e1
  subst e1
  have hn : M.length = ph.length := S.ml
  have nx : x ∉ ph := fun z => by
    obtain ⟨o, e⟩ := S.phIn z
    rw [hx] at e
    cases e
  have ne : ∀ a o, H a = some o → a ≠ x := fun a o e z => by rw [z, hx] at e; cases e
  have kp : ∀ a o, H a = some o → a ∉ ph → H' a = some o := fun a o e n => f.keep a o (k1 a o e) fun z => by
    rcases List.mem_append.mp z with z | z
    · exact n z
    · exact ne a o e (by simpa using z)
  have th : ∀ a o, H a = some o → ∃ u, H' a = some u := fun a o e => f.there a o (k1 a o e)
  have lo : Lo M.length (gh F (ph ++ [x]) env σ) (gh (F.plus x) ph env σ) := by
    refine ⟨fun a n z => n ?_, fun i a hi e => ?_, rfl, rfl⟩
    · rcases z with z | z
      · rcases z with (z | z) | z
        · exact .inl (.inl z)
        · have z' : a = x := z
          exact .inr (by rw [z']; exact List.mem_append_right _ (List.mem_singleton.mpr rfl))
        · exact .inl (.inr z)
      · exact .inr (List.mem_append_left _ z)
    · have e' : (ph ++ [x])[i]? = some a := e
      rw [List.getElem?_append_left (by omega)] at e'
      exact e'
  have mo : Mo (gh F ph env σ) (gh (F.plus x) ph env σ) H H' := by
    refine ⟨fun a o e n => ⟨kp a o e fun z => n (.inr z), fun z => n ?_⟩, fun _ _ e => e, rfl, rfl⟩
    rcases z with z | z
    · rcases z with (z | z) | z
      · exact .inl (.inl z)
      · exact absurd z (ne a o e)
      · exact .inl (.inr z)
    · exact .inr z
  have at_ : (ph ++ [x])[M.length]? = some x := by rw [hn]; simp
  obtain ⟨xa, qa, ca⟩ := S3.sto _ d hd
  rw [at_] at qa
  cases qa
  refine ⟨rfl, lo, ⟨S.len, S.pre, S3.keep, fun a z => ?_, by rw [List.length_take, hl, S.ml]; omega, S.nd, fun i e he => ?_, fun i e he => ?_, fun i e he => ?_, S.ap, fun i e he => ?_⟩, ⟨⟨[], by simp, fun a h => by simp at h⟩, kp, th⟩, ca.low lo hd2⟩
  · rcases z with z | z
    · obtain ⟨q, n⟩ := S3.n0 a z
      exact ⟨q, fun z => n (List.mem_append_left _ z)⟩
    · have z' : a = x := z
      rw [z']
      exact ⟨ca.there, nx⟩
  · have hi : i < M.length := by
      have := (List.getElem?_eq_some_iff.mp he).1
      rw [List.length_take] at this
      omega
    rw [List.getElem?_take_of_lt hi] at he
    obtain ⟨a, q, c⟩ := S3.sto i e he
    refine ⟨a, lo.ph i a hi q, c.low lo (hlow i e hi he)⟩
  · obtain ⟨v, q, r⟩ := S.val i e he
    exact ⟨v, q, r.mo mo⟩
  · obtain ⟨a, q, c, h0, n, k⟩ := S.own i e he
    obtain ⟨o, ho⟩ := c.there
    exact ⟨a, q, c.mo mo fun o h => kp a o h n, h0, n, fun z => z.elim k fun z => ne a o ho z⟩
  · obtain ⟨a, q, n, c, o⟩ := S.brw i e he
    exact ⟨a, q, .inl n, c.mo mo fun o h => kp a o h (S.n0 a n).2, o⟩
end
def popR (n : Nat) (M : Sto) : Option (D × Sto) := match M[n]? with
  | some d => if M.length = n + 1 ∧ (M.take n).all (lowD n) = true ∧ lowD n d = true then some (d, M.take n) else none
  | none => none
theorem popR_inv {n : Nat} {M M4 : Sto} {d : D} (h : popR n M = some (d, M4)) : M[n]? = some d ∧ M.length = n + 1 ∧ (∀ i e, i < n → M[i]? = some e → lowD n e = true) ∧ lowD n d = true ∧ M4 = M.take n := by
  unfold popR at h
  split at h
  · rename_i e he
    split at h
    · rename_i hc
      cases h
      refine ⟨he, hc.1, fun i e hi q => List.all_eq_true.mp hc.2.1 e ?_, hc.2.2, rfl⟩
      refine List.mem_of_getElem? (i := i) ?_
      rw [List.getElem?_take_of_lt hi]
      exact q
    · cases h
  · cases h

/-! C(..): a new instance -/
def mkO (n : Nat) (r : Res D) : Res D := match r with
  | .ok .non M3 => (match popR n M3 with
    | some (d, M4) => .ok d M4
    | none => .fail)
  | .exc e fs M3 => (match popR n M3 with
    | some (_, M4) => if fs.all (fun q => lowD n q.2) = true then .exc e fs M4 else .fail
    | none => .fail)
  | _ => .fail
def zMake (c : String) (f : Sem1) (n m : Nat) (is : List Nat) (dd : List D) (zs zk : ZSl) : ZX := fun env M => (zs env M).bind fun as M1 => (zk env M1).bind fun bs M2 =>
  if as.length = n ∧ bs.length = m then match perm ((.val (.ref M2.length) :: as) ++ bs ++ dd.map .val) is with
    | some ys => mkO M2.length (f ys (M2 ++ [.ins c []]))
    | none => .fail else .fail
section
variable {X : Cx} {W : WX} {cl : String → Option Addr} {e : Expr} {es : List Expr} {kws : List Keyword} {zs zk : ZSl} {pos p : Pos} {x : Str} {k n : Nat} {f C : Addr} {fd : FuncData} {ps ks : List Str} {is : List Nat} {dd : List D} {g : Sem1} {c : String}
theorem under_guards {A : Around} {C : Addr} {us : List Value} {kw : List (Str × Value)} (h : A.guards = some []) : (A.under (.builtin "type.__call__" ⟨.ref C :: us, kw⟩)).guards = some [] := by
  first | exact h | (simpa [Around.under, Code.guards, Code.isGuard, guardIds, pushGuards] using h)
theorem makeG {dv : List V} {du : List Value} (Mk' : Mk X.K C f) (F : FnG X.prog X.w X.K X.mg X.base (L2.CX X.prog X.w) k f fd ps (spZ cl X.K ps.length g)) (hgd : X.A.guards = some []) (hr : Room (k + 1) X.A) (tk : Takes X W)
    (rdu : Vals dv du) (hB : ∀ (s : Shared) (us ws ys : List Value), X.K.In s.heap → us.length = n + 1 → ws.length = ks.length → perm (us ++ ws ++ du) is = some ys → BindsTo s fd ⟨us, ks.zip ws⟩ (ps.zip ys))
    {pins : List (Addr × Obj)} {σ : St} {Q : VK} {us ws : List Value} {s : Shared} {vs zv : List V} {H : Hp} (I : Inv X pins σ H s) (r1 : Vals vs us) (r2 : Vals zv ws) (l1 : vs.length = n) (l2 : zv.length = ks.length)
    (h : ∀ y dx, H y = none → H dx = none → dx ≠ y → ∃ ys, perm ((.ref y :: vs) ++ zv ++ dv) is = some ys ∧ spZ cl X.K ps.length g ys (upd (upd H dx (.own y)) y (.ins C dx [])) (fun v H3 => v = .non ∧ Q (.ref y) H3) (WE W σ)) :
    wpAny (model X.prog X.w) X.A (call (.ref C) us (ks.zip ws)) (EP X pins σ Q) X.xe s := by
  obtain ⟨ys, hp, hsp⟩ := h (s.heap.objs.size + 1) s.heap.objs.size (I.hok.fresh (Nat.le_succ _)) (I.hok.fresh (Nat.le_refl _)) (Nat.ne_of_lt (Nat.lt_succ_self _))
  have I2 := Inv.made (C := C) I
  have rs : Vals (V.ref (s.heap.objs.size + 1) :: vs) (Value.ref (s.heap.objs.size + 1) :: us) := .cons rfl r1
  have rr : Vals ((V.ref (s.heap.objs.size + 1) :: vs) ++ zv ++ dv) ((Value.ref (s.heap.objs.size + 1) :: us) ++ ws ++ du) := (rs.append r2).append rdu
  obtain ⟨yv, hp2, py⟩ := perm_vals (R := fun (a : Value) (b : V) => RelV b a) (fun i b e => rr.get e) hp
  have ry : Vals ys yv := by
    clear hp hp2 hsp
    induction py with
    | nil => exact .nil
    | cons h t ih => exact .cons h ih
  have lu : (Value.ref (s.heap.objs.size + 1) :: us).length = n + 1 := by rw [List.length_cons, ← r1.length, l1]
  have lw : ws.length = ks.length := by rw [← r2.length]; exact l2
  refine wpAny_call (make_map (f := f) I.kIn Mk'.makes Mk'.init (beq_iff_eq.mp Mk'.fn) (codeAny_mono (F.run _ X.stack _ _ ⟨Value.ref (s.heap.objs.size + 1) :: us, ks.zip ws⟩ yv ys _ (WE W σ) (under_guards hgd) (hr.make C us (ks.zip ws))
    (I2.env0.make C us (ks.zip ws)) (hB _ _ ws yv I2.kIn lu lw hp2) ry hsp) fun res s' hq => ?_))
  match res, hq with
  | .error e, hq => exact passAt tk σ pins _ _ e s' I2 hq
  | .ok (.ret u), hq =>
    obtain ⟨v, H', I3, rv, ev, q3⟩ := I2.after hq
    subst ev
    exact ⟨rv, ⟨V.ref (s.heap.objs.size + 1), H', I3, rfl, q3⟩⟩
theorem make_post {dv : List V} {F : Fr} {ph : List Addr} {M : Sto} {env : Ev} {σ : St} {H : Hp} {Q : VK} {as bs : List Sl} {vs zv : List V} (hC : cl c = some C) (h1 : F.cl = cl) (h2 : F.K = X.K) (S : Sim F ph M env σ H)
    (hlen : is.length = ps.length) (r1 : RsL (gh F ph env σ) H vs as) (r2 : RsL (gh F ph env σ) H zv bs) (rdv : ∀ G H, RepL G H dv dd)
    (P : PoF F W env σ ph H Q (if as.length = n ∧ bs.length = ks.length then match perm ((.val (.ref M.length) :: as) ++ bs ++ dd.map .val) is with
      | some ys => mkO M.length (g ys (M ++ [.ins c []]))
      | none => .fail else .fail)) :
    vs.length = n ∧ zv.length = ks.length ∧ ∀ y dx, H y = none → H dx = none → dx ≠ y → ∃ ys, perm ((.ref y :: vs) ++ zv ++ dv) is = some ys ∧ spZ cl X.K ps.length g ys (upd (upd H dx (.own y)) y (.ins C dx [])) (fun v H3 => v = .non ∧ Q (.ref y) H3) (WE W σ) := by
  split at P
  · rename_i hl
    refine ⟨by rw [r1.length]; exact hl.1, by rw [r2.length]; exact hl.2, fun y dx hy hdx ne => ?_⟩
    cases e1 : perm ((.val (.ref M.length) :: as) ++ bs ++ dd.map .val) is with
    | none => rw [e1] at P; exact P.elim
    | some ys =>
      simp only [e1] at P
      have S1 : Sim F ph M env σ (upd H dx (.own y)) := S.alloc hdx
      have hy1 : upd H dx (.own y) y = none := by rw [upd_ne (fun z => ne z.symm)]; exact hy
      obtain ⟨S2, m2⟩ := S1.lay (o := .ins C dx []) hy1
      have cel : Cel (gh (F.plus y) ph env σ) (upd (upd H dx (.own y)) y (.ins C dx [])) y (.ins c []) := .ins upd_same (by show F.cl c = _; rw [h1]; exact hC) .nil
      obtain ⟨S3, at_⟩ := S2.toSto cel (S.h0 hy) (n0_none S hy)
      have f3 : Fwd ph H (ph ++ [y]) (upd (upd H dx (.own y)) y (.ins C dx [])) := by
        have g1 : Fwd ph H ph (upd H dx (.own y)) := Fwd.alloc hdx
        have g2 : Fwd ph (upd H dx (.own y)) ph (upd (upd H dx (.own y)) y (.ins C dx [])) := Fwd.alloc hy1
        have g := g1.trans g2
        exact ⟨⟨[y], rfl, fun a z => by rw [List.mem_singleton.mp z]; exact hy⟩, g.keep, g.there⟩
      have k1 : ∀ a o, H a = some o → upd (upd H dx (.own y)) y (.ins C dx []) a = some o := fun a o e => by
        rw [upd_ne (ne_of_none e hy), upd_ne (ne_of_none e hdx)]
        exact e
      have hself : RlS (gh F (ph ++ [y]) env σ) (upd (upd H dx (.own y)) y (.ins C dx [])) (.ref y) (.val (.ref M.length)) := Rep.ref at_
      have rr : RsL (gh F (ph ++ [y]) env σ) (upd (upd H dx (.own y)) y (.ins C dx [])) ((.ref y :: vs) ++ zv ++ dv) ((.val (.ref M.length) :: as) ++ bs ++ dd.map .val) :=
        (RsL.app (.cons hself (r1.fwd S f3)) (r2.fwd S f3)).app (rsl_vals (rdv _ _))
      obtain ⟨yv, hp2, py⟩ := perm_vals (R := RlS (gh F (ph ++ [y]) env σ) (upd (upd H dx (.own y)) y (.ins C dx []))) (fun i b e => rr.at e) e1
      refine ⟨yv, hp2, by rw [perm_len hp2, hlen], F, ph ++ [y], M ++ [.ins c []], env, σ, ys, h1, h2, S3, RsL.paired py, ?_⟩
      cases hg : g ys (M ++ [.ins c []]) with
      | fail => rw [hg] at P; exact P
      | ok d M3 =>
        rw [hg] at P
        cases d with
        | non =>
          simp only [mkO] at P
          cases e2 : popR M.length M3 with
          | none => rw [e2] at P; exact P.elim
          | some q =>
            obtain ⟨d, M4⟩ := q
            rw [e2] at P
            obtain ⟨a1, a2, a3, a4, rfl⟩ := popR_inv e2
            intro ph' H' v S' f r
            cases r
            obtain ⟨rfl, lo, S5, f5, c5⟩ := Sim.pop S hy k1 f S' a2 a3 a1 a4
            exact ⟨rfl, P ph H' y S5 f5 c5 hy⟩
        | _ => exact P.elim
      | exc ec fs M3 =>
        rw [hg] at P
        simp only [mkO] at P
        cases e2 : popR M.length M3 with
        | none => rw [e2] at P; exact P.elim
        | some q =>
          obtain ⟨d, M4⟩ := q
          rw [e2] at P
          simp only at P
          obtain ⟨a1, a2, a3, a4, rfl⟩ := popR_inv e2
          split at P
          · rename_i hfs
            intro ph' H' dx' ff C' S' f hc hx nn rp
            obtain ⟨rfl, lo, S5, f5, c5⟩ := Sim.pop S hy k1 f S' a2 a3 a1 a4
            obtain ⟨S6, m6⟩ := S5.unplus (S.h0 hy)
            refine P ph H' dx' ff C' S6 f5 hc hx (fun z => nn (z.elim .inl fun m => .inr (List.mem_append_left _ m))) (RepP.mo m6 (RepP.low lo rp fun q m => ?_))
            exact List.all_eq_true.mp hfs q m
          · exact P.elim
  · exact P.elim
theorem zf_make (Mk' : Mk X.K C f) (F : FnG X.prog X.w X.K X.mg X.base (L2.CX X.prog X.w) k f fd ps (spZ cl X.K ps.length g)) (hgd : X.A.guards = some []) (hr : Room (k + 1) X.A) (tk : Takes X W)
    (hg : Gl X x) (hm : X.mg x = some (.ref C)) (hC : cl c = some C) (B : Pat X.K fd ps (n + 1) ks is dd) (hdb : (x == ("__debug__" : Str)) = false) (ha : ZSa X W cl (e :: es) zs) (hkw : ZSk X W cl kws zk)
    (hst : nostar e = true) (hall : (backToKw pos (keywordEach kws X.env)).all (·.1.isSome) = true) (hks : (backToKw pos (keywordEach kws X.env)).filterMap (·.1) = ks)
    (hpl : ((backTo pos (starEach (e :: es) X.env)).any (·.1) || (backToKw pos (keywordEach kws X.env)).any (·.1.isNone)) = false) :
    ZF X W cl (.Call (.Name x p) (e :: es) kws pos) (zMake c g n ks.length is dd zs zk) := by
  obtain ⟨t, pa, qa⟩ := ha.ex
  obtain ⟨tk', pk, qk⟩ := hkw.ex
  obtain ⟨dv, du, rdu, rdv, hB⟩ := B.ex
  refine ⟨fun σ H Q => t σ H fun vs H1 => tk' σ H1 fun zs H2 => vs.length = n ∧ zs.length = ks.length ∧ ∀ y dx, H2 y = none → H2 dx = none → dx ≠ y → ∃ ys, perm ((.ref y :: vs) ++ zs ++ dv) is = some ys ∧
    spZ cl X.K ps.length g ys (upd (upd H2 dx (.own y)) y (.ins C dx [])) (fun v H3 => v = .non ∧ Q (.ref y) H3) (WE W σ), ⟨fun pins s σ H Q I h => ?_⟩, fun F' ph M env σ H Q h1 h2 S P => ?_⟩
  · refine wpAny_Call_Name_kw (ld_glob I hg hm ?_ hdb)
    refine PySem.W.callWith_KW (h₀ := X.base) I.ok.mod.kin Mk'.kp hall (thn (pa.run pos pins s σ H _ I h) fun us s1 ⟨vs, H1, I1, r1, q⟩ => ?_) hpl (star_ok hst)
    refine thn (pk.run pos pins s1 σ H1 _ I1 q) fun ws s2 ⟨zs, H2, I2, r2, l1, l2, q2⟩ => ⟨I2.kIn, ?_⟩
    rw [hks]
    exact makeG Mk' F hgd hr tk rdu hB I2 r1 r2 l1 l2 q2
  · refine qa F' ph M env σ H _ h1 h2 S (PoF.step P fun as M1 ph1 H1 vs S1 f1 r1 P1 => ?_)
    refine qk F' ph1 M1 env σ H1 _ h1 h2 S1 (PoF.step P1 fun bs M2 ph2 H2 zv S2 f2 r2 P2 => ?_)
    exact make_post hC h1 h2 S2 B.len (r1.fwd S1 f2) r2 rdv P2
theorem zf_make0 (Mk' : Mk X.K C f) (F : FnG X.prog X.w X.K X.mg X.base (L2.CX X.prog X.w) k f fd ps (spZ cl X.K ps.length g)) (hgd : X.A.guards = some []) (hr : Room (k + 1) X.A) (tk : Takes X W)
    (hg : Gl X x) (hm : X.mg x = some (.ref C)) (hC : cl c = some C) (B : Pat X.K fd ps 1 ks is dd) (hdb : (x == ("__debug__" : Str)) = false) (hkw : ZSk X W cl kws zk)
    (hall : (backToKw pos (keywordEach kws X.env)).all (·.1.isSome) = true) (hks : (backToKw pos (keywordEach kws X.env)).filterMap (·.1) = ks)
    (hpl : ((backTo pos (starEach [] X.env)).any (·.1) || (backToKw pos (keywordEach kws X.env)).any (·.1.isNone)) = false) :
    ZF X W cl (.Call (.Name x p) [] kws pos) (zMake c g 0 ks.length is dd sNil zk) := by
  obtain ⟨tk', pk, qk⟩ := hkw.ex
  obtain ⟨dv, du, rdu, rdv, hB⟩ := B.ex
  refine ⟨fun σ H Q => tk' σ H fun zs H2 => ([] : List V).length = 0 ∧ zs.length = ks.length ∧ ∀ y dx, H2 y = none → H2 dx = none → dx ≠ y → ∃ ys, perm ((.ref y :: []) ++ zs ++ dv) is = some ys ∧
    spZ cl X.K ps.length g ys (upd (upd H2 dx (.own y)) y (.ins C dx [])) (fun v H3 => v = .non ∧ Q (.ref y) H3) (WE W σ), ⟨fun pins s σ H Q I h => ?_⟩, fun F' ph M env σ H Q h1 h2 S P => ?_⟩
  · refine wpAny_Call_Name_kw (ld_glob I hg hm ?_ hdb)
    refine PySem.W.callWith_KW0 (h₀ := X.base) I.ok.mod.kin Mk'.kp hall ?_ hpl
    refine thn (pk.run pos pins s σ H _ I h) fun ws s2 ⟨zs, H2, I2, r2, l1, l2, q2⟩ => ⟨I2.kIn, ?_⟩
    rw [hks]
    exact makeG (us := []) (vs := []) Mk' F hgd hr tk rdu hB I2 .nil r2 l1 l2 q2
  · refine qk F' ph M env σ H _ h1 h2 S (PoF.step (show PoF F' W env σ ph H Q ((zk env M).bind _) from P) fun bs M2 ph2 H2 zv S2 f2 r2 P2 => ?_)
    exact make_post (as := []) (vs := []) hC h1 h2 S2 B.len .nil r2 rdv P2
end
end Zy
set_option maxHeartbeats 2000000
namespace Zy
open PySem PySem.Spec PyProof.Rows L2

/-! attributes of instances -/
theorem RepP.look {G : Gh} {H : Hp} {f : Str} {d : D} : ∀ {xs : List (Str × V)} {ds : List (Str × D)}, RepP G H Str xs ds → ds.lookup f = some d → ∃ v, xs.lookup f = some v ∧ Rep G H v d
  | _, _, .nil, e => by cases e
  | _, _, .cons (k := k) (x := x) (d := d') h t, e => by
    by_cases q : f == k
    · rw [List.lookup_cons, q] at e ⊢
      cases e
      exact ⟨_, rfl, h⟩
    · have q' : (f == k) = false := by simpa using q
      rw [List.lookup_cons, q'] at e ⊢
      exact RepP.look t e
theorem RepP.none {G : Gh} {H : Hp} {f : Str} : ∀ {xs : List (Str × V)} {ds : List (Str × D)}, RepP G H Str xs ds → ds.lookup f = none → xs.lookup f = none
  | _, _, .nil, _ => rfl
  | _, _, .cons (k := k) h t, e => by
    by_cases q : f == k
    · rw [List.lookup_cons, q] at e
      cases e
    · have q' : (f == k) = false := by simpa using q
      rw [List.lookup_cons, q'] at e ⊢
      exact RepP.none t e
def putD (f : Str) (v : D) : List (Str × D) → List (Str × D)
  | [] => [(f, v)]
  | (g, x) :: r => if g = f then (g, v) :: r else (g, x) :: putD f v r
theorem RepP.put {G : Gh} {H : Hp} {f : Str} {v : V} {d : D} (h0 : Rep G H v d) : ∀ {xs : List (Str × V)} {ds : List (Str × D)}, RepP G H Str xs ds → RepP G H Str (putF f v xs) (putD f d ds)
  | _, _, .nil => .cons h0 .nil
  | _, _, .cons (k := k) h t => by
    unfold putF putD
    by_cases q : k = f
    · rw [if_pos q, if_pos q]
      exact .cons h0 t
    · rw [if_neg q, if_neg q]
      exact .cons h (RepP.put h0 t)
/-- what is known of the classes: where an attribute may be read -/
abbrev Ats := String → Str → Bool
def AtsOk (K : PySem.W.Frag) (cl : String → Option Addr) (ok : Ats) : Prop := ∀ c f C, ok c f = true → cl c = some C → Cls K C ∧ NoAttr K C f
def zAt (ok : Ats) (f : Str) (z : ZX) : ZX := fun env M => (z env M).bind fun d M1 => match deref M1 d with
  | some (.ins c fs) => if ok c f = true then (match fs.lookup f with
    | some v => .ok v M1
    | none => .fail) else .fail
  | _ => .fail
section
variable {X : Cx} {W : WX} {cl : String → Option Addr} {a b e : Expr} {z za : ZX} {pos pos' p p1 p2 : Pos} {f x : Str} {i : Nat} {ok : Ats}
theorem ze_at (ho : AtsOk X.K cl ok) (he : ZC X W cl a z) (hb : attributeBase a f X.env (eval a X.env) = eval a X.env) : ZE X W cl (.Attribute a f pos) (zAt ok f z) := by
  obtain ⟨t, pa, q⟩ := he.ex
  refine ⟨_, pe_fld pa hb, fun F ph M env σ H Q h1 h2 S P => q F ph M env σ H _ h1 h2 S (P.step fun d M1 ph1 H1 w S1 f1 r1 P1 => ?_)⟩
  split at P1
  · rename_i c fs e1
    split at P1
    · rename_i hok
      split at P1
      · rename_i v hv
        obtain ⟨y, C, dx, ff, rfl, hy, hc, r⟩ := (r1.look S1 e1).ins_inv
        have hc' : cl c = some C := by rw [← h1]; exact hc
        obtain ⟨k1, k2⟩ := ho c f C hok hc'
        obtain ⟨u, q1, q2⟩ := r.look hv
        exact ⟨y, C, dx, ff, u, rfl, hy, k1, k2, q1, P1.now S1 q2⟩
      · exact P1.elim
    · exact P1.elim
  · exact P1.elim
/-- x.f = e, x an instance in the store or one's own -/
def putA (ok : Ats) (env : Ev) (M : Sto) (i : Nat) (f : Str) (v : D) : Out := match getPl env M i with
  | some (.ins c fs) => if ok c f = true ∧ fs.length < 1000 then .nx (setPl env M i (.ins c (putD f v fs))).1 (setPl env M i (.ins c (putD f v fs))).2 else .fail
  | _ => .fail
def zPutA (ok : Ats) (i : Nat) (f : Str) (z : ZX) : ZS := fun env M => (z env M).toS env fun v M1 => putA ok env M1 i f v
theorem putA_run (ho : AtsOk X.K cl ok) {F : Fr} {ph : List Addr} {M : Sto} {env : Ev} {σ : St} {H : Hp} {B : Ends} {v : D} {vv : V} (h1 : F.cl = cl) (S : Sim F ph M env σ H) (rv : Rep (gh F ph env σ) H vv v) (P : PoS F W env σ ph H B (putA ok env M i f v)) :
    ∃ y C dx fs, σ[i]? = some (some (.ref y)) ∧ H y = some (.ins C dx fs) ∧ Cls X.K C ∧ NoAttr X.K C f ∧ fs.length < 1000 ∧ B.nx σ (upd H y (.ins C dx (putF f vv fs))) := by
  unfold putA at P
  split at P
  · rename_i c fs e1
    split at P
    · rename_i hok
      obtain ⟨y, q, ce, off, wr⟩ := S.place e1
      cases ce with
      | @ins C dx _ ff _ h hc r =>
        have hc' : cl c = some C := by rw [← h1]; exact hc
        obtain ⟨k1, k2⟩ := ho c f C hok.1 hc'
        have r2 : RepP (gh F ph env σ) (upd H y (.ins C dx (putF f vv ff))) Str (putF f vv ff) (putD f v fs) := RepP.mo (mo_wr off) (r.put rv)
        obtain ⟨S', f'⟩ := wr (.ins C dx (putF f vv ff)) (.ins c (putD f v fs)) (.ins upd_same hc r2)
        exact ⟨y, C, dx, ff, q, h, k1, k2, by rw [r.length]; exact hok.2, P.nxt S' f'⟩
    · exact P.elim
  · exact P.elim
theorem zs_putA (ho : AtsOk X.K cl ok) (hN : X.N[i]? = some x) (hv : Vis X.env.scope x) (hd : (x == ("__debug__" : Str)) = false) (hcd : (x == ("__classdict__" : Str)) = false) (h : ZE X W cl e z)
    (hs : swapsWith e (some (.Attribute (.Name x p1) f p2)) pos.line X.env = pure false) : Zs X W cl (.Assign [.Attribute (.Name x p1) f p2] e pos) (zPutA ok i f z) := by
  obtain ⟨t, pa, q⟩ := h.ex
  refine ⟨_, ps_fld (pe_var hN hv hd hcd) pa hs, fun F ph M env σ H B h1 h2 S P => q F ph M env σ H _ h1 h2 S (PoS.step P fun v M1 ph1 H1 vv S1 f1 r1 P1 => ?_)⟩
  obtain ⟨y, C, dx, fs, q1, q2, k1, k2, k3, k4⟩ := putA_run ho h1 S1 r1 P1
  exact ⟨.ref y, q1, y, C, dx, fs, rfl, q2, k1, k2, k3, k4⟩

/-! len(x): an own __len__ too -/
def slD2 (M : Sto) : Sl → Option D
  | .val d => deref M d
  | .bor d => some d
  | _ => none
def slV : Sl → D
  | .val d => d
  | .bor d => d
  | _ => .non
theorem RlS.toC {G : Gh} {H : Hp} {v : V} : ∀ {s : Sl}, RlS G H v s → RlC G H v (slV s)
  | .val _, h => .inl h
  | .bor _, h => by
    obtain ⟨a, e, c, n, m⟩ := h
    exact .inr ⟨a, e, c, n, m⟩
  | .no, h => h.elim
  | .own _, h => h.elim
abbrev Lens := String → Option Sem1
def zLen (lf : Lens) (z : ZS1) : ZX := fun env M => (z env M).bind fun s M1 => match deref M1 (slV s) with
  | some (.ins c _) => (match lf c with
    | some g => (g [s] M1).bind fun r M2 => match r with
      | .int n => if 0 ≤ n ∧ n < 2 ^ 63 then .ok (.int n) M2 else .fail
      | _ => .fail
    | none => .fail)
  | _ => gLen [slV s] M1
/-- a method, by its promise -/
def MethOk (X : Cx) (cl : String → Option Addr) (k : Nat) (m : Str) (c : String) (g : Sem1) : Prop := ∀ C, cl c = some C → ∃ f fd ps, PySem.W.findIn X.K (.ref C) m = some (some (.ref f)) ∧ PySem.W.isFn X.K (.ref f) = true ∧ Pat X.K fd ps 1 [] [0] [] ∧
  FnG X.prog X.w X.K X.mg X.base (L2.CX X.prog X.w) k f fd ps (spZ cl X.K ps.length g)
theorem in1_guards {A : Around} (h : A.guards = some []) : A.in1.guards = some [] := h
theorem run_one {k : Nat} {f : Addr} {fd : FuncData} {ps : List Str} {g : Sem1} {A : Around} {E : St → XK} (F : FnG X.prog X.w X.K X.mg X.base (L2.CX X.prog X.w) k f fd ps (spZ cl X.K ps.length g)) (B : Pat X.K fd ps 1 [] [0] []) (hgd : A.guards = some []) (hr : Room k A)
    {pins : List (Addr × Obj)} {σ : St} {H : Hp} {s : Shared} {Q : VK} {y : Addr} (e0 : Env0 X.prog X.w X.K X.mg X.base A X.stack s H) (hx : PassesAt (L2.CX X.prog X.w) X σ (E σ)) (I : Inv X pins σ H s) (h : spZ cl X.K ps.length g [.ref y] H Q (E σ)) :
    wpAny (model X.prog X.w) A (call (.ref f) [.ref y]) (EP X pins σ Q) X.xe s := by
  obtain ⟨dv, du, rdu, rdv, hB⟩ := B.ex
  have hdu : du = [] := by
    have e : dv = [] := by
      cases rdv ⟨X.K, cl, fun _ => False, []⟩ H
      rfl
    subst e
    cases rdu
    rfl
  subst hdu
  have hb := hB s [.ref y] [] [.ref y] I.kIn rfl rfl rfl
  refine wpAny_call (codeAny_mono (F.run A X.stack s H ⟨[.ref y], []⟩ [.ref y] [.ref y] Q (E σ) hgd hr e0 hb (.cons rfl .nil) h) fun res s' hq => ?_)
  match res, hq with
  | .error er, hq => exact hx pins H s er s' I hq
  | .ok (.ret u), hq => exact I.after hq
theorem len_ins {k : Nat} {f : Addr} {fd : FuncData} {ps : List Str} {g : Sem1} (F : FnG X.prog X.w X.K X.mg X.base (L2.CX X.prog X.w) k f fd ps (spZ cl X.K ps.length g)) (B : Pat X.K fd ps 1 [] [0] []) (hgd : X.A.guards = some []) (hr : Room (k + 1) X.A) (tk : Takes X W)
    {pins : List (Addr × Obj)} {σ : St} {H : Hp} {s : Shared} {Q : VK} {y C dx : Addr} {fs : List (Str × V)} (hs : PySem.W.findIn X.K (.ref C) "__len__" = some (some (.ref f))) (hf : PySem.W.isFn X.K (.ref f) = true) (I : Inv X pins σ H s) (hy : H y = some (.ins C dx fs))
    (h : spZ cl X.K ps.length g [.ref y] H (fun v H' => ∃ n, v = .int n ∧ 0 ≤ n ∧ n < 2 ^ 63 ∧ Q (.int n) H') (WE W σ)) :
    wpAny (model X.prog X.w) X.A (call (.builtin "len") [.ref y]) (EP X pins σ Q) X.xe s := by
  obtain ⟨mA, O, _, _, _, _⟩ := ins_get I.hok hy
  obtain ⟨od, J, _⟩ := O.look
  refine Calls.call_function_entry kind_len plain_len entry_len (args_len1 _) ?_
  unfold Builtin.«len»
  refine wpAny_bind (m := oneArg "len" _) (wpAny_pure ?_)
  refine wpAny_bind (m := callSpecial? (.ref y) (Str.ofString "__len__")) (PySem.W.special_fn I.kIn J hs (beq_iff_eq.mp hf) (wpAny_mono (run_one (E := WE W) F B (in1_guards hgd) hr.in1 I.env0.in1 (passAt tk σ) I h) (fun r s' hq => ?_) fun _ _ z => z))
  obtain ⟨v, H', I', rv, n, rfl, n0, n1, q⟩ := hq
  obtain ⟨t, rfl⟩ := rv
  refine wpAny_bind (wpAny_holding (wpAny_pure ?_))
  refine wpAny_bind (wpAny_letGo ?_)
  show wpAny _ _ (if n < 0 then _ else _) _ _ _
  rw [if_neg (by omega)]
  show wpAny _ _ (if n ≥ 2 ^ 63 then _ else _) _ _ _
  rw [if_neg (by omega)]
  exact wpAny_bind (wpAny_mkInt (wpAny_pure ⟨_, rfl, .int n, H', I'.tok _, ⟨_, rfl⟩, q⟩))
/-- what is wanted of the value whose length is asked -/
def LenG (X : Cx) (W : WX) (cl : String → Option Addr) (k : Nat) (σ : St) (Q : VK) (v : V) (H1 : Hp) : Prop := (∃ y C dx fs f fd ps g, v = .ref y ∧ H1 y = some (.ins C dx fs) ∧ PySem.W.findIn X.K (.ref C) "__len__" = some (some (.ref f)) ∧ PySem.W.isFn X.K (.ref f) = true ∧ Pat X.K fd ps 1 [] [0] [] ∧
      FnG X.prog X.w X.K X.mg X.base (L2.CX X.prog X.w) k f fd ps (spZ cl X.K ps.length g) ∧ spZ cl X.K ps.length g [.ref y] H1 (fun v H' => ∃ n, v = .int n ∧ 0 ≤ n ∧ n < 2 ^ 63 ∧ Q (.int n) H') (WE W σ)) ∨ ∃ n, LenD X.K v H1 n ∧ Q (.int n) H1
def One (Q : VK) : List V → Hp → Prop := fun vs H => match vs with
  | [v] => Q v H
  | _ => False
theorem gLen_run {F : Fr} {ph : List Addr} {M : Sto} {env : Ev} {σ : St} {H : Hp} {Q : VK} {x : V} {d : D} (h2 : F.K = X.K) (h1 : F.cl = cl) (S : Sim F ph M env σ H) (r : RlC (gh F ph env σ) H x d) (P : PoE F W env σ ph H Q (gLen [d] M)) : ∃ n, LenD X.K x H n ∧ Q (.int n) H := by
  obtain ⟨x', n, e, l, q⟩ := bz_len F ph M env σ H Q [x] [d] h1 h2 S (.cons r .nil) P
  cases e
  exact ⟨n, l, q⟩
theorem ze_lenO {k : Nat} {lf : Lens} {z1 : ZS1} (hlf : ∀ c g, lf c = some g → MethOk X cl k "__len__" c g) (hgd : X.A.guards = some []) (hr : Room (k + 1) X.A) (tk : Takes X W) (hg : Gl X "len") (hm : X.mg "len" = none) (ha : ZS1j X W cl a z1) (n : nostar a = true) :
    ZE X W cl (.Call (.Name "len" p) [a] [] pos) (zLen lf z1) := by
  obtain ⟨t, pa, q⟩ := ha.ex
  refine ⟨fun σ H Q => t σ H (LenG X W cl k σ Q), ⟨fun pins s σ H Q I h => ?_⟩, fun F ph M env σ H Q h1 h2 S P => q F ph M env σ H _ h1 h2 S (P.step fun sl M1 ph1 H1 w S1 f1 r1 P1 => ?_)⟩
  · refine wpAny_Call_Name_kw (ld_blt I hg hm PySem.boot_len ?_ (by decide) (by decide))
    refine PyProof.Rows.callWith_builtin1 (thn ((pa_cons pa pa_nil (star_ok n)).run pos pins s σ H (One (LenG X W cl k σ Q)) I h) fun us s1 ⟨vs, H1, I1, r1, q1⟩ => ?_) (star_ok n) (by rfl)
    match vs, r1, q1 with
    | [v], r1, q1 =>
      obtain ⟨u, rfl, ru⟩ := vals1 r1
      have q1' : LenG X W cl k σ Q v H1 := q1
      rcases q1' with ⟨y, C, dx, fs, f, fd, ps, g, rfl, hy, hs, hf, B, F, hsp⟩ | ⟨n, hn, hq⟩
      · obtain rfl : u = Value.ref y := ru
        exact len_ins F B hgd hr tk hs hf I1 hy hsp
      · exact call_lenD pins s1 σ H1 [v] [u] Q I1 r1 ⟨v, n, rfl, hn, hq⟩
    | [], _, q1 => exact False.elim q1
    | _ :: _ :: _, _, q1 => exact False.elim q1
  · have rc := r1.toC
    cases e1 : deref M1 (slV sl) with
    | none =>
      simp only [e1] at P1
      exact .inr (gLen_run h2 h1 S1 rc P1)
    | some c =>
      simp only [e1] at P1
      cases c with
      | ins c fs =>
        simp only at P1
        cases e2 : lf c with
        | none => rw [e2] at P1; exact P1.elim
        | some g =>
          rw [e2] at P1
          obtain ⟨y, C, dx, ff, rfl, hy, hc, r⟩ := (rc.look S1 e1).ins_inv
          have hc' : cl c = some C := by rw [← h1]; exact hc
          obtain ⟨f, fd, ps, k1, k2, B, FF⟩ := hlf c g e2 C hc'
          refine .inl ⟨y, C, dx, ff, f, fd, ps, g, rfl, hy, k1, k2, B, FF, by rw [← B.len]; rfl, F, ph1, M1, env, σ, [sl], h1, h2, S1, .cons r1 .nil, ?_⟩
          refine (Post.step P1 fun r2 M2 ph2 H2 w2 S2 f2 rr P2 => ?_)
          split at P2
          · rename_i n
            split at P2
            · rename_i hn
              cases rr
              exact ⟨n, rfl, hn.1, hn.2, P2.now S2 (.int _)⟩
            · exact P2.elim
          · exact P2.elim
      | _ => exact .inr (gLen_run h2 h1 S1 rc P1)

/-! x.f, a property -/
/-- where a property stands, and what its getter answers (it raises nothing) -/
def PropOk (X : Cx) (cl : String → Option Addr) (k : Nat) (m : Str) (c : String) (g : Sem1) : Prop := ∀ C, cl c = some C → ∃ p f fd ps, Cls X.K C ∧ PropOf X.K C m p f ∧ Pat X.K fd ps 1 [] [0] [] ∧
  FnG X.prog X.w X.K X.mg X.base (L2.CX X.prog X.w) k f fd ps (spZ cl X.K ps.length g)
def noX : Res D → Res D
  | .ok d M => .ok d M
  | _ => .fail
def zProp (pf : Lens) (z : ZS1) : ZX := fun env M => (z env M).bind fun s M1 => match deref M1 (slV s) with
  | some (.ins c _) => (match pf c with
    | some g => noX (g [s] M1)
    | none => .fail)
  | _ => .fail
theorem prop_run {k : Nat} {q f C dx : Addr} {fd : FuncData} {ps : List Str} {g : Sem1} {fs : List (Str × V)} {m : Str} (c : Cls X.K C) (hp : PropOf X.K C m q f) (F : FnG X.prog X.w X.K X.mg X.base (L2.CX X.prog X.w) k f fd ps (spZ cl X.K ps.length g)) (B : Pat X.K fd ps 1 [] [0] [])
    (hgd : X.A.guards = some []) (hr : Room (k + 1) X.A) {pins : List (Addr × Obj)} {σ : St} {H : Hp} {s : Shared} {Q : VK} {y : Addr} {b : Bool} {E' : Value → Shared → Prop} (I : Inv X pins σ H s) (hy : H y = some (.ins C dx fs)) (h : spZ cl X.K ps.length g [.ref y] H Q fun _ _ _ => False) :
    wpAny (model X.prog X.w) X.A (getAttr (.ref y) m b) (EP X pins σ Q) E' s := by
  obtain ⟨mA, O, _, _, _, _⟩ := ins_get I.hok hy
  obtain ⟨od, J, _⟩ := O.look
  obtain ⟨rest, hrec⟩ := hp.rec_
  have I1 := I.tok (s.toks + 1)
  obtain ⟨dv, du, rdu, rdv, hB⟩ := B.ex
  have hdu : du = [] := by
    have e : dv = [] := by
      cases rdv ⟨X.K, cl, fun _ => False, []⟩ H
      rfl
    subst e
    cases rdu
    rfl
  subst hdu
  have hb := hB { s with toks := s.toks + 1 } [.ref y] [] [.ref y] I1.kIn rfl rfl rfl
  have hc : (PySem.W.clsIn X.K C).isSome = true := by
    obtain ⟨cd, hc, _⟩ := PySem.W.any_some c.hd
    rw [hc]
    rfl
  refine PySem.W.get_bind I.kIn J (PySem.W.plainGet_of (c.get m)).1 (PySem.W.findObj_data hc hp.at_ hp.get hp.tak) (PySem.W.plainGet_of (c.get m)).2 (wpAny_call (PySem.W.prop_get (s := { s with toks := s.toks + 1 }) I.kIn hrec ?_))
  refine codeAny_mono (F.run X.A.in1 X.stack { s with toks := s.toks + 1 } H ⟨[.ref y], []⟩ [.ref y] [.ref y] Q (fun _ _ _ => False) (in1_guards hgd) hr.in1 I1.env0.in1 hb (.cons rfl .nil) h) fun r s' hq => ?_
  match r, hq with
  | .error er, hq =>
    obtain ⟨_, _, _, _, _, _, _, _, _, _, _, _, z⟩ := hq
    exact z.elim
  | .ok (.ret u), hq =>
    obtain ⟨v, H', I3, rv, q3⟩ := I1.after hq
    show wpAny _ _ (handedOut u) _ _ _
    rw [PySem.W.handedOut_of (handed_of rv)]
    exact wpAny_pure ⟨v, H', I3, rv, q3⟩
theorem ze_prop {k : Nat} {pf : Lens} {z1 : ZS1} (hpf : ∀ c g, pf c = some g → PropOk X cl k f c g) (hgd : X.A.guards = some []) (hr : Room (k + 1) X.A) (ha : ZS1j X W cl a z1) (hb : attributeBase a f X.env (eval a X.env) = eval a X.env) :
    ZE X W cl (.Attribute a f pos) (zProp pf z1) := by
  obtain ⟨t, pa, q⟩ := ha.ex
  refine ⟨fun σ H Q => t σ H fun v H1 => ∃ y C dx fs p g fd ps gg, v = .ref y ∧ H1 y = some (.ins C dx fs) ∧ Cls X.K C ∧ PropOf X.K C f p g ∧ Pat X.K fd ps 1 [] [0] [] ∧ FnG X.prog X.w X.K X.mg X.base (L2.CX X.prog X.w) k g fd ps (spZ cl X.K ps.length gg) ∧
      spZ cl X.K ps.length gg [.ref y] H1 Q fun _ _ _ => False, ⟨fun pins s σ H Q I h => ?_⟩, fun F ph M env σ H Q h1 h2 S P => q F ph M env σ H _ h1 h2 S (P.step fun sl M1 ph1 H1 w S1 f1 r1 P1 => ?_)⟩
  · refine attr_of hb (thn (pa.run pins s σ H _ I h) fun u s1 ⟨x, H1, I1, rx, y, C, dx, fs, p, g, fd, ps, gg, ex, hy, c, hp, B, F, hsp⟩ => ?_)
    subst ex
    obtain rfl : u = Value.ref y := rx
    exact prop_run c hp F B hgd hr I1 hy hsp
  · have rc := r1.toC
    split at P1
    · rename_i c fs e1
      split at P1
      · rename_i g e2
        obtain ⟨y, C, dx, ff, rfl, hy, hc, r⟩ := (rc.look S1 e1).ins_inv
        have hc' : cl c = some C := by rw [← h1]; exact hc
        obtain ⟨p, f', fd, ps, k0, k1, B, FF⟩ := hpf c g e2 C hc'
        refine ⟨y, C, dx, ff, p, f', fd, ps, g, rfl, hy, k0, k1, B, FF, by rw [← B.len]; rfl, F, ph1, M1, env, σ, [sl], h1, h2, S1, .cons r1 .nil, ?_⟩
        cases hg : g [sl] M1 with
        | ok d M2 =>
          rw [hg] at P1
          exact P1
        | exc c fs M2 => rw [hg] at P1; exact P1.elim
        | fail => rw [hg] at P1; exact P1.elim
      · exact P1.elim
    · exact P1.elim
end
end Zy
set_option maxHeartbeats 4000000
/-! zip of two sequences, each a list or a tuple -/
namespace Zy
open PySem PySem.Spec PyProof.Rows L2
def SqA (b : Bool) (h : Heap) (l : Addr) (its : Array Value) : Prop := match b with
  | true => h.IsList l its
  | false => h.IsTuple l its
def ItA (b : Bool) (h : Heap) (it l : Addr) (k : Nat) : Prop := match b with
  | true => h.IsListIter it l k
  | false => h.IsTupleIter it l k
section
variable {b b1 b2 : Bool} {h h' : Heap} {a c l it : Addr} {k : Nat} {its : Array Value}
theorem SqA.ext (x : SqA b h a its) (e : Heap.ExtBut c h h') (n : a ≠ c) : SqA b h' a its := by
  cases b with
  | true => exact Heap.IsList.extBut x e n
  | false => exact Heap.IsTuple.extBut x e n
theorem ItA.ext (x : ItA b h a l k) (e : Heap.ExtBut c h h') (n : a ≠ c) : ItA b h' a l k := by
  cases b with
  | true => exact Heap.IsListIter.extBut x e n
  | false => exact Heap.IsTupleIter.extBut x e n
theorem ItA.at (x : ItA b h a l k) (e : ∀ o, h.get? a = some o → h'.get? a = some o) : ItA b h' a l k := by
  cases b with
  | true => exact Heap.IsListIter.at x e
  | false => exact Heap.IsTupleIter.at x e
theorem SqA.push (x : SqA b h a its) (o : Obj) : SqA b (h.push o) a its := by
  cases b with
  | true => exact Heap.IsList.push x o
  | false => exact Heap.IsTuple.push x o
theorem ItA.obj (x : ItA b h a l k) : ∃ o, h.get? a = some o ∧ o.data = .fields #[.ref l, .int k 0] := by
  cases b with
  | true => obtain ⟨o, e, _, d⟩ := x; exact ⟨o, e, d⟩
  | false => obtain ⟨o, e, _, d⟩ := x; exact ⟨o, e, d⟩
theorem SqA.lt (x : SqA b h a its) : a < h.objs.size := by
  cases b with
  | true => obtain ⟨o, e, _⟩ := x; exact Heap.lt_size e
  | false => obtain ⟨o, e, _⟩ := x; exact Heap.lt_size e
variable {prog : Program} {w : World} {A : Around} {E : Value → Shared → Prop} {s : Shared}
theorem nextA_item {x : Value} {Q : Value → Shared → Prop} (hi : ItA b s.heap it l k) (hl : SqA b s.heap l its) (hx : its[k]? = some x) (hQ : ∀ h', ItA b h' it l (k + 1) → Heap.SameBut it s.heap h' → Q x { s with heap := h' }) :
    wpAny (model prog w) A (Builtin.SmallTypes.nextOf (.ref it)) Q E s := by
  cases b with
  | true => exact wpAny_nextOf_list_item hi hl hx hQ
  | false => exact RZ.nextOf_tuple_item hi hl hx hQ
theorem nextA_end {Q : Value → Shared → Prop} (hh : A.handled = none) (hi : ItA b s.heap it l k) (hl : SqA b s.heap l its) (hx : its[k]? = none)
    (hE : ∀ h' e, Heap.ExtBut it s.heap h' → (∃ o, h'.get? e = some o ∧ o.cls = .type "StopIteration") → E (.ref e) { s with heap := h' }) : wpAny (model prog w) A (Builtin.SmallTypes.nextOf (.ref it)) Q E s := by
  cases b with
  | true => exact wpAny_nextOf_list_end hh hi hl hx hE
  | false => exact RZ.nextOf_tuple_end hh hi hl hx hE
variable {z ti to i1 i2 l1 l2 : Addr} {k1 k2 : Nat} {xs ys : Array Value} {x y u v : Value}
theorem zipA_item {Q : Value → Shared → Prop} (D : ZipApart z ti to i1 i2 l1 l2) (hz : IsZip s.heap z ti to .none) (pi : IsPair s.heap ti (.ref i1) (.ref i2)) (po : IsPair s.heap to u v) (h1 : ItA b1 s.heap i1 l1 k1) (h2 : ItA b2 s.heap i2 l2 k2)
    (q1 : SqA b1 s.heap l1 xs) (q2 : SqA b2 s.heap l2 ys) (hx : xs[k1]? = some x) (hy : ys[k2]? = some y)
    (hQ : ∀ h', IsZip h' z ti to (rawInt s.heap.objs.size) → IsPair h' to x y → ItA b1 h' i1 l1 (k1 + 1) → ItA b2 h' i2 l2 (k2 + 1) → IsPair h' s.heap.objs.size x y → h'.objs.size = s.heap.objs.size + 1 →
      (∀ c o, c ≠ z → c ≠ to → c ≠ i1 → c ≠ i2 → s.heap.get? c = some o → h'.get? c = some o) → Q (.ref s.heap.objs.size) { s with heap := h' }) :
    wpAny (model prog w) A (Builtin.«zip.__next__» ⟨[.ref z], []⟩) (fun fin s' => ∃ v, fin = .done (.ret v) ∧ Q v s') E s := by
  show wpAny _ _ (field (.ref z) 2 >>= _) _ _ _; refine wpAny_bind (wpAny_field hz rfl (x := .bool false) rfl ?_)
  show wpAny _ _ (field (.ref z) 3 >>= _) _ _ _; refine wpAny_bind (wpAny_field hz rfl (x := .ref ti) rfl (wpAny_bind (wpAny_seqItems pi rfl ?_)))
  show wpAny _ _ (Builtin.SmallTypes.ownedTupleIsFree (.ref z) >>= _) _ _ _; refine wpAny_bind ?_; unfold Builtin.SmallTypes.ownedTupleIsFree
  refine wpAny_bind (wpAny_field hz rfl (x := .none) rfl (wpAny_pure ?_)); simp only [if_true]
  refine wpAny_bind (wpAny_rule ?_); refine wpAny_bind (wpAny_field hz rfl (x := .ref to) rfl ?_); refine wpAny_bind (wpAny_setField_rec hz (by simp) fun g1 z1 s1 => ?_)
  replace z1 : IsZip g1 z ti to .ellipsis := z1
  refine wpAny_bind ?_; simp only [List.zipIdx_cons, List.zipIdx_nil, List.forIn_cons, List.forIn_nil]; refine wpAny_bind (wpAny_bind (wpAny_onRaise ?_))
  show wpAny _ _ (Builtin.SmallTypes.nextOf (.ref i1) >>= _) _ _ _; refine wpAny_bind (nextA_item (h1.ext s1.extBut D.i1z) (q1.ext s1.extBut D.l1z) hx fun g2 n1 s2 => wpAny_pure ?_)
  have p2 : IsPair g2 to u v := s2.extBut _ _ D.TOi1 (s1.extBut _ _ D.TOz po)
  refine wpAny_bind (wpAny_seqItems p2 rfl ?_); refine wpAny_bind (wpAny_updateSeq_pair p2 fun g3 p3 s3 => ?_)
  replace p3 : IsPair g3 to x v := p3
  refine wpAny_bind (wpAny_letGo (wpAny_pure ?_)); refine wpAny_bind (wpAny_bind (wpAny_onRaise ?_))
  show wpAny _ _ (Builtin.SmallTypes.nextOf (.ref i2) >>= _) _ _ _
  refine wpAny_bind (nextA_item (((h2.ext s1.extBut D.i2z).ext s2.extBut D.i12.symm).ext s3.extBut D.TOi2.symm) (((q2.ext s1.extBut D.l2z).ext s2.extBut D.l2i1).ext s3.extBut D.l2TO) hy fun g4 n2 s4 => wpAny_pure ?_)
  have p4 : IsPair g4 to x v := s4.extBut _ _ D.TOi2 p3
  refine wpAny_bind (wpAny_seqItems p4 rfl ?_); refine wpAny_bind (wpAny_updateSeq_pair p4 fun g5 p5 s5 => ?_)
  replace p5 : IsPair g5 to x y := p5
  refine wpAny_bind (wpAny_letGo (wpAny_pure (wpAny_pure ?_))); refine wpAny_bind (wpAny_seqItems p5 rfl ?_); refine wpAny_bind (wpAny_newTuple ?_)
  have hsz : g5.objs.size = s.heap.objs.size := by rw [s5.1, s4.1, s3.1, s2.1, s1.1]
  have z5 : IsZip g5 z ti to .ellipsis := s5.extBut _ _ D.TOz.symm (s4.extBut _ _ D.i2z.symm (s3.extBut _ _ D.TOz.symm (s2.extBut _ _ D.i1z.symm z1)))
  have k5 : ∀ c o, c ≠ z → c ≠ to → c ≠ i1 → c ≠ i2 → s.heap.get? c = some o → g5.get? c = some o := fun c o c1 c2 c3 c4 e => s5.extBut _ _ c2 (s4.extBut _ _ c4 (s3.extBut _ _ c2 (s2.extBut _ _ c3 (s1.extBut _ _ c1 e))))
  have m1 : ItA b1 g5 i1 l1 (k1 + 1) := ((n1.ext s3.extBut D.TOi1.symm).ext s4.extBut D.i12).ext s5.extBut D.TOi1.symm
  have m2 : ItA b2 g5 i2 l2 (k2 + 1) := n2.ext s5.extBut D.TOi2.symm
  have hzlt : z < g5.objs.size := Heap.lt_size z5
  show wpAny _ _ (Builtin.SmallTypes.ownedTupleHandOut (.ref z) (.ref g5.objs.size) >>= _) _ _ _
  refine wpAny_bind ?_; unfold Builtin.SmallTypes.ownedTupleHandOut
  have z6 : IsZip (g5.push { cls := .type "tuple", data := .seq #[x, y] }) z ti to .ellipsis := Heap.get?_push_of_some _ z5
  refine wpAny_bind (wpAny_setField_rec z6 (by simp) fun g7 z7 s7 => ?_)
  replace z7 : IsZip g7 z ti to (rawInt g5.objs.size) := z7
  refine wpAny_setField_rec z7 (by simp) fun g8 z8 s8 => ?_
  replace z8 : IsZip g8 z ti to (rawInt g5.objs.size) := z8
  have up : ∀ c o, c ≠ z → g5.get? c = some o → g8.get? c = some o := fun c o c1 e => s8.extBut _ _ c1 (s7.extBut _ _ c1 (Heap.get?_push_of_some _ e))
  have t8 : IsPair g8 g5.objs.size x y := s8.extBut _ _ (Nat.ne_of_gt hzlt) (s7.extBut _ _ (Nat.ne_of_gt hzlt) (Heap.get?_push_size _ rfl))
  have e8 : g8.objs.size = g5.objs.size + 1 := by rw [s8.1, s7.1, Heap.size_push]
  rw [hsz] at z8 t8 e8; refine wpAny_pure ⟨_, rfl, ?_⟩; show Q (.ref g5.objs.size) _; rw [hsz]
  exact hQ g8 z8 (up _ _ D.TOz p5) (m1.at fun o e => up _ o D.i1z e) (m2.at fun o e => up _ o D.i2z e) t8 e8 fun c o c1 c2 c3 c4 e => up c o c1 (k5 c o c1 c2 c3 c4 e)
theorem zipA_end {Q : Fin → Shared → Prop} (hh : A.handled = none) (D : ZipApart z ti to i1 i2 l1 l2) (hz : IsZip s.heap z ti to .none) (pi : IsPair s.heap ti (.ref i1) (.ref i2)) (po : IsPair s.heap to u v) (h1 : ItA b1 s.heap i1 l1 k1) (h2 : ItA b2 s.heap i2 l2 k2)
    (q1 : SqA b1 s.heap l1 xs) (q2 : SqA b2 s.heap l2 ys) (hend : xs[k1]? = none ∨ ys[k2]? = none)
    (hE : ∀ h' e, (∀ c o, c ≠ z → c ≠ to → c ≠ i1 → c ≠ i2 → s.heap.get? c = some o → h'.get? c = some o) → (∃ o, h'.get? e = some o ∧ o.cls = .type "StopIteration") → E (.ref e) { s with heap := h' }) :
    wpAny (model prog w) A (Builtin.«zip.__next__» ⟨[.ref z], []⟩) Q E s := by
  show wpAny _ _ (field (.ref z) 2 >>= _) _ _ _; refine wpAny_bind (wpAny_field hz rfl (x := .bool false) rfl ?_)
  show wpAny _ _ (field (.ref z) 3 >>= _) _ _ _; refine wpAny_bind (wpAny_field hz rfl (x := .ref ti) rfl (wpAny_bind (wpAny_seqItems pi rfl ?_)))
  show wpAny _ _ (Builtin.SmallTypes.ownedTupleIsFree (.ref z) >>= _) _ _ _; refine wpAny_bind ?_; unfold Builtin.SmallTypes.ownedTupleIsFree
  refine wpAny_bind (wpAny_field hz rfl (x := .none) rfl (wpAny_pure ?_)); simp only [if_true]
  refine wpAny_bind (wpAny_rule ?_); refine wpAny_bind (wpAny_field hz rfl (x := .ref to) rfl ?_); refine wpAny_bind (wpAny_setField_rec hz (by simp) fun g1 z1 s1 => ?_)
  replace z1 : IsZip g1 z ti to .ellipsis := z1
  refine wpAny_bind ?_; simp only [List.zipIdx_cons, List.zipIdx_nil, List.forIn_cons, List.forIn_nil]; refine wpAny_bind (wpAny_bind (wpAny_onRaise ?_))
  show wpAny _ _ (Builtin.SmallTypes.nextOf (.ref i1) >>= _) _ _ _
  cases hx : xs[k1]? with
  | none =>
    refine wpAny_bind (nextA_end hh (h1.ext s1.extBut D.i1z) (q1.ext s1.extBut D.l1z) hx fun g2 e s2 he => ?_); obtain ⟨oe, eo, ec⟩ := he
    have z2 : IsZip g2 z ti to .ellipsis := s2 _ _ D.i1z.symm z1
    have ez : e ≠ z := fun q => by subst q; rw [z2] at eo; cases eo; simp at ec
    refine wpAny_setField_rec z2 (by simp) fun g3 _ s3 => hE g3 e (fun c o c1 _ c3 _ q => s3.extBut _ _ c1 (s2 _ _ c3 (s1.extBut _ _ c1 q))) ⟨oe, s3.extBut _ _ ez eo, ec⟩
  | some x =>
    have hy : ys[k2]? = none := by rcases hend with q | q; rw [hx] at q; cases q; exact q
    refine wpAny_bind (nextA_item (h1.ext s1.extBut D.i1z) (q1.ext s1.extBut D.l1z) hx fun g2 n1 s2 => wpAny_pure ?_)
    have p2 : IsPair g2 to u v := s2.extBut _ _ D.TOi1 (s1.extBut _ _ D.TOz po)
    refine wpAny_bind (wpAny_seqItems p2 rfl ?_); refine wpAny_bind (wpAny_updateSeq_pair p2 fun g3 p3 s3 => ?_); refine wpAny_bind (wpAny_letGo (wpAny_pure ?_)); refine wpAny_bind (wpAny_bind (wpAny_onRaise ?_))
    show wpAny _ _ (Builtin.SmallTypes.nextOf (.ref i2) >>= _) _ _ _
    refine wpAny_bind (nextA_end hh (((h2.ext s1.extBut D.i2z).ext s2.extBut D.i12.symm).ext s3.extBut D.TOi2.symm) (((q2.ext s1.extBut D.l2z).ext s2.extBut D.l2i1).ext s3.extBut D.l2TO) hy fun g4 e s4 he => ?_)
    obtain ⟨oe, eo, ec⟩ := he
    have z4 : IsZip g4 z ti to .ellipsis := s4 _ _ D.i2z.symm (s3.extBut _ _ D.TOz.symm (s2.extBut _ _ D.i1z.symm z1))
    have ez : e ≠ z := fun q => by subst q; rw [z4] at eo; cases eo; simp at ec
    refine wpAny_setField_rec z4 (by simp) fun g5 _ s5 => hE g5 e (fun c o c1 c2 c3 c4 q => s5.extBut _ _ c1 (s4 _ _ c4 (s3.extBut _ _ c2 (s2.extBut _ _ c3 (s1.extBut _ _ c1 q))))) ⟨oe, s5.extBut _ _ ez eo, ec⟩
end
end Zy
set_option maxHeartbeats 4000000
/-! zip, further: its making, its turns, its walk -/
namespace Zy
open PySem PySem.Spec PyProof.Rows L2
section
variable {prog : Program} {w : World} {A : Around} {E : Value → Shared → Prop} {s : Shared} {b1 b2 : Bool} {z ti to i1 i2 l1 l2 : Addr} {k1 k2 : Nat} {xs ys : Array Value} {x y u v : Value}
theorem nextZ_item {Q : Option Value → Shared → Prop} (D : ZipApart z ti to i1 i2 l1 l2) (hz : IsZip s.heap z ti to .none) (pi : IsPair s.heap ti (.ref i1) (.ref i2)) (po : IsPair s.heap to u v) (h1 : ItA b1 s.heap i1 l1 k1) (h2 : ItA b2 s.heap i2 l2 k2)
    (q1 : SqA b1 s.heap l1 xs) (q2 : SqA b2 s.heap l2 ys) (hx : xs[k1]? = some x) (hy : ys[k2]? = some y)
    (hQ : ∀ h', IsZip h' z ti to (rawInt s.heap.objs.size) → IsPair h' to x y → ItA b1 h' i1 l1 (k1 + 1) → ItA b2 h' i2 l2 (k2 + 1) → IsPair h' s.heap.objs.size x y → h'.objs.size = s.heap.objs.size + 1 →
      (∀ c o, c ≠ z → c ≠ to → c ≠ i1 → c ≠ i2 → s.heap.get? c = some o → h'.get? c = some o) → Q (some (.ref s.heap.objs.size)) { s with heap := h' }) : wpAny (model prog w) A (pyNext (.ref z)) Q E s := by
  have tz : s.TypeIs (.ref z) "zip" := ⟨_, hz, rfl⟩
  unfold pyNext
  exact wpAny_bind (wpAny_attempt (wpAny_callSpecial?_slot (name := Str.ofString "__next__") tz F.slot_zip_next (wpAny_call_entry F.slot_zip_next tz F.entry_zip_next
    (zipA_item D hz pi po h1 h2 q1 q2 hx hy fun h' a1 a2 a3 a4 a5 a6 a7 => wpAny_pure (hQ h' a1 a2 a3 a4 a5 a6 a7)) (F.args_zip_next_1 _))))
theorem nextZ_end {Q : Option Value → Shared → Prop} (hh : A.handled = none) (D : ZipApart z ti to i1 i2 l1 l2) (hz : IsZip s.heap z ti to .none) (pi : IsPair s.heap ti (.ref i1) (.ref i2)) (po : IsPair s.heap to u v) (h1 : ItA b1 s.heap i1 l1 k1) (h2 : ItA b2 s.heap i2 l2 k2)
    (q1 : SqA b1 s.heap l1 xs) (q2 : SqA b2 s.heap l2 ys) (hend : xs[k1]? = none ∨ ys[k2]? = none)
    (hQ : ∀ h', (∀ c o, c ≠ z → c ≠ to → c ≠ i1 → c ≠ i2 → s.heap.get? c = some o → h'.get? c = some o) → Q none { s with heap := h' }) : wpAny (model prog w) A (pyNext (.ref z)) Q E s := by
  have tz : s.TypeIs (.ref z) "zip" := ⟨_, hz, rfl⟩
  unfold pyNext
  refine wpAny_bind (wpAny_attempt (wpAny_callSpecial?_slot (name := Str.ofString "__next__") tz F.slot_zip_next (wpAny_call_entry F.slot_zip_next tz F.entry_zip_next (zipA_end hh D hz pi po h1 h2 q1 q2 hend fun h' e hk he => ?_) (F.args_zip_next_1 _))))
  obtain ⟨o, ho, hc⟩ := he
  exact wpAny_bind (wpAny_isInstance (T := "StopIteration") (b := true) ⟨o, ho, hc⟩ isSubtype_stop (wpAny_pure (hQ _ hk)))
def itC : Bool → String
  | true => "list_iterator"
  | false => "tuple_iterator"
abbrev gA (b : Bool) (h : Heap) (l : Addr) : Heap := h.push { cls := .type (itC b), data := .fields #[.ref l, .int 0 0] }
abbrev gB (b1 b2 : Bool) (h : Heap) (l1 l2 : Addr) : Heap := gA b2 (gA b1 h l1) l2
abbrev gC (b1 b2 : Bool) (h : Heap) (l1 l2 : Addr) : Heap := (gB b1 b2 h l1 l2).push { cls := .type "tuple", data := .seq #[.ref h.objs.size, .ref (gA b1 h l1).objs.size] }
abbrev gD (b1 b2 : Bool) (h : Heap) (l1 l2 : Addr) : Heap := (gC b1 b2 h l1 l2).push { cls := .type "tuple", data := .seq #[.none, .none] }
abbrev gE (b1 b2 : Bool) (h : Heap) (l1 l2 : Addr) : Heap := (gD b1 b2 h l1 l2).push { cls := .type "zip", data := .fields #[.none, .bool false, .bool false, .ref (gB b1 b2 h l1 l2).objs.size, .ref (gC b1 b2 h l1 l2).objs.size] }
theorem zipM_lt (l1 l2 : Addr) (xs ys : Array Value) :
    Meets (Builtin.«zip.__new__» ⟨[.type "zip", .ref l1, .ref l2], []⟩) (fun _ R s => SqA true s.heap l1 xs ∧ SqA false s.heap l2 ys ∧ R (.ok (.ret (.ref (gD true false s.heap l1 l2).objs.size))) { s with heap := gE true false s.heap l1 l2 }) :=
  .of_wp fun prog w A R s h => by
    obtain ⟨hp, g, d, tk, os⟩ := s; obtain ⟨q1, q2, h⟩ := h
    have hsub := sub_zip
    have m1 : Heap.IsList (Shared.heap ⟨hp, g, d, tk, os⟩) l1 xs := q1
    have m2 : Heap.IsTuple (Shared.heap ⟨hp.push { cls := .type "list_iterator", data := .fields #[.ref l1, .int 0 0] }, g, d, tk, os⟩) l2 ys := Heap.IsTuple.push q2 _
    wp_walk using wpAny_pyIter_list m1, wpAny_pyIter_tuple m2
    exact ⟨_, rfl, h⟩
theorem zipM_tl (l1 l2 : Addr) (xs ys : Array Value) :
    Meets (Builtin.«zip.__new__» ⟨[.type "zip", .ref l1, .ref l2], []⟩) (fun _ R s => SqA false s.heap l1 xs ∧ SqA true s.heap l2 ys ∧ R (.ok (.ret (.ref (gD false true s.heap l1 l2).objs.size))) { s with heap := gE false true s.heap l1 l2 }) :=
  .of_wp fun prog w A R s h => by
    obtain ⟨hp, g, d, tk, os⟩ := s; obtain ⟨q1, q2, h⟩ := h
    have hsub := sub_zip
    have m1 : Heap.IsTuple (Shared.heap ⟨hp, g, d, tk, os⟩) l1 xs := q1
    have m2 : Heap.IsList (Shared.heap ⟨hp.push { cls := .type "tuple_iterator", data := .fields #[.ref l1, .int 0 0] }, g, d, tk, os⟩) l2 ys := Heap.IsList.push q2 _
    wp_walk using wpAny_pyIter_tuple m1, wpAny_pyIter_list m2
    exact ⟨_, rfl, h⟩
theorem zipA_new : ∀ (b1 b2 : Bool) (l1 l2 : Addr) (xs ys : Array Value),
    Meets (Builtin.«zip.__new__» ⟨[.type "zip", .ref l1, .ref l2], []⟩) (fun _ R s => SqA b1 s.heap l1 xs ∧ SqA b2 s.heap l2 ys ∧ R (.ok (.ret (.ref (gD b1 b2 s.heap l1 l2).objs.size))) { s with heap := gE b1 b2 s.heap l1 l2 })
  | true, true, l1, l2, xs, ys => meets_zip_new l1 l2 xs ys
  | false, false, l1, l2, xs, ys => RZ.meets_zipT_new l1 l2 xs ys
  | true, false, l1, l2, xs, ys => zipM_lt l1 l2 xs ys
  | false, true, l1, l2, xs, ys => zipM_tl l1 l2 xs ys
theorem itC_at {b : Bool} {h : Heap} {i l : Addr} (e : h.get? i = some { cls := .type (itC b), data := .fields #[.ref l, .int 0 0] }) : ItA b h i l 0 := by
  cases b with
  | true => exact ⟨_, e, rfl, rfl⟩
  | false => exact ⟨_, e, rfl, rfl⟩
theorem zipA_call {Q : Value → Shared → Prop} (q1 : SqA b1 s.heap l1 xs) (q2 : SqA b2 s.heap l2 ys)
    (h : ∀ h', IsZip h' (s.heap.objs.size + 4) (s.heap.objs.size + 2) (s.heap.objs.size + 3) .none → IsPair h' (s.heap.objs.size + 2) (.ref s.heap.objs.size) (.ref (s.heap.objs.size + 1)) →
      IsPair h' (s.heap.objs.size + 3) .none .none → ItA b1 h' s.heap.objs.size l1 0 → ItA b2 h' (s.heap.objs.size + 1) l2 0 → h'.objs.size = s.heap.objs.size + 5 →
      (∀ c o, s.heap.get? c = some o → h'.get? c = some o) → Q (.ref (s.heap.objs.size + 4)) { s with heap := h' }) : wpAny (model prog w) A (call (.type "zip") [.ref l1, .ref l2]) Q E s := by
  refine callType_new F.called_zip (by decide) (F.typeCall_zip_2 _ _) (F.newCall_zip_2 _ _) (fun obj => F.args_object_init_3 obj _ _) F.entry_zip_new (zipA_new b1 b2 l1 l2 xs ys) ⟨q1, q2, ?_⟩
  have n1 : (gA b1 s.heap l1).objs.size = s.heap.objs.size + 1 := Heap.size_push ..
  have n2 : (gB b1 b2 s.heap l1 l2).objs.size = s.heap.objs.size + 2 := by rw [Heap.size_push, n1]
  have n3 : (gC b1 b2 s.heap l1 l2).objs.size = s.heap.objs.size + 3 := by rw [Heap.size_push, n2]
  have n4 : (gD b1 b2 s.heap l1 l2).objs.size = s.heap.objs.size + 4 := by rw [Heap.size_push, n3]
  have n5 : (gE b1 b2 s.heap l1 l2).objs.size = s.heap.objs.size + 5 := by rw [Heap.size_push, n4]
  have p5 : (gE b1 b2 s.heap l1 l2).get? (gD b1 b2 s.heap l1 l2).objs.size = some _ := Heap.get?_push_size _ rfl
  have p4 : (gE b1 b2 s.heap l1 l2).get? (gC b1 b2 s.heap l1 l2).objs.size = some _ := Heap.get?_push_of_some _ (Heap.get?_push_size _ rfl)
  have p3 : (gE b1 b2 s.heap l1 l2).get? (gB b1 b2 s.heap l1 l2).objs.size = some _ := Heap.get?_push_of_some _ (Heap.get?_push_of_some _ (Heap.get?_push_size _ rfl))
  have p2 : (gE b1 b2 s.heap l1 l2).get? (gA b1 s.heap l1).objs.size = some _ := Heap.get?_push_of_some _ (Heap.get?_push_of_some _ (Heap.get?_push_of_some _ (Heap.get?_push_size _ rfl)))
  have p1 : (gE b1 b2 s.heap l1 l2).get? s.heap.objs.size = some _ := Heap.get?_push_of_some _ (Heap.get?_push_of_some _ (Heap.get?_push_of_some _ (Heap.get?_push_of_some _ (Heap.get?_push_size _ rfl))))
  show _ ∧ _
  rw [n2, n3, n4] at p5
  rw [n1, n2] at p3
  rw [n3] at p4
  rw [n1] at p2
  rw [n4]
  exact ⟨⟨_, p5, rfl⟩, h _ p5 p3 p4 (itC_at p1) (itC_at p2) n5 fun c o e => Heap.get?_push_of_some _ (Heap.get?_push_of_some _ (Heap.get?_push_of_some _ (Heap.get?_push_of_some _ (Heap.get?_push_of_some _ e))))⟩
end
/-- as list or tuple in the abstract heap -/
def SqV (b : Bool) (K : PySem.W.Frag) (H : Hp) (a : Addr) (xs : List V) : Prop := match b with
  | true => SqL K H a xs
  | false => SqT K H a xs
theorem SqV.get {X : Cx} {pins : List (Addr × Obj)} {σ : St} {H : Hp} {s : Shared} {b : Bool} {a : Addr} {xs : List V} (q : SqV b X.K H a xs) (I : Inv X pins σ H s) : ∃ its, Vals xs its ∧ SqA b s.heap a its.toArray := by
  cases b with
  | true => obtain ⟨its, r, p, _⟩ := I.list q; exact ⟨its, r, p.isList⟩
  | false => obtain ⟨its, r, p, _⟩ := I.tuple q; exact ⟨its, r, p⟩
def ItzA (b1 b2 : Bool) (K : PySem.W.Frag) (a b : Addr) (xs ys : List V) : It :=
  ⟨fun i H => SqV b1 K H a xs ∧ SqV b2 K H b ys ∧ i < xs.length ∧ i < ys.length,
    fun i H v H' => ∃ T x y, v = .ref T ∧ H T = none ∧ H' = upd H T (.tup [x, y]) ∧ xs[i]? = some x ∧ ys[i]? = some y,
    fun i H => SqV b1 K H a xs ∧ SqV b2 K H b ys ∧ (xs.length ≤ i ∨ ys.length ≤ i)⟩
theorem turn_zipM {P : Program} {w : World} {K : PySem.W.Frag} {elts : List Expr} {kk : Nat} {tpos : Pos} {a b z ti to i1 i2 : Addr} {b1 b2 : Bool} {xs ys : List V} (D : ZipApart z ti to i1 i2 a b) :
    Turn P w K (.Tuple elts kk tpos) (ItzA b1 b2 K a b xs ys) [z, ti, to, i1, i2] z (fun i h => IsZip h z ti to .none ∧ IsPair h ti (.ref i1) (.ref i2) ∧ (∃ x y, IsPair h to x y) ∧ ItA b1 h i1 a i ∧ ItA b2 h i2 b i) where
  mem := by simp
  obj := fun i h st c hc => by
    obtain ⟨hz, p1, ⟨x, y, p2⟩, m1, m2⟩ := st
    obtain ⟨o1, e1, d1⟩ := m1.obj
    obtain ⟨o2, e2, d2⟩ := m2.obj
    have e' : c = z ∨ c = ti ∨ c = to ∨ c = i1 ∨ c = i2 := by simpa using hc
    rcases e' with rfl | rfl | rfl | rfl | rfl
    · exact ⟨_, hz, fun v q => nomatch q⟩
    · exact ⟨_, p1, fun v q => nomatch q⟩
    · exact ⟨_, p2, fun v q => nomatch q⟩
    · exact ⟨o1, e1, fun v q => by rw [d1] at q; cases q⟩
    · exact ⟨o2, e2, fun v q => by rw [d2] at q; cases q⟩
  keep := fun i h h' st k => by
    obtain ⟨hz, p1, ⟨x, y, p2⟩, m1, m2⟩ := st
    exact ⟨k z (by simp) _ hz, k ti (by simp) _ p1, ⟨x, y, k to (by simp) _ p2⟩, m1.at fun o q => k i1 (by simp) o q, m2.at fun o q => k i2 (by simp) o q⟩
  item := by
    intro X hP hw hK hc i pins s σ H E I hf st hg
    subst hP hw hK
    obtain ⟨hz, p1, ⟨x0, y0, p2⟩, m1, m2⟩ := st
    obtain ⟨hqx, hqy, l1, l2⟩ := hg
    have hx : xs[i]? = some xs[i] := List.getElem?_eq_getElem l1
    have hy : ys[i]? = some ys[i] := List.getElem?_eq_getElem l2
    obtain ⟨its, rv, t1⟩ := hqx.get I
    obtain ⟨its2, rv2, t2⟩ := hqy.get I
    obtain ⟨u, hu, ru⟩ := rv.get hx
    obtain ⟨u2, hu2, ru2⟩ := rv2.get hy
    have hzl : z < s.heap.objs.size := Heap.lt_size hz
    refine nextZ_item D hz p1 p2 m1 m2 t1 t2 (x := u) (y := u2) (by simpa using hu) (by simpa using hu2) fun h' z' to' m1' m2' hT hsz hk => ?_
    refine ⟨_, rfl, wpAny_letOwnedTupleGo_zip (s := { s with heap := h' }) z' fun h'' z'' sb => ?_⟩
    have hT2 : h''.get? s.heap.objs.size = some { cls := .type "tuple", data := .seq #[u, u2] } := (sb.2 _ (Nat.ne_of_gt hzl)).trans hT
    have new : ObjOk X.prog X.w (upd H s.heap.objs.size (.tup [xs[i], ys[i]])) h'' s.heap.objs.size (.tup [xs[i], ys[i]]) := ⟨by show 2 ≤ sizeLine; decide, [u, u2], .cons ru (.cons ru2 .nil), ⟨_, hT2, rfl, _, rfl⟩⟩
    have I1 : Inv X pins σ (upd H s.heap.objs.size (.tup [xs[i], ys[i]])) { s with heap := h'' } :=
      I.turnedNew (t' := s.toks) (ch := [z, ti, to, i1, i2]) (fun c o hb q => by
        simp only [List.mem_cons, List.not_mem_nil, or_false, not_or] at hb
        exact (sb.2 c hb.1).trans (hk c o hb.1 hb.2.2.1 hb.2.2.2.1 hb.2.2.2.2 q)) hf (Nat.le_refl _) new
    refine ⟨.ref s.heap.objs.size, _, I1, rfl, ⟨_, xs[i], ys[i], rfl, I.hok.fresh (Nat.le_refl _), rfl, hx, hy⟩, ⟨z'', (sb.2 _ D.TIz).trans (hk _ _ D.TIz D.TITO D.TIi1 D.TIi2 p1), ⟨u, u2, (sb.2 _ D.TOz).trans to'⟩, m1'.at fun o q => (sb.2 _ D.i1z).trans q, m2'.at fun o q => (sb.2 _ D.i2z).trans q⟩, fun c hcm => ?_⟩
    have hlt : c < s.heap.objs.size := by
      have e' : c = z ∨ c = ti ∨ c = to ∨ c = i1 ∨ c = i2 := by simpa using hcm
      rcases e' with rfl | rfl | rfl | rfl | rfl
      · exact hzl
      · exact Heap.lt_size p1
      · exact Heap.lt_size p2
      · obtain ⟨_, e1, _⟩ := m1.obj; exact Heap.lt_size e1
      · obtain ⟨_, e2, _⟩ := m2.obj; exact Heap.lt_size e2
    rw [upd_ne (Nat.ne_of_lt hlt)]
    exact (hf c hcm).1
  done := by
    intro X hP hw hK hc i pins s σ H E I hf st hg
    subst hP hw hK
    obtain ⟨hz, p1, ⟨x0, y0, p2⟩, m1, m2⟩ := st
    obtain ⟨hqx, hqy, hend⟩ := hg
    obtain ⟨its, rv, t1⟩ := hqx.get I
    obtain ⟨its2, rv2, t2⟩ := hqy.get I
    have e1 := rv.length
    have e2 := rv2.length
    have he : its.toArray[i]? = none ∨ its2.toArray[i]? = none := by
      rcases hend with q | q
      · exact .inl (by simp; omega)
      · exact .inr (by simp; omega)
    exact nextZ_end (I.ok.hd hc) D hz p1 p2 m1 m2 t1 t2 he fun h' hk => ⟨rfl, I.turnedL (t' := s.toks) (ch := [z, ti, to, i1, i2]) (fun c o hb q => by
      simp only [List.mem_cons, List.not_mem_nil, or_false, not_or] at hb
      exact hk c o hb.1 hb.2.2.1 hb.2.2.2.1 hb.2.2.2.2 q) hf⟩
  self := fun A i s Q E st h => wpAny_pyIter_zip st.1 h
def iZipM (K : PySem.W.Frag) (ta : TA) : TI := fun σ H R => ta σ H fun vs H1 => ∃ b1 b2 a b xs ys, vs = [.ref a, .ref b] ∧ SqV b1 K H1 a xs ∧ SqV b2 K H1 b ys ∧ R (ItzA b1 b2 K a b xs ys) H1
theorem pi_zipM {X : Cx} {e e2 : Expr} {ta : TA} {p pos tpos : Pos} {elts : List Expr} {kk : Nat} (hg : Gl X "zip") (hm : X.mg "zip" = none) (ha : PA X [e, e2] ta)
    (hs : starEach [e, e2] X.env = (false, eval e X.env) :: starEach [e2] X.env) (hpl : (backTo pos (starEach [e2] X.env)).any (·.1) = false) :
    PI X (.Tuple elts kk tpos) (.Call (.Name "zip" p) [e, e2] [] pos) (iZipM X.K ta) := by
  refine ⟨fun pins s σ H R I h => ?_⟩
  refine Call_ (ld_blt I hg hm PyProof.Rows.boot_zip (PyProof.Rows.callWith_type1 (thn (ha.run pos pins s σ H _ I h) fun us s1 ⟨vs, H1, I1, r1, q1⟩ => ?_) hs hpl))
  obtain ⟨b1, b2, a, b, xs, ys, ex, hqx, hqy, q⟩ := q1
  subst ex
  cases r1 with
  | cons r rr =>
    cases rr with
    | cons r' rr =>
      cases rr
      cases r
      cases r'
      obtain ⟨its, rv, t1⟩ := hqx.get I1
      obtain ⟨its2, rv2, t2⟩ := hqy.get I1
      have la : a < s1.heap.objs.size := t1.lt
      have lb : b < s1.heap.objs.size := t2.lt
      refine zipA_call t1 t2 fun h' hz p1 p2 m1 m2 hsz hk => wpAny_pyIter_zip hz ?_
      have I2 : Inv X pins σ H1 { s1 with heap := h' } := I1.kept (t' := s1.toks) hk
      refine ⟨s1.heap.objs.size + 4, [s1.heap.objs.size + 4, s1.heap.objs.size + 2, s1.heap.objs.size + 3, s1.heap.objs.size, s1.heap.objs.size + 1], _, _, H1, rfl, I2, turn_zipM (PySem.W.ktu_apart s1.heap.objs.size a b la lb), ⟨hz, p1, ⟨_, _, p2⟩, m1, m2⟩, fun c hcm => ?_, q⟩
      have e' : c = s1.heap.objs.size + 4 ∨ c = s1.heap.objs.size + 2 ∨ c = s1.heap.objs.size + 3 ∨ c = s1.heap.objs.size ∨ c = s1.heap.objs.size + 1 := by simpa using hcm
      have hge : s1.heap.objs.size ≤ c := by
        rcases e' with rfl | rfl | rfl | rfl | rfl
        · exact Nat.le_add_right _ _
        · exact Nat.le_add_right _ _
        · exact Nat.le_add_right _ _
        · exact Nat.le_refl _
        · exact Nat.le_add_right _ _
      exact I1.fpOk hge (I1.hok.fresh hge)
end Zy
set_option maxHeartbeats 2000000
namespace Zy
open PySem PySem.Spec PyProof.Rows L2
section
variable {F : Fr} {W : WX} {ph ph' : List Addr} {M M' : Sto} {env env' : Ev} {σ σ' : St} {H H' : Hp} {v : V} {d : D} {ds es : List D}
theorem RlB'.fwd (S : Sim F ph M env σ H) (f : Fwd ph H ph' H') (r : RlB' F (gh F ph env σ) H v d) : RlB' F (gh F ph' env σ) H' v d := by
  rcases r with r | ⟨a, e, n, c, o⟩
  · exact .inl (r.mo (f.mo S))
  · exact .inr ⟨a, e, n, c.mo (f.mo S) fun o h => f.keep a o h (S.n0 a n).2, o⟩
/-- which kind -/
theorem seq_kind (S : Sim F ph M env σ H) (r : RlB' F (gh F ph env σ) H v d) (e : itemsD d = some ds) :
    ∃ b a xs, v = .ref a ∧ SqV b F.K H a xs ∧ (∀ F' ph2 M2 env2 σ2 H2, FrEx F F' H → Sim F' ph2 M2 env2 σ2 H2 → Fws F ph env σ H ph2 env2 σ2 H2 → SqV b F.K H2 a xs) ∧ RepL (gh F ph env σ) H xs ds := by
  obtain ⟨a, xs, rfl, hq, rr⟩ := seq_stay S r e
  rcases hq with ⟨h1, h2⟩ | ⟨h1, h2⟩
  · exact ⟨true, a, xs, rfl, h1, h2, rr⟩
  · exact ⟨false, a, xs, rfl, h1, h2, rr⟩
def zipD (ds es : List D) : List D := (ds.zip es).map fun p => .tup [p.1, p.2]
theorem zipD_at {i : Nat} {c : D} (h : (zipD ds es)[i]? = some c) : ∃ x y, ds[i]? = some x ∧ es[i]? = some y ∧ c = .tup [x, y] := by
  unfold zipD at h
  rw [List.getElem?_map] at h
  cases q : (ds.zip es)[i]? with
  | none => rw [q] at h; cases h
  | some p =>
    rw [q] at h
    cases h
    obtain ⟨x, y⟩ := p
    rw [List.getElem?_zip_eq_some] at q
    exact ⟨x, y, q.1, q.2, rfl⟩
theorem zipD_len : (zipD ds es).length = min ds.length es.length := by
  unfold zipD
  rw [List.length_map, List.length_zip]
theorem itok_zip {b1 b2 : Bool} {a b : Addr} {xs ys : List V} (rx : RepL (gh F ph env σ) H xs ds) (ry : RepL (gh F ph env σ) H ys es)
    (sx : ∀ F' ph2 M2 env2 σ2 H2, FrEx F F' H → Sim F' ph2 M2 env2 σ2 H2 → Fws F ph env σ H ph2 env2 σ2 H2 → SqV b1 F.K H2 a xs) (sy : ∀ F' ph2 M2 env2 σ2 H2, FrEx F F' H → Sim F' ph2 M2 env2 σ2 H2 → Fws F ph env σ H ph2 env2 σ2 H2 → SqV b2 F.K H2 b ys) :
    ItOk F ph env σ H (ItzA b1 b2 F.K a b xs ys) (zipD ds es) := by
  intro F' ph2 M2 env2 σ2 H2 fx S2 f
  have q1 := sx F' ph2 M2 env2 σ2 H2 fx S2 f
  have q2 := sy F' ph2 M2 env2 σ2 H2 fx S2 f
  have l1 := rx.length
  have l2 := ry.length
  refine ⟨⟨q1, q2, by rw [zipD_len, ← l1, ← l2]; omega⟩, fun i c hc => ?_⟩
  obtain ⟨x, y, e1, e2, rfl⟩ := zipD_at hc
  have k1 := (List.getElem?_eq_some_iff.mp e1).1
  have k2 := (List.getElem?_eq_some_iff.mp e2).1
  refine ⟨⟨q1, q2, by omega, by omega⟩, fun w H3 hy => ?_⟩
  obtain ⟨T, u, u', rfl, hT, rfl, ex, ey⟩ := hy
  have g : Fwd ph2 H2 ph2 (upd H2 T (.tup [u, u'])) := Fwd.alloc hT
  have m := g.mo S2
  obtain ⟨v1, p1, r1⟩ := (RepL.mo (f.moX fx) rx).at e1
  obtain ⟨v2, p2, r2⟩ := (RepL.mo (f.moX fx) ry).at e2
  rw [ex] at p1
  rw [ey] at p2
  cases p1
  cases p2
  exact ⟨S2.alloc hT, g, .tup upd_same (S2.fresh hT) (.cons (r1.mo m) (.cons (r2.mo m) .nil))⟩
end
section
variable {X : Cx} {W : WX} {cl : String → Option Addr} {a b e : Expr} {za zb z : ZX} {zr : ZR} {p pos tpos : Pos} {elts : List Expr} {kk : Nat} {tg : Expr}
def zZip (za zb : ZX) : ZL := fun env M => (za env M).bind fun d M1 => (zb env M1).bind fun e M2 => match itemsD d, itemsD e with
  | some ds, some es => .ok (zipD ds es) M2
  | _, _ => .fail
theorem zi_zip (hg : Gl X "zip") (hm : X.mg "zip" = none) (ha : ZBm X W cl a za) (hb : ZBm X W cl b zb) (hs : nostar a = true) (hs2 : nostar b = true) : Zi X W cl (.Tuple elts kk tpos) (.Call (.Name "zip" p) [a, b] [] pos) (zZip za zb) := by
  obtain ⟨ta, pa, qa⟩ := ha.ex
  obtain ⟨tb, pb, qb⟩ := hb.ex
  refine ⟨_, pi_zipM hg hm (pa_cons pa (pa_cons pb pa_nil (star_ok hs2)) (star_ok hs)) (star_ok hs) (backTo_two hs2), fun F ph M env σ H R h1 h2 S P => ?_⟩
  refine qa F ph M env σ H _ h1 h2 S (Post.step P fun d M1 ph1 H1 v S1 f1 r1 P1 => ?_)
  refine qb F ph1 M1 env σ H1 _ h1 h2 S1 (Post.step P1 fun e M2 ph2 H2 w S2 f2 r2 P2 => ?_)
  have r1' := RlB'.fwd S1 f2 r1
  split at P2
  · rename_i ds es e1 e2
    obtain ⟨b1, x, xs, rfl, q1, s1, rx⟩ := seq_kind S2 r1' e1
    obtain ⟨b2, y, ys, rfl, q2, s2, ry⟩ := seq_kind S2 r2 e2
    rw [h2] at q1 q2
    refine ⟨b1, b2, x, y, xs, ys, rfl, q1, q2, P2.now S2 ?_⟩
    have io := itok_zip rx ry s1 s2
    rw [h2] at io
    exact io
  · exact P2.elim
/-- reversed(range(..)) -/
def zRevR (z : ZR) : ZL := fun env M => (z env M).bind fun p M1 => if -(2 ^ 62) ≤ p.1 ∧ p.1 < 2 ^ 62 ∧ -(2 ^ 62) ≤ p.2 ∧ p.2 < 2 ^ 62 then .ok (stpD (p.1 + (((p.2 - p.1).toNat : Nat) : Int) - 1) (-1) (p.2 - p.1).toNat) M1 else .fail
theorem zi_revR (hg : Gl X "reversed") (hm : X.mg "reversed" = none) (he : ZRg X W cl e zr) (n : nostar e = true) : Zi X W cl tg (.Call (.Name "reversed" p) [e] [] pos) (zRevR zr) := by
  obtain ⟨t, pa, q⟩ := he.ex
  refine ⟨_, pi_revR hg hm pa (star_ok n), fun F ph M env σ H R h1 h2 S P => q F ph M env σ H _ h1 h2 S (Post.step P fun d M1 ph1 H1 w S1 f1 r1 P1 => ?_)⟩
  cases (show w = d from r1)
  split at P1
  · rename_i c
    exact ⟨c.1, c.2.1, c.2.2.1, c.2.2.2, P1.now S1 (itok_fn walk_rangeC)⟩
  · exact P1.elim
/-- reversed(xs) -/
def zRev (z : ZX) : ZL := fun env M => (z env M).bind fun d M1 => match itemsD d with
  | some ds => .ok ds.reverse M1
  | none => .fail
theorem walk_revT {K : PySem.W.Frag} {y : Addr} {xs : List V} : Walk (RT.ItvT K y xs.length) xs.length (fun H => SqT K H y xs) (fun i H x H' => H' = H ∧ xs[xs.length - 1 - i]? = some x) :=
  ⟨fun i _ hi q => ⟨hi, xs, xs[xs.length - 1 - i]'(by omega), q, by simp [show xs.length - 1 - i < xs.length by omega]⟩, fun _ _ => Nat.le_refl _, fun _ _ _ _ _ q y => ⟨y.1, y.2 xs q⟩⟩
theorem itok_rev {F : Fr} {ph : List Addr} {env : Ev} {σ : St} {H : Hp} {J : It} {xs : List V} {ds : List D} {G : Hp → Prop} (w : Walk J xs.length G (fun i H x H' => H' = H ∧ xs[xs.length - 1 - i]? = some x)) (r : RepL (gh F ph env σ) H xs ds)
    (st : ∀ F' ph2 M2 env2 σ2 H2, FrEx F F' H → Sim F' ph2 M2 env2 σ2 H2 → Fws F ph env σ H ph2 env2 σ2 H2 → G H2) : ItOk F ph env σ H J ds.reverse := by
  intro F' ph2 M2 env2 σ2 H2 fx S2 f
  have g := st F' ph2 M2 env2 σ2 H2 fx S2 f
  have hl := r.length
  refine ⟨by rw [List.length_reverse, ← hl]; exact w.stops H2 g, fun i d e => ?_⟩
  have hi : i < ds.length := by
    have := (List.getElem?_eq_some_iff.mp e).1
    rwa [List.length_reverse] at this
  rw [List.getElem?_reverse hi] at e
  refine ⟨w.goes i H2 (by omega) g, fun x H3 hy => ?_⟩
  obtain ⟨rfl, ex⟩ := w.yields i H2 x H3 (by omega) g hy
  obtain ⟨u, e2, r2⟩ := (RepL.mo (f.moX fx) r).at e
  rw [hl] at ex
  rw [ex] at e2
  cases e2
  exact ⟨S2, Fwd.refl, r2⟩
theorem zi_rev (hg : Gl X "reversed") (hm : X.mg "reversed" = none) (he : ZBm X W cl e z) (n : nostar e = true) : Zi X W cl tg (.Call (.Name "reversed" p) [e] [] pos) (zRev z) := by
  obtain ⟨t, pa, q⟩ := he.ex
  refine ⟨_, RT.pi_revA hg hm pa (star_ok n), fun F ph M env σ H R h1 h2 S P => q F ph M env σ H _ h1 h2 S (Post.step P fun d M1 ph1 H1 w S1 f1 r1 P1 => ?_)⟩
  cases e1 : itemsD d with
  | none => rw [e1] at P1; exact P1.elim
  | some ds =>
    rw [e1] at P1
    obtain ⟨y, xs, rfl, hq, rr⟩ := seq_stay S1 r1 e1
    rw [h2] at hq
    rcases hq with ⟨hq, st⟩ | ⟨hq, st⟩
    · exact ⟨y, xs, rfl, .inl ⟨hq, P1.now S1 (itok_rev walk_rev rr st)⟩⟩
    · exact ⟨y, xs, rfl, .inr ⟨hq, P1.now S1 (itok_rev walk_revT rr st)⟩⟩
theorem lst_stay {F : Fr} {ph : List Addr} {M : Sto} {env : Ev} {σ : St} {H : Hp} {v : V} {ds : List D} (S : Sim F ph M env σ H) (r : RlB' F (gh F ph env σ) H v (.lst ds)) :
    ∃ a xs, v = .ref a ∧ SqL F.K H a xs ∧ (∀ F' ph2 M2 env2 σ2 H2, FrEx F F' H → Sim F' ph2 M2 env2 σ2 H2 → Fws F ph env σ H ph2 env2 σ2 H2 → SqL F.K H2 a xs) ∧ RepL (gh F ph env σ) H xs ds := by
  rcases r with r | ⟨a, rfl, n, c, o, ho⟩
  · cases r with
    | lst h n r => exact ⟨_, _, rfl, SqL.of h, fun F' ph2 M2 env2 σ2 H2 _ S2 f => SqL.of (f.keep _ _ h n), r⟩
  · cases c with
    | lst h r =>
      have na : ∀ {F' ph2 M2 env2 σ2 H2}, FrEx F F' H → Sim F' ph2 M2 env2 σ2 H2 → H2 a = some o := fun {F' ph2 M2 env2 σ2 H2} x S2 => S2.keep a o (by rw [x.H0]; exact ho) fun z => by
        obtain ⟨ps, e1, _⟩ := S2.pre
        exact (S2.n0 a (x.up a n)).2 (by rw [e1]; exact List.mem_append_left _ z)
      have h' := na FrEx.refl S
      rw [h] at h'
      cases h'
      exact ⟨_, _, rfl, SqL.of h, fun F' ph2 M2 env2 σ2 H2 x S2 f => SqL.of (na x S2), r⟩
/-- enumerate(xs), xs a list -/
def enumD (ds : List D) : List D := zipD (stpD 0 1 ds.length) ds
def zEnum (z : ZX) : ZL := fun env M => (z env M).bind fun d M1 => match d with
  | .lst ds => .ok (enumD ds) M1
  | _ => .fail
theorem enumD_at {ds : List D} {i : Nat} {c : D} (h : (enumD ds)[i]? = some c) : ∃ y, ds[i]? = some y ∧ c = .tup [.int (i : Nat), y] := by
  obtain ⟨x, y, e1, e2, rfl⟩ := zipD_at h
  obtain ⟨_, rfl⟩ := stpD_at e1
  exact ⟨y, e2, by simp⟩
theorem enumD_len {ds : List D} : (enumD ds).length = ds.length := by
  unfold enumD
  rw [zipD_len]
  simp [stpD]
theorem zi_enum (hg : Gl X "enumerate") (hm : X.mg "enumerate" = none) (he : ZBm X W cl e z) (n : nostar e = true) : Zi X W cl (.Tuple elts kk tpos) (.Call (.Name "enumerate" p) [e] [] pos) (zEnum z) := by
  obtain ⟨t, pa, q⟩ := he.ex
  have hs1 : starEach [e] X.env = [(false, eval e X.env)] := star_ok n
  refine ⟨_, pi_enum hg hm (pa_cons pa pa_nil (star_ok n)) hs1, fun F ph M env σ H R h1 h2 S P => q F ph M env σ H _ h1 h2 S (Post.step P fun d M1 ph1 H1 w S1 f1 r1 P1 => ?_)⟩
  split at P1
  · rename_i ds
    obtain ⟨y, xs, rfl, hq, st, rr⟩ := lst_stay S1 r1
    rw [h2] at hq st
    refine ⟨y, xs, rfl, hq, P1.now S1 ?_⟩
    intro F' ph2 M2 env2 σ2 H2 fx S2 f
    have g := st F' ph2 M2 env2 σ2 H2 fx S2 f
    have hl := rr.length
    refine ⟨by rw [enumD_len, ← hl]; exact walk_enum.stops H2 g, fun i c hc => ?_⟩
    obtain ⟨c', e2, rfl⟩ := enumD_at hc
    have hi : i < ds.length := (List.getElem?_eq_some_iff.mp e2).1
    refine ⟨walk_enum.goes i H2 (by omega) g, fun x H3 hy => ?_⟩
    obtain ⟨T, u, u', rfl, hT, rfl, ex, ey⟩ := walk_enum.yields i H2 x H3 (by omega) g hy
    have gg : Fwd ph2 H2 ph2 (upd H2 T (.tup [u, u'])) := Fwd.alloc hT
    obtain ⟨v2, p2, r2⟩ := (RepL.mo (f.moX fx) rr).at e2
    have ey' : xs[i]? = some u' := ey
    rw [ey'] at p2
    cases p2
    cases ex
    exact ⟨S2.alloc hT, gg, .tup upd_same (S2.fresh hT) (.cons (.int _) (.cons (r2.mo (gg.mo S2)) .nil))⟩
  · exact P1.elim
end
end Zy
set_option maxHeartbeats 2000000
/-! what the head tells: defs anywhere (a class's methods, a property's getter), and any decided fact of the written part -/
namespace Zy
open PySem PySem.Spec PyProof.Rows L2

abbrev Fg := PySem.W.Frag
/-- the getter behind a property of the class x -/
def propA (x f : Str) (K : Fg) : Addr := match K.lookup (He.ma K (He.ga K x) f) with
  | some ⟨_, _, .fields vs, _⟩ => (match vs.toList with
      | Value.ref g :: _ => g
      | _ => 0)
  | _ => 0
inductive Wh where
  | glo (x : Str) | meth (x m : Str) | prop (x m : Str)
def Wh.adr (K : Fg) : Wh → Addr
  | .glo x => He.ga K x
  | .meth x m => He.ma K (He.ga K x) m
  | .prop x m => propA x m K
/-- a def of the text: where it stands, what it is -/
structure DfZ where
  wh : Wh
  name : Str
  qual : Str
  params : Arguments
  body : List Stmt
  scope : Scope
  dfl : List He.Dv := []
  kwd : List (Str × He.Dv) := []
def DfZ.adr (K : Fg) (d : DfZ) : Addr := d.wh.adr K
def DfZ.dvs (K : Fg) (d : DfZ) : List V := d.dfl.map (He.Dv.v K)
def DfZ.kws (K : Fg) (d : DfZ) : List (Str × V) := d.kwd.map fun q => (q.1, q.2.v K)
def seenZ (K : Fg) (a : Addr) : He.FnW := match K.lookup a with
  | some ob => (match ob.data with
    | .func fd => some (fd.name, fd.qualname, fd.params, fd.body, fd.scope, fd.globals, fd.closure, fd.builtins)
    | _ => none)
  | none => none
def DfZ.saidZ (d : DfZ) : He.FnW := some (d.name, d.qual, d.params, .stmts d.body, d.scope, mainGlobals, [], builtinsNs)
def DfZ.okZ (K : Fg) (d : DfZ) : Bool := PySem.W.keepIn K (.ref (d.adr K)) && match K.lookup (d.adr K) with
  | some ob => (match ob.data with
    | .func fd => PySem.W.codeIn K fd.code d.qual && (He.dflB K fd.defaults (d.dvs K) && He.kwdB K fd.kwdefaults (d.kws K))
    | _ => false)
  | none => false
theorem DfZ.fun_ {K : Fg} {d : DfZ} (e : seenZ K (d.adr K) = d.saidZ) (c : d.okZ K = true) : ∃ fd, FunD K d.name d.qual d.params d.body d.scope (d.dvs K) (d.kws K) (d.adr K) fd := by
  unfold DfZ.okZ at c
  rw [Bool.and_eq_true] at c
  obtain ⟨kp, c⟩ := c
  unfold seenZ DfZ.saidZ at e
  cases q : K.lookup (d.adr K) with
  | none => rw [q] at e; cases e
  | some ob =>
    obtain ⟨oc, od, dt, osl⟩ := ob
    rw [q] at e c
    cases dt with
    | func fd =>
      obtain ⟨m1, m2, m3, m4, m5, m6, m7, m8, m9, m10, m11, m12, m13, m14, m15⟩ := fd
      simp only [Bool.and_eq_true] at c
      simp only [Option.some.injEq, Prod.mk.injEq] at e
      obtain ⟨rfl, rfl, rfl, rfl, rfl, rfl, rfl, rfl⟩ := e
      exact ⟨_, ⟨oc, od, m8, m9, m10, m11, m12, m13, m14, osl, rfl, q, c.1, He.dflB_ok c.2.1, He.kwdB_ok c.2.2⟩, kp⟩
    | _ => cases c
/-- an own error's class: its key, its name, the attributes in the order of the parameters, the keys of the own classes that it lies below (itself too), its __init__ -/
structure Xi where
  c : String
  name : Str
  flds : List Str
  sub : List String
  init : Option DfZ
def cellB (K : Fg) (cc C : Addr) : Bool := match K.lookup cc with
  | some ⟨_, _, .cell (some (.ref D)), _⟩ => decide (D = C)
  | _ => false
/-- a def that reads its class's cell -/
def seenE (K : Fg) (a C : Addr) : He.FnW := match K.lookup a with
  | some ob => (match ob.data with
    | .func fd => (match fd.closure with
      | [(n, cc)] => if n = ("__class__" : Str) ∧ cellB K cc C = true then some (fd.name, fd.qualname, fd.params, fd.body, fd.scope, fd.globals, [], fd.builtins) else none
      | _ => none)
    | _ => none)
  | none => none
abbrev Ers := List (Str × DfZ)
def ersOf (xs : List Xi) : Ers := xs.filterMap fun x => x.init.map fun d => (x.name, d)
abbrev AlZ : Type := Bool × (List He.FnW × List He.FnW)
def tellZ (fx : Fg → Bool) (fn : List DfZ) (er : Ers) (K : Fg) : AlZ := (fx K && fn.all (DfZ.okZ K), (fn.map fun d => seenZ K (d.adr K), er.map fun q => seenE K (q.2.adr K) (He.ga K q.1)))
def wantZ (fn : List DfZ) (er : Ers) : AlZ := (true, (fn.map DfZ.saidZ, er.map fun q => q.2.saidZ))
def tellG (n : Nat) (fx : Fg → Bool) (fn : List DfZ) (er : Ers) (g : Addr → Option Obj) : AlZ := tellZ fx fn er (He.frG g (cStatics :: He.asD g n))
def hookZ (n : Nat) (fx : Fg → Bool) (fn : List DfZ) (er : Ers) : PySem.W.Hook where
  α := AlZ
  obs := fun s => tellG n fx fn er s.heap.get?
  val := fun _ => wantZ fn er
  says := fun _ h => ∃ K : Fg, K.In h ∧ tellZ fx fn er K = wantZ fn er
  of := fun _ _ e => ⟨_, He.frG_in, e⟩
  keeps := fun _ _ _ ⟨K, X, c⟩ k => ⟨K, PySem.W.Frag.In.keeps X k, c⟩
theorem tellG_eq {n : Nat} {fx : Fg → Bool} {fn : List DfZ} {er : Ers} {g : Addr → Option Obj} {s : Shared} (h : ∀ a, g a = s.heap.get? a) : tellG n fx fn er g = (hookZ n fx fn er).obs s := by
  show tellG n fx fn er g = tellG n fx fn er s.heap.get?
  rw [funext h]
theorem told_fx {fx : Fg → Bool} {fn : List DfZ} {er : Ers} {K : Fg} (c : tellZ fx fn er K = wantZ fn er) : fx K = true := by
  have h := congrArg Prod.fst c
  simp only [tellZ, wantZ, Bool.and_eq_true] at h
  exact h.1
theorem told_fn {fx : Fg → Bool} {fn : List DfZ} {er : Ers} {K : Fg} (c : tellZ fx fn er K = wantZ fn er) {d : DfZ} (hd : d ∈ fn) : ∃ fd, FunD K d.name d.qual d.params d.body d.scope (d.dvs K) (d.kws K) (d.adr K) fd := by
  have h := congrArg Prod.fst c
  have h2 := congrArg (fun q => q.2.1) c
  simp only [tellZ, wantZ, Bool.and_eq_true, List.all_eq_true] at h
  refine DfZ.fun_ ?_ (h.2 d hd)
  exact List.map_inj_left.mp h2 d hd
theorem told_er {fx : Fg → Bool} {fn : List DfZ} {er : Ers} {K : Fg} (c : tellZ fx fn er K = wantZ fn er) {q : Str × DfZ} (hq : q ∈ er) : seenE K (q.2.adr K) (He.ga K q.1) = q.2.saidZ :=
  List.map_inj_left.mp (congrArg (fun q => q.2.2) c) q hq

/-! classes -/
structure Ci where
  c : String
  name : Str
  ats : List Str
  /-- key, number of positional arguments behind self, keywords, places -/
  make : List (Str × Nat × List Str × List Nat)
  len : Option Str
  props : List (Str × Str)
  eqm : Option Str
def eqF (a b : Option (Option Value)) : Bool := decide (a = b)
def clsB (K : Fg) (x : Str) : Bool := PySem.W.plainGet K (He.ga K x) Str.empty && (PySem.W.hasDictIn K (He.ga K x) && (PySem.W.plainOver K (He.ga K x) && eqF (PySem.W.findIn K (.ref (He.ga K x)) "__setattr__") (some (some (.builtin "object.__setattr__")))))
def noatB (K : Fg) (x f : Str) : Bool := eqF (PySem.W.findIn K (.ref (He.ga K x)) f) (some none)
def mkB (K : Fg) (x : Str) : Bool := PySem.W.makesIn K (He.ga K x) && (eqF (PySem.W.findIn K (.ref (He.ga K x)) "__init__") (some (some (.ref (He.ma K (He.ga K x) "__init__")))) && (PySem.W.isFn K (.ref (He.ma K (He.ga K x) "__init__")) && PySem.W.keepIn K (.ref (He.ga K x))))
def insB (K : Fg) (x : Str) : Bool := eqF (PySem.W.findIn K (.ref (He.ga K x)) "__class__") (some (some (.builtin "object.__class__"))) && (eqF (PySem.W.specialIn K (.builtin "object.__class__") "__get__") (some (some (.builtin "getset_descriptor.__get__"))) &&
  (decide (PySem.W.takesIn K (.builtin "object.__class__") = some true) && decide (PySem.W.mroIn K (He.ga K x) (.type "object") = some true)))
/-- what isinstance asks of a class -/
structure InsK (K : Fg) (C : Addr) : Prop where
  kl : Cls K C
  h1 : PySem.W.findIn K (.ref C) "__class__" = some (some (.builtin "object.__class__"))
  h2 : PySem.W.specialIn K (.builtin "object.__class__") "__get__" = some (some (.builtin "getset_descriptor.__get__"))
  h3 : PySem.W.takesIn K (.builtin "object.__class__") = some true
  h4 : PySem.W.mroIn K C (.type "object") = some true
def methB (K : Fg) (x m : Str) : Bool := eqF (PySem.W.findIn K (.ref (He.ga K x)) m) (some (some (.ref (He.ma K (He.ga K x) m)))) && PySem.W.isFn K (.ref (He.ma K (He.ga K x) m))
def propB (K : Fg) (x m : Str) : Bool := eqF (PySem.W.findIn K (.ref (He.ga K x)) m) (some (some (.ref (He.ma K (He.ga K x) m)))) && (eqF (PySem.W.specialIn K (.ref (He.ma K (He.ga K x) m)) "__get__") (some (some (.builtin "property.__get__"))) &&
  (decide (PySem.W.takesIn K (.ref (He.ma K (He.ga K x) m)) = some true) && match PySem.W.recIn K (He.ma K (He.ga K x) m) "property" with
    | some (.ref g :: _) => decide (g = propA x m K)
    | _ => false))
def gloB (K : Fg) (x : Str) : Bool := eqF (PySem.W.nsIn K mainGlobals x) (some (some (.ref (He.ga K x))))
def freeB (K : Fg) (x : Str) : Bool := eqF (PySem.W.nsIn K mainGlobals x) (some none)
def ciB (K : Fg) (c : Ci) : Bool := gloB K c.name && ((clsB K c.name && insB K c.name) && (c.ats.all (noatB K c.name) && (c.make.isEmpty || mkB K c.name) && ((c.len.isNone || methB K c.name "__len__") && ((c.eqm.isNone || methB K c.name "__eq__") && c.props.all fun q => propB K c.name q.1))))
section
variable {K : Fg} {h : Heap} {mg : Str → Option Value} {x f m : Str}
theorem eqF_ok {a b : Option (Option Value)} (h : eqF a b = true) : a = b := of_decide_eq_true h
theorem gloB_ok (X : K.In h) (G : h.Ns mainGlobals mg) (c : gloB K x = true) : mg x = some (.ref (He.ga K x)) := PySem.W.mg_of X G (eqF_ok c)
theorem freeB_ok (X : K.In h) (G : h.Ns mainGlobals mg) (c : freeB K x = true) : mg x = none := PySem.W.mg_none_of X G (eqF_ok c)
theorem clsB_ok (c : clsB K x = true) : Cls K (He.ga K x) := by
  simp only [clsB, Bool.and_eq_true] at c
  exact ⟨c.1, c.2.1, c.2.2.1, eqF_ok c.2.2.2⟩
theorem insB_ok (k : Cls K (He.ga K x)) (c : insB K x = true) : InsK K (He.ga K x) := by
  simp only [insB, Bool.and_eq_true, decide_eq_true_eq] at c
  exact ⟨k, eqF_ok c.1, eqF_ok c.2.1, c.2.2.1, c.2.2.2⟩
theorem noatB_ok (c : noatB K x f = true) : NoAttr K (He.ga K x) f := eqF_ok c
theorem mkB_ok (c : mkB K x = true) : Mk K (He.ga K x) (He.ma K (He.ga K x) "__init__") := by
  simp only [mkB, Bool.and_eq_true] at c
  exact ⟨c.1, eqF_ok c.2.1, c.2.2.1, c.2.2.2⟩
theorem methB_ok (c : methB K x m = true) : PySem.W.findIn K (.ref (He.ga K x)) m = some (some (.ref (He.ma K (He.ga K x) m))) ∧ PySem.W.isFn K (.ref (He.ma K (He.ga K x) m)) = true := by
  simp only [methB, Bool.and_eq_true] at c
  exact ⟨eqF_ok c.1, c.2⟩
theorem propB_ok (c : propB K x m = true) : PropOf K (He.ga K x) m (He.ma K (He.ga K x) m) (propA x m K) := by
  simp only [propB, Bool.and_eq_true, decide_eq_true_eq] at c
  obtain ⟨c1, c2, c3, c4⟩ := c
  refine ⟨eqF_ok c1, eqF_ok c2, c3, ?_⟩
  split at c4
  · rename_i g rest e
    rw [of_decide_eq_true c4] at e
    exact ⟨rest, e⟩
  · cases c4
end
end Zy
set_option maxHeartbeats 2000000
namespace Zy
open PySem PySem.Spec PyProof.Rows L2
/-! isinstance of an own class -/
theorem isC_ok {X : Cx} {C : Addr} (k : InsK X.K C) : CallR X (.builtin "isinstance") (fun xs H Q => ∃ y dx ff, xs = [.ref y, .ref C] ∧ H y = some (.ins C dx ff) ∧ Q (.bl true) H) := by
  intro pins s σ H xs us Q I r h
  obtain ⟨y, dx, ff, rfl, hy, q⟩ := h
  obtain ⟨u1, u2, rfl, r1, r2⟩ := vals2 r
  cases r2
  have me : PySem.W.kitOne X.K (.ref C) (.ref C) = some true := if_pos (beq_self_eq_true _)
  exact isinst_ok I r1 (TyOf.ins hy k.kl k.h1 k.h2 k.h3 k.h4) me fun tk => ⟨.bl true, H, I.tok _, rfl, q⟩
def zIsC (n : String) (z : ZX) : ZX := fun env M => (z env M).bind fun d M1 => match deref M1 d with
  | some (.ins c fs) => if c = n then .ok (.bl true) M1 else .fail
  | _ => .fail
section
variable {X : Cx} {W : WX} {cl : String → Option Addr} {a : Expr} {za : ZX} {p p2 pos : Pos}
theorem ze_isC {T : Str} {C : Addr} {n : String} (hg : Gl X "isinstance") (hm : X.mg "isinstance" = none) (hgT : Gl X T) (hmT : X.mg T = some (.ref C)) (hd : (T == ("__debug__" : Str)) = false) (hC : cl n = some C) (k : InsK X.K C)
    (ha : ZC X W cl a za) (hst : nostar a = true) : ZE X W cl (.Call (.Name "isinstance" p) [a, .Name T p2] [] pos) (zIsC n za) := by
  obtain ⟨t, pa, q⟩ := ha.ex
  refine ⟨_, pe_callB (isC_ok k) hg hm (by decide +kernel) (pa_cons pa (pa_cons (pe_glob (v := .ref C) hgT hmT rfl hd) pa_nil) (star_ok hst)) (by decide) (by decide) (star_ok hst) (by rfl), fun F ph M env σ H Q h1 h2 S P => q F ph M env σ H _ h1 h2 S (P.step fun d M1 ph1 H1 v S1 f1 r1 P1 => ?_)⟩
  split at P1
  · rename_i c fs e1
    split at P1
    · rename_i hcn
      subst hcn
      obtain ⟨y, C', dx, ff, rfl, hy, hc, r⟩ := (r1.look S1 e1).ins_inv
      have hc' : cl c = some C' := by rw [← h1]; exact hc
      rw [hC] at hc'
      cases hc'
      exact ⟨y, dx, ff, rfl, hy, P1.now S1 (.bl _)⟩
    · exact P1.elim
  · exact P1.elim
end
end Zy
set_option maxHeartbeats 4000000
/-! zip of three sequences, each a list or a tuple -/
namespace Zy
open PySem PySem.Spec PyProof.Rows L2
theorem drawA {prog : Program} {w : World} {A : Around} (b : Bool) (hh : A.handled = none) {it l : Addr} (ne : l ≠ it) (its : Array Value) : Draws prog w A it [it, l] its.size (fun i v => its[i]? = some v) (fun i h => ItA b h it l i ∧ SqA b h l its) where
  live := fun _ _ st => let ⟨o, ho, _⟩ := st.1.obj; ⟨o, ho⟩
  frame := fun i h h' st hk => ⟨st.1.at fun o e => hk it (by simp) o e, by
    have kl : ∀ o, h.get? l = some o → h'.get? l = some o := fun o e => hk l (by simp) o e
    cases b with
    | true => exact Heap.IsList.at st.2 kl
    | false => exact Heap.IsTuple.at st.2 kl⟩
  item := fun i s Q E hi st hQ => nextA_item st.1 st.2 (x := its[i]) (by simp [hi]) fun h' q1 sb => hQ _ h' s.toks (by simp [hi]) ⟨q1, st.2.ext sb.extBut ne⟩ sb
  done := fun s Q E st hE => nextA_end hh st.1 st.2 (by simp) hE
theorem drawI {prog : Program} {w : World} {A : Around} (b : Bool) (hh : A.handled = none) {it l : Addr} (ne : l ≠ it) (its : Array Value) : Draws prog w A.in1 it [it, l] its.size (fun i v => its[i]? = some v) (fun i h => ItA b h it l i ∧ SqA b h l its) :=
  drawA b (show A.in1.handled = none from hh) ne its
def itO (b : Bool) (l : Addr) : Obj := { cls := .type (itC b), data := .fields #[.ref l, .int 0 0] }
theorem begA (b : Bool) (l : Addr) (its : Array Value) : Begins (.ref l) (itO b l) fun h => SqA b h l its := by
  cases b with
  | true => exact begins_list l its
  | false => exact begins_tuple l its
theorem sep3 {n a b c : Nat} (ha : a < n) (hb : b < n) (hc : c < n) : ZipSep3 (n + 5) (n + 3) (n + 4) n (n + 1) (n + 2) [n, a] [n + 1, b] [n + 2, c] := by
  have ne : ∀ {x y : Nat}, x < y ∨ y < x → ¬ x = y := fun h z => by omega
  constructor <;> first | (simp; done) | exact ne (by omega) | (simp; exact ne (by omega)) | (simp; exact ⟨ne (by omega), ne (by omega)⟩)
def ItzT (b1 b2 b3 : Bool) (K : PySem.W.Frag) (a b c : Addr) (xs ys us : List V) : It :=
  ⟨fun i H => SqV b1 K H a xs ∧ SqV b2 K H b ys ∧ SqV b3 K H c us ∧ i < xs.length ∧ i < ys.length ∧ i < us.length,
    fun i H v H' => ∃ T x y u, v = .ref T ∧ H T = none ∧ H' = upd H T (.tup [x, y, u]) ∧ xs[i]? = some x ∧ ys[i]? = some y ∧ us[i]? = some u,
    fun i H => SqV b1 K H a xs ∧ SqV b2 K H b ys ∧ SqV b3 K H c us ∧ i = min (min xs.length ys.length) us.length⟩
theorem turn_zip3 {P : Program} {w : World} {K : PySem.W.Frag} {elts : List Expr} {kk : Nat} {tpos : Pos} {a b c n : Nat} {b1 b2 b3 : Bool} {xs ys us : List V} (ha : a < n) (hb : b < n) (hc : c < n) :
    Turn P w K (.Tuple elts kk tpos) (ItzT b1 b2 b3 K a b c xs ys us) [n + 5, n + 3, n + 4, n, n + 1, n + 2] (n + 5) (fun i h => IsZip h (n + 5) (n + 3) (n + 4) .none ∧ IsTupOf3 h (n + 3) (.ref n) (.ref (n + 1)) (.ref (n + 2)) ∧ (∃ x y u, IsTupOf3 h (n + 4) x y u) ∧ ItA b1 h n a i ∧ ItA b2 h (n + 1) b i ∧ ItA b3 h (n + 2) c i) where
  mem := by simp
  obj := fun i h st d hd => by
    obtain ⟨hz, p1, ⟨x, y, u, p2⟩, m1, m2, m3⟩ := st
    obtain ⟨o1, e1, d1⟩ := m1.obj
    obtain ⟨o2, e2, d2⟩ := m2.obj
    obtain ⟨o3, e3, d3⟩ := m3.obj
    have e' : d = n + 5 ∨ d = n + 3 ∨ d = n + 4 ∨ d = n ∨ d = n + 1 ∨ d = n + 2 := by simpa using hd
    rcases e' with rfl | rfl | rfl | rfl | rfl | rfl
    · exact ⟨_, hz, fun v q => nomatch q⟩
    · exact ⟨_, p1, fun v q => nomatch q⟩
    · exact ⟨_, p2, fun v q => nomatch q⟩
    · exact ⟨o1, e1, fun v q => by rw [d1] at q; cases q⟩
    · exact ⟨o2, e2, fun v q => by rw [d2] at q; cases q⟩
    · exact ⟨o3, e3, fun v q => by rw [d3] at q; cases q⟩
  keep := fun i h h' st k => by
    obtain ⟨hz, p1, ⟨x, y, u, p2⟩, m1, m2, m3⟩ := st
    exact ⟨k (n + 5) (by simp) _ hz, k (n + 3) (by simp) _ p1, ⟨x, y, u, k (n + 4) (by simp) _ p2⟩, m1.at fun o q => k n (by simp) o q, m2.at fun o q => k (n + 1) (by simp) o q, m3.at fun o q => k (n + 2) (by simp) o q⟩
  item := by
    intro X hP hw hK hcm i pins s σ H E I hf st hg
    subst hP hw hK
    obtain ⟨hz, p1, ⟨x0, y0, u0, p2⟩, m1, m2, m3⟩ := st
    obtain ⟨hqx, hqy, hqu, l1, l2, l3⟩ := hg
    obtain ⟨its1, rv1, t1⟩ := hqx.get I
    obtain ⟨its2, rv2, t2⟩ := hqy.get I
    obtain ⟨its3, rv3, t3⟩ := hqu.get I
    obtain ⟨w1, hw1, rw1⟩ := rv1.get (List.getElem?_eq_getElem l1)
    obtain ⟨w2, hw2, rw2⟩ := rv2.get (List.getElem?_eq_getElem l2)
    obtain ⟨w3, hw3, rw3⟩ := rv3.get (List.getElem?_eq_getElem l3)
    have f1 := rv1.length
    have f2 := rv2.length
    have f3 := rv3.length
    have hzl : n + 5 < s.heap.objs.size := Heap.lt_size hz
    have hh := I.ok.hd hcm
    refine wpAny_pyNext_zipD3_item (sep3 ha hb hc) (drawI b1 hh (show a ≠ n by omega) its1.toArray) (drawI b2 hh (show b ≠ n + 1 by omega) its2.toArray) (drawI b3 hh (show c ≠ n + 2 by omega) its3.toArray) hz p1 p2 ⟨m1, t1⟩ ⟨m2, t2⟩ ⟨m3, t3⟩
      (by simp; omega) (by simp; omega) (by simp; omega) fun x1 x2 x3 h' tk y1 y2 y3 z' to' s1 s2 s3 hT hsz hk => ?_
    have ex1 : x1 = w1 := by simpa [hw1] using y1.symm
    have ex2 : x2 = w2 := by simpa [hw2] using y2.symm
    have ex3 : x3 = w3 := by simpa [hw3] using y3.symm
    subst ex1 ex2 ex3
    refine ⟨_, rfl, wpAny_letOwnedTupleGo_zip (s := { s with heap := h', toks := tk }) z' fun h'' z'' sb => ?_⟩
    have hT2 : h''.get? s.heap.objs.size = some { cls := .type "tuple", data := .seq #[x1, x2, x3] } := (sb.2 _ (Nat.ne_of_gt hzl)).trans hT
    have new : ObjOk X.prog X.w (upd H s.heap.objs.size (.tup [xs[i], ys[i], us[i]])) h'' s.heap.objs.size (.tup [xs[i], ys[i], us[i]]) := ⟨by show 3 ≤ sizeLine; decide, [x1, x2, x3], .cons rw1 (.cons rw2 (.cons rw3 .nil)), ⟨_, hT2, rfl, _, rfl⟩⟩
    have I1 : Inv X pins σ (upd H s.heap.objs.size (.tup [xs[i], ys[i], us[i]])) { s with heap := h'', toks := tk } :=
      I.turnedNew (t' := tk) (ch := [n + 5, n + 3, n + 4, n, n + 1, n + 2]) (fun d o hd q => by
        simp only [List.mem_cons, List.not_mem_nil, or_false, not_or] at hd
        exact (sb.2 d hd.1).trans (hk d o hd.1 hd.2.2.1 hd.2.2.2.1 hd.2.2.2.2.1 hd.2.2.2.2.2 q)) hf (Nat.le_refl _) new
    have ne2 : ∀ {x y : Nat}, x < y ∨ y < x → x ≠ y := fun h z => by omega
    have nz : ∀ {d : Nat}, d ≠ n + 5 → h''.get? d = h'.get? d := fun {d} hd => sb.2 d hd
    refine ⟨.ref s.heap.objs.size, _, I1, rfl, ⟨_, xs[i], ys[i], us[i], rfl, I.hok.fresh (Nat.le_refl _), rfl, List.getElem?_eq_getElem l1, List.getElem?_eq_getElem l2, List.getElem?_eq_getElem l3⟩,
      ⟨z'', (nz (d := n + 3) (by omega)).trans (hk (n + 3) _ (ne2 (by omega)) (ne2 (by omega)) (ne2 (by omega)) (ne2 (by omega)) (ne2 (by omega)) p1), ⟨x1, x2, x3, (nz (d := n + 4) (by omega)).trans to'⟩, s1.1.at fun o q => (nz (d := n) (by omega)).trans q, s2.1.at fun o q => (nz (d := n + 1) (by omega)).trans q, s3.1.at fun o q => (nz (d := n + 2) (by omega)).trans q⟩, fun d hdm => ?_⟩
    have hlt : d < s.heap.objs.size := by
      have e' : d = n + 5 ∨ d = n + 3 ∨ d = n + 4 ∨ d = n ∨ d = n + 1 ∨ d = n + 2 := by simpa using hdm
      rcases e' with e | e | e | e | e | e <;> rw [e] <;> first | exact hzl | exact Nat.lt_of_le_of_lt (Nat.add_le_add_left (by decide) n) hzl | exact Nat.lt_of_le_of_lt (Nat.le_add_right n 5) hzl
    rw [upd_ne (Nat.ne_of_lt hlt)]
    exact (hf d hdm).1
  done := by
    intro X hP hw hK hcm i pins s σ H E I hf st hg
    subst hP hw hK
    obtain ⟨hz, p1, ⟨x0, y0, u0, p2⟩, m1, m2, m3⟩ := st
    obtain ⟨hqx, hqy, hqu, hend⟩ := hg
    obtain ⟨its1, rv1, t1⟩ := hqx.get I
    obtain ⟨its2, rv2, t2⟩ := hqy.get I
    obtain ⟨its3, rv3, t3⟩ := hqu.get I
    have f1 := rv1.length
    have f2 := rv2.length
    have f3 := rv3.length
    have hh := I.ok.hd hcm
    have g1 : its1.toArray.size = xs.length := by simp; omega
    have g2 : its2.toArray.size = ys.length := by simp; omega
    have g3 : its3.toArray.size = us.length := by simp; omega
    exact wpAny_pyNext_zipD3_end (sep3 ha hb hc) (drawI b1 hh (show a ≠ n by omega) its1.toArray) (drawI b2 hh (show b ≠ n + 1 by omega) its2.toArray) (drawI b3 hh (show c ≠ n + 2 by omega) its3.toArray) hz p1 p2 ⟨m1, t1⟩ ⟨m2, t2⟩ ⟨m3, t3⟩
      (by rw [g1]; omega) (by rw [g2]; omega) (by rw [g3]; omega) (by rw [g1, g2, g3]; omega) fun h' tk hk => ⟨rfl, I.turnedL (t' := tk) (ch := [n + 5, n + 3, n + 4, n, n + 1, n + 2]) (fun d o hd q => by
      simp only [List.mem_cons, List.not_mem_nil, or_false, not_or] at hd
      exact hk d o hd.1 hd.2.2.1 hd.2.2.2.1 hd.2.2.2.2.1 hd.2.2.2.2.2 q) hf⟩
  self := fun A i s Q E st h => wpAny_pyIter_zip st.1 h
def iZip3 (K : PySem.W.Frag) (ta : TA) : TI := fun σ H R => ta σ H fun vs H1 => ∃ b1 b2 b3 a b c xs ys us, vs = [.ref a, .ref b, .ref c] ∧ SqV b1 K H1 a xs ∧ SqV b2 K H1 b ys ∧ SqV b3 K H1 c us ∧ R (ItzT b1 b2 b3 K a b c xs ys us) H1
theorem pi_zip3 {X : Cx} {e e2 e3 : Expr} {ta : TA} {p pos tpos : Pos} {elts : List Expr} {kk : Nat} (hg : Gl X "zip") (hm : X.mg "zip" = none) (ha : PA X [e, e2, e3] ta)
    (hs : starEach [e, e2, e3] X.env = (false, eval e X.env) :: starEach [e2, e3] X.env) (hpl : (backTo pos (starEach [e2, e3] X.env)).any (·.1) = false) :
    PI X (.Tuple elts kk tpos) (.Call (.Name "zip" p) [e, e2, e3] [] pos) (iZip3 X.K ta) := by
  refine ⟨fun pins s σ H R I h => ?_⟩
  refine Call_ (ld_blt I hg hm PyProof.Rows.boot_zip (PyProof.Rows.callWith_type1 (thn (ha.run pos pins s σ H _ I h) fun vs s1 ⟨vs', H1, I1, r1, q1⟩ => ?_) hs hpl))
  obtain ⟨b1, b2, b3, a, b, c, xs, ys, us, ex, hqx, hqy, hqu, q⟩ := q1
  subst ex
  cases r1 with
  | cons r rr =>
    cases rr with
    | cons r' rr =>
      cases rr with
      | cons r'' rr =>
        cases rr
        cases r
        cases r'
        cases r''
        obtain ⟨its1, rv1, t1⟩ := hqx.get I1
        obtain ⟨its2, rv2, t2⟩ := hqy.get I1
        obtain ⟨its3, rv3, t3⟩ := hqu.get I1
        refine zip_begins3 (begA b1 a its1.toArray) (begA b2 b its2.toArray) (begA b3 c its3.toArray) t1 t2 t3 fun h' hz p1 p2 m1 m2 m3 hsz hk => wpAny_pyIter_zip hz ?_
        have I2 : Inv X pins σ H1 { s1 with heap := h' } := I1.kept (t' := s1.toks) hk
        refine ⟨s1.heap.objs.size + 5, [s1.heap.objs.size + 5, s1.heap.objs.size + 3, s1.heap.objs.size + 4, s1.heap.objs.size, s1.heap.objs.size + 1, s1.heap.objs.size + 2], _, _, H1, rfl, I2, turn_zip3 t1.lt t2.lt t3.lt, ⟨hz, p1, ⟨_, _, _, p2⟩, itC_at m1, itC_at m2, itC_at m3⟩, fun d hdm => ?_, q⟩
        have e' : d = s1.heap.objs.size + 5 ∨ d = s1.heap.objs.size + 3 ∨ d = s1.heap.objs.size + 4 ∨ d = s1.heap.objs.size ∨ d = s1.heap.objs.size + 1 ∨ d = s1.heap.objs.size + 2 := by simpa using hdm
        have hge : s1.heap.objs.size ≤ d := by
          rcases e' with rfl | rfl | rfl | rfl | rfl | rfl <;> first | exact Nat.le_refl _ | exact Nat.le_add_right _ _
        exact I1.fpOk hge (I1.hok.fresh hge)
section
variable {F : Fr} {W : WX} {ph ph' : List Addr} {M M' : Sto} {env env' : Ev} {σ σ' : St} {H H' : Hp} {v : V} {d : D} {ds es fs : List D}
def zipD3 : List D → List D → List D → List D
  | x :: xs, y :: ys, u :: us => .tup [x, y, u] :: zipD3 xs ys us
  | _, _, _ => []
theorem zipD3_at : ∀ {ds es fs : List D} {i : Nat} {c : D}, (zipD3 ds es fs)[i]? = some c → ∃ x y u, ds[i]? = some x ∧ es[i]? = some y ∧ fs[i]? = some u ∧ c = .tup [x, y, u]
  | x :: xs, y :: ys, u :: us, 0, c, h => by cases h; exact ⟨x, y, u, rfl, rfl, rfl, rfl⟩
  | x :: xs, y :: ys, u :: us, i + 1, c, h => zipD3_at (ds := xs) (es := ys) (fs := us) (i := i) h
  | [], _, _, _, _, h => by simp [zipD3] at h
  | _ :: _, [], _, _, _, h => by simp [zipD3] at h
  | _ :: _, _ :: _, [], _, _, h => by simp [zipD3] at h
theorem zipD3_len : ∀ {ds es fs : List D}, (zipD3 ds es fs).length = min (min ds.length es.length) fs.length
  | x :: xs, y :: ys, u :: us => by
    simp only [zipD3, List.length_cons, zipD3_len (ds := xs) (es := ys) (fs := us)]
    omega
  | [], _, _ => by simp [zipD3]
  | _ :: _, [], _ => by simp [zipD3]
  | _ :: _, _ :: _, [] => by simp [zipD3]
theorem itok_zip3 {b1 b2 b3 : Bool} {a b c : Addr} {xs ys us : List V} (rx : RepL (gh F ph env σ) H xs ds) (ry : RepL (gh F ph env σ) H ys es) (ru : RepL (gh F ph env σ) H us fs)
    (sx : ∀ F' ph2 M2 env2 σ2 H2, FrEx F F' H → Sim F' ph2 M2 env2 σ2 H2 → Fws F ph env σ H ph2 env2 σ2 H2 → SqV b1 F.K H2 a xs) (sy : ∀ F' ph2 M2 env2 σ2 H2, FrEx F F' H → Sim F' ph2 M2 env2 σ2 H2 → Fws F ph env σ H ph2 env2 σ2 H2 → SqV b2 F.K H2 b ys)
    (su : ∀ F' ph2 M2 env2 σ2 H2, FrEx F F' H → Sim F' ph2 M2 env2 σ2 H2 → Fws F ph env σ H ph2 env2 σ2 H2 → SqV b3 F.K H2 c us) :
    ItOk F ph env σ H (ItzT b1 b2 b3 F.K a b c xs ys us) (zipD3 ds es fs) := by
  intro F' ph2 M2 env2 σ2 H2 fx S2 f
  have q1 := sx F' ph2 M2 env2 σ2 H2 fx S2 f
  have q2 := sy F' ph2 M2 env2 σ2 H2 fx S2 f
  have q3 := su F' ph2 M2 env2 σ2 H2 fx S2 f
  have l1 := rx.length
  have l2 := ry.length
  have l3 := ru.length
  refine ⟨⟨q1, q2, q3, by rw [zipD3_len, ← l1, ← l2, ← l3]⟩, fun i c hc => ?_⟩
  obtain ⟨x, y, u, e1, e2, e3, rfl⟩ := zipD3_at hc
  have k1 := (List.getElem?_eq_some_iff.mp e1).1
  have k2 := (List.getElem?_eq_some_iff.mp e2).1
  have k3 := (List.getElem?_eq_some_iff.mp e3).1
  refine ⟨⟨q1, q2, q3, by omega, by omega, by omega⟩, fun w H3 hy => ?_⟩
  obtain ⟨T, v1, v2, v3, rfl, hT, rfl, ex, ey, eu⟩ := hy
  have g : Fwd ph2 H2 ph2 (upd H2 T (.tup [v1, v2, v3])) := Fwd.alloc hT
  have m := g.mo S2
  obtain ⟨w1, p1, r1⟩ := (RepL.mo (f.moX fx) rx).at e1
  obtain ⟨w2, p2, r2⟩ := (RepL.mo (f.moX fx) ry).at e2
  obtain ⟨w3, p3, r3⟩ := (RepL.mo (f.moX fx) ru).at e3
  rw [ex] at p1
  rw [ey] at p2
  rw [eu] at p3
  cases p1
  cases p2
  cases p3
  exact ⟨S2.alloc hT, g, .tup upd_same (S2.fresh hT) (.cons (r1.mo m) (.cons (r2.mo m) (.cons (r3.mo m) .nil)))⟩
end
section
variable {X : Cx} {W : WX} {cl : String → Option Addr} {a b c e : Expr} {za zb zc z : ZX} {p pos tpos : Pos} {elts : List Expr} {kk : Nat} {tg : Expr}
def zZip3 (za zb zc : ZX) : ZL := fun env M => (za env M).bind fun d M1 => (zb env M1).bind fun e M2 => (zc env M2).bind fun f M3 => match itemsD d, itemsD e, itemsD f with
  | some ds, some es, some fs => .ok (zipD3 ds es fs) M3
  | _, _, _ => .fail
theorem backTo_three (n1 : nostar b = true) (n2 : nostar c = true) : (backTo pos (starEach [b, c] X.env)).any (·.1) = false := by
  rw [star_ok n1, star_ok n2]
  rfl
theorem zi_zip3 (hg : Gl X "zip") (hm : X.mg "zip" = none) (ha : ZBm X W cl a za) (hb : ZBm X W cl b zb) (hc : ZBm X W cl c zc) (hs : nostar a = true) (hs2 : nostar b = true) (hs3 : nostar c = true) : Zi X W cl (.Tuple elts kk tpos) (.Call (.Name "zip" p) [a, b, c] [] pos) (zZip3 za zb zc) := by
  obtain ⟨ta, pa, qa⟩ := ha.ex
  obtain ⟨tb, pb, qb⟩ := hb.ex
  obtain ⟨tc, pc, qc⟩ := hc.ex
  refine ⟨_, pi_zip3 hg hm (pa_cons pa (pa_cons pb (pa_cons pc pa_nil (star_ok hs3)) (star_ok hs2)) (star_ok hs)) (star_ok hs) (backTo_three hs2 hs3), fun F ph M env σ H R h1 h2 S P => ?_⟩
  refine qa F ph M env σ H _ h1 h2 S (Post.step P fun d M1 ph1 H1 v S1 f1 r1 P1 => ?_)
  refine qb F ph1 M1 env σ H1 _ h1 h2 S1 (Post.step P1 fun e M2 ph2 H2 w S2 f2 r2 P2 => ?_)
  have r1' := RlB'.fwd S1 f2 r1
  refine qc F ph2 M2 env σ H2 _ h1 h2 S2 (Post.step P2 fun g M3 ph3 H3 u S3 f3 r3 P3 => ?_)
  have r1'' := RlB'.fwd S2 f3 r1'
  have r2' := RlB'.fwd S2 f3 r2
  split at P3
  · rename_i ds es fs e1 e2 e3
    obtain ⟨b1, x, xs, rfl, q1, s1, rx⟩ := seq_kind S3 r1'' e1
    obtain ⟨b2, y, ys, rfl, q2, s2, ry⟩ := seq_kind S3 r2' e2
    obtain ⟨b3, y3, us, rfl, q3, s3, ru⟩ := seq_kind S3 r3 e3
    rw [h2] at q1 q2 q3
    refine ⟨b1, b2, b3, x, y, y3, xs, ys, us, rfl, q1, q2, q3, P3.now S3 ?_⟩
    have io := itok_zip3 rx ry ru s1 s2 s3
    rw [h2] at io
    exact io
  · exact P3.elim
end
end Zy
set_option maxHeartbeats 2000000
/-! == of two instances by their own __eq__ -/
namespace Zy
open PySem PySem.Spec PyProof.Rows L2
section
variable {X : Cx} {W : WX} {cl : String → Option Addr} {k : Nat}
def EqOk (X : Cx) (cl : String → Option Addr) (k : Nat) (c : String) (g : Sem1) : Prop := ∀ C, cl c = some C → ∃ f fd ps, PySem.W.findIn X.K (.ref C) "__eq__" = some (some (.ref f)) ∧ PySem.W.isFn X.K (.ref f) = true ∧ Pat X.K fd ps 2 [] [0, 1] [] ∧
  FnG X.prog X.w X.K X.mg X.base (L2.CX X.prog X.w) k f fd ps (spZ cl X.K ps.length g)
def rEqO (X : Cx) (cl : String → Option Addr) (k : Nat) : R2 := fun x y H Q => ∃ a b C dx dy fs gs f fd ps g, x = .ref a ∧ y = .ref b ∧ H a = some (.ins C dx fs) ∧ H b = some (.ins C dy gs) ∧ PySem.W.findIn X.K (.ref C) "__eq__" = some (some (.ref f)) ∧ PySem.W.isFn X.K (.ref f) = true ∧
  Pat X.K fd ps 2 [] [0, 1] [] ∧ FnG X.prog X.w X.K X.mg X.base (L2.CX X.prog X.w) k f fd ps (spZ cl X.K ps.length g) ∧ spZ cl X.K ps.length g [.ref a, .ref b] H (fun v H' => ∃ t, v = .bl t ∧ Q (.bl t) H') fun _ _ _ => False
theorem op_eqO (hgd : X.A.guards = some []) (hr : Room (k + 1) X.A) : OpR X (compareOp .Eq) (rEqO X cl k) := by
  intro pins s σ H x y v u Q I rx ry h
  obtain ⟨a, b, C, dx, dy, fs, gs, f, fd, ps, g, rfl, rfl, ha, hb, hs, hf, B, F, hsp⟩ := h
  cases rx
  cases ry
  obtain ⟨mA, O, _, _, _, _⟩ := ins_get I.hok ha
  obtain ⟨mB, O', _, _, _, _⟩ := ins_get I.hok hb
  obtain ⟨od, J, _⟩ := O.look
  obtain ⟨od', J', _⟩ := O'.look
  obtain ⟨m, hF⟩ := I.fr
  obtain ⟨dv, du, rdu, rdv, hB⟩ := B.ex
  have hdu : du = [] := by
    have e : dv = [] := by
      cases rdv ⟨X.K, cl, fun _ => False, []⟩ H
      rfl
    subst e
    cases rdu
    rfl
  subst hdu
  have hbn := hB s [.ref a, .ref b] [] [.ref a, .ref b] I.kIn rfl rfl rfl
  show wpAny (model X.prog X.w) X.A (richCompare .Eq (.ref a) (.ref b)) (EP X pins σ Q) X.xe s
  refine PySem.W.cmp_K (op := .Eq) (tb := .ref C) hr.units0 hF I.ok.mod.kin J J'.type (by simp [PySem.W.notFirst]) hs hf ?_
  refine wpAny_call (codeAny_mono (F.run X.A X.stack s H ⟨[.ref a, .ref b], []⟩ [.ref a, .ref b] [.ref a, .ref b] _ (fun _ _ _ => False) hgd (hr.mono (Nat.le_succ k)) I.env0 hbn (.cons rfl (.cons rfl .nil)) hsp) fun r s' hq => ?_)
  match r, hq with
  | .error er, hq =>
    obtain ⟨_, _, _, _, _, _, _, _, _, _, _, _, z⟩ := hq
    exact z.elim
  | .ok (.ret w), hq =>
    obtain ⟨v, H', I3, rv, t, rfl, q3⟩ := I.after hq
    cases rv
    exact ⟨.bl t, H', I3, rfl, q3⟩
def isIns : D → Option String
  | .ins c _ => some c
  | _ => none
def eqOR (ef : Lens) (s t : Sl) (M2 : Sto) : Res D := match (deref M2 (slV s)).bind isIns, (deref M2 (slV t)).bind isIns with
  | some c, some c' => if c = c' then (match ef c with
    | some g => (noX (g [s, t] M2)).bind fun d M3 => match d with
      | .bl b => .ok (.bl b) M3
      | _ => .fail
    | none => .fail) else .fail
  | _, _ => gEq (slV s) (slV t) M2
def zEqO (ef : Lens) (za zb : ZS1) : ZX := fun env M => (za env M).bind fun s M1 => (zb env M1).bind fun t M2 => eqOR ef s t M2
theorem ze_eqO {a b : Expr} {pos : Pos} {ef : Lens} {za zb : ZS1} (hef : ∀ c g, ef c = some g → EqOk X cl k c g) (hu : X.A.units + 64 < cLine) (hgd : X.A.guards = some []) (hr : Room (k + 1) X.A) (ha : ZS1j X W cl a za) (hb : ZS1j X W cl b zb) :
    ZE X W cl (.Compare a [.Eq] [b] pos) (zEqO ef za zb) := by
  obtain ⟨ta, pa, qa⟩ := ha.ex
  obtain ⟨tb, pb, qb⟩ := hb.ex
  refine ⟨_, pe_cmpR ((op_eqO (cl := cl) hgd hr).or (op_eq.or (op_eqD hu))) pa pb (nobehind _ (by decide) (by decide)), fun F ph M env σ H Q h1 h2 S P => ?_⟩
  refine qa F ph M env σ H _ h1 h2 S (P.step fun s M1 ph1 H1 x S1 f1 r1 P1 => ?_)
  refine qb F ph1 M1 env σ H1 _ h1 h2 S1 (P1.step fun t M2 ph2 H2 y S2 f2 r2 P2 => ?_)
  have r1' := r1.fwd S1 f2
  unfold eqOR at P2
  split at P2
  · rename_i c c' e1 e2
    split at P2
    · rename_i hcc
      subst hcc
      split at P2
      · rename_i g eg
        obtain ⟨d1, q1, i1⟩ := Option.bind_eq_some_iff.mp e1
        obtain ⟨d2, q2, i2⟩ := Option.bind_eq_some_iff.mp e2
        cases d1 <;> try (cases i1; done)
        cases d2 <;> try (cases i2; done)
        rename_i c1 fs1 c2 fs2
        have k1 : c1 = c := Option.some.inj i1
        have k2 : c2 = c := Option.some.inj i2
        subst k1
        subst k2
        obtain ⟨ya, C, dx, ff, rfl, hya, hc, _⟩ := (r1'.toC.look S2 q1).ins_inv
        obtain ⟨yb, C', dy, gg, rfl, hyb, hc2, _⟩ := (r2.toC.look S2 q2).ins_inv
        rw [hc] at hc2
        cases hc2
        have hc' : cl c2 = some C := by rw [← h1]; exact hc
        obtain ⟨f, fd, ps, k0, k1, B, FF⟩ := hef c2 g eg C hc'
        refine .inl ⟨ya, yb, C, dx, dy, ff, gg, f, fd, ps, g, rfl, rfl, hya, hyb, k0, k1, B, FF, by rw [← B.len]; rfl, F, ph2, M2, env, σ, [s, t], h1, h2, S2, .cons r1' (.cons r2 .nil), ?_⟩
        cases hg : g [s, t] M2 with
        | ok d M3 =>
          rw [hg] at P2
          intro ph' H' v S' g' rd
          simp only [noX, Res.bind_ok] at P2
          cases d with
          | bl b =>
            cases rd
            exact ⟨b, rfl, P2 ph' H' _ S' g' (.bl b)⟩
          | _ => exact P2.elim
        | exc c fs M2 => rw [hg] at P2; exact P2.elim
        | fail => rw [hg] at P2; exact P2.elim
      · exact P2.elim
    · exact P2.elim
  · have rc1 := r1'.toC
    have rc2 := r2.toC
    exact .inr (oz_eq F ph2 M2 env σ H2 Q x y _ _ h1 h2 S2 rc1 rc2 P2)
end
end Zy
set_option maxHeartbeats 4000000
/-! an own error below ValueError is made: its __init__ says super().__init__('text'), then self.f = p for each parameter -/
namespace Zy
open PySem PySem.Spec PySem.Calls PyProof.Rows L2


abbrev exO (C t : Addr) (d : Option Addr) : Obj := { cls := .ref C, dict := d, data := .fields #[.ref t, .none, .none, .none, .bool false, .none] }
def stoOf : List Stmt → Option (List (Str × Str))
  | [] => some []
  | .Assign [.Attribute (.Name o _) f _] (.Name p _) _ :: ss => if o = ("self" : Str) then (stoOf ss).map ((f, p) :: ·) else none
  | _ => none
def errOf : List Stmt → Option (List (Str × Str))
  | .Expr (.Call (.Attribute (.Call (.Name x _) [] [] _) m p2) [.Constant (.str _) _ _] [] p4) _ :: ss => if x = ("super" : Str) ∧ m = ("__init__" : Str) ∧ (p2.endLine == p4.line) = true then stoOf ss else none
  | _ => none
/-- what the written part holds of the class -/
structure ErK (P : Program) (K : Fg) (C fI cc cda : Addr) (qual : Str) (params : Arguments) (body : List Stmt) (scope : Scope) (fd : FuncData) (flds : List Str) : Prop where
  T : OexC K C
  init : PySem.W.findIn K (.ref C) "__init__" = some (some (.ref fI))
  fty : PySem.W.typeIn K (.ref fI) = some (.type "function")
  fn : ∃ oc od osl dV kV doc pm an ct, fd = PySem.W.fnX "__init__" qual params body scope [("__class__", cc)] dV kV doc pm an (.ref cda) ct ∧ K.lookup fI = some ⟨oc, od, .func fd, osl⟩
  code : PySem.W.codeIn K (.ref cda) qual = true
  file : ∃ ccl cdd vs ccs file tf, K.lookup cda = some ⟨ccl, cdd, .fields vs, ccs⟩ ∧ vs[2]? = some (.str file tf) ∧ ((P.main.file : Str) == file) = true
  cell : ∃ cl cld csl, K.lookup cc = some ⟨cl, cld, .cell (some (.ref C)), csl⟩
  mro : PySem.W.mroIn K C (.ref C) = some true
  opq : PySem.W.nsIn K cStatics "thirdparty.any" = some none
  sup : PySem.W.ks_superIn K C C "__init__" = some (some (.builtin "ValueError.__init__"))
  ve : PySem.W.subIn K (.ref C) (.type "ValueError") = some true
  no : ∀ f ∈ flds, PySem.W.findIn K (.ref C) f = some none
  head : ∃ ar, (params.posonlyargs ++ params.args).head? = some ar ∧ ar.arg = ("self" : Str)
  top : (P.main.scope.names.lookup ("super" : Str)).isSome = false
  kind : scope.kind = .function
  co : scope.isCoroutine = false
  gen : scope.isGenerator = false
  cells : ∀ x ∈ scope.names, x.2 ≠ .cell
  ks : scope.names.lookup ("super" : Str) = some .globalImplicit
  kc : scope.names.lookup ("__class__" : Str) = some .free
  kself : scope.names.lookup ("self" : Str) = some .local

section
variable {P : Program} {w : World} {K : Fg} {C fI cc cda : Addr} {qual : Str} {params : Arguments} {body : List Stmt} {scope : Scope} {fd : FuncData} {flds : List Str} {A : Around} {mg : Str → Option Value}
/-- the error as far as it is made -/
def ErSt (n : Nat) (h0 : Heap) (C e : Addr) (fs : List (Str × Value)) (h : Heap) : Prop :=
  (fs = [] ∧ ∃ t, h.get? e = some (exO C t none)) ∨ ∃ t dx, h.get? e = some (exO C t (some dx)) ∧ h.Ns1 dx (fun y => fs.lookup y) ∧ h0.get? dx = none ∧ dx ≠ e ∧ n ≤ dx
theorem lookup_putV (f g : Str) (y : Value) (fs : List (Str × Value)) : ((f, y) :: fs).lookup g = if g = f then some y else fs.lookup g := by
  by_cases h : g = f
  · subst h
    simp [List.lookup]
  · have e : (g == f) = false := by simpa using h
    rw [if_neg h]
    simp [List.lookup, e]
theorem within_lk : ∀ {fs : List (Str × Value)}, Within (fun y => fs.lookup y) (fs.map (·.1))
  | [], y, hy => absurd rfl hy
  | (f, z) :: fs, y, hy => by
    by_cases e : y = f
    · rw [e]
      exact List.mem_cons_self ..
    · have hy' : ((f, z) :: fs).lookup y ≠ none := hy
      rw [lookup_putV, if_neg e] at hy'
      exact List.mem_cons_of_mem _ (within_lk y hy')
/-- self.f = v -/
theorem er_set {n : Nat} {h1 : Heap} {e : Addr} {fs : List (Str × Value)} {f : Str} {v : Value} {s : Shared} {Q : Unit → Shared → Prop} {E : Value → Shared → Prop} (T : OexC K C) (KX : K.In s.heap) (hno : PySem.W.findIn K (.ref C) f = some none) (hl : fs.length ≤ 900)
    (k : ∀ b o, b ≠ e → h1.get? b = some o → s.heap.get? b = some o) (st : ErSt n h1 C e fs s.heap) (hn0 : n ≤ s.heap.objs.size)
    (h : ∀ h' tk, (∀ b o, b ≠ e → h1.get? b = some o → h'.get? b = some o) → ErSt n h1 C e ((f, v) :: fs) h' → Q () { s with heap := h', toks := tk }) :
    wpAny (model P w) A (setAttr (.ref e) f v) Q E s := by
  obtain ⟨nm, q, N, bs, bm, sn, sub, ab, col, dd, k0, k1, k2, k3, k5, hC, hbm⟩ := T.cls
  have hcl : PySem.W.clsIn K C = some { name := nm, bases := bs, mro := .ref C :: bm, ns := N, qualname := q, hasDict := true, slotNames := sn, subclasses := sub, abstract := ab, collection := col, hasDel := false } := by unfold PySem.W.clsIn; rw [hC] <;> rfl
  obtain ⟨hp, g, d, t, os⟩ := s
  rcases st with ⟨rfl, t1, ho⟩ | ⟨t1, dx, ho, hns, hd0, hde, hnd⟩
  · refine PySem.W.set_plain KX (ox := exO C t1 none) (od := none) ⟨ho, rfl, rfl, trivial⟩ T.sa ?_
    refine PySem.HandSPX.exc_osa KX ho hcl (show PySem.HandSPX.refsVE (.ref C :: bm) = true from hbm) rfl hno (fun h' tk' dx kk dn dne hx hn => ?_)
    refine h h' tk' (fun b o hb z => kk b o hb (k b o hb z)) (.inr ⟨t1, dx, hx, ?_, ?_, dne, Nat.le_trans hn0 dn⟩)
    · have e1 : (fun y => (([(f, v)] : List (Str × Value))).lookup y) = fun y => if y = f then some v else none := by
        funext y
        rw [lookup_putV]
        rfl
      rw [e1]
      exact hn
    · cases z : h1.get? dx with
      | none => rfl
      | some o => exact absurd (Heap.lt_size (k _ _ dne z)) (Nat.not_lt.mpr dn)
  · have hw := within_lk (fs := fs)
    obtain ⟨oD, _, _, hoD, _, _⟩ := hns.count hw
    refine PySem.W.set_plain KX (ox := exO C t1 (some dx)) (od := some oD) ⟨ho, rfl, rfl, hoD⟩ T.sa ?_
    refine PySem.OEX.osa_old KX ho hns hw (by rw [List.length_map]; omega) hcl (show PySem.HandSPX.refsVE (.ref C :: bm) = true from hbm) rfl hno (fun h' tk' kk hn => ?_)
    refine h h' tk' (fun b o hb z => kk b o (fun y => by rw [y, hd0] at z; cases z) (k b o hb z)) (.inr ⟨t1, dx, kk e _ (fun y => hde y.symm) ho, ?_, hd0, hde, hnd⟩)
    have e1 : (fun y => (((f, v) :: fs) : List (Str × Value)).lookup y) = fun y => if y = f then some v else fs.lookup y := by
      funext y
      rw [lookup_putV]
    rw [e1]
    exact hn
/-- the stores one behind the other -/
theorem er_stores {h1 : Heap} {e L : Addr} {env : Env} {m : Str → Option Value} {E : Value → Shared → Prop} (T : OexC K C) (X1 : ∀ b o, K.lookup b = some o → b ≠ e ∧ h1.get? b = some o) (hek : env.scope.kind = .function) (hL : env.locals = L) (hLe : L ≠ e) (hm : h1.Ns L m)
    (hself : env.kindOf ("self" : Str) = some .local) (mself : m ("self" : Str) = some (.ref e)) :
    ∀ {ss : List Stmt} {st : List (Str × Str)} {s : Shared} {fs : List (Str × Value)} {vs : List Value} {Q : Flow → Shared → Prop}, stoOf ss = some st → (∀ q ∈ st, PySem.W.findIn K (.ref C) q.1 = some none) → fs.length + st.length ≤ 900 →
      st.length = vs.length → (∀ (i : Nat) q v, st[i]? = some q → vs[i]? = some v → env.kindOf q.2 = some .local ∧ m q.2 = some v ∧ (q.2 == ("__debug__" : Str)) = false) →
      (∀ b o, b ≠ e → h1.get? b = some o → s.heap.get? b = some o) → ErSt L h1 C e fs s.heap →
      (∀ h' tk, (∀ b o, b ≠ e → h1.get? b = some o → h'.get? b = some o) → ErSt L h1 C e (((st.map (·.1)).zip vs).reverse ++ fs) h' → Q .next { s with heap := h', toks := tk }) →
      wpAny (model P w) A (execs ss env) Q E s
  | [], st, s, fs, vs, Q, hs, _, _, hl, _, k, hst, h => by
    cases hs
    have hv : vs = [] := List.length_eq_zero_iff.mp hl.symm
    subst hv
    exact wpAny_execs_nil (h s.heap s.toks k hst)
  | a :: ss, st, s, fs, vs, Q, hs, hno, hle, hl, hv, k, hst, h => by
    unfold stoOf at hs
    split at hs
    · rename_i e1; cases e1
    · rename_i o q1 f q2 p q3 q4 ss' e1
      cases e1
      split at hs
      · rename_i eo
        subst eo
        cases e2 : stoOf ss with
        | none => rw [e2] at hs; cases hs
        | some st2 =>
          rw [e2] at hs
          cases hs
          cases vs with
          | nil => cases hl
          | cons v vs =>
            obtain ⟨n1, n2, n3⟩ := hv 0 (f, p) v rfl rfl
            have ms : s.heap.Ns L m := hm.at fun o z => k L o hLe z
            have Xs : K.In s.heap := fun b o z => k b o (X1 b o z).1 (X1 b o z).2
            refine wpAny_execs_cons (plainObj_wpAny_Assign_Attribute (wpAny_Name (wpAny_loadName_local hek n1 (by rw [hL]; exact ms) n2 ?_) n3) rfl)
            refine wpAny_Name (wpAny_loadName_local hek hself (by rw [hL]; exact ms) mself ?_) (by decide)
            rw [List.length_cons] at hle
            refine er_set T Xs (hno (f, p) (List.mem_cons_self ..)) (by omega) k hst (Nat.le_of_lt ms.lt) fun h' tk k' hst' => ?_
            refine er_stores T X1 hek hL hLe hm hself mself e2 (fun q hq => hno q (List.mem_cons_of_mem _ hq)) (by rw [List.length_cons]; omega) (by simpa using hl) (fun i q u h1 h2 => hv (i + 1) q u (by simpa using h1) (by simpa using h2)) k' hst' fun h2 tk2 k2 hst2 => ?_
            refine h h2 tk2 k2 ?_
            simpa [List.map_cons, List.zip_cons_cons, List.reverse_cons, List.append_assoc] using hst2
      · cases hs
    · cases hs
/-- super().__init__('text') in the frame of __init__ -/
theorem er_super {e t0 : Addr} {L : Addr} {env : Env} {m : Str → Option Value} {E : Value → Shared → Prop} {s : Shared} {Q : Flow → Shared → Prop} {body2 : List Stmt} {p0 p1 p2 p3 p4 p5 : Pos} {tx : Str} {kk : Nat} {mb : Str → Option Value}
    (R : ErK P K C fI cc cda qual params body scope fd flds) (KX : K.In s.heap) (henv : env = PySem.W.ksEnv qual scope L fI (.ref cda) cc) (hm : s.heap.Ns L m) (mself : m ("self" : Str) = some (.ref e))
    (hg : s.heap.Ns mainGlobals mg) (hmg : mg ("super" : Str) = none) (hb : s.heap.Ns builtinsNs mb) (hbb : ∀ x : Str, x ≠ "__name__" → mb x = bootBuiltins x) (he : s.heap.get? e = some (exO C t0 none)) (heC : e ≠ C) (hline : (p2.endLine == p4.line) = true)
    (h : ∀ h' tk t1, (∀ b o, b ≠ e → s.heap.get? b = some o → h'.get? b = some o) → h'.get? e = some (exO C t1 none) → Q .next { s with heap := h', toks := tk }) :
    _root_.PySem.wpAt (model P w) A (.func body2 env) (exec (.Expr (.Call (.Attribute (.Call (.Name "super" p0) [] [] p1) "__init__" p2) [.Constant (.str tx) kk p3] [] p4) p5) env) Q E s := by
  subst henv
  obtain ⟨oc, od, osl, dV, kV, doc, pm, an, ct, hfd, lk⟩ := R.fn
  obtain ⟨ccl, cdd, vs, ccs, file, tf, lcd, hvs, hfile⟩ := R.file
  obtain ⟨cl, cld, csl, lcc⟩ := R.cell
  obtain ⟨ar, har, ears⟩ := R.head
  obtain ⟨nm, q, N, bs, bm, sn, sub, ab, col, dd, k0, k1, k2, k3, k5, hC, hbm⟩ := R.T.cls
  have hcl : PySem.W.clsIn K C = some { name := nm, bases := bs, mro := .ref C :: bm, ns := N, qualname := q, hasDict := true, slotNames := sn, subclasses := sub, abstract := ab, collection := col, hasDel := false } := by unfold PySem.W.clsIn; rw [hC] <;> rfl
  have lfI : s.heap.get? fI = _ := KX _ _ lk
  have hCh := KX _ _ hC
  obtain ⟨hp, g, d, t, os⟩ := s
  refine PySem.ks_wpAt_Expr_any ?_ (by unfold PySem.interactive; simp [R.kind]) rfl
  refine PySem.ks_wpAt_MethodCall (pl := (do return (← importBound (.Call (.Name "super" p0) [] [] p1) (PySem.W.ksEnv qual scope L fI (.ref cda) cc)).getD true)) ?_ ?_
  rotate_left
  · show (do
      let ov ← attributeBase (.Call (.Name "super" p0) [] [] p1) "__init__" (PySem.W.ksEnv qual scope L fI (.ref cda) cc) (eval (.Call (.Name "super" p0) [] [] p1) (PySem.W.ksEnv qual scope L fI (.ref cda) cc))
      standAt p2.atName
      methodCall (.Call (.Name "super" p0) [] [] p1) "__init__" p2 p4 (PySem.W.ksEnv qual scope L fI (.ref cda) cc) ov 1 (backTo p4 (starEach [.Constant (.str tx) kk p3] (PySem.W.ksEnv qual scope L fI (.ref cda) cc))) []) = _
    unfold methodCall
    rw [show methodCallForm 1 (backTo p4 (starEach [.Constant (.str tx) kk p3] (PySem.W.ksEnv qual scope L fI (.ref cda) cc))) [] = true from rfl]
    simp only [methodCallPos, hline, calleeOf, Bool.not_true, Bool.or_true, if_true, pure_bind]
  refine PySem.ks_wpAt_super_base (env := PySem.W.ksEnv qual scope L fI (.ref cda) cc) R.ks R.kc (by decide) rfl lfI rfl (by rw [hfd]; exact har) rfl (KX _ _ lcd) rfl hvs hfile R.top ?_
  refine PySem.W.ks_loadName_global R.kind R.ks (loadGlobal_builtin (env := PySem.W.ksEnv qual scope L fI (.ref cda) cc) hg hmg hb ((hbb _ (by decide +kernel)).trans (by decide +kernel : bootBuiltins "super" = some (.type "super"))) ⟨rfl, ?_⟩)
  refine wpAny_loadName_free R.kind R.kc rfl ⟨_, KX _ _ lcc, rfl⟩ ?_
  rw [ears]
  refine wpAny_loadName_local R.kind R.kself hm mself ?_
  refine PySem.ks_wpAny_isType_cls hCh rfl ⟨rfl, ?_⟩
  refine PySem.ks_wpAny_call_super hCh rfl he rfl (fun c z => nomatch z) (PySem.W.looks_mroIn KX R.mro) (fun h2 e2 k2 => ?_)
  have KX2 : K.In h2 := fun b o z => k2 b o (KX b o z)
  have he2 := k2 _ _ he
  have T2 : PySem.W.Looks (model P w) h2 (isInstance (.ref e) (.type "ValueError")) true := PySem.W.Looks.andThen (fun A Q E s k q => wpAny_typeOf_ref (k _ _ he2) q) (PySem.W.looks_subIn KX2 R.ve)
  have hsup := R.sup
  unfold PySem.W.ks_superIn at hsup
  rw [hcl] at hsup
  refine PySem.W.kxs_getMethod PySem.W.kxs_ValueError e2 (PySem.W.looks_opaque KX2 R.opq) (l₀ := .ref C :: bm) (fun A Q E s k q => wpAny_bind ((PySem.W.looks_clsIn KX2 hcl) A _ E s k (wpAny_pure q))) rfl KX2 hsup T2 heC (by decide) ?_
  have k3 : ∀ b o, hp.get? b = some o → (h2.push (PySem.W.kxs_mw "ValueError.__init__" e)).get? b = some o := fun b o z => Heap.get?_push_of_some _ (k2 b o z)
  have hu : (h2.push (PySem.W.kxs_mw "ValueError.__init__" e)).get? h2.objs.size = some (PySem.W.kxs_mw "ValueError.__init__" e) := Heap.get?_push_size _ rfl
  refine PySem.W.kxs_callWith (i := "ValueError.__init__") (x := e) rfl (evalArgs_plain (spliced_cons ?_))
  refine wpAny_Constant_str (k := kk) (pos := p3) ?_
  refine spliced_nil ⟨hu, ?_⟩
  have he3 := k3 _ _ he
  have hC3 := k3 _ _ hCh
  refine wpAny_call (codeAny_of_tree ?_)
  show wpAny _ A.in1 (callAny (.ref h2.objs.size) _) _ _ _
  simp only [callAny]
  refine wpAny_bind (wpAny_load hu ?_)
  simp only [PySem.W.kxs_mw, show (Value.type "method-wrapper" == Value.type "method" || Value.type "method-wrapper" == Value.type "builtin_function_or_method" || Value.type "method-wrapper" == Value.type "method-wrapper") = true by decide, if_true]
  refine PySem.W.KFB.if_so (by decide) ?_
  refine wpAny_bind (PySem.W.check_bound_init PySem.F.excBase_ValueError.toExcCallFacts hC3 he3 rfl ?_)
  refine wpAny_bind (wpAny_pure (wpAny_pure ?_))
  refine ⟨plainId_quiet PySem.F.excBase_ValueError.init.plain _, codeAny_builtin PySem.F.excBase_ValueError.initEntry ?_⟩
  refine PySem.W.exc_init_tree (cls := .ref C) (t0 := t0) (dv := none) (c2 := .none) (c3 := .none) (b4 := .bool false) he3 (by show 1 ≤ sizeLine; decide) fun h4 k4 e4 _ => ?_
  exact h h4 _ _ (fun b o hb z => k4 b o hb (k3 b o z)) e4
/-- the __init__ as a whole -/
theorem er_init {h0 : Heap} {e t0 : Addr} {st : List (Str × Str)} {us : List Value} {s : Shared} {mb : Str → Option Value} {RR : Result → Shared → Prop}
    (R : ErK P K C fI cc cda qual params body scope fd flds) (K0 : K.In h0) (e0 : h0.get? e = none) (k0 : ∀ b o, h0.get? b = some o → s.heap.get? b = some o) (hdep : A.depth < recursionLimit) (hlim : s.heap.NoLimit)
    (hg : s.heap.Ns mainGlobals mg) (hmg : mg ("super" : Str) = none) (hb : s.heap.Ns builtinsNs mb) (hbb : ∀ x : Str, x ≠ "__name__" → mb x = bootBuiltins x) (he : s.heap.get? e = some (exO C t0 none)) (gE : ∀ b, (b = mainGlobals ∨ b = builtinsNs) → b ≠ e)
    (hbody : errOf body = some st) (hf : st.map (·.1) = flds) (hl : st.length = us.length) (hl9 : st.length ≤ 900) (nd : (("self" : Str) :: st.map (·.2)).Nodup) (hbind : BindsTo s fd ⟨.ref e :: us, []⟩ ((("self" : Str) :: st.map (·.2)).zip (.ref e :: us)))
    (hk : ∀ q ∈ st, scope.names.lookup q.2 = some .local ∧ (q.2 == ("__debug__" : Str)) = false)
    (h : ∀ h' tk t1 dx, (∀ b o, b ≠ e → s.heap.get? b = some o → h'.get? b = some o) → h'.get? e = some (exO C t1 (some dx)) → h'.Ns1 dx (fun y => ((flds.zip us).reverse).lookup y) → s.heap.get? dx = none → dx ≠ e → s.heap.objs.size ≤ dx → RR (.ok (.ret .none)) { s with heap := h', toks := tk }) (hne : st ≠ []) :
    codeAny (model P w) A (.call (.ref fI) ⟨.ref e :: us, []⟩) RR s := by
  obtain ⟨oc, od, osl, dV, kV, doc, pm, an, ct, hfd, lk⟩ := R.fn
  have KX : K.In s.heap := fun b o z => k0 b o (K0 b o z)
  have hloc : ∀ x ∈ (("self" : Str) :: st.map (·.2)).zip (Value.ref e :: us), fd.scope.names.lookup x.1 = some .local := fun x hx => by
    have hx1 := (List.of_mem_zip (a := x.1) (b := x.2) hx).1
    rw [hfd]
    rcases List.mem_cons.mp hx1 with z | z
    · rw [z]; exact R.kself
    · obtain ⟨q, hq, eq⟩ := List.mem_map.mp z
      rw [← eq]; exact (hk q hq).1
  refine PySem.ks_codeAny_call_defAt (body := body) (binds := (("self" : Str) :: st.map (·.2)).zip (.ref e :: us)) hdep (KX _ _ lk) rfl hlim (by rw [hfd]; exact PySem.W.codeRec_of KX R.code) (by rw [hfd]) hbind (by rw [hfd]; exact R.cells) hloc (fun h1 hns k1 => ?_) (by rw [hfd]; exact R.co) (by rw [hfd]; exact R.gen) (by rw [hfd]; exact R.kind)
  have henv : callEnv fd s.heap.objs.size fI = PySem.W.ksEnv qual scope s.heap.objs.size fI (.ref cda) cc := by rw [hfd]; rfl
  rw [henv]
  have look : ∀ (i : Nat) p v, (("self" : Str) :: st.map (·.2))[i]? = some p → (Value.ref e :: us)[i]? = some v → ((("self" : Str) :: st.map (·.2)).zip (Value.ref e :: us)).reverse.lookup p = some v := by
    intro i p v h1 h2
    have key : ∀ {ps : List Str} {vs : List Value} {i : Nat}, ps.Nodup → ps.length = vs.length → ps[i]? = some p → vs[i]? = some v → (ps.zip vs).reverse.lookup p = some v := by
      intro ps
      induction ps with
      | nil => intro vs i _ _ h1; simp at h1
      | cons q ps ih =>
        intro vs i nd hl h1 h2
        cases vs with
        | nil => simp at h2
        | cons y vs =>
          rw [List.zip_cons_cons, List.reverse_cons, List.lookup_append]
          cases i with
          | zero =>
            simp only [List.getElem?_cons_zero, Option.some.injEq] at h1 h2
            subst h1 h2
            have hno : (ps.zip vs).reverse.lookup q = none := by
              rw [List.lookup_eq_none_iff]
              intro z hz
              have hz' := (List.of_mem_zip (a := z.1) (b := z.2) (List.mem_reverse.mp hz)).1
              have hne : q ≠ z.1 := fun y => (List.nodup_cons.mp nd).1 (y ▸ hz')
              simpa using hne
            rw [hno]
            simp [List.lookup]
          | succ i =>
            simp only [List.getElem?_cons_succ] at h1 h2
            rw [ih (List.nodup_cons.mp nd).2 (by simpa using hl) h1 h2]
            rfl
    exact key nd (by simp [hl]) h1 h2
  have mself := look 0 ("self" : Str) (.ref e) rfl rfl
  have eL : e < s.heap.objs.size := Heap.lt_size he
  have he1 := k1 _ _ he
  have K1 : K.In h1 := fun b o z => k1 b o (KX b o z)
  have eK : ∀ b o, K.lookup b = some o → b ≠ e := fun b o z y => by
    have := K0 b o z
    rw [y, e0] at this
    cases this
  have heC : e ≠ C := fun z => by
    obtain ⟨nm, q, N, bs, bm, sn, sub, ab, col, dd, x0, x1, x2, x3, x5, hC, hbm⟩ := R.T.cls
    exact eK _ _ hC z.symm
  unfold errOf at hbody
  split at hbody
  · rename_i x p0 p1 m p2 tx kk p3 p4 p5 ss
    split at hbody
    · rename_i hx
      obtain ⟨rfl, rfl, hline⟩ := hx
      refine PySem.ks_wpAt_execs_cons (er_super (mg := mg) R K1 rfl hns mself (hg.keeps k1) hmg (hb.keeps k1) hbb he1 heC hline fun h2 tk2 t2 k2 e2 => ?_)
      refine _root_.PySem.wpAt_of_wpAny ?_
      refine er_stores (env := PySem.W.ksEnv qual scope s.heap.objs.size fI (.ref cda) cc) (h1 := h1) (fs := []) (vs := us) R.T (fun b o z => ⟨eK b o z, K1 b o z⟩) R.kind rfl (Nat.ne_of_gt eL) hns R.kself mself hbody (fun q hq => R.no q.1 (by rw [← hf]; exact List.mem_map_of_mem hq)) (by simpa using hl9) hl (fun i q v h1 h2 => ?_) k2 (.inl ⟨rfl, t2, e2⟩) fun h3 tk3 k3 st3 => ?_
      · have hm := hk q (List.mem_of_getElem? h1)
        exact ⟨hm.1, look (i + 1) q.2 v (by simp [h1]) (by simpa using h2), hm.2⟩
      · rw [hf, List.append_nil] at st3
        rcases st3 with ⟨z, _⟩ | ⟨t3, dx, e3, n3, d3, ne3, nd3⟩
        · exfalso
          rw [List.reverse_eq_nil_iff] at z
          have hz := congrArg List.length z
          rw [List.length_zip, ← hf, List.length_map, hl, Nat.min_self] at hz
          exact hne (List.length_eq_zero_iff.mp (by rw [hl]; exact hz))
        · refine h h3 tk3 t3 dx (fun b o hb z => k3 b o hb (k1 b o z)) e3 n3 ?_ ne3 nd3
          cases z : s.heap.get? dx with
          | none => rfl
          | some o => rw [k1 _ _ z] at d3; cases d3
    · cases hbody
  · cases hbody
end
section
variable {X : Cx} {C fI cc cda : Addr} {qual x : Str} {params : Arguments} {body : List Stmt} {scope : Scope} {fd : FuncData} {flds : List Str} {k : Nat} {e : Expr} {es : List Expr} {ta : TA} {p pos : Pos} {st : List (Str × Str)}
/-- C(e, ..): an error is made -/
def tMkE (C : Addr) (flds : List Str) (ta : TA) : St → Hp → XK → Prop := fun σ H Q => ta σ H fun vs H1 => vs.length = flds.length ∧ ∀ dx, H1 dx = none → Q (.ref C) (some dx) (upd H1 dx (.xd (flds.zip vs).reverse))
theorem rel_lookup {y : Str} : ∀ {ps : List (Str × V)} {qs : List (Str × Value)}, Paired (fun (a : Str × V) (b : Str × Value) => a.1 = b.1 ∧ RelV a.2 b.2) ps qs → RelO (ps.lookup y) (qs.lookup y)
  | _, _, .nil => True.intro
  | _, _, @Paired.cons _ _ _ (f, a) (g, b) ps qs h t => by
    obtain ⟨h1, h2⟩ := h
    dsimp only at h1 h2
    subst h1
    rw [lookup_put, lookup_putV]
    by_cases z : y = f
    · rw [if_pos z, if_pos z]
      exact h2
    · rw [if_neg z, if_neg z]
      exact rel_lookup t
theorem paired_zip : ∀ {fs : List Str} {vs : List V} {us : List Value}, Vals vs us → Paired (fun (a : Str × V) (b : Str × Value) => a.1 = b.1 ∧ RelV a.2 b.2) (fs.zip vs) (fs.zip us)
  | [], _, _, _ => .nil
  | _ :: _, _, _, .nil => .nil
  | f :: fs, _, _, .cons h t => .cons ⟨rfl, h⟩ (paired_zip t)
theorem paired_app {α β : Type} {R : α → β → Prop} : ∀ {as bs : List α} {cs ds : List β}, Paired R as cs → Paired R bs ds → Paired R (as ++ bs) (cs ++ ds)
  | _, _, _, _, .nil, h => h
  | _, _, _, _, .cons h t, g => .cons h (paired_app t g)
theorem paired_rev {α β : Type} {R : α → β → Prop} : ∀ {as : List α} {cs : List β}, Paired R as cs → Paired R as.reverse cs.reverse
  | _, _, .nil => .nil
  | _, _, .cons h t => by
    rw [List.reverse_cons, List.reverse_cons]
    exact paired_app (paired_rev t) (.cons h .nil)
set_option maxHeartbeats 4000000 in
theorem pmk_er (R : ErK X.prog X.K C fI cc cda qual params body scope fd flds) (hbody : errOf body = some st) (hf : st.map (·.1) = flds) (hl9 : st.length ≤ 900) (hne : st ≠ []) (nd : (("self" : Str) :: st.map (·.2)).Nodup) (hk : ∀ q ∈ st, scope.names.lookup q.2 = some .local ∧ (q.2 == ("__debug__" : Str)) = false)
    (hbind : ∀ (s : Shared) (us : List Value), us.length = st.length + 1 → BindsTo s fd ⟨us, []⟩ ((("self" : Str) :: st.map (·.2)).zip us)) (hsup : X.mg ("super" : Str) = none)
    (hr : Room (k + 1) X.A) (hg : Gl X x) (hm : X.mg x = some (.ref C)) (ha : PA X (e :: es) ta) (hdb : (x == ("__debug__" : Str)) = false) (he : nostar e = true) (hpl : (backTo pos (starEach es X.env)).any (·.1) = false) :
    PMk X (.Call (.Name x p) (e :: es) [] pos) (tMkE C flds ta) := by
  intro pins s σ H Q I h
  obtain ⟨nm, q, N, bs, bm, sn, sub, ab, col, dd, k0, k1, k2, k3, k5, hC, hbm⟩ := R.T.cls
  refine wpAny_Call_Name_kw (ld_glob I hg hm ?_ hdb)
  refine PySem.W.callWith_K (h₀ := X.base) I.ok.mod.kin R.T.kC (thn (ha.run pos pins s σ H _ I h) fun us s1 ⟨vs, H1, I1, r1, hz, q1⟩ => ⟨I1.kIn, ?_⟩) (star_ok he) hpl
  show wpAny _ _ (call (.ref C) us) _ _ _
  obtain ⟨mb, hb, hbb⟩ := I1.ok.mod.blt
  have Kb : ∀ b o, X.base.get? b = some o → s1.heap.get? b = some o := I1.bk
  have hB := hb.keeps Kb
  have hG := I1.ok.mod.glob.keeps Kb
  have hlim := I1.nolimit
  have KX := I1.kIn
  obtain ⟨hp, g, dr, tk, os⟩ := s1
  have hlen : us.length = st.length := by rw [← r1.length, hz, ← hf, List.length_map]
  have kk : ∀ b o, hp.get? b = some o → ((hp.push (PySem.W.kdv_tup us)).push (PySem.HandSPX.excO C hp.objs.size)).get? b = some o := fun b o e => Heap.get?_push_of_some _ (Heap.get?_push_of_some _ e)
  have hget : ((hp.push (PySem.W.kdv_tup us)).push (PySem.HandSPX.excO C hp.objs.size)).get? (hp.objs.size + 1) = some (exO C hp.objs.size none) := by heap_get
  have hen : hp.get? (hp.objs.size + 1) = none := Heap.get?_none_of_le (Nat.le_succ _)
  have hus : us.length ≤ sizeLine := by
    rw [hlen, sizeLine_eq]
    omega
  have nE : ∀ b, (b = mainGlobals ∨ b = builtinsNs) → b ≠ hp.objs.size + 1 := fun b hb' z => by
    rcases hb' with rfl | rfl
    · obtain ⟨o, _, _, e1, _⟩ := hG
      rw [z, hen] at e1; cases e1
    · obtain ⟨o, _, _, e1, _⟩ := hB
      rw [z, hen] at e1; cases e1
  refine wpAny_call (PySem.HandSPX.call_own PySem.F.excBase_ValueError (fun Y => PySem.HandSPX.refsVE_contains Y bm hbm) (KX _ _ hC) (PySem.W.looks_findIn KX R.init) (fun self => PySem.W.bind_fn KX self R.fty) hus ?_)
  refine er_init (mg := X.mg) (h0 := hp) (st := st) R KX hen kk (by rw [make_depth]; have := hr.dp; omega) (hlim.keeps kk) (hG.keeps kk) hsup (hB.keeps kk) hbb hget nE hbody hf hlen.symm hl9 nd (hbind _ _ (by rw [List.length_cons, hlen])) hk (fun h' tk' t1 dx k' e' n' d' ne' nd' => ?_) hne
  refine ⟨rfl, ?_⟩
  have hall : ∀ b o, hp.get? b = some o → h'.get? b = some o := fun b o z => k' b o (fun y => by rw [y, hen] at z; cases z) (kk b o z)
  have dsz : hp.objs.size ≤ dx := by
    rw [Heap.size_push, Heap.size_push] at nd'
    omega
  obtain ⟨G, g1, g2⟩ := restrict h' fun b => decide (b ≠ hp.objs.size + 1)
  have gk : ∀ b o, b ≠ hp.objs.size + 1 → h'.get? b = some o → G.get? b = some o := fun b o hb z => by rw [g1 b (decide_eq_true hb)]; exact z
  have ge : G.get? (hp.objs.size + 1) = none := g2 _ (by simp)
  have gsub : ∀ b o, G.get? b = some o → h'.get? b = some o := fun b o z => by
    by_cases hb : b = hp.objs.size + 1
    · rw [hb, ge] at z; cases z
    · rw [← g1 b (decide_eq_true hb)]; exact z
  have hGp : ∀ b o, hp.get? b = some o → G.get? b = some o := fun b o z => gk b o (fun y => by rw [y, hen] at z; cases z) (hall b o z)
  have hobj : ObjOk X.prog X.w (upd H1 dx (.xd (flds.zip vs).reverse)) G dx (.xd (flds.zip vs).reverse) :=
    ⟨_, n'.at fun o z => gk dx o ne' z, fun y => rel_lookup (paired_rev (paired_zip r1))⟩
  have J : Inv X pins σ (upd H1 dx (.xd (flds.zip vs).reverse)) ⟨G, g, dr, tk', os⟩ := I1.laid (t' := tk') (a := dx) (o := .xd (flds.zip vs).reverse) (h' := G) hGp dsz hobj
  have hd1 : H1 dx = none := I1.hok.fresh dsz
  exact ⟨hp.objs.size + 1, _, _, ⟨G, g, dr, tk', os⟩, _, .ref C, some dx, rfl, J, gsub, ge, e', ⟨rfl, rfl⟩, rfl, rfl, by rw [upd_ne (fun z => ne' z.symm)]; exact I1.hok.fresh (Nat.le_succ _), rfl, I1.bare, raises_own R.T.exC R.T.tyC, q1 dx hd1⟩
end
end Zy
set_option maxHeartbeats 2000000
/-! raise of an own error; try .. except X as e: the caught error as a value -/
namespace Zy
open PySem PySem.Spec PySem.Calls PyProof.Rows L2

/-- names of classes; the others tell of the caught error -/
def realC (c : String) : Bool := !(c == "#a") && (!(c == "#d") && !(c == "#c"))
mutual
def purD : D → Bool
  | .non | .bl _ | .int _ | .str _ | .scr _ | .ref _ => true
  | .tup ds => purL ds
  | .lst ds => purL ds
  | .dK ds => purK ds
  | .dT ds => purT ds
  | .ins c ds => realC c && purF ds
  | .exn _ _ => false
def purL : List D → Bool
  | [] => true
  | d :: ds => purD d && purL ds
def purK : List (Key × D) → Bool
  | [] => true
  | (_, d) :: ds => purD d && purK ds
def purT : List (List Key × D) → Bool
  | [] => true
  | (_, d) :: ds => purD d && purT ds
def purF : List (Str × D) → Bool
  | [] => true
  | (_, d) :: ds => purD d && purF ds
end
theorem purK_all : ∀ {ds : List (Key × D)}, purK ds = true → ∀ q ∈ ds, purD q.2 = true
  | [], _, _, m => by simp at m
  | (k, d) :: ds, h, q, m => by
    simp only [purK, Bool.and_eq_true] at h
    rcases List.mem_cons.mp m with rfl | m
    · exact h.1
    · exact purK_all h.2 q m
theorem purT_all : ∀ {ds : List (List Key × D)}, purT ds = true → ∀ q ∈ ds, purD q.2 = true
  | [], _, _, m => by simp at m
  | (k, d) :: ds, h, q, m => by
    simp only [purT, Bool.and_eq_true] at h
    rcases List.mem_cons.mp m with rfl | m
    · exact h.1
    · exact purT_all h.2 q m
theorem purF_all : ∀ {ds : List (Str × D)}, purF ds = true → ∀ q ∈ ds, purD q.2 = true
  | [], _, _, m => by simp at m
  | (k, d) :: ds, h, q, m => by
    simp only [purF, Bool.and_eq_true] at h
    rcases List.mem_cons.mp m with rfl | m
    · exact h.1
    · exact purF_all h.2 q m
def purSl : Sl → Bool
  | .no => true
  | .val d => purD d
  | .own d => purD d
  | .bor d => purD d
/-- the same cells, the classes' places by another table -/
structure Rc (G G' : Gh) : Prop where
  off : ∀ a, ¬ G.off a → ¬ G'.off a
  ph : G'.ph = G.ph
  K : G'.K = G.K
mutual
theorem Rep.bk {G G' : Gh} {H : Hp} (l : Rc G G') (lc : ∀ c C, realC c = true → G.cl c = some C → G'.cl c = some C) : ∀ {v : V} {d : D}, Rep G H v d → purD d = true → Rep G' H v d
  | _, _, .non, _ => .non
  | _, _, .bl b, _ => .bl b
  | _, _, .int i, _ => .int i
  | _, _, .str s, _ => .str s
  | _, _, .tup h m r, e => .tup h (l.off _ m) (RepL.bk l lc r (by simpa only [purD] using e))
  | _, _, .lst h m r, e => .lst h (l.off _ m) (RepL.bk l lc r (by simpa only [purD] using e))
  | _, _, .dK h m r, e => .dK h (l.off _ m) (RepP.bk l lc r (purK_all (by simpa only [purD] using e)))
  | _, _, .dT h m r, e => .dT h (l.off _ m) (RepP.bk l lc r (purT_all (by simpa only [purD] using e)))
  | _, _, .ins h m hc r, e => by
    simp only [purD, Bool.and_eq_true] at e
    exact .ins h (l.off _ m) (lc _ _ e.1 hc) (RepP.bk l lc r (purF_all e.2))
  | _, _, .ref h, _ => .ref (by rw [l.ph]; exact h)
  | _, _, .scr h m, _ => .scr h (l.off _ m)
  | _, _, .scrK h, _ => .scrK (by rw [l.K]; exact h)
  | _, _, .exn .., e => by simp only [purD] at e; cases e
theorem RepL.bk {G G' : Gh} {H : Hp} (l : Rc G G') (lc : ∀ c C, realC c = true → G.cl c = some C → G'.cl c = some C) : ∀ {xs : List V} {ds : List D}, RepL G H xs ds → purL ds = true → RepL G' H xs ds
  | _, _, .nil, _ => .nil
  | _, _, .cons h t, e => by
    simp only [purL, Bool.and_eq_true] at e
    exact .cons (Rep.bk l lc h e.1) (RepL.bk l lc t e.2)
theorem RepP.bk {G G' : Gh} {H : Hp} (l : Rc G G') (lc : ∀ c C, realC c = true → G.cl c = some C → G'.cl c = some C) : ∀ {κ : Type} {xs : List (κ × V)} {ds : List (κ × D)}, RepP G H κ xs ds → (∀ q ∈ ds, purD q.2 = true) → RepP G' H κ xs ds
  | _, _, _, .nil, _ => .nil
  | _, _, _, .cons h t, e => .cons (Rep.bk l lc h (e _ (List.mem_cons_self ..))) (RepP.bk l lc t fun q m => e q (List.mem_cons_of_mem _ m))
end
theorem Cel.bk {G G' : Gh} {H : Hp} {a : Addr} (l : Rc G G') (lc : ∀ c C, realC c = true → G.cl c = some C → G'.cl c = some C) {d : D} (e : purD d = true) : Cel G H a d → Cel G' H a d
  | .lst h r => .lst h (r.bk l lc (by simpa only [purD] using e))
  | .dK h r => .dK h (r.bk l lc (purK_all (by simpa only [purD] using e)))
  | .dT h r => .dT h (r.bk l lc (purT_all (by simpa only [purD] using e)))
  | .ins h hc r => by
    simp only [purD, Bool.and_eq_true] at e
    exact .ins h (lc _ _ e.1 hc) (r.bk l lc (purF_all e.2))
mutual
theorem Rep.fw {G G' : Gh} {H : Hp} (l : Rc G G') (lc : ∀ c C, G.cl c = some C → G'.cl c = some C) : ∀ {v : V} {d : D}, Rep G H v d → Rep G' H v d
  | _, _, .non => .non
  | _, _, .bl b => .bl b
  | _, _, .int i => .int i
  | _, _, .str s => .str s
  | _, _, .tup h m r => .tup h (l.off _ m) (RepL.fw l lc r)
  | _, _, .lst h m r => .lst h (l.off _ m) (RepL.fw l lc r)
  | _, _, .dK h m r => .dK h (l.off _ m) (RepP.fw l lc r)
  | _, _, .dT h m r => .dT h (l.off _ m) (RepP.fw l lc r)
  | _, _, .ins h m hc r => .ins h (l.off _ m) (lc _ _ hc) (RepP.fw l lc r)
  | _, _, .ref h => .ref (by rw [l.ph]; exact h)
  | _, _, .scr h m => .scr h (l.off _ m)
  | _, _, .scrK h => .scrK (by rw [l.K]; exact h)
  | _, _, .exn ha hd hC hc h m r => .exn (lc _ _ ha) (lc _ _ hd) (lc _ _ hC) (lc _ _ hc) h (l.off _ m) (RepP.fw l lc r)
theorem RepL.fw {G G' : Gh} {H : Hp} (l : Rc G G') (lc : ∀ c C, G.cl c = some C → G'.cl c = some C) : ∀ {xs : List V} {ds : List D}, RepL G H xs ds → RepL G' H xs ds
  | _, _, .nil => .nil
  | _, _, .cons h t => .cons (Rep.fw l lc h) (RepL.fw l lc t)
theorem RepP.fw {G G' : Gh} {H : Hp} (l : Rc G G') (lc : ∀ c C, G.cl c = some C → G'.cl c = some C) : ∀ {κ : Type} {xs : List (κ × V)} {ds : List (κ × D)}, RepP G H κ xs ds → RepP G' H κ xs ds
  | _, _, _, .nil => .nil
  | _, _, _, .cons h t => .cons (Rep.fw l lc h) (RepP.fw l lc t)
end
theorem Cel.fw {G G' : Gh} {H : Hp} {a : Addr} (l : Rc G G') (lc : ∀ c C, G.cl c = some C → G'.cl c = some C) {d : D} : Cel G H a d → Cel G' H a d
  | .lst h r => .lst h (r.fw l lc)
  | .dK h r => .dK h (r.fw l lc)
  | .dT h r => .dT h (r.fw l lc)
  | .ins h hc r => .ins h (lc _ _ hc) (r.fw l lc)
def Fr.recl (F : Fr) (cl' : String → Option Addr) : Fr := ⟨F.K, cl', F.N0, F.H0, F.ph0⟩
section
variable {F : Fr} {ph ph' : List Addr} {M M' : Sto} {env env' : Ev} {σ σ' : St} {H H' : Hp} {cl' : String → Option Addr}
theorem rc_of : Rc (gh F ph env σ) (gh (F.recl cl') ph env σ) := ⟨fun _ h => h, rfl, rfl⟩
theorem rc_to : Rc (gh (F.recl cl') ph env σ) (gh F ph env σ) := ⟨fun _ h => h, rfl, rfl⟩
theorem Sim.fwC (S : Sim F ph M env σ H) (lc : ∀ c C, F.cl c = some C → cl' c = some C) : Sim (F.recl cl') ph M env σ H := by
  refine ⟨S.len, S.pre, S.keep, S.n0, S.ml, S.nd, fun i d e => ?_, fun i d e => ?_, fun i d e => ?_, S.ap, fun i d e => ?_⟩
  · obtain ⟨a, q, c⟩ := S.sto i d e
    exact ⟨a, q, c.fw rc_of lc⟩
  · obtain ⟨v, q, r⟩ := S.val i d e
    exact ⟨v, q, r.fw rc_of lc⟩
  · obtain ⟨a, q, c, h⟩ := S.own i d e
    exact ⟨a, q, c.fw rc_of lc, h⟩
  · obtain ⟨a, q, n, c, h⟩ := S.brw i d e
    exact ⟨a, q, n, c.fw rc_of lc, h⟩
theorem Sim.bkC (S : Sim (F.recl cl') ph M env σ H) (lc : ∀ c C, realC c = true → cl' c = some C → F.cl c = some C) (hM : M.all purD = true) (hE : env.all purSl = true) : Sim F ph M env σ H := by
  have pe : ∀ {i : Nat} {s : Sl}, env[i]? = some s → purSl s = true := fun e => List.all_eq_true.mp hE _ (List.mem_of_getElem? e)
  refine ⟨S.len, S.pre, S.keep, S.n0, S.ml, S.nd, fun i d e => ?_, fun i d e => ?_, fun i d e => ?_, S.ap, fun i d e => ?_⟩
  · obtain ⟨a, q, c⟩ := S.sto i d e
    exact ⟨a, q, c.bk (rc_to (F := F) (cl' := cl')) lc (List.all_eq_true.mp hM _ (List.mem_of_getElem? e))⟩
  · obtain ⟨v, q, r⟩ := S.val i d e
    exact ⟨v, q, r.bk (rc_to (F := F) (cl' := cl')) lc (pe e)⟩
  · obtain ⟨a, q, c, h⟩ := S.own i d e
    exact ⟨a, q, c.bk (rc_to (F := F) (cl' := cl')) lc (pe e), h⟩
  · obtain ⟨a, q, n, c, h⟩ := S.brw i d e
    exact ⟨a, q, n, c.bk (rc_to (F := F) (cl' := cl')) lc (pe e), h⟩
/-- all slots are let go -/
theorem Sim.noAll (S : Sim F ph M env σ H) : Sim F ph M (List.replicate env.length .no) σ H := by
  have no : ∀ {i : Nat} {s : Sl}, (List.replicate env.length Sl.no)[i]? = some s → s = .no := fun e => by
    rw [List.getElem?_replicate] at e
    split at e
    · exact (Option.some.inj e).symm
    · cases e
  have sub : ∀ a, nof F (List.replicate env.length .no) σ a → nof F env σ a := fun a z => by
    rcases z with z | ⟨i, d, e, _⟩
    · exact .inl z
    · cases no e
  refine ⟨by rw [List.length_replicate]; exact S.len, S.pre, S.keep, S.n0, S.ml, S.nd, fun i d e => ?_, fun i d e => ?_, fun i d e => ?_, fun i j d e a e1 => ?_, fun i d e => ?_⟩
  · obtain ⟨a, q, c⟩ := S.sto i d e
    exact ⟨a, q, c.mo (gh_mo sub) fun _ h => h⟩
  · cases no e
  · cases no e
  · cases no e1
  · cases no e
/-- one slot is let go -/
theorem Sim.noAt {i : Nat} (S : Sim F ph M env σ H) : Sim F ph M (env.set i .no) (σ.set i none) H := by
  have at_ : ∀ {j : Nat} {s : Sl}, (env.set i .no)[j]? = some s → s ≠ .no → j ≠ i ∧ env[j]? = some s := fun e n => by
    rcases getE_set e with ⟨_, z⟩ | z
    · exact absurd z n
    · exact z
  have sub : ∀ a, nof F (env.set i .no) (σ.set i none) a → nof F env σ a := fun a z => by
    rcases z with z | ⟨j, d, e1, e2⟩
    · exact .inl z
    · obtain ⟨n, e⟩ := at_ e1 (fun z => nomatch z)
      rw [List.getElem?_set_ne (fun z => n z.symm)] at e2
      exact .inr ⟨j, d, e, e2⟩
  have m : Mo (gh F ph env σ) (gh F ph (env.set i .no) (σ.set i none)) H H := gh_mo sub
  refine ⟨by rw [List.length_set, List.length_set]; exact S.len, S.pre, S.keep, S.n0, S.ml, S.nd, fun j d e => ?_, fun j d e => ?_, fun j d e => ?_, fun j k d e a e1 e2 e3 e4 => ?_, fun j d e => ?_⟩
  · obtain ⟨a, q, c⟩ := S.sto j d e
    exact ⟨a, q, c.mo m fun _ h => h⟩
  · obtain ⟨n, e'⟩ := at_ e (fun z => nomatch z)
    obtain ⟨v, q, r⟩ := S.val j d e'
    exact ⟨v, by rw [List.getElem?_set_ne (fun z => n z.symm)]; exact q, r.mo m⟩
  · obtain ⟨n, e'⟩ := at_ e (fun z => nomatch z)
    obtain ⟨a, q, c, h⟩ := S.own j d e'
    exact ⟨a, by rw [List.getElem?_set_ne (fun z => n z.symm)]; exact q, c.mo m fun _ h => h, h⟩
  · obtain ⟨n1, e1'⟩ := at_ e1 (fun z => nomatch z)
    obtain ⟨n2, e2'⟩ := at_ e2 (fun z => nomatch z)
    rw [List.getElem?_set_ne (fun z => n1 z.symm)] at e3
    rw [List.getElem?_set_ne (fun z => n2 z.symm)] at e4
    exact S.ap j k d e a e1' e2' e3 e4
  · obtain ⟨n, e'⟩ := at_ e (fun z => nomatch z)
    obtain ⟨a, q, hn, c, h⟩ := S.brw j d e'
    exact ⟨a, by rw [List.getElem?_set_ne (fun z => n z.symm)]; exact q, hn, c.mo m fun _ h => h, h⟩
end
/-! raise C(e, ..) -/
def zRaise (c : String) (flds : List Str) (z : ZL) : ZS := fun env M => (z env M).toS env fun ds M1 => if ds.length = flds.length then .exc c (flds.zip ds).reverse env M1 else .fail
theorem RepP.appS {G : Gh} {H : Hp} {κ : Type} : ∀ {as bs : List (κ × V)} {cs ds : List (κ × D)}, RepP G H κ as cs → RepP G H κ bs ds → RepP G H κ (as ++ bs) (cs ++ ds)
  | _, _, _, _, .nil, h => h
  | _, _, _, _, .cons h t, g => .cons h (RepP.appS t g)
theorem RepP.revS {G : Gh} {H : Hp} {κ : Type} : ∀ {as : List (κ × V)} {cs : List (κ × D)}, RepP G H κ as cs → RepP G H κ as.reverse cs.reverse
  | _, _, .nil => .nil
  | _, _, .cons h t => by
    rw [List.reverse_cons, List.reverse_cons]
    exact RepP.appS (RepP.revS t) (.cons h .nil)
theorem repP_zip {G : Gh} {H : Hp} : ∀ {fs : List Str} {vs : List V} {ds : List D}, RepL G H vs ds → RepP G H Str (fs.zip vs) (fs.zip ds)
  | [], _, _, _ => .nil
  | _ :: _, _, _, .nil => .nil
  | f :: fs, _, _, .cons h t => .cons h (repP_zip t)
section
variable {X : Cx} {W : WX} {cl : String → Option Addr} {C : Addr} {c : String} {flds : List Str} {e : Expr} {es : List Expr} {pos pos' p : Pos} {x : Str} {z : ZL}
theorem zs_raise (hc : X.calm = true) (tk : Takes X W) (hC : cl c = some C) (hmk : ∀ ta, PA X (e :: es) ta → PMk X (.Call (.Name x p) (e :: es) [] pos) (tMkE C flds ta)) (ha : ZA X W cl (e :: es) z) :
    Zs X W cl (.Raise (some (.Call (.Name x p) (e :: es) [] pos)) none pos') (zRaise c flds z) := by
  obtain ⟨ta, pa, qa⟩ := ha.ex
  refine ⟨_, ps_raise hc tk (hmk ta pa), fun F ph M env σ H B h1 h2 S P => ?_⟩
  refine qa F ph M env σ H _ h1 h2 S (PoS.step P fun ds M1 ph1 H1 vs S1 f1 r1 P1 => ?_)
  split at P1
  · rename_i hl
    refine ⟨by rw [r1.length]; exact hl, fun dx hd => ?_⟩
    have f2 : Fwd ph1 H1 ph1 (upd H1 dx (.xd (flds.zip vs).reverse)) := Fwd.alloc hd
    exact P1 ph1 σ _ dx _ C (S1.alloc hd) f2.ws (by rw [h1]; exact hC) upd_same (S1.fresh hd) (RepP.mo (f2.mo S1) (RepP.revS (repP_zip r1)))
  · exact P1.elim
end
end Zy
set_option maxHeartbeats 2000000
/-! try: .. except X as e: .. -/
namespace Zy
open PySem PySem.Spec PySem.Calls PyProof.Rows L2

/-- the classes' places, with the caught error: it lies at a, its dict at d -/
def hotC (cl : String → Option Addr) (a : Addr) (d : Option Addr) (cls : Value) : String → Option Addr := fun s =>
  if s = "#a" then some a else if s = "#d" then d else if s = "#c" then (match cls with | .ref C => some C | _ => none) else cl s
theorem realC_ne {c : String} (h : realC c = true) : c ≠ "#a" ∧ c ≠ "#d" ∧ c ≠ "#c" := by
  simpa [realC] using h
theorem hotC_real {cl : String → Option Addr} {a : Addr} {d : Option Addr} {cls : Value} {c : String} (h : realC c = true) : hotC cl a d cls c = cl c := by
  obtain ⟨h1, h2, h3⟩ := realC_ne h
  unfold hotC
  rw [if_neg h1, if_neg h2, if_neg h3]
def tSb (y : ZS) (cl : String → Option Addr) (K : PySem.W.Frag) (W : WX) : TS := fun D σ H => ∃ F ph M env, F.cl = cl ∧ F.K = K ∧ Sim F ph M env σ H ∧ PoS F W env σ ph H D (y env M)
theorem Zb.pss {X : Cx} {W : WX} {cl : String → Option Addr} {sts : List Stmt} {y : ZS} (h : Zb X W cl sts y) : PSs X sts (tSb y cl X.K W) := by
  obtain ⟨t, p, q⟩ := h.ex
  exact ⟨fun pins s σ H D I ⟨F, ph, M, env, h1, h2, S, P⟩ => p.run pins s σ H D I (q F ph M env σ H D h1 h2 S P)⟩
def catchO (i : Nat) : Out → Out
  | .rt d M => if purD d = true ∧ M.all purD = true then .rt d M else .fail
  | .nx env M => if (env.set i .no).all purSl = true ∧ M.all purD = true then .nx (env.set i .no) M else .fail
  | _ => .fail
/-- sub: whether the clause takes errors of the class -/
def zTry (sub : String → Option Bool) (i : Nat) (y z : ZS) : ZS := fun env M => match y env M with
  | .exc c fs env1 M1 => (match sub c with
    | some true => catchO i (z (env1.set i (.val (.exn c fs))) M1)
    | some false => .exc c fs env1 M1
    | none => .fail)
  | o => o
section
variable {F : Fr} {ph ph' : List Addr} {M M' : Sto} {env env' : Ev} {σ σ' : St} {H H' : Hp} {cl' : String → Option Addr}
theorem Fws.ofC (f : Fws (F.recl cl') ph env σ H ph' env' σ' H') : Fws F ph env σ H ph' env' σ' H' := ⟨f.ext, f.keep, f.own, f.there⟩
theorem Fws.noAll : Fws F ph env σ H ph (List.replicate env.length .no) σ H := by
  refine ⟨⟨[], by simp, fun a h => by simp at h⟩, fun _ _ e _ => e, fun a z => .inl ?_, fun a o e => ⟨o, e⟩⟩
  rcases z with z | ⟨i, d, e, _⟩
  · exact .inl z
  · rw [List.getElem?_replicate] at e
    split at e <;> cases e
theorem no_pur (n : Nat) : (List.replicate n Sl.no).all purSl = true := by
  rw [List.all_eq_true]
  intro s hs
  rw [(List.mem_replicate.mp hs).2]
  rfl
end
section
variable {X : Cx} {W : WX} {cl : String → Option Addr} {x n : Str} {hv : Value} {i : Nat} {body suite : List Stmt} {b₀ : Stmt} {np pos pos' : Pos} {y z : ZS} {sub : String → Option Bool}
theorem zs_try (hs : X.stack = X.env :: X.outer) (hf : X.env.frame = some X.env.locals) (hN : X.N.Nodup) (hi : X.N[i]? = some n) (hln : X.env.kindOf n = some .local) (hc : Names X x hv) (tk : Takes X W)
    (hb : ∀ W' pn xe, Takes (X.tr pn xe) W' → PassesOwn (model X.prog X.w) X.A X.env xe → Zb (X.tr pn xe) W' cl body y)
    (hz : ∀ (a : Addr) (oe : Obj) (cls : Value) (d : Option Addr) (pn : List (Addr × Obj)), Zc cls d oe → (∃ vs, oe.data = .fields vs) → Zb (X.suite a ((a, oe) :: pn)) Wf (hotC cl a d cls) (b₀ :: suite) z)
    (hsub : ∀ c C b, sub c = some b → cl c = some C → PySem.W.exmOne X.K (.ref C) hv = some b) (hcl : ∀ s, realC s = false → cl s = none) :
    Zs X W cl (.Try body [.ExceptHandler (some (.Name x np)) (some n) (b₀ :: suite) pos'] [] [] pos) (zTry sub i y z) := by
  refine ⟨_, ps_try_as (tb := fun W' => tSb y cl X.K W') (ts := fun a cls d => tSb z (hotC cl a d cls) X.K Wf) hs hf hN hi hln hc tk (fun W' pn xe t p => (hb W' pn xe t p).pss) (fun a oe cls d pn h1 h2 => (hz a oe cls d pn h1 h2).pss), fun F ph M env σ H D h1 h2 S P => ⟨F, ph, M, env, h1, h2, S, ?_⟩⟩
  unfold zTry at P
  cases ho : y env M with
  | nx env' M' => rw [ho] at P; exact P
  | bk env' M' => rw [ho] at P; exact P
  | ct env' M' => rw [ho] at P; exact P
  | rt d M' => rw [ho] at P; exact P
  | fail => rw [ho] at P; exact P
  | exc c fs env1 M1 =>
    rw [ho] at P
    simp only at P
    intro ph1 σ1 H1 dx f C S1 f1 hC hdx nn rr
    have hC' : cl c = some C := by rw [← h1]; exact hC
    have real : ∀ c C, F.cl c = some C → realC c = true := fun c C e => by
      cases q : realC c with
      | true => rfl
      | false => rw [h1, hcl c q] at e; cases e
    cases hsb : sub c with
    | none => rw [hsb] at P; exact P.elim
    | some b =>
      rw [hsb] at P
      refine ⟨b, hsub c C b hsb hC', fun hb1 a ha => ?_, fun hb1 => ?_⟩
      · subst hb1
        simp only at P
        have lc : ∀ c C', F.cl c = some C' → hotC cl a (some dx) (.ref C) c = some C' := fun c C' e => by rw [hotC_real (real c C' e), ← h1]; exact e
        have lb : ∀ c C', realC c = true → hotC cl a (some dx) (.ref C) c = some C' → F.cl c = some C' := fun c C' hr e => by rw [hotC_real hr, ← h1] at e; exact e
        have S2 := S1.fwC lc
        have hx : Rep (gh (F.recl (hotC cl a (some dx) (.ref C))) ph1 env1 σ1) H1 (.ref a) (.exn c fs) :=
          .exn (show hotC cl a (some dx) (.ref C) "#a" = some a by unfold hotC; rw [if_pos rfl]) (show hotC cl a (some dx) (.ref C) "#d" = some dx by unfold hotC; rw [if_neg (by decide), if_pos rfl]) (show hotC cl a (some dx) (.ref C) "#c" = some C by unfold hotC; rw [if_neg (by decide), if_neg (by decide), if_pos rfl]) (lc c C hC) hdx nn (rr.fw rc_of lc)
        have S3 := S2.setV (i := i) hx
        refine ⟨F.recl (hotC cl a (some dx) (.ref C)), ph1, M1, _, rfl, h2, S3, ?_⟩
        have fs1 : Fws F ph env σ H ph1 (env1.set i (.val (.exn c fs))) (σ1.set i (some (.ref a))) H1 := f1.trans (Fws.setV fun _ e => nomatch e)
        cases hq : z (env1.set i (.val (.exn c fs))) M1 with
        | nx env2 M2 =>
          rw [hq] at P
          unfold catchO at P
          simp only at P
          split at P
          · rename_i hp
            intro ph2 σ2 H2 S4 f4
            exact P ph2 _ H2 (S4.noAt.bkC lb hp.2 hp.1) (fs1.trans (f4.ofC.trans (Fws.setV fun _ e => nomatch e)))
          · exact P.elim
        | rt d M2 =>
          rw [hq] at P
          unfold catchO at P
          simp only at P
          split at P
          · rename_i hp
            intro ph2 env2 σ2 H2 v S4 f4 r4
            exact P ph2 _ σ2 H2 v (S4.noAll.bkC lb hp.2 (no_pur _)) (fs1.trans (f4.ofC.trans Fws.noAll)) (Rep.bk (G := gh0 (F.recl (hotC cl a (some dx) (.ref C))) ph2) (G' := gh0 F ph2) ⟨fun _ h => h, rfl, rfl⟩ lb r4 hp.1)
          · exact P.elim
        | bk env2 M2 => rw [hq] at P; exact P.elim
        | ct env2 M2 => rw [hq] at P; exact P.elim
        | exc c2 fs2 env2 M2 => rw [hq] at P; exact P.elim
        | fail => rw [hq] at P; exact P.elim
      · subst hb1
        simp only at P
        exact P ph1 σ1 H1 dx f C S1 f1 hC hdx nn rr
end
/-! in the suite -/
def zXat (ok : String → Str → Bool) (f : Str) (z : ZX) : ZX := fun env M => (z env M).bind fun d M1 => match d with
  | .exn c fs => if realC c = true ∧ ok c f = true then (match fs.lookup f with
    | some v => .ok v M1
    | none => .fail) else .fail
  | _ => .fail
def zXis (sub : String → Option Bool) (z : ZX) : ZX := fun env M => (z env M).bind fun d M1 => match d with
  | .exn c _ => if realC c = true then (match sub c with
    | some b => .ok (.bl b) M1
    | none => .fail) else .fail
  | _ => .fail
section
variable {X : Cx} {W : WX} {cl : String → Option Addr} {e : Expr} {z : ZX} {a : Addr} {oe : Obj} {cls : Value} {d : Option Addr} {pn : List (Addr × Obj)} {f : Str} {p p2 pos : Pos}
theorem exn_inv {F : Fr} {ph : List Addr} {env : Ev} {σ : St} {H : Hp} {v : V} {c : String} {fs : List (Str × D)} (h1 : F.cl = hotC cl a d cls) (r : Rep (gh F ph env σ) H v (.exn c fs)) :
    v = .ref a ∧ ∃ dd C f, d = some dd ∧ cls = .ref C ∧ (realC c = true → cl c = some C) ∧ H dd = some (.xd f) ∧ RepP (gh F ph env σ) H Str f fs := by
  cases r with
  | @exn a' dd C' c f fs ha hd hC hc h n r =>
    have ha' : F.cl "#a" = some a' := ha
    have hd' : F.cl "#d" = some dd := hd
    have hC' : F.cl "#c" = some C' := hC
    have hc' : F.cl c = some C' := hc
    rw [h1] at ha' hd' hC' hc'
    unfold hotC at ha' hd' hC'
    rw [if_pos rfl] at ha'
    cases ha'
    rw [if_neg (by decide), if_pos rfl] at hd'
    rw [if_neg (by decide), if_neg (by decide), if_pos rfl] at hC'
    subst hd'
    cases cls with
    | ref C =>
      cases hC'
      exact ⟨rfl, dd, _, f, rfl, rfl, fun hr => by rw [hotC_real hr] at hc'; exact hc', h, r⟩
    | _ => cases hC'
theorem ze_xat {ok : String → Str → Bool} (hok : ∀ c C, realC c = true → ok c f = true → cl c = some C → XfC X.K C ∧ PySem.W.findIn X.K (.ref C) f = some none) (hz : Zc cls d oe) (hf : ∃ vs, oe.data = .fields vs)
    (he : ZE (X.suite a ((a, oe) :: pn)) W (hotC cl a d cls) e z) (hb : attributeBase e f X.env (eval e X.env) = eval e X.env) : ZE (X.suite a ((a, oe) :: pn)) W (hotC cl a d cls) (.Attribute e f pos) (zXat ok f z) := by
  obtain ⟨t, pe, q⟩ := he.ex
  by_cases hc : ∃ C, cls = .ref C ∧ XfC X.K C ∧ PySem.W.findIn X.K (.ref C) f = some none
  · obtain ⟨C, rfl, x1, x2⟩ := hc
    refine ⟨_, pe_xf x1 x2 hz hf pe hb, fun F ph M env σ H Q h1 h2 S P => q F ph M env σ H _ h1 h2 S (P.step fun dv M1 ph1 H1 v S1 f1 r1 P1 => ?_)⟩
    split at P1
    · rename_i c fs
      split at P1
      · split at P1
        · rename_i w hw
          obtain ⟨rfl, dd, C', ff, e1, e2, _, e4, e5⟩ := exn_inv h1 r1
          obtain ⟨u, q1, q2⟩ := e5.look hw
          exact ⟨rfl, rfl, dd, ff, u, e1, e4, q1, P1.now S1 q2⟩
        · exact P1.elim
      · exact P1.elim
    · exact P1.elim
  · refine ⟨fun σ H Q => t σ H fun _ _ => False, ⟨fun pins s σ H Q I h => attr_of hb (thn (pe.run pins s σ H _ I h) fun u s1 ⟨_, _, _, _, z⟩ => z.elim)⟩, fun F ph M env σ H Q h1 h2 S P => q F ph M env σ H _ h1 h2 S (P.step fun dv M1 ph1 H1 v S1 f1 r1 P1 => ?_)⟩
    split at P1
    · rename_i c fs
      split at P1
      · rename_i hr
        obtain ⟨_, dd, C', ff, e1, e2, e3, _, _⟩ := exn_inv h1 r1
        exact hc ⟨C', e2, hok c C' hr.1 hr.2 (e3 hr.1)⟩
      · exact P1.elim
    · exact P1.elim
/-- what isinstance asks of the caught error's class -/
structure KitC (K : PySem.W.Frag) (C : Addr) : Prop where
  hcl : (PySem.W.clsIn K C).isSome = true
  ha : PySem.W.findIn K (.ref C) "__class__" = some (some (.builtin "object.__class__"))
  hn : PySem.W.specialIn K (.builtin "object.__class__") "__get__" = some (some (.builtin "getset_descriptor.__get__"))
  ht : PySem.W.takesIn K (.builtin "object.__class__") = some true
  hm : PySem.W.mroIn K C (.type "object") = some true
/-- isinstance(e, c) -/
def rXi (K : PySem.W.Frag) (D a : Addr) (d : Option Addr) : List V → Hp → VK → Prop := fun xs H Q => ∃ (c : V) (cv : Value) (b : Bool) (dd : Addr) (f : List (Str × V)), xs = [.ref a, c] ∧ (∀ u, RelV c u → u = cv) ∧ d = some dd ∧ H dd = some (.xd f) ∧ PySem.W.kitOne K (.ref D) cv = some b ∧ Q (.bl b) H
theorem exc_at {D : Addr} {pins : List (Addr × Obj)} {σ : St} {H : Hp} {s : Shared} {dd : Addr} {ff : List (Str × V)} (hz : Zc (.ref D) (some dd) oe) (hf : ∃ vs, oe.data = .fields vs) (I : Inv (X.suite a ((a, oe) :: pn)) pins σ H s) (hd : H dd = some (.xd ff)) : ∃ od, PySem.W.InstAt s.heap a oe D (some od) := by
  obtain ⟨hget, _⟩ := I.pin (a, oe) (List.mem_append.mpr (.inl List.mem_cons_self))
  have hx : ObjOk X.prog X.w H s.heap dd (.xd ff) := I.hok dd _ hd
  obtain ⟨mA, hns, _⟩ := hx
  obtain ⟨od, ho, _⟩ := lookIn_ns hns
  obtain ⟨vs, hv⟩ := hf
  exact ⟨od, hget, hz.1, by unfold PySem.W.notCls; rw [hv] <;> rfl, by rw [hz.2]; exact ho⟩
theorem call_xi {D : Addr} (T : XfC X.K D) (k : KitC X.K D) (hz : Zc (.ref D) d oe) (hf : ∃ vs, oe.data = .fields vs) : CallR (X.suite a ((a, oe) :: pn)) (.builtin "isinstance") (rXi X.K D a d) := by
  intro pins s σ H xs us Q I r h
  obtain ⟨c, cv, b, dd, ff, rfl, hcv, rfl, hd, e, q⟩ := h
  obtain ⟨u1, u2, rfl, r1, r2⟩ := vals2 r
  obtain rfl : u1 = Value.ref a := r1
  have ec := hcv _ r2
  subst ec
  obtain ⟨od, J⟩ := exc_at hz hf I hd
  exact PySem.W.kia_one (PySem.W.kitx_exc k.hcl T.ga T.gg T.exC k.ha k.hn k.ht k.hm) I.kIn J e (fun z => nomatch z) fun tk => ⟨.bl b, H, I.tok tk, rfl, q⟩
theorem ze_xis {T : Str} {tv : V} {cv : Value} {sub : String → Option Bool} (hg : Gl X "isinstance") (hm : X.mg "isinstance" = none) (hT : PE (X.suite a ((a, oe) :: pn)) (.Name T p2) (tC tv)) (hcv : ∀ u, RelV tv u → u = cv)
    (hsub : ∀ c C b, realC c = true → sub c = some b → cl c = some C → PySem.W.kitOne X.K (.ref C) cv = some b ∧ XfC X.K C ∧ KitC X.K C) (hz : Zc cls d oe) (hf : ∃ vs, oe.data = .fields vs)
    (he : ZE (X.suite a ((a, oe) :: pn)) W (hotC cl a d cls) e z) (hst : nostar e = true) : ZE (X.suite a ((a, oe) :: pn)) W (hotC cl a d cls) (.Call (.Name "isinstance" p) [e, .Name T p2] [] pos) (zXis sub z) := by
  obtain ⟨t, pe, q⟩ := he.ex
  by_cases hc : ∃ C, cls = .ref C ∧ XfC X.K C ∧ KitC X.K C
  · obtain ⟨C, rfl, x1, x2⟩ := hc
    refine ⟨_, pe_callB (call_xi x1 x2 hz hf) hg hm (by decide +kernel) (pa_cons pe (pa_cons hT pa_nil) (star_ok hst)) (by decide) (by decide) (star_ok hst) (by rfl), fun F ph M env σ H Q h1 h2 S P => q F ph M env σ H _ h1 h2 S (P.step fun dv M1 ph1 H1 v S1 f1 r1 P1 => ?_)⟩
    split at P1
    · rename_i c fs
      split at P1
      · rename_i hr
        split at P1
        · rename_i b hb
          obtain ⟨rfl, dd, C', ff, e1, e2, e3, e4, _⟩ := exn_inv h1 r1
          cases e2
          exact ⟨tv, cv, b, dd, ff, rfl, hcv, e1, e4, (hsub c _ b hr hb (e3 hr)).1, P1.now S1 (.bl b)⟩
        · exact P1.elim
      · exact P1.elim
    · exact P1.elim
  · refine ⟨_, pe_callB (id := "isinstance") (r := fun _ _ _ => False) (fun _ _ _ _ _ _ _ _ _ z => z.elim) hg hm (by decide +kernel) (pa_cons pe (pa_cons hT pa_nil) (star_ok hst)) (by decide) (by decide) (star_ok hst) (by rfl), fun F ph M env σ H Q h1 h2 S P => q F ph M env σ H _ h1 h2 S (P.step fun dv M1 ph1 H1 v S1 f1 r1 P1 => ?_)⟩
    split at P1
    · rename_i c fs
      split at P1
      · rename_i hr
        split at P1
        · rename_i b hb
          obtain ⟨_, dd, C', ff, e1, e2, e3, _, _⟩ := exn_inv h1 r1
          exact hc ⟨C', e2, (hsub c C' b hr hb (e3 hr)).2⟩
        · exact P1.elim
      · exact P1.elim
    · exact P1.elim
end
end Zy
set_option maxHeartbeats 2000000
/-! what the head tells of own errors -/
namespace Zy
open PySem PySem.Spec PySem.Calls PyProof.Rows L2

def oexB (K : Fg) (C : Addr) : Bool := (match K.lookup C with
  | some ⟨.type "type", _, .cls cd, sl⟩ => (match cd.mro, sl.toList with
    | .ref C' :: bm, [_, _, _, _, some (.builtin n), _] => decide (C' = C) && (decide (n = "ValueError.__new__") && (!cd.hasDel && (cd.hasDict && PySem.HandSPX.refsVE bm)))
    | _, _ => false)
  | _ => false) && (eqF (PySem.W.findIn K (.ref C) "__setattr__") (some (some (.builtin "object.__setattr__"))) && (decide (PySem.W.subIn K (.ref C) (.type "BaseException") = some true) && (decide (PySem.W.typeIn K (.ref C) = some (.type "type")) && PySem.W.keepIn K (.ref C))))
theorem oexB_ok {K : Fg} {C : Addr} (h : oexB K C = true) : OexC K C := by
  unfold oexB at h
  simp only [Bool.and_eq_true, decide_eq_true_eq] at h
  obtain ⟨h0, h1, h2, h3, h4⟩ := h
  refine ⟨?_, eqF_ok h1, h2, h3, h4⟩
  split at h0
  · rename_i dd cd sl ho
    split at h0
    · rename_i C' bm k0 k1 k2 k3 n k5 hm hs
      simp only [Bool.and_eq_true, decide_eq_true_eq, Bool.not_eq_true'] at h0
      obtain ⟨rfl, rfl, hdel, hd, hr⟩ := h0
      obtain ⟨nm, bs, mro, ns, qn, hdc, sn, sub, ab, col, del⟩ := cd
      dsimp only at hm hdel hd
      subst hm hdel hd
      have hsl : sl = #[k0, k1, k2, k3, some (.builtin "ValueError.__new__"), k5] := by
        obtain ⟨l⟩ := sl
        simp only at hs
        rw [hs]
      subst hsl
      exact ⟨nm, qn, ns, bs, bm, sn, sub, ab, col, dd, k0, k1, k2, k3, k5, ho, hr⟩
    · cases h0
  · cases h0
def fileB (K : Fg) (cda : Addr) (file : Str) : Bool := match K.lookup cda with
  | some ⟨_, _, .fields vs, _⟩ => (match (vs : Array Value)[2]? with
    | some (Value.str f _) => file == f
    | _ => false)
  | _ => false
def okE (K : Fg) (a : Addr) (d : DfZ) (file : Str) : Bool := match K.lookup a with
  | some ob => (match ob.data with
    | .func fd => decide (fd.defaults = .none) && (match fd.code with
      | .ref cda => PySem.W.codeIn K (.ref cda) d.qual && fileB K cda file
      | _ => false)
    | _ => false)
  | none => false
def errB (file : Str) (K : Fg) (x : Xi) (d : DfZ) : Bool := oexB K (He.ga K x.name) && (eqF (PySem.W.findIn K (.ref (He.ga K x.name)) "__init__") (some (some (.ref (d.adr K)))) && (decide (PySem.W.typeIn K (.ref (d.adr K)) = some (.type "function")) && (okE K (d.adr K) d file &&
  (decide (PySem.W.mroIn K (He.ga K x.name) (.ref (He.ga K x.name)) = some true) && (eqF (PySem.W.nsIn K cStatics "thirdparty.any") (some none) && (eqF (PySem.W.ks_superIn K (He.ga K x.name) (He.ga K x.name) "__init__") (some (some (.builtin "ValueError.__init__"))) &&
  decide (PySem.W.subIn K (.ref (He.ga K x.name)) (.type "ValueError") = some true)))))))
def pairB (K : Fg) (x y : Xi) : Bool := decide (PySem.W.exmOne K (.ref (He.ga K x.name)) (.ref (He.ga K y.name)) = some (x.sub.contains y.c)) && decide (PySem.W.kitOne K (.ref (He.ga K x.name)) (.ref (He.ga K y.name)) = some (x.sub.contains y.c))
def xiB (file : Str) (xs : List Xi) (K : Fg) (x : Xi) : Bool := gloB K x.name && (xfB K (He.ga K x.name) && (insB K x.name && (x.flds.all (noatB K x.name) && (x.init.all (errB file K x) && (xs.all (pairB K x) && decide (PySem.W.kitOne K (.ref (He.ga K x.name)) (.type "ValueError") = some true))))))
theorem insB_kit {K : Fg} {x : Str} (h : insB K x = true) (hc : (PySem.W.clsIn K (He.ga K x)).isSome = true) : KitC K (He.ga K x) := by
  simp only [insB, Bool.and_eq_true, decide_eq_true_eq] at h
  exact ⟨hc, eqF_ok h.1, eqF_ok h.2.1, h.2.2.1, h.2.2.2⟩
theorem xf_cls {K : Fg} {C : Addr} (h : XfC K C) : (PySem.W.clsIn K C).isSome = true := by
  obtain ⟨cd, hc, _⟩ := PySem.W.any_some h.hdC
  rw [hc]
  rfl
/-- what is decided of an error's __init__ by its text -/
structure ErT (x : Xi) (d : DfZ) (ps : List Str) : Prop where
  nm : d.name = ("__init__" : Str)
  body : ∃ st, errOf d.body = some st ∧ st.map (·.1) = x.flds ∧ st.map (·.2) = ps
  ne : x.flds ≠ []
  l9 : x.flds.length ≤ 900
  nd : (("self" : Str) :: ps).Nodup
  ok : ps.all (fun p => decide (d.scope.names.lookup p = some .local) && !(p == ("__debug__" : Str))) = true
  bind : ∀ (cl : List (Str × Addr)) (kV doc pm : Value) (an : Option Addr) (cdv ct : Value) (us : List Value), us.length = ps.length + 1 → bindArgs (PySem.W.fnX d.name d.qual d.params d.body d.scope cl .none kV doc pm an cdv ct) ⟨us, []⟩ = pure ((("self" : Str) :: ps).zip us)
  head : ∃ ar, (d.params.posonlyargs ++ d.params.args).head? = some ar ∧ ar.arg = ("self" : Str)
  kind : d.scope.kind = .function
  co : d.scope.isCoroutine = false
  gen : d.scope.isGenerator = false
  cells : ∀ x ∈ d.scope.names, x.2 ≠ .cell
  ks : d.scope.names.lookup ("super" : Str) = some .globalImplicit
  kc : d.scope.names.lookup ("__class__" : Str) = some .free
  kself : d.scope.names.lookup ("self" : Str) = some .local
theorem erK_of {P : Program} {K : Fg} {x : Xi} {d : DfZ} {ps : List Str} {file : Str} (T : ErT x d ps) (h : errB file K x d = true) (hs : seenE K (d.adr K) (He.ga K x.name) = d.saidZ) (hno : x.flds.all (noatB K x.name) = true)
    (hfile : (P.main.file : Str) = file) (htop : (P.main.scope.names.lookup ("super" : Str)).isSome = false) :
    ∃ fI cc cda fd kV doc pm an ct, ErK P K (He.ga K x.name) fI cc cda d.qual d.params d.body d.scope fd x.flds ∧ fd = PySem.W.fnX d.name d.qual d.params d.body d.scope [("__class__", cc)] .none kV doc pm an (.ref cda) ct := by
  simp only [errB, Bool.and_eq_true, decide_eq_true_eq] at h
  obtain ⟨h1, h2, h3, h4, h5, h6, h7, h8⟩ := h
  unfold seenE DfZ.saidZ at hs
  cases q : K.lookup (d.adr K) with
  | none => rw [q] at hs; cases hs
  | some ob =>
    obtain ⟨oc, od, dt, osl⟩ := ob
    rw [q] at hs
    unfold okE at h4
    rw [q] at h4
    cases dt with
    | func fd =>
      obtain ⟨m1, m2, m3, m4, m5, m6, m7, m8, m9, m10, m11, m12, m13, m14, m15⟩ := fd
      simp only [Bool.and_eq_true, decide_eq_true_eq] at h4 hs
      obtain ⟨hdf, hcode⟩ := h4
      subst hdf
      split at hs
      · rename_i l0 nn cc
        split at hs
        · rename_i hn
          obtain ⟨rfl, hcell⟩ := hn
          simp only [Option.some.injEq, Prod.mk.injEq] at hs
          obtain ⟨rfl, rfl, rfl, rfl, rfl, rfl, _, rfl⟩ := hs
          split at hcode
          · rename_i cda
            simp only [Bool.and_eq_true] at hcode
            obtain ⟨hco, hfi⟩ := hcode
            unfold fileB at hfi
            unfold cellB at hcell
            split at hcell
            · rename_i ccl ccd D csl hcc
              have hD : D = He.ga K x.name := of_decide_eq_true hcell
              subst hD
              split at hfi
              · rename_i fcl fdd vs fsl hcd
                split at hfi
                · rename_i f tf hv
                  refine ⟨d.adr K, cc, cda, _, _, _, _, _, _, ⟨oexB_ok h1, eqF_ok h2, h3, ⟨oc, od, osl, .none, _, _, _, _, _, by rw [T.nm], q⟩, hco, ⟨_, _, vs, _, f, tf, hcd, hv, by rw [hfile]; exact hfi⟩, ⟨_, _, _, hcc⟩, h5, eqF_ok h6, eqF_ok h7, h8, fun f hf => eqF_ok (List.all_eq_true.mp hno f hf), T.head, htop, T.kind, T.co, T.gen, T.cells, T.ks, T.kc, T.kself⟩, rfl⟩
                · cases hfi
              · cases hfi
            · cases hcell
          · cases hcode
        · cases hs
      · cases hs
    | _ => cases hs
/-- an error of the text, ready to be made -/
theorem mk_of_text {X : Cx} {C fI cc cda : Addr} {x : Str} {fd : FuncData} {k : Nat} {e : Expr} {es : List Expr} {ta : TA} {p pos : Pos} {xi : Xi} {d : DfZ} {ps : List Str} {kV doc pm : Value} {an : Option Addr} {ct : Value} (T : ErT xi d ps)
    (R : ErK X.prog X.K C fI cc cda d.qual d.params d.body d.scope fd xi.flds) (hfd : fd = PySem.W.fnX d.name d.qual d.params d.body d.scope [("__class__", cc)] .none kV doc pm an (.ref cda) ct) (hsup : X.mg ("super" : Str) = none)
    (hr : Room (k + 1) X.A) (hg : Gl X x) (hm : X.mg x = some (.ref C)) (ha : PA X (e :: es) ta) (hdb : (x == ("__debug__" : Str)) = false) (he : nostar e = true) (hpl : (backTo pos (starEach es X.env)).any (·.1) = false) :
    PMk X (.Call (.Name x p) (e :: es) [] pos) (tMkE C xi.flds ta) := by
  obtain ⟨st, b1, b2, b3⟩ := T.body
  have l : st.length = xi.flds.length := by rw [← b2, List.length_map]
  have lp : ps.length = st.length := by rw [← b3, List.length_map]
  refine pmk_er (k := k) R b1 b2 (by rw [l]; exact T.l9) (fun z => T.ne (by rw [← b2, z]; rfl)) (by rw [b3]; exact T.nd) (fun q hq => ?_) (fun s us hu => ?_) hsup hr hg hm ha hdb he hpl
  · have hp : q.2 ∈ ps := by rw [← b3]; exact List.mem_map_of_mem hq
    have := List.all_eq_true.mp T.ok q.2 hp
    simp only [Bool.and_eq_true, decide_eq_true_eq, Bool.not_eq_true'] at this
    exact this
  · rw [b3, hfd]
    exact .of_eq (T.bind _ _ _ _ _ _ _ us (by rw [lp]; exact hu))
/-! math.gcd under a name of the module -/
def gGcd : GB := fun ds M => match ds with
  | [.int i, .int j] => .ok (.int (Nat.gcd i.natAbs j.natAbs : Nat)) M
  | _ => .fail
section
variable {X : Cx} {W : WX} {cl : String → Option Addr} {a b : Expr} {za zb : ZX} {p pos : Pos} {x : Str}
theorem bz_gcd : BfZ X W cl rGcd gGcd := by
  intro F ph M env σ H Q xs ds h1 h2 S r P
  unfold gGcd at P
  split at P
  · rename_i i j
    obtain ⟨x, y, rfl, rx, ry⟩ := r.two
    exact ⟨i, j, by rw [int_of rx, int_of ry], P.now S (.int _)⟩
  · exact P.elim
theorem ze_gcd (hg : Gl X x) (hm : X.mg x = some (.builtin "math.gcd")) (hdb : (x == ("__debug__" : Str)) = false) (ha : ZC X W cl a za) (hb : ZC X W cl b zb) (n : nostar a = true) (n' : nostar b = true) :
    ZE X W cl (.Call (.Name x p) [a, b] [] pos) (zBf gGcd (zCons za (zCons zb zNil))) := by
  obtain ⟨t, pa, q⟩ := (zk_cons ha (zk_cons hb zk_nil n') n).ex
  exact ⟨_, pe_callBfun cr_gcd hg hm pa hdb (star_ok n) (backTo_two n'), fun F ph M env σ H Q h1 h2 S P => q F ph M env σ H _ h1 h2 S (P.step fun ds M1 ph1 H1 xs S1 f1 r1 P1 => bz_gcd F ph1 M1 env σ H1 Q xs ds h1 h2 S1 r1 P1)⟩
end
def gcdB (K : Fg) (x : Str) : Bool := eqF (PySem.W.nsIn K mainGlobals x) (some (some (.builtin "math.gcd")))
end Zy
set_option maxHeartbeats 2000000
namespace Zy
open PySem PySem.Spec PyProof.Rows L2

/-! list comprehensions of two clauses -/
def tI (W : WX) (cl : String → Option Addr) (K : PySem.W.Frag) (z : ZL) : TI := fun σ H R => ∃ F ph M env, F.cl = cl ∧ F.K = K ∧ Sim F ph M env σ H ∧ PoI F W env σ ph H R (z env M)
theorem Zi.pi {X : Cx} {W : WX} {cl : String → Option Addr} {tg e : Expr} {z : ZL} (h : Zi X W cl tg e z) : PI X tg e (tI W cl X.K z) := by
  obtain ⟨t, p, q⟩ := h.ex
  exact ⟨fun pins s σ H Q I ⟨F, ph, M, env, h1, h2, S, P⟩ => p.run pins s σ H Q I (q F ph M env σ H Q h1 h2 S P)⟩
def lcK (k : List D → Sto → Res D) : Res D → Res D
  | .ok (.lst acc) M => k acc M
  | _ => .fail
def zLc2L (gz : ZTg) (zt : ZB) (zi1 : ZL) (gz1 : ZTg) (zt1 : ZB) (ze : ZX) (vs1 : List Nat) (envb : Ev) : List D → List D → Sto → Res D
  | [], acc, M => .ok (.lst acc) M
  | d :: ds, acc, M => match gz d envb with
    | some envc => match zt envc M with
      | .ok true M1 => match zi1 envc M1 with
        | .ok ds1 M2 => if noOwn envc vs1 = true then lcK (zLc2L gz zt zi1 gz1 zt1 ze vs1 envb ds) (zLcL gz1 zt1 ze (wipeE envc vs1) ds1 acc M2) else .fail
        | _ => .fail
      | .ok false M1 => zLc2L gz zt zi1 gz1 zt1 ze vs1 envb ds acc M1
      | _ => .fail
    | none => .fail
def zLc2 (zi : ZL) (gz : ZTg) (zt : ZB) (zi1 : ZL) (gz1 : ZTg) (zt1 : ZB) (ze : ZX) (vs vs1 : List Nat) : ZX := fun env M => (zi env M).bind fun ds M1 => if noOwn env vs = true then zLc2L gz zt zi1 gz1 zt1 ze vs1 (wipeE env vs) ds [] M1 else .fail
theorem Fws.wr {F : Fr} {ph : List Addr} {env : Ev} {σ : St} {H : Hp} {a : Addr} {o o' : HO} (hn : F.N0 a) (ha : H a = some o) : Fws F ph env σ H ph env σ (upd H a o') := by
  refine ⟨⟨[], by simp, fun a h => by simp at h⟩, fun b u e n => ?_, fun a z => .inl z, fun b u e => ?_⟩
  · rw [upd_ne (show b ≠ a from fun z => n (by rw [z]; exact .inl (.inl hn)))]
    exact e
  · by_cases h : b = a
    · exact ⟨o', by rw [h]; exact upd_same⟩
    · exact ⟨u, by rw [upd_ne h]; exact e⟩
theorem Fwd.wr {ph ph1 : List Addr} {H1 H : Hp} {a : Addr} {o' : HO} (f : Fwd ph1 H1 ph H) (hn : H1 a = none) : Fwd ph1 H1 ph (upd H a o') := by
  refine ⟨f.ext, fun b u e n => ?_, fun b u e => ?_⟩
  · rw [upd_ne (ne_of_none e hn)]
    exact f.keep b u e n
  · rw [upd_ne (ne_of_none e hn)]
    exact f.there b u e
section
variable {X : Cx} {W : WX} {cl : String → Option Addr}
theorem lc2_run {zi zi1 : ZL} {gz gz1 : ZTg} {zt zt1 : ZB} {ze : ZX} {is is1 vs vs1 : List Nat} {wi : TI} {g g1 : TG} {F : Fr} {ph : List Addr} {M : Sto} {env : Ev} {σ : St} {H : Hp} {Q : VK}
    (qi : ∀ F ph M env σ H R, F.cl = cl → F.K = X.K → Sim F ph M env σ H → PoI F W env σ ph H R (zi env M) → wi σ H R)
    (hg : RunT X.K is gz g) (hg1 : RunT X.K is1 gz1 g1)
    (hv : ∀ i ∈ is, i ∈ vs) (hv1 : ∀ i ∈ is1, i ∈ vs1) (h1 : F.cl = cl) (h2 : F.K = X.K) (S : Sim F ph M env σ H) (P : PoF F W env σ ph H Q (zLc2 zi gz zt zi1 gz1 zt1 ze vs vs1 env M)) :
    tLc2 wi g (tB Wf cl X.K zt) (tI Wf cl X.K zi1) g1 (tB Wf cl X.K zt1) (tE Wf cl X.K ze) vs vs1 σ H Q := by
  refine qi F ph M env σ H _ h1 h2 S (PoF.step P fun ds M1 ph1 H1 J S1 f1 r1 P1 => ?_)
  have IO : ItOk F ph1 env σ H1 J ds := r1
  by_cases hno : noOwn env vs = true
  · rw [if_pos hno] at P1
    intro A hA
    obtain ⟨S2, m2⟩ := S1.lay (o := .lst []) hA
    refine ⟨fun i m H2 => m = ds.length - i ∧ i ≤ ds.length ∧ ∃ ph2 M2 acc xs, Sim (F.plus A) ph2 M2 env σ H2 ∧ Fwd ph1 H1 ph2 H2 ∧ H2 A = some (.lst xs) ∧ RepL (gh (F.plus A) ph2 env σ) H2 xs acc ∧
      PoF F W env σ ph1 H1 Q (zLc2L gz zt zi1 gz1 zt1 ze vs1 (wipeE env vs) (ds.drop i) acc M2), ⟨ds.length, rfl, Nat.zero_le _, ph1, M1, [], [], S2, Fwd.alloc hA, upd_same, .nil, P1⟩, ?_⟩
    rintro i m H2 ⟨rfl, hi, ph2, M2, acc, xs, S3, f3, hx, rx, P3⟩
    obtain ⟨st, go⟩ := IO (F.plus A) ph2 M2 env σ H2 (FrEx.plus hA) S3 f3.ws
    by_cases hlt : i < ds.length
    · have ed : ds.drop i = ds[i] :: ds.drop (i + 1) := List.drop_eq_getElem_cons hlt
      obtain ⟨go1, yl⟩ := go i ds[i] (List.getElem?_eq_getElem hlt)
      rw [ed] at P3
      unfold zLc2L at P3
      generalize hrest : zLc2L gz zt zi1 gz1 zt1 ze vs1 (wipeE env vs) (ds.drop (i + 1)) = rest at P3
      refine .inr ⟨go1, fun H' => ∃ ph2 M2 acc xs, Sim (F.plus A) ph2 M2 env σ H' ∧ Fwd ph1 H1 ph2 H' ∧ H' A = some (.lst xs) ∧ RepL (gh (F.plus A) ph2 env σ) H' xs acc ∧ PoF F W env σ ph1 H1 Q (rest acc M2),
        fun H' q => ⟨ds.length - (i + 1), by omega, rfl, hlt, by rw [hrest]; exact q⟩, fun x H3 hy => ?_⟩
      obtain ⟨S4, f4, r4⟩ := yl x H3 hy
      have hA2 : A ∉ ph2 := (S3.n0 A (.inr rfl)).2
      have S5 := S4.block hno
      have rb : Rep (gh (F.plus A) ph2 (wipeE env vs) (wipe σ vs)) H3 x ds[i] := r4.mo (gh_mo fun a z => (nof_wipe hno a).mp z)
      cases e1 : gz ds[i] (wipeE env vs) with
      | none => rw [e1] at P3; exact P3.elim
      | some envc =>
        simp only [e1] at P3
        refine hg (F.plus A) ph2 M2 _ _ H3 _ x _ envc h2 S5 rb e1 fun σc S6 n6 k6 l6 => ⟨wipe_eq (fun j hj => ?_) (l6.trans (wipe_length ..)), ?_⟩
        · rw [(k6 j (fun z => hj (hv j z))).1, wipe_keep hj]
        · have nback : ∀ a, nof (F.plus A) env σ a → nof (F.plus A) envc σc a := fun a z => by
            rcases z with z | ⟨j, d, q1, q2⟩
            · exact .inl z
            · have hj : j ∉ vs := fun z => noOwn_at hno z q1
              obtain ⟨k7, k8⟩ := k6 j (fun z => hj (hv j z))
              exact .inr ⟨j, d, by rw [k8, wipeE_keep hj]; exact q1, by rw [k7, wipe_keep hj]; exact q2⟩
          refine ⟨F.plus A, ph2, M2, envc, h1, h2, S6, ?_⟩
          cases e2 : zt envc M2 with
          | ok b M4 =>
            simp only [e2] at P3
            intro ph4 H4 b' S7 f7 rb'
            cases (show b' = b from rb')
            have S8 : Sim (F.plus A) ph4 M4 env σ H4 := S4.back S7 f7 rfl rfl nback
            have mo8 := f7.mo S4
            have hx4 : H4 A = some (.lst xs) := f7.keep A _ (f4.keep A _ hx hA2) hA2
            have rx4 : RepL (gh (F.plus A) ph4 env σ) H4 xs acc := RepL.mo mo8 (RepL.mo (f4.mo S3) rx)
            cases b with
            | false =>
              refine iteF ⟨ph4, M4, acc, xs, S8, (f3.trans f4).trans f7, hx4, rx4, P3⟩
            | true =>
              refine iteT ⟨F.plus A, ph4, M4, envc, h1, h2, S7, ?_⟩
              cases e3 : zi1 envc M4 with
              | ok ds1 M5 =>
                simp only [e3] at P3
                by_cases hno1 : noOwn envc vs1 = true
                · rw [if_pos hno1] at P3
                  intro ph5 H5 J1 S9 f9 r9
                  have IO1 : ItOk (F.plus A) ph5 envc σc H5 J1 ds1 := r9
                  have hA4 : A ∉ ph4 := (S8.n0 A (.inr rfl)).2
                  have hA1 : H1 A = none := hA
                  have S10 : Sim (F.plus A) ph5 M5 env σ H5 := S8.back S9 f9 rfl rfl nback
                  have rx5 : RepL (gh (F.plus A) ph5 env σ) H5 xs acc := RepL.mo (f9.mo S8) rx4
                  refine ⟨fun j k H6 => k = ds1.length - j ∧ j ≤ ds1.length ∧ ∃ ph6 M6 acc xs, Sim (F.plus A) ph6 M6 envc σc H6 ∧ Sim (F.plus A) ph6 M6 env σ H6 ∧ Fwd ph1 H1 ph6 H6 ∧ Fws (F.plus A) ph5 envc σc H5 ph6 envc σc H6 ∧ H6 A = some (.lst xs) ∧ RepL (gh (F.plus A) ph6 env σ) H6 xs acc ∧
                    PoF F W env σ ph1 H1 Q (lcK rest (zLcL gz1 zt1 ze (wipeE envc vs1) (ds1.drop j) acc M6)),
                    ⟨ds1.length, rfl, Nat.zero_le _, ph5, M5, acc, xs, S9, S10, ((f3.trans f4).trans f7).trans f9, Fws.refl, f9.keep A _ hx4 hA4, rx5, P3⟩, ?_⟩
                  rintro j k H6 ⟨rfl, hj, ph6, M6, acc', xs', T3, T3o, d3, w3, hx6, rx6, P6⟩
                  obtain ⟨st1, go2⟩ := IO1 (F.plus A) ph6 M6 envc σc H6 FrEx.refl T3 w3
                  by_cases hlt1 : j < ds1.length
                  · have ed1 : ds1.drop j = ds1[j] :: ds1.drop (j + 1) := List.drop_eq_getElem_cons hlt1
                    obtain ⟨g3, yl1⟩ := go2 j ds1[j] (List.getElem?_eq_getElem hlt1)
                    rw [ed1] at P6
                    unfold zLcL at P6
                    refine .inr ⟨g3, fun H' => ∃ ph6 M6 acc xs, Sim (F.plus A) ph6 M6 envc σc H' ∧ Sim (F.plus A) ph6 M6 env σ H' ∧ Fwd ph1 H1 ph6 H' ∧ Fws (F.plus A) ph5 envc σc H5 ph6 envc σc H' ∧ H' A = some (.lst xs) ∧ RepL (gh (F.plus A) ph6 env σ) H' xs acc ∧
                      PoF F W env σ ph1 H1 Q (lcK rest (zLcL gz1 zt1 ze (wipeE envc vs1) (ds1.drop (j + 1)) acc M6)), fun H' q => ⟨ds1.length - (j + 1), by omega, rfl, hlt1, q⟩, fun x1 H7 hy1 => ?_⟩
                    obtain ⟨T4, d4, r11⟩ := yl1 x1 H7 hy1
                    have hA6 : A ∉ ph6 := (T3.n0 A (.inr rfl)).2
                    have T4o : Sim (F.plus A) ph6 M6 env σ H7 := T3o.back T4 d4 rfl rfl nback
                    have T5 := T4.block hno1
                    have rb1 : Rep (gh (F.plus A) ph6 (wipeE envc vs1) (wipe σc vs1)) H7 x1 ds1[j] := r11.mo (gh_mo fun a z => (nof_wipe hno1 a).mp z)
                    cases e4 : gz1 ds1[j] (wipeE envc vs1) with
                    | none => rw [e4] at P6; exact P6.elim
                    | some envd =>
                      simp only [e4] at P6
                      refine hg1 (F.plus A) ph6 M6 _ _ H7 _ x1 _ envd h2 T5 rb1 e4 fun σd T6 n7 k7 l7 => ⟨wipe_eq (fun j hj => ?_) (l7.trans (wipe_length ..)), ?_⟩
                      · rw [(k7 j (fun z => hj (hv1 j z))).1, wipe_keep hj]
                      · have nback1 : ∀ a, nof (F.plus A) envc σc a → nof (F.plus A) envd σd a := fun a z => by
                          rcases z with z | ⟨j, d, q1, q2⟩
                          · exact .inl z
                          · have hj : j ∉ vs1 := fun z => noOwn_at hno1 z q1
                            obtain ⟨k9, k8⟩ := k7 j (fun z => hj (hv1 j z))
                            exact .inr ⟨j, d, by rw [k8, wipeE_keep hj]; exact q1, by rw [k9, wipe_keep hj]; exact q2⟩
                        have nbk : ∀ a, nof (F.plus A) env σ a → nof (F.plus A) envd σd a := fun a z => nback1 a (nback a z)
                        refine ⟨F.plus A, ph6, M6, envd, h1, h2, T6, ?_⟩
                        cases e5 : zt1 envd M6 with
                        | ok b M7 =>
                          simp only [e5] at P6
                          intro ph7 H8 b' T7 d7 rb'
                          cases (show b' = b from rb')
                          have T8 : Sim (F.plus A) ph7 M7 envc σc H8 := T4.back T7 d7 rfl rfl nback1
                          have T8o : Sim (F.plus A) ph7 M7 env σ H8 := T4o.back T7 d7 rfl rfl nbk
                          have hx8 : H8 A = some (.lst xs') := d7.keep A _ (d4.keep A _ hx6 hA6) hA6
                          have rx8 : RepL (gh (F.plus A) ph7 env σ) H8 xs' acc' := RepL.mo (d7.mo T4o) (RepL.mo (d4.mo T3o) rx6)
                          cases b with
                          | false =>
                            refine iteF ⟨ph7, M7, acc', xs', T8, T8o, (d3.trans d4).trans d7, (w3.trans d4.ws).trans d7.ws, hx8, rx8, P6⟩
                          | true =>
                            refine iteT ⟨F.plus A, ph7, M7, envd, h1, h2, T7, ?_⟩
                            cases e6 : ze envd M7 with
                            | ok y M8 =>
                              simp only [e6] at P6
                              by_cases hl : acc'.length < sizeLine
                              · rw [if_pos hl] at P6
                                intro ph8 H9 v T9 d9 r12
                                have hA7 : A ∉ ph7 := (T8.n0 A (.inr rfl)).2
                                have hx9 : H9 A = some (.lst xs') := d9.keep A _ hx8 hA7
                                have T10 : Sim (F.plus A) ph8 M8 envc σc H9 := T8.back T9 d9 rfl rfl nback1
                                have T10o : Sim (F.plus A) ph8 M8 env σ H9 := T8o.back T9 d9 rfl rfl nbk
                                have rx9 : RepL (gh (F.plus A) ph8 env σ) H9 xs' acc' := RepL.mo (d9.mo T8o) rx8
                                have r13 : Rep (gh (F.plus A) ph8 env σ) H9 v y := r12.mo (gh_mo nbk)
                                have h0 : F.H0 A = none := S.h0 (f1.back hA)
                                refine ⟨xs', hx9, by rw [rx9.length]; exact hl, ph8, M8, acc' ++ [y], xs' ++ [v], ?_, ?_, ?_, ?_, upd_same, ?_, P6⟩
                                · exact T10.wrN0 (.inr rfl) h0
                                · exact T10o.wrN0 (.inr rfl) h0
                                · exact (((d3.trans d4).trans (d7.trans d9))).wr hA1
                                · exact ((((w3.trans d4.ws).trans d7.ws).trans d9.ws)).trans (Fws.wr (.inr rfl) hx9)
                                · exact RepL.mo (mo_wr (show (gh (F.plus A) ph8 env σ).off A from .inl (.inl (.inr rfl)))) (rx9.app (.cons r13 .nil))
                              · rw [if_neg hl] at P6; exact P6.elim
                            | exc c fs M8 => simp only [e6] at P6; exact P6.elim
                            | fail => simp only [e6] at P6; exact P6.elim
                        | exc c fs M7 => simp only [e5] at P6; exact P6.elim
                        | fail => simp only [e5] at P6; exact P6.elim
                  · have e : j = ds1.length := by omega
                    subst e
                    rw [List.drop_length] at P6
                    exact .inl ⟨st1, ph6, M6, acc', xs', T3o, d3, hx6, rx6, P6⟩
                · rw [if_neg hno1] at P3
                  exact P3.elim
              | exc c fs M5 => simp only [e3] at P3; exact P3.elim
              | fail => simp only [e3] at P3; exact P3.elim
          | exc c fs M4 => simp only [e2] at P3; exact P3.elim
          | fail => simp only [e2] at P3; exact P3.elim
    · have e : i = ds.length := by omega
      subst e
      rw [List.drop_length] at P3
      exact .inl ⟨st, P3 ph2 H2 A S3 f3 (.lst hx rx) hA⟩
  · rw [if_neg hno] at P1
    exact P1.elim
/-- what such a comprehension asks of its parts -/
structure Lc2Ok (X : Cx) (cl : String → Option Addr) (W : WX) (tg iter tg1 iter1 elt : Expr) (ifs ifs1 : List Expr) (scope : Scope) (own : List (Str × Nat)) (vs1 : List Nat) (zi : ZL) (gz : ZTg) (zt : ZB) (zi1 : ZL) (gz1 : ZTg) (zt1 : ZB) (ze : ZX) : Prop where
  it : Zi X W cl tg iter zi
  blk : BlkOk X.N X.env.scope scope own
  tgt : ∃ is g, (∀ i ∈ is, i ∈ own.map (·.2)) ∧ RunT X.K is gz g ∧ ∀ (s : Shared) (H : Hp) (C : Addr) (cs : List (Str × Addr)) (fp : List Addr), PG (X.blk s H scope (compEnvC scope cs C X.env) fp) tg g
  tst : (ifs = [] ∧ zt = fun _ M => .ok true M) ∨ ∃ c, ifs = [c] ∧ ∀ (s : Shared) (H : Hp) (C : Addr) (cs : List (Str × Addr)) (fp : List Addr), ZT (X.blk s H scope (compEnvC scope cs C X.env) fp) Wf cl c zt
  it1 : ∀ (s : Shared) (H : Hp) (C : Addr) (cs : List (Str × Addr)) (fp : List Addr), Zi (X.blk s H scope (compEnvC scope cs C X.env) fp) Wf cl tg1 iter1 zi1
  tgt1 : (∀ i ∈ vs1, i ∈ own.map (·.2)) ∧ ∃ g, RunT X.K vs1 gz1 g ∧ ∀ (s : Shared) (H : Hp) (C : Addr) (cs : List (Str × Addr)) (fp : List Addr), PG (X.blk s H scope (compEnvC scope cs C X.env) fp) tg1 g
  tst1 : (ifs1 = [] ∧ zt1 = fun _ M => .ok true M) ∨ ∃ c, ifs1 = [c] ∧ ∀ (s : Shared) (H : Hp) (C : Addr) (cs : List (Str × Addr)) (fp : List Addr), ZT (X.blk s H scope (compEnvC scope cs C X.env) fp) Wf cl c zt1
  el : ∀ (s : Shared) (H : Hp) (C : Addr) (cs : List (Str × Addr)) (fp : List Addr), ZE (X.blk s H scope (compEnvC scope cs C X.env) fp) Wf cl elt ze
  fold : ∀ x, foldedSetIterable iter X.env x = pure x
  fold1 : ∀ env x, foldedSetIterable iter1 env x = pure x
variable {tg iter tg1 iter1 elt : Expr} {ifs ifs1 : List Expr} {scope : Scope} {own : List (Str × Nat)} {vs1 : List Nat} {zi zi1 : ZL} {gz gz1 : ZTg} {zt zt1 : ZB} {ze : ZX} {pos pos' spos : Pos} {i : Nat} {x : Str}
theorem Lc2Ok.parts (L : Lc2Ok X cl W tg iter tg1 iter1 elt ifs ifs1 scope own vs1 zi gz zt zi1 gz1 zt1 ze) (hc : X.calm = true) (hN : X.N.Nodup) :
    ∃ t, PE X (.ListComp elt [⟨tg, iter, ifs, 0⟩, ⟨tg1, iter1, ifs1, 0⟩] scope pos) t ∧ (∀ py y sp i, X.N[i]? = some y → X.env.scope.names.lookup y = some .local → swapsWith (.ListComp elt [⟨tg, iter, ifs, 0⟩, ⟨tg1, iter1, ifs1, 0⟩] scope pos) (some (.Name y py)) sp.line X.env = pure true →
      PS X (.Assign [.Name y py] (.ListComp elt [⟨tg, iter, ifs, 0⟩, ⟨tg1, iter1, ifs1, 0⟩] scope pos) sp) (tAsg t (gName i))) ∧
      ∀ F ph M env σ H Q, F.cl = cl → F.K = X.K → Sim F ph M env σ H → PoF F W env σ ph H Q (zLc2 zi gz zt zi1 gz1 zt1 ze (own.map (·.2)) vs1 env M) → t σ H Q := by
  obtain ⟨wi, pi, qi⟩ := L.it.ex
  obtain ⟨is, g, hv, hr, hg⟩ := L.tgt
  obtain ⟨hv1, g1, hr1, hg1⟩ := L.tgt1
  have ht : ∀ (s : Shared) (H : Hp) (C : Addr) (cs : List (Str × Addr)) (fp : List Addr), PTs (X.blk s H scope (compEnvC scope cs C X.env) fp) ifs (tB Wf cl X.K zt) := fun s H C cs fp => by
    refine pts_of (X := X) rfl ?_
    rcases L.tst with h | ⟨c, h, q⟩
    · exact .inl h
    · exact .inr ⟨c, h, q s H C cs fp⟩
  have ht1 : ∀ (s : Shared) (H : Hp) (C : Addr) (cs : List (Str × Addr)) (fp : List Addr), PTs (X.blk s H scope (compEnvC scope cs C X.env) fp) ifs1 (tB Wf cl X.K zt1) := fun s H C cs fp => by
    refine pts_of (X := X) rfl ?_
    rcases L.tst1 with h | ⟨c, h, q⟩
    · exact .inl h
    · exact .inr ⟨c, h, q s H C cs fp⟩
  have he : ∀ (s : Shared) (H : Hp) (C : Addr) (cs : List (Str × Addr)) (fp : List Addr), PE (X.blk s H scope (compEnvC scope cs C X.env) fp) elt (tE Wf cl X.K ze) := fun s H C cs fp => (L.el s H C cs fp).pe
  have hi1 : ∀ (s : Shared) (H : Hp) (C : Addr) (cs : List (Str × Addr)) (fp : List Addr), PI (X.blk s H scope (compEnvC scope cs C X.env) fp) tg1 iter1 (tI Wf cl X.K zi1) := fun s H C cs fp => (L.it1 s H C cs fp).pi
  exact ⟨_, pe_lc2 hc hN pi L.blk hv1 hg ht hi1 hg1 ht1 he L.fold L.fold1, fun py y sp i h1 h2 h3 => ps_setLc2 hc hN h1 h2 h3 pi L.blk hv1 hg ht hi1 hg1 ht1 he L.fold L.fold1,
    fun F ph M env σ H Q h1 h2 S P => lc2_run (X := X) qi hr hr1 hv (fun _ z => z) h1 h2 S P⟩
theorem zf_lc2 (L : Lc2Ok X cl W tg iter tg1 iter1 elt ifs ifs1 scope own vs1 zi gz zt zi1 gz1 zt1 ze) (hc : X.calm = true) (hN : X.N.Nodup) : ZF X W cl (.ListComp elt [⟨tg, iter, ifs, 0⟩, ⟨tg1, iter1, ifs1, 0⟩] scope pos) (zLc2 zi gz zt zi1 gz1 zt1 ze (own.map (·.2)) vs1) := by
  obtain ⟨t, p, _, q⟩ := L.parts (pos := pos) hc hN
  exact ⟨t, p, q⟩
/-- x = [..] on one line -/
theorem zs_setLc2 (L : Lc2Ok X cl W tg iter tg1 iter1 elt ifs ifs1 scope own vs1 zi gz zt zi1 gz1 zt1 ze) (hc : X.calm = true) (hN : X.N.Nodup) (hi : X.N[i]? = some x) (hx : X.env.scope.names.lookup x = some .local)
    (hs : swapsWith (.ListComp elt [⟨tg, iter, ifs, 0⟩, ⟨tg1, iter1, ifs1, 0⟩] scope pos) (some (.Name x pos')) spos.line X.env = pure true) : Zs X W cl (.Assign [.Name x pos'] (.ListComp elt [⟨tg, iter, ifs, 0⟩, ⟨tg1, iter1, ifs1, 0⟩] scope pos) spos) (zSet i (zLc2 zi gz zt zi1 gz1 zt1 ze (own.map (·.2)) vs1)) := by
  obtain ⟨t, _, p, q⟩ := L.parts (pos := pos) hc hN
  refine ⟨_, p pos' x spos i hi hx hs, fun F ph M env σ H B h1 h2 S P => q F ph M env σ H _ h1 h2 S (pof_of S ?_)⟩
  exact PoS.step P fun d M1 ph1 H1 v S1 f1 r1 P1 => P1.setV S1 r1
theorem zs_setLc2O (L : Lc2Ok X cl W tg iter tg1 iter1 elt ifs ifs1 scope own vs1 zi gz zt zi1 gz1 zt1 ze) (hc : X.calm = true) (hN : X.N.Nodup) (hi : X.N[i]? = some x) (hx : X.env.scope.names.lookup x = some .local)
    (hs : swapsWith (.ListComp elt [⟨tg, iter, ifs, 0⟩, ⟨tg1, iter1, ifs1, 0⟩] scope pos) (some (.Name x pos')) spos.line X.env = pure true) : Zs X W cl (.Assign [.Name x pos'] (.ListComp elt [⟨tg, iter, ifs, 0⟩, ⟨tg1, iter1, ifs1, 0⟩] scope pos) spos) (zSetO i (zLc2 zi gz zt zi1 gz1 zt1 ze (own.map (·.2)) vs1)) := by
  obtain ⟨t, _, p, q⟩ := L.parts (pos := pos) hc hN
  exact ⟨_, p pos' x spos i hi hx hs, fun F ph M env σ H B h1 h2 S P => q F ph M env σ H _ h1 h2 S (post_own S P)⟩
theorem zs_setLc2C (L : Lc2Ok X cl W tg iter tg1 iter1 elt ifs ifs1 scope own vs1 zi gz zt zi1 gz1 zt1 ze) (hc : X.calm = true) (hN : X.N.Nodup) (hi : X.N[i]? = some x) (hx : X.env.scope.names.lookup x = some .local)
    (hs : swapsWith (.ListComp elt [⟨tg, iter, ifs, 0⟩, ⟨tg1, iter1, ifs1, 0⟩] scope pos) (some (.Name x pos')) spos.line X.env = pure true) : Zs X W cl (.Assign [.Name x pos'] (.ListComp elt [⟨tg, iter, ifs, 0⟩, ⟨tg1, iter1, ifs1, 0⟩] scope pos) spos) (zSetC i (zLc2 zi gz zt zi1 gz1 zt1 ze (own.map (·.2)) vs1)) := by
  obtain ⟨t, _, p, q⟩ := L.parts (pos := pos) hc hN
  exact ⟨_, p pos' x spos i hi hx hs, fun F ph M env σ H B h1 h2 S P => q F ph M env σ H _ h1 h2 S (post_cel S P)⟩
end
/-! sorted(list of ints) -/
def insSt {α : Type} (le : α → α → Bool) (a : α) : List α → List α
  | [] => [a]
  | b :: l => if le a b = true then a :: b :: l else b :: insSt le a l
def isortB {α : Type} (le : α → α → Bool) : List α → List α
  | [] => []
  | a :: l => insSt le a (isortB le l)
theorem insSt_at {α : Type} {le : α → α → Bool} {a : α} {l2 : List α} (h2 : ∀ b ∈ l2.head?, le a b = true) : ∀ {l1 : List α}, (∀ b ∈ l1, (!le a b) = true) → insSt le a (l1 ++ l2) = l1 ++ a :: l2
  | [], _ => by
    cases l2 with
    | nil => rfl
    | cons b l => show (if le a b = true then _ else _) = _; rw [if_pos (h2 b rfl)]; rfl
  | b :: l1, h => by
    have hb := h b (List.mem_cons_self ..)
    rw [Bool.not_eq_true'] at hb
    show (if le a b = true then _ else _) = _
    rw [hb, if_neg (by decide)]
    exact congrArg (b :: ·) (insSt_at h2 fun c hc => h c (List.mem_cons_of_mem _ hc))
theorem isortB_eq {α : Type} {le : α → α → Bool} (tr : ∀ a b c, le a b = true → le b c = true → le a c = true) (to : ∀ a b, (le a b || le b a) = true) : ∀ l : List α, isortB le l = l.mergeSort le
  | [] => by simp [isortB]
  | a :: l => by
    obtain ⟨l1, l2, e1, e2, e3⟩ := List.mergeSort_cons tr to a l
    have pw := List.pairwise_mergeSort tr to (a :: l)
    rw [e1] at pw ⊢
    unfold isortB
    rw [isortB_eq tr to l, e2]
    refine insSt_at (fun b hb => ?_) e3
    have := (List.pairwise_append.mp pw).2.1
    exact (List.pairwise_cons.mp this).1 b (List.mem_of_mem_head? hb)
theorem leI_eq (ns : List Int) : isortB (fun a b : Int => decide (a ≤ b)) ns = ns.mergeSort fun a b => decide (a ≤ b) := isortB_eq (fun a b c h1 h2 => by simp only [decide_eq_true_eq] at *; omega) (fun a b => by simp only [Bool.or_eq_true, decide_eq_true_eq]; omega) ns
def sortI (ns : List Int) : List Int := isortB (fun a b => decide (a ≤ b)) ns
theorem sortI_perm (ns : List Int) : (sortI ns).Perm ns := by unfold sortI; rw [leI_eq]; exact List.mergeSort_perm ..
theorem sortI_pw (ns : List Int) : (sortI ns).Pairwise (· ≤ ·) := by
  have h := List.pairwise_mergeSort (le := fun a b : Int => decide (a ≤ b)) (fun a b c h1 h2 => by simp only [decide_eq_true_eq] at *; omega) (fun a b => by simp only [Bool.or_eq_true, decide_eq_true_eq]; omega) ns
  unfold sortI
  rw [leI_eq]
  exact h.imp fun h => by simpa using h
theorem sortI_eq {ns ns' : List Int} (h1 : ns'.Perm ns) (h2 : ns'.Pairwise (· ≤ ·)) : ns' = sortI ns :=
  List.Perm.eq_of_pairwise (fun a b _ _ h1 h2 => by omega) h2 (sortI_pw ns) (h1.trans (sortI_perm ns).symm)
def sortD : D → Option (List Int)
  | .lst ds => (intsD ds).bind fun ns => if ns.length < 64 then some (sortI ns) else none
  | _ => none
def zSorted (z : ZX) : ZX := fun env M => (z env M).bind fun d M1 => match (deref M1 d).bind sortD with
  | some ns => .ok (.lst (ns.map .int)) M1
  | none => .fail
theorem zf_sorted {X : Cx} {W : WX} {cl : String → Option Addr} {a : Expr} {za : ZX} {p pos : Pos} (hg : Gl X "sorted") (hm : X.mg "sorted" = none) (ha : ZC X W cl a za) (n : nostar a = true) : ZF X W cl (.Call (.Name "sorted" p) [a] [] pos) (zSorted za) := by
  obtain ⟨t, pa, q⟩ := ha.ex
  refine ⟨_, pe_callB cr_sorted hg hm (by decide +kernel) (pa_cons pa pa_nil (star_ok n)) (by decide) (by decide) (star_ok n), fun F ph M env σ H Q h1 h2 S P => q F ph M env σ H _ h1 h2 S (P.step fun d M1 ph1 H1 w S1 f1 r1 P1 => ?_)⟩
  cases e1 : deref M1 d with
  | none => rw [e1] at P1; exact P1.elim
  | some c =>
    rw [e1] at P1
    have L := r1.look S1 e1
    simp only [Option.bind_some] at P1
    cases c with
    | lst ds =>
      cases e2 : intsD ds with
      | none => simp only [sortD, e2, Option.bind_none] at P1; exact P1.elim
      | some ns =>
        simp only [sortD, e2, Option.bind_some] at P1
        by_cases h64 : ns.length < 64
        · rw [if_pos h64] at P1
          obtain ⟨a, xs, rfl, h, r⟩ := L.lst_inv
          rw [RepL.ints r e2] at h
          exact ⟨a, ns, rfl, SqL.of h, h64, fun ns' p hp hs hn => by rw [sortI_eq hp hs]; exact P1.newLst S1 (repL_ints _ _ _) hn⟩
        · rw [if_neg h64] at P1; exact P1.elim
    | _ => exact P1.elim
end Zy
set_option maxHeartbeats 4000000
/-! enumerate of a list or a tuple -/
namespace Zy
open PySem PySem.Spec PyProof.Rows L2
open Sem (wp)
theorem meets_enumB {v : Value} {o : Obj} {H : Heap → Prop} (B : Begins v o H) :
    Meets (Builtin.«enumerate.__new__» ⟨[.type "enumerate", v], []⟩) (fun _ R s => H s.heap ∧
      R (.ok (.ret (.ref (s.heap.push o).objs.size))) { s with heap := (s.heap.push o).push { cls := .type "enumerate", data := .fields #[.none, .bool false, .ref s.heap.objs.size, rawInt 0, .none, .none] } }) :=
  .of_wp fun prog w A R s h => by
    obtain ⟨hp, g, d, tk, os⟩ := s
    obtain ⟨h1, h⟩ := h
    have hsub := sub_enumerate
    have step : ∀ {A' : Around} {E : Value → Shared → Prop} {Q : Value → Shared → Prop}, Q (.ref hp.objs.size) ⟨hp.push o, g, d, tk, os⟩ → wpAny (model prog w) A' (pyIter v) Q E ⟨hp, g, d, tk, os⟩ :=
      fun q => B.iter prog w _ _ ⟨hp, g, d, tk, os⟩ _ h1 q
    wp_walk using step
    refine wpAny_stack_any fun st => wpAny_pure ?_
    split
    · rename_i c _ _ _ _ _
      cases (c == Value.type "enumerate") <;> (wp_walk using step; exact ⟨_, rfl, h⟩)
    · wp_walk using step
      exact ⟨_, rfl, h⟩
section
variable {prog : Program} {w : World} {A : Around} {E : Value → Shared → Prop} {s : Shared}
theorem enumB_begins {v : Value} {o : Obj} {H : Heap → Prop} {Q : Value → Shared → Prop} (B : Begins v o H) (h1 : H s.heap)
    (h : ∀ h', IsEnum h' (s.heap.objs.size + 1) s.heap.objs.size 0 .none → h'.get? s.heap.objs.size = some o → h'.objs.size = s.heap.objs.size + 2 →
      (∀ b o, s.heap.get? b = some o → h'.get? b = some o) → Q (.ref (s.heap.objs.size + 1)) { s with heap := h' }) :
    wpAny (model prog w) A (call (.type "enumerate") [v]) Q E s := by
  refine callType_new F.called_enumerate (by decide) (F.typeCall_enumerate_1 _) (F.newCall_enumerate_1 _) (fun obj => F.args_object_init_2 obj _) F.entry_enumerate_new (meets_enumB B) ⟨h1, ?_⟩
  have hz : (s.heap.push o).objs.size = s.heap.objs.size + 1 := Heap.size_push ..
  show _ ∧ _
  rw [hz]
  have he : IsEnum ((s.heap.push o).push { cls := .type "enumerate", data := .fields #[.none, .bool false, .ref s.heap.objs.size, rawInt 0, .none, .none] }) (s.heap.objs.size + 1) s.heap.objs.size 0 .none := by
    have q := Heap.get?_push_size (s.heap.push o) (o := { cls := .type "enumerate", data := .fields #[.none, .bool false, .ref s.heap.objs.size, rawInt 0, .none, .none] }) rfl
    rw [hz] at q
    exact q
  exact ⟨⟨_, he, rfl⟩, h _ he (Heap.get?_push_of_some _ (Heap.get?_push_size _ B.free)) (by rw [Heap.size_push, hz]) fun b o x => Heap.get?_push_of_some _ (Heap.get?_push_of_some _ x)⟩
end
def ItE (b : Bool) (K : PySem.W.Frag) (a : Addr) (xs : List V) : It :=
  ⟨fun i H => SqV b K H a xs ∧ i < xs.length,
    fun i H v H' => ∃ T x, v = .ref T ∧ H T = none ∧ H' = upd H T (.tup [.int (i : Nat), x]) ∧ xs[i]? = some x,
    fun i H => SqV b K H a xs ∧ i = xs.length⟩
theorem turn_enumA {P : Program} {w : World} {K : PySem.W.Frag} {elts : List Expr} {kk : Nat} {tpos : Pos} {a n : Nat} {b : Bool} {xs : List V} (ha : a < n) :
    Turn P w K (.Tuple elts kk tpos) (ItE b K a xs) [n + 1, n] (n + 1) (fun i h => (∃ old, IsEnum h (n + 1) n ((i : Nat) : Int) old) ∧ ItA b h n a i) where
  mem := by simp
  obj := fun i h st d hd => by
    obtain ⟨⟨old, he⟩, m⟩ := st
    obtain ⟨o, ho, hc⟩ := m.obj
    have e' : d = n + 1 ∨ d = n := by simpa using hd
    rcases e' with rfl | rfl
    · exact ⟨_, he, fun v q => nomatch q⟩
    · exact ⟨o, ho, fun v q => by rw [hc] at q; cases q⟩
  keep := fun i h h' st k => let ⟨⟨old, he⟩, m⟩ := st; ⟨⟨old, k (n + 1) (by simp) _ he⟩, m.at fun o q => k n (by simp) o q⟩
  item := by
    intro X hP hw hK hcm i pins s σ H E I hf st hg
    subst hP hw hK
    obtain ⟨⟨old, he⟩, m⟩ := st
    obtain ⟨hq, hlt⟩ := hg
    obtain ⟨its, rv, t⟩ := hq.get I
    obtain ⟨w1, hw1, rw1⟩ := rv.get (List.getElem?_eq_getElem hlt)
    have f1 := rv.length
    have hel : n + 1 < s.heap.objs.size := Heap.lt_size he
    have hh := I.ok.hd hcm
    have ne1 : n + 1 ≠ n := by omega
    have nea : a ≠ n := by omega
    have hef : n + 1 ∉ ([n, a] : List Addr) := by
      simp only [List.mem_cons, List.not_mem_nil, or_false, not_or]
      exact ⟨fun z => ne1 z, fun z => by have : n + 1 = a := z; omega⟩
    refine wpAny_pyNext_enum_itemD (drawI b hh nea its.toArray) he ⟨m, t⟩ (by simp; omega) ne1 hef fun x h' tk y1 ho hs hT hsz hk => ?_
    have ex1 : x = w1 := by simpa [hw1] using y1.symm
    subst ex1
    refine ⟨_, rfl, wpAny_letOwnedTupleGo_enum (s := { s with heap := h', toks := tk + 1 }) ho fun h'' he' sb => ?_⟩
    have hT2 : h''.get? s.heap.objs.size = some { cls := .type "tuple", data := .seq #[.int i tk, x] } := (sb.2 _ (Nat.ne_of_gt hel)).trans hT
    have new : ObjOk X.prog X.w (upd H s.heap.objs.size (.tup [.int (i : Nat), xs[i]])) h'' s.heap.objs.size (.tup [.int (i : Nat), xs[i]]) :=
      ⟨by show 2 ≤ sizeLine; decide, [.int i tk, x], .cons ⟨_, rfl⟩ (.cons rw1 .nil), ⟨_, hT2, rfl, _, rfl⟩⟩
    have I1 : Inv X pins σ (upd H s.heap.objs.size (.tup [.int (i : Nat), xs[i]])) { s with heap := h'', toks := tk + 1 } :=
      I.turnedNew (t' := tk + 1) (ch := [n + 1, n]) (fun d o hd q => by
        simp only [List.mem_cons, List.not_mem_nil, or_false, not_or] at hd
        exact (sb.2 d hd.1).trans (hk d o hd.1 hd.2 q)) hf (Nat.le_refl _) new
    refine ⟨.ref s.heap.objs.size, _, I1, rfl, ⟨_, xs[i], rfl, I.hok.fresh (Nat.le_refl _), rfl, List.getElem?_eq_getElem hlt⟩, ⟨⟨x, ?_⟩, hs.1.at fun o q => (sb.2 n (fun z => ne1 z.symm)).trans q⟩, fun d hdm => ?_⟩
    · have e1 : ((i + 1 : Nat) : Int) = (i : Int) + 1 := by omega
      rw [e1]
      exact he'
    · have hl2 : d < s.heap.objs.size := by
        have e' : d = n + 1 ∨ d = n := by simpa using hdm
        rcases e' with e | e <;> rw [e] <;> first | exact hel | exact Nat.lt_of_le_of_lt (Nat.le_add_right n 1) hel
      rw [upd_ne (Nat.ne_of_lt hl2)]
      exact (hf d hdm).1
  done := by
    intro X hP hw hK hcm i pins s σ H E I hf st hg
    subst hP hw hK
    obtain ⟨⟨old, he⟩, m⟩ := st
    obtain ⟨hq, hend⟩ := hg
    obtain ⟨its, rv, t⟩ := hq.get I
    have f1 := rv.length
    have hh := I.ok.hd hcm
    have g1 : its.toArray.size = i := by simp; omega
    have nea : a ≠ n := by omega
    have D := drawI (prog := X.prog) (w := X.w) b hh nea its.toArray
    rw [g1] at D
    obtain ⟨f0, f2, f3, f4, f5, f6⟩ := hf n (by simp)
    exact wpAny_pyNext_enum_endD D he ⟨m, t⟩ fun h' eb => ⟨rfl, I.turned (t' := s.toks) (fun b o hb q => eb b o hb q) f0 f2 f4 f5 f6⟩
  self := fun A i s Q E st h => let ⟨⟨_, he⟩, _⟩ := st; wpAny_pyIter_enum he h
def iEnumA (K : PySem.W.Frag) (ta : TA) : TI := fun σ H R => ta σ H fun vs H1 => ∃ b a xs, vs = [.ref a] ∧ SqV b K H1 a xs ∧ R (ItE b K a xs) H1
theorem pi_enumA {X : Cx} {e : Expr} {ta : TA} {p pos tpos : Pos} {elts : List Expr} {kk : Nat} (hg : Gl X "enumerate") (hm : X.mg "enumerate" = none) (ha : PA X [e] ta) (hs : starEach [e] X.env = [(false, eval e X.env)]) :
    PI X (.Tuple elts kk tpos) (.Call (.Name "enumerate" p) [e] [] pos) (iEnumA X.K ta) := by
  refine ⟨fun pins s σ H R I h => ?_⟩
  refine Call_ (ld_blt I hg hm boot_enumerate (PyProof.Rows.callWith_type1 (thn (ha.run pos pins s σ H _ I h) fun vs s1 ⟨vs', H1, I1, r1, q1⟩ => ?_) hs rfl))
  obtain ⟨b, a, xs, ex, hq, q⟩ := q1
  subst ex
  cases r1 with
  | cons r rr =>
    cases rr
    cases r
    obtain ⟨its, rv, t⟩ := hq.get I1
    refine enumB_begins (begA b a its.toArray) t fun h' he m hsz hk => wpAny_pyIter_enum he ?_
    have I2 : Inv X pins σ H1 { s1 with heap := h' } := I1.kept (t' := s1.toks) hk
    refine ⟨s1.heap.objs.size + 1, [s1.heap.objs.size + 1, s1.heap.objs.size], _, _, H1, rfl, I2, turn_enumA t.lt, ⟨⟨.none, he⟩, itC_at m⟩, fun d hdm => ?_, q⟩
    have e' : d = s1.heap.objs.size + 1 ∨ d = s1.heap.objs.size := by simpa using hdm
    have hge : s1.heap.objs.size ≤ d := by
      rcases e' with z | z
      · rw [z]; exact Nat.le_add_right _ _
      · rw [z]; exact Nat.le_refl _
    exact I1.fpOk hge (I1.hok.fresh hge)
section
variable {F : Fr} {W : WX} {ph ph' : List Addr} {M M' : Sto} {env env' : Ev} {σ σ' : St} {H H' : Hp} {v : V} {d : D} {ds es fs : List D}
theorem itok_enumA {b : Bool} {a : Addr} {xs : List V} (rx : RepL (gh F ph env σ) H xs ds)
    (sx : ∀ F' ph2 M2 env2 σ2 H2, FrEx F F' H → Sim F' ph2 M2 env2 σ2 H2 → Fws F ph env σ H ph2 env2 σ2 H2 → SqV b F.K H2 a xs) :
    ItOk F ph env σ H (ItE b F.K a xs) (enumD ds) := by
  intro F' ph2 M2 env2 σ2 H2 fx S2 f
  have q1 := sx F' ph2 M2 env2 σ2 H2 fx S2 f
  have l1 := rx.length
  refine ⟨⟨q1, by rw [enumD_len, ← l1]⟩, fun i c hc => ?_⟩
  obtain ⟨x, e1, rfl⟩ := enumD_at hc
  have k1 := (List.getElem?_eq_some_iff.mp e1).1
  refine ⟨⟨q1, by omega⟩, fun w H3 hy => ?_⟩
  obtain ⟨T, v1, rfl, hT, rfl, ex⟩ := hy
  have g : Fwd ph2 H2 ph2 (upd H2 T (.tup [.int (i : Nat), v1])) := Fwd.alloc hT
  have m := g.mo S2
  obtain ⟨w1, p1, r1⟩ := (RepL.mo (f.moX fx) rx).at e1
  rw [ex] at p1
  cases p1
  exact ⟨S2.alloc hT, g, .tup upd_same (S2.fresh hT) (.cons (.int _) (.cons (r1.mo m) .nil))⟩
end
section
variable {X : Cx} {W : WX} {cl : String → Option Addr} {e : Expr} {z : ZX} {p pos tpos : Pos} {elts : List Expr} {kk : Nat}
/-- enumerate(xs), xs a list or a tuple -/
def zEnumA (z : ZX) : ZL := fun env M => (z env M).bind fun d M1 => match itemsD d with
  | some ds => .ok (enumD ds) M1
  | none => .fail
theorem zi_enumA (hg : Gl X "enumerate") (hm : X.mg "enumerate" = none) (he : ZBm X W cl e z) (n : nostar e = true) : Zi X W cl (.Tuple elts kk tpos) (.Call (.Name "enumerate" p) [e] [] pos) (zEnumA z) := by
  obtain ⟨t, pa, q⟩ := he.ex
  refine ⟨_, pi_enumA hg hm (pa_cons pa pa_nil (star_ok n)) (star_ok n), fun F ph M env σ H R h1 h2 S P => q F ph M env σ H _ h1 h2 S (Post.step P fun d M1 ph1 H1 v S1 f1 r1 P1 => ?_)⟩
  split at P1
  · rename_i ds e1
    obtain ⟨b, x, xs, rfl, q1, s1, rx⟩ := seq_kind S1 r1 e1
    have io := itok_enumA rx s1
    rw [h2] at q1 io
    exact ⟨b, x, xs, rfl, q1, P1.now S1 io⟩
  · exact P1.elim
end
end Zy
set_option maxHeartbeats 2000000
/-! dicts: a new one, what is in it; an entry changed by an operation -/
namespace Zy
open PySem PySem.Spec PyProof.Rows L2
/-! in -/
def strsD : List D → Option (List Str)
  | [] => some []
  | .str s :: r => (strsD r).map (s :: ·)
  | _ => none
theorem RepL.strs {G : Gh} {H : Hp} : ∀ {ds : List D} {xs : List V} {ns : List Str}, RepL G H xs ds → strsD ds = some ns → xs = ns.map V.str
  | [], [], ns, _, h => by cases h; rfl
  | d :: ds, x :: xs, ns, .cons r t, h => by
    cases d with
    | str s =>
      simp only [strsD, Option.map_eq_some_iff] at h
      obtain ⟨l, hl, rfl⟩ := h
      cases r
      rw [RepL.strs t hl]
      rfl
    | _ => cases h
def memD (c e : D) : Option Bool := match dgetD c e with
  | some o => some o.isSome
  | none => match e with
    | .str s => ((itemsD c).bind strsD).map fun l => l.any fun x => x == s
    | .int i => ((itemsD c).bind intsD).map fun l => l.any fun x => x == i
    | _ => none
def gInB (neg : Bool) : G2 := fun e d M => match (deref M d).bind fun c => memD c e with
  | some b => .ok (.bl (if neg then !b else b)) M
  | none => .fail
abbrev gIn : G2 := gInB false
abbrev gNotIn : G2 := gInB true
def rInU (K : PySem.W.Frag) (neg : Bool) : R2 := fun x y H Q => rIn K neg x y H Q ∨ ∃ a o, y = .ref a ∧ DGet H a x o ∧ Q (.bl (if neg then !o.isSome else o.isSome)) H
section
variable {X : Cx} {W : WX} {cl : String → Option Addr} {a b e : Expr} {za zb z : ZX} {pos p1 p2 : Pos} {i : Nat} {x : Str}
theorem op_inU (hu : X.A.units + 64 < cLine) : OpR X (compareOp .In) (rInU X.K false) := by
  intro pins s σ H x y v u Q I rx ry h
  rcases h with h | ⟨a, o, rfl, g, q⟩
  · exact op_in_seq pins s σ H x y v u Q I rx ry h
  · obtain rfl : u = Value.ref a := ry
    exact d_in (by omega) I g rx fun s' I' => ⟨.bl o.isSome, H, I', rfl, q⟩
theorem op_notInU (hu : X.A.units + 64 < cLine) : OpR X (compareOp .NotIn) (rInU X.K true) := by
  intro pins s σ H x y v u Q I rx ry h
  rcases h with h | ⟨a, o, rfl, g, q⟩
  · exact op_notIn_seq pins s σ H x y v u Q I rx ry h
  · obtain rfl : u = Value.ref a := ry
    exact d_notIn (by omega) I g rx fun s' I' => ⟨.bl (!o.isSome), H, I', rfl, q⟩
theorem flat_strs : ∀ ns : List Str, (ns.map V.str).all flatV = true
  | [] => rfl
  | n :: ns => by
    rw [List.map_cons, List.all_cons, flat_strs ns]
    rfl
theorem oz_in {neg : Bool} : OpZ X W cl (rInU X.K neg) (gInB neg) := by
  intro F ph M env σ H Q x y d e h1 h2 S rx ry P
  unfold gInB at P
  cases e1 : deref M e with
  | none => simp only [e1, Option.bind_none] at P; exact P.elim
  | some c =>
    simp only [e1, Option.bind_some] at P
    have L := ry.look S e1
    unfold memD at P
    cases e2 : dgetD c d with
    | some o =>
      simp only [e2] at P
      obtain ⟨a, u, rfl, g, r⟩ := dget_run L rx e2
      refine .inr ⟨a, u, rfl, g, ?_⟩
      have : u.isSome = o.isSome := by
        rcases r with ⟨rfl, rfl⟩ | ⟨d', v, rfl, rfl, _⟩ <;> rfl
      rw [this]
      exact P.now S (.bl _)
    | none =>
      simp only [e2] at P
      cases d with
      | str s =>
        simp only at P
        cases e3 : (itemsD c).bind strsD with
        | none => rw [e3] at P; exact P.elim
        | some l =>
          rw [e3] at P
          cases e4 : itemsD c with
          | none => rw [e4] at e3; cases e3
          | some ds =>
            rw [e4] at e3
            simp only [Option.bind_some] at e3
            obtain ⟨p, xs, rfl, hq, r⟩ := L.seq e4
            have hK : (gh F ph env σ).K = X.K := h2
            rw [hK] at hq
            rw [RepL.strs r e3] at hq
            refine .inl ⟨p, _, rfl, hq, by rw [str_of rx]; rfl, flat_strs l, ?_⟩
            have em : inV x (l.map V.str) = l.any fun y => y == s := by
              rw [str_of rx]
              unfold inV
              rw [List.any_map]
              rfl
            rw [em]
            exact P.now S (.bl _)
      | int n =>
        simp only at P
        cases e3 : (itemsD c).bind intsD with
        | none => rw [e3] at P; exact P.elim
        | some l =>
          rw [e3] at P
          cases e4 : itemsD c with
          | none => rw [e4] at e3; cases e3
          | some ds =>
            rw [e4] at e3
            simp only [Option.bind_some] at e3
            obtain ⟨p, xs, rfl, hq, r⟩ := L.seq e4
            have hK : (gh F ph env σ).K = X.K := h2
            rw [hK] at hq
            rw [RepL.ints r e3] at hq
            refine .inl ⟨p, _, rfl, hq, by rw [int_of rx]; rfl, flat_ints l, ?_⟩
            have em : inV x (l.map V.int) = l.any fun y => y == n := by
              rw [int_of rx]
              unfold inV
              rw [List.any_map]
              rfl
            rw [em]
            exact P.now S (.bl _)
      | _ => exact P.elim
/-! a new dict: its keys are tuples (t), or integers and texts -/
def zDNew (t : Bool) : ZX := fun _ M => .ok (if t = true then .dT [] else .dK []) M
theorem zf_dnew (t : Bool) : ZF X W cl (.Dict [] [] pos) (zDNew t) := by
  cases t with
  | true => exact ⟨_, pe_dnewT, fun F ph M env σ H Q h1 h2 S P p hp => by
      obtain ⟨S2, m⟩ := S.lay (o := .dT []) hp
      exact P ph _ p S2 (Fwd.alloc hp) (.dT upd_same .nil) hp⟩
  | false => exact ⟨_, pe_dnewK, fun F ph M env σ H Q h1 h2 S P p hp => by
      obtain ⟨S2, m⟩ := S.lay (o := .dK []) hp
      exact P ph _ p S2 (Fwd.alloc hp) (.dK upd_same .nil) hp⟩
/-! x[k] op= e -/
def augGet (c k : D) : Option D := match c, k with
  | .lst ds, .int n => if 0 ≤ n then ds[n.toNat]? else none
  | c, k => match dgetD c k with
    | some o => o
    | none => none
def zAugP (i : Nat) (g : Int → Int → Int) (zi z : ZX) : ZS := fun env M => match getPl env M i with
  | some _ => (zi env M).toS env fun k M1 => match (getPl env M1 i).bind fun c => augGet c k with
    | some (.int n) => (z env M1).toS env fun d M2 => match d with
      | .int m => putL env M2 i k (.int (g n m))
      | _ => .fail
    | _ => .fail
  | none => .fail
def rGetU : V → V → Hp → VK → Prop := fun o i H Q => (∃ p xs n v, o = .ref p ∧ i = .int n ∧ H p = some (.lst xs) ∧ 0 ≤ n ∧ xs[n.toNat]? = some v ∧ Q v H) ∨ ∃ a v, o = .ref a ∧ DGet H a i (some v) ∧ Q v H
theorem get_all (hu : X.A.units + 64 < cLine) : PGet X rGetU := by
  intro pins s σ H o i ov iv Q I ro ri h
  rcases h with ⟨p, xs, n, v, rfl, rfl, hp, h0, hx, q⟩ | ⟨a, v, rfl, g, q⟩
  · obtain rfl : ov = Value.ref p := ro
    obtain ⟨t, rfl⟩ := ri
    obtain ⟨its, r, pl, hz⟩ := I.list (SqL.of (K := X.K) hp)
    obtain ⟨w, ew, rw'⟩ := r.get hx
    have hl := r.length
    have hlt := (List.getElem?_eq_some_iff.mp hx).1
    have hn := line63
    exact wpAny_getItem_list pl.isList h0 (by omega) (by simpa using ew) ⟨v, H, I, rw', q⟩
  · obtain rfl : ov = Value.ref a := ro
    exact d_getItem (by omega) I g ri fun w' s' I' r' => ⟨v, H, I', r', q⟩
theorem augGet_run {F : Fr} {ph : List Addr} {env : Ev} {σ : St} {H : Hp} {p : Addr} {c k : D} {n : Int} {kv : V} {Q : VK} (hc : Cel (gh F ph env σ) H p c) (rk : Rep (gh F ph env σ) H kv k) (h : augGet c k = some (.int n)) (q : Q (.int n) H) : rGetU (.ref p) kv H Q := by
  have viaD : (∃ o, dgetD c k = some o ∧ o = some (.int n)) → rGetU (.ref p) kv H Q := by
    rintro ⟨o, e, rfl⟩
    obtain ⟨a, u, ea, g, r⟩ := dget_run (.cel hc) (.inl rk) e
    cases ea
    rcases r with ⟨z, _⟩ | ⟨d, v, e1, rfl, r⟩
    · cases z
    · cases e1
      cases r
      exact .inr ⟨p, .int n, rfl, g, q⟩
  cases c with
  | lst ds =>
    cases k with
    | int j =>
      simp only [augGet] at h
      split at h
      · rename_i h0
        cases hc with
        | @lst xs _ hx r =>
          cases rk
          obtain ⟨v, e1, r1⟩ := r.at h
          cases r1
          exact .inl ⟨p, xs, j, .int n, rfl, rfl, hx, h0, e1, q⟩
      · cases h
    | _ => simp [augGet, dgetD] at h
  | _ =>
    unfold augGet at h
    simp only at h
    split at h
    · rename_i o e
      exact viaD ⟨o, e, h⟩
    · cases h
theorem zs_augP {op : Operator} {g : Int → Int → Int} (ho : PIp X op (ipI g)) (hu : X.A.units + 64 < cLine) (hN : X.N[i]? = some x) (hv : Vis X.env.scope x) (hd : (x == ("__debug__" : Str)) = false) (hcd : (x == ("__classdict__" : Str)) = false) (hk : ZE X W cl b zb) (h : ZE X W cl e z)
    (ha : ∀ ov iv new, augStore b ov iv new = (do holding [new, ov, iv] (setItem ov iv new); release [new, ov, iv] []; pure .next)) :
    Zs X W cl (.AugAssign (.Subscript (.Name x p1) b p2) op e pos) (zAugP i g zb z) := by
  obtain ⟨t, p, q⟩ := h.ex
  obtain ⟨tb, pb, qb⟩ := hk.ex
  refine ⟨_, ps_augS (pe_var hN hv hd hcd) pb (get_all hu) p ho (set_all (by omega)) ha, fun F ph M env σ H B h1 h2 S P => ?_⟩
  unfold zAugP at P
  cases e0 : getPl env M i with
  | none => rw [e0] at P; exact P.elim
  | some d0 =>
    rw [e0] at P
    obtain ⟨a, q0, _⟩ := S.place e0
    refine ⟨.ref a, q0, qb F ph M env σ H _ h1 h2 S (PoS.step P fun k M1 ph1 H1 kv S1 f1 r1 P1 => ?_)⟩
    cases e1 : getPl env M1 i with
    | none => rw [e1] at P1; exact P1.elim
    | some c =>
      rw [e1] at P1
      simp only [Option.bind_some] at P1
      obtain ⟨a', q1, hc, _⟩ := S1.place e1
      rw [q0] at q1
      cases q1
      split at P1
      · rename_i n eg
        refine augGet_run hc r1 eg (q F ph1 M1 env σ H1 _ h1 h2 S1 (PoS.step P1 fun d M2 ph2 H2 dv S2 f2 r2 P2 => ?_))
        split at P2
        · rename_i m
          cases r2
          refine ⟨n, m, rfl, rfl, ?_⟩
          obtain ⟨o, q3, r3⟩ := putL_run S2 (r1.mo (f2.mo S1)) (.int (g n m)) P2
          rw [q0] at q3
          cases q3
          exact r3
        · exact P2.elim
      · exact P1.elim
/-! a list repeated, two lists behind each other: new ones -/
def zRep (za zb : ZX) : ZX := fun env M => (za env M).bind fun d M1 => (zb env M1).bind fun e M2 => match deref M2 d, deref M2 e with
  | some (.lst ds), some (.int k) => if -(2 ^ 63) ≤ k ∧ k < 2 ^ 63 ∧ ds.length * k.toNat ≤ sizeLine then .ok (.lst (List.replicate k.toNat ds).flatten) M2 else .fail
  | _, _ => .fail
theorem zf_rep (ha : ZC X W cl a za) (hb : ZC X W cl b zb) : ZF X W cl (.BinOp a .Mult b pos) (zRep za zb) := by
  obtain ⟨ta, pa, qa⟩ := ha.ex
  obtain ⟨tb, pb, qb⟩ := hb.ex
  refine ⟨_, pe_op op_rep pa pb, fun F ph M env σ H Q h1 h2 S P => qa F ph M env σ H _ h1 h2 S (PoF.step P fun d M1 ph1 H1 v S1 f1 r1 P1 => qb F ph1 M1 env σ H1 _ h1 h2 S1 (PoF.step P1 fun e M2 ph2 H2 w S2 f2 r2 P2 => ?_))⟩
  have r1' := RlC.fwd S1 f2 r1
  split at P2
  · rename_i ds k e1 e2
    split at P2
    · rename_i c
      obtain ⟨l, xs, rfl, hl, rl⟩ := (r1'.look S2 e1).lst_inv
      exact ⟨l, k, xs, rfl, (r2.look S2 e2).int_inv, hl, c.1, c.2.1, by rw [rl.length]; exact c.2.2, fun p hp => P2.newLst S2 (repL_rep rl _) hp⟩
    · exact P2.elim
  · exact P2.elim
def zCat (za zb : ZX) : ZX := fun env M => (za env M).bind fun d M1 => (zb env M1).bind fun e M2 => match deref M2 d, deref M2 e with
  | some (.lst ds), some (.lst es) => if ds.length + es.length ≤ sizeLine then .ok (.lst (ds ++ es)) M2 else .fail
  | _, _ => .fail
theorem zf_cat (ha : ZC X W cl a za) (hb : ZC X W cl b zb) : ZF X W cl (.BinOp a .Add b pos) (zCat za zb) := by
  obtain ⟨ta, pa, qa⟩ := ha.ex
  obtain ⟨tb, pb, qb⟩ := hb.ex
  refine ⟨_, pe_op op_cat pa pb, fun F ph M env σ H Q h1 h2 S P => qa F ph M env σ H _ h1 h2 S (PoF.step P fun d M1 ph1 H1 v S1 f1 r1 P1 => qb F ph1 M1 env σ H1 _ h1 h2 S1 (PoF.step P1 fun e M2 ph2 H2 w S2 f2 r2 P2 => ?_))⟩
  have r1' := RlC.fwd S1 f2 r1
  split at P2
  · rename_i ds es e1 e2
    split at P2
    · rename_i c
      obtain ⟨l, xs, rfl, hl, rl⟩ := (r1'.look S2 e1).lst_inv
      obtain ⟨m, ys, rfl, hm, rm⟩ := (r2.look S2 e2).lst_inv
      exact ⟨l, m, xs, ys, rfl, rfl, hl, hm, by rw [rl.length, rm.length]; exact c, fun p hp => P2.newLst S2 (rl.app rm) hp⟩
    · exact P2.elim
  · exact P2.elim
end
end Zy
set_option maxHeartbeats 2000000
/-! sorted(list of tuples that can be compared) -/
namespace Zy
open PySem PySem.Spec PyProof.Rows L2
open PySem.W (alike AllAlike Sortable dataLe EachIs)
def rSortD (K : PySem.W.Frag) : List V → Hp → VK → Prop := fun vs H Q => ∃ (a : Addr) (bs : List (V × PyData)), vs = [.ref a] ∧ SqL K H a (bs.map (·.1)) ∧ (∀ b ∈ bs, Dp K H b.1 b.2) ∧ AllAlike (bs.map (·.2)) ∧ Sortable (bs.map (·.2)) ∧ (∀ b ∈ bs, b.2.depth ≤ 50) ∧
  ∀ p, H p = none → Q (.ref p) (upd H p (.lst ((bs.mergeSort (dataLe false (·.2))).map (·.1))))
theorem each_of {R : Value → V × PyData → Prop} : ∀ {bs : List (V × PyData)} {us : List Value}, Vals (bs.map (·.1)) us → (∀ b ∈ bs, ∀ u, RelV b.1 u → R u b) → EachIs R us bs
  | [], us, r, _ => by cases r; exact .nil
  | b :: bs, us, r, h => by
    cases r with
    | cons r t => exact .cons (h b List.mem_cons_self _ r) (each_of t fun c hc => h c (List.mem_cons_of_mem _ hc))
theorem vals_of : ∀ {bs : List (V × PyData)} {us : List Value}, EachIs (fun v b => RelV b.1 v) us bs → Vals (bs.map (·.1)) us
  | _, _, .nil => .nil
  | _, _, .cons r t => .cons r (vals_of t)
section
variable {X : Cx} {W : WX} {cl : String → Option Addr} {a : Expr} {za : ZX} {p pos : Pos}
theorem cr_sortD (hu : X.A.units + 64 < cLine) : CallR X (.builtin "sorted") (rSortD X.K) := by
  intro pins s σ H vs us Q I r h
  obtain ⟨a, bs, rfl, hs, hd, hal, hk, hdp, q⟩ := h
  obtain ⟨its, rv, hl, hz⟩ := I.list hs
  rw [Vals.ref1 r]
  rw [List.length_map] at hz
  have hdr : ∀ b ∈ bs, ∀ u, RelV b.1 u → ∃ as, Reads s.heap u b.2 as := fun b hb u ru => Dp.reads I b.2 b.1 u (hd b hb) ru
  refine PySem.W.sorted_data (R := fun v (b : V × PyData) => RelV b.1 v) (enc := fun b : V × PyData => b.2) hl.isList (each_of rv fun b _ u ru => ru) (each_of rv fun b hb u ru => hdr b hb u ru) hal hk hz (fun b hb => ?_) fun out ho hR => ?_
  · have := hdp b hb
    omega
  · obtain ⟨ep, he'⟩ := PyProof.Rows.sortedAll_at s.heap its (List.toArray out)
    have hlen : ((bs.mergeSort (dataLe false (·.2))).map (·.1)).length ≤ sizeLine := by rw [List.length_map, List.length_mergeSort]; exact hz
    exact ⟨.ref _, upd H (s.heap.objs.size + 1) (.lst ((bs.mergeSort (dataLe false (·.2))).map (·.1))), I.laid (t' := s.toks) (fun _ _ => PyProof.Rows.sortedAll_old) (Nat.le_succ _) ⟨hlen, out, ep, vals_of hR, he'⟩, rfl, q _ (I.hok.fresh (Nat.le_succ _))⟩
/-- by value -/
def isTup1 : PyData → Bool
  | .tuple (_ :: _) => true
  | _ => false
def okSort (ps : List PyData) : Bool := (ps.all fun x => ps.all fun y => alike x y) && (ps.all isTup1 && ps.all fun x => decide (x.depth ≤ 50))
def sortP (ds : List D) : Option (List D) := match toPys ds with
  | some ps => if okSort ps = true then some ((isortB (dataLe false (·.2)) (ds.zip ps)).map (·.1)) else none
  | none => none
theorem dataSort {α : Type} (l : List (α × PyData)) : isortB (dataLe false (·.2)) l = l.mergeSort (dataLe false (·.2)) := by
  have T : PySem.W.TotalLe (dataLe (β := α × PyData) false (·.2)) := PySem.W.sortLe_total _ _ _
  exact isortB_eq T.trans (fun a b => by
    rcases T.total a b with h | h
    · exact Bool.or_eq_true _ _ |>.mpr (.inl h)
    · exact Bool.or_eq_true _ _ |>.mpr (.inr h)) l
theorem sortP_eq (ds : List D) : sortP ds = match toPys ds with
  | some ps => if okSort ps = true then some (((ds.zip ps).mergeSort (dataLe false (·.2))).map (·.1)) else none
  | none => none := by
  unfold sortP
  cases toPys ds with
  | none => rfl
  | some ps => simp only [dataSort]
def sortPD : D → Option (List D)
  | .lst ds => sortP ds
  | _ => none
def zSortU (z : ZX) : ZX := fun env M => (z env M).bind fun d M1 => match (deref M1 d).bind sortD with
  | some ns => .ok (.lst (ns.map .int)) M1
  | none => match (deref M1 d).bind sortPD with
    | some es => .ok (.lst es) M1
    | none => .fail
theorem trip {G : Gh} {H : Hp} : ∀ {xs : List V} {ds : List D} {ps : List PyData}, RepL G H xs ds → toPys ds = some ps → ∃ T : List (V × D × PyData), T.map (·.1) = xs ∧ T.map (·.2) = ds.zip ps ∧ T.map (·.2.2) = ps ∧ ∀ t ∈ T, Rep G H t.1 t.2.1 ∧ toPy t.2.1 = some t.2.2
  | [], [], ps, _, h => by
    cases h
    exact ⟨[], rfl, rfl, rfl, by simp⟩
  | x :: xs, d :: ds, ps, .cons r t, h => by
    unfold toPys at h
    split at h
    · rename_i y ys h1 h2
      cases h
      obtain ⟨T, a1, a2, a3, a4⟩ := trip t h2
      refine ⟨(x, d, y) :: T, by simp [a1], by simp [a2], by simp [a3], fun q hq => ?_⟩
      rcases List.mem_cons.mp hq with rfl | hq
      · exact ⟨r, h1⟩
      · exact a4 q hq
    · cases h
theorem repL_of {G : Gh} {H : Hp} {α : Type} {f : α → V} {g : α → D} : ∀ {l : List α}, (∀ t ∈ l, Rep G H (f t) (g t)) → RepL G H (l.map f) (l.map g)
  | [], _ => .nil
  | t :: l, h => .cons (h t List.mem_cons_self) (repL_of fun u hu => h u (List.mem_cons_of_mem _ hu))
theorem zf_sortU (hu : X.A.units + 64 < cLine) (hg : Gl X "sorted") (hm : X.mg "sorted" = none) (ha : ZC X W cl a za) (n : nostar a = true) : ZF X W cl (.Call (.Name "sorted" p) [a] [] pos) (zSortU za) := by
  obtain ⟨t, pa, q⟩ := ha.ex
  refine ⟨_, pe_callB (CallR.or cr_sorted (cr_sortD hu)) hg hm (by decide +kernel) (pa_cons pa pa_nil (star_ok n)) (by decide) (by decide) (star_ok n), fun F ph M env σ H Q h1 h2 S P => q F ph M env σ H _ h1 h2 S (P.step fun d M1 ph1 H1 w S1 f1 r1 P1 => ?_)⟩
  cases e1 : deref M1 d with
  | none => rw [e1] at P1; exact P1.elim
  | some c =>
    rw [e1] at P1
    have L := r1.look S1 e1
    simp only [Option.bind_some] at P1
    cases c with
    | lst ds =>
      obtain ⟨a, xs, rfl, h, r⟩ := L.lst_inv
      cases es : sortD (.lst ds) with
      | some ns' =>
        rw [es] at P1
        cases e2 : intsD ds with
        | none => simp only [sortD, e2, Option.bind_none] at es; cases es
        | some ns =>
          simp only [sortD, e2, Option.bind_some] at es
          split at es
          · rename_i h64
            cases es
            rw [RepL.ints r e2] at h
            exact .inl ⟨a, ns, rfl, SqL.of h, h64, fun ns' p hp hs hn => by rw [sortI_eq hp hs]; exact P1.newLst S1 (repL_ints _ _ _) hn⟩
          · cases es
      | none =>
        rw [es] at P1
        cases et : toPys ds with
        | none => simp only [sortPD, sortP_eq, et] at P1; exact P1.elim
        | some ps =>
          simp only [sortPD, sortP_eq, et] at P1
          by_cases hok : okSort ps = true
          · rw [if_pos hok] at P1
            simp only at P1
            obtain ⟨T, a1, a2, a3, a4⟩ := trip r et
            unfold okSort at hok
            simp only [Bool.and_eq_true, List.all_eq_true, decide_eq_true_eq] at hok
            obtain ⟨o1, o2, o3⟩ := hok
            have hK : (gh F ph1 env σ).K = X.K := h2
            have eb : (T.map fun t : V × D × PyData => (t.1, t.2.2)).map (·.2) = ps := by rw [List.map_map]; exact a3
            have ex : (T.map fun t : V × D × PyData => (t.1, t.2.2)).map (·.1) = xs := by rw [List.map_map]; exact a1
            have hsrt : Sortable ps := .inl fun x hx => by
              have := o2 x hx
              unfold isTup1 at this
              split at this
              · exact ⟨_, _, rfl⟩
              · cases this
            refine .inr ⟨a, T.map fun t : V × D × PyData => (t.1, t.2.2), rfl, by rw [ex]; exact SqL.of h, fun b hb => ?_, by rw [eb]; exact fun x hx y hy => o1 x hx y hy, by rw [eb]; exact hsrt, fun b hb => ?_, fun p hp => ?_⟩
            · obtain ⟨t, ht, rfl⟩ := List.mem_map.mp hb
              have := Rep.dp (a4 t ht).1 (a4 t ht).2
              rw [hK] at this
              exact this
            · obtain ⟨t, ht, rfl⟩ := List.mem_map.mp hb
              exact o3 _ (by rw [← a3]; exact List.mem_map.mpr ⟨t, ht, rfl⟩)
            · have m1 := List.map_mergeSort (r := fun t u : V × D × PyData => dataLe false (fun t : V × D × PyData => t.2.2) t u) (s := dataLe false (·.2)) (f := fun t : V × D × PyData => (t.1, t.2.2)) (l := T) fun _ _ _ _ => rfl
              have m2 := List.map_mergeSort (r := fun t u : V × D × PyData => dataLe false (fun t : V × D × PyData => t.2.2) t u) (s := dataLe false (·.2)) (f := fun t : V × D × PyData => t.2) (l := T) fun _ _ _ _ => rfl
              rw [← m1]
              rw [a2] at m2
              rw [← m2] at P1
              rw [List.map_map] at P1 ⊢
              refine P1.newLst S1 (repL_of fun t ht => ?_) hp
              exact (a4 t ((List.mergeSort_perm ..).mem_iff.mp ht)).1
          · rw [if_neg hok] at P1
            exact P1.elim
    | _ => exact P1.elim
end
end Zy
set_option maxHeartbeats 4000000
/-! xs[lo::st] of a list or a tuple -/
namespace Zy
open PySem PySem.Spec PyProof.Rows L2
def stIx (n lo st : Nat) : List Nat := (List.range (if min lo n < n then (n - min lo n - 1) / st + 1 else 0)).map fun k => min lo n + k * st
def stepL {α : Type} (xs : List α) (lo st : Nat) : List α := (stIx xs.length lo st).filterMap fun i => xs[i]?
theorem fm_congr {α β : Type} {f g : α → Option β} : ∀ {l : List α}, (∀ x ∈ l, f x = g x) → l.filterMap f = l.filterMap g
  | [], _ => rfl
  | x :: l, h => by
    rw [List.filterMap_cons, List.filterMap_cons, h x (List.mem_cons_self ..), fm_congr fun y hy => h y (List.mem_cons_of_mem _ hy)]
theorem stIx_lt {n lo st : Nat} (h : 0 < st) : ∀ i ∈ stIx n lo st, i < n := fun i hi => by
  unfold stIx at hi
  obtain ⟨k, hk, rfl⟩ := List.mem_map.mp hi
  rw [List.mem_range] at hk
  split at hk
  · have h1 : k ≤ (n - min lo n - 1) / st := by omega
    have h2 := Nat.mul_le_mul_right st h1
    have h3 := Nat.div_mul_le_self (n - min lo n - 1) st
    omega
  · omega
theorem stepL_len {α : Type} {xs : List α} {lo st : Nat} : (stepL xs lo st).length ≤ xs.length ∨ st = 0 := by
  by_cases h : st = 0
  · exact .inr h
  · refine .inl ?_
    have h0 : 0 < st := by omega
    unfold stepL
    refine Nat.le_trans (List.length_filterMap_le _ _) ?_
    unfold stIx
    rw [List.length_map, List.length_range]
    split
    · have := Nat.div_le_self (xs.length - min lo xs.length - 1) st
      omega
    · omega
theorem stepV {xs : List V} {us : List Value} {lo st : Nat} (h : Vals xs us) : Vals (stepL xs lo st) (stepL us lo st) := by
  unfold stepL
  rw [h.length]
  generalize stIx us.length lo st = l
  induction l with
  | nil => exact .nil
  | cons i l ih =>
    rw [List.filterMap_cons, List.filterMap_cons]
    have e : (xs[i]? = none ∧ us[i]? = none) ∨ ∃ x u, xs[i]? = some x ∧ us[i]? = some u ∧ RelV x u := by
      clear ih
      induction h generalizing i with
      | nil => exact .inl ⟨by simp, by simp⟩
      | cons a b ih' =>
        cases i with
        | zero => exact .inr ⟨_, _, rfl, rfl, a⟩
        | succ i =>
          rcases ih' i with ⟨e1, e2⟩ | ⟨x, u, e1, e2, e3⟩
          · exact .inl ⟨by simpa using e1, by simpa using e2⟩
          · exact .inr ⟨x, u, by simpa using e1, by simpa using e2, e3⟩
    rcases e with ⟨e1, e2⟩ | ⟨x, u, e1, e2, e3⟩
    · rw [e1, e2]; exact ih
    · rw [e1, e2]; exact .cons e3 ih
theorem RepL.step {G : Gh} {H : Hp} {xs : List V} {ds : List D} (r : RepL G H xs ds) (lo st : Nat) : RepL G H (stepL xs lo st) (stepL ds lo st) := by
  unfold stepL
  rw [r.length]
  generalize stIx ds.length lo st = l
  induction l with
  | nil => exact .nil
  | cons i l ih =>
    rw [List.filterMap_cons, List.filterMap_cons]
    cases q : ds[i]? with
    | none =>
      have : xs[i]? = none := by
        rw [List.getElem?_eq_none_iff] at q ⊢
        rw [r.length]
        exact q
      rw [this]
      exact ih
    | some d =>
      obtain ⟨x, e, rx⟩ := r.at q
      rw [e]
      exact .cons rx ih
theorem fdiv_up {a st : Nat} (h : 0 < st) (ha : 0 < a) : ((a : Int) + (st : Int) - 1) / (st : Int) = (((a - 1) / st + 1 : Nat) : Int) := by
  have e : (a : Int) + (st : Int) - 1 = (((a - 1 + st : Nat)) : Int) := by omega
  rw [e, ← Int.natCast_ediv, Nat.add_div_right _ h]
theorem pick_step {items : Array Value} {lo st : Nat} (h : 0 < st) : slicePick items (some (lo : Int)) none (some (st : Int)) = (stepL items.toList lo st).toArray := by
  unfold slicePick stepL
  congr 1
  have hs : (st : Int) > 0 := by omega
  have e : sliceRange (sliceBounds (some (lo : Int)) none (some (st : Int)) items.size).fst (sliceBounds (some (lo : Int)) none (some (st : Int)) items.size).snd.fst (sliceBounds (some (lo : Int)) none (some (st : Int)) items.size).snd.snd = stIx items.toList.length lo st := by
    unfold sliceBounds sliceRange stIx
    simp only [Option.getD_some, if_pos hs, show ¬ ((lo : Int) < 0) by omega, if_false, Array.length_toList]
    have m : max 0 (min (lo : Int) (items.size : Int)) = ((min lo items.size : Nat) : Int) := by omega
    rw [m]
    by_cases hl : min lo items.size < items.size
    · rw [if_pos hl, if_pos (by omega)]
      have e1 : (items.size : Int) - ((min lo items.size : Nat) : Int) + (st : Int) - 1 = ((items.size - min lo items.size : Nat) : Int) + (st : Int) - 1 := by omega
      rw [e1, fdiv_up h (by omega), Int.toNat_natCast]
      refine List.map_congr_left fun k _ => ?_
      have : ((min lo items.size : Nat) : Int) + (st : Int) * (k : Int) = ((min lo items.size + k * st : Nat) : Int) := by
        rw [Int.natCast_add, Int.natCast_mul, Int.mul_comm]
      rw [this, Int.toNat_natCast]
    · rw [if_neg hl, if_neg (by omega)]
      rfl
  rw [e]
  refine fm_congr fun i _ => ?_
  simp
theorem adj_step {n lo st : Nat} (h : 0 < st) : Builtin.Slice.sliceAdjust (some (lo : Int)) none (st : Int) (n : Int) = (((min lo n : Nat) : Int), (n : Int)) := by
  unfold Builtin.Slice.sliceAdjust
  simp only [show ¬ ((st : Int) < 0) by omega, show ¬ ((lo : Int) < 0) by omega, if_false]
  congr 1
  omega
theorem plc_step {n lo st : Nat} (h : 0 < st) : Builtin.Slice.slicePlaces ((min lo n : Nat) : Int) (n : Int) (st : Int) = (if min lo n < n then (n - min lo n - 1) / st + 1 else 0) := by
  unfold Builtin.Slice.slicePlaces
  rw [if_pos (by omega)]
  by_cases hl : min lo n < n
  · rw [if_pos hl, if_pos (by omega)]
    have : (n : Int) - ((min lo n : Nat) : Int) - 1 = ((n - min lo n - 1 : Nat) : Int) := by omega
    rw [this, ← Int.natCast_ediv]
    generalize (n - min lo n - 1) / st = q
    omega
  · rw [if_neg hl, if_neg (by omega)]
    rfl
/-- the slice is the whole -/
def Whole (n lo st : Nat) : Prop := n = 0 ∨ (lo = 0 ∧ st = 1)
theorem step_whole {α : Type} {xs : List α} {lo st : Nat} (h : Whole xs.length lo st) : stepL xs lo st = xs := by
  rcases h with h | ⟨rfl, rfl⟩
  · have : xs = [] := List.length_eq_zero_iff.mp h
    subst this
    unfold stepL stIx
    simp
  · unfold stepL stIx
    have e : (if min 0 xs.length < xs.length then (xs.length - min 0 xs.length - 1) / 1 + 1 else 0) = xs.length := by
      rw [Nat.zero_min, Nat.div_one]
      split <;> omega
    rw [e]
    have : (List.range xs.length).map (fun k => min 0 xs.length + k * 1) = List.range xs.length := by
      rw [show (fun k => min 0 xs.length + k * 1) = id by funext k; simp]
      exact List.map_id _
    rw [this]
    have := PySem.W.krv_all xs.toArray
    simpa using this
section
variable {prog : Program} {w : World} {A : Around} {E : Value → Shared → Prop} {s : Shared}
theorem applied_step {sl : Addr} {vl vs : Value} {lo st n : Nat} {Q : Int × Int × Nat → Shared → Prop} (hs : s.heap.IsSliceOf sl vl Value.none vs) (i1 : IsPart vl (some (lo : Int))) (i2 : IsPart vs (some (st : Int))) (h : 0 < st)
    (q : Q (((min lo n : Nat) : Int), (st : Int), if min lo n < n then (n - min lo n - 1) / st + 1 else 0) s) : wpAny (model prog w) A (Builtin.Slice.sliceApplied (Value.ref sl) (pure (n : Int))) Q E s := by
  obtain ⟨o, e1, e2, e3⟩ := hs
  unfold Builtin.Slice.sliceApplied Builtin.Slice.sliceFields
  refine wpAny_bind (wpAny_bind (wpAny_field e1 e3 (i := 0) rfl (wpAny_bind (wpAny_field e1 e3 (i := 1) rfl (wpAny_bind (wpAny_field e1 e3 (i := 2) rfl (wpAny_pure ?_))))))) 
  refine wpAny_bind (HT.slicePart_ i2 ?_)
  have h0 : ((some (st : Int)).getD 1 == 0) = false := by
    simp only [Option.getD_some, beq_eq_false_iff_ne, ne_eq]
    omega
  simp only [h0, Bool.false_eq_true, if_false]
  refine wpAny_bind (HT.slicePart_ i1 (wpAny_bind (slicePart_none (wpAny_bind (wpAny_pure ?_)))))
  simp only [Option.getD_some]
  rw [adj_step h]
  refine wpAny_pure ?_
  rw [plc_step h]
  exact q
theorem getItem_tuple_step {t sl : Addr} {items : Array Value} {vl vs : Value} {lo st : Nat} {Q : Value → Shared → Prop} (ht : IsTup s.heap t items) (hs : s.heap.IsSliceOf sl vl Value.none vs) (i1 : IsPart vl (some (lo : Int))) (i2 : IsPart vs (some (st : Int))) (h : 0 < st)
    {cnt : Nat} (hcnt : (if min lo items.size < items.size then (items.size - min lo items.size - 1) / st + 1 else 0) = cnt) (q1 : Whole items.size lo st → Q (Value.ref t) s) (q2 : Q (Value.ref s.heap.objs.size) { heap := s.heap.push { cls := Value.type "tuple", data := Data.seq (stepL items.toList lo st).toArray }, gens := s.gens, drawn := s.drawn, toks := s.toks, os := s.os }) (hz : items.size ≤ sizeLine) :
    wpAny (model prog w) A (getItem (Value.ref t) (Value.ref sl)) Q E s := by
  have ty : s.TypeIs (Value.ref sl) "slice" := by
    obtain ⟨o, e1, e2, e3⟩ := hs
    exact ⟨o, e1, e2⟩
  unfold getItem
  refine wpAny_holding (wpAny_bind (wpAny_sequenceKey ht.typeIs (by decide) (wpAny_bind (wpAny_callSpecial?_slot ht.typeIs slot_tuple_getitem (wpAny_call_entry slot_tuple_getitem ht.typeIs entry_tuple_getitem ?_ (args_tuple_getitem _ _))))))
  unfold Builtin.«tuple.__getitem__»
  have pickE : (List.filterMap (fun k : Nat => items[(((min lo items.size : Nat) : Int) + (k : Int) * (st : Int)).toNat]?) (List.range (if min lo items.size < items.size then (items.size - min lo items.size - 1) / st + 1 else 0))) = stepL items.toList lo st := by
    unfold stepL stIx
    rw [List.filterMap_map, Array.length_toList]
    refine fm_congr fun k _ => ?_
    have : ((min lo items.size : Nat) : Int) + (k : Int) * (st : Int) = ((min lo items.size + k * st : Nat) : Int) := by
      rw [Int.natCast_add, Int.natCast_mul]
    rw [this, Int.toNat_natCast]
    simp
  rw [hcnt] at pickE
  show wpAny _ _ (Builtin.Tuple.tupleItemsOf (Value.ref t) >>= _) _ _ _
  refine wpAny_bind (tupleItemsOf_ ht (wpAny_bind (wpAny_typeOf ty ?_)))
  rw [if_pos (by decide)]
  refine wpAny_bind (applied_step hs i1 i2 h ?_)
  rw [hcnt]
  have ex : wpAny (model prog w) A.in1 (Builtin.Tuple.tupleExact (List.filterMap (fun k : Nat => items[(((min lo items.size : Nat) : Int) + (k : Int) * (st : Int)).toNat]?) (List.range cnt)).toArray >>= fun v => ret v) (fun fin s' => ∃ v, fin = Fin.done (Flow.ret v) ∧ wpAny (model prog w) A (pure v) Q E s') E s := by
    rw [pickE]
    unfold Builtin.Tuple.tupleExact
    refine wpAny_bind (wpAny_newObj_type ?_ ?_)
    · exact wpAny_pure ⟨_, rfl, wpAny_pure q2⟩
    · show (stepL items.toList lo st).toArray.size ≤ sizeLine
      rcases stepL_len (xs := items.toList) (lo := lo) (st := st) with z | z
      · have e9 : items.toList.length = items.size := Array.length_toList
        rw [List.size_toArray]
        omega
      · omega
  show wpAny _ _ (if (((min lo items.size : Nat) : Int) == 0 && (st : Int) == 1 && cnt == items.size) = true then _ else _) _ _ _
  by_cases hc : (((min lo items.size : Nat) : Int) == 0 && (st : Int) == 1 && cnt == items.size) = true
  · rw [if_pos hc]
    simp only [Bool.and_eq_true, beq_iff_eq] at hc
    refine wpAny_bind ?_
    unfold Builtin.Tuple.tupleIsExact
    refine wpAny_bind (wpAny_typeOf ht.typeIs (wpAny_pure ?_))
    rw [if_pos (by decide)]
    refine wpAny_bind (wpAny_rule (wpAny_pure ⟨_, rfl, wpAny_pure (q1 ?_)⟩))
    unfold Whole
    omega
  · rw [if_neg hc]
    exact ex
end
/-- what a slice with a step answers -/
def rStep (K : PySem.W.Frag) (x : V) (lo st : Option Int) (H : Hp) (Q : VK) : Prop := ∃ (l k : Nat) (a : Addr) (xs : List V), lo = some (l : Int) ∧ st = some (k : Int) ∧ 0 < k ∧ x = .ref a ∧
  ((SqL K H a xs ∧ ∀ p, H p = none → Q (.ref p) (upd H p (.lst (stepL xs l k)))) ∨ (SqT K H a xs ∧ (Whole xs.length l k → Q (.ref a) H) ∧ ∀ p, H p = none → Q (.ref p) (upd H p (.tup (stepL xs l k)))))
section
variable {X : Cx} {e lo st : Expr} {te : TE} {tl ts : TO} {pos p2 : Pos}
theorem pe_step (p : PE X e te) (pl : PO X (some lo) tl) (ps : PO X (some st) ts) : PE X (.Subscript e (.Slice (some lo) none (some st) p2) pos) (fun σ H Q => te σ H fun x H1 => tl σ H1 fun l H2 => ts σ H2 fun u H3 => rStep X.K x l u H3 Q) := by
  refine ⟨fun pins s σ H Q I h0 => Subscript_ (thn (p.run pins s σ H _ I h0) fun v s1 hv => ?_)⟩
  obtain ⟨x, H1, I1, r1, q1⟩ := hv
  refine wpAny_Slice (thn (pl.run pins s1 σ H1 _ I1 q1) fun u s2 hu => ?_)
  obtain ⟨o, H2, I2, i2, q2⟩ := hu
  rw [evalPart_none]
  refine wpAny_pure ?_
  refine thn (ps.run pins s2 σ H2 _ I2 q2) fun u' s3 hu' => ?_
  obtain ⟨o', H3, I3, i3, q3⟩ := hu'
  have I4 := I3.kept (h' := s3.heap.push { cls := Value.type "slice", data := Data.fields #[u, Value.none, u'] }) (t' := s3.toks) (fun b u h => Heap.get?_push_of_some _ h)
  obtain ⟨l, k, a, xs, rfl, rfl, hk, rfl, q⟩ := q3
  have hsl := Heap.IsSliceOf.new s3.heap u Value.none u'
  generalize hs4 : ({ heap := s3.heap.push { cls := Value.type "slice", data := Data.fields #[u, Value.none, u'] }, gens := s3.gens, drawn := s3.drawn, toks := s3.toks, os := s3.os } : Shared) = s4 at I4
  have hsl : s4.heap.IsSliceOf s3.heap.objs.size u Value.none u' := by rw [← hs4]; exact hsl
  have ev := Vals.ref1 (us := [v]) (.cons r1 .nil)
  cases ev
  rcases q with ⟨hq, q⟩ | ⟨hq, qs, q⟩
  · obtain ⟨its, rv, hl, hz⟩ := I4.list hq
    have hz' : its.length ≤ sizeLine := by rw [← rv.length]; exact hz
    have hlen : (stepL xs l k).length ≤ sizeLine := by rcases stepL_len (xs := xs) (lo := l) (st := k) with z | z <;> omega
    refine tail_any hl.isList.typeIs slot_list_getitem.lookup (wpAny_getItem_list_slice hl.isList hsl i2 .none i3 (fun z => by have := Option.some.inj z; omega) ?_ (by rw [List.size_toArray]; exact hz')) rfl
    rw [pick_step hk]
    exact ⟨.ref s4.heap.objs.size, upd H3 s4.heap.objs.size (.lst (stepL xs l k)), I4.laid (t' := s4.toks) (fun b u h => Heap.get?_push_of_some _ h) (Nat.le_refl _) ⟨hlen, stepL its l k, _, stepV rv, Heap.get?_push_size _ rfl⟩, rfl, q _ (I4.hok.fresh (Nat.le_refl _))⟩
  · obtain ⟨its, rv, hl, hz⟩ := I4.tuple hq
    have hz' : its.length ≤ sizeLine := by rw [← rv.length]; exact hz
    have hlen : (stepL xs l k).length ≤ sizeLine := by rcases stepL_len (xs := xs) (lo := l) (st := k) with z | z <;> omega
    refine tail_any hl.typeIs slot_tuple_getitem.lookup (getItem_tuple_step hl hsl i2 i3 hk rfl (fun e => ?_) ?_ (by rw [List.size_toArray]; exact hz')) rfl
    · exact ⟨.ref a, H3, I4, rfl, qs (by rw [rv.length]; simpa using e)⟩
    · exact ⟨.ref s4.heap.objs.size, upd H3 s4.heap.objs.size (.tup (stepL xs l k)), I4.laid (t' := s4.toks) (fun b u h => Heap.get?_push_of_some _ h) (Nat.le_refl _) ⟨hlen, stepL its l k, stepV rv, IsTup.new _ _⟩, rfl, q _ (I4.hok.fresh (Nat.le_refl _))⟩
end
/-! in the layer -/
section
variable {X : Cx} {W : WX} {cl : String → Option Addr} {pos : Pos}
def stpR (d : D) (lo st : Option Int) (M : Sto) : Res D := match deref M d, lo, st with
  | some (.lst ds), some i, some j => if 0 ≤ i ∧ 0 < j then .ok (.lst (stepL ds i.toNat j.toNat)) M else .fail
  | some (.tup ds), some i, some j => if 0 ≤ i ∧ 0 < j then .ok (.tup (stepL ds i.toNat j.toNat)) M else .fail
  | _, _, _ => .fail
def zSlS (z : ZX) (zl zs : ZO) : ZX := fun env M => (z env M).bind fun d M1 => (zl env M1).bind fun lo M2 => (zs env M2).bind fun st M3 => stpR d lo st M3
theorem ze_slS {e lo st : Expr} {p2 : Pos} {z : ZX} {zl zs : ZO} (he : ZC X W cl e z) (hl : ZP X W cl (some lo) zl) (hh : ZP X W cl (some st) zs) : ZE X W cl (.Subscript e (.Slice (some lo) none (some st) p2) pos) (zSlS z zl zs) := by
  obtain ⟨t, p, q⟩ := he.ex
  obtain ⟨tl, pl, ql⟩ := hl.ex
  obtain ⟨th, pph, qh⟩ := hh.ex
  refine ⟨_, pe_step p pl pph, fun F ph M env σ H Q h1 h2 S P => q F ph M env σ H _ h1 h2 S (P.step fun d M1 ph1 H1 w S1 f1 r1 P1 => ?_)⟩
  refine ql F ph1 M1 env σ H1 _ h1 h2 S1 (P1.step fun lo M2 ph2 H2 lo' S2 f2 r2 P2 => ?_)
  cases (show lo' = lo from r2)
  refine qh F ph2 M2 env σ H2 _ h1 h2 S2 (P2.step fun hi M3 ph3 H3 hi' S3 f3 r3 P3 => ?_)
  cases (show hi' = hi from r3)
  have rr := (r1.fwd S1 f2).fwd S2 f3
  unfold stpR at P3
  cases e1 : deref M3 d with
  | none => rw [e1] at P3; exact P3.elim
  | some c =>
    rw [e1] at P3
    have L := rr.look S3 e1
    cases lo with
    | none => cases c <;> exact P3.elim
    | some i =>
      cases hi with
      | none => cases c <;> exact P3.elim
      | some j =>
        cases c with
        | lst ds =>
          obtain ⟨a, xs, rfl, hq, r⟩ := L.lst_inv
          by_cases hc : 0 ≤ i ∧ 0 < j
          · simp only [hc, and_self, if_true] at P3
            exact ⟨i.toNat, j.toNat, a, xs, by rw [Int.toNat_of_nonneg hc.1], by rw [Int.toNat_of_nonneg (by omega)], by omega, rfl, .inl ⟨by rw [← h2]; exact SqL.of hq, fun p hp => P3.newLst S3 (r.step _ _) hp⟩⟩
          · simp only [hc, if_false] at P3
            exact P3.elim
        | tup ds =>
          obtain ⟨a, xs, rfl, hq, r⟩ := L.tup_inv
          by_cases hc : 0 ≤ i ∧ 0 < j
          · simp only [hc, and_self, if_true] at P3
            refine ⟨i.toNat, j.toNat, a, xs, by rw [Int.toNat_of_nonneg hc.1], by rw [Int.toNat_of_nonneg (by omega)], by omega, rfl, .inr ⟨by rw [← h2]; exact SqT.of hq, fun hw => ?_, fun p hp => P3.newTup S3 (r.step _ _) hp⟩⟩
            have hw : Whole ds.length i.toNat j.toNat := by rw [← r.length]; exact hw
            rw [step_whole hw] at P3
            exact P3.now S3 (rr.tupRep S3 e1)
          · simp only [hc, if_false] at P3
            exact P3.elim
        | _ => exact P3.elim
/-- d.get(k, e) -/
def getR (d k e : D) (M : Sto) : Res D := match (deref M d).bind fun c => dgetD c k with
  | some (some v) => .ok v M
  | some none => .ok e M
  | none => .fail
def isDct : D → Bool
  | .dK _ => true
  | .dT _ => true
  | _ => false
def zGet2 (z y w : ZX) : ZX := fun env M => (z env M).bind fun d M1 => if ((deref M1 d).map isDct) = some true then (y env M1).bind fun k M2 => (w env M2).bind fun e M3 => getR d k e M3 else .fail
variable {a b : Expr} {za zb zc : ZX} {apos : Pos} {p : Pos}
theorem isD_of {G : Gh} {H : Hp} {x : V} {c : D} (L : Lk G H x c) (h : isDct c = true) : ∃ a, x = .ref a ∧ IsD H a := by
  cases c with
  | dK kvs =>
    obtain ⟨a, ks, rfl, ha, r⟩ := L.dK_inv
    exact ⟨a, rfl, .inl ⟨_, .inl ha⟩⟩
  | dT kvs =>
    obtain ⟨a, ks, rfl, ha, r⟩ := L.dT_inv
    exact ⟨a, rfl, .inr ⟨_, .inl ha⟩⟩
  | _ => cases h
theorem ze_get2 {x : Str} (hu : X.A.units + 64 < cLine) (ha : ZC X W cl (.Name x p) za) (hb : ZC X W cl a zb) (hc : ZE X W cl b zc) (hn : nostar a = true) (hn' : nostar b = true) (hline : (apos.endLine == pos.line) = true) : ZE X W cl (.Call (.Attribute (.Name x p) "get" apos) [a, b] [] pos) (zGet2 za zb zc) := by
  obtain ⟨ta, pa, qa⟩ := ha.ex
  obtain ⟨tb, pb, qb⟩ := hb.ex
  obtain ⟨tc, pc, qc⟩ := hc.ex
  refine ⟨_, pe_dget2 (by omega) pa pb pc ⟨by rfl, by rw [star_ok hn, star_ok hn']; rfl, hline, by rw [star_ok hn, star_ok hn']; rfl⟩, fun F ph M env σ H Q h1 h2 S P => qa F ph M env σ H _ h1 h2 S (P.step fun d M1 ph1 H1 v S1 f1 r1 P1 => ?_)⟩
  split at P1
  · rename_i hd
    cases e1 : deref M1 d with
    | none => rw [e1] at hd; cases hd
    | some c =>
      rw [e1] at hd
      simp only [Option.map_some, Option.some.injEq] at hd
      obtain ⟨ad, rfl, hD⟩ := isD_of (r1.look S1 e1) hd
      refine ⟨ad, rfl, hD, qb F ph1 M1 env σ H1 _ h1 h2 S1 (P1.step fun k M2 ph2 H2 y S2 f2 r2 P2 => ?_)⟩
      refine qc F ph2 M2 env σ H2 _ h1 h2 S2 (P2.step fun e M3 ph3 H3 z S3 f3 r3 P3 => ?_)
      have rd := (r1.fwd S1 f2).fwd S2 f3
      have rk := r2.fwd S2 f3
      unfold getR at P3
      cases e3 : deref M3 d with
      | none => rw [e3] at P3; exact P3.elim
      | some c3 =>
        rw [e3, Option.bind_some] at P3
        cases e4 : dgetD c3 k with
        | none => rw [e4] at P3; exact P3.elim
        | some o =>
          rw [e4] at P3
          obtain ⟨a', u, hx, hg, ho⟩ := dget_run (rd.look S3 e3) rk e4
          cases hx
          refine ⟨u, hg, ?_⟩
          rcases ho with ⟨rfl, rfl⟩ | ⟨d', v', rfl, rfl, rr⟩
          · exact P3.now S3 r3
          · exact P3.now S3 rr
  · exact P1.elim
end
end Zy
set_option maxHeartbeats 4000000
/-! a dict display with texts as keys; `return` of a new thing, as a cell -/
namespace Zy
open PySem PySem.Spec PyProof.Rows L2
section
variable {X : Cx} {W : WX} {cl : String → Option Addr} {pos : Pos}
def zRetC (z : ZX) : ZS := fun env M => (z env M).toS env fun d M1 => .rt (.ref M1.length) (M1 ++ [d])
theorem zs_retC {e : Expr} {z : ZX} (h : ZF X W cl e z) : Zs X W cl (.Return (some e) pos) (zRetC z) := by
  obtain ⟨t, p, q⟩ := h.ex
  refine ⟨_, ps_ret p, fun F ph M env σ H B h1 h2 S P => q F ph M env σ H _ h1 h2 S ?_⟩
  unfold zRetC at P
  cases qz : z env M with
  | ok d M' =>
    rw [qz] at P
    intro p1 H1 a S1 f c hn
    obtain ⟨S2, la⟩ := S1.toSto c (S.h0 hn) (n0_none S hn)
    have r : Rep (gh F (p1 ++ [a]) env σ) H1 (.ref a) (.ref M'.length) := .ref la
    obtain ⟨ps, e1, hps⟩ := f.ext
    refine P (p1 ++ [a]) env σ H1 (.ref a) S2 (Fwd.ws (ph' := p1 ++ [a]) ⟨⟨ps ++ [a], by rw [e1]; exact List.append_assoc _ _ _, fun b z => ?_⟩, f.keep, f.there⟩) (r.mo gh0_mo)
    rcases List.mem_append.mp z with z | z
    · exact hps b z
    · have z' : b = a := by simpa using z
      rw [z']
      exact hn
  | exc c fs M' =>
    rw [qz] at P
    exact fun p1 H1 dx f C S1 g => P p1 σ H1 dx f C S1 g.ws
  | fail => rw [qz] at P; exact P
def zDspL : List ZX → ZL
  | [] => zNil
  | z :: zs => zCons z (zDspL zs)
theorem pps_of : ∀ {es : List Expr} {zs : List ZX} {ks : List (Str × Nat × Pos)}, es.length = ks.length → zs.length = ks.length → (∀ (i : Nat) (e : Expr) (z : ZX), es[i]? = some e → zs[i]? = some z → ZE X W cl e z) →
    ∃ trs, PPs X pos (ks.map fun k => some (.Constant (.str k.1) k.2.1 k.2.2)) es trs ∧ ∀ F ph M env σ H Q ds M', F.cl = cl → F.K = X.K → Sim F ph M env σ H → zDspL zs env M = .ok ds M' → (∀ ph' H' ys, Sim F ph' M' env σ H' → Fwd ph H ph' H' → RepL (gh F ph' env σ) H' ys ds → Q ((ks.map fun k => V.str k.1).zip ys) H') → tPairs trs σ H Q
  | [], [], [], _, _, _ => ⟨[], pps_nil, fun F ph M env σ H Q ds M' h1 h2 S e h => by
    cases e
    exact h ph H [] S Fwd.refl .nil⟩
  | e :: es, z :: zs, k :: ks, l1, l2, hz => by
    obtain ⟨trs, pp, q⟩ := pps_of (es := es) (zs := zs) (ks := ks) (by simpa using l1) (by simpa using l2) fun i e z h1 h2 => hz (i + 1) e z (by simpa using h1) (by simpa using h2)
    obtain ⟨t, pe, qe⟩ := (hz 0 e z rfl rfl).ex
    refine ⟨_, pps_cons pe_str pe pp, fun F ph M env σ H Q ds M' h1 h2 S e0 h => ?_⟩
    unfold tPairs
    show t σ H fun y H2 => tPairs trs σ H2 fun ps H3 => Q ((V.str k.1, y) :: ps) H3
    unfold zDspL at e0
    simp only [zCons] at e0
    cases qz : z env M with
    | ok d M1 =>
      rw [qz] at e0
      cases ql : zDspL zs env M1 with
      | ok ds1 M2 =>
        simp only [Res.bind_ok, ql] at e0
        cases e0
        refine qe F ph M env σ H _ h1 h2 S ?_
        rw [qz]
        intro ph1 H1 y S1 f1 r1
        refine q F ph1 M1 env σ H1 _ ds1 M' h1 h2 S1 ql fun ph2 H2 ys S2 f2 r2 => ?_
        exact h ph2 H2 (y :: ys) S2 (f1.trans f2) (.cons (r1.mo (f2.mo S1)) r2)
      | exc c fs M2 => simp only [Res.bind_ok, ql, Res.bind_exc] at e0; cases e0
      | fail => simp only [Res.bind_ok, ql, Res.bind_fail] at e0; cases e0
    | exc c fs M1 => rw [qz] at e0; simp only [Res.bind_exc] at e0; cases e0
    | fail => rw [qz] at e0; simp only [Res.bind_fail] at e0; cases e0
  | [], _ :: _, _, l1, l2, _ => by simp at l1 l2; omega
  | _ :: _, [], _, l1, l2, _ => by simp at l1 l2; omega
  | [], [], _ :: _, l1, _, _ => by simp at l1
  | _ :: _, _ :: _, [], l1, _, _ => by simp at l1
def zDsp (ks : List Str) (zs : List ZX) : ZX := fun env M => match zDspL zs env M with
  | .ok ds M1 => if ds.length = ks.length ∧ ks.length ≤ 15 ∧ ks ≠ [] ∧ ks.Nodup then .ok (.dK ((ks.map Sum.inr).zip ds)) M1 else .fail
  | _ => .fail
theorem put_new {acc : List (Key × V)} {k : Key} {v : V} (h : k ∉ acc.map (·.1)) : putK acc k v = acc ++ [(k, v)] := by
  unfold putK
  rw [if_neg]
  intro z
  rw [List.any_eq_true] at z
  obtain ⟨x, hx, e⟩ := z
  simp only [decide_eq_true_eq] at e
  exact h (List.mem_map.mpr ⟨x, hx, e⟩)
theorem merge_new : ∀ {kvs acc : List (Key × V)}, ((acc ++ kvs).map (·.1)).Nodup → mergeK acc kvs = acc ++ kvs
  | [], acc, _ => by simp [mergeK]
  | (k, v) :: kvs, acc, h => by
    unfold mergeK
    rw [List.foldl_cons]
    have hk : k ∉ acc.map (·.1) := by
      rw [List.map_append, List.nodup_append] at h
      exact fun z => h.2.2 k z k (by simp) rfl
    rw [put_new hk]
    have := merge_new (kvs := kvs) (acc := acc ++ [(k, v)]) (by simpa using h)
    unfold mergeK at this
    rw [this]
    simp
theorem repP_zipK {G : Gh} {H : Hp} : ∀ {ks : List Key} {ys : List V} {ds : List D}, RepL G H ys ds → RepP G H Key (ks.zip ys) (ks.zip ds)
  | [], _, _, _ => by simp; exact .nil
  | _ :: _, _, _, .nil => by simp; exact .nil
  | k :: ks, _, _, .cons h t => by
    rw [List.zip_cons_cons, List.zip_cons_cons]
    exact .cons h (repP_zipK t)
def kkS (ks : List (Str × Nat × Pos)) : List Key := (ks.map fun k : Str × Nat × Pos => k.1).map (Sum.inr : Str → Key)
theorem zf_dsp {es : List Expr} {zs : List ZX} {ks : List (Str × Nat × Pos)} (l1 : es.length = ks.length) (l2 : zs.length = ks.length) (hz : ∀ (i : Nat) (e : Expr) (z : ZX), es[i]? = some e → zs[i]? = some z → ZE X W cl e z) (h0 : ks ≠ []) (h15 : ks.length ≤ 15) :
    ZF X W cl (.Dict (ks.map fun k => some (.Constant (.str k.1) k.2.1 k.2.2)) es pos) (zDsp (ks.map (·.1)) zs) := by
  obtain ⟨trs, pp, q⟩ := pps_of (pos := pos) l1 l2 hz
  refine ⟨_, pe_disp pp (by rw [List.all_map, List.all_eq_true]; exact fun _ _ => rfl) (by rw [List.length_map]; exact l1.symm) (by simpa using h0) (by rw [List.length_map]; exact h15), fun F ph M env σ H Q h1 h2 S P p hp => ?_⟩
  obtain ⟨S1, m1⟩ := S.lay (o := .dK []) hp
  unfold zDsp at P
  cases ql : zDspL zs env M with
  | ok ds M1 =>
    rw [ql] at P
    simp only at P
    split at P
    · rename_i hc
      obtain ⟨c1, c2, c3, c4⟩ := hc
      refine q (F.plus p) ph M env σ (upd H p (.dK [])) _ ds M1 h1 h2 S1 ql fun ph2 H2 ys S2 f2 r2 => ?_
      have hph : p ∉ ph := fun z => by
        obtain ⟨u, e⟩ := S.phIn z
        rw [hp] at e
        cases e
      have e2 : H2 p = some (.dK []) := f2.keep p _ upd_same hph
      have ly : ys.length = (ks.map (·.1)).length := by rw [r2.length, c1]
      have nd : (((([] : List (Key × V)) ++ (kkS ks).zip ys)).map Prod.fst).Nodup := by
        rw [List.nil_append, List.map_fst_zip (by unfold kkS; rw [List.length_map, ly]; exact Nat.le_refl _)]
        unfold kkS
        exact List.pairwise_map.mpr (c4.imp fun {a b} h e => h (Sum.inr.inj e))
      refine ⟨e2, (kkS ks).zip ys, ?_, ?_, ?_⟩
      · have ek : (ks.map fun k : Str × Nat × Pos => V.str k.1) = (kkS ks).map kV := by unfold kkS; rw [List.map_map, List.map_map]; rfl
        rw [ek, List.zip_map_left]
        rfl
      · unfold kkS
        rw [List.length_zip, List.length_map, ly]
        omega
      · rw [merge_new nd, List.nil_append]
        have hn0 : (F.plus p).N0 p := .inr rfl
        have S3 := S2.wrN0 (o' := .dK ((kkS ks).zip ys)) hn0 (S.h0 hp)
        have f3 : Fwd ph H ph2 (upd H2 p (.dK ((kkS ks).zip ys))) := ((Fwd.alloc hp).trans f2).wr hp
        have mw : Mo (gh (F.plus p) ph2 env σ) (gh (F.plus p) ph2 env σ) H2 (upd H2 p (.dK ((kkS ks).zip ys))) := mo_wr (.inl (.inl hn0))
        exact P ph2 _ p S3 f3 (.dK upd_same (repP_zipK (r2.mo mw))) hp
    · exact P.elim
  | exc c fs M1 => rw [ql] at P; exact P.elim
  | fail => rw [ql] at P; exact P.elim
end
end Zy
set_option maxHeartbeats 4000000
/-! targets within targets: (place, (one, two)) -/
namespace Zy
open PySem PySem.Spec PyProof.Rows L2
inductive TgL
  | n (i : Nat)
  | t (is : List Nat)
def TgL.all : TgL → List Nat
  | .n i => [i]
  | .t is => is
def flatL (ls : List TgL) : List Nat := ls.flatMap TgL.all
def setAllN (env : Ev) : List TgL → List D → Option Ev
  | [], [] => some env
  | .n i :: ls, d :: ds => setAllN (env.set i (.val d)) ls ds
  | .t is :: ls, d :: ds => ((itemsD d).bind (setAll env is)).bind fun env1 => setAllN env1 ls ds
  | _, _ => none
def gEl (K : PySem.W.Frag) : TgL → TG
  | .n i => gName i
  | .t is => fun v σ H Q => gTup K is.length (gNms is) v σ H Q ∨ gUnl K is.length (gNms is) v σ H Q
def gEls (K : PySem.W.Frag) : List TgL → TGs
  | [] => gNil
  | l :: ls => gCons (gEl K l) (gEls K ls)
def tgTN (ls : List TgL) : ZTg := fun d env => (itemsD d).bind (setAllN env ls)
theorem setAllN_len : ∀ {ls : List TgL} {ds : List D} {env env' : Ev}, setAllN env ls ds = some env' → ds.length = ls.length
  | [], [], _, _, _ => rfl
  | [], _ :: _, _, _, e => by cases e
  | .n i :: _, [], _, _, e => by cases e
  | .t i :: _, [], _, _, e => by cases e
  | .n i :: ls, d :: ds, env, env', e => by
    rw [List.length_cons, List.length_cons, setAllN_len (ls := ls) (ds := ds) (env := env.set i (.val d)) e]
  | .t is :: ls, d :: ds, env, env', e => by
    unfold setAllN at e
    cases q : (itemsD d).bind (setAll env is) with
    | none => rw [q] at e; cases e
    | some env1 =>
      rw [q] at e
      rw [List.length_cons, List.length_cons, setAllN_len (ls := ls) (ds := ds) (env := env1) e]
theorem el_run {F : Fr} {ph : List Addr} {M : Sto} {H : Hp} {K : PySem.W.Frag} (hK : F.K = K) {is : List Nat} {env env1 : Ev} {σ : St} {v : V} {d : D} {Q : St → Hp → Prop} (S : Sim F ph M env σ H) (r : Rep (gh F ph env σ) H v d) (e : (itemsD d).bind (setAll env is) = some env1)
    (k : ∀ σ', Sim F ph M env1 σ' H → Fws F ph env σ H ph env1 σ' H → Q σ' H) : gEl K (.t is) v σ H Q := by
  cases e1 : itemsD d with
  | none => rw [e1] at e; cases e
  | some ds =>
    rw [e1] at e
    have e2 : setAll env is ds = some env1 := e
    obtain ⟨a, xs, rfl, hq, rr⟩ := (Lk.of r).seq e1
    have hK' : (gh F ph env σ).K = K := hK
    rw [hK'] at hq
    have hl : xs.length = is.length := by rw [rr.length, setAll_len e2]
    have run := nms_run S rr e2 k
    rcases hq with hq | hq
    · exact .inr ⟨a, xs, rfl, hq, hl, run⟩
    · exact .inl ⟨a, xs, rfl, hq, hl, run⟩
theorem els_run {F : Fr} {ph : List Addr} {M : Sto} {H : Hp} {K : PySem.W.Frag} (hK : F.K = K) : ∀ {ls : List TgL} {env : Ev} {σ : St} {xs : List V} {ds : List D} {env' : Ev} {Q : St → Hp → Prop}, Sim F ph M env σ H → RepL (gh F ph env σ) H xs ds → setAllN env ls ds = some env' →
    (∀ σ', Sim F ph M env' σ' H → Fws F ph env σ H ph env' σ' H → Q σ' H) → gEls K ls xs σ H Q
  | [], env, σ, xs, ds, env', Q, S, r, e, k => by
    cases ds with
    | nil =>
      cases r
      cases e
      exact ⟨rfl, k σ S Fws.refl⟩
    | cons d ds => cases e
  | .n i :: ls, env, σ, xs, ds, env', Q, S, r, e, k => by
    cases ds with
    | nil => cases e
    | cons d ds =>
      cases r with
      | @cons v _ _ _ h t =>
        refine ⟨_, _, rfl, ?_⟩
        have f : Fws F ph env σ H ph (env.set i (.val d)) (σ.set i (some v)) H := Fws.setV fun _ e => nomatch e
        exact els_run hK (ls := ls) (S.setV h) (RepL.mo f.mo t) e fun σ' S' f' => k σ' S' (f.trans f')
  | .t is :: ls, env, σ, xs, ds, env', Q, S, r, e, k => by
    cases ds with
    | nil => cases e
    | cons d ds =>
      cases r with
      | @cons v _ _ _ h t =>
        refine ⟨_, _, rfl, ?_⟩
        unfold setAllN at e
        cases q : (itemsD d).bind (setAll env is) with
        | none => rw [q] at e; cases e
        | some env1 =>
          rw [q] at e
          exact el_run hK S h q fun σ1 S1 f1 => els_run hK (ls := ls) S1 (RepL.mo f1.mo t) e fun σ' S' f' => k σ' S' (f1.trans f')
theorem el_runB {F : Fr} {ph : List Addr} {M : Sto} {H : Hp} {K : PySem.W.Frag} (hK : F.K = K) {is : List Nat} {env env1 : Ev} {σ : St} {v : V} {d : D} {Q : St → Hp → Prop} (S : Sim F ph M env σ H) (r : Rep (gh F ph env σ) H v d) (e : (itemsD d).bind (setAll env is) = some env1)
    (k : ∀ σ', Sim F ph M env1 σ' H → (∀ a, nof F env1 σ' a → nof F env σ a) → (∀ i, i ∉ is → σ'[i]? = σ[i]? ∧ env1[i]? = env[i]?) → σ'.length = σ.length → Q σ' H) : gEl K (.t is) v σ H Q := by
  cases e1 : itemsD d with
  | none => rw [e1] at e; cases e
  | some ds =>
    rw [e1] at e
    have e2 : setAll env is ds = some env1 := e
    obtain ⟨a, xs, rfl, hq, rr⟩ := (Lk.of r).seq e1
    have hK' : (gh F ph env σ).K = K := hK
    rw [hK'] at hq
    have hl : xs.length = is.length := by rw [rr.length, setAll_len e2]
    have run := nms_runB S rr e2 k
    rcases hq with hq | hq
    · exact .inr ⟨a, xs, rfl, hq, hl, run⟩
    · exact .inl ⟨a, xs, rfl, hq, hl, run⟩
theorem setAll_same : ∀ {is : List Nat} {ds : List D} {env env' : Ev}, setAll env is ds = some env' → env'.length = env.length
  | [], [], env, env', e => by cases e; rfl
  | [], _ :: _, _, _, e => by cases e
  | _ :: _, [], _, _, e => by cases e
  | i :: is, d :: ds, env, env', e => by
    rw [setAll_same (is := is) (ds := ds) (env := env.set i (.val d)) e, List.length_set]
theorem el_runW {F : Fr} {ph : List Addr} {M : Sto} {H : Hp} {K : PySem.W.Frag} (hK : F.K = K) {is : List Nat} {env env1 : Ev} {σ : St} {v : V} {d : D} {Q : St → Hp → Prop} (S : Sim F ph M env σ H) (r : Rep (gh F ph env σ) H v d) (e : (itemsD d).bind (setAll env is) = some env1)
    (k : ∀ σ', Sim F ph M env1 σ' H → Fws F ph env σ H ph env1 σ' H → (∀ a, nof F env1 σ' a → nof F env σ a) → (∀ i, i ∉ is → σ'[i]? = σ[i]? ∧ env1[i]? = env[i]?) → σ'.length = σ.length → Q σ' H) : gEl K (.t is) v σ H Q := by
  cases e1 : itemsD d with
  | none => rw [e1] at e; cases e
  | some ds =>
    rw [e1] at e
    have e2 : setAll env is ds = some env1 := e
    obtain ⟨a, xs, rfl, hq, rr⟩ := (Lk.of r).seq e1
    have hK' : (gh F ph env σ).K = K := hK
    rw [hK'] at hq
    have hl : xs.length = is.length := by rw [rr.length, setAll_len e2]
    have both : ∀ {is : List Nat} {env : Ev} {σ : St} {xs : List V} {ds : List D} {env1 : Ev} {Q : St → Hp → Prop}, Sim F ph M env σ H → RepL (gh F ph env σ) H xs ds → setAll env is ds = some env1 →
        (∀ σ', Sim F ph M env1 σ' H → Fws F ph env σ H ph env1 σ' H → (∀ a, nof F env1 σ' a → nof F env σ a) → (∀ i, i ∉ is → σ'[i]? = σ[i]? ∧ env1[i]? = env[i]?) → σ'.length = σ.length → Q σ' H) → gNms is xs σ H Q := by
      intro is
      induction is with
      | nil =>
        intro env σ xs ds env1 Q S r e k
        cases ds with
        | nil =>
          cases r
          cases e
          exact ⟨rfl, k σ S Fws.refl (fun _ z => z) (fun _ _ => ⟨rfl, rfl⟩) rfl⟩
        | cons d ds => cases e
      | cons i is ih =>
        intro env σ xs ds env1 Q S r e k
        cases ds with
        | nil => cases e
        | cons d ds =>
          cases r with
          | @cons v _ _ _ h t =>
            refine ⟨_, _, rfl, ?_⟩
            have f : Fws F ph env σ H ph (env.set i (.val d)) (σ.set i (some v)) H := Fws.setV fun _ e => nomatch e
            refine ih (S.setV h) (RepL.mo f.mo t) e fun σ' S' f' n' k' l' => k σ' S' (f.trans f') (fun a z => ?_) (fun j hj => ?_) (l'.trans (List.length_set ..))
            · rcases n' a z with z | ⟨j, d', e1, e2⟩
              · exact .inl z
              · rcases getE_set e1 with ⟨_, e⟩ | ⟨ne, e⟩
                · cases e
                · rcases getE_set e2 with ⟨e', _⟩ | ⟨_, e'⟩
                  · exact absurd e' ne
                  · exact .inr ⟨j, d', e, e'⟩
            · simp only [List.mem_cons, not_or] at hj
              exact ⟨by rw [(k' j hj.2).1, List.getElem?_set_ne fun z => hj.1 z.symm], by rw [(k' j hj.2).2, List.getElem?_set_ne fun z => hj.1 z.symm]⟩
    have run := both S rr e2 k
    rcases hq with hq | hq
    · exact .inr ⟨a, xs, rfl, hq, hl, run⟩
    · exact .inl ⟨a, xs, rfl, hq, hl, run⟩
theorem els_runB {F : Fr} {ph : List Addr} {M : Sto} {H : Hp} {K : PySem.W.Frag} (hK : F.K = K) : ∀ {ls : List TgL} {env : Ev} {σ : St} {xs : List V} {ds : List D} {env' : Ev} {Q : St → Hp → Prop}, Sim F ph M env σ H → RepL (gh F ph env σ) H xs ds → setAllN env ls ds = some env' →
    (∀ σ', Sim F ph M env' σ' H → (∀ a, nof F env' σ' a → nof F env σ a) → (∀ i, i ∉ flatL ls → σ'[i]? = σ[i]? ∧ env'[i]? = env[i]?) → σ'.length = σ.length → Q σ' H) → gEls K ls xs σ H Q
  | [], env, σ, xs, ds, env', Q, S, r, e, k => by
    cases ds with
    | nil =>
      cases r
      cases e
      exact ⟨rfl, k σ S (fun _ z => z) (fun _ _ => ⟨rfl, rfl⟩) rfl⟩
    | cons d ds => cases e
  | .n i :: ls, env, σ, xs, ds, env', Q, S, r, e, k => by
    cases ds with
    | nil => cases e
    | cons d ds =>
      cases r with
      | @cons v _ _ _ h t =>
        refine ⟨_, _, rfl, ?_⟩
        have f : Fws F ph env σ H ph (env.set i (.val d)) (σ.set i (some v)) H := Fws.setV fun _ e => nomatch e
        refine els_runB hK (ls := ls) (S.setV h) (RepL.mo f.mo t) e fun σ' S' n' k' l' => k σ' S' (fun a z => ?_) (fun j hj => ?_) (l'.trans (List.length_set ..))
        · rcases n' a z with z | ⟨j, d', e1, e2⟩
          · exact .inl z
          · rcases getE_set e1 with ⟨_, e⟩ | ⟨ne, e⟩
            · cases e
            · rcases getE_set e2 with ⟨e', _⟩ | ⟨_, e'⟩
              · exact absurd e' ne
              · exact .inr ⟨j, d', e, e'⟩
        · simp only [flatL, List.flatMap_cons, TgL.all, List.mem_append, List.mem_singleton, not_or] at hj
          exact ⟨by rw [(k' j hj.2).1, List.getElem?_set_ne fun z => hj.1 z.symm], by rw [(k' j hj.2).2, List.getElem?_set_ne fun z => hj.1 z.symm]⟩
  | .t is :: ls, env, σ, xs, ds, env', Q, S, r, e, k => by
    cases ds with
    | nil => cases e
    | cons d ds =>
      cases r with
      | @cons v _ _ _ h t =>
        refine ⟨_, _, rfl, ?_⟩
        unfold setAllN at e
        cases q : (itemsD d).bind (setAll env is) with
        | none => rw [q] at e; cases e
        | some env1 =>
          rw [q] at e
          refine el_runW hK S h q fun σ1 S1 f1 n1 k1 l1 => els_runB hK (ls := ls) S1 (RepL.mo f1.mo t) e fun σ' S' n' k' l' => k σ' S' (fun a z => n1 a (n' a z)) (fun j hj => ?_) (l'.trans l1)
          simp only [flatL, List.flatMap_cons, TgL.all, List.mem_append, not_or] at hj
          exact ⟨by rw [(k' j hj.2).1, (k1 j hj.1).1], by rw [(k' j hj.2).2, (k1 j hj.1).2]⟩
section
variable {X : Cx} {i : Nat} {x : Str} {pos : Pos} {es : List Expr}
structure ElsAt (X : Cx) (es : List Expr) (ls : List TgL) : Prop where
  gs : PGs X es (gEls X.K ls)
  len : (assignEach es X.env).length = ls.length
  st : (assignEach es X.env).findIdx? (·.1) = none
theorem elsAt_nil : ElsAt X [] [] := ⟨pgs_nil, rfl, rfl⟩
theorem elsAt_name {ls : List TgL} (hN : X.N.Nodup) (hi : X.N[i]? = some x) (hx : Loc X.env.scope x) (hf : X.fn x = true ∨ X.env.scope.names.lookup x = some .local) (h : ElsAt X es ls) : ElsAt X (.Name x pos :: es) (.n i :: ls) := by
  have e : assignEach (.Name x pos :: es) X.env = (false, assign (.Name x pos) X.env) :: assignEach es X.env := rfl
  refine ⟨pgs_cons (pg_name hN hi hx hf) h.gs, ?_, ?_⟩
  · rw [e, List.length_cons, List.length_cons, h.len]
  · rw [e, List.findIdx?_cons]
    simp [h.st]
theorem elsAt_tup {ls : List TgL} {is : List Nat} {es' : List Expr} {k : Nat} {p : Pos} (hc : X.calm = true) (g : NamesAt X es' is) (h : ElsAt X es ls) : ElsAt X (.Tuple es' k p :: es) (.t is :: ls) := by
  have e : assignEach (.Tuple es' k p :: es) X.env = (false, assign (.Tuple es' k p) X.env) :: assignEach es X.env := rfl
  refine ⟨pgs_cons (PG.or (pg_tup (n := is.length) hc g.gs g.len g.st) (pg_unl (n := is.length) hc g.gs g.len g.st)) h.gs, ?_, ?_⟩
  · rw [e, List.length_cons, List.length_cons, h.len]
  · rw [e, List.findIdx?_cons]
    simp [h.st]
def gNst (K : PySem.W.Frag) (ls : List TgL) : TG := fun v σ H Q => gTup K ls.length (gEls K ls) v σ H Q ∨ gUnl K ls.length (gEls K ls) v σ H Q
theorem pg_nst {ls : List TgL} {k : Nat} (hc : X.calm = true) (g : ElsAt X es ls) : PG X (.Tuple es k pos) (gNst X.K ls) :=
  PG.or (pg_tup (n := ls.length) hc g.gs g.len g.st) (pg_unl (n := ls.length) hc g.gs g.len g.st)
theorem zg_nst {ls : List TgL} {k : Nat} (hc : X.calm = true) (g : ElsAt X es ls) : Zg X (.Tuple es k pos) (tgTN ls) := by
  refine ⟨_, pg_nst hc g, fun F ph M env σ H Q v d env' hK S r e k => ?_⟩
  unfold tgTN at e
  cases e1 : itemsD d with
  | none => rw [e1] at e; cases e
  | some ds =>
    rw [e1] at e
    have e2 : setAllN env ls ds = some env' := e
    obtain ⟨a, xs, rfl, hq, rr⟩ := (Lk.of r).seq e1
    have hK' : (gh F ph env σ).K = X.K := hK
    rw [hK'] at hq
    have hl : xs.length = ls.length := by rw [rr.length, setAllN_len e2]
    have run := els_run hK S rr e2 k
    rcases hq with hq | hq
    · exact .inr ⟨a, xs, rfl, hq, hl, run⟩
    · exact .inl ⟨a, xs, rfl, hq, hl, run⟩
theorem run_nst {K : PySem.W.Frag} {ls : List TgL} : RunT K (flatL ls) (tgTN ls) (gNst K ls) := by
  intro F ph M env σ H Q v d env' hK S r e k
  unfold tgTN at e
  cases e1 : itemsD d with
  | none => rw [e1] at e; cases e
  | some ds =>
    rw [e1] at e
    have e2 : setAllN env ls ds = some env' := e
    obtain ⟨a, xs, rfl, hq, rr⟩ := (Lk.of r).seq e1
    have hK' : (gh F ph env σ).K = K := hK
    rw [hK'] at hq
    have hl : xs.length = ls.length := by rw [rr.length, setAllN_len e2]
    have run := els_runB hK S rr e2 k
    rcases hq with hq | hq
    · exact .inr ⟨a, xs, rfl, hq, hl, run⟩
    · exact .inl ⟨a, xs, rfl, hq, hl, run⟩
end
end Zy
set_option maxHeartbeats 4000000
/-! x[i], y[j] = e: two places at once -/
namespace Zy
open PySem PySem.Spec PyProof.Rows L2
def zSw2 (i j : Nat) (z zi zj : ZX) : ZS := fun env M => (z env M).toS env fun v M1 => match v with
  | .tup [d, e] => (match getPl env M1 i with
    | some _ => (zi env M1).toS env fun k M2 => match putL env M2 i k d with
      | .nx env2 M3 => (match getPl env2 M3 j with
        | some _ => (zj env2 M3).toS env2 fun k2 M4 => putL env2 M4 j k2 e
        | none => .fail)
      | _ => .fail
    | none => .fail)
  | _ => .fail
theorem swSub_none {o1 i1 o2 i2 e : Expr} {p1 p2 p : Pos} {k : Nat} {env : Env} : swappedStores [.Tuple [.Subscript o1 i1 p1, .Subscript o2 i2 p2] k p] e env = pure none := by
  cases e with
  | Tuple vs k2 pt =>
    unfold swappedStores
    simp only [List.filterMap_cons, List.filterMap_nil, List.length_cons, List.length_nil]
    split
    · rfl
    · split
      · rfl
      · rfl
  | _ => rfl
section
variable {X : Cx} {W : WX} {cl : String → Option Addr} {pos : Pos} {x y : Str} {i j : Nat} {e a b : Expr} {z za zb : ZX} {p1 p2 p3 p4 pt : Pos} {kt : Nat}
theorem zs_sw2 (hc : X.calm = true) (hu : X.A.units + 64 < cLine) (hN : X.N[i]? = some x) (hv : Vis X.env.scope x) (hd : (x == ("__debug__" : Str)) = false) (hcd : (x == ("__classdict__" : Str)) = false)
    (hN' : X.N[j]? = some y) (hv' : Vis X.env.scope y) (hd' : (y == ("__debug__" : Str)) = false) (hcd' : (y == ("__classdict__" : Str)) = false)
    (h : ZE X W cl e z) (hka : ZE X W cl a za) (hkb : ZE X W cl b zb)
    (hs : swapsWithSole [.Tuple [.Subscript (.Name x p1) a p2, .Subscript (.Name y p3) b p4] kt pt] e pos.line X.env = pure false)
    (ha : ∀ v, assign (.Subscript (.Name x p1) a p2) X.env v = (do
      let ov ← holding [v] (eval (.Name x p1) X.env)
      let iv ← holding [v, ov] (eval a X.env)
      standAt p2
      holding [v, ov, iv] (setItem ov iv v)
      release [v, ov, iv] []))
    (hb : ∀ v, assign (.Subscript (.Name y p3) b p4) X.env v = (do
      let ov ← holding [v] (eval (.Name y p3) X.env)
      let iv ← holding [v, ov] (eval b X.env)
      standAt p4
      holding [v, ov, iv] (setItem ov iv v)
      release [v, ov, iv] [])) :
    Zs X W cl (.Assign [.Tuple [.Subscript (.Name x p1) a p2, .Subscript (.Name y p3) b p4] kt pt] e pos) (zSw2 i j z za zb) := by
  obtain ⟨t, p, q⟩ := h.ex
  obtain ⟨ta, pa, qa⟩ := hka.ex
  obtain ⟨tb, pb, qb⟩ := hkb.ex
  have pgs := pgs_cons (pg_sub (pe_var hN hv hd hcd) pa (set_all (by omega)) ha) (pgs_cons (pg_sub (pe_var hN' hv' hd' hcd') pb (set_all (by omega)) hb) (pgs_nil (X := X)))
  refine ⟨_, ps_asg p (PG.or (pg_tup (n := 2) hc pgs rfl rfl) (pg_unl (n := 2) hc pgs rfl rfl)) hs swSub_none rfl, fun F ph M env σ H B h1 h2 S P => q F ph M env σ H _ h1 h2 S (PoS.step P fun v M1 ph1 H1 vv S1 f1 r1 P1 => ?_)⟩
  split at P1
  · rename_i d d'
    obtain ⟨ad, xs, rfl, hq, rr⟩ := (Lk.of r1).seq (show itemsD (.tup [d, d']) = some [d, d'] from rfl)
    have hK' : (gh F ph1 env σ).K = X.K := h2
    rw [hK'] at hq
    cases rr with
    | @cons v1 _ xs1 _ rv1 rr1 =>
      cases rr1 with
      | @cons v2 _ xs2 _ rv2 rr2 =>
        cases rr2
        split at P1
        · rename_i d0 e1
          obtain ⟨a0, q0, _⟩ := S1.place e1
          have main : gCons (L2.gSub (L2.tVar i) ta rSetU) (gCons (L2.gSub (L2.tVar j) tb rSetU) gNil) [v1, v2] σ H1 B.nx := by
            refine ⟨v1, [v2], rfl, .ref a0, q0, qa F ph1 M1 env σ H1 _ h1 h2 S1 (PoS.step P1 fun k M2 ph2 H2 kv S2 f2 r2 P2 => ?_)⟩
            have P3 : PoS F W env σ ph2 H2 { B with nx := fun σ' H' => ∃ v r, [v2] = v :: r ∧ L2.gSub (L2.tVar j) tb rSetU v σ' H' fun σ'' H'' => gNil r σ'' H'' B.nx } (putL env M2 i k d) := by
              cases e2 : putL env M2 i k d with
              | nx env2 M3 =>
                rw [e2] at P2
                intro ph3 σ3 H3 S3 f3
                simp only at P2
                split at P2
                · rename_i d1 e3
                  obtain ⟨a1, q1, _⟩ := S3.place e3
                  refine ⟨v2, [], rfl, .ref a1, q1, qb F ph3 M3 env2 σ3 H3 _ h1 h2 S3 (PoS.step (PoS.fwd P2 f3) fun k2 M4 ph4 H4 kv2 S4 f4 r4 P4 => ?_)⟩
                  have rv3 : Rep (gh F ph4 env2 σ3) H4 v2 d' := ((rv2.mo (f2.mo S1)).mo f3.mo).mo (f4.mo S3)
                  have P5 : PoS F W env2 σ3 ph4 H4 { B with nx := fun σ' H' => gNil [] σ' H' B.nx } (putL env2 M4 j k2 d') := by
                    cases e5 : putL env2 M4 j k2 d' with
                    | nx env5 M5 =>
                      rw [e5] at P4
                      intro ph5 σ5 H5 S5 f5
                      exact ⟨rfl, P4.nxt S5 f5⟩
                    | _ => rw [e5] at P4; exact P4
                  obtain ⟨o, q2, r⟩ := putL_run S4 r4 rv3 P5
                  rw [q1] at q2
                  cases q2
                  exact r
                · exact P2.elim
              | _ => rw [e2] at P2; exact P2.elim
            obtain ⟨o, q1, r⟩ := putL_run S2 r2 (rv1.mo (f2.mo S1)) P3
            rw [q0] at q1
            cases q1
            exact r
          rcases hq with hq | hq
          · exact .inr ⟨ad, _, rfl, hq, rfl, main⟩
          · exact .inl ⟨ad, _, rfl, hq, rfl, main⟩
        · exact P1.elim
  · exact P1.elim
end
end Zy
set_option maxHeartbeats 2000000
namespace Zy
open PySem PySem.Spec PyProof.Rows L2

/-! the text's own meaning -/
structure Pt where
  name : Str
  n : Nat
  ks : List Str
  is : List Nat
  dd : List D
structure Px where
  free : List Str
  pats : List Pt
  cls : List Ci
  exs : List Xi
  file : Str
  gcds : List Str := []
structure Stt where
  px : Px
  call : Str → Sem1
  N : List Str
  sc : Scope
  owns : List Str
  cels : List Str
def failX : ZX := fun _ _ => .fail
def failL : ZL := fun _ _ => .fail
def failS : ZS := fun _ _ => .fail
def ixOf (N : List Str) (x : Str) : Option Nat := N.findIdx? (· == x)
def isVis (sc : Scope) (x : Str) : Bool := match sc.names.lookup x with
  | some .local | some .cell | some .free => true
  | _ => false
def isGlo (sc : Scope) (x : Str) : Bool := match sc.names.lookup x with
  | some .globalImplicit => true
  | _ => false
def plainN (x : Str) : Bool := !(x == ("__debug__" : Str)) && !(x == ("__classdict__" : Str))
/-- a built-in name that the module leaves alone -/
def Stt.bi (st : Stt) (x : Str) : Bool := isGlo st.sc x && st.px.free.contains x
def slotOf (st : Stt) (x : Str) : Option Nat := if isVis st.sc x && plainN x then ixOf st.N x else none
/-- what the text's classes are -/
def Stt.ci (st : Stt) (c : String) : Option Ci := st.px.cls.find? fun q => decide (q.c = c)
def Stt.ats (st : Stt) : Ats := fun c f => match st.ci c with
  | some q => q.ats.contains f
  | none => false
def Stt.lens (st : Stt) : Lens := fun c => match st.ci c with
  | some q => q.len.map st.call
  | none => none
def Stt.eqs (st : Stt) : Lens := fun c => match st.ci c with
  | some q => q.eqm.map st.call
  | none => none
def Stt.hasEq (st : Stt) : Bool := st.px.cls.any fun q => q.eqm.isSome
def isEqOp : CmpOp → Bool
  | .Eq => true
  | _ => false
def Stt.prp (st : Stt) (f : Str) : Lens := fun c => match st.ci c with
  | some q => (q.props.find? fun z => decide (z.1 = f)).map fun z => st.call z.2
  | none => none
def Stt.isPrp (st : Stt) (f : Str) : Bool := st.px.cls.any fun q => q.props.any fun z => decide (z.1 = f)
def atBase : Expr → Bool
  | .Name .. | .Attribute .. | .Subscript .. => true
  | _ => false
def cmpG : CmpOp → Option G2
  | .Eq => some gEq
  | .NotEq => some gNe
  | .Lt => some gLt
  | .LtE => some gLe
  | .Gt => some gGt
  | .GtE => some gGe
  | .Is => some gIs
  | .IsNot => some gIsNot
  | _ => none
def binG : Operator → Option G2
  | .Add => some gAdd
  | .Sub => some gSub
  | .Mult => some gMul
  | .FloorDiv => some gFdiv
  | .Mod => some gMod
  | .Pow => some gPow
  | _ => none
/-- reading a name, or what r makes of it -/
def rdC (st : Stt) (r : Expr → ZX) : Expr → ZX
  | .Name x _ => match slotOf st x with
    | some i => zCv i
    | none => failX
  | e => r e
def rdB (st : Stt) (r : Expr → ZX) : Expr → ZX
  | .Name x _ => match slotOf st x with
    | some i => zBv i
    | none => failX
  | e => r e
def rdS (st : Stt) (r : Expr → ZX) : Expr → ZS1
  | .Name x _ => match slotOf st x with
    | some i => zSv i
    | none => fun _ _ => .fail
  | e => zVl (r e)
def andV (r : Expr → ZX) : List Expr → ZX
  | [] => failX
  | [a] => r a
  | a :: es => zAndV (r a) (andV r es)
def orV (r : Expr → ZX) : List Expr → ZX
  | [] => failX
  | [a] => r a
  | a :: es => zOrV (r a) (orV r es)
def andT (r : Expr → ZB) : List Expr → ZB
  | [] => fun _ _ => .fail
  | [a] => r a
  | a :: es => zAnd (r a) (andT r es)
def orT (r : Expr → ZB) : List Expr → ZB
  | [] => fun _ _ => .fail
  | [a] => r a
  | a :: es => zOr (r a) (orT r es)
def rdA (r : Expr → ZX) : List Expr → ZL
  | [] => zNil
  | e :: es => if nostar e = true then zCons (r e) (rdA r es) else failL
def rdSs (r : Expr → ZS1) : List Expr → ZSl
  | [] => sNil
  | e :: es => if nostar e = true then sCons (r e) (rdSs r es) else fun _ _ => .fail
def rdKs (r : Expr → ZS1) : List Keyword → ZSl
  | [] => sNil
  | k :: ks => sCons (r k.value) (rdKs r ks)
def rdP (r : Expr → ZX) : Option Expr → ZO
  | none => zNoP
  | some e => zPart (r e)
/-- subscripts that are no slices -/
def plainSub : Expr → Bool
  | .Name .. | .Constant (.int _) .. | .Constant (.str _) .. | .BinOp .. | .Call .. | .Subscript .. | .Attribute .. => true
  | .UnaryOp .. => true
  | .Tuple .. => true
  | _ => false
def notSet : Expr → Bool
  | .Set .. => false
  | _ => true
def truE : Expr → Bool
  | .Name .. | .Call .. | .Subscript .. | .Attribute .. => true
  | _ => false
def foldOk : Expr → Bool
  | .Name .. | .Call .. | .Subscript .. | .Attribute .. | .List .. | .Tuple .. | .BinOp .. | .ListComp .. => true
  | _ => false
def tyName (x : Str) : Option String :=
  if x = ("int" : Str) then some "int" else if x = ("bool" : Str) then some "bool" else if x = ("list" : Str) then some "list" else if x = ("tuple" : Str) then some "tuple" else if x = ("str" : Str) then some "str" else if x = ("dict" : Str) then some "dict" else none
def Stt.rng (st : Stt) (r : Expr → ZX) : Expr → Option ZR
  | .Call (.Name x _) [a] [] _ => if x = ("range" : Str) ∧ st.bi x = true ∧ nostar a = true then some (zRg1 (r a)) else none
  | .Call (.Name x _) [a, b] [] _ => if x = ("range" : Str) ∧ st.bi x = true ∧ nostar a = true ∧ nostar b = true then some (zRg2 (r a) (r b)) else none
  | _ => none
/-- a built-in of one argument -/
def bi1 (st : Stt) (r : Expr → ZX) (x : Str) (a : Expr) : ZX :=
  if x = ("len" : Str) then zLen st.lens (rdS st r a) else
  if x = ("int" : Str) then zBf gInt (zCons (rdC st r a) zNil) else
  if x = ("abs" : Str) then zBf gAbs (zCons (rdC st r a) zNil) else
  if x = ("sum" : Str) then zBf gSum (zCons (rdC st r a) zNil) else
  if x = ("max" : Str) then zBf gMax (zCons (rdC st r a) zNil) else
  if x = ("min" : Str) then zBf gMin (zCons (rdC st r a) zNil) else
  if x = ("all" : Str) then zBf gAll (zCons (rdC st r a) zNil) else
  if x = ("any" : Str) then zBf gAny (zCons (rdC st r a) zNil) else
  if x = ("repr" : Str) then zBf gRepr (zCons (rdC st r a) zNil) else
  if x = ("tuple" : Str) then (match st.rng r a with
    | some z => zTupRg z
    | none => zTupOf (rdC st r a)) else
  if x = ("list" : Str) then (match st.rng r a with
    | some z => zLstRg z
    | none => zLstOf (rdC st r a)) else failX
def bi1s (st : Stt) (r : Expr → ZX) (x : Str) (a : Expr) : ZX :=
  if x = ("sorted" : Str) then zSortU (rdC st r a) else bi1 st r x a
def bi2 (st : Stt) (r : Expr → ZX) (x : Str) (a b : Expr) : ZX :=
  if x = ("max" : Str) then zBf gMax2 (zCons (rdC st r a) (zCons (rdC st r b) zNil)) else
  if x = ("min" : Str) then zBf gMin2 (zCons (rdC st r a) (zCons (rdC st r b) zNil)) else
  if x = ("isinstance" : Str) then (match b with
    | .Name T _ => if st.bi T = true then (match tyName T with
      | some n => zIsi [n] (rdC st r a)
      | none => failX) else (match st.px.cls.find? fun q => decide (q.name = T) with
      | some q => if (isGlo st.sc T && plainN T) = true then zIsC q.c (rdC st r a) else failX
      | none => failX)
    | .Tuple [.Name T _, .Name U _] _ _ => if st.bi T = true ∧ st.bi U = true then (match tyName T, tyName U with
      | some n, some m => zIsi [n, m] (rdC st r a)
      | _, _ => failX) else failX
    | _ => failX) else failX
def kwNames : List Keyword → List Str
  | [] => []
  | k :: ks => match k.arg with
    | some x => x :: kwNames ks
    | none => kwNames ks
/-- a call of a def -/
def usr (st : Stt) (r : Expr → ZX) (x : Str) (es : List Expr) (kws : List Keyword) : ZX :=
  if isGlo st.sc x = true ∧ plainN x = true ∧ es.all nostar = true ∧ kws.all (fun k => k.arg.isSome) = true then
    match st.px.pats.find? fun p => decide (p.name = x) && (decide (p.n = es.length) && decide (p.ks = kwNames kws)) with
    | some p => zCall (st.call x) p.n p.ks.length p.is p.dd (rdSs (rdS st r) es) (rdKs (rdS st r) kws)
    | none => failX
  else failX
/-- a comparison -/
def cmpE (st : Stt) (r : Expr → ZX) (o : CmpOp) (a b : Expr) : ZX := if (st.hasEq && isEqOp o) = true then zEqO st.eqs (rdS st r a) (rdS st r b) else match cmpG o with
  | some g => zOp g (rdC st r a) (rdC st r b)
  | none => failX
/-- a call of a class -/
def mkE (st : Stt) (r : Expr → ZX) (x : Str) (es : List Expr) (kws : List Keyword) : Option ZX :=
  if isGlo st.sc x = true ∧ plainN x = true ∧ es.all nostar = true ∧ kws.all (fun k => k.arg.isSome) = true then
    match st.px.cls.find? fun q => decide (q.name = x) with
    | some c => (match c.make.find? fun p => decide (p.2.1 = es.length) && decide (p.2.2.1 = kwNames kws) with
      | some p => some (zMake c.c (st.call p.1) es.length p.2.2.1.length p.2.2.2 [] (rdSs (rdS st r) es) (rdKs (rdS st r) kws))
      | none => none)
    | none => none
  else none
def gcdE (st : Stt) (r : Expr → ZX) (x : Str) : List Expr → List Keyword → Option ZX
  | [a, b], [] => if st.px.gcds.contains x = true ∧ isGlo st.sc x = true ∧ plainN x = true ∧ nostar a = true ∧ nostar b = true then some (zBf gGcd (zCons (rdC st r a) (zCons (rdC st r b) zNil))) else none
  | _, _ => none
def isTg : Expr → Bool
  | .Tuple .. => true
  | _ => false
def strOf : Str → Str := id
/-- what is walked by a built-in -/
def rdW (st : Stt) (r : Expr → ZX) (tg : Expr) (x : Str) : List Expr → Option ZL
  | [a] => if nostar a = true then (if x = ("reversed" : Str) then (match st.rng r a with
      | some z => some (zRevR z)
      | none => some (zRev (rdB st r a))) else if x = ("enumerate" : Str) ∧ isTg tg = true then some (zEnumA (rdB st r a)) else none) else none
  | [a, b] => if nostar a = true ∧ nostar b = true ∧ x = ("zip" : Str) ∧ isTg tg = true then some (zZip (rdB st r a) (rdB st r b)) else none
  | [a, b, c] => if nostar a = true ∧ nostar b = true ∧ nostar c = true ∧ x = ("zip" : Str) ∧ isTg tg = true then some (zZip3 (rdB st r a) (rdB st r b) (rdB st r c)) else none
  | _ => none
/-- what is iterated -/
def rdI (st : Stt) (r : Expr → ZX) (tg : Expr) : Expr → ZL
  | .Call (.Name x p) es kws pos => if x = ("range" : Str) ∧ st.bi x = true ∧ kws.isEmpty = true then (match es with
      | [a] => if nostar a = true then zRng1 (rdA r [a]) else failL
      | [a, b] => if nostar a = true ∧ nostar b = true then zRng2 (rdA r [a, b]) else failL
      | [a, b, c] => if nostar a = true ∧ nostar b = true ∧ nostar c = true then zRng3 (rdA r [a, b, c]) else failL
      | _ => failL) else if st.bi x = true ∧ kws.isEmpty = true then (match rdW st r tg x es with
      | some z => z
      | none => zSeqI (rdB st r (.Call (.Name x p) es kws pos))) else zSeqI (rdB st r (.Call (.Name x p) es kws pos))
  | e => zSeqI (rdB st r e)
/-- the slots of names -/
def slots (N : List Str) (ok : Str → Bool) : List Expr → Option (List Nat)
  | [] => some []
  | .Name x _ :: es => if ok x = true then (match ixOf N x, slots N ok es with
    | some i, some is => some (i :: is)
    | _, _ => none) else none
  | _ => none
def elsL (N : List Str) (ok : Str → Bool) : List Expr → Option (List TgL)
  | [] => some []
  | .Name x _ :: es => if ok x = true then (match ixOf N x, elsL N ok es with
    | some i, some ls => some (.n i :: ls)
    | _, _ => none) else none
  | .Tuple es' _ _ :: es => (match slots N ok es', elsL N ok es with
    | some is, some ls => some (.t is :: ls)
    | _, _ => none)
  | _ => none
def rdG (N : List Str) (ok : Str → Bool) : Expr → Option (List Nat × ZTg)
  | .Name x _ => if ok x = true then (match ixOf N x with
    | some i => some ([i], tgN i)
    | none => none) else none
  | .Tuple es _ _ => match slots N ok es with
    | some is => some (is, tgT is)
    | none => (match elsL N ok es with
      | some ls => some (flatL ls, tgTN ls)
      | none => none)
  | _ => none
/-- a comprehension's own names and their slots -/
def ownOf (N : List Str) (scope : Scope) : List (Str × Nat) := scope.names.filterMap fun y => match y.2 with
  | .local | .cell => (ixOf N y.1).map fun i => (y.1, i)
  | _ => none
def okStore (scope : Scope) (sc : Scope) (x : Str) : Bool := match (relS scope sc).names.lookup x with
  | some .local => true
  | some .cell => scope.names.lookup x == some .cell
  | _ => false
def Stt.blk (st : Stt) (scope : Scope) : Stt := { st with sc := relS scope st.sc }
def subset (a b : List Nat) : Bool := a.all b.contains
def tsP (tb : Expr → ZB) : List Expr → Option ZB
  | [] => some fun _ M => .ok true M
  | [c] => some (tb c)
  | _ => none
/-- a comprehension of two clauses -/
def lc2Z (st : Stt) (scope : Scope) (r : Expr → ZX) (rb : Expr → ZX) (tb : Expr → ZB) (elt tg iter tg1 iter1 : Expr) (ifs ifs1 : List Expr) : Option ZX :=
  match rdG st.N (okStore scope st.sc) tg, rdG st.N (okStore scope st.sc) tg1, tsP tb ifs, tsP tb ifs1 with
  | some (is, gz), some (is1, gz1), some zt, some zt1 => if blkC st.N st.sc scope (ownOf st.N scope) = true ∧ subset is ((ownOf st.N scope).map (·.2)) = true ∧ subset is1 ((ownOf st.N scope).map (·.2)) = true ∧ foldOk iter = true ∧ foldOk iter1 = true then
      some (zLc2 (rdI st r tg iter) gz zt (rdI (st.blk scope) rb tg1 iter1) gz1 zt1 (rb elt) ((ownOf st.N scope).map (·.2)) is1) else none
  | _, _, _, _ => none
def ev : Nat → Stt → Expr → ZX × ZB
  | 0, _, _ => (failX, fun _ _ => .fail)
  | n + 1, st, e =>
    let r := fun e => (ev n st e).1
    let t := fun e => (ev n st e).2
    (match e with
    | .Constant .none _ _ => zK .non
    | .Constant (.bool b) _ _ => zK (.bl b)
    | .Constant (.int i) _ _ => zK (.int i)
    | .Constant (.str s) _ _ => zK (.str s)
    | .Name x _ => match slotOf st x with
      | some i => zVar i
      | none => failX
    | .BinOp a op b _ => match binG op with
      | some g => zOp g (rdC st r a) (rdC st r b)
      | none => failX
    | .UnaryOp .USub a _ => zNeg (r a)
    | .UnaryOp .Not a _ => zNotV (r a)
    | .Compare a [.In] [b] _ => if notSet b = true then zOp gIn (rdC st r a) (rdC st r b) else failX
    | .Compare a [.NotIn] [b] _ => if notSet b = true then zOp gNotIn (rdC st r a) (rdC st r b) else failX
    | .Compare a [o] [b] _ => cmpE st r o a b
    | .Compare a [o, o'] [b, c] _ => match cmpG o, cmpG o' with
      | some g, some g' => zCh g g' (rdC st r a) (rdC st r b) (rdC st r c)
      | _, _ => failX
    | .BoolOp .And es _ => andV r es
    | .BoolOp .Or es _ => orV r es
    | .IfExp c a b _ => zIf (t c) (r a) (r b)
    | .Tuple es _ _ => zTup (rdA r es)
    | .List es _ => zLst (rdA r es)
    | .Subscript a (.Slice lo hi none _) _ => zSl (rdC st r a) (rdP r lo) (rdP r hi)
    | .Subscript a (.Slice none none (some (.UnaryOp .USub (.Constant (.int 1) _ _) _)) _) _ => zRv (rdC st r a)
    | .Subscript a (.Slice (some lo) none (some s2) _) _ => zSlS (rdC st r a) (rdP r (some lo)) (rdP r (some s2))
    | .Dict [] [] _ => zDNew true
    | .Subscript a b _ => if plainSub b = true then zOp gIx (rdC st r a) (rdC st r b) else failX
    | .ListComp elt [⟨tg, iter, ifs, 0⟩] scope _ => match rdG st.N (okStore scope st.sc) tg with
      | some (is, gz) => if blkC st.N st.sc scope (ownOf st.N scope) = true ∧ subset is ((ownOf st.N scope).map (·.2)) = true ∧ foldOk iter = true then
          (match ifs with
          | [] => zLc (rdI st r tg iter) gz (fun _ M => .ok true M) (ev n (st.blk scope) elt).1 ((ownOf st.N scope).map (·.2))
          | [c] => zLc (rdI st r tg iter) gz (ev n (st.blk scope) c).2 (ev n (st.blk scope) elt).1 ((ownOf st.N scope).map (·.2))
          | _ => failX) else failX
      | none => failX
    | .ListComp elt [⟨tg, iter, ifs, 0⟩, ⟨tg1, iter1, ifs1, 0⟩] scope _ => match lc2Z st scope r (fun e => (ev n (st.blk scope) e).1) (fun e => (ev n (st.blk scope) e).2) elt tg iter tg1 iter1 ifs ifs1 with
      | some z => z
      | none => failX
    | .Call (.Name x _) es kws _ => if st.bi x = true then (match es, kws with
        | [a], [] => if nostar a = true then bi1s st r x a else failX
        | [a, b], [] => if nostar a = true ∧ nostar b = true then bi2 st r x a b else failX
        | _, _ => failX) else (match mkE st r x es kws with
        | some z => z
        | none => (match gcdE st r x es kws with
          | some z => z
          | none => usr st r x es kws))
    | .Attribute a f _ => if atBase a = true then (if st.isPrp f = true then zProp (st.prp f) (rdS st r a) else zAt st.ats f (rdC st r a)) else failX
    | .Call (.Attribute (.Name x _) m p2) [b] [] p3 => match slotOf st x with
      | some i => if m = ("index" : Str) ∧ nostar b = true ∧ (p2.endLine == p3.line) = true then zIdx (zCv i) (r b) else failX
      | none => failX
    | .Call (.Attribute (.Name x _) m p2) [b, b2] [] p3 => match slotOf st x with
      | some i => if m = ("get" : Str) ∧ nostar b = true ∧ nostar b2 = true ∧ (p2.endLine == p3.line) = true then zGet2 (zCv i) (rdC st r b) (r b2) else failX
      | none => failX
    | _ => failX,
    match e with
    | .Compare a [.In] [b] _ => if notSet b = true then zTst (zOp gIn (rdC st r a) (rdC st r b)) else fun _ _ => .fail
    | .Compare a [.NotIn] [b] _ => if notSet b = true then zTst (zOp gNotIn (rdC st r a) (rdC st r b)) else fun _ _ => .fail
    | .Compare a [o] [b] _ => match cmpG o with
      | some g => zTst (zOp g (rdC st r a) (rdC st r b))
      | none => fun _ _ => .fail
    | .Compare a [o, o'] [b, c] _ => match cmpG o, cmpG o' with
      | some g, some g' => zTst (zCh g g' (rdC st r a) (rdC st r b) (rdC st r c))
      | _, _ => fun _ _ => .fail
    | .BoolOp .And es _ => andT t es
    | .BoolOp .Or es _ => orT t es
    | .UnaryOp .Not a _ => zNot (t a)
    | e => if truE e = true then zTru (rdC st r e) else fun _ _ => .fail)
/-! errors of the text -/
def Stt.exOf (st : Stt) (x : Str) : Option Xi := st.px.exs.find? fun q => decide (q.name = x)
def eatP (px : Px) : String → Str → Bool := fun c f => px.exs.any fun q => decide (q.c = c) && q.flds.contains f
def esubP (px : Px) (y : String) : String → Option Bool := fun c => (px.exs.find? fun q => decide (q.c = c)).map fun q => q.sub.contains y
def evalP (px : Px) : String → Option Bool := fun c => (px.exs.find? fun q => decide (q.c = c)).map fun _ => true
/-- expressions of an except suite -/
def evH (st : Stt) : Nat → Expr → ZX × ZB
  | 0, _ => (failX, fun _ _ => .fail)
  | n + 1, e =>
    let r := fun e => (evH st n e).1
    let t := fun e => (evH st n e).2
    (match e with
    | .Constant .none _ _ => zK .non
    | .Constant (.bool b) _ _ => zK (.bl b)
    | .Constant (.int i) _ _ => zK (.int i)
    | .Constant (.str s) _ _ => zK (.str s)
    | .Name x _ => match slotOf st x with
      | some i => zVar i
      | none => failX
    | .UnaryOp .Not a _ => zNotV (r a)
    | .Compare a [o] [b] _ => match cmpG o with
      | some g => zOp g (rdC st r a) (rdC st r b)
      | none => failX
    | .BoolOp .And es _ => andV r es
    | .BoolOp .Or es _ => orV r es
    | .Tuple es _ _ => zTup (rdA r es)
    | .List es _ => zLst (rdA r es)
    | .Subscript a b _ => if plainSub b = true then zOp gIx (rdC st r a) (rdC st r b) else failX
    | .Call (.Name x _) [a] [] _ => if st.bi x = true ∧ x = ("repr" : Str) ∧ nostar a = true then zBf gRepr (zCons (rdC st r a) zNil) else failX
    | .Call (.Name x _) [a, .Name T _] [] _ => if st.bi x = true ∧ x = ("isinstance" : Str) ∧ nostar a = true then (match st.exOf T with
      | some q => if (isGlo st.sc T && plainN T) = true then zXis (esubP st.px q.c) (r a) else failX
      | none => if st.bi T = true ∧ T = ("ValueError" : Str) then zXis (evalP st.px) (r a) else failX) else failX
    | .Attribute a f _ => if atBase a = true then zXat (eatP st.px) f (r a) else failX
    | _ => failX,
    match e with
    | .Compare a [o] [b] _ => match cmpG o with
      | some g => zTst (zOp g (rdC st r a) (rdC st r b))
      | none => fun _ _ => .fail
    | .BoolOp .And es _ => andT t es
    | .BoolOp .Or es _ => orT t es
    | .UnaryOp .Not a _ => zNot (t a)
    | e => if truE e = true then zTru (rdC st r e) else fun _ _ => .fail)
end Zy
set_option maxHeartbeats 4000000
namespace Zy
open PySem PySem.Spec PyProof.Rows L2

structure ClsAt (P : Program) (w : World) (K : PySem.W.Frag) (mg : Str → Option Value) (base : Heap) (cl : String → Option Addr) (k : Nat) (call : Str → Sem1) (c : Ci) : Prop where
  ex : ∃ C, cl c.c = some C ∧ mg c.name = some (.ref C) ∧ Cls K C ∧ (∀ f ∈ c.ats, NoAttr K C f) ∧
    (∀ p ∈ c.make, ∃ f fd ps, Mk K C f ∧ Pat K fd ps (p.2.1 + 1) p.2.2.1 p.2.2.2 [] ∧ FnG P w K mg base (L2.CX P w) k f fd ps (spZ cl K ps.length (call p.1))) ∧
    (∀ m, c.len = some m → ∃ f fd ps, PySem.W.findIn K (.ref C) "__len__" = some (some (.ref f)) ∧ PySem.W.isFn K (.ref f) = true ∧ Pat K fd ps 1 [] [0] [] ∧ FnG P w K mg base (L2.CX P w) k f fd ps (spZ cl K ps.length (call m))) ∧
    (∀ z ∈ c.props, ∃ p g fd ps, PropOf K C z.1 p g ∧ Pat K fd ps 1 [] [0] [] ∧ FnG P w K mg base (L2.CX P w) k g fd ps (spZ cl K ps.length (call z.2)))
  ik : ∀ C, cl c.c = some C → InsK K C
  eqk : ∀ m, c.eqm = some m → ∀ C, cl c.c = some C → ∃ f fd ps, PySem.W.findIn K (.ref C) "__eq__" = some (some (.ref f)) ∧ PySem.W.isFn K (.ref f) = true ∧ Pat K fd ps 2 [] [0, 1] [] ∧ FnG P w K mg base (L2.CX P w) k f fd ps (spZ cl K ps.length (call m))
/-- an own error, as it stands behind the top -/
structure ExAt (P : Program) (K : PySem.W.Frag) (mg : Str → Option Value) (cl : String → Option Addr) (xs : List Xi) (x : Xi) : Prop where
  ex : ∃ C, cl x.c = some C ∧ mg x.name = some (.ref C) ∧ XfC K C ∧ KitC K C ∧ (∀ f ∈ x.flds, PySem.W.findIn K (.ref C) f = some none) ∧
    (∀ d, x.init = some d → ∃ fI cc cda fd kV doc pm an ct ps, ErT x d ps ∧ ErK P K C fI cc cda d.qual d.params d.body d.scope fd x.flds ∧ fd = PySem.W.fnX d.name d.qual d.params d.body d.scope [("__class__", cc)] .none kV doc pm an (.ref cda) ct) ∧
    (∀ y ∈ xs, ∀ D, cl y.c = some D → PySem.W.exmOne K (.ref C) (.ref D) = some (x.sub.contains y.c) ∧ PySem.W.kitOne K (.ref C) (.ref D) = some (x.sub.contains y.c)) ∧ PySem.W.kitOne K (.ref C) (.type "ValueError") = some true
structure Tab (P : Program) (w : World) (K : PySem.W.Frag) (mg : Str → Option Value) (base : Heap) (cl : String → Option Addr) (k : Nat) (px : Px) (call : Str → Sem1) : Prop where
  free : ∀ x, x ∈ px.free → mg x = none
  fn : ∀ p, p ∈ px.pats → ∃ f fd ps, mg p.name = some (.ref f) ∧ PySem.W.keepIn K (.ref f) = true ∧ Pat K fd ps p.n p.ks p.is p.dd ∧ FnG P w K mg base (L2.CX P w) k f fd ps (spZ cl K ps.length (call p.name))
  cls : ∀ c ∈ px.cls, ClsAt P w K mg base cl k call c
  exs : ∀ x ∈ px.exs, ExAt P K mg cl px.exs x
  sup : px.exs ≠ [] → mg ("super" : Str) = none
  hot : ∀ s, realC s = false → cl s = none
  gcd : ∀ x ∈ px.gcds, mg x = some (.builtin "math.gcd")
structure Ct (X : Cx) (W : WX) (cl : String → Option Addr) (k : Nat) (st : Stt) : Prop where
  N : X.N = st.N
  sc : X.env.scope = st.sc
  calm : X.calm = true
  nd : st.N.Nodup
  tk : Takes X W
  room : Room (k + 1) X.A
  gd : X.A.guards = some []
  tab : Tab X.prog X.w X.K X.mg X.base cl k st.px st.call
  kind : st.sc.kind = .function
section
variable {X : Cx} {W : WX} {cl : String → Option Addr} {k : Nat} {st : Stt} {e a b : Expr} {es : List Expr} {r : Expr → ZX} {t : Expr → ZB} {x : Str} {i : Nat}
theorem ze_fail : ZE X W cl e failX := ⟨fun _ _ _ => False, ⟨fun _ _ _ _ _ _ h => h.elim⟩, fun F ph M env σ H Q _ _ S P => P⟩
theorem zt_fail : ZT X W cl e fun _ _ => .fail := ⟨fun _ _ _ => False, ⟨fun _ _ _ _ _ _ h => h.elim⟩, fun F ph M env σ H Q _ _ S P => P⟩
theorem za_fail : ZA X W cl es failL := ⟨fun _ _ _ => False, ⟨fun _ _ _ _ _ _ _ h => h.elim⟩, fun F ph M env σ H Q _ _ S P => P⟩
theorem zsa_fail : ZSa X W cl es fun _ _ => .fail := ⟨fun _ _ _ => False, ⟨fun _ _ _ _ _ _ _ h => h.elim⟩, fun F ph M env σ H Q _ _ S P => P⟩
theorem zi_fail {tg : Expr} : Zi X W cl tg e failL := ⟨fun _ _ _ => False, ⟨fun _ _ _ _ _ _ h => h.elim⟩, fun F ph M env σ H Q _ _ S P => P⟩
theorem zs1_fail : ZS1j X W cl e fun _ _ => .fail := ⟨fun _ _ _ => False, ⟨fun _ _ _ _ _ _ h => h.elim⟩, fun F ph M env σ H Q _ _ S P => P⟩
theorem ixOf_at {N : List Str} {x : Str} {i : Nat} (h : ixOf N x = some i) : N[i]? = some x := by
  obtain ⟨hi, h1, _⟩ := List.findIdx?_eq_some_iff_getElem.mp h
  rw [List.getElem?_eq_getElem hi]
  exact congrArg some (eq_of_beq h1)
theorem isVis_ok {sc : Scope} (h : isVis sc x = true) : Vis sc x := by
  unfold isVis at h
  unfold Vis
  split at h <;> simp_all
theorem isGlo_ok (c : Ct X W cl k st) (h : isGlo st.sc x = true) : Gl X x := by
  unfold isGlo at h
  unfold Gl
  show X.env.scope.names.lookup x = _
  rw [c.sc]
  split at h <;> simp_all
theorem plainN_ok (h : plainN x = true) : (x == ("__debug__" : Str)) = false ∧ (x == ("__classdict__" : Str)) = false := by
  unfold plainN at h
  simpa using h
theorem slotOf_ok (c : Ct X W cl k st) (h : slotOf st x = some i) : X.N[i]? = some x ∧ Vis X.env.scope x ∧ (x == ("__debug__" : Str)) = false ∧ (x == ("__classdict__" : Str)) = false := by
  unfold slotOf at h
  split at h
  · rename_i hc
    simp only [Bool.and_eq_true] at hc
    rw [c.N, c.sc]
    exact ⟨ixOf_at h, isVis_ok hc.1, plainN_ok hc.2⟩
  · cases h
theorem bi_ok (c : Ct X W cl k st) (h : st.bi x = true) : Gl X x ∧ X.mg x = none := by
  unfold Stt.bi at h
  simp only [Bool.and_eq_true] at h
  exact ⟨isGlo_ok c h.1, c.tab.free x (by simpa using h.2)⟩
theorem rdC_ok (c : Ct X W cl k st) (hr : ∀ e, ZE X W cl e (r e)) : ∀ e, ZC X W cl e (rdC st r e) := by
  intro e
  unfold rdC
  split
  · rename_i x p
    split
    · rename_i i h
      obtain ⟨h1, h2, h3, h4⟩ := slotOf_ok c h
      exact zc_var h1 h2 h3 h4
    · exact ze_fail.toC
  · exact (hr _).toC
theorem rdB_ok (c : Ct X W cl k st) (hr : ∀ e, ZE X W cl e (r e)) : ∀ e, ZBm X W cl e (rdB st r e) := by
  intro e
  unfold rdB
  split
  · split
    · rename_i i h
      obtain ⟨h1, h2, h3, h4⟩ := slotOf_ok c h
      exact zbm_var h1 h2 h3 h4
    · exact ze_fail.toB
  · exact (hr _).toB
theorem rdS_ok (c : Ct X W cl k st) (hr : ∀ e, ZE X W cl e (r e)) : ∀ e, ZS1j X W cl e (rdS st r e) := by
  intro e
  unfold rdS
  split
  · split
    · rename_i i h
      obtain ⟨h1, h2, h3, h4⟩ := slotOf_ok c h
      exact zs1_var h1 h2 h3 h4
    · exact zs1_fail
  · exact (hr _).to1
theorem andV_ok {pos : Pos} (hr : ∀ e, ZE X W cl e (r e)) : ∀ es, ZE X W cl (.BoolOp .And es pos) (andV r es)
  | [] => ze_fail
  | [a] => ze_one (hr a)
  | a :: b :: es => ze_and (hr a) (andV_ok hr (b :: es))
theorem orV_ok {pos : Pos} (hr : ∀ e, ZE X W cl e (r e)) : ∀ es, ZE X W cl (.BoolOp .Or es pos) (orV r es)
  | [] => ze_fail
  | [a] => ze_one (hr a)
  | a :: b :: es => ze_or (hr a) (orV_ok hr (b :: es))
theorem zw_fail : ZW X W cl e fun _ _ => .fail := ⟨fun _ _ _ => False, ⟨fun _ _ _ _ _ _ _ h => h.elim⟩, fun F ph M env σ H Q _ _ S P => P⟩
theorem andT_ok {pos : Pos} (ht : ∀ e, ZT X W cl e (t e)) : ∀ es, ZW X W cl (.BoolOp .And es pos) (andT t es)
  | [] => zw_fail
  | [a] => zw_and1 (ht a)
  | a :: b :: es => zw_and (ht a) (andT_ok ht (b :: es))
theorem orT_ok {pos : Pos} (ht : ∀ e, ZT X W cl e (t e)) : ∀ es, ZW X W cl (.BoolOp .Or es pos) (orT t es)
  | [] => zw_fail
  | [a] => zw_or1 (ht a)
  | a :: b :: es => zw_or (ht a) (orT_ok ht (b :: es))
theorem rdA_ok (hr : ∀ e, ZE X W cl e (r e)) : ∀ es, ZA X W cl es (rdA r es)
  | [] => za_nil
  | e :: es => by
    unfold rdA
    split
    · rename_i h
      exact za_cons (hr e) (rdA_ok hr es) h
    · exact za_fail
theorem rdSs_ok {r : Expr → ZS1} (hr : ∀ e, ZS1j X W cl e (r e)) : ∀ es, ZSa X W cl es (rdSs r es)
  | [] => zsa_nil
  | e :: es => by
    unfold rdSs
    split
    · rename_i h
      exact zsa_cons (hr e) (rdSs_ok hr es) h
    · exact zsa_fail
theorem rdKs_ok {r : Expr → ZS1} (hr : ∀ e, ZS1j X W cl e (r e)) : ∀ ks, ZSk X W cl ks (rdKs r ks)
  | [] => zsk_nil
  | ⟨nm, e, p⟩ :: ks => zsk_cons (hr e) (rdKs_ok hr ks)
theorem rdP_ok (hr : ∀ e, ZE X W cl e (r e)) : ∀ o, ZP X W cl o (rdP r o)
  | none => zp_none
  | some e => zp_some (hr e)
theorem plainSub_ok (h : plainSub b = true) : PlainIx b := by
  cases b with
  | Constant c k p => cases c <;> first | exact fun _ _ => rfl | cases h
  | _ => first | exact fun _ _ => rfl | cases h
theorem notSet_ok {op : CmpOp} (h : notSet b = true) : behindInMarks op b = false := by
  cases b <;> first | rfl | cases h
theorem truE_ok (h : truE a = true) : ∀ whole, isTrue a X.env whole = (do let v ← whole; standAt a.pos; holding [v] (truthy v)) := by
  cases a <;> first | exact fun _ => rfl | cases h
theorem foldOk_ok (h : foldOk a = true) : ∀ x, foldedSetIterable a X.env x = pure x := by
  cases a <;> first | exact fun _ => rfl | cases h
theorem Ct.units (c : Ct X W cl k st) : X.A.units + 64 < cLine := c.room.units
theorem tyName_ok {n : String} (h : tyName x = some n) : bootBuiltins x = some (.type n) ∧ x ≠ "__name__" ∧ (x == ("__debug__" : Str)) = false ∧ okTy n = true := by
  unfold tyName at h
  split at h
  · rename_i e; cases h; subst e; exact ⟨by decide +kernel, by decide +kernel, by decide +kernel, rfl⟩
  split at h
  · rename_i e; cases h; subst e; exact ⟨by decide +kernel, by decide +kernel, by decide +kernel, by decide +kernel⟩
  split at h
  · rename_i e; cases h; subst e; exact ⟨by decide +kernel, by decide +kernel, by decide +kernel, by decide +kernel⟩
  split at h
  · rename_i e; cases h; subst e; exact ⟨by decide +kernel, by decide +kernel, by decide +kernel, by decide +kernel⟩
  split at h
  · rename_i e; cases h; subst e; exact ⟨by decide +kernel, by decide +kernel, by decide +kernel, by decide +kernel⟩
  split at h
  · rename_i e; cases h; subst e; exact ⟨by decide +kernel, by decide +kernel, by decide +kernel, by decide +kernel⟩
  · cases h
theorem bin_ok (c : Ct X W cl k st) {op : Operator} {g : G2} {pos : Pos} {za zb : ZX} (h : binG op = some g) (ha : ZC X W cl a za) (hb : ZC X W cl b zb) : ZE X W cl (.BinOp a op b pos) (zOp g za zb) := by
  cases op <;> simp only [binG, Option.some.injEq, reduceCtorEq] at h <;> subst h
  · exact ze_add ha hb
  · exact ze_sub ha hb
  · exact ze_mul ha hb
  · exact ze_mod ha hb
  · exact ze_pow ha hb
  · exact ze_fdiv ha hb
theorem cmp_ok (c : Ct X W cl k st) {op : CmpOp} {g : G2} (h : cmpG op = some g) : ∃ r, OpR X (compareOp op) r ∧ OpZ X W cl r g ∧ op ≠ .In ∧ op ≠ .NotIn := by
  cases op <;> simp only [cmpG, Option.some.injEq, reduceCtorEq] at h <;> subst h
  · exact ⟨_, op_eq.or (op_eqD c.units), oz_eq, by decide, by decide⟩
  · exact ⟨_, op_ne.or (op_neD c.units), oz_ne, by decide, by decide⟩
  · exact ⟨_, op_lt, oz_cmp, by decide, by decide⟩
  · exact ⟨_, op_le, oz_cmp, by decide, by decide⟩
  · exact ⟨_, op_gt, oz_cmp, by decide, by decide⟩
  · exact ⟨_, op_ge, oz_cmp, by decide, by decide⟩
  · exact ⟨_, op_isN.or op_isBl, oz_is, by decide, by decide⟩
  · exact ⟨_, op_notN.or op_notBl, oz_isNot, by decide, by decide⟩
theorem rng_ok (c : Ct X W cl k st) (hr : ∀ e, ZE X W cl e (r e)) {z : ZR} (h : st.rng r e = some z) : ZRg X W cl e z ∧ nostar e = true := by
  unfold Stt.rng at h
  split at h
  · split at h
    · rename_i hc
      obtain ⟨rfl, h2, h3⟩ := hc
      cases h
      obtain ⟨g1, g2⟩ := bi_ok c h2
      exact ⟨zr_1 g1 g2 (hr _) h3, rfl⟩
    · cases h
  · split at h
    · rename_i hc
      obtain ⟨rfl, h2, h3, h4⟩ := hc
      cases h
      obtain ⟨g1, g2⟩ := bi_ok c h2
      exact ⟨zr_2 g1 g2 (hr _) (hr _) h3 h4, rfl⟩
    · cases h
  · cases h
theorem ci_ok {n : String} {q : Ci} (h : st.ci n = some q) : q ∈ st.px.cls ∧ q.c = n := by
  unfold Stt.ci at h
  exact ⟨List.mem_of_find?_eq_some h, by simpa using List.find?_some h⟩
theorem ats_ok (c : Ct X W cl k st) : AtsOk X.K cl st.ats := by
  intro n f C h hC
  unfold Stt.ats at h
  split at h
  · rename_i q hq
    obtain ⟨m, rfl⟩ := ci_ok hq
    obtain ⟨C', e1, _, k1, k2, _⟩ := (c.tab.cls q m).ex
    rw [hC] at e1
    cases e1
    exact ⟨k1, k2 f (by simpa using h)⟩
  · cases h
theorem lens_ok (c : Ct X W cl k st) {n : String} {g : Sem1} (h : st.lens n = some g) : MethOk X cl k "__len__" n g := by
  intro C hC
  unfold Stt.lens at h
  split at h
  · rename_i q hq
    obtain ⟨m, rfl⟩ := ci_ok hq
    obtain ⟨C', e1, _, _, _, _, k3, _⟩ := (c.tab.cls q m).ex
    rw [hC] at e1
    cases e1
    cases e2 : q.len with
    | none => rw [e2] at h; cases h
    | some key =>
      rw [e2] at h
      cases h
      exact k3 key e2
  · cases h
theorem eqs_ok (c : Ct X W cl k st) {n : String} {g : Sem1} (h : st.eqs n = some g) : EqOk X cl k n g := by
  intro C hC
  unfold Stt.eqs at h
  split at h
  · rename_i q hq
    obtain ⟨m, rfl⟩ := ci_ok hq
    rw [Option.map_eq_some_iff] at h
    obtain ⟨key, hk, rfl⟩ := h
    exact (c.tab.cls q m).eqk key hk C hC
  · cases h
theorem cmpE_ok (c : Ct X W cl k st) (hr : ∀ e, ZE X W cl e (r e)) (hs : ∀ e, ZS1j X W cl e (rdS st r e)) {o : CmpOp} {pos : Pos} (hn : ∀ g, cmpG o = some g → ZE X W cl (.Compare a [o] [b] pos) (zOp g (rdC st r a) (rdC st r b))) : ZE X W cl (.Compare a [o] [b] pos) (cmpE st r o a b) := by
  unfold cmpE
  split
  · rename_i h
    simp only [Bool.and_eq_true] at h
    cases o <;> first | (cases h.2; done) | exact ze_eqO (fun _ _ h => eqs_ok c h) c.units c.gd c.room (hs a) (hs b)
  · split
    · rename_i g h
      exact hn g h
    · exact ze_fail
theorem prp_ok (c : Ct X W cl k st) {n : String} {f : Str} {g : Sem1} (h : st.prp f n = some g) : PropOk X cl k f n g := by
  intro C hC
  unfold Stt.prp at h
  split at h
  · rename_i q hq
    obtain ⟨m, rfl⟩ := ci_ok hq
    obtain ⟨C', e1, _, k1, _, _, _, k4⟩ := (c.tab.cls q m).ex
    rw [hC] at e1
    cases e1
    rw [Option.map_eq_some_iff] at h
    obtain ⟨z, hz, rfl⟩ := h
    have hm := List.mem_of_find?_eq_some hz
    have hf : z.1 = f := by simpa using List.find?_some hz
    subst hf
    obtain ⟨p, g', fd, ps, a1, a2, a3⟩ := k4 z hm
    exact ⟨p, g', fd, ps, k1, a1, a2, a3⟩
  · cases h
theorem atBase_ok (h : atBase a = true) {f : Str} : attributeBase a f X.env (eval a X.env) = eval a X.env := by
  cases a <;> first | rfl | cases h
theorem bi1_ok (c : Ct X W cl k st) (hr : ∀ e, ZE X W cl e (r e)) {p pos : Pos} (hb : st.bi x = true) (hn : nostar a = true) : ZE X W cl (.Call (.Name x p) [a] [] pos) (bi1 st r x a) := by
  obtain ⟨hg, hm⟩ := bi_ok c hb
  have ha := rdC_ok c hr a
  unfold bi1
  split
  · rename_i e; subst e; exact ze_lenO (fun _ _ h => lens_ok c h) c.gd c.room c.tk hg hm (rdS_ok c hr a) hn
  split
  · rename_i e; subst e; exact ze_callInt hg hm ha hn
  split
  · rename_i e; subst e; exact ze_abs hg hm ha hn
  split
  · rename_i e; subst e; exact ze_sum c.calm hg hm ha hn
  split
  · rename_i e; subst e; exact ze_max c.calm hg hm ha hn
  split
  · rename_i e; subst e; exact ze_min c.calm hg hm ha hn
  split
  · rename_i e; subst e; exact ze_all c.calm hg hm ha hn
  split
  · rename_i e; subst e; exact ze_any c.calm hg hm ha hn
  split
  · rename_i e; subst e; exact ze_repr c.gd c.units hg hm ha hn
  split
  · rename_i e
    subst e
    split
    · rename_i z h
      exact ze_tupRg c.calm hg hm (rng_ok c hr h).1 hn
    · exact ze_tupOf hg hm ha hn
  split
  · rename_i e
    subst e
    split
    · rename_i z h
      exact (zf_lstRg c.calm hg hm (rng_ok c hr h).1 hn).toE
    · exact (zf_lstOf hg hm ha hn).toE
  · exact ze_fail
theorem bi1s_ok (c : Ct X W cl k st) (hr : ∀ e, ZE X W cl e (r e)) {p pos : Pos} (hb : st.bi x = true) (hn : nostar a = true) : ZE X W cl (.Call (.Name x p) [a] [] pos) (bi1s st r x a) := by
  obtain ⟨hg, hm⟩ := bi_ok c hb
  unfold bi1s
  split
  · rename_i e; subst e; exact (zf_sortU c.units hg hm (rdC_ok c hr a) hn).toE
  · exact bi1_ok c hr hb hn
theorem bi2_ok (c : Ct X W cl k st) (hr : ∀ e, ZE X W cl e (r e)) {p pos : Pos} (hb : st.bi x = true) (hn : nostar a = true) (hn2 : nostar b = true) : ZE X W cl (.Call (.Name x p) [a, b] [] pos) (bi2 st r x a b) := by
  obtain ⟨hg, hm⟩ := bi_ok c hb
  have ha := rdC_ok c hr a
  unfold bi2
  split
  · rename_i e; subst e; exact ze_max2 c.calm hg hm ha (rdC_ok c hr b) hn hn2
  split
  · rename_i e; subst e; exact ze_min2 c.calm hg hm ha (rdC_ok c hr b) hn hn2
  split
  · rename_i e
    subst e
    split
    · split
      · rename_i hT
        split
        · rename_i n h
          obtain ⟨g1, g2⟩ := bi_ok c hT
          obtain ⟨t1, t2, t3, t4⟩ := tyName_ok h
          exact ze_isi hg hm g1 g2 t1 t2 t3 t4 ha hn
        · exact ze_fail
      · split
        · rename_i q hq
          split
          · rename_i hg2
            simp only [Bool.and_eq_true] at hg2
            have hmem := List.mem_of_find?_eq_some hq
            have hname := List.find?_some hq
            simp only [decide_eq_true_eq] at hname
            obtain ⟨C, k1, k2, _⟩ := (c.tab.cls q hmem).ex
            rw [hname] at k2
            exact ze_isC hg hm (isGlo_ok c hg2.1) k2 (plainN_ok hg2.2).1 k1 ((c.tab.cls q hmem).ik C k1) ha hn
          · exact ze_fail
        · exact ze_fail
    · split
      · rename_i hT
        split
        · rename_i n m h h'
          obtain ⟨g1, g2⟩ := bi_ok c hT.1
          obtain ⟨g3, g4⟩ := bi_ok c hT.2
          obtain ⟨t1, t2, t3, t4⟩ := tyName_ok h
          obtain ⟨u1, u2, u3, u4⟩ := tyName_ok h'
          exact ze_isi2 hg hm g1 g2 t1 t2 t3 t4 g3 g4 u1 u2 u3 u4 ha hn
        · exact ze_fail
      · exact ze_fail
    · exact ze_fail
  · exact ze_fail
theorem starAny : ∀ {es : List Expr} {env : Env} {pos : Pos}, es.all nostar = true → (backTo pos (starEach es env)).any (·.1) = false
  | [], _, _, _ => rfl
  | e :: es, env, pos, h => by
    simp only [List.all_cons, Bool.and_eq_true] at h
    rw [star_ok h.1]
    show (false || (backTo pos (starEach es env)).any (·.1)) = false
    rw [starAny h.2]
    rfl
theorem kwAll : ∀ {ks : List Keyword} {env : Env} {pos : Pos}, ks.all (fun k => k.arg.isSome) = true → (backToKw pos (keywordEach ks env)).all (·.1.isSome) = true ∧ (backToKw pos (keywordEach ks env)).any (·.1.isNone) = false ∧ (backToKw pos (keywordEach ks env)).filterMap (·.1) = kwNames ks
  | [], _, _, _ => ⟨rfl, rfl, rfl⟩
  | ⟨some x, e, p⟩ :: ks, env, pos, h => by
    simp only [List.all_cons, Bool.and_eq_true] at h
    obtain ⟨h1, h2, h3⟩ := kwAll (env := env) (pos := pos) h.2
    refine ⟨?_, ?_, ?_⟩
    · show (true && (backToKw pos (keywordEach ks env)).all (·.1.isSome)) = true
      rw [h1]; rfl
    · show (false || (backToKw pos (keywordEach ks env)).any (·.1.isNone)) = false
      rw [h2]; rfl
    · show x :: (backToKw pos (keywordEach ks env)).filterMap (·.1) = x :: kwNames ks
      rw [h3]
  | ⟨none, e, p⟩ :: ks, env, pos, h => by simp at h
theorem usr_ok (c : Ct X W cl k st) (hr : ∀ e, ZE X W cl e (r e)) {p pos : Pos} {kws : List Keyword} : ZE X W cl (.Call (.Name x p) es kws pos) (usr st r x es kws) := by
  unfold usr
  split
  · rename_i hc
    obtain ⟨h1, h2, h3, h4⟩ := hc
    split
    · rename_i q hq
      have hmem := List.mem_of_find?_eq_some hq
      have hp := List.find?_some hq
      simp only [Bool.and_eq_true, decide_eq_true_eq] at hp
      obtain ⟨p1, p2, p3⟩ := hp
      obtain ⟨f, fd, ps, hm, hk, B, F⟩ := c.tab.fn q hmem
      rw [p1] at hm F
      obtain ⟨k1, k2, k3⟩ := kwAll (env := X.env) (pos := pos) h4
      have hpl : ((backTo pos (starEach es X.env)).any (·.1) || (backToKw pos (keywordEach kws X.env)).any (·.1.isNone)) = false := by rw [starAny h3, k2]; rfl
      cases es with
      | nil =>
        have p2' : q.n = 0 := p2
        rw [p2'] at B ⊢
        exact ze_call0 F c.gd (c.room.mono (Nat.le_succ k)) c.tk (isGlo_ok c h1) hm hk B (plainN_ok h2).1 (rdKs_ok (rdS_ok c hr) kws) k1 (k3.trans p3.symm) hpl
      | cons e es =>
        have h3' := h3
        simp only [List.all_cons, Bool.and_eq_true] at h3'
        exact ze_call F c.gd (c.room.mono (Nat.le_succ k)) c.tk (isGlo_ok c h1) hm hk B (plainN_ok h2).1 (rdSs_ok (rdS_ok c hr) (e :: es)) (rdKs_ok (rdS_ok c hr) kws) h3'.1 k1 (k3.trans p3.symm) hpl
    · exact ze_fail
  · exact ze_fail
theorem mkE_ok (c : Ct X W cl k st) (hr : ∀ e, ZE X W cl e (r e)) {p pos : Pos} {kws : List Keyword} {z : ZX} (h : mkE st r x es kws = some z) : ZF X W cl (.Call (.Name x p) es kws pos) z := by
  unfold mkE at h
  split at h
  · rename_i hc
    obtain ⟨h1, h2, h3, h4⟩ := hc
    split at h
    · rename_i q hq
      have hmem := List.mem_of_find?_eq_some hq
      have hn : q.name = x := by simpa using List.find?_some hq
      obtain ⟨C, e1, e2, _, _, k2, _, _⟩ := (c.tab.cls q hmem).ex
      rw [hn] at e2
      split at h
      · rename_i m hm
        cases h
        have hmm := List.mem_of_find?_eq_some hm
        have hp := List.find?_some hm
        simp only [Bool.and_eq_true, decide_eq_true_eq] at hp
        obtain ⟨p1, p2⟩ := hp
        obtain ⟨f, fd, ps, Mk', B, F⟩ := k2 m hmm
        rw [p1] at B
        obtain ⟨k1, k2, k3⟩ := kwAll (env := X.env) (pos := pos) h4
        have hpl : ((backTo pos (starEach es X.env)).any (·.1) || (backToKw pos (keywordEach kws X.env)).any (·.1.isNone)) = false := by rw [starAny h3, k2]; rfl
        cases es with
        | nil => exact zf_make0 Mk' F c.gd c.room c.tk (isGlo_ok c h1) e2 e1 B (plainN_ok h2).1 (rdKs_ok (rdS_ok c hr) kws) k1 (k3.trans p2.symm) hpl
        | cons e es =>
          have h3' := h3
          simp only [List.all_cons, Bool.and_eq_true] at h3'
          exact zf_make Mk' F c.gd c.room c.tk (isGlo_ok c h1) e2 e1 B (plainN_ok h2).1 (rdSs_ok (rdS_ok c hr) (e :: es)) (rdKs_ok (rdS_ok c hr) kws) h3'.1 k1 (k3.trans p2.symm) hpl
      · cases h
    · cases h
  · cases h
theorem gcdE_ok (c : Ct X W cl k st) (hr : ∀ e, ZE X W cl e (r e)) {p pos : Pos} {kws : List Keyword} {z : ZX} (h : gcdE st r x es kws = some z) : ZE X W cl (.Call (.Name x p) es kws pos) z := by
  unfold gcdE at h
  split at h
  · split at h
    · rename_i hc
      obtain ⟨h1, h2, h3, h4, h5⟩ := hc
      cases h
      exact ze_gcd (isGlo_ok c h2) (c.tab.gcd x (by simpa using h1)) (plainN_ok h3).1 (rdC_ok c hr _) (rdC_ok c hr _) h4 h5
    · cases h
  · cases h
theorem rdW_ok (c : Ct X W cl k st) (hr : ∀ e, ZE X W cl e (r e)) {tg : Expr} {p pos : Pos} {z : ZL} (hb : st.bi x = true) (h : rdW st r tg x es = some z) : Zi X W cl tg (.Call (.Name x p) es [] pos) z := by
  obtain ⟨hg, hm⟩ := bi_ok c hb
  unfold rdW at h
  split at h
  · split at h
    · rename_i hn
      split at h
      · rename_i e
        subst e
        split at h
        · rename_i zr hz
          cases h
          exact zi_revR hg hm (rng_ok c hr hz).1 hn
        · cases h
          exact zi_rev hg hm (rdB_ok c hr _) hn
      · split at h
        · rename_i e
          obtain ⟨rfl, ht⟩ := e
          cases h
          cases tg <;> first | (cases ht; done) | exact zi_enumA hg hm (rdB_ok c hr _) hn
        · cases h
    · cases h
  · split at h
    · rename_i hn
      obtain ⟨n1, n2, rfl, ht⟩ := hn
      cases h
      cases tg <;> first | (cases ht; done) | exact zi_zip hg hm (rdB_ok c hr _) (rdB_ok c hr _) n1 n2
    · cases h
  · split at h
    · rename_i hn
      obtain ⟨n1, n2, n3, rfl, ht⟩ := hn
      cases h
      cases tg <;> first | (cases ht; done) | exact zi_zip3 hg hm (rdB_ok c hr _) (rdB_ok c hr _) (rdB_ok c hr _) n1 n2 n3
    · cases h
  · cases h
theorem rdI_ok (c : Ct X W cl k st) (hr : ∀ e, ZE X W cl e (r e)) {tg : Expr} : ∀ e, Zi X W cl tg e (rdI st r tg e) := by
  intro e
  unfold rdI
  split
  · split
    · rename_i hc
      obtain ⟨rfl, h2, h3⟩ := hc
      obtain ⟨g1, g2⟩ := bi_ok c h2
      rename_i kws pos
      have h3' : kws = [] := by simpa using h3
      subst h3'
      split
      · split
        · rename_i h
          exact zi_range1 g1 g2 (rdA_ok hr _) h
        · exact zi_fail
      · split
        · rename_i h
          exact zi_range2 g1 g2 (rdA_ok hr _) h.1 h.2
        · exact zi_fail
      · split
        · rename_i h
          exact zi_range3 g1 g2 (rdA_ok hr _) h.1 h.2.1 h.2.2
        · exact zi_fail
      · exact zi_fail
    · split
      · rename_i hc
        rename_i kws' pos' _
        have h3' : kws' = [] := by simpa using hc.2
        subst h3'
        split
        · rename_i z hz
          exact rdW_ok c hr hc.1 hz
        · exact zi_seq (rdB_ok c hr _)
      · exact zi_seq (rdB_ok c hr _)
  · exact zi_seq (rdB_ok c hr _)
end
end Zy
set_option maxHeartbeats 4000000
namespace Zy
open PySem PySem.Spec PyProof.Rows L2

section
variable {X : Cx} {W : WX} {cl : String → Option Addr} {k : Nat} {st : Stt} {e a b : Expr} {es : List Expr} {r : Expr → ZX} {t : Expr → ZB} {x : Str} {i : Nat}
theorem slots_ok {N : List Str} {ok : Str → Bool} (hN : X.N = N) (nd : N.Nodup) (h : ∀ x, ok x = true → Loc X.env.scope x ∧ (X.fn x = true ∨ X.env.scope.names.lookup x = some .local)) : ∀ {es : List Expr} {is : List Nat}, slots N ok es = some is → NamesAt X es is
  | [], is, e => by
    cases e
    exact namesAt_nil
  | e :: es, is, q => by
    cases e with
    | Name x p =>
      simp only [slots] at q
      split at q
      · rename_i hx
        split at q
        · rename_i i is' h1 h2
          cases q
          exact namesAt_cons (by rw [hN]; exact nd) (by rw [hN]; exact ixOf_at h1) (h x hx).1 (h x hx).2 (slots_ok hN nd h h2)
        · cases q
      · cases q
    | _ => simp [slots] at q
theorem elsL_ok {N : List Str} {ok : Str → Bool} (hN : X.N = N) (nd : N.Nodup) (hc : X.calm = true) (h : ∀ x, ok x = true → Loc X.env.scope x ∧ (X.fn x = true ∨ X.env.scope.names.lookup x = some .local)) : ∀ {es : List Expr} {ls : List TgL}, elsL N ok es = some ls → ElsAt X es ls
  | [], ls, e => by
    cases e
    exact elsAt_nil
  | e :: es, ls, q => by
    cases e with
    | Name x p =>
      simp only [elsL] at q
      split at q
      · rename_i hx
        split at q
        · rename_i i ls' h1 h2
          cases q
          exact elsAt_name (by rw [hN]; exact nd) (by rw [hN]; exact ixOf_at h1) (h x hx).1 (h x hx).2 (elsL_ok hN nd hc h h2)
        · cases q
      · cases q
    | Tuple es' k p =>
      simp only [elsL] at q
      split at q
      · rename_i is ls' h1 h2
        cases q
        exact elsAt_tup hc (slots_ok hN nd h h1) (elsL_ok hN nd hc h h2)
      · cases q
    | _ => simp [elsL] at q
def isNm : Expr → Bool
  | .Name .. => true
  | _ => false
def shapeL : List Expr → List Nat → List TgL
  | [], _ => []
  | .Tuple es' _ _ :: es, is => .t (is.take es'.length) :: shapeL es (is.drop es'.length)
  | _ :: es, i :: is => .n i :: shapeL es is
  | _ :: _, [] => []
theorem slots_len {N : List Str} {ok : Str → Bool} : ∀ {es : List Expr} {is : List Nat}, slots N ok es = some is → is.length = es.length
  | [], is, e => by cases e; rfl
  | e :: es, is, q => by
    cases e with
    | Name x p =>
      simp only [slots] at q
      split at q
      · split at q
        · rename_i i is' h1 h2
          cases q
          rw [List.length_cons, List.length_cons, slots_len h2]
        · cases q
      · cases q
    | _ => simp [slots] at q
theorem slots_nm {N : List Str} {ok : Str → Bool} : ∀ {es : List Expr} {is : List Nat}, slots N ok es = some is → es.all isNm = true
  | [], is, e => rfl
  | e :: es, is, q => by
    cases e with
    | Name x p =>
      simp only [slots] at q
      split at q
      · split at q
        · rename_i i is' h1 h2
          rw [List.all_cons, slots_nm h2]
          rfl
        · cases q
      · cases q
    | _ => simp [slots] at q
theorem elsL_shape {N : List Str} {ok : Str → Bool} : ∀ {es : List Expr} {ls : List TgL}, elsL N ok es = some ls → shapeL es (flatL ls) = ls
  | [], ls, e => by cases e; rfl
  | e :: es, ls, q => by
    cases e with
    | Name x p =>
      simp only [elsL] at q
      split at q
      · split at q
        · rename_i i ls' h1 h2
          cases q
          show shapeL (.Name x p :: es) (i :: flatL ls') = _
          rw [show shapeL (.Name x p :: es) (i :: flatL ls') = .n i :: shapeL es (flatL ls') from rfl, elsL_shape h2]
        · cases q
      · cases q
    | Tuple es' k p =>
      simp only [elsL] at q
      split at q
      · rename_i is ls' h1 h2
        cases q
        have hl := slots_len h1
        show shapeL (.Tuple es' k p :: es) (is ++ flatL ls') = _
        rw [show shapeL (.Tuple es' k p :: es) (is ++ flatL ls') = .t ((is ++ flatL ls').take es'.length) :: shapeL es ((is ++ flatL ls').drop es'.length) from rfl, ← hl, List.take_left, List.drop_left, elsL_shape h2]
      · cases q
    | _ => simp [elsL] at q
theorem elsL_nm {N : List Str} {ok : Str → Bool} : ∀ {es : List Expr} {ls : List TgL}, elsL N ok es = some ls → es.all isNm = true → ∃ is, slots N ok es = some is
  | [], ls, e, _ => ⟨[], rfl⟩
  | e :: es, ls, q, ha => by
    rw [List.all_cons, Bool.and_eq_true] at ha
    cases e with
    | Name x p =>
      simp only [elsL] at q
      split at q
      · rename_i hx
        split at q
        · rename_i i ls' h1 h2
          obtain ⟨is, e2⟩ := elsL_nm h2 ha.2
          exact ⟨i :: is, by simp only [slots]; rw [if_pos hx, h1, e2]⟩
        · cases q
      · cases q
    | _ => cases ha.1
def gOfT (K : PySem.W.Frag) (es : List Expr) (is : List Nat) : TG := if es.all isNm = true then (fun v σ H Q => gTup K is.length (gNms is) v σ H Q ∨ gUnl K is.length (gNms is) v σ H Q) else gNst K (shapeL es is)
/-- a target of names: its index list, its meaning; the reading is told by the list alone -/
def gOf (K : PySem.W.Frag) : Expr → List Nat → TG
  | .Name .., [i] => gName i
  | .Tuple es _ _, is => gOfT K es is
  | _, is => fun v σ H Q => gTup K is.length (gNms is) v σ H Q ∨ gUnl K is.length (gNms is) v σ H Q
theorem gOf_tup {K : PySem.W.Frag} {es : List Expr} {kk : Nat} {p : Pos} {is : List Nat} : gOf K (.Tuple es kk p) is = gOfT K es is := by
  rcases is with _ | ⟨a, _ | ⟨b, c⟩⟩ <;> rfl
theorem rdG_ok {N : List Str} {ok : Str → Bool} {tg : Expr} {is : List Nat} {gz : ZTg} (hN : X.N = N) (nd : N.Nodup) (hc : X.calm = true) (h : ∀ x, ok x = true → Loc X.env.scope x ∧ (X.fn x = true ∨ X.env.scope.names.lookup x = some .local)) (q : rdG N ok tg = some (is, gz)) :
    Zgb X tg is gz (gOf X.K tg is) ∧ Zg X tg gz := by
  unfold rdG at q
  split at q
  · split at q
    · rename_i hx
      split at q
      · rename_i i h1
        cases q
        obtain ⟨l, f⟩ := h _ hx
        have hi := ixOf_at h1
        rw [← hN] at hi nd
        exact ⟨zgb_name nd hi l f, zg_name nd hi l f⟩
      · cases q
    · cases q
  · split at q
    · rename_i is' h1
      cases q
      have hs := slots_ok hN nd h h1
      rw [gOf_tup, gOfT, if_pos (slots_nm h1)]
      exact ⟨zgb_names hc hs, zg_names hc hs⟩
    · rename_i h0
      split at q
      · rename_i ls h1
        cases q
        have hs := elsL_ok hN nd hc h h1
        rw [gOf_tup, gOfT, if_neg (fun z => by obtain ⟨is, e⟩ := elsL_nm h1 z; rw [h0] at e; cases e), elsL_shape h1]
        exact ⟨⟨pg_nst hc hs, run_nst⟩, zg_nst hc hs⟩
      · cases q
  · cases q
theorem Ct.block (c : Ct X W cl k st) {scope : Scope} (hk : scope.kind = .function) (s : Shared) (H : Hp) (C : Addr) (cs : List (Str × Addr)) (fp : List Addr) : Ct (X.blk s H scope (compEnvC scope cs C X.env) fp) Wf cl k (st.blk scope) :=
  ⟨c.N, by show relS scope X.env.scope = relS scope st.sc; rw [c.sc], c.calm, c.nd, takes0, c.room, c.gd, c.tab, hk⟩
theorem blkC_kind {N : List Str} {sc scope : Scope} {own : List (Str × Nat)} (h : blkC N sc scope own = true) : scope.kind = .function := (blkOk_by h).kind
/-- the reading of a target hangs on the written part alone -/
theorem rdG_run {K : PySem.W.Frag} {N : List Str} {ok : Str → Bool} {tg : Expr} {is : List Nat} {gz : ZTg} (hg : rdG N ok tg = some (is, gz)) : RunT K is gz (gOf K tg is) := by
  unfold rdG at hg
  split at hg
  · split at hg
    · split at hg
      · cases hg
        exact fun F ph M env σ H Q v d env' _ S r e k => by
          cases e
          refine k _ (S.setV r) (fun a z => ?_) (fun j hj => ?_) (List.length_set ..)
          · rcases z with z | ⟨j, d', e1, e2⟩
            · exact .inl z
            · rcases getE_set e1 with ⟨_, e⟩ | ⟨ne, e⟩
              · cases e
              · rcases getE_set e2 with ⟨e', _⟩ | ⟨_, e'⟩
                · exact absurd e' ne
                · exact .inr ⟨j, d', e, e'⟩
          · exact ⟨List.getElem?_set_ne fun z => hj (by simp [z]), List.getElem?_set_ne fun z => hj (by simp [z])⟩
      · cases hg
    · cases hg
  · split at hg
    · rename_i is' h1
      cases hg
      rw [gOf_tup, gOfT, if_pos (slots_nm h1)]
      intro F ph M env σ H Q v d env' hK S r e k
      unfold tgT at e
      cases e1 : itemsD d with
      | none => rw [e1] at e; cases e
      | some ds =>
        rw [e1] at e
        have e2 : setAll env is ds = some env' := e
        obtain ⟨a, xs, rfl, hq, rr⟩ := (Lk.of r).seq e1
        have hK' : (gh F ph env σ).K = K := hK
        rw [hK'] at hq
        have hl : xs.length = is.length := by rw [rr.length, setAll_len e2]
        have run := nms_runB S rr e2 k
        rcases hq with hq | hq
        · exact .inr ⟨a, xs, rfl, hq, hl, run⟩
        · exact .inl ⟨a, xs, rfl, hq, hl, run⟩
    · rename_i h0
      split at hg
      · rename_i ls h1
        cases hg
        rw [gOf_tup, gOfT, if_neg (fun z => by obtain ⟨is, e⟩ := elsL_nm h1 z; rw [h0] at e; cases e), elsL_shape h1]
        exact run_nst
      · cases hg
  · cases hg
theorem tsP_ok {tb : Expr → ZB} {ifs : List Expr} {zt : ZB} (h : tsP tb ifs = some zt) : (ifs = [] ∧ zt = fun _ M => .ok true M) ∨ ∃ c, ifs = [c] ∧ zt = tb c := by
  unfold tsP at h
  split at h
  · cases h; exact .inl ⟨rfl, rfl⟩
  · cases h; exact .inr ⟨_, rfl, rfl⟩
  · cases h
theorem blk_store (c : Ct X W cl k st) {scope : Scope} (hk : scope.kind = .function) (s : Shared) (H : Hp) (C : Addr) (cs : List (Str × Addr)) (fp : List Addr) (x : Str) (h : okStore scope st.sc x = true) : Loc (X.blk s H scope (compEnvC scope cs C X.env) fp).env.scope x ∧ ((X.blk s H scope (compEnvC scope cs C X.env) fp).fn x = true ∨ (X.blk s H scope (compEnvC scope cs C X.env) fp).env.scope.names.lookup x = some .local) := by
  have e : (X.blk s H scope (compEnvC scope cs C X.env) fp).env.scope = relS scope st.sc := (c.block hk s H C cs fp).sc
  rw [e]
  unfold okStore at h
  split at h
  · rename_i q
    exact ⟨.inl q, .inr q⟩
  · rename_i q
    exact ⟨.inr q, .inl h⟩
  · cases h
/-- the parts of a comprehension of two clauses -/
theorem lc2_ok (c : Ct X W cl k st) {tg iter tg1 iter1 elt : Expr} {ifs ifs1 : List Expr} {scope : Scope} {rb : Expr → ZX} {tb : Expr → ZB} {z : ZX} (hr : ∀ e, ZE X W cl e (r e))
    (hb : ∀ X' W', Ct X' W' cl k (st.blk scope) → ∀ e, ZE X' W' cl e (rb e) ∧ ZT X' W' cl e (tb e)) (h : lc2Z st scope r rb tb elt tg iter tg1 iter1 ifs ifs1 = some z) :
    ∃ vs1 gz zt zi1 gz1 zt1 ze, Lc2Ok X cl W tg iter tg1 iter1 elt ifs ifs1 scope (ownOf st.N scope) vs1 (rdI st r tg iter) gz zt zi1 gz1 zt1 ze ∧ z = zLc2 (rdI st r tg iter) gz zt zi1 gz1 zt1 ze ((ownOf st.N scope).map (·.2)) vs1 := by
  unfold lc2Z at h
  split at h
  · rename_i is gz is1 gz1 zt zt1 h1 h2 h3 h4
    split at h
    · rename_i hc
      obtain ⟨c1, c2, c3, c4, c5⟩ := hc
      cases h
      have hk := blkC_kind c1
      refine ⟨_, _, _, _, _, _, _, ⟨rdI_ok c hr iter, ?_, ⟨is, gOf X.K tg is, fun i hi => ?_, rdG_run h1, fun s H C cs fp => ?_⟩, ?_, fun s H C cs fp => ?_, ⟨fun i hi => ?_, gOf X.K tg1 is1, rdG_run h2, fun s H C cs fp => ?_⟩, ?_, fun s H C cs fp => ?_, foldOk_ok c4, fun env x => ?_⟩, rfl⟩
      · rw [c.N, c.sc]
        exact blkOk_by c1
      · have := List.all_eq_true.mp c2 i hi
        simpa using this
      · exact (rdG_ok (X := X.blk s H scope (compEnvC scope cs C X.env) fp) c.N c.nd c.calm (blk_store c hk s H C cs fp) h1).1.pg
      · rcases tsP_ok h3 with h | ⟨q, h, rfl⟩
        · exact .inl h
        · exact .inr ⟨q, h, fun s H C cs fp => (hb _ _ (c.block hk s H C cs fp) q).2⟩
      · exact rdI_ok (c.block hk s H C cs fp) (fun e => (hb _ _ (c.block hk s H C cs fp) e).1) iter1
      · have := List.all_eq_true.mp c3 i hi
        simpa using this
      · exact (rdG_ok (X := X.blk s H scope (compEnvC scope cs C X.env) fp) c.N c.nd c.calm (blk_store c hk s H C cs fp) h2).1.pg
      · rcases tsP_ok h4 with h | ⟨q, h, rfl⟩
        · exact .inl h
        · exact .inr ⟨q, h, fun s H C cs fp => (hb _ _ (c.block hk s H C cs fp) q).2⟩
      · exact (hb _ _ (c.block hk s H C cs fp) elt).1
      · revert c5
        cases iter1 <;> first | exact fun _ => rfl | exact fun z => Bool.noConfusion z
    · cases h
  · cases h
/-- the parts of a comprehension -/
theorem lcOk (c : Ct X W cl k st) {tg iter elt : Expr} {ifs : List Expr} {scope : Scope} {is : List Nat} {gz : ZTg} {zt : ZB} {ze : ZX} (hr : ∀ e, ZE X W cl e (r e)) (hg : rdG st.N (okStore scope st.sc) tg = some (is, gz))
    (hb : blkC st.N st.sc scope (ownOf st.N scope) = true) (hs : subset is ((ownOf st.N scope).map (·.2)) = true) (hf : foldOk iter = true)
    (ht : (ifs = [] ∧ zt = fun _ M => .ok true M) ∨ ∃ c, ifs = [c] ∧ ∀ X' W', Ct X' W' cl k (st.blk scope) → ZT X' W' cl c zt) (he : ∀ X' W', Ct X' W' cl k (st.blk scope) → ZE X' W' cl elt ze) :
    LcOk X cl W tg iter elt ifs scope (ownOf st.N scope) (rdI st r tg iter) gz zt ze := by
  have hk := blkC_kind hb
  have hstore : ∀ (s : Shared) (H : Hp) (C : Addr) (cs : List (Str × Addr)) (fp : List Addr) x, okStore scope st.sc x = true → Loc (X.blk s H scope (compEnvC scope cs C X.env) fp).env.scope x ∧ ((X.blk s H scope (compEnvC scope cs C X.env) fp).fn x = true ∨ (X.blk s H scope (compEnvC scope cs C X.env) fp).env.scope.names.lookup x = some .local) := by
    intro s H C cs fp x h
    have e : (X.blk s H scope (compEnvC scope cs C X.env) fp).env.scope = relS scope st.sc := (c.block hk s H C cs fp).sc
    rw [e]
    unfold okStore at h
    split at h
    · rename_i q
      exact ⟨.inl q, .inr q⟩
    · rename_i q
      exact ⟨.inr q, .inl h⟩
    · cases h
  refine ⟨rdI_ok c hr iter, ?_, ⟨is, gOf X.K tg is, fun i hi => ?_, ?_, fun s H C cs fp => ?_⟩, ?_, fun s H C cs fp => he _ _ (c.block hk s H C cs fp), foldOk_ok hf⟩
  · rw [c.N, c.sc]
    exact blkOk_by hb
  · have := List.all_eq_true.mp hs i hi
    simpa using this
  · exact rdG_run hg
  · exact (rdG_ok (X := X.blk s H scope (compEnvC scope cs C X.env) fp) c.N c.nd c.calm (hstore s H C cs fp) hg).1.pg
  · rcases ht with h | ⟨q, h, h'⟩
    · exact .inl h
    · exact .inr ⟨q, h, fun s H C cs fp => h' _ _ (c.block hk s H C cs fp)⟩
end
theorem sound {cl : String → Option Addr} {k : Nat} : ∀ (n : Nat) (st : Stt) (e : Expr), (∀ X W, Ct X W cl k st → ZE X W cl e (ev n st e).1) ∧ (∀ X W, Ct X W cl k st → ZT X W cl e (ev n st e).2)
  | 0, st, e => ⟨fun _ _ _ => ze_fail, fun _ _ _ => zt_fail⟩
  | n + 1, st, e => by
    have ih := sound (cl := cl) (k := k) n
    refine ⟨fun X W c => ?_, fun X W c => ?_⟩
    · have hr : ∀ e, ZE X W cl e ((fun e => (ev n st e).1) e) := fun e => (ih st e).1 X W c
      have ht : ∀ e, ZT X W cl e ((fun e => (ev n st e).2) e) := fun e => (ih st e).2 X W c
      unfold ev
      simp only
      split
      · exact ze_non
      · exact ze_bl
      · exact ze_int
      · exact ze_str
      · split
        · rename_i i h
          obtain ⟨h1, h2, h3, h4⟩ := slotOf_ok c h
          exact ze_var h1 h2 h3 h4
        · exact ze_fail
      · split
        · rename_i g h
          exact bin_ok c h (rdC_ok c hr _) (rdC_ok c hr _)
        · exact ze_fail
      · exact ze_neg (hr _)
      · exact ze_not (hr _)
      · split
        · rename_i h
          exact ze_cmp (op_inU c.units) oz_in (rdC_ok c hr _) (rdC_ok c hr _) (notSet_ok h)
        · exact ze_fail
      · split
        · rename_i h
          exact ze_cmp (op_notInU c.units) oz_in (rdC_ok c hr _) (rdC_ok c hr _) (notSet_ok h)
        · exact ze_fail
      · exact cmpE_ok c hr (rdS_ok c hr) fun g h => by
          obtain ⟨q, h1, h2, h3, h4⟩ := cmp_ok c h
          exact ze_cmp h1 h2 (rdC_ok c hr _) (rdC_ok c hr _) (nobehind _ h3 h4)
      · split
        · rename_i g g' h h'
          obtain ⟨q, h1, h2, h3, h4⟩ := cmp_ok c h
          obtain ⟨q', h5, h6, h7, h8⟩ := cmp_ok c h'
          exact ze_ch h1 h5 h2 h6 (rdC_ok c hr _) (rdC_ok c hr _) (rdC_ok c hr _) ⟨h3, h4, h7, h8⟩
        · exact ze_fail
      · exact andV_ok hr _
      · exact orV_ok hr _
      · exact ze_if (ht _) (hr _) (hr _)
      · exact ze_tup (rdA_ok hr _)
      · exact (zf_lst (rdA_ok hr _)).toE
      · exact ze_sl (rdC_ok c hr _) (rdP_ok hr _) (rdP_ok hr _)
      · exact ze_rv (rdC_ok c hr _)
      · exact ze_slS (rdC_ok c hr _) (rdP_ok hr _) (rdP_ok hr _)
      · exact (zf_dnew true).toE
      · split
        · rename_i h
          exact ze_ix c.units (rdC_ok c hr _) (rdC_ok c hr _) (plainSub_ok h)
        · exact ze_fail
      · split
        · rename_i is gz hg
          split
          · rename_i hc
            split
            · exact (zf_lc (lcOk c hr hg hc.1 hc.2.1 hc.2.2 (.inl ⟨rfl, rfl⟩) fun X' W' c' => (ih _ _).1 X' W' c') c.calm (by rw [c.N]; exact c.nd)).toE
            · exact (zf_lc (lcOk c hr hg hc.1 hc.2.1 hc.2.2 (.inr ⟨_, rfl, fun X' W' c' => (ih _ _).2 X' W' c'⟩) fun X' W' c' => (ih _ _).1 X' W' c') c.calm (by rw [c.N]; exact c.nd)).toE
            · exact ze_fail
          · exact ze_fail
        · exact ze_fail
      · split
        · rename_i z hz
          obtain ⟨vs1, gz, zt, zi1, gz1, zt1, ze, L, rfl⟩ := lc2_ok c hr (fun X' W' c' e => ⟨(ih _ e).1 X' W' c', (ih _ e).2 X' W' c'⟩) hz
          exact (zf_lc2 L c.calm (by rw [c.N]; exact c.nd)).toE
        · exact ze_fail
      · split
        · rename_i hb
          split
          · split
            · rename_i hn
              exact bi1s_ok c hr hb hn
            · exact ze_fail
          · split
            · rename_i hn
              exact bi2_ok c hr hb hn.1 hn.2
            · exact ze_fail
          · exact ze_fail
        · split
          · rename_i z hz
            exact (mkE_ok c hr hz).toE
          · split
            · rename_i z hz
              exact gcdE_ok c hr hz
            · exact usr_ok c hr
      · split
        · rename_i hb
          split
          · exact ze_prop (fun _ _ h => prp_ok c h) c.gd c.room (rdS_ok c hr _) (atBase_ok hb)
          · exact ze_at (ats_ok c) (rdC_ok c hr _) (atBase_ok hb)
        · exact ze_fail
      · split
        · rename_i i h
          split
          · rename_i hc
            obtain ⟨h1, h2, h3, h4⟩ := slotOf_ok c h
            obtain ⟨rfl, hn, hl⟩ := hc
            exact ze_idx (zc_var h1 h2 h3 h4) (hr _) hn hl
          · exact ze_fail
        · exact ze_fail
      · split
        · rename_i i h
          split
          · rename_i hc
            obtain ⟨h1, h2, h3, h4⟩ := slotOf_ok c h
            obtain ⟨rfl, hn, hn', hl⟩ := hc
            exact ze_get2 c.units (zc_var h1 h2 h3 h4) (rdC_ok c hr _) (hr _) hn hn' hl
          · exact ze_fail
        · exact ze_fail
      · exact ze_fail
    · have hr : ∀ e, ZE X W cl e ((fun e => (ev n st e).1) e) := fun e => (ih st e).1 X W c
      have ht : ∀ e, ZT X W cl e ((fun e => (ev n st e).2) e) := fun e => (ih st e).2 X W c
      unfold ev
      simp only
      split
      · split
        · rename_i h
          exact zt_cmp (op_inU c.units) oz_in (rdC_ok c hr _) (rdC_ok c hr _) (notSet_ok h)
        · exact zt_fail
      · split
        · rename_i h
          exact zt_cmp (op_notInU c.units) oz_in (rdC_ok c hr _) (rdC_ok c hr _) (notSet_ok h)
        · exact zt_fail
      · split
        · rename_i g h
          obtain ⟨q, h1, h2, h3, h4⟩ := cmp_ok c h
          exact zt_cmp h1 h2 (rdC_ok c hr _) (rdC_ok c hr _) (nobehind _ h3 h4)
        · exact zt_fail
      · split
        · rename_i g g' h h'
          obtain ⟨q, h1, h2, h3, h4⟩ := cmp_ok c h
          obtain ⟨q', h5, h6, h7, h8⟩ := cmp_ok c h'
          exact zt_ch h1 h5 h2 h6 (rdC_ok c hr _) (rdC_ok c hr _) (rdC_ok c hr _) ⟨h3, h4, h7, h8⟩
        · exact zt_fail
      · exact (andT_ok ht _).toT
      · exact (orT_ok ht _).toT
      · exact zt_not (ht _)
      · split
        · rename_i h
          exact zt_tru (rdC_ok c hr _) (truE_ok h)
        · exact zt_fail
/-! in an except suite -/
section
variable {X : Cx} {W : WX} {cl : String → Option Addr} {k : Nat} {st : Stt} {e a b : Expr} {es : List Expr} {r : Expr → ZX} {t : Expr → ZB} {x : Str} {i : Nat} {ad : Addr} {oe : Obj} {cls : Value} {d : Option Addr} {pn : List (Addr × Obj)}
theorem rdC_okH (c : Ct X W cl k st) (hr : ∀ e, ZE (X.suite ad ((ad, oe) :: pn)) Wf (hotC cl ad d cls) e (r e)) : ∀ e, ZC (X.suite ad ((ad, oe) :: pn)) Wf (hotC cl ad d cls) e (rdC st r e) := by
  intro e
  unfold rdC
  split
  · split
    · rename_i i h
      obtain ⟨h1, h2, h3, h4⟩ := slotOf_ok c h
      exact zc_var h1 h2 h3 h4
    · exact ze_fail.toC
  · exact (hr _).toC
theorem cmp_okH (c : Ct X W cl k st) {op : CmpOp} {g : G2} (h : cmpG op = some g) : ∃ r, OpR (X.suite ad ((ad, oe) :: pn)) (compareOp op) r ∧ OpZ (X.suite ad ((ad, oe) :: pn)) Wf (hotC cl ad d cls) r g ∧ op ≠ .In ∧ op ≠ .NotIn := by
  have hu : (X.suite ad ((ad, oe) :: pn)).A.units + 64 < cLine := c.units
  cases op <;> simp only [cmpG, Option.some.injEq, reduceCtorEq] at h <;> subst h
  · exact ⟨_, op_eq.or (op_eqD hu), oz_eq, by decide, by decide⟩
  · exact ⟨_, op_ne.or (op_neD hu), oz_ne, by decide, by decide⟩
  · exact ⟨_, op_lt, oz_cmp, by decide, by decide⟩
  · exact ⟨_, op_le, oz_cmp, by decide, by decide⟩
  · exact ⟨_, op_gt, oz_cmp, by decide, by decide⟩
  · exact ⟨_, op_ge, oz_cmp, by decide, by decide⟩
  · exact ⟨_, op_isN.or op_isBl, oz_is, by decide, by decide⟩
  · exact ⟨_, op_notN.or op_notBl, oz_isNot, by decide, by decide⟩
theorem exOf_ok {q : Xi} (h : st.exOf x = some q) : q ∈ st.px.exs ∧ q.name = x := by
  unfold Stt.exOf at h
  exact ⟨List.mem_of_find?_eq_some h, by simpa using List.find?_some h⟩
theorem eat_ok (c : Ct X W cl k st) {n : String} {f : Str} {C : Addr} (h : eatP st.px n f = true) (hC : cl n = some C) : XfC X.K C ∧ PySem.W.findIn X.K (.ref C) f = some none := by
  unfold eatP at h
  rw [List.any_eq_true] at h
  obtain ⟨q, hq, h2⟩ := h
  simp only [Bool.and_eq_true, decide_eq_true_eq] at h2
  obtain ⟨rfl, hf⟩ := h2
  obtain ⟨C', e1, _, x1, _, x2, _⟩ := (c.tab.exs q hq).ex
  rw [hC] at e1
  cases e1
  exact ⟨x1, x2 f (by simpa using hf)⟩
theorem soundH (c : Ct X W cl k st) (hz : Zc cls d oe) (hf : ∃ vs, oe.data = .fields vs) : ∀ (n : Nat) (e : Expr), ZE (X.suite ad ((ad, oe) :: pn)) Wf (hotC cl ad d cls) e (evH st n e).1 ∧ ZT (X.suite ad ((ad, oe) :: pn)) Wf (hotC cl ad d cls) e (evH st n e).2
  | 0, e => ⟨ze_fail, zt_fail⟩
  | n + 1, e => by
    have hr : ∀ e, ZE (X.suite ad ((ad, oe) :: pn)) Wf (hotC cl ad d cls) e ((fun e => (evH st n e).1) e) := fun e => (soundH c hz hf n e).1
    have ht : ∀ e, ZT (X.suite ad ((ad, oe) :: pn)) Wf (hotC cl ad d cls) e ((fun e => (evH st n e).2) e) := fun e => (soundH c hz hf n e).2
    have hu : (X.suite ad ((ad, oe) :: pn)).A.units + 64 < cLine := c.units
    have hgd : (X.suite ad ((ad, oe) :: pn)).A.guards = some [] := c.gd
    refine ⟨?_, ?_⟩
    · unfold evH
      simp only
      split
      · exact ze_non
      · exact ze_bl
      · exact ze_int
      · exact ze_str
      · split
        · rename_i i h
          obtain ⟨h1, h2, h3, h4⟩ := slotOf_ok c h
          exact ze_var h1 h2 h3 h4
        · exact ze_fail
      · exact ze_not (hr _)
      · split
        · rename_i g h
          obtain ⟨q, h1, h2, h3, h4⟩ := cmp_okH c h
          exact ze_cmp h1 h2 (rdC_okH c hr _) (rdC_okH c hr _) (nobehind _ h3 h4)
        · exact ze_fail
      · exact andV_ok hr _
      · exact orV_ok hr _
      · exact ze_tup (rdA_ok hr _)
      · exact (zf_lst (rdA_ok hr _)).toE
      · split
        · rename_i h
          exact ze_ix hu (rdC_okH c hr _) (rdC_okH c hr _) (plainSub_ok h)
        · exact ze_fail
      · split
        · rename_i h
          obtain ⟨h1, rfl, h3⟩ := h
          obtain ⟨g1, g2⟩ := bi_ok c h1
          exact ze_repr hgd hu g1 g2 (rdC_okH c hr _) h3
        · exact ze_fail
      · split
        · rename_i h
          obtain ⟨h1, rfl, h3⟩ := h
          obtain ⟨g1, g2⟩ := bi_ok c h1
          split
          · rename_i q hq
            obtain ⟨hmem, hn⟩ := exOf_ok hq
            split
            · rename_i hgT
              simp only [Bool.and_eq_true] at hgT
              obtain ⟨D, e1, e2, _⟩ := (c.tab.exs q hmem).ex
              rw [hn] at e2
              have gT : Gl X q.name := by rw [hn]; exact isGlo_ok c hgT.1
              rw [hn] at gT
              refine ze_xis (cv := .ref D) g1 g2 (pe_glob (X := X.suite ad ((ad, oe) :: pn)) (v := .ref D) gT e2 rfl (plainN_ok hgT.2).1) (fun u hu => hu) (fun cc C b hreal hb hC => ?_) hz hf (hr _) h3
              unfold esubP at hb
              rw [Option.map_eq_some_iff] at hb
              obtain ⟨q2, hq2, rfl⟩ := hb
              have hm2 := List.mem_of_find?_eq_some hq2
              have hc2 : q2.c = cc := by simpa using List.find?_some hq2
              obtain ⟨C', e3, _, x1, x2, _, _, x5, _⟩ := (c.tab.exs q2 hm2).ex
              rw [hc2, hC] at e3
              cases e3
              exact ⟨(x5 q hmem D e1).2, x1, x2⟩
            · exact ze_fail
          · split
            · rename_i hT
              obtain ⟨hT1, rfl⟩ := hT
              obtain ⟨g3, g4⟩ := bi_ok c hT1
              refine ze_xis (cv := .type "ValueError") g1 g2 (pe_bltn (X := X.suite ad ((ad, oe) :: pn)) (v := .ty "ValueError") g3 g4 PyProof.Rows.Boot.«ValueError» rfl (by decide) (by decide)) (fun u hu => hu) (fun cc C b hreal hb hC => ?_) hz hf (hr _) h3
              unfold evalP at hb
              rw [Option.map_eq_some_iff] at hb
              obtain ⟨q2, hq2, rfl⟩ := hb
              have hm2 := List.mem_of_find?_eq_some hq2
              have hc2 : q2.c = cc := by simpa using List.find?_some hq2
              obtain ⟨C', e3, _, x1, x2, _, _, _, x6⟩ := (c.tab.exs q2 hm2).ex
              rw [hc2, hC] at e3
              cases e3
              exact ⟨x6, x1, x2⟩
            · exact ze_fail
        · exact ze_fail
      · split
        · rename_i h
          exact ze_xat (fun cc C _ ho hC => eat_ok c ho hC) hz hf (hr _) (atBase_ok h)
        · exact ze_fail
      · exact ze_fail
    · unfold evH
      simp only
      split
      · split
        · rename_i g h
          obtain ⟨q, h1, h2, h3, h4⟩ := cmp_okH c h
          exact zt_cmp h1 h2 (rdC_okH c hr _) (rdC_okH c hr _) (nobehind _ h3 h4)
        · exact zt_fail
      · exact (andT_ok ht _).toT
      · exact (orT_ok ht _).toT
      · exact zt_not (ht _)
      · split
        · rename_i h
          exact zt_tru (rdC_okH c hr _) (truE_ok h)
        · exact zt_fail
end
end Zy
set_option maxHeartbeats 4000000
namespace Zy
open PySem PySem.Spec PyProof.Rows L2

/-! statements of the text -/
def vmC (f : Expr → List Str) : Expr → List Str
  | .Name .. => []
  | e => f e
/-- the names that stand where a value is kept -/
def vmE : Nat → Expr → List Str
  | 0, _ => []
  | n + 1, e => let f := vmE n
    match e with
    | .Name x _ => [x]
    | .BinOp a _ b _ => vmC f a ++ vmC f b
    | .UnaryOp _ a _ => vmC f a
    | .Compare a _ bs _ => vmC f a ++ bs.flatMap (vmC f)
    | .BoolOp _ es _ => es.flatMap f
    | .IfExp c a b _ => vmC f c ++ f a ++ f b
    | .Tuple es _ _ => es.flatMap f
    | .List es _ => es.flatMap f
    | .Subscript a (.Slice lo hi _ _) _ => vmC f a ++ lo.toList.flatMap f ++ hi.toList.flatMap f
    | .Subscript a b _ => vmC f a ++ vmC f b
    | .ListComp elt gs _ _ => f elt ++ gs.flatMap fun g => f g.iter ++ g.ifs.flatMap (vmC f)
    | .Call _ es kws _ => es.flatMap (vmC f) ++ kws.flatMap fun k => vmC f k.value
    | .Attribute a _ _ => vmC f a
    | _ => []
def vmS (st : Stmt) : List Str := match st with
  | .Return (some (.Dict _ vs _)) _ => vs.flatMap (vmE 60)
  | .Return (some e) _ => vmE 60 e
  | .Assign [.Subscript _ b _] e _ => vmE 60 e ++ vmE 60 b
  | .Assign _ e _ => vmE 60 e
  | .AugAssign _ _ e _ => vmE 60 e
  | .Expr (.Call (.Attribute _ _ _) es _ _) _ => es.flatMap (vmE 60)
  | .Expr e _ => vmC (vmE 60) e
  | .If c _ _ _ => vmC (vmE 60) c
  | .While c _ _ _ => vmC (vmE 60) c
  | .For _ it _ _ _ => vmE 60 it
  | .Raise (some (.Call _ es _ _)) _ _ => es.flatMap (vmE 60)
  | _ => []
def frzS (st : Stt) (s : Stmt) : List Nat := ((vmS s).filter st.owns.contains).filterMap (ixOf st.N)
def okLoc (sc : Scope) (x : Str) : Bool := match sc.names.lookup x with
  | some .local | some .cell => true
  | _ => false
def swapB (sc : Scope) (x : Str) (p : Pos) : Expr → Bool
  | .ListComp _ _ scope vp => (sc.names.lookup x == some .local) && (p.line == vp.line) && !(scope.names.any fun (n, k) => n == x && (k == .local || k == .cell))
  | _ => false
def isComp : Expr → Bool
  | .ListComp .. | .SetComp .. | .DictComp .. => true
  | _ => false
def lcZ (n : Nat) (st : Stt) (elt tg iter : Expr) (ifs : List Expr) (scope : Scope) : Option ZX :=
  match rdG st.N (okStore scope st.sc) tg with
  | some (is, gz) => if blkC st.N st.sc scope (ownOf st.N scope) = true ∧ subset is ((ownOf st.N scope).map (·.2)) = true ∧ foldOk iter = true then
      (match ifs with
      | [] => some (zLc (rdI st (fun e => (ev n st e).1) tg iter) gz (fun _ M => .ok true M) (ev n (st.blk scope) elt).1 ((ownOf st.N scope).map (·.2)))
      | [c] => some (zLc (rdI st (fun e => (ev n st e).1) tg iter) gz (ev n (st.blk scope) c).2 (ev n (st.blk scope) elt).1 ((ownOf st.N scope).map (·.2)))
      | _ => none) else none
  | none => none
/-- what is new -/
def frE (n : Nat) (st : Stt) (e : Expr) : Option ZX :=
  let r := fun e => (ev n st e).1
  match e with
  | .List es _ => some (zLst (rdA r es))
  | .BinOp a .Mult b _ => some (zRep (rdC st r a) (rdC st r b))
  | .BinOp a .Add b _ => some (zCat (rdC st r a) (rdC st r b))
  | .ListComp elt [⟨tg, iter, ifs, 0⟩] scope _ => lcZ n st elt tg iter ifs scope
  | .ListComp elt [⟨tg, iter, ifs, 0⟩, ⟨tg1, iter1, ifs1, 0⟩] scope _ => lc2Z st scope r (fun e => (ev n (st.blk scope) e).1) (fun e => (ev n (st.blk scope) e).2) elt tg iter tg1 iter1 ifs ifs1
  | .Call (.Name x _) [a] [] _ => if x = ("list" : Str) ∧ st.bi x = true ∧ nostar a = true then (match st.rng r a with
    | some z => some (zLstRg z)
    | none => some (zLstOf (rdC st r a))) else mkE st r x [a] []
  | .Call (.Name x _) es kws _ => mkE st r x es kws
  | _ => none
def isDict0 : Expr → Bool
  | .Dict [] [] _ => true
  | _ => false
def asgN (n : Nat) (st : Stt) (x : Str) (e : Expr) : ZS := if okLoc st.sc x = true then match ixOf st.N x with
    | some i => if isDict0 e = true then (if st.owns.contains x = true then zSetO i (zDNew (decide (2 ≤ st.owns.count x))) else if st.cels.contains x = true then zSetC i (zDNew (decide (2 ≤ st.cels.count x))) else failS) else if st.owns.contains x = true then (match frE n st e with
        | some z => zSetO i z
        | none => failS) else if st.cels.contains x = true then (match frE n st e with
        | some z => zSetC i z
        | none => failS) else if isComp e = true then (match frE n st e with
        | some z => zSet i z
        | none => failS) else zSet i (ev n st e).1
    | none => failS else failS
def parB (x y : Str) (px py : Pos) (a b : Expr) : Bool := !(x == y) && (py.line == px.line) && nostar a && nostar b && !([a, b].all (foldedForSure 8)) && !([a, b].all (constantsAlone 8))
def isLoc (sc : Scope) (x : Str) : Bool := match sc.names.lookup x with
  | some .local => true
  | _ => false
def notTup : Expr → Bool
  | .Tuple .. => false
  | _ => true
def augG : Operator → Option (Int → Int → Int)
  | .Add => some fun i j => i + j
  | .Sub => some fun i j => i - j
  | _ => none
def exL (f : Stmt → ZS) : List Stmt → ZS
  | [] => fun env M => .nx env M
  | s :: ss => zSeq (f s) (exL f ss)
/-- statements of an except suite -/
def exH (st : Stt) : Nat → Stmt → ZS
  | 0, _ => failS
  | m + 1, s => zFrz (frzS st s) (match s with
    | .Return (some e) _ => zRet (evH st 60 e).1
    | .If c a b _ => zIfS (evH st 60 c).2 (exL (exH st m) a) (exL (exH st m) b)
    | .Assign [.Name x _] e _ => if okLoc st.sc x = true ∧ isComp e = false ∧ st.owns.contains x = false ∧ st.cels.contains x = false then (match ixOf st.N x with
      | some i => zSet i (evH st 60 e).1
      | none => failS) else failS
    | _ => failS)
def keysC : List (Option Expr) → Option (List (Str × Nat × Pos))
  | [] => some []
  | some (.Constant (.str s) k p) :: t => (keysC t).map fun r => (s, k, p) :: r
  | _ => none
theorem keysC_ok : ∀ {L : List (Option Expr)} {ks}, keysC L = some ks → L = ks.map fun k => some (.Constant (.str k.1) k.2.1 k.2.2)
  | [], ks, h => by cases h; rfl
  | some (.Constant (.str s) k p) :: t, ks, h => by
    unfold keysC at h
    cases e : keysC t with
    | none => rw [e] at h; cases h
    | some r =>
      rw [e] at h
      cases h
      rw [keysC_ok e]
      rfl
  | none :: t, ks, h => by cases h
def ex1 (n : Nat) (st : Stt) (f : Stmt → ZS) (s : Stmt) : ZS :=
  let r := fun e => (ev n st e).1
  match s with
  | .Pass _ => fun env M => .nx env M
  | .Break _ => fun env M => .bk env M
  | .Continue _ => fun env M => .ct env M
  | .Return (some (.Dict keys vals p)) _ => (match keysC keys with
    | some ks => if vals.length = ks.length ∧ ks ≠ [] ∧ ks.length ≤ 15 then zRetC (zDsp (ks.map (·.1)) (vals.map r)) else failS
    | none => failS)
  | .Return (some e) _ => zRet (r e)
  | .Return none _ => fun _ M => .rt .non M
  | .Assign [.Name x _] e _ => asgN n st x e
  | .Assign [.Tuple [.Name x px, .Name y py] _ _] (.Tuple [a, b] _ _) _ => if parB x y px py a b = true ∧ isLoc st.sc x = true ∧ isLoc st.sc y = true then (match ixOf st.N x, ixOf st.N y with
    | some i, some j => zPar i j (rdA r [a, b])
    | _, _ => failS) else failS
  | .Assign [.Tuple [.Subscript (.Name x _) a _, .Subscript (.Name y _) b _] _ _] e _ => if plainSub a = true ∧ plainSub b = true then (match slotOf st x, slotOf st y with
    | some i, some j => zSw2 i j (r e) (r a) (r b)
    | _, _ => failS) else failS
  | .Assign [.Tuple es k p] e _ => if notTup e = true then (match rdG st.N (okLoc st.sc) (.Tuple es k p) with
    | some (_, gz) => zAsg gz (r e)
    | none => failS) else failS
  | .Assign [.Subscript (.Name x _) b _] e _ => if plainSub b = true then (match slotOf st x with
    | some i => zPut i (r e) (r b)
    | none => failS) else failS
  | .Assign [.Attribute (.Name x _) f _] e _ => if isComp e = true then failS else (match slotOf st x with
    | some i => zPutA st.ats i f (r e)
    | none => failS)
  | .AugAssign (.Name x _) op e _ => if okLoc st.sc x = true then (match ixOf st.N x, augG op with
    | some i, some g => zAugN i g (r e)
    | _, _ => failS) else failS
  | .AugAssign (.Subscript (.Name x _) b _) op e _ => if plainSub b = true then (match slotOf st x, augG op with
    | some i, some g => zAugP i g (r b) (r e)
    | _, _ => failS) else failS
  | .Expr (.Call (.Attribute (.Name x _) m ap) [e] [] cp) _ => if m = ("append" : Str) ∧ nostar e = true ∧ (ap.endLine == cp.line) = true then (match slotOf st x with
    | some i => zApp i (r e)
    | none => failS) else failS
  | .Expr e _ => if isComp e = true then failS else zDrop (rdC st r e)
  | .If c a b _ => zIfS (ev n st c).2 (exL f a) (exL f b)
  | .While c body [] _ => zWh (ev n st c).2 (exL f body) 100000
  | .For tg iter body [] _ => if foldOk iter = true then (match rdG st.N (okLoc st.sc) tg with
    | some (_, gz) => zFor (rdI st r tg iter) gz (exL f body)
    | none => failS) else failS
  | .Raise (some (.Call (.Name x _) (e :: es) [] _)) none _ => match st.exOf x with
    | some q => if isGlo st.sc x = true ∧ plainN x = true ∧ (e :: es).all nostar = true ∧ q.init.isSome = true then zRaise q.c q.flds (rdA r (e :: es)) else failS
    | none => failS
  | .Try body [.ExceptHandler (some (.Name x _)) (some y) (b :: suite) _] [] [] _ => match st.exOf x, ixOf st.N y with
    | some q, some i => if isGlo st.sc x = true ∧ plainN x = true ∧ isLoc st.sc y = true then zTry (esubP st.px q.c) i (exL f body) (exL (exH st 20) (b :: suite)) else failS
    | _, _ => failS
  | _ => failS
def exS : Nat → Stt → Stmt → ZS
  | 0, _, _ => failS
  | n + 1, st, s => zFrz (frzS st s) (ex1 60 st (exS n st) s)
def exB (st : Stt) (ss : List Stmt) : ZS := exL (exS 40 st) ss
section
variable {X : Cx} {W : WX} {cl : String → Option Addr} {k : Nat} {st : Stt} {e a b : Expr} {es : List Expr} {x : Str} {i n : Nat} {pos pos' : Pos} {s : Stmt}
theorem zs_fail : Zs X W cl s failS := zs_never
theorem blockKind_ok (c : Ct X W cl k st) : X.env.blockKind = .function := by
  have hk : X.env.scope.kind = .function := by rw [c.sc]; exact c.kind
  unfold Env.blockKind
  rw [hk]
  rfl
theorem swap_ok (c : Ct X W cl k st) {l : Nat} (h : isComp e = false ∨ ∃ el gs sc p, e = .ListComp el gs sc p) : swapsWith e (some (.Name x pos)) l X.env = pure (swapB st.sc x pos e) := by
  rcases h with h | ⟨el, gs, sc, p, rfl⟩
  · cases e <;> first | rfl | cases h
  · have hb := blockKind_ok c
    have hk : X.env.kindOf x = st.sc.names.lookup x := by show X.env.scope.names.lookup x = _; rw [c.sc]
    unfold swapsWith swapB
    simp only [hb, hk, Expr.pos, beq_self_eq_true, Bool.true_and]
theorem swapN_ok {l : Nat} {t : Expr} (h : ∀ x p, t ≠ .Name x p) : swapsWithSole [t] e l X.env = pure false := by
  show swapsWith e (some t) l X.env = pure false
  cases e <;> first
    | rfl
    | (cases t <;> first | rfl | exact absurd rfl (h _ _))
theorem swap0_ok {l : Nat} (h : isComp e = false) : swapsWith e none l X.env = pure false := by
  cases e <;> first | rfl | cases h
theorem swapA_ok {l : Nat} {o : Expr} {f : Str} {p : Pos} (h : isComp e = false) : swapsWith e (some (.Attribute o f p)) l X.env = pure false := by
  cases e <;> first | rfl | cases h
theorem okLoc_ok (c : Ct X W cl k st) (h : okLoc st.sc x = true) : Loc X.env.scope x := by
  rw [c.sc]
  unfold okLoc at h
  unfold L2.Loc
  split at h <;> simp_all
theorem isLoc_ok (c : Ct X W cl k st) (h : isLoc st.sc x = true) : X.env.scope.names.lookup x = some .local := by
  rw [c.sc]
  unfold isLoc at h
  split at h <;> simp_all
theorem lcZ_ok (c : Ct X W cl k st) {tg iter elt : Expr} {ifs : List Expr} {scope : Scope} {z : ZX} (h : lcZ n st elt tg iter ifs scope = some z) :
    ∃ gz zt ze, LcOk X cl W tg iter elt ifs scope (ownOf st.N scope) (rdI st (fun e => (ev n st e).1) tg iter) gz zt ze ∧ z = zLc (rdI st (fun e => (ev n st e).1) tg iter) gz zt ze ((ownOf st.N scope).map (·.2)) := by
  unfold lcZ at h
  split at h
  · rename_i is gz hg
    split at h
    · rename_i hc
      have hr : ∀ e, ZE X W cl e ((fun e => (ev n st e).1) e) := fun e => (sound (cl := cl) (k := k) n st e).1 X W c
      split at h
      · cases h
        exact ⟨_, _, _, lcOk c hr hg hc.1 hc.2.1 hc.2.2 (.inl ⟨rfl, rfl⟩) fun X' W' c' => (sound n _ _).1 X' W' c', rfl⟩
      · cases h
        exact ⟨_, _, _, lcOk c hr hg hc.1 hc.2.1 hc.2.2 (.inr ⟨_, rfl, fun X' W' c' => (sound n _ _).2 X' W' c'⟩) fun X' W' c' => (sound n _ _).1 X' W' c', rfl⟩
      · cases h
    · cases h
  · cases h
theorem frE_ok (c : Ct X W cl k st) {z : ZX} (h : frE n st e = some z) : ZF X W cl e z := by
  have hr : ∀ e, ZE X W cl e ((fun e => (ev n st e).1) e) := fun e => (sound (cl := cl) (k := k) n st e).1 X W c
  unfold frE at h
  simp only at h
  split at h
  · cases h
    exact zf_lst (rdA_ok hr _)
  · cases h
    exact zf_rep (rdC_ok c hr _) (rdC_ok c hr _)
  · cases h
    exact zf_cat (rdC_ok c hr _) (rdC_ok c hr _)
  · obtain ⟨gz, zt, ze, L, rfl⟩ := lcZ_ok c h
    exact zf_lc L c.calm (by rw [c.N]; exact c.nd)
  · obtain ⟨vs1, gz, zt, zi1, gz1, zt1, ze, L, rfl⟩ := lc2_ok c hr (fun X' W' c' e => ⟨(sound n _ e).1 X' W' c', (sound n _ e).2 X' W' c'⟩) h
    exact zf_lc2 L c.calm (by rw [c.N]; exact c.nd)
  · split at h
    · rename_i hc
      obtain ⟨rfl, h2, h3⟩ := hc
      obtain ⟨g1, g2⟩ := bi_ok c h2
      split at h
      · rename_i z' hz
        cases h
        exact zf_lstRg c.calm g1 g2 (rng_ok c hr hz).1 h3
      · cases h
        exact zf_lstOf g1 g2 (rdC_ok c hr _) h3
    · exact mkE_ok c hr h
  · exact mkE_ok c hr h
  · cases h
/-- a comprehension is given to a name: by either way -/
theorem asgC_ok (c : Ct X W cl k st) (hf : ∀ x, X.fn x = true) {z : ZX} (hx : okLoc st.sc x = true) (hi : ixOf st.N x = some i) (h : frE n st e = some z) (hcomp : isComp e = true) :
    Zs X W cl (.Assign [.Name x pos'] e pos) (zSet i z) ∧ Zs X W cl (.Assign [.Name x pos'] e pos) (zSetO i z) ∧ Zs X W cl (.Assign [.Name x pos'] e pos) (zSetC i z) := by
  have hN : X.N.Nodup := by rw [c.N]; exact c.nd
  have hi' : X.N[i]? = some x := by rw [c.N]; exact ixOf_at hi
  have hF := frE_ok c h
  have hform : (∃ el tg iter ifs sc p, e = .ListComp el [⟨tg, iter, ifs, 0⟩] sc p) ∨ ∃ el tg iter ifs tg1 iter1 ifs1 sc p, e = .ListComp el [⟨tg, iter, ifs, 0⟩, ⟨tg1, iter1, ifs1, 0⟩] sc p := by
    unfold frE at h
    simp only at h
    split at h
    · cases hcomp
    · cases hcomp
    · cases hcomp
    · exact .inl ⟨_, _, _, _, _, _, rfl⟩
    · exact .inr ⟨_, _, _, _, _, _, _, _, _, rfl⟩
    · cases hcomp
    · cases hcomp
    · cases h
  rcases hform with ⟨el, tg, iter, ifs, sc, p, rfl⟩ | ⟨el, tg, iter, ifs, tg1, iter1, ifs1, sc, p, rfl⟩
  rotate_left
  · cases hs : swapB st.sc x pos' (.ListComp el [⟨tg, iter, ifs, 0⟩, ⟨tg1, iter1, ifs1, 0⟩] sc p) with
    | false =>
      have sw := (swap_ok c (x := x) (pos := pos') (l := pos.line) (.inr ⟨el, _, sc, p, rfl⟩)).trans (congrArg pure hs)
      exact ⟨zs_set hN hi' (okLoc_ok c hx) (.inl (hf x)) hF.toE sw, zs_setO hN hi' (okLoc_ok c hx) (.inl (hf x)) hF sw, zs_setC hN hi' (okLoc_ok c hx) (.inl (hf x)) hF sw⟩
    | true =>
      have sw := (swap_ok c (x := x) (pos := pos') (l := pos.line) (.inr ⟨el, _, sc, p, rfl⟩)).trans (congrArg pure hs)
      have hl : X.env.scope.names.lookup x = some .local := by
        rw [c.sc]
        simp only [swapB, Bool.and_eq_true] at hs
        exact eq_of_beq hs.1.1
      unfold frE at h
      simp only at h
      obtain ⟨vs1, gz, zt, zi1, gz1, zt1, ze, L, rfl⟩ := lc2_ok c (fun e => (sound n st e).1 X W c) (fun X' W' c' e => ⟨(sound n _ e).1 X' W' c', (sound n _ e).2 X' W' c'⟩) h
      exact ⟨zs_setLc2 L c.calm hN hi' hl sw, zs_setLc2O L c.calm hN hi' hl sw, zs_setLc2C L c.calm hN hi' hl sw⟩
  cases hs : swapB st.sc x pos' (.ListComp el [⟨tg, iter, ifs, 0⟩] sc p) with
  | false =>
    have sw := (swap_ok c (x := x) (pos := pos') (l := pos.line) (.inr ⟨el, _, sc, p, rfl⟩)).trans (congrArg pure hs)
    exact ⟨zs_set hN hi' (okLoc_ok c hx) (.inl (hf x)) hF.toE sw, zs_setO hN hi' (okLoc_ok c hx) (.inl (hf x)) hF sw, zs_setC hN hi' (okLoc_ok c hx) (.inl (hf x)) hF sw⟩
  | true =>
    have sw := (swap_ok c (x := x) (pos := pos') (l := pos.line) (.inr ⟨el, _, sc, p, rfl⟩)).trans (congrArg pure hs)
    have hl : X.env.scope.names.lookup x = some .local := by
      rw [c.sc]
      simp only [swapB, Bool.and_eq_true] at hs
      exact eq_of_beq hs.1.1
    unfold frE at h
    simp only at h
    obtain ⟨gz, zt, ze, L, rfl⟩ := lcZ_ok c h
    exact ⟨zs_setLc L c.calm hN hi' hl sw, zs_setLcO L c.calm hN hi' hl sw, zs_setLcC L c.calm hN hi' hl sw⟩
theorem asgN_ok (c : Ct X W cl k st) (hf : ∀ x, X.fn x = true) : Zs X W cl (.Assign [.Name x pos'] e pos) (asgN n st x e) := by
  have hN : X.N.Nodup := by rw [c.N]; exact c.nd
  unfold asgN
  split
  · rename_i hx
    split
    · rename_i i hi
      have hi' : X.N[i]? = some x := by rw [c.N]; exact ixOf_at hi
      have plain : isComp e = false → swapsWith e (some (.Name x pos')) pos.line X.env = pure false := fun h => by
        cases e <;> first | rfl | cases h
      split
      · rename_i hd
        obtain ⟨p, rfl⟩ : ∃ p, e = .Dict [] [] p := by
          unfold isDict0 at hd
          split at hd
          · exact ⟨_, rfl⟩
          · cases hd
        split
        · exact zs_setO hN hi' (okLoc_ok c hx) (.inl (hf x)) (zf_dnew _) (plain rfl)
        · split
          · exact zs_setC hN hi' (okLoc_ok c hx) (.inl (hf x)) (zf_dnew _) (plain rfl)
          · exact zs_fail
      split
      · split
        · rename_i z hz
          cases hc : isComp e with
          | true => exact (asgC_ok c hf hx hi hz hc).2.1
          | false => exact zs_setO hN hi' (okLoc_ok c hx) (.inl (hf x)) (frE_ok c hz) (plain hc)
        · exact zs_fail
      · split
        · split
          · rename_i z hz
            cases hc : isComp e with
            | true => exact (asgC_ok c hf hx hi hz hc).2.2
            | false => exact zs_setC hN hi' (okLoc_ok c hx) (.inl (hf x)) (frE_ok c hz) (plain hc)
          · exact zs_fail
        · split
          · rename_i hc
            split
            · rename_i z hz
              exact (asgC_ok c hf hx hi hz hc).1
            · exact zs_fail
          · rename_i hc
            exact zs_set hN hi' (okLoc_ok c hx) (.inl (hf x)) ((sound (cl := cl) (k := k) n st e).1 X W c) (plain (by simpa using hc))
    · exact zs_fail
  · exact zs_fail
theorem par_ok (c : Ct X W cl k st) {y : Str} {px py pt pt2 : Pos} {kt k2 : Nat} (h : parB x y px py a b = true) (hx : isLoc st.sc x = true) (hy : isLoc st.sc y = true) :
    swappedStores [.Tuple [.Name x px, .Name y py] kt pt] (.Tuple [a, b] k2 pt2) X.env = pure (some [x, y]) ∧ x ≠ y ∧ nostar a = true ∧ nostar b = true := by
  unfold parB at h
  simp only [Bool.and_eq_true, Bool.not_eq_true', beq_eq_false_iff_ne, ne_eq, beq_iff_eq] at h
  obtain ⟨⟨⟨⟨⟨h1, h2⟩, h3⟩, h4⟩, h5⟩, h6⟩ := h
  refine ⟨?_, h1, h3, h4⟩
  have hb := blockKind_ok c
  have kx : X.env.kindOf x = some .local := isLoc_ok c hx
  have ky : X.env.kindOf y = some .local := isLoc_ok c hy
  have e1 : (x == y) = false := beq_eq_false_iff_ne.mpr h1
  have e2 : (y == x) = false := beq_eq_false_iff_ne.mpr fun z => h1 z.symm
  have st1 : ([a, b].any fun | .Starred .. => true | _ => false) = false := by
    cases a <;> cases b <;> first | rfl | exact Bool.noConfusion h3 | exact Bool.noConfusion h4
  unfold swappedStores
  simp only [hb, List.length_cons, List.length_nil, Expr.pos, List.head?_cons, Option.map_some, Option.getD_some, List.filterMap_cons, kx, ky, h2, beq_self_eq_true, Bool.and_self, if_true, List.filterMap_nil, st1, h5, h6]
  simp [List.eraseDups_cons, e1, e2]
  rintro (h | h)
  · cases a <;> first | exact Bool.noConfusion h | exact Bool.noConfusion h3
  · cases b <;> first | exact Bool.noConfusion h | exact Bool.noConfusion h4
theorem assign_sub {p1 p2 : Pos} (h : plainSub b = true) : ∀ v, assign (.Subscript (.Name x p1) b p2) X.env v = (do
      let ov ← holding [v] (eval (.Name x p1) X.env)
      let iv ← holding [v, ov] (eval b X.env)
      standAt p2
      holding [v, ov, iv] (setItem ov iv v)
      release [v, ov, iv] []) := by
  cases b with
  | Constant c k p => cases c <;> first | exact fun _ => rfl | cases h
  | _ => first | exact fun _ => rfl | cases h
theorem augSub_ok (h : plainSub b = true) : ∀ ov iv new, augStore b ov iv new = (do holding [new, ov, iv] (setItem ov iv new); release [new, ov, iv] []; pure .next) := by
  cases b with
  | Constant c k p => cases c <;> first | exact fun _ _ _ => rfl | cases h
  | _ => first | exact fun _ _ _ => rfl | cases h
theorem aug_ok {op : Operator} {g : Int → Int → Int} (h : augG op = some g) : PIp X op (ipI g) := by
  cases op <;> simp only [augG, Option.some.injEq, reduceCtorEq] at h <;> subst h
  · exact ip_add
  · exact ip_sub
theorem swTup_none {es : List Expr} {kk : Nat} (h : notTup e = true) : swappedStores [.Tuple es kk pos'] e X.env = pure none := by
  cases e <;> first | rfl | exact Bool.noConfusion h
theorem exL_ok {f : Stmt → ZS} (hf : ∀ s, Zs X W cl s (f s)) : ∀ ss, Zb X W cl ss (exL f ss)
  | [] => zb_nil
  | s :: ss => zb_cons (hf s) (exL_ok hf ss)
theorem swapN1 {l : Nat} {px : Pos} (h : isComp e = false) : swapsWith e (some (.Name x px)) l X.env = pure false := by
  cases e <;> first | rfl | cases h
def Stk (X : Cx) : Prop := X.stack = X.env :: X.outer ∧ X.env.frame = some X.env.locals
theorem exH_ok (c : Ct X W cl k st) (hfn : ∀ x, X.fn x = true) {ad : Addr} {oe : Obj} {cls : Value} {d : Option Addr} {pn : List (Addr × Obj)} (hz : Zc cls d oe) (hf : ∃ vs, oe.data = .fields vs) : ∀ (m : Nat) (s : Stmt), Zs (X.suite ad ((ad, oe) :: pn)) Wf (hotC cl ad d cls) s (exH st m s)
  | 0, s => zs_fail
  | m + 1, s => by
    have hN : X.N.Nodup := by rw [c.N]; exact c.nd
    unfold exH
    refine zs_frz ?_
    split
    · exact zs_ret (soundH c hz hf 60 _).1
    · exact zs_if (soundH c hz hf 60 _).2 (exL_ok (exH_ok c hfn hz hf m) _) (exL_ok (exH_ok c hfn hz hf m) _)
    · split
      · rename_i h
        split
        · rename_i i hi
          have hi' := ixOf_at hi
          rw [← c.N] at hi'
          have hl := okLoc_ok c h.1
          refine zs_set (X := X.suite ad ((ad, oe) :: pn)) hN hi' hl (.inl (hfn _)) (soundH c hz hf 60 _).1 ?_
          exact swapN1 (X := X.suite ad ((ad, oe) :: pn)) h.2.1
        · exact zs_fail
      · exact zs_fail
    · exact zs_fail
theorem ex1_ok (c : Ct X W cl k st) (hfn : ∀ x, X.fn x = true) (hp : PassesOwn (model X.prog X.w) X.A X.env X.xe) (hstk : Stk X) {f : Stmt → ZS} (hfa : ∀ (X' : Cx) (W' : WX), X'.env = X.env → Ct X' W' cl k st → (∀ x, X'.fn x = true) → PassesOwn (model X'.prog X'.w) X'.A X'.env X'.xe → Stk X' → ∀ s, Zs X' W' cl s (f s)) (s : Stmt) : Zs X W cl s (ex1 n st f s) := by
  have hf : ∀ s, Zs X W cl s (f s) := hfa X W rfl c hfn hp hstk
  have hr : ∀ e, ZE X W cl e ((fun e => (ev n st e).1) e) := fun e => (sound (cl := cl) (k := k) n st e).1 X W c
  have ht : ∀ e, ZT X W cl e (ev n st e).2 := fun e => (sound (cl := cl) (k := k) n st e).2 X W c
  have hN : X.N.Nodup := by rw [c.N]; exact c.nd
  have at_ : ∀ {x i}, ixOf st.N x = some i → X.N[i]? = some x := fun h => by rw [c.N]; exact ixOf_at h
  have hG : ∀ {tg is gz}, rdG st.N (okLoc st.sc) tg = some (is, gz) → Zg X tg gz := fun {tg is gz} h => (rdG_ok c.N c.nd c.calm (fun x hx => ⟨okLoc_ok c hx, .inl (hfn x)⟩) h).2
  unfold ex1
  simp only
  split
  · exact zs_pass
  · exact zs_break
  · exact zs_continue
  · split
    · rename_i ks hk
      rw [keysC_ok hk]
      split
      · rename_i hc
        exact zs_retC (zf_dsp hc.1 (by rw [List.length_map]; exact hc.1) (fun i e z h1 h2 => by
          rw [List.getElem?_map, h1] at h2
          cases h2
          exact hr e) hc.2.1 hc.2.2)
      · exact zs_fail
    · exact zs_fail
  · exact zs_ret (hr _)
  · exact zs_retN
  · exact asgN_ok c hfn
  · split
    · rename_i hc
      split
      · rename_i i j hi hj
        obtain ⟨h1, h2, h3, h4⟩ := par_ok c hc.1 hc.2.1 hc.2.2
        refine zs_par c.calm hN (at_ hi) (at_ hj) (fun z => h2 ?_) (isLoc_ok c hc.2.1) (isLoc_ok c hc.2.2) (rdA_ok hr _) h1 (swapN_ok fun _ _ z => nomatch z)
        subst z
        have e1 := at_ hi
        rw [at_ hj] at e1
        exact (Option.some.inj e1).symm
      · exact zs_fail
    · exact zs_fail
  · split
    · rename_i hc
      split
      · rename_i i j hi hj
        obtain ⟨h1, h2, h3, h4⟩ := slotOf_ok c hi
        obtain ⟨h5, h6, h7, h8⟩ := slotOf_ok c hj
        exact zs_sw2 c.calm c.units h1 h2 h3 h4 h5 h6 h7 h8 (hr _) (hr _) (hr _) (swapN_ok fun _ _ z => nomatch z) (assign_sub hc.1) (assign_sub hc.2)
      · exact zs_fail
    · exact zs_fail
  · split
    · rename_i hc
      split
      · rename_i gz hg
        exact zs_asg (hr _) (hG hg) (swapN_ok fun _ _ z => nomatch z) (swTup_none hc) rfl
      · exact zs_fail
    · exact zs_fail
  · split
    · rename_i hc
      split
      · rename_i i hi
        obtain ⟨h1, h2, h3, h4⟩ := slotOf_ok c hi
        exact zs_put c.units h1 h2 h3 h4 (hr _) (hr _) (swapN_ok fun _ _ z => nomatch z) rfl rfl (assign_sub hc)
      · exact zs_fail
    · exact zs_fail
  · split
    · exact zs_fail
    · rename_i hcp
      split
      · rename_i i hi
        obtain ⟨h1, h2, h3, h4⟩ := slotOf_ok c hi
        exact zs_putA (ats_ok c) h1 h2 h3 h4 (hr _) (swapA_ok (by simpa using hcp))
      · exact zs_fail
  · split
    · rename_i hx
      split
      · rename_i i g hi hg
        exact zs_aug (aug_ok hg) hN (at_ hi) (okLoc_ok c hx) (.inl (hfn _)) (hr _)
      · exact zs_fail
    · exact zs_fail
  · split
    · rename_i hc
      split
      · rename_i i g hi hg
        obtain ⟨h1, h2, h3, h4⟩ := slotOf_ok c hi
        exact zs_augP (aug_ok hg) c.units h1 h2 h3 h4 (hr _) (hr _) (augSub_ok hc)
      · exact zs_fail
    · exact zs_fail
  · split
    · rename_i hc
      obtain ⟨rfl, h5, h6⟩ := hc
      split
      · rename_i i hi
        obtain ⟨h1, h2, h3, h4⟩ := slotOf_ok c hi
        exact zs_app h1 h2 h3 h4 (hr _) h5 rfl h6
      · exact zs_fail
    · exact zs_fail
  · split
    · exact zs_fail
    · rename_i hc
      exact zs_expr (rdC_ok c hr _) (swap0_ok (by simpa using hc))
  · exact zs_if (ht _) (exL_ok hf _) (exL_ok hf _)
  · exact zs_while hp (ht _) (exL_ok hf _)
  · split
    · rename_i hc
      split
      · rename_i gz hg
        exact zs_for hp c.calm (rdI_ok c hr _) (hG hg) (exL_ok hf _) (foldOk_ok hc)
      · exact zs_fail
    · exact zs_fail
  · split
    · rename_i q hq
      obtain ⟨hmem, hn⟩ := exOf_ok hq
      split
      · rename_i h
        obtain ⟨h1, h2, h3, h4⟩ := h
        obtain ⟨C, e1, e2, _, _, _, x4, _⟩ := (c.tab.exs q hmem).ex
        obtain ⟨d, hd⟩ := Option.isSome_iff_exists.mp h4
        obtain ⟨fI, cc, cda, fd, kV, doc, pm, an, ct, ps, T, R, hfd⟩ := x4 d hd
        have h3' := h3
        simp only [List.all_cons, Bool.and_eq_true] at h3'
        rw [hn] at e2
        exact zs_raise c.calm c.tk e1 (fun ta pa => mk_of_text T R hfd (c.tab.sup fun z => by rw [z] at hmem; simp at hmem) c.room (isGlo_ok c h1) e2 pa (plainN_ok h2).1 h3'.1 (starAny h3'.2)) (rdA_ok hr _)
      · exact zs_fail
    · exact zs_fail
  · split
    · rename_i q i hq hi
      obtain ⟨hmem, hn⟩ := exOf_ok hq
      split
      · rename_i h
        obtain ⟨h1, h2, h3⟩ := h
        obtain ⟨C, e1, e2, _⟩ := (c.tab.exs q hmem).ex
        rw [hn] at e2
        refine zs_try (hv := .ref C) hstk.1 hstk.2 hN (at_ hi) (isLoc_ok c h3) ⟨isGlo_ok c h1, (plainN_ok h2).1, .inl e2⟩ c.tk (fun W' pn xe tk' hp' => ?_) (fun a oe cls d pn hz hv => exL_ok (exH_ok c hfn hz hv 20) _) (fun cc C' b hb hC => ?_) c.tab.hot
        · exact exL_ok (hfa (X.tr pn xe) W' rfl ⟨c.N, c.sc, c.calm, c.nd, tk', c.room, c.gd, c.tab, c.kind⟩ hfn hp' hstk) _
        · unfold esubP at hb
          rw [Option.map_eq_some_iff] at hb
          obtain ⟨q2, hq2, rfl⟩ := hb
          have hm2 := List.mem_of_find?_eq_some hq2
          have hc2 : q2.c = cc := by simpa using List.find?_some hq2
          obtain ⟨C2, e3, _, _, _, _, _, x5, _⟩ := (c.tab.exs q2 hm2).ex
          rw [hc2, hC] at e3
          cases e3
          exact (x5 q hmem C e1).1
      · exact zs_fail
    · exact zs_fail
  · exact zs_fail
theorem exS_ok : ∀ (m : Nat) (X : Cx) (W : WX), Ct X W cl k st → (∀ x, X.fn x = true) → PassesOwn (model X.prog X.w) X.A X.env X.xe → Stk X → ∀ (s : Stmt), Zs X W cl s (exS m st s)
  | 0, X, W, _, _, _, _, s => zs_fail
  | m + 1, X, W, c, hfn, hp, hs, s => zs_frz (ex1_ok c hfn hp hs (fun X' W' _ c' h1 h2 h3 => exS_ok m X' W' c' h1 h2 h3) s)
theorem exB_ok (c : Ct X W cl k st) (hfn : ∀ x, X.fn x = true) (hp : PassesOwn (model X.prog X.w) X.A X.env X.xe) (hs : Stk X) (ss : List Stmt) : Zb X W cl ss (exB st ss) := exL_ok (exS_ok 40 X W c hfn hp hs) ss
end
end Zy
set_option maxHeartbeats 4000000
namespace Zy
open PySem PySem.Spec PyProof.Rows L2

/-! the text's defs -/
structure Fi where
  d : DfZ
  ps : List Str
  N : List Str
  owns : List Str
  cels : List Str
def Fi.stt (f : Fi) (px : Px) (call : Str → Sem1) : Stt := ⟨px, call, f.N, f.d.scope, f.owns, f.cels⟩
def callF (fns : List Fi) (px : Px) : Nat → Str → Sem1
  | 0 => fun _ _ _ => .fail
  | k + 1 => fun x => match fns.find? fun f => decide (f.d.qual = x) with
    | some f => zFun f.ps.length f.N.length (exB (f.stt px (callF fns px k)) f.d.body)
    | none => fun _ _ => .fail
/-- what the text says of its classes -/
def lensP (px : Px) (C : Str → Sem1) : Lens := fun c => match px.cls.find? fun q => decide (q.c = c) with
  | some q => q.len.map C
  | none => none
def eqsP (px : Px) (C : Str → Sem1) : Lens := fun c => match px.cls.find? fun q => decide (q.c = c) with
  | some q => q.eqm.map C
  | none => none
def atsP (px : Px) : Ats := fun c f => match px.cls.find? fun q => decide (q.c = c) with
  | some q => q.ats.contains f
  | none => false
def prpP (px : Px) (f : Str) (C : Str → Sem1) : Lens := fun c => match px.cls.find? fun q => decide (q.c = c) with
  | some q => (q.props.find? fun z => decide (z.1 = f)).map fun z => C z.2
  | none => none
def scopeB (N ps : List Str) (sc : Scope) : Bool :=
  (match sc.kind with | .function => true | _ => false) && !sc.isCoroutine && !sc.isGenerator && decide N.Nodup && decide (N.take ps.length = ps) &&
    (ps.all fun x => match sc.names.lookup x with | some .local | some .cell => true | _ => false) && (sc.names.all fun y => match y.2 with | .free => false | _ => true)
theorem scopeB_ok {N ps : List Str} {sc : Scope} (h : scopeB N ps sc = true) : FnScope N ps sc := by
  unfold scopeB at h
  simp only [Bool.and_eq_true, Bool.not_eq_true', decide_eq_true_eq, List.all_eq_true] at h
  obtain ⟨⟨⟨⟨⟨⟨h1, h2⟩, h3⟩, h4⟩, h5⟩, h6⟩, h7⟩ := h
  refine ⟨?_, h2, h3, h4, h5, fun x hx => ?_, fun y hy e => ?_⟩
  · split at h1 <;> simp_all
  · have := h6 x hx
    split at this <;> simp_all
  · have := h7 y hy
    rw [e] at this
    cases this
/-- how a def without defaults is bound -/
structure Bnd (f : Fi) (n : Nat) (ks : List Str) (is : List Nat) : Prop where
  no : f.d.dfl = []
  len : is.length = f.ps.length
  eq : ∀ (kV doc pm : Value) (an : Option Addr) (cdv ct : Value) (us ws : List Value), us.length = n → ws.length = ks.length →
    ∃ ys, perm (us ++ ws) is = some ys ∧ bindArgs (PySem.W.fnOf f.d.name f.d.qual f.d.params f.d.body f.d.scope .none kV doc pm an cdv ct) ⟨us, ks.zip ws⟩ = pure (f.ps.zip ys)
/-- how a def is bound whose keyword-only defaults are all taken -/
def dvD : D → Option He.Dv
  | .int i => some (.int i)
  | .bl b => some (.bl b)
  | .non => some .non
  | _ => none
theorem rep_dv {K : PySem.W.Frag} {d : D} {v : He.Dv} (h : dvD d = some v) (G : Gh) (H : Hp) : Rep G H (v.v K) d := by
  cases d <;> simp only [dvD] at h <;> first | (cases h; done) | (cases h; constructor)
theorem repL_dv {K : PySem.W.Frag} (G : Gh) (H : Hp) : ∀ {dd : List D} {vs : List He.Dv}, dd.map dvD = vs.map some → RepL G H (vs.map (He.Dv.v K)) dd
  | [], [], _ => .nil
  | d :: dd, v :: vs, h => by
    rw [List.map_cons, List.map_cons, List.cons.injEq] at h
    exact .cons (rep_dv h.1 G H) (repL_dv G H h.2)
  | [], _ :: _, h => by cases h
  | _ :: _, [], h => by cases h
structure BndK (f : Fi) (n : Nat) (ks : List Str) (is : List Nat) (dd : List D) : Prop where
  no : f.d.dfl = []
  kw : f.d.kwd ≠ []
  dv : dd.map dvD = (f.d.kwd.map (·.2)).map some
  len : is.length = f.ps.length
  eq : ∀ (Da : Addr) (doc pm : Value) (an : Option Addr) (cdv ct : Value) (us ws kv : List Value), us.length = n → ws.length = ks.length → kv.length = f.d.kwd.length →
    ∃ ys, perm (us ++ ws ++ kv) is = some ys ∧ KwChain Da ((f.d.kwd.map (·.1)).zip kv) (bindArgs (PySem.W.fnOf f.d.name f.d.qual f.d.params f.d.body f.d.scope .none (.ref Da) doc pm an cdv ct) ⟨us, ks.zip ws⟩) (f.ps.zip ys)
def isAt (fns : List Fi) (key : Str) (wh : Wh) (f : Fi) : Prop := f ∈ fns ∧ fns.find? (fun g => decide (g.d.qual = key)) = some f ∧ f.d.qual = key ∧ f.d.wh = wh
/-- what is decided of a class -/
structure CiOk (fns : List Fi) (c : Ci) : Prop where
  make : ∀ p ∈ c.make, ∃ f, isAt fns p.1 (.meth c.name "__init__") f ∧ Bnd f (p.2.1 + 1) p.2.2.1 p.2.2.2
  len : ∀ m, c.len = some m → ∃ f, isAt fns m (.meth c.name "__len__") f ∧ Bnd f 1 [] [0]
  props : ∀ z ∈ c.props, ∃ f, isAt fns z.2 (.prop c.name z.1) f ∧ Bnd f 1 [] [0]
  eqm : ∀ m, c.eqm = some m → ∃ f, isAt fns m (.meth c.name "__eq__") f ∧ Bnd f 2 [] [0, 1]
/-- what is decided of the text -/
structure TextOk (fns : List Fi) (px : Px) : Prop where
  at_ : ∀ f ∈ fns, scopeB f.N f.ps f.d.scope = true
  pats : ∀ p ∈ px.pats, ∃ f, isAt fns p.name (.glo p.name) f ∧ ((p.dd = [] ∧ Bnd f p.n p.ks p.is) ∨ BndK f p.n p.ks p.is p.dd)
  cls : ∀ c ∈ px.cls, px.cls.find? (fun q => decide (q.c = c.c)) = some c ∧ CiOk fns c
  exs : ∀ x ∈ px.exs, px.exs.find? (fun q => decide (q.c = x.c)) = some x ∧ px.cls.find? (fun q => decide (q.c = x.c)) = none ∧ ∀ d, x.init = some d → ∃ ps, ErT x d ps
  real : (px.cls.all (fun q => realC q.c) && px.exs.all (fun q => realC q.c)) = true
/-- .. and of what stands behind the top -/
def fxB (px : Px) (gl : List Str) (K : Fg) : Bool := px.free.all (freeB K) && (gl.all (gloB K) && (px.cls.all (ciB K) && (px.exs.all (xiB px.file px.exs K) && ((px.exs.isEmpty || freeB K "super") && px.gcds.all (gcdB K)))))
def clOf (px : Px) (K : Fg) (c : String) : Option Addr := match px.cls.find? fun q => decide (q.c = c) with
  | some q => some (He.ga K q.name)
  | none => (px.exs.find? fun q => decide (q.c = c)).map fun q => He.ga K q.name
/-- what the program itself says -/
structure ProgOk (P : Program) (px : Px) : Prop where
  file : px.exs ≠ [] → (P.main.file : Str) = px.file
  top : px.exs ≠ [] → (P.main.scope.names.lookup ("super" : Str)).isSome = false
structure HeadOk (fns : List Fi) (px : Px) (K : PySem.W.Frag) (mg : Str → Option Value) : Prop where
  fn : ∀ f ∈ fns, ∃ fd, FunD K f.d.name f.d.qual f.d.params f.d.body f.d.scope (f.d.dvs K) (f.d.kws K) (f.d.adr K) fd
  glo : ∀ p ∈ px.pats, mg p.name = some (.ref (He.ga K p.name))
  free : ∀ x ∈ px.free, mg x = none
  cls : ∀ c ∈ px.cls, mg c.name = some (.ref (He.ga K c.name)) ∧ ciB K c = true
  exs : ∀ x ∈ px.exs, mg x.name = some (.ref (He.ga K x.name)) ∧ xiB px.file px.exs K x = true ∧ ∀ d, x.init = some d → seenE K (d.adr K) (He.ga K x.name) = d.saidZ
  sup : px.exs ≠ [] → mg ("super" : Str) = none
  gcd : ∀ x ∈ px.gcds, mg x = some (.builtin "math.gcd")
section
variable {fns : List Fi} {px : Px} {P : Program} {w : World} {K : PySem.W.Frag} {mg : Str → Option Value} {base : Heap} {cl : String → Option Addr}
theorem fnG_fail {k : Nat} {f : Addr} {fd : FuncData} {ps : List Str} : FnG P w K mg base (L2.CX P w) k f fd ps (spZ cl K ps.length fun _ _ => .fail) :=
  ⟨fun vs H Q E h => h.1, fun A outer s H args us vs Q E hg hr he hb hv h => by
    obtain ⟨_, F, ph, M, env, σ, as, _, _, _, _, P⟩ := h
    exact P.elim⟩
theorem pat_of {f : Fi} {fd : FuncData} {n : Nat} {ks : List Str} {is : List Nat} {a : Addr} (B : Bnd f n ks is) (Fd : FunD K f.d.name f.d.qual f.d.params f.d.body f.d.scope (f.d.dvs K) (f.d.kws K) a fd) : Pat K fd f.ps n ks is [] := by
  refine ⟨B.len, [], [], .nil, fun _ _ => .nil, fun s us ws ys X h1 h2 hp => ?_⟩
  obtain ⟨oc, od, dV, kV, doc, pm, an, cdv, ct, osl, rfl, lk, hcd, hD, hK⟩ := Fd.ex
  have e0 : f.d.dvs K = [] := by unfold DfZ.dvs; rw [B.no]; rfl
  rw [e0] at hD
  rcases hD with ⟨_, rfl⟩ | ⟨z, _⟩
  · obtain ⟨ys', q1, q2⟩ := B.eq kV doc pm an cdv ct us ws h1 h2
    rw [List.append_nil] at hp
    rw [q1] at hp
    cases hp
    exact .of_eq q2
  · exact absurd rfl z
theorem pat_ofK {f : Fi} {fd : FuncData} {n : Nat} {ks : List Str} {is : List Nat} {dd : List D} {a : Addr} (B : BndK f n ks is dd) (Fd : FunD K f.d.name f.d.qual f.d.params f.d.body f.d.scope (f.d.dvs K) (f.d.kws K) a fd) : Pat K fd f.ps n ks is dd := by
  obtain ⟨oc, od, dV, kV, doc, pm, an, cdv, ct, osl, rfl, lk, hcd, hD, hK⟩ := Fd.ex
  have e0 : f.d.dvs K = [] := by unfold DfZ.dvs; rw [B.no]; rfl
  rw [e0] at hD
  rcases hD with ⟨_, rfl⟩ | ⟨z, _⟩
  · rcases hK with z | ⟨Da, rfl, hq⟩
    · exact absurd (by unfold DfZ.kws at z; exact List.map_eq_nil_iff.mp z) B.kw
    · obtain ⟨du, l1, r1, n1⟩ := kwd_vals hq
      have e1 : (f.d.kws K).map (·.1) = f.d.kwd.map (·.1) := by unfold DfZ.kws; rw [List.map_map]; rfl
      have e2 : (f.d.kws K).map (·.2) = (f.d.kwd.map (·.2)).map (He.Dv.v K) := by unfold DfZ.kws; rw [List.map_map, List.map_map]; rfl
      rw [e1] at n1
      rw [e2] at r1
      refine ⟨B.len, _, du, r1, fun G H => repL_dv G H B.dv, fun s us ws ys X h1 h2 hp => ?_⟩
      obtain ⟨ys', q1, q2⟩ := B.eq Da doc pm an cdv ct us ws du h1 h2 (by rw [l1]; unfold DfZ.kws; rw [List.length_map])
      rw [q1] at hp
      cases hp
      exact fun M A E Q hQ => PySem.W.Looks.here (KwChain.looks X n1 q2) hQ
  · exact absurd rfl z
theorem callF_at {k : Nat} {f : Fi} {key : Str} (h : fns.find? (fun g => decide (g.d.qual = key)) = some f) : callF fns px (k + 1) key = zFun f.ps.length f.N.length (exB (f.stt px (callF fns px k)) f.d.body) := by
  show (match fns.find? (fun g => decide (g.d.qual = key)) with
    | some f => zFun f.ps.length f.N.length (exB (f.stt px (callF fns px k)) f.d.body)
    | none => fun _ _ => .fail) = _
  rw [h]
theorem fnG_all (hcl : cl = clOf px K) (hP : ProgOk P px) (T : TextOk fns px) (Hd : HeadOk fns px K mg) : ∀ k, (∀ f ∈ fns, fns.find? (fun g => decide (g.d.qual = f.d.qual)) = some f → ∀ fd, FunD K f.d.name f.d.qual f.d.params f.d.body f.d.scope (f.d.dvs K) (f.d.kws K) (f.d.adr K) fd →
      FnG P w K mg base (L2.CX P w) (2 * k) (f.d.adr K) fd f.ps (spZ cl K f.ps.length (callF fns px k f.d.qual)))
  | 0, f, hf, hq, fd, Fd => fnG_fail
  | k + 1, f, hf, hq, fd, Fd => by
    have ih : ∀ {key : Str} {wh : Wh} {g : Fi}, isAt fns key wh g → ∃ gd, FunD K g.d.name g.d.qual g.d.params g.d.body g.d.scope (g.d.dvs K) (g.d.kws K) (wh.adr K) gd ∧ FnG P w K mg base (L2.CX P w) (2 * k) (wh.adr K) gd g.ps (spZ cl K g.ps.length (callF fns px k key)) := fun {key wh g} h => by
      obtain ⟨hg, h2, h3, h4⟩ := h
      obtain ⟨gd, Gd⟩ := Hd.fn g hg
      have e : g.d.adr K = wh.adr K := by unfold DfZ.adr; rw [h4]
      have F := fnG_all hcl hP T Hd k g hg (by rw [h3]; exact h2) gd Gd
      rw [h3] at F
      rw [e] at F Gd
      exact ⟨gd, Gd, F⟩
    have tab : Tab P w K mg base cl (2 * k) px (callF fns px k) := by
      refine ⟨Hd.free, fun p hp => ?_, fun c hc => ⟨?_, ?_, ?_⟩, fun x hx => ⟨?_⟩, Hd.sup, fun s hs => ?_, Hd.gcd⟩
      · obtain ⟨g, hg, B⟩ := T.pats p hp
        obtain ⟨gd, Gd, F⟩ := ih hg
        rcases B with ⟨hdd, B⟩ | B
        · rw [hdd]
          exact ⟨_, gd, g.ps, Hd.glo p hp, Gd.kp, pat_of B Gd, F⟩
        · exact ⟨_, gd, g.ps, Hd.glo p hp, Gd.kp, pat_ofK B Gd, F⟩
      · obtain ⟨hfi, ok⟩ := T.cls c hc
        obtain ⟨m1, m2⟩ := Hd.cls c hc
        simp only [ciB, Bool.and_eq_true, List.all_eq_true, Bool.or_eq_true] at m2
        obtain ⟨_, ⟨c1, _⟩, ⟨c2, c3⟩, c4, _, c5⟩ := m2
        refine ⟨He.ga K c.name, by rw [hcl]; unfold clOf; rw [hfi], m1, clsB_ok c1, fun f hf => noatB_ok (c2 f hf), fun p hp => ?_, fun m hm => ?_, fun z hz => ?_⟩
        · obtain ⟨g, hg, B⟩ := ok.make p hp
          obtain ⟨gd, Gd, F⟩ := ih hg
          have mk : mkB K c.name = true := by
            rcases c3 with q | q
            · have q' : c.make = [] := by simpa using q
              rw [q'] at hp
              simp at hp
            · exact q
          exact ⟨_, gd, g.ps, mkB_ok mk, pat_of B Gd, F⟩
        · obtain ⟨g, hg, B⟩ := ok.len m hm
          obtain ⟨gd, Gd, F⟩ := ih hg
          have mm : methB K c.name "__len__" = true := by
            rcases c4 with q | q
            · rw [hm] at q
              cases q
            · exact q
          exact ⟨_, gd, g.ps, (methB_ok mm).1, (methB_ok mm).2, pat_of B Gd, F⟩
        · obtain ⟨g, hg, B⟩ := ok.props z hz
          obtain ⟨gd, Gd, F⟩ := ih hg
          exact ⟨_, _, gd, g.ps, propB_ok (c5 z hz), pat_of B Gd, F⟩
      · intro C hC
        obtain ⟨hfi, _⟩ := T.cls c hc
        have m2 := (Hd.cls c hc).2
        simp only [ciB, Bool.and_eq_true] at m2
        rw [hcl] at hC
        unfold clOf at hC
        rw [hfi] at hC
        cases hC
        exact insB_ok (clsB_ok m2.2.1.1) m2.2.1.2
      · intro m hm C hC
        obtain ⟨hfi, ok⟩ := T.cls c hc
        have m2 := (Hd.cls c hc).2
        simp only [ciB, Bool.and_eq_true, Bool.or_eq_true] at m2
        rw [hcl] at hC
        unfold clOf at hC
        rw [hfi] at hC
        cases hC
        obtain ⟨g, hg, B⟩ := ok.eqm m hm
        obtain ⟨gd, Gd, F⟩ := ih hg
        have mm : methB K c.name "__eq__" = true := by
          rcases m2.2.2.2.2.1 with q | q
          · rw [hm] at q
            cases q
          · exact q
        exact ⟨_, gd, g.ps, (methB_ok mm).1, (methB_ok mm).2, pat_of B Gd, F⟩
      · have at_ : ∀ y ∈ px.exs, cl y.c = some (He.ga K y.name) := fun y hy => by
          obtain ⟨h1, h2, _⟩ := T.exs y hy
          rw [hcl]
          unfold clOf
          rw [h2, h1]
          rfl
        obtain ⟨_, _, h3⟩ := T.exs x hx
        obtain ⟨m1, m2, m3⟩ := Hd.exs x hx
        have hne : px.exs ≠ [] := fun z => by rw [z] at hx; simp at hx
        simp only [xiB, Bool.and_eq_true, decide_eq_true_eq] at m2
        obtain ⟨_, b1, b2, b3, b4, b5, b6⟩ := m2
        have xf := xfB_ok b1
        refine ⟨He.ga K x.name, at_ x hx, m1, xf, insB_kit b2 (xf_cls xf), fun f hf => noatB_ok (List.all_eq_true.mp b3 f hf), fun d hd => ?_, fun y hy D hD => ?_, b6⟩
        · obtain ⟨ps, ET⟩ := h3 d hd
          rw [hd] at b4
          obtain ⟨fI, cc, cda, fd, kV, doc, pm, an, ct, R, hfd⟩ := erK_of (P := P) ET b4 (m3 d hd) b3 (hP.file hne) (hP.top hne)
          exact ⟨fI, cc, cda, fd, kV, doc, pm, an, ct, ps, ET, R, hfd⟩
        · rw [at_ y hy] at hD
          cases hD
          have := List.all_eq_true.mp b5 y hy
          simp only [pairB, Bool.and_eq_true, decide_eq_true_eq] at this
          exact this
      · rw [hcl]
        unfold clOf
        have hr := T.real
        simp only [Bool.and_eq_true, List.all_eq_true] at hr
        cases e1 : px.cls.find? (fun q => decide (q.c = s)) with
        | some q =>
          have hq : q.c = s := by simpa using List.find?_some e1
          have := hr.1 q (List.mem_of_find?_eq_some e1)
          rw [hq, hs] at this
          cases this
        | none =>
          cases e2 : px.exs.find? (fun q => decide (q.c = s)) with
          | some q =>
            have hq : q.c = s := by simpa using List.find?_some e2
            have := hr.2 q (List.mem_of_find?_eq_some e2)
            rw [hq, hs] at this
            cases this
          | none => rfl
    have hS := scopeB_ok (T.at_ f hf)
    rw [callF_at hq]
    have F1 : FnG P w K mg base (L2.CX P w) (2 * k + 1 + 1) (f.d.adr K) fd f.ps (spZ cl K f.ps.length (zFun f.ps.length f.N.length (exB (f.stt px (callF fns px k)) f.d.body))) :=
      fn_run Fd hS fun cdv A outer s H E W hgd hr tk hp => exB_ok (k := 2 * k) (st := f.stt px (callF fns px k)) ⟨rfl, rfl, rfl, hS.nd, tk, hr, hgd, tab, hS.kind⟩ (fun _ => rfl) hp ⟨rfl, rfl⟩ f.d.body
    exact F1
/-- the script's list, as it stands at the law's entry -/
theorem law_g {k : Nat} {fa a : Addr} {fd : FuncData} {x : Str} {sp : Sp} {s₁ : Shared} {vs : List Value} {ns : List Int} {mb : Str → Option Value}
    (KX : K.In s₁.heap) (hns : s₁.heap.Ns mainGlobals mg) (hb : s₁.heap.Ns builtinsNs mb) (hbb : ∀ x : Str, x ≠ "__name__" → mb x = bootBuiltins x) (hlim : s₁.heap.NoLimit) (hg : s₁.gens = #[])
    (ha : s₁.heap.get? a = some { cls := .type "list", data := .seq vs.toArray }) (hi : IntsAre vs ns) (hl : ns.length ≤ sizeLine) (hr : Room k callerA)
    (G : ∀ base : Heap, K.In base → base.Ns mainGlobals mg → FnG P w K mg base (L2.CX P w) k fa fd [x] sp) (hbind : ∀ (s : Shared) (u : Value), BindsTo s fd ⟨[u], []⟩ [(x, u)])
    (hsp : ∀ H : Hp, (∀ b u, H b = some u → ∃ ob xs, u = .frz ob (.lst xs)) → SqL K H a (ns.map V.int) → sp [.ref a] H (fun v _ => v = .bl true) fun _ _ _ => False) :
    codeAny (model P w) callerA (.call (.ref fa) ⟨[.ref a], []⟩) (fun r s' => r = .ok (.ret (.bool true)) ∧ OldK s₁.heap s'.heap ∧ s'.os = s₁.os ∧ AllBare s'.gens) s₁ := by
  have rv := vals_ints hi
  generalize hob : ({ cls := .type "list", data := .seq vs.toArray } : Obj) = ob at ha
  -- tracked: the script, unless it is an object of the written part
  obtain ⟨H, hH, hS, hok, hKa, hfz⟩ : ∃ H : Hp, (∀ b, H b = none ∨ b = a) ∧ SqL K H a (ns.map V.int) ∧ HOk P w H s₁.heap ∧ (H a ≠ none → K.lookup a = none) ∧ (∀ b u, H b = some u → ∃ xs, u = .frz ob (.lst xs)) := by
    cases hk : K.lookup a with
    | some o =>
      have e := KX a o hk
      rw [ha] at e
      cases e
      subst hob
      refine ⟨fun _ => none, fun _ => .inl rfl, .inr ⟨_, vs.toArray, _, hk, rfl, rfl, rfl, ?_, by simpa using rv⟩, ?_, ?_, ?_⟩
      · rw [List.size_toArray, hi.length]
        exact hl
      · intro b u z
        cases (show (none : Option HO) = some u from z)
      · exact fun z => absurd rfl z
      · intro b u z
        cases (show (none : Option HO) = some u from z)
    | none =>
      have at_ : ∀ b u, (if b = a then some (HO.frz ob (.lst (ns.map V.int))) else none) = some u → b = a ∧ u = .frz ob (.lst (ns.map V.int)) := fun b u z => by
        by_cases q : b = a
        · rw [if_pos q] at z
          exact ⟨q, (Option.some.inj z).symm⟩
        · rw [if_neg q] at z
          cases z
      refine ⟨fun b => if b = a then some (.frz ob (.lst (ns.map V.int))) else none, fun b => ?_, .inl (.inr ⟨ob, if_pos rfl⟩), ?_, fun _ => rfl, fun b u z => ⟨_, (at_ b u z).2⟩⟩
      · by_cases q : b = a
        · exact .inr q
        · exact .inl (if_neg q)
      · intro b u z
        obtain ⟨rfl, rfl⟩ := at_ b u z
        subst hob
        exact ⟨ha, by rw [List.length_map]; exact hl, vs, _, rv, ha⟩
  have dict_free : ∀ {b : Addr} {o : Obj} {es : Array DictEntry} {ep : Nat}, s₁.heap.get? b = some o → o.data = .dict es ep → H b = none := fun {b o es ep} e d => by
    rcases hH b with q | q
    · exact q
    · rw [q, ha] at e
      cases e
      rw [← hob] at d
      cases d
  have ns_base : ∀ {b : Addr} {m : Str → Option Value}, s₁.heap.Ns b m → (hidT s₁.heap H).Ns b m := fun {b m} ⟨o, es, ep, e, d, r⟩ => ⟨o, es, ep, hidT_get e (dict_free e d), d, r⟩
  have kin : K.In (hidT s₁.heap H) := fun b o e => hidT_get (KX b o e) (by
    rcases hH b with q | q
    · exact q
    · cases z : H b with
      | none => rfl
      | some u =>
        rw [q] at z e
        rw [hKa (by rw [z]; simp)] at e
        cases e)
  have md : Mod K mg (hidT s₁.heap H) := ⟨kin, ns_base hns, ⟨mb, ns_base hb, hbb⟩, hlim.imp fun mc h => ⟨ns_base h.1, h.2⟩⟩
  have e0 : Env0 P w K mg (hidT s₁.heap H) callerA [] s₁ H := ⟨rfl, md, fun b o e => of_hidT e, Nat.le_of_eq (hidT_size _ _), trivial, fun b z => by simp [frs] at z, hok, .of_eq hg⟩
  refine codeAny_mono ((G _ kin (ns_base hns)).run callerA [] s₁ H ⟨[.ref a], []⟩ [.ref a] [.ref a] _ _ rfl hr e0 (hbind s₁ (.ref a)) (.cons rfl .nil) (hsp H (fun b u z => ⟨ob, hfz b u z⟩) hS)) fun r s' h => ?_
  match r, h with
  | .error e, h =>
    obtain ⟨_, _, _, _, _, _, _, _, _, _, _, _, z⟩ := h
    exact z.elim
  | .ok (.ret u), ⟨v, H', os, bare, un, hok', r', q⟩ =>
    have q' : v = .bl true := q
    subst q'
    obtain rfl : u = Value.bool true := r'
    refine ⟨rfl, OldK.of_keep fun b o e => ?_, os, bare⟩
    cases q : H b with
    | none => exact un.keep b o e q (by simp [frs]) (by simp)
    | some u =>
      obtain ⟨xs, rfl⟩ := hfz b u q
      obtain ⟨e1, _⟩ := hok b _ q
      obtain ⟨e2, _⟩ := hok' b _ (un.frzs b ob _ q)
      rw [e] at e1
      cases e1
      exact e2
/-- the goal of the head, from the law's promise -/
theorem walk_g {l : PySem.W.OpenLaw} {n k : Nat} {q : Program} {loose : List Str} {XP : (Str → Option Value) → Heap → Prop} {YP : World → Heap → Prop} {d : DefRec} {x : Str}
    (hn : l.most = some n) (hn2 : n ≤ sizeLine) (hdf : d.params.defaults = []) (hr : Room k callerA)
    (G : ∀ (w : World) (mg : Str → Option Value) (fa : Addr) (h : Heap), YP w h → h.Ns mainGlobals mg → mg d.name = some (.ref fa) →
      ∃ (K : PySem.W.Frag) (fd : FuncData) (sp : Sp), K.In h ∧ (∀ (s : Shared) (u : Value), BindsTo s fd ⟨[u], []⟩ [(x, u)]) ∧
        (∀ (H : Hp) (a : Addr) (ns : List Int), ns.length ≤ n → (∀ b u, H b = some u → ∃ ob xs, u = .frz ob (.lst xs)) → SqL K H a (ns.map V.int) → sp [.ref a] H (fun v _ => v = .bl true) fun _ _ _ => False) ∧
        ∀ base : Heap, K.In base → base.Ns mainGlobals mg → FnG l.prog w K mg base (L2.CX l.prog w) k fa fd [x] sp) :
    PySem.W.WalkO q loose XP YP l.row.toRowW d [] (fun f vs => PySem.call f vs) := by
  refine Att.attach_call hn hdf fun w s₀ s₁ mg mb fa o pm cd doc a vs ns Gr Y ho hd hcd hmg hobj hints hlen hg => ?_
  obtain ⟨K, fd, sp, KX, hb, hsp, hG⟩ := G w mg fa _ Y Gr.T.g hmg
  exact law_g KX Gr.T.g Gr.T.b Gr.T.builtins Gr.T.nolimit hg hobj hints (Nat.le_trans hlen hn2) hr hG hb fun H hH hS => hsp H a ns hlen hH hS
/-- the law's promise from its meaning -/
theorem law_sp {a : Addr} {H : Hp} {ns : List Int} {f : Sem1} (hH : ∀ b u, H b = some u → ∃ ob xs, u = .frz ob (.lst xs)) (hS : SqL K H a (ns.map V.int)) (h : ∃ M', f [.val (.scr ns)] [] = .ok (.bl true) M') :
    spZ cl K 1 f [.ref a] H (fun v _ => v = .bl true) fun _ _ _ => False := by
  have S : Sim ⟨K, cl, fun _ => False, H, []⟩ [] [] [] [] H :=
    ⟨rfl, ⟨[], rfl, fun a z => by simp at z⟩, fun a o e _ => e, fun a z => z.elim, rfl, List.nodup_nil, fun i d e => by simp at e, fun i d e => by simp at e, fun i d e => by simp at e, fun i j d e a e1 => by simp at e1, fun i d e => by simp at e⟩
  refine ⟨rfl, ⟨K, cl, fun _ => False, H, []⟩, [], [], [], [], [.val (.scr ns)], rfl, rfl, S, .cons ?_ .nil, ?_⟩
  · have off : ¬ (gh ⟨K, cl, fun _ => False, H, []⟩ [] [] []).off a := fun z => by
      rcases z with (z | ⟨i, d, e, _⟩) | z
      · exact z
      · simp at e
      · have z' : a ∈ ([] : List Addr) := z
        simp at z'
    rcases hS with (h | ⟨o, h⟩) | h
    · obtain ⟨ob, xs, e⟩ := hH a _ h
      cases e
    · exact .scr h off
    · exact .scrK fun H' => .inr h
  · obtain ⟨M', e⟩ := h
    rw [e]
    intro ph' H' v _ _ r
    cases r
    rfl
/-- what the head tells -/
theorem head_of {gl : List Str} (hgl : ∀ p ∈ px.pats, p.name ∈ gl) {h : Heap} (X : K.In h) (G : h.Ns mainGlobals mg) (c : tellZ (fxB px gl) (fns.map (·.d)) (ersOf px.exs) K = wantZ (fns.map (·.d)) (ersOf px.exs)) : HeadOk fns px K mg := by
  have fx := told_fx c
  simp only [fxB, Bool.and_eq_true, List.all_eq_true] at fx
  refine ⟨fun f hf => told_fn c (List.mem_map_of_mem hf), fun p hp => gloB_ok X G (fx.2.1 _ (hgl p hp)), fun x hx => freeB_ok X G (fx.1 x hx), fun c hc => ?_, fun x hx => ⟨?_, fx.2.2.2.1 x hx, fun d hd => ?_⟩, fun hne => ?_, fun x hx => PySem.W.mg_of X G (eqF_ok (fx.2.2.2.2.2 x hx))⟩
  · have h2 := fx.2.2.1 c hc
    refine ⟨?_, h2⟩
    simp only [ciB, Bool.and_eq_true] at h2
    exact gloB_ok X G h2.1
  · have h2 := fx.2.2.2.1 x hx
    simp only [xiB, Bool.and_eq_true] at h2
    exact gloB_ok X G h2.1
  · have hm : (x.name, d) ∈ ersOf px.exs := List.mem_filterMap.mpr ⟨x, hx, by rw [hd]; rfl⟩
    exact told_er c hm
  · have h5 := fx.2.2.2.2.1
    simp only [Bool.or_eq_true, List.isEmpty_iff] at h5
    rcases h5 with h5 | h5
    · exact absurd h5 hne
    · exact freeB_ok X G h5
theorem all_nil {α : Type} {q : α → Prop} : ∀ x ∈ ([] : List α), q x := fun _ h => by simp at h
theorem all_cons {α : Type} {q : α → Prop} {a : α} {l : List α} (h : q a) (t : ∀ x ∈ l, q x) : ∀ x ∈ a :: l, q x := fun x hx => by
  rcases List.mem_cons.mp hx with rfl | hx
  · exact h
  · exact t x hx
theorem all_some {α : Type} {q : α → Prop} {a : α} (h : q a) : ∀ m, (some a : Option α) = some m → q m := fun m e => by cases e; exact h
theorem all_none {α : Type} {q : α → Prop} : ∀ m, (none : Option α) = some m → q m := fun m e => by cases e
theorem at_ok {f : Fi} {key : Str} {wh : Wh} (i : Nat) (hi : fns[i]? = some f) (hf : fns.find? (fun g => decide (g.d.qual = key)) = some f) (hn : f.d.qual = key) (hw : f.d.wh = wh) : isAt fns key wh f := ⟨List.mem_of_getElem? hi, hf, hn, hw⟩
/-- the end of a law: the facts of its text, and its meaning -/
theorem law_end {gl : List Str} {l : PySem.W.OpenLaw} {k j : Nat} {q : Program} {loose : List Str} {XP : (Str → Option Value) → Heap → Prop} {d : DefRec} {lf : Fi} {x : Str}
    (hn : l.most = some 63) (hdf : d.params.defaults = []) (hr : Room (2 * k) callerA) (hgl : ∀ p ∈ px.pats, p.name ∈ gl) (T : TextOk fns px) (hP : ProgOk l.prog px) (hl : lf ∈ fns) (hfi : fns.find? (fun g => decide (g.d.qual = lf.d.qual)) = some lf) (hps : lf.ps = [x]) (hd0 : lf.d.dfl = [] ∧ lf.d.kwd = []) (hname : d.name = lf.d.qual)
    (hwh : lf.d.wh = .glo lf.d.qual) (hlg : lf.d.qual ∈ gl)
    (hb : ∀ (kV doc pm : Value) (an : Option Addr) (cdv ct : Value) (us : List Value), us.length = 1 → bindArgs (PySem.W.fnOf lf.d.name lf.d.qual lf.d.params lf.d.body lf.d.scope .none kV doc pm an cdv ct) ⟨us, []⟩ = pure (([x] : List Str).zip us))
    (h : ∀ ns : List Int, ns.length ≤ 63 → ∃ M', callF fns px k lf.d.qual [.val (.scr ns)] [] = .ok (.bl true) M') :
    PySem.W.WalkO q loose XP (hookZ j (fxB px gl) (fns.map (·.d)) (ersOf px.exs)).says l.row.toRowW d [] (fun f vs => PySem.call f vs) := by
  refine walk_g (x := x) (k := 2 * k) hn (by decide) hdf hr fun w mg fa hh Y G hmg => ?_
  obtain ⟨K, KX, c⟩ := Y
  have Hd := head_of hgl KX G c
  have fx := told_fx c
  simp only [fxB, Bool.and_eq_true, List.all_eq_true] at fx
  obtain ⟨fd, Fd⟩ := Hd.fn lf hl
  have hm := gloB_ok KX G (fx.2.1 _ hlg)
  have ea : lf.d.adr K = He.ga K lf.d.qual := by unfold DfZ.adr; rw [hwh]; rfl
  rw [hname, hm] at hmg
  cases hmg
  rw [ea] at Fd
  refine ⟨K, fd, spZ (clOf px K) K 1 (callF fns px k lf.d.qual), KX, fun s u => ?_, fun H a ns hlen hH hS => law_sp hH hS (h ns hlen), fun base kin hns => ?_⟩
  · obtain ⟨oc, od, dV, kV, doc, pm, an, cdv, ct, osl, rfl, lk, hcd, hD, hK⟩ := Fd.ex
    have e0 : lf.d.dvs K = [] := by unfold DfZ.dvs; rw [hd0.1]; rfl
    rw [e0] at hD
    rcases hD with ⟨_, rfl⟩ | ⟨z, _⟩
    · exact .of_eq (hb kV doc pm an cdv ct [u] rfl)
    · exact absurd rfl z
  · rw [← ea] at Fd
    have F := fnG_all (P := l.prog) (w := w) (base := base) (cl := clOf px K) rfl hP T Hd k lf hl hfi fd Fd
    rw [hps, ea] at F
    exact F
end
end Zy
set_option maxHeartbeats 2000000
namespace Zy
open PySem PySem.Spec PyProof.Rows L2
def zNx : ZS := fun env M => .nx env M
def zBk : ZS := fun env M => .bk env M
def zCt : ZS := fun env M => .ct env M

/-! ### the pure half: loops and comprehensions by what holds between their turns -/
/-- what a turn has to reach -/
def stepO (N : Ev → Sto → Prop) (Q : Out → Prop) : Out → Prop
  | .nx e m => N e m
  | .ct e m => N e m
  | .bk e m => Q (.nx e m)
  | o => Q o
theorem zForL_gen {gz : ZTg} {y : ZS} (I : Nat → Ev → Sto → Prop) (Q : Out → Prop) : ∀ {ds : List D} {n : Nat} {env : Ev} {M : Sto}, I n env M →
    (∀ (i : Nat) d env M, ds[i]? = some d → I (n + i) env M → ∃ env1, gz d env = some env1 ∧ stepO (I (n + i + 1)) Q (y env1 M)) → (∀ env M, I (n + ds.length) env M → Q (.nx env M)) → Q (zForL gz y ds env M)
  | [], n, env, M, h0, _, he => he env M h0
  | d :: ds, n, env, M, h0, st, he => by
    obtain ⟨env1, e1, s1⟩ := st 0 d env M rfl h0
    unfold zForL
    rw [e1]
    have go : ∀ e m, I (n + 0 + 1) e m → Q (zForL gz y ds e m) := fun e m h => by
      refine zForL_gen (n := n + 1) I Q (by simpa using h) (fun i d' env' M' hi h' => ?_) fun env' M' h' => ?_
      · have := st (i + 1) d' env' M' (by simpa using hi) (by rw [show n + (i + 1) = n + 1 + i by omega]; exact h')
        rw [show n + 1 + i + 1 = n + (i + 1) + 1 by omega]
        exact this
      · refine he env' M' ?_
        rw [List.length_cons, show n + (ds.length + 1) = n + 1 + ds.length by omega]
        exact h'
    show Q (loopO (zForL gz y ds) (y env1 M))
    cases q : y env1 M with
    | nx e m => rw [q] at s1; exact go e m s1
    | ct e m => rw [q] at s1; exact go e m s1
    | bk e m => rw [q] at s1; exact s1
    | rt d m => rw [q] at s1; exact s1
    | exc c fs e m => rw [q] at s1; exact s1
    | fail => rw [q] at s1; exact s1
theorem zFor_gen {zi : ZL} {gz : ZTg} {y : ZS} {ds : List D} {env : Ev} {M M1 : Sto} (hi : zi env M = .ok ds M1) (I : Nat → Ev → Sto → Prop) (Q : Out → Prop) (h0 : I 0 env M1)
    (st : ∀ (i : Nat) d env M, ds[i]? = some d → I i env M → ∃ env1, gz d env = some env1 ∧ stepO (I (i + 1)) Q (y env1 M)) (he : ∀ env M, I ds.length env M → Q (.nx env M)) : Q (zFor zi gz y env M) := by
  unfold zFor
  rw [hi]
  exact zForL_gen (n := 0) I Q h0 (fun i d e m hi h => by simpa using st i d e m hi (by simpa using h)) (fun e m h => he e m (by simpa using h))
theorem zWh_gen {c : ZB} {y : ZS} (I : Ev → Sto → Prop) (μ : Ev → Sto → Nat) (Q : Out → Prop) (st : ∀ env M, I env M → ∃ b M1, c env M = .ok b M1 ∧ (if b = true then stepO (fun e m => I e m ∧ μ e m < μ env M) Q (y env M1) else Q (.nx env M1))) :
    ∀ {n : Nat} {env : Ev} {M : Sto}, I env M → μ env M < n → Q (zWh c y n env M)
  | 0, env, M, _, h => absurd h (Nat.not_lt_zero _)
  | n + 1, env, M, h, hn => by
    obtain ⟨b, M1, e1, s1⟩ := st env M h
    unfold zWh
    rw [e1]
    show Q (if b = true then _ else _)
    cases b with
    | false => exact s1
    | true =>
      rw [if_pos rfl] at s1 ⊢
      cases q : y env M1 with
      | nx e m => rw [q] at s1; exact zWh_gen I μ Q st s1.1 (Nat.lt_of_lt_of_le s1.2 (Nat.le_of_lt_succ hn))
      | ct e m => rw [q] at s1; exact zWh_gen I μ Q st s1.1 (Nat.lt_of_lt_of_le s1.2 (Nat.le_of_lt_succ hn))
      | bk e m => rw [q] at s1; exact s1
      | rt d m => rw [q] at s1; exact s1
      | exc c fs e m => rw [q] at s1; exact s1
      | fail => rw [q] at s1; exact s1
theorem zLcL_gen {gz : ZTg} {zt : ZB} {ze : ZX} {envb : Ev} (I : Nat → List D → Sto → Prop) : ∀ {ds : List D} {n : Nat} {acc : List D} {M : Sto}, I n acc M →
    (∀ (i : Nat) d acc M, ds[i]? = some d → I (n + i) acc M → ∃ envc b M1, gz d envb = some envc ∧ zt envc M = .ok b M1 ∧ (if b = true then ∃ y M2, ze envc M1 = .ok y M2 ∧ acc.length < sizeLine ∧ I (n + i + 1) (acc ++ [y]) M2 else I (n + i + 1) acc M1)) →
    ∃ acc' M', zLcL gz zt ze envb ds acc M = .ok (.lst acc') M' ∧ I (n + ds.length) acc' M'
  | [], n, acc, M, h0, _ => ⟨acc, M, rfl, h0⟩
  | d :: ds, n, acc, M, h0, st => by
    obtain ⟨envc, b, M1, e1, e2, s1⟩ := st 0 d acc M rfl h0
    have go : ∀ acc M, I (n + 0 + 1) acc M → ∃ acc' M', zLcL gz zt ze envb ds acc M = .ok (.lst acc') M' ∧ I (n + (d :: ds).length) acc' M' := fun acc M h => by
      rw [List.length_cons, show n + (ds.length + 1) = n + 1 + ds.length by omega]
      refine zLcL_gen (n := n + 1) I (by simpa using h) fun i d' acc' M' hi h' => ?_
      have := st (i + 1) d' acc' M' (by simpa using hi) (by rw [show n + (i + 1) = n + 1 + i by omega]; exact h')
      rw [show n + 1 + i + 1 = n + (i + 1) + 1 by omega]
      exact this
    unfold zLcL
    simp only [e1, e2]
    cases b with
    | false => exact go acc M1 s1
    | true =>
      rw [if_pos rfl] at s1
      obtain ⟨y, M2, e3, hl, s2⟩ := s1
      simp only [e3, if_pos hl]
      exact go _ _ s2
theorem zLc_gen {zi : ZL} {gz : ZTg} {zt : ZB} {ze : ZX} {vs : List Nat} {env : Ev} {ds : List D} {M M1 : Sto} (hi : zi env M = .ok ds M1) (hno : noOwn env vs = true) (I : Nat → List D → Sto → Prop) (h0 : I 0 [] M1)
    (st : ∀ (i : Nat) d acc M, ds[i]? = some d → I i acc M → ∃ envc b M1, gz d (wipeE env vs) = some envc ∧ zt envc M = .ok b M1 ∧ (if b = true then ∃ y M2, ze envc M1 = .ok y M2 ∧ acc.length < sizeLine ∧ I (i + 1) (acc ++ [y]) M2 else I (i + 1) acc M1)) :
    ∃ acc' M', zLc zi gz zt ze vs env M = .ok (.lst acc') M' ∧ I ds.length acc' M' := by
  unfold zLc
  rw [hi]
  show ∃ acc' M', (if noOwn env vs = true then zLcL gz zt ze (wipeE env vs) ds [] M1 else .fail) = .ok (.lst acc') M' ∧ _
  rw [if_pos hno]
  have := zLcL_gen (n := 0) (acc := []) I h0 fun i d acc M hi h => by simpa using st i d acc M hi (by simpa using h)
  simpa using this
/-- [f(d) for d in ds], nothing changed -/
theorem zLc_map {zi : ZL} {gz : ZTg} {ze : ZX} {vs : List Nat} {env : Ev} {ds : List D} {M M1 : Sto} (f : D → D) (hi : zi env M = .ok ds M1) (hno : noOwn env vs = true) (hl : ds.length ≤ sizeLine)
    (st : ∀ d ∈ ds, ∃ envc, gz d (wipeE env vs) = some envc ∧ ze envc M1 = .ok (f d) M1) : zLc zi gz (fun _ M => .ok true M) ze vs env M = .ok (.lst (ds.map f)) M1 := by
  obtain ⟨acc, M', e, h1, h2⟩ := zLc_gen (zt := fun _ M => .ok true M) (ze := ze) (gz := gz) hi hno (fun i acc M => acc = (ds.take i).map f ∧ M = M1) ⟨by simp, rfl⟩ fun i d acc M hd h => by
    obtain ⟨rfl, rfl⟩ := h
    obtain ⟨envc, e1, e2⟩ := st d (List.mem_of_getElem? hd)
    have hi := (List.getElem?_eq_some_iff.mp hd).1
    refine ⟨envc, true, M, e1, rfl, ?_⟩
    rw [if_pos rfl]
    refine ⟨f d, M, e2, by rw [List.length_map, List.length_take]; omega, ?_, rfl⟩
    rw [List.take_add_one, hd]
    simp
  rw [e, h1, h2, List.take_length]

/-! ### the law's own draws -/
def takeY (lf : Lens) : ZS :=
  (zSeq (zFrz [] (zSet 2 (zOp gIx (zCv 0) (zK (.int 1)))))
      (zSeq (zFrz [] (zPut 0 (zOp gAdd (zCv 2) (zK (.int 1))) (zK (.int 1))))
      (zSeq (zFrz [] (zSet 3 (zOp gIx (zCv 0) (zK (.int 0)))))
      (zSeq (zFrz [] (zIfS (zTst (zOp gGe (zCv 2) (zLen lf (zSv 3))))
    (zSeq (zFrz [] (zRet (zK (.int 0))))
      zNx)
    zNx))
      (zSeq (zFrz [] (zRet (zOp gMod (zOp gFdiv (zBf gInt (zCons (zOp gIx (zCv 3) (zCv 2)) zNil)) (zK (.int 7))) (zCv 1))))
      zNx)))))
theorem take_ok {lf : Lens} {h : Nat} {M : Sto} {ns : List Int} {p m : Int} (hM : M[h]? = some (.lst [.lst (ns.map .int), .int p])) (hp : 0 ≤ p) (hm : 0 < m) :
    ∃ r, 0 ≤ r ∧ r < m ∧ zFun 2 4 (takeY lf) [.val (.ref h), .val (.int m)] M = .ok (.int r) (M.set h (.lst [.lst (ns.map .int), .int (p + 1)])) := by
  have hh : h < M.length := (List.getElem?_eq_some_iff.mp hM).1
  have hS : (M.set h (.lst [.lst (ns.map .int), .int (p + 1)]))[h]? = some (.lst [.lst (ns.map .int), .int (p + 1)]) := by rw [List.getElem?_set_self hh]
  by_cases hg : (ns.length : Int) ≤ p
  · refine ⟨0, Int.le_refl _, hm, ?_⟩
    simp [zFun, takeY, zSeq, zFrz, frz, zSet, zPut, zOp, zCv, zK, gIx, gAdd, deref, hM, hS, itemsD, atI, ixN, putL, getPl, setPl, zIfS, zTst, gCmpI, zBf, zCons, zNil, gLen, zLen, zSv, slV, zRet, Res.toS, Res.bind, hg]
  · have hlt : p.toNat < ns.length := by omega
    have hlt2 : p < (ns.length : Int) := by omega
    have lg : (7 : Int).natAbs.log2 < 9000 := by decide
    have lg2 : Nat.log2 7 < 9000 := by decide
    refine ⟨ns[p.toNat] / 7 % m, Int.emod_nonneg _ (by omega), Int.emod_lt_of_pos _ hm, ?_⟩
    simp [zFun, takeY, zSeq, zFrz, frz, zSet, zPut, zOp, zCv, zK, gIx, gAdd, deref, hM, hS, itemsD, atI, ixN, putL, getPl, setPl, zIfS, zTst, gCmpI, zBf, zCons, zNil, gLen, zLen, zSv, slV, zRet, Res.toS, Res.bind, hg, hp, gInt, gFdiv, gMod, zNx, hm, hlt, hlt2, lg, lg2]
end Zy
set_option maxHeartbeats 2000000
namespace Zy
open PySem PySem.Spec PyProof.Rows L2
section
variable {env : Ev} {M : Sto} {y y' : ZS} {z za zb zc : ZX} {l : ZL} {i j : Nat} {g : G2} {d e : D}
@[simp] theorem zNx_z : zNx env M = .nx env M := id rfl
@[simp] theorem zBk_z : zBk env M = .bk env M := id rfl
@[simp] theorem zCt_z : zCt env M = .ct env M := id rfl
@[simp] theorem zSeq_z : zSeq y y' env M = match y env M with
  | .nx env M => y' env M
  | o => o := id rfl
@[simp] theorem zFrz_z : zFrz [] y = y := id rfl
@[simp] theorem zSet_z : zSet i z env M = (z env M).toS env fun d M1 => .nx (env.set i (.val d)) M1 := id rfl
@[simp] theorem zSetO_z : zSetO i z env M = (z env M).toS env fun d M1 => .nx (env.set i (.own d)) M1 := id rfl
@[simp] theorem zSetC_z : zSetC i z env M = (z env M).toS env fun d M1 => .nx (env.set i (.val (.ref M1.length))) (M1 ++ [d]) := id rfl
@[simp] theorem zRetC_z : zRetC z env M = (z env M).toS env fun d M1 => .rt (.ref M1.length) (M1 ++ [d]) := id rfl
@[simp] theorem zDspL_nil : zDspL [] = zNil := rfl
@[simp] theorem zDspL_cons {zs : List ZX} : zDspL (z :: zs) = zCons z (zDspL zs) := rfl
@[simp] theorem zRet_z : zRet z env M = (z env M).toS env fun d M1 => .rt d M1 := id rfl
@[simp] theorem zDrop_z : zDrop z env M = (z env M).toS env fun _ M1 => .nx env M1 := id rfl
@[simp] theorem zIfS_z {t : ZB} : zIfS t y y' env M = (t env M).toS env fun b M1 => if b = true then y env M1 else y' env M1 := id rfl
@[simp] theorem zVar_z : zVar i env M = match env[i]? with
  | some (.val d) => .ok d M
  | _ => .fail := id rfl
@[simp] theorem zBv_z : zBv i env M = match env[i]? with
  | some (.val d) => .ok d M
  | some (.bor d) => .ok d M
  | _ => .fail := id rfl
@[simp] theorem zCv_z : zCv i env M = match env[i]? with
  | some (.val d) => .ok d M
  | some (.own d) => .ok d M
  | some (.bor d) => .ok d M
  | _ => .fail := id rfl
@[simp] theorem zK_z : zK d env M = .ok d M := id rfl
@[simp] theorem zOp_z : zOp g za zb env M = (za env M).bind fun d M1 => (zb env M1).bind fun e M2 => g d e M2 := id rfl
@[simp] theorem zTst_z : zTst z env M = (z env M).bind fun d M1 => match d with
  | .bl b => .ok b M1
  | _ => .fail := id rfl
@[simp] theorem zAnd_z {t u : ZB} : zAnd t u env M = (t env M).bind fun b M1 => if b = true then u env M1 else .ok false M1 := id rfl
@[simp] theorem zOr_z {t u : ZB} : zOr t u env M = (t env M).bind fun b M1 => if b = true then .ok true M1 else u env M1 := id rfl
@[simp] theorem zNot_z {t : ZB} : zNot t env M = (t env M).bind fun b M1 => .ok (!b) M1 := id rfl
@[simp] theorem zTru_z : zTru z env M = (z env M).bind fun d M1 => match (deref M1 d).bind truD with
  | some b => .ok b M1
  | none => .fail := id rfl
@[simp] theorem zAndV_z : zAndV z za env M = (z env M).bind fun d M1 => match d with
  | .bl true => za env M1
  | .bl false => .ok (.bl false) M1
  | _ => .fail := id rfl
@[simp] theorem zNotV_z : zNotV z env M = (z env M).bind fun d M1 => match d with
  | .bl b => .ok (.bl (!b)) M1
  | _ => .fail := id rfl
@[simp] theorem zNil_z : zNil env M = .ok [] M := id rfl
@[simp] theorem zCons_z : zCons z l env M = (z env M).bind fun d M1 => (l env M1).bind fun ds M2 => .ok (d :: ds) M2 := id rfl
@[simp] theorem zTup_z : zTup l env M = (l env M).bind fun ds M1 => if ds.length ≤ sizeLine then .ok (.tup ds) M1 else .fail := id rfl
@[simp] theorem zLst_z : zLst l env M = (l env M).bind fun ds M1 => if ds.length ≤ sizeLine then .ok (.lst ds) M1 else .fail := id rfl
@[simp] theorem zBf_z {g : GB} : zBf g l env M = (l env M).bind fun ds M1 => g ds M1 := id rfl
@[simp] theorem zNeg_z : zNeg z env M = (z env M).bind fun d M1 => match d with
  | .int i => .ok (.int (-i)) M1
  | _ => .fail := id rfl
@[simp] theorem sNil_z : sNil env M = .ok [] M := id rfl
@[simp] theorem sCons_z {s : ZS1} {l : ZSl} : sCons s l env M = (s env M).bind fun d M1 => (l env M1).bind fun ds M2 => .ok (d :: ds) M2 := id rfl
@[simp] theorem zSv_z : zSv i env M = match env[i]? with
  | some (.val d) => .ok (.val d) M
  | some (.own d) => .ok (.bor d) M
  | some (.bor d) => .ok (.bor d) M
  | _ => .fail := id rfl
@[simp] theorem zVl_z : zVl z env M = (z env M).bind fun d M1 => .ok (.val d) M1 := id rfl
@[simp] theorem zTupOf_z : zTupOf z env M = (z env M).bind fun d M1 => match (deref M1 d).bind itemsD with
  | some ds => .ok (.tup ds) M1
  | none => .fail := id rfl
@[simp] theorem zLstOf_z : zLstOf z env M = (z env M).bind fun d M1 => match (deref M1 d).bind itemsD with
  | some ds => .ok (.lst ds) M1
  | none => .fail := id rfl
@[simp] theorem zSeqI_z : zSeqI z env M = (z env M).bind fun d M1 => match itemsD d with
  | some ds => .ok ds M1
  | none => .fail := id rfl
/-- what len answers -/
def lenR (lf : Lens) (s : Sl) (M1 : Sto) : Res D := match deref M1 (slV s) with
  | some (.ins c _) => (match lf c with
    | some g => (g [s] M1).bind fun r M2 => match r with
      | .int n => if 0 ≤ n ∧ n < 2 ^ 63 then .ok (.int n) M2 else .fail
      | _ => .fail
    | none => .fail)
  | _ => gLen [slV s] M1
@[simp] theorem zLen_z {lf : Lens} {s : ZS1} : zLen lf s env M = (s env M).bind (lenR lf) := id rfl
@[simp] theorem lenR_lst {lf : Lens} {ds : List D} : lenR lf (.val (.lst ds)) M = .ok (.int ds.length) M := id rfl
@[simp] theorem lenR_blst {lf : Lens} {ds : List D} : lenR lf (.bor (.lst ds)) M = .ok (.int ds.length) M := id rfl
@[simp] theorem lenR_tup {lf : Lens} {ds : List D} : lenR lf (.val (.tup ds)) M = .ok (.int ds.length) M := id rfl
@[simp] theorem lenR_scr {lf : Lens} {ns : List Int} : lenR lf (.val (.scr ns)) M = .ok (.int ns.length) M := by simp [lenR, slV, deref, gLen, itemsD]
theorem lenR_ins {lf : Lens} {c : String} {fs : List (Str × D)} {g : Sem1} {n : Int} {M2 : Sto} (h : lf c = some g) (hg : g [.val (.ins c fs)] M = .ok (.int n) M2) (h0 : 0 ≤ n) (h1 : n ≤ 1000000) : lenR lf (.val (.ins c fs)) M = .ok (.int n) M2 := by
  have h2 : (1000000 : Int) < 2 ^ 63 := by decide
  unfold lenR
  simp only [slV, deref, h, hg, Res.bind_ok]
  rw [if_pos ⟨h0, Int.lt_of_le_of_lt h1 h2⟩]
/-- an attribute's value -/
def atR (ok : Ats) (f : Str) (d : D) (M1 : Sto) : Res D := match deref M1 d with
  | some (.ins c fs) => if ok c f = true then (match fs.lookup f with
    | some v => .ok v M1
    | none => .fail) else .fail
  | _ => .fail
@[simp] theorem zAt_z {ok : Ats} {f : Str} : zAt ok f z env M = (z env M).bind (atR ok f) := id rfl
theorem atR_ok {ok : Ats} {f : Str} {c : String} {fs : List (Str × D)} {v : D} (h : ok c f = true) (hv : fs.lookup f = some v) : atR ok f (.ins c fs) M = .ok v M := by
  unfold atR
  simp only [deref, h, if_true, hv]
@[simp] theorem zPutA_z {ok : Ats} {f : Str} : zPutA ok i f z env M = (z env M).toS env fun v M1 => putA ok env M1 i f v := id rfl
def propR (pf : Lens) (s : Sl) (M1 : Sto) : Res D := match deref M1 (slV s) with
  | some (.ins c _) => (match pf c with
    | some g => noX (g [s] M1)
    | none => .fail)
  | _ => .fail
@[simp] theorem zProp_z {pf : Lens} {s : ZS1} : zProp pf s env M = (s env M).bind (propR pf) := id rfl
theorem propR_ok {pf : Lens} {c : String} {fs : List (Str × D)} {g : Sem1} {d : D} {M2 : Sto} (h : pf c = some g) (hg : g [.val (.ins c fs)] M = .ok d M2) : propR pf (.val (.ins c fs)) M = .ok d M2 := by
  unfold propR
  simp only [slV, deref, h, hg, noX]
def zipR (d e : D) (M2 : Sto) : Res (List D) := match itemsD d, itemsD e with
  | some ds, some es => .ok (zipD ds es) M2
  | _, _ => .fail
@[simp] theorem zZip_z : zZip za zb env M = (za env M).bind fun d M1 => (zb env M1).bind fun e M2 => zipR d e M2 := id rfl
theorem zipR_ok {ds es : List D} (h1 : itemsD d = some ds) (h2 : itemsD e = some es) : zipR d e M = .ok (zipD ds es) M := by
  unfold zipR
  rw [h1, h2]
def revR (p : Int × Int) (M1 : Sto) : Res (List D) := if -(2 ^ 62) ≤ p.1 ∧ p.1 < 2 ^ 62 ∧ -(2 ^ 62) ≤ p.2 ∧ p.2 < 2 ^ 62 then .ok (stpD (p.1 + (((p.2 - p.1).toNat : Nat) : Int) - 1) (-1) (p.2 - p.1).toNat) M1 else .fail
@[simp] theorem zRevR_z {r : ZR} : zRevR r env M = (r env M).bind revR := id rfl
theorem revR_ok {n : Nat} (h : n ≤ 1000000) : revR (0, (n : Int)) M = .ok (stpD ((n : Int) - 1) (-1) n) M := by
  unfold revR
  have h4 : (1000000 : Int) < 2 ^ 62 := by decide
  have h5 : (-(2 ^ 62) : Int) ≤ 0 := by decide
  have h6 : (0 : Int) < 2 ^ 62 := by decide
  rw [if_pos ⟨h5, h6, by omega, by omega⟩]
  simp
@[simp] theorem zRev_z : zRev z env M = (z env M).bind fun d M1 => match itemsD d with
  | some ds => .ok ds.reverse M1
  | none => .fail := id rfl
@[simp] theorem zDNew_z {t : Bool} : zDNew t env M = .ok (if t = true then .dT [] else .dK []) M := id rfl
@[simp] theorem zRep_z : zRep za zb env M = (za env M).bind fun d M1 => (zb env M1).bind fun e M2 => match deref M2 d, deref M2 e with
  | some (.lst ds), some (.int k) => if -(2 ^ 63) ≤ k ∧ k < 2 ^ 63 ∧ ds.length * k.toNat ≤ sizeLine then .ok (.lst (List.replicate k.toNat ds).flatten) M2 else .fail
  | _, _ => .fail := id rfl
@[simp] theorem zCat_z : zCat za zb env M = (za env M).bind fun d M1 => (zb env M1).bind fun e M2 => match deref M2 d, deref M2 e with
  | some (.lst ds), some (.lst es) => if ds.length + es.length ≤ sizeLine then .ok (.lst (ds ++ es)) M2 else .fail
  | _, _ => .fail := id rfl
@[simp] theorem zAugP_z {g : Int → Int → Int} : zAugP i g z za env M = match getPl env M i with
  | some _ => (z env M).toS env fun k M1 => match (getPl env M1 i).bind fun c => augGet c k with
    | some (.int n) => (za env M1).toS env fun d M2 => match d with
      | .int m => putL env M2 i k (.int (g n m))
      | _ => .fail
    | _ => .fail
  | none => .fail := id rfl
@[simp] theorem zSortU_z : zSortU z env M = (z env M).bind fun d M1 => match (deref M1 d).bind sortD with
  | some ns => .ok (.lst (ns.map .int)) M1
  | none => match (deref M1 d).bind sortPD with
    | some es => .ok (.lst es) M1
    | none => .fail := id rfl
@[simp] theorem zEnumA_z : zEnumA z env M = (z env M).bind fun d M1 => match itemsD d with
  | some ds => .ok (enumD ds) M1
  | none => .fail := id rfl
@[simp] theorem zRg1_z : zRg1 z env M = (z env M).bind fun d M1 => match d with
  | .int i => .ok ((0 : Int), i) M1
  | _ => .fail := id rfl
@[simp] theorem zLstRg_z {r : ZR} : zLstRg r env M = (r env M).bind fun p M1 => if -(2 ^ 62) ≤ p.1 ∧ p.1 < 2 ^ 62 ∧ -(2 ^ 62) ≤ p.2 ∧ p.2 < 2 ^ 62 ∧ (p.2 - p.1).toNat ≤ 2 ^ 24 then .ok (.lst (rngD p.1 p.2)) M1 else .fail := id rfl
def makeR (c : String) (f : Sem1) (n m : Nat) (is : List Nat) (dd : List D) (as bs : List Sl) (M2 : Sto) : Res D := if as.length = n ∧ bs.length = m then match perm ((.val (.ref M2.length) :: as) ++ bs ++ dd.map .val) is with
    | some ys => mkO M2.length (f ys (M2 ++ [.ins c []]))
    | none => .fail else .fail
@[simp] theorem zMake_z {c : String} {f : Sem1} {n m : Nat} {is : List Nat} {dd : List D} {zs zk : ZSl} : zMake c f n m is dd zs zk env M = (zs env M).bind fun as M1 => (zk env M1).bind fun bs M2 => makeR c f n m is dd as bs M2 := id rfl
@[simp] theorem zIf_z {t : ZB} : zIf t za zb env M = (t env M).bind fun b M1 => if b = true then za env M1 else zb env M1 := id rfl
@[simp] theorem zOrV_z : zOrV z za env M = (z env M).bind fun d M1 => match d with
  | .bl false => za env M1
  | .bl true => .ok (.bl true) M1
  | _ => .fail := id rfl
@[simp] theorem zAsg_z {gz : ZTg} : zAsg gz z env M = (z env M).toS env fun d M1 => match gz d env with
  | some env' => .nx env' M1
  | none => .fail := id rfl
@[simp] theorem zPar_z : zPar i j l env M = (l env M).toS env fun ds M1 => match ds with
  | [d, e] => .nx ((env.set i (.val d)).set j (.val e)) M1
  | _ => .fail := id rfl
def rngR (ds : List D) (M : Sto) : Res (List D) := match ds with
  | [.int j] => if sm62 j then .ok (stpD 0 1 j.toNat) M else .fail
  | _ => .fail
@[simp] theorem zRng1_z : zRng1 l env M = (l env M).bind rngR := id rfl
@[simp] theorem rngR_nat (n : Nat) (h : n ≤ 1000000000) : rngR [.int (n : Int)] M = .ok (stpD 0 1 n) M := by
  have : sm62 (n : Int) = true := by
    simp only [sm62, Bool.and_eq_true, decide_eq_true_eq]
    have : (1000000000 : Int) < 2 ^ 62 := by decide
    have : (-(2 ^ 62) : Int) ≤ 0 := by decide
    omega
  unfold rngR
  simp only [this, if_true, Int.toNat_natCast]
theorem rngR_lit {j : Int} (h : sm62 j = true) : rngR [.int j] M = .ok (stpD 0 1 j.toNat) M := by
  unfold rngR
  simp only [h, if_true]
def tupR (p : Int × Int) (M : Sto) : Res D := if -(2 ^ 62) ≤ p.1 ∧ p.1 < 2 ^ 62 ∧ -(2 ^ 62) ≤ p.2 ∧ p.2 < 2 ^ 62 ∧ (p.2 - p.1).toNat ≤ 2 ^ 24 then .ok (.tup (rngD p.1 p.2)) M else .fail
@[simp] theorem zTupRg_z {r : ZR} : zTupRg r env M = (r env M).bind tupR := id rfl
theorem tupR_ok {a b : Int} (h0 : 0 ≤ a) (h1 : a ≤ 1000000) (h2 : 0 ≤ b) (h3 : b ≤ 1000000) : tupR (a, b) M = .ok (.tup (rngD a b)) M := by
  unfold tupR
  rw [if_pos]
  have h4 : (1000000 : Int) < 2 ^ 62 := by decide
  have h5 : (-(2 ^ 62) : Int) ≤ 0 := by decide
  refine ⟨Int.le_trans h5 h0, Int.lt_of_le_of_lt h1 h4, Int.le_trans h5 h2, Int.lt_of_le_of_lt h3 h4, ?_⟩
  have h6 : 1000000 ≤ 2 ^ 24 := by decide
  show (b - a).toNat ≤ _
  omega
@[simp] theorem zRg2_z : zRg2 za zb env M = (za env M).bind fun d M1 => (zb env M1).bind fun e M2 => match d, e with
  | .int i, .int j => .ok (i, j) M2
  | _, _ => .fail := id rfl
@[simp] theorem zIsi_z {Ts : List String} : zIsi Ts z env M = (z env M).bind fun d M1 => match (deref M1 d).bind (isiD Ts) with
  | some b => .ok (.bl b) M1
  | none => .fail := id rfl
@[simp] theorem zIsC_z {n : String} : zIsC n z env M = (z env M).bind fun d M1 => match deref M1 d with
  | some (.ins c fs) => if c = n then .ok (.bl true) M1 else .fail
  | _ => .fail := id rfl
def zip3R (d e f : D) (M3 : Sto) : Res (List D) := match itemsD d, itemsD e, itemsD f with
  | some ds, some es, some fs => .ok (zipD3 ds es fs) M3
  | _, _, _ => .fail
@[simp] theorem zZip3_z {za zb zc : ZX} : zZip3 za zb zc env M = (za env M).bind fun d M1 => (zb env M1).bind fun e M2 => (zc env M2).bind fun f M3 => zip3R d e f M3 := id rfl
@[simp] theorem zEqO_z {ef : Lens} {za zb : ZS1} : zEqO ef za zb env M = (za env M).bind fun s M1 => (zb env M1).bind fun t M2 => eqOR ef s t M2 := id rfl
@[simp] theorem zPart_z : zPart z env M = (z env M).bind fun d M1 => match d with
  | .int i => .ok (some i) M1
  | _ => .fail := id rfl
@[simp] theorem zNoP_z : zNoP env M = .ok none M := id rfl
@[simp] theorem zSw2_z {zi zj : ZX} {j : Nat} : zSw2 i j z zi zj env M = (z env M).toS env fun v M1 => match v with
  | .tup [d, e] => (match getPl env M1 i with
    | some _ => (zi env M1).toS env fun k M2 => match putL env M2 i k d with
      | .nx env2 M3 => (match getPl env2 M3 j with
        | some _ => (zj env2 M3).toS env2 fun k2 M4 => putL env2 M4 j k2 e
        | none => .fail)
      | _ => .fail
    | none => .fail)
  | _ => .fail := id rfl
@[simp] theorem zPut_z : zPut i z za env M = (z env M).toS env fun v M1 => match getPl env M1 i with
  | some _ => (za env M1).toS env fun k M2 => putL env M2 i k v
  | none => .fail := id rfl
@[simp] theorem zApp_z : zApp i z env M = match getPl env M i with
  | some (.lst _) => (z env M).toS env fun v M1 => match getPl env M1 i with
    | some (.lst ds) => if ds.length < sizeLine then .nx (setPl env M1 i (.lst (ds ++ [v]))).1 (setPl env M1 i (.lst (ds ++ [v]))).2 else .fail
    | _ => .fail
  | _ => .fail := id rfl
@[simp] theorem zAugN_z {g : Int → Int → Int} : zAugN i g z env M = match env[i]? with
  | some (.val (.int n)) => (z env M).toS env fun v M1 => match v with
    | .int m => .nx (env.set i (.val (.int (g n m)))) M1
    | _ => .fail
  | _ => .fail := id rfl
@[simp] theorem gAdd_int {a b : Int} : gAdd (.int a) (.int b) M = .ok (.int (a + b)) M := id rfl
@[simp] theorem gSub_int {a b : Int} : gSub (.int a) (.int b) M = .ok (.int (a - b)) M := id rfl
@[simp] theorem gMul_int {a b : Int} : gMul (.int a) (.int b) M = if smallI a ∨ smallI b then .ok (.int (a * b)) M else .fail := id rfl
@[simp] theorem gFdiv_int {a b : Int} : gFdiv (.int a) (.int b) M = if 0 < b ∧ b.natAbs.log2 < 9000 then .ok (.int (a / b)) M else .fail := id rfl
@[simp] theorem gMod_int {a b : Int} : gMod (.int a) (.int b) M = if 0 < b then .ok (.int (a % b)) M else .fail := id rfl
@[simp] theorem gPow_int {a b : Int} : gPow (.int a) (.int b) M = if 0 ≤ b ∧ b ≤ 1000000 ∧ a.natAbs < 2 ^ 64 then .ok (.int (a ^ b.toNat)) M else .fail := id rfl
@[simp] theorem gCmpI_int {p : Int → Int → Bool} {a b : Int} : gCmpI p (.int a) (.int b) M = .ok (.bl (p a b)) M := id rfl
@[simp] theorem gInt_int {a : Int} : gInt [.int a] M = .ok (.int a) M := id rfl
@[simp] theorem gAbs_int {a : Int} : gAbs [.int a] M = .ok (.int (if a < 0 then -a else a)) M := id rfl
@[simp] theorem gLen_lst {ds : List D} : gLen [.lst ds] M = .ok (.int ds.length) M := id rfl
@[simp] theorem gLen_tup {ds : List D} : gLen [.tup ds] M = .ok (.int ds.length) M := id rfl
@[simp] theorem gLen_scr {ns : List Int} : gLen [.scr ns] M = .ok (.int ns.length) M := by simp [gLen, deref, itemsD]
theorem gIx_of {c : D} {ds : List D} (h : itemsD c = some ds) {n : Nat} {x : D} (hx : ds[n]? = some x) (hn : deref M c = some c) : gIx c (.int n) M = .ok x M := by
  have hl := (List.getElem?_eq_some_iff.mp hx).1
  have : (n : Int) < ds.length := by omega
  simp [gIx, hn, h, atI, ixN, this, hx]
theorem gIx_lst {ds : List D} {n : Int} {x : D} (h0 : 0 ≤ n) (hx : ds[n.toNat]? = some x) : gIx (.lst ds) (.int n) M = .ok x M := by
  have := gIx_of (M := M) (c := .lst ds) rfl hx rfl
  rwa [Int.toNat_of_nonneg h0] at this
theorem gIx_tup {ds : List D} {n : Int} {x : D} (h0 : 0 ≤ n) (hx : ds[n.toNat]? = some x) : gIx (.tup ds) (.int n) M = .ok x M := by
  have := gIx_of (M := M) (c := .tup ds) rfl hx rfl
  rwa [Int.toNat_of_nonneg h0] at this
theorem gIx_scr {ns : List Int} {n : Int} {x : Int} (h0 : 0 ≤ n) (hx : ns[n.toNat]? = some x) : gIx (.scr ns) (.int n) M = .ok (.int x) M := by
  have := gIx_of (M := M) (c := .scr ns) rfl (x := .int x) (n := n.toNat) (by simp [hx]) rfl
  rwa [Int.toNat_of_nonneg h0] at this
theorem stpD_get {a c : Int} {n i : Nat} {d : D} (h : (stpD a c n)[i]? = some d) : d = .int (a + i * c) ∧ i < n := by
  simp only [stpD, List.getElem?_map] at h
  cases q : (List.range n)[i]? with
  | none => simp [q] at h
  | some k =>
    have := List.getElem?_eq_some_iff.mp q
    obtain ⟨h1, h2⟩ := this
    simp at h1 h2
    subst h2
    simp [q] at h
    exact ⟨h.symm, h1⟩
@[simp] theorem stpD_len {a c : Int} {n : Nat} : (stpD a c n).length = n := by simp [stpD]
end
def pyAbs (i : Int) : Int := if i < 0 then -i else i
def drawsTail : ZS :=
      (zSeq (zFrz [] (zSet 6 (zOp gMod (zBf gInt (zCons (zOp gAdd (zOp gAdd (zOp gMul (zCv 5) (zK (.int 48271))) (zOp gMul (zCv 4) (zK (.int 69621)))) (zK (.int 11))) zNil)) (zK (.int 2147483647)))))
      (zSeq (zFrz [] (zSet 6 (zOp gMod (zBf gInt (zCons (zOp gAdd (zOp gFdiv (zOp gMul (zCv 6) (zCv 6)) (zK (.int 4096))) (zCv 6)) zNil)) (zK (.int 2147483629)))))
      (zSeq (zFrz [] (zApp 3 (zOp gMod (zBf gInt (zCons (zOp gAdd (zOp gFdiv (zOp gMul (zCv 6) (zCv 6)) (zK (.int 4096))) (zOp gMul (zCv 4) (zK (.int 7919)))) zNil)) (zK (.int 2147483629)))))
      zNx)))
def drawsBody (lf : Lens) : ZS :=
    (zSeq (zFrz [] (zSet 5 (zVar 4)))
      (zSeq (zFrz [] (zIfS (zTst (zOp gGt (zLen lf (zSv 0)) (zK (.int 0))))
    (zSeq (zFrz [] (zSet 7 (zOp gMod (zCv 4) (zLen lf (zSv 0)))))
      (zSeq (zFrz [] (zSet 5 (zBf gInt (zCons (zOp gIx (zCv 0) (zCv 7)) zNil))))
      (zSeq (zFrz [] (zIfS (zAnd (zTst (zOp gGe (zCv 5) (zOp gPow (zK (.int 10)) (zK (.int 18))))) (zTst (zOp gGt (zOp gIx (zCv 2) (zCv 7)) (zK (.int 0)))))
    (zSeq (zFrz [] (zApp 3 (zOp gMod (zBf gInt (zCons (zOp gIx (zCv 2) (zCv 7)) zNil)) (zK (.int 1000003)))))
      (zSeq (zFrz [] (zPut 2 (zOp gFdiv (zBf gInt (zCons (zOp gIx (zCv 2) (zCv 7)) zNil)) (zK (.int 1000003))) (zVar 7)))
      (zSeq (zFrz [] zCt)
      zNx)))
    zNx))
      zNx)))
    zNx))
      drawsTail))
def drawsY (lf : Lens) : ZS :=
  (zSeq (zFrz [] (zSetO 2 (zLc (zSeqI (zBv 0)) (tgN 5) (fun _ M => .ok true M) (zBf gAbs (zCons (zBf gInt (zCons (zCv 5) zNil)) zNil)) [5])))
      (zSeq (zFrz [] (zSetO 3 (zLst zNil)))
      (zSeq (zFrz [] (zFor (zRng1 (zCons (zVar 1) zNil)) (tgN 4) (drawsBody lf)))
      (zSeq (zFrz [3] (zRet (zVar 3)))
      zNx))))
theorem small_mod {a b : Int} (h : 0 < b) (hb : b < 2 ^ 64) : smallI (a % b) := ⟨by have := Int.emod_nonneg a (b := b) (by omega); omega, by have := Int.emod_lt_of_pos a h; omega⟩
theorem sm1 : smallI 48271 := by decide
theorem sm2 : smallI 69621 := by decide
theorem sm3 : smallI 7919 := by decide
theorem lg4096 : (4096 : Int).natAbs.log2 < 9000 := by decide
theorem lg4096' : Nat.log2 4096 < 9000 := by decide
theorem lgM : Nat.log2 1000003 < 9000 := by decide
theorem drawsTail_ok {s n e2 e6 e7 : Sl} {M : Sto} {ds : List D} {k c : Int} (hl : ds.length < sizeLine) : ∃ x y, drawsTail [s, n, e2, .own (.lst ds), .val (.int k), .val (.int c), e6, e7] M = .nx [s, n, e2, .own (.lst (ds ++ [.int x])), .val (.int k), .val (.int c), y, e7] M := by
  have s6 : ∀ z : Int, smallI (z % 2147483647) := fun z => small_mod (by decide) (by decide)
  have s7 : ∀ z : Int, smallI (z % 2147483629) := fun z => small_mod (by decide) (by decide)
  simp [drawsTail, sm1, sm2, sm3, s6, s7, lg4096', getPl, setPl, hl]
theorem drawsBody_ok {lf : Lens} {n e4 e5 e6 e7 : Sl} {M : Sto} {ns rs : List Int} {ds : List D} {k : Nat} (hr : rs.length = ns.length) (hl : ds.length < sizeLine) :
    ∃ x e5' e6' e7', ∃ rs' : List Int, rs'.length = ns.length ∧ (drawsBody lf [.val (.scr ns), n, .own (.lst (rs.map .int)), .own (.lst ds), .val (.int (k : Nat)), e5, e6, e7] M = .nx [.val (.scr ns), n, .own (.lst (rs'.map .int)), .own (.lst (ds ++ [.int x])), .val (.int (k : Nat)), e5', e6', e7'] M ∨ drawsBody lf [.val (.scr ns), n, .own (.lst (rs.map .int)), .own (.lst ds), .val (.int (k : Nat)), e5, e6, e7] M = .ct [.val (.scr ns), n, .own (.lst (rs'.map .int)), .own (.lst (ds ++ [.int x])), .val (.int (k : Nat)), e5', e6', e7'] M) := by
  by_cases h0 : ns = []
  · subst h0
    obtain ⟨x, y, e⟩ := drawsTail_ok (s := .val (.scr [])) (n := n) (e2 := .own (.lst (rs.map .int))) (e6 := e6) (e7 := e7) (M := M) (ds := ds) (k := k) (c := k) hl
    refine ⟨x, .val (.int k), y, e7, rs, hr, .inl ?_⟩
    simp [drawsBody, e]
  · have hp : 0 < ns.length := List.length_pos_iff.mpr h0
    have hm : k % ns.length < ns.length := Nat.mod_lt _ hp
    have hm' : k % ns.length < rs.length := by omega
    have gs : gIx (.scr ns) (.int ((k : Int) % (ns.length : Int))) M = .ok (.int ns[k % ns.length]) M := gIx_scr (by omega) (by rw [← Int.natCast_emod, Int.toNat_natCast]; exact List.getElem?_eq_getElem hm)
    have gr : ∀ M, gIx (.lst (rs.map .int)) (.int ((k : Int) % (ns.length : Int))) M = .ok (.int rs[k % ns.length]) M := fun M => gIx_lst (by omega) (by rw [← Int.natCast_emod, Int.toNat_natCast, List.getElem?_map, List.getElem?_eq_getElem hm']; rfl)
    by_cases hc : (10 : Int) ^ 18 ≤ ns[k % ns.length] ∧ 0 < rs[k % ns.length]
    · refine ⟨rs[k % ns.length] % 1000003, .val (.int ns[k % ns.length]), e6, .val (.int ((k : Int) % ns.length)), rs.set (k % ns.length) (rs[k % ns.length] / 1000003), by simpa using hr, .inr ?_⟩
      have h1 : (1000000000000000000 : Int) ≤ ns[k % ns.length] := hc.1
      have h3 : ((k : Int) % (ns.length : Int)) < (rs.length : Int) := by rw [← Int.natCast_emod]; omega
      have h4 : 0 ≤ ((k : Int) % (ns.length : Int)) := by omega
      have h6 : ((k : Int) % (ns.length : Int)).toNat = k % ns.length := by rw [← Int.natCast_emod, Int.toNat_natCast]
      simp [drawsBody, hp, gs, gr, h1, hc.2, lgM, getPl, setPl, hl, putL, ixN, h3, h4, h6]
    · obtain ⟨x, y, e⟩ := drawsTail_ok (s := .val (.scr ns)) (n := n) (e2 := .own (.lst (rs.map .int))) (e6 := e6) (e7 := .val (.int ((k : Int) % ns.length))) (M := M) (ds := ds) (k := k) (c := ns[k % ns.length]) hl
      refine ⟨x, .val (.int ns[k % ns.length]), y, .val (.int ((k : Int) % ns.length)), rs, hr, .inl ?_⟩
      rw [← e]
      by_cases h1 : (1000000000000000000 : Int) ≤ ns[k % ns.length]
      · have h2 : ¬ 0 < rs[k % ns.length] := fun h => hc ⟨h1, h⟩
        simp [drawsBody, hp, gs, gr, h1, h2]
      · simp [drawsBody, hp, gs, gr, h1]
theorem draws_rests {M : Sto} {ns : List Int} {m : Nat} (hns : ns.length ≤ 1000) : zLc (zSeqI (zBv 0)) (tgN 5) (fun _ M => .ok true M) (zBf gAbs (zCons (zBf gInt (zCons (zCv 5) zNil)) zNil)) [5] [.val (.scr ns), .val (.int m), .no, .no, .no, .no, .no, .no] M = .ok (.lst ((ns.map pyAbs).map .int)) M := by
  have c1 : zLc (zSeqI (zBv 0)) (tgN 5) (fun _ M => .ok true M) (zBf gAbs (zCons (zBf gInt (zCons (zCv 5) zNil)) zNil)) [5] [.val (.scr ns), .val (.int m), .no, .no, .no, .no, .no, .no] M = .ok (.lst ((ns.map D.int).map fun d => match d with
      | D.int i => D.int (pyAbs i)
      | d => d)) M := by
    refine zLc_map _ (ds := ns.map .int) rfl rfl (by rw [List.length_map]; exact Nat.le_trans hns (by decide)) fun d hd => ?_
    obtain ⟨n, _, rfl⟩ := List.mem_map.mp hd
    exact ⟨_, rfl, by simp [wipeE, pyAbs]⟩
  rw [List.map_map] at c1
  have c2 : (fun d => match d with
      | D.int i => D.int (pyAbs i)
      | d => d) ∘ D.int = D.int ∘ pyAbs := rfl
  rw [c2, ← List.map_map] at c1
  exact c1
end Zy
set_option maxHeartbeats 2000000
namespace Zy
open PySem PySem.Spec PyProof.Rows L2
def BodyOk (y : ZS) : Prop := ∀ {n e5 e6 e7 : Sl} {M : Sto} {ns rs : List Int} {ds : List D} {k : Nat}, rs.length = ns.length → ds.length < sizeLine →
    ∃ x e5' e6' e7', ∃ rs' : List Int, rs'.length = ns.length ∧ (y [.val (.scr ns), n, .own (.lst (rs.map .int)), .own (.lst ds), .val (.int (k : Nat)), e5, e6, e7] M = .nx [.val (.scr ns), n, .own (.lst (rs'.map .int)), .own (.lst (ds ++ [.int x])), .val (.int (k : Nat)), e5', e6', e7'] M ∨ y [.val (.scr ns), n, .own (.lst (rs.map .int)), .own (.lst ds), .val (.int (k : Nat)), e5, e6, e7] M = .ct [.val (.scr ns), n, .own (.lst (rs'.map .int)), .own (.lst (ds ++ [.int x])), .val (.int (k : Nat)), e5', e6', e7'] M)
theorem bodyOk {lf : Lens} : BodyOk (drawsBody lf) := fun h1 h2 => drawsBody_ok (e4 := .no) h1 h2
theorem draws_loop {y : ZS} (hy : BodyOk y) {M : Sto} {ns rs0 : List Int} {m : Nat} (hr0 : rs0.length = ns.length) (hm : m ≤ 1000) :
    ∃ e2 e4 e5 e6 e7, ∃ ds : List Int, zFor (zRng1 (zCons (zVar 1) zNil)) (tgN 4) y [.val (.scr ns), .val (.int m), .own (.lst (rs0.map .int)), .own (.lst []), .no, .no, .no, .no] M = .nx [.val (.scr ns), .val (.int m), e2, .own (.lst (ds.map .int)), e4, e5, e6, e7] M := by
  have hz : zRng1 (zCons (zVar 1) zNil) [.val (.scr ns), .val (.int m), .own (.lst (rs0.map .int)), .own (.lst []), .no, .no, .no, .no] M = .ok (stpD 0 1 m) M := by simp [rngR_nat m (by omega)]
  refine zFor_gen (I := fun i env M' => ∃ e4 e5 e6 e7, ∃ rs ds : List Int, env = [.val (.scr ns), .val (.int m), .own (.lst (rs.map .int)), .own (.lst (ds.map .int)), e4, e5, e6, e7] ∧ rs.length = ns.length ∧ ds.length = i ∧ M' = M)
    (Q := fun o => ∃ e2 e4 e5 e6 e7, ∃ ds : List Int, o = .nx [.val (.scr ns), .val (.int m), e2, .own (.lst (ds.map .int)), e4, e5, e6, e7] M) hz
    ⟨.no, .no, .no, .no, rs0, [], rfl, hr0, rfl, rfl⟩ (fun i d env M' hi h => ?_) fun env M' h => ?_
  · obtain ⟨e4, e5, e6, e7, rs, ds, rfl, h1, h2, rfl⟩ := h
    obtain ⟨rfl, hlt⟩ := stpD_get hi
    obtain ⟨x, e5', e6', e7', rs', h3, h4⟩ := hy (n := .val (.int m)) (e5 := e5) (e6 := e6) (e7 := e7) (M := M') (ns := ns) (rs := rs) (ds := ds.map .int) (k := i) h1 (by rw [List.length_map, h2]; exact Nat.lt_of_lt_of_le hlt (Nat.le_trans hm (by decide)))
    refine ⟨_, rfl, ?_⟩
    simp only [Int.zero_add, Int.mul_one, List.set_cons_succ, List.set_cons_zero]
    rcases h4 with h4 | h4 <;> rw [h4] <;> exact ⟨.val (.int i), e5', e6', e7', rs', ds ++ [x], by simp, h3, by simp [h2], rfl⟩
  · obtain ⟨e4, e5, e6, e7, rs, ds, rfl, h1, h2, rfl⟩ := h
    exact ⟨_, _, _, _, _, ds, rfl⟩
theorem draws_seq {z : ZX} {y : ZS} {M : Sto} {ns : List Int} {m : Nat} {r : D}
    (c1 : z [.val (.scr ns), .val (.int m), .no, .no, .no, .no, .no, .no] M = .ok r M) {e2 e4 e5 e6 e7 : Sl} {ds : List Int}
    (c3 : y [.val (.scr ns), .val (.int m), .own r, .own (.lst []), .no, .no, .no, .no] M = .nx [.val (.scr ns), .val (.int m), e2, .own (.lst (ds.map .int)), e4, e5, e6, e7] M) :
    zFun 2 8 (zSeq (zFrz [] (zSetO 2 z)) (zSeq (zFrz [] (zSetO 3 (zLst zNil))) (zSeq (zFrz [] y) (zSeq (zFrz [3] (zRet (zVar 3))) zNx)))) [.val (.scr ns), .val (.int m)] M = .ok (.lst (ds.map .int)) M := by
  unfold zFun
  simp [c1, c3, zFrz, frz]
theorem draws_ok {lf : Lens} {M : Sto} {ns : List Int} {m : Nat} (hns : ns.length ≤ 1000) (hm : m ≤ 1000) : ∃ ds : List Int, zFun 2 8 (drawsY lf) [.val (.scr ns), .val (.int m)] M = .ok (.lst (ds.map .int)) M := by
  obtain ⟨e2, e4, e5, e6, e7, ds, c3⟩ := draws_loop (bodyOk (lf := lf)) (M := M) (ns := ns) (rs0 := ns.map pyAbs) (m := m) (List.length_map ..) hm
  exact ⟨ds, draws_seq (draws_rests (M := M) (m := m) hns) c3⟩
end Zy
set_option maxHeartbeats 2000000
namespace Zy
open PySem PySem.Spec PyProof.Rows L2
/-! what many laws share: the hand, plain values, cuts -/
section
variable {M : Sto}
@[simp] theorem gEq_int {a b : Int} : gEq (.int a) (.int b) M = .ok (.bl (decide (a = b))) M := by
  show (match eqD2 (.int a) (.int b) with
    | some b => Res.ok (D.bl (if false then !b else b)) M
    | none => .fail) = _
  have : eqD2 (.int a) (.int b) = some (decide (a = b)) := by
    show (if SeqAt.shaped (.int a) = true ∧ SeqAt.shaped (.int b) = true then some (PyData.eqv (.int a) (.int b)) else none) = _
    rw [if_pos ⟨rfl, rfl⟩]
    simp [PyData.eqv, Bool.beq_eq_decide_eq]
  rw [this]; rfl
theorem gNe_bl {a : Bool} : gNe (.bl a) (.bl a) M = .ok (.bl false) M := by
  cases a <;> rfl
theorem gNe_str {a b : Str} : gNe (.str a) (.str b) M = .ok (.bl (!decide (a = b))) M := rfl
@[simp] theorem gNe_strs {a : Str} : gNe (.str a) (.str a) M = .ok (.bl false) M := by
  rw [gNe_str]; simp
theorem gAdd_tup {a b : List D} (h : a.length + b.length ≤ 1000) : gAdd (.tup a) (.tup b) M = .ok (.tup (a ++ b)) M := by
  show (if a.length + b.length ≤ sizeLine then Res.ok (D.tup (a ++ b)) M else .fail) = _
  rw [if_pos (Nat.le_trans h (by decide))]
theorem cutD_len (ds : List D) (lo hi : Option Int) : (cutD ds lo hi).length ≤ ds.length := by
  unfold cutD
  rw [List.length_take, List.length_drop]
  omega
theorem cutD_mem {ds : List D} {lo hi : Option Int} {d : D} (h : d ∈ cutD ds lo hi) : d ∈ ds := List.mem_of_mem_drop (List.mem_of_mem_take h)
end
/-- values without hidden parts -/
def pl : D → Bool
  | .non | .bl _ | .int _ | .str _ | .tup _ | .lst _ => true
  | _ => false
def Pls (ds : List D) : Prop := ∀ d ∈ ds, pl d = true
theorem Pls.app {a b : List D} (h : Pls a) (k : Pls b) : Pls (a ++ b) := fun d m => (List.mem_append.mp m).elim (h d) (k d)
theorem Pls.cut {a : List D} {lo hi : Option Int} (h : Pls a) : Pls (cutD a lo hi) := fun d m => h d (cutD_mem m)
theorem Pls.ints (ns : List Int) : Pls (ns.map .int) := fun d m => by
  obtain ⟨n, _, rfl⟩ := List.mem_map.mp m
  rfl
/-- a value and its parts -/
def Plv (d : D) : Prop := pl d = true ∧ ∀ ds, itemsD d = some ds → Pls ds
theorem pl_deref {d : D} {M : Sto} (h : pl d = true) : deref M d = some d := by
  cases d <;> first | rfl | cases h
def okC : D → Bool
  | .int i => decide (1 ≤ i)
  | _ => false
def sumD (ds : List D) : Int := ((intsD ds).getD []).sum
def cutV (n : Int) (d : D) : Bool := match d with
  | .tup ds | .lst ds => ds.all okC && decide (sumD ds = n)
  | _ => false
theorem okC_ints : ∀ {ds : List D}, ds.all okC = true → ∃ ns : List Int, ds = ns.map .int
  | [], _ => ⟨[], rfl⟩
  | d :: ds, h => by
    rw [List.all_cons, Bool.and_eq_true] at h
    obtain ⟨ns, rfl⟩ := okC_ints h.2
    cases d with
    | int i => exact ⟨i :: ns, rfl⟩
    | _ => cases h.1
theorem intsD_ints : ∀ ns : List Int, intsD (ns.map .int) = some ns
  | [] => rfl
  | n :: ns => by simp [intsD, intsD_ints ns]
/-- the hand of the laws: one cell -/
def Hd (M : Sto) : Prop := ∃ (ns : List Int) (p : Int), M = [.lst [.lst (ns.map .int), .int p]] ∧ 0 ≤ p
def TakeOk (f : Sem1) : Prop := ∀ M (m : Int), Hd M → 0 < m → ∃ r M', 0 ≤ r ∧ r < m ∧ Hd M' ∧ f [.val (.ref 0), .val (.int m)] M = .ok (.int r) M'
theorem takeOk {lf : Lens} : TakeOk (zFun 2 4 (takeY lf)) := fun M m h hm => by
  obtain ⟨ns, p, rfl, hp⟩ := h
  obtain ⟨r, h1, h2, h3⟩ := take_ok (h := 0) (M := [.lst [.lst (ns.map .int), .int p]]) (ns := ns) (p := p) (m := m) rfl hp hm
  exact ⟨r, _, h1, h2, ⟨ns, p + 1, rfl, by omega⟩, h3⟩
theorem len_le_sum : ∀ {cs : List Int}, (∀ c ∈ cs, 1 ≤ c) → (cs.length : Int) ≤ cs.sum
  | [], _ => Int.le_refl _
  | c :: cs, h => by
    have h1 := h c (List.mem_cons_self ..)
    have h2 := len_le_sum fun d m => h d (List.mem_cons_of_mem _ m)
    rw [List.length_cons, List.sum_cons]
    omega
/-- a drawn cut of n into parts that are at least 1 -/
def Cut (n : Nat) (cs : List Int) : Prop := (∀ c ∈ cs, 1 ≤ c) ∧ cs.sum = n
theorem Cut.len {n : Nat} {cs : List Int} (h : Cut n cs) : cs.length ≤ n := by
  have := len_le_sum h.1
  rw [h.2] at this
  omega
theorem zCall2 {f : Sem1} {zs : ZSl} {env : Ev} {M M1 : Sto} {a b : Sl} (h : zs env M = .ok [a, b] M1) : zCall f 2 0 [0, 1] [] zs sNil env M = f [a, b] M1 := by
  unfold zCall
  rw [h]
  rfl
theorem zCall1 {f : Sem1} {zs : ZSl} {env : Ev} {M M1 : Sto} {a : Sl} (h : zs env M = .ok [a] M1) : zCall f 1 0 [0] [] zs sNil env M = f [a] M1 := by
  unfold zCall
  rw [h]
  rfl
theorem zCall3 {f : Sem1} {zs : ZSl} {env : Ev} {M M1 : Sto} {a b c : Sl} (h : zs env M = .ok [a, b, c] M1) : zCall f 3 0 [0, 1, 2] [] zs sNil env M = f [a, b, c] M1 := by
  unfold zCall
  rw [h]
  rfl
theorem zCallK1 {f : Sem1} {zk : ZSl} {env : Ev} {M M1 : Sto} {a : Sl} (h : zk env M = .ok [a] M1) : zCall f 0 1 [0] [] sNil zk env M = f [a] M1 := by
  unfold zCall
  show ((zk env M).bind _) = _
  rw [h]
  rfl
theorem zCallK2 {f : Sem1} {zk : ZSl} {env : Ev} {M M1 : Sto} {a b : Sl} (h : zk env M = .ok [a, b] M1) : zCall f 0 2 [0, 1] [] sNil zk env M = f [a, b] M1 := by
  unfold zCall
  show ((zk env M).bind _) = _
  rw [h]
  rfl
end Zy
set_option maxHeartbeats 2000000
namespace Zy
open PySem PySem.Spec PyProof.Rows L2
def callR (f : Sem1) (n m : Nat) (is : List Nat) (dd : List D) (as bs : List Sl) (M : Sto) : Res D := if as.length = n ∧ bs.length = m then match perm (as ++ bs ++ dd.map .val) is with
    | some ys => f ys M
    | none => .fail else .fail
@[simp] theorem zCall_z {f : Sem1} {n m : Nat} {is : List Nat} {dd : List D} {zs zk : ZSl} {env : Ev} {M : Sto} : zCall f n m is dd zs zk env M = (zs env M).bind fun as M1 => (zk env M1).bind fun bs M2 => callR f n m is dd as bs M2 := id rfl
@[simp] theorem callR1 {f : Sem1} {a : Sl} {M : Sto} : callR f 1 0 [0] [] [a] [] M = f [a] M := id rfl
@[simp] theorem callR2 {f : Sem1} {a b : Sl} {M : Sto} : callR f 2 0 [0, 1] [] [a, b] [] M = f [a, b] M := id rfl
@[simp] theorem callR3 {f : Sem1} {a b c : Sl} {M : Sto} : callR f 3 0 [0, 1, 2] [] [a, b, c] [] M = f [a, b, c] M := id rfl
@[simp] theorem callRk1 {f : Sem1} {a : Sl} {M : Sto} : callR f 0 1 [0] [] [] [a] M = f [a] M := id rfl
@[simp] theorem callRk2 {f : Sem1} {a b : Sl} {M : Sto} : callR f 0 2 [0, 1] [] [] [a, b] M = f [a, b] M := id rfl
@[simp] theorem sizeLine_big {n : Nat} (h : n ≤ 1000) : n ≤ sizeLine := Nat.le_trans h (by decide)
theorem gIx_get {ds : List D} {n : Int} {M : Sto} (h0 : 0 ≤ n) (h1 : n < ds.length) : ∃ x, x ∈ ds ∧ ds[n.toNat]? = some x ∧ gIx (.lst ds) (.int n) M = .ok x M := by
  have hl : n.toNat < ds.length := by omega
  exact ⟨ds[n.toNat], List.getElem_mem hl, List.getElem?_eq_getElem hl, gIx_lst h0 (List.getElem?_eq_getElem hl)⟩

/-! what repr answers, by size -/
structure Sm (k w : Nat) (p : PyData) : Prop where
  sh : p.showable = true
  hd : p.hasDict = false
  dp : p.depth ≤ k
  lv : p.leavesShort 13 = true
  we : p.weight ≤ w
theorem log_small {k : Nat} (h : k ≤ 1000) : k.log2 < 10 := by
  by_cases hn : k = 0
  · subst hn; decide
  · exact (Nat.log2_lt hn).mpr (Nat.lt_of_le_of_lt h (by decide))
theorem Sm.int {i : Int} (h0 : 0 ≤ i) (h : i ≤ 1000) : Sm 0 10 (.int i) := by
  refine ⟨?_, rfl, Nat.le_refl _, ?_, ?_⟩
  · simp only [PyData.showable, decide_eq_true_eq]
    exact Nat.lt_trans (log_small (by omega)) (by decide)
  · simp only [PyData.leavesShort, decide_eq_true_eq]
    exact PyData.shown_int_le (Nat.lt_of_le_of_lt (show i.natAbs ≤ 1000 by omega) (by decide))
  · simp only [PyData.weight]
    split
    · decide
    · have := log_small (k := i.natAbs) (by omega)
      omega
theorem smAll {k w : Nat} : ∀ {xs : List PyData}, (∀ x ∈ xs, Sm k w x) → PyData.showableAll xs = true ∧ PyData.hasDictAll xs = false ∧ PyData.depthAll xs ≤ k ∧ PyData.leavesShortAll 13 xs = true ∧ PyData.weightAll xs ≤ xs.length * (w + 1)
  | [], _ => ⟨rfl, rfl, Nat.zero_le _, rfl, Nat.zero_le _⟩
  | x :: xs, h => by
    obtain ⟨a1, a2, a3, a4, a5⟩ := smAll fun y m => h y (List.mem_cons_of_mem _ m)
    obtain ⟨b1, b2, b3, b4, b5⟩ := h x (List.mem_cons_self ..)
    refine ⟨?_, ?_, ?_, ?_, ?_⟩
    · simp [PyData.showableAll, a1, b1]
    · simp [PyData.hasDictAll, a2, b2]
    · simp only [PyData.depthAll]; omega
    · simp [PyData.leavesShortAll, a4, b4]
    · simp only [PyData.weightAll, List.length_cons]
      rw [Nat.add_mul]
      omega
theorem Sm.list {k w m : Nat} {xs : List PyData} (h : ∀ x ∈ xs, Sm k w x) (hl : xs.length ≤ m) : Sm (k + 1) (m * (w + 1)) (.list xs) := by
  obtain ⟨a1, a2, a3, a4, a5⟩ := smAll h
  refine ⟨by simpa only [PyData.showable] using a1, by simpa only [PyData.hasDict] using a2, ?_, by simpa only [PyData.leavesShort] using a4, ?_⟩
  · simp only [PyData.depth]; omega
  · simp only [PyData.weight]; exact Nat.le_trans a5 (Nat.mul_le_mul_right _ hl)
theorem Sm.tuple {k w m : Nat} {xs : List PyData} (h : ∀ x ∈ xs, Sm k w x) (hl : xs.length ≤ m) : Sm (k + 1) (m * (w + 1)) (.tuple xs) := by
  obtain ⟨a1, a2, a3, a4, a5⟩ := smAll h
  refine ⟨by simpa only [PyData.showable] using a1, by simpa only [PyData.hasDict] using a2, ?_, by simpa only [PyData.leavesShort] using a4, ?_⟩
  · simp only [PyData.depth]; omega
  · simp only [PyData.weight]; exact Nat.le_trans a5 (Nat.mul_le_mul_right _ hl)
def RD (k w : Nat) (d : D) : Prop := ∃ p, toPy d = some p ∧ Sm k w p
theorem RD.all {k w : Nat} : ∀ {ds : List D}, (∀ d ∈ ds, RD k w d) → ∃ ps, toPys ds = some ps ∧ ps.length = ds.length ∧ ∀ p ∈ ps, Sm k w p
  | [], _ => ⟨[], rfl, rfl, fun _ m => nomatch m⟩
  | d :: ds, h => by
    obtain ⟨ps, e, l, s⟩ := RD.all fun y m => h y (List.mem_cons_of_mem _ m)
    obtain ⟨p, e1, s1⟩ := h d (List.mem_cons_self ..)
    exact ⟨p :: ps, by simp [toPys, e, e1], by simp [l], fun q m => (List.mem_cons.mp m).elim (fun z => z ▸ s1) (s q)⟩
theorem RD.tup {k w m : Nat} {ds : List D} (h : ∀ d ∈ ds, RD k w d) (hl : ds.length ≤ m) : RD (k + 1) (m * (w + 1)) (.tup ds) := by
  obtain ⟨ps, e, l, s⟩ := RD.all h
  exact ⟨.tuple ps, by simp [toPy, e], Sm.tuple s (by omega)⟩
theorem RD.lst {k w m : Nat} {ds : List D} (h : ∀ d ∈ ds, RD k w d) (hl : ds.length ≤ m) : RD (k + 1) (m * (w + 1)) (.lst ds) := by
  obtain ⟨ps, e, l, s⟩ := RD.all h
  exact ⟨.list ps, by simp [toPy, e], Sm.list s (by omega)⟩
theorem RD.int {i : Int} (h0 : 0 ≤ i) (h : i ≤ 1000) : RD 0 10 (.int i) := ⟨.int i, rfl, Sm.int h0 h⟩
def ReprOk (d : D) : Prop := ∃ s, ∀ M, gRepr [d] M = .ok (.str s) M
theorem toPy_deref {d : D} {p : PyData} {M : Sto} (h : toPy d = some p) : deref M d = some d := by
  cases d <;> first | rfl | (cases h; done)
theorem RD.repr {k w : Nat} {d : D} (h : RD k w d) (hk : k ≤ 60) (hw : w ≤ 2 ^ 20) : ReprOk d := by
  obtain ⟨p, e, s⟩ := h
  refine ⟨p.shown, fun M => ?_⟩
  have hr : reprD d = some p.shown := by
    unfold reprD
    rw [e]
    exact if_pos ⟨s.sh, s.hd, Nat.le_trans s.dp hk, PyData.shown_fits (by decide) (by decide) s.lv (Nat.le_trans s.we hw)⟩
  unfold gRepr
  simp only [toPy_deref e, Option.bind_some, hr]
def rngR2 (ds : List D) (M : Sto) : Res (List D) := match ds with
  | [.int i, .int j] => if sm62 i && sm62 j then .ok (stpD i 1 (j - i).toNat) M else .fail
  | _ => .fail
@[simp] theorem zRng2_z {l : ZL} {env : Ev} {M : Sto} : zRng2 l env M = (l env M).bind rngR2 := id rfl
theorem rngR2_ok {a b : Int} {M : Sto} (h0 : 0 ≤ a) (h1 : a ≤ 1000000) (h2 : 0 ≤ b) (h3 : b ≤ 1000000) : rngR2 [.int a, .int b] M = .ok (stpD a 1 (b - a).toNat) M := by
  have h4 : (1000000 : Int) < 2 ^ 62 := by decide
  have h5 : (-(2 ^ 62) : Int) ≤ 0 := by decide
  have s : ∀ x : Int, 0 ≤ x → x ≤ 1000000 → sm62 x = true := fun x k1 k2 => by
    simp only [sm62, Bool.and_eq_true, decide_eq_true_eq]
    exact ⟨Int.le_trans h5 k1, Int.lt_of_le_of_lt k2 h4⟩
  unfold rngR2
  simp only [s a h0 h1, s b h2 h3, Bool.and_self, if_true]
@[simp] theorem callR0_4 {f : Sem1} {a b c d : Sl} {M : Sto} : callR f 4 0 [0, 1, 2, 3] [] [a, b, c, d] [] M = f [a, b, c, d] M := id rfl
@[simp] theorem callRk3' {f : Sem1} {a b c : Sl} {M : Sto} : callR f 0 3 [0, 1, 2] [] [] [a, b, c] M = f [a, b, c] M := id rfl
@[simp] theorem callRk4' {f : Sem1} {a b c d : Sl} {M : Sto} : callR f 0 4 [0, 1, 2, 3] [] [] [a, b, c, d] M = f [a, b, c, d] M := id rfl
@[simp] theorem deref_bl {M : Sto} {b : Bool} : deref M (.bl b) = some (.bl b) := id rfl
@[simp] theorem deref_str {M : Sto} {b : Str} : deref M (.str b) = some (.str b) := id rfl
@[simp] theorem deref_int {M : Sto} {i : Int} : deref M (.int i) = some (.int i) := id rfl
@[simp] theorem deref_tup {M : Sto} {ds : List D} : deref M (.tup ds) = some (.tup ds) := id rfl
@[simp] theorem deref_lst {M : Sto} {ds : List D} : deref M (.lst ds) = some (.lst ds) := id rfl
@[simp] theorem itemsD_lst {ds : List D} : itemsD (.lst ds) = some ds := id rfl
@[simp] theorem itemsD_tup {ds : List D} : itemsD (.tup ds) = some ds := id rfl
@[simp] theorem sz1 : (1 : Nat) ≤ sizeLine := by decide
@[simp] theorem sz2 : (2 : Nat) ≤ sizeLine := by decide
@[simp] theorem sz3 : (3 : Nat) ≤ sizeLine := by decide
@[simp] theorem sz4 : (4 : Nat) ≤ sizeLine := by decide
@[simp] theorem sz5 : (5 : Nat) ≤ sizeLine := by decide
@[simp] theorem sz6 : (6 : Nat) ≤ sizeLine := by decide
@[simp] theorem sz7 : (7 : Nat) ≤ sizeLine := by decide
@[simp] theorem sz8 : (8 : Nat) ≤ sizeLine := by decide
theorem small_m {i : Int} (h : -1000000 ≤ i) (k : i ≤ 1000000) : smallI i := by
  have h1 : (-(2 ^ 64) : Int) < -1000000 := by decide
  have h2 : (1000000 : Int) < 2 ^ 64 := by decide
  exact ⟨by omega, by omega⟩
theorem gNe_int {a b : Int} {M : Sto} : gNe (.int a) (.int b) M = .ok (.bl (!decide (a = b))) M := by
  show (match eqD2 (.int a) (.int b) with
    | some b => Res.ok (D.bl (if true then !b else b)) M
    | none => .fail) = _
  have : eqD2 (.int a) (.int b) = some (decide (a = b)) := by
    show (if SeqAt.shaped (.int a) = true ∧ SeqAt.shaped (.int b) = true then some (PyData.eqv (.int a) (.int b)) else none) = _
    rw [if_pos ⟨rfl, rfl⟩]
    simp [PyData.eqv, Bool.beq_eq_decide_eq]
  rw [this]; rfl
end Zy
set_option maxHeartbeats 2000000
namespace Zy
open PySem PySem.Spec PyProof.Rows L2
/-! comprehensions over plain data -/
abbrev yes : ZB := fun _ M => .ok true M
section
variable {env : Ev} {M M1 : Sto} {z za zb ze : ZX} {vs : List Nat} {i j : Nat} {d e : D} {α β : Type}
theorem lcSeq {r : List α} {ga : α → D} (f : α → D) (ha : za env M = .ok d M1) (hd : itemsD d = some (r.map ga)) (hno : noOwn env vs = true) (hl : r.length ≤ 1000)
    (hz : ∀ x ∈ r, ze ((wipeE env vs).set i (.val (ga x))) M1 = .ok (f x) M1) : zLc (zSeqI za) (tgN i) yes ze vs env M = .ok (.lst (r.map f)) M1 := by
  obtain ⟨acc, M', e0, h1, h2⟩ := zLc_gen (zt := yes) (ze := ze) (gz := tgN i) (ds := r.map ga) (M1 := M1) (show zSeqI za env M = .ok (r.map ga) M1 by simp only [zSeqI_z, ha, Res.bind_ok, hd]) hno (fun k acc M => acc = (r.take k).map f ∧ M = M1) ⟨by simp, rfl⟩ fun k x acc M hx h => by
    obtain ⟨rfl, rfl⟩ := h
    rw [List.getElem?_map] at hx
    cases q : r[k]? with
    | none => rw [q] at hx; cases hx
    | some y =>
      rw [q] at hx
      cases hx
      have hk := (List.getElem?_eq_some_iff.mp q).1
      refine ⟨_, true, M, rfl, rfl, ?_⟩
      rw [if_pos rfl]
      refine ⟨f y, M, hz y (List.mem_of_getElem? q), ?_, ?_, rfl⟩
      · rw [List.length_map, List.length_take]
        exact Nat.lt_of_lt_of_le (show min k r.length < 1001 by omega) (by decide)
      · rw [List.take_add_one, q]
        simp
  rw [e0, h1, h2, List.length_map, List.take_length]
theorem lcZip {r : List α} {v : List β} {ga : α → D} {gb : β → D} (f : α → β → D) (ha : za env M = .ok d M) (hb : zb env M = .ok e M) (hd : itemsD d = some (r.map ga)) (he : itemsD e = some (v.map gb)) (hno : noOwn env vs = true) (hl : r.length ≤ 1000)
    (hz : ∀ x ∈ r, ∀ y ∈ v, ze (((wipeE env vs).set i (.val (ga x))).set j (.val (gb y))) M = .ok (f x y) M) : zLc (zZip za zb) (tgT [i, j]) yes ze vs env M = .ok (.lst (List.zipWith f r v)) M := by
  have hlen : (zipD (r.map ga) (v.map gb)).length = min r.length v.length := by rw [zipD_len, List.length_map, List.length_map]
  obtain ⟨acc, M', e0, h1, h2⟩ := zLc_gen (zt := yes) (ze := ze) (gz := tgT [i, j]) (ds := zipD (r.map ga) (v.map gb)) (M1 := M) (show zZip za zb env M = .ok _ M by simp only [zZip_z, ha, hb, Res.bind_ok]; exact zipR_ok hd he) hno (fun k acc M2 => acc = (List.zipWith f r v).take k ∧ M2 = M) ⟨by simp, rfl⟩ fun k x acc M2 hx h => by
    obtain ⟨rfl, rfl⟩ := h
    obtain ⟨x1, y1, q1, q2, rfl⟩ := zipD_at hx
    rw [List.getElem?_map] at q1 q2
    cases p1 : r[k]? with
    | none => rw [p1] at q1; cases q1
    | some a =>
      cases p2 : v[k]? with
      | none => rw [p2] at q2; cases q2
      | some b =>
        rw [p1] at q1
        rw [p2] at q2
        cases q1
        cases q2
        have hk := (List.getElem?_eq_some_iff.mp p1).1
        refine ⟨_, true, M2, rfl, rfl, ?_⟩
        rw [if_pos rfl]
        refine ⟨f a b, M2, hz a (List.mem_of_getElem? p1) b (List.mem_of_getElem? p2), ?_, ?_, rfl⟩
        · rw [List.length_take, List.length_zipWith]
          exact Nat.lt_of_lt_of_le (show min k (min r.length v.length) < 1001 by omega) (by decide)
        · rw [List.take_add_one, List.getElem?_zipWith, p1, p2]
          simp
  rw [e0, h1, h2, hlen, List.take_of_length_le (by rw [List.length_zipWith]; exact Nat.le_refl _)]
theorem lcRng {n : Nat} (f : Nat → D) (ha : za env M = .ok (.int n) M1) (hno : noOwn env vs = true) (hl : n ≤ 1000)
    (hz : ∀ k, k < n → ze ((wipeE env vs).set i (.val (.int (k : Nat)))) M1 = .ok (f k) M1) : zLc (zRng1 (zCons za zNil)) (tgN i) yes ze vs env M = .ok (.lst ((List.range n).map f)) M1 := by
  have hr : zRng1 (zCons za zNil) env M = .ok (stpD 0 1 n) M1 := by simp [ha, rngR_nat n (by omega)]
  obtain ⟨acc, M', e0, h1, h2⟩ := zLc_gen (zt := yes) (ze := ze) (gz := tgN i) hr hno (fun k acc M => acc = ((List.range n).map f).take k ∧ M = M1) ⟨by simp, rfl⟩ fun k x acc M hx h => by
    obtain ⟨rfl, rfl⟩ := h
    obtain ⟨rfl, hk⟩ := stpD_get hx
    refine ⟨_, true, M, rfl, rfl, ?_⟩
    rw [if_pos rfl]
    refine ⟨f k, M, ?_, ?_, ?_, rfl⟩
    · have := hz k hk
      simpa using this
    · rw [List.length_take, List.length_map, List.length_range]
      exact Nat.lt_of_lt_of_le (show min k n < 1001 by omega) (by decide)
    · rw [List.take_add_one, List.getElem?_map, List.getElem?_range hk]
      simp
  rw [e0, h1, h2, stpD_len, List.take_of_length_le (by rw [List.length_map, List.length_range]; exact Nat.le_refl _)]
/-- [.. for k in range(n)], the store changes -/
theorem lcRngS {n : Nat} (P : Nat → List D → Sto → Prop) (ha : za env M = .ok (.int n) M1) (hno : noOwn env vs = true) (hl : n ≤ 1000) (h0 : P 0 [] M1)
    (hz : ∀ k acc M2, k < n → acc.length = k → P k acc M2 → ∃ y M3, ze ((wipeE env vs).set i (.val (.int (k : Nat)))) M2 = .ok y M3 ∧ P (k + 1) (acc ++ [y]) M3) :
    ∃ acc M', zLc (zRng1 (zCons za zNil)) (tgN i) yes ze vs env M = .ok (.lst acc) M' ∧ acc.length = n ∧ P n acc M' := by
  have hr : zRng1 (zCons za zNil) env M = .ok (stpD 0 1 n) M1 := by simp [ha, rngR_nat n (by omega)]
  obtain ⟨acc, M', e0, h1, h2⟩ := zLc_gen (zt := yes) (ze := ze) (gz := tgN i) hr hno (fun k acc M => acc.length = k ∧ P k acc M) ⟨rfl, h0⟩ fun k x acc M hx h => by
    obtain ⟨rfl, hk⟩ := stpD_get hx
    obtain ⟨y, M3, e1, p1⟩ := hz k acc M hk h.1 h.2
    refine ⟨_, true, M, rfl, rfl, ?_⟩
    rw [if_pos rfl]
    refine ⟨y, M3, ?_, ?_, ?_, p1⟩
    · simpa using e1
    · rw [h.1]
      exact Nat.lt_of_lt_of_le (show k < 1001 by omega) (by decide)
    · simp [h.1]
  rw [stpD_len] at h1 h2
  exact ⟨acc, M', e0, h1, h2⟩
theorem deref_items {ds : List D} (h : itemsD d = some ds) : deref M d = some d := by
  cases d <;> first | rfl | (cases h; done)
theorem tupOf_lst {ds : List D} (h : z env M = .ok (.lst ds) M1) : zTupOf z env M = .ok (.tup ds) M1 := by simp [h, deref, itemsD]
theorem tupOf_items {ds : List D} (h : z env M = .ok d M1) (hd : itemsD d = some ds) : zTupOf z env M = .ok (.tup ds) M1 := by simp [h, deref_items hd, hd]
theorem gSum_ints {ns : List Int} : gSum [.lst (ns.map .int)] M = .ok (.int ns.sum) M := by
  simp [gSum, deref, itemsD, intsD_ints]
theorem gIx_map {ga : α → D} {r : List α} {k : Nat} {x : α} (h : r[k]? = some x) (hd : itemsD d = some (r.map ga)) : gIx d (.int (k : Nat)) M = .ok (ga x) M := gIx_of hd (by rw [List.getElem?_map, h]; rfl) (deref_items hd)
theorem gIx_last {ga : α → D} {r : List α} {x : α} (h : r.getLast? = some x) (hd : itemsD d = some (r.map ga)) : gIx d (.int (-1)) M = .ok (ga x) M := by
  have hne : r ≠ [] := fun z => by rw [z] at h; cases h
  have hl : 0 < r.length := List.length_pos_iff.mpr hne
  rw [List.getLast?_eq_getElem?] at h
  have hx : (r.map ga)[r.length - 1]? = some (ga x) := by rw [List.getElem?_map, h]; rfl
  have e : L2.atI (r.map ga) (-1) = some (ga x) := by
    unfold L2.atI
    rw [List.length_map]
    have hix : ixN r.length (-1) = some (r.length - 1) := by
      unfold ixN
      simp only [show ¬ (0 : Int) ≤ -1 by decide, false_and, if_false]
      rw [if_pos (by omega)]
      congr 1
      omega
    rw [hix]
    exact hx
  unfold gIx
  simp only [deref_items hd, hd, e]
end
abbrev Vec := List Int
abbrev Mat := List Vec
def rowD (r : Vec) : D := .tup (r.map .int)
def VecD (d : D) (v : Vec) : Prop := d = .tup (v.map .int) ∨ d = .lst (v.map .int)
theorem VecD.items {d : D} {v : Vec} (h : VecD d v) : itemsD d = some (v.map .int) := by rcases h with rfl | rfl <;> rfl
theorem VecD.row (v : Vec) : VecD (rowD v) v := .inl rfl
theorem apLoop {σ : Type} {zi : ZL} {iv n : Nat} {body : ZS} {M : Sto} (mk : List D → Sl → σ → Ev) (F : Nat → D) {e0 : Sl} {s0 : σ} (hz : zi (mk [] e0 s0) M = .ok (stpD 0 1 n) M) (hset : ∀ A e s x, (mk A e s).set iv x = mk A x s)
    (hb : ∀ i A s, i < n → A.length = i → ∃ s', body (mk A (.val (.int (i : Nat))) s) M = .nx (mk (A ++ [F i]) (.val (.int (i : Nat))) s') M) : ∃ e' s', zFor zi (tgN iv) body (mk [] e0 s0) M = .nx (mk ((List.range n).map F) e' s') M := by
  refine zFor_gen (I := fun i env M' => ∃ e s, env = mk ((List.range i).map F) e s ∧ M' = M) (Q := fun o => ∃ e' s', o = .nx (mk ((List.range n).map F) e' s') M) hz ⟨e0, s0, rfl, rfl⟩ (fun i x env M' hi hI => ?_) fun env M' hI => ?_
  · obtain ⟨e, s, rfl, rfl⟩ := hI
    obtain ⟨rfl, hlt⟩ := stpD_get hi
    obtain ⟨s', t⟩ := hb i ((List.range i).map F) s hlt (by simp)
    refine ⟨_, rfl, ?_⟩
    show stepO _ _ (body ((mk _ e s).set iv (.val (.int (0 + (i : Nat) * 1)))) M')
    rw [hset, Int.zero_add, Int.mul_one, t]
    refine ⟨.val (.int (i : Nat)), s', ?_, rfl⟩
    rw [List.range_succ, List.map_append]
    rfl
  · obtain ⟨e, s, rfl, rfl⟩ := hI
    rw [stpD_len]
    exact ⟨e, s, rfl⟩
/-! filters, two clauses, quantifiers, the least and the greatest -/
section
variable {env : Ev} {M M1 : Sto} {z za zb ze : ZX} {vs : List Nat} {i j : Nat} {d e : D} {α β : Type}
theorem blsD_bls : ∀ bs : List Bool, blsD (bs.map .bl) = some bs
  | [] => rfl
  | b :: bs => by simp [blsD, blsD_bls bs]
theorem gAny_bls {bs : List Bool} : gAny [.lst (bs.map .bl)] M = .ok (.bl (bs.any id)) M := by simp [gAny, gQuant, lblsD, blsD_bls]
theorem gAll_bls {bs : List Bool} : gAll [.lst (bs.map .bl)] M = .ok (.bl (bs.all id)) M := by simp [gAll, gQuant, lblsD, blsD_bls]
theorem gMin_ints {ns : List Int} {m : Int} (h : ns.min? = some m) : gMin [.lst (ns.map .int)] M = .ok (.int m) M := by simp [gMin, gMx, lintsD, intsD_ints, h]
theorem gMax_ints {ns : List Int} {m : Int} (h : ns.max? = some m) : gMax [.lst (ns.map .int)] M = .ok (.int m) M := by simp [gMax, gMx, lintsD, intsD_ints, h]
theorem lcSeqF {zt : ZB} {r : List α} {ga : α → D} (p : α → Bool) (f : α → D) (ha : za env M = .ok d M1) (hd : itemsD d = some (r.map ga)) (hno : noOwn env vs = true) (hl : r.length ≤ 1000)
    (ht : ∀ x ∈ r, zt ((wipeE env vs).set i (.val (ga x))) M1 = .ok (p x) M1) (hz : ∀ x ∈ r, p x = true → ze ((wipeE env vs).set i (.val (ga x))) M1 = .ok (f x) M1) : zLc (zSeqI za) (tgN i) zt ze vs env M = .ok (.lst ((r.filter p).map f)) M1 := by
  obtain ⟨acc, M', e0, h1, h2⟩ := zLc_gen (zt := zt) (ze := ze) (gz := tgN i) (ds := r.map ga) (M1 := M1) (show zSeqI za env M = .ok (r.map ga) M1 by simp only [zSeqI_z, ha, Res.bind_ok, hd]) hno (fun k acc M => acc = ((r.take k).filter p).map f ∧ M = M1) ⟨by simp, rfl⟩ fun k x acc M hx h => by
    obtain ⟨rfl, rfl⟩ := h
    rw [List.getElem?_map] at hx
    cases q : r[k]? with
    | none => rw [q] at hx; cases hx
    | some y =>
      rw [q] at hx
      cases hx
      have hk := (List.getElem?_eq_some_iff.mp q).1
      have hm := List.mem_of_getElem? q
      refine ⟨_, p y, M, rfl, ht y hm, ?_⟩
      by_cases hp : p y = true
      · rw [if_pos hp]
        refine ⟨f y, M, hz y hm hp, ?_, ?_, rfl⟩
        · rw [List.length_map]
          have := List.length_filter_le p (r.take k)
          rw [List.length_take] at this
          exact Nat.lt_of_lt_of_le (show _ < 1001 by omega) (by decide)
        · rw [List.take_add_one, q]
          simp [hp]
      · rw [if_neg hp]
        refine ⟨?_, rfl⟩
        rw [List.take_add_one, q]
        simp [hp]
  rw [e0, h1, h2, List.length_map, List.take_length]
theorem lcL_map {gz : ZTg} {envb : Ev} {f : D → D} : ∀ {es acc : List D}, acc.length + es.length ≤ 1000 → (∀ e ∈ es, ∃ envd, gz e envb = some envd ∧ ze envd M = .ok (f e) M) → zLcL gz yes ze envb es acc M = .ok (.lst (acc ++ es.map f)) M
  | [], acc, _, _ => by simp [zLcL]
  | e :: es, acc, hl, h => by
    obtain ⟨envd, e1, e2⟩ := h e List.mem_cons_self
    unfold zLcL
    have hlt : acc.length < sizeLine := Nat.lt_of_lt_of_le (show acc.length < 1001 by omega) (by decide)
    simp only [e1, e2, if_pos hlt]
    rw [lcL_map (by simp only [List.length_append, List.length_cons, List.length_nil] at *; omega) fun x hx => h x (List.mem_cons_of_mem _ hx)]
    simp
theorem lc2L_map {gz gz1 : ZTg} {zi1 : ZL} {vs1 : List Nat} {envb : Ev} {es : D → List D} {f : D → D → D} : ∀ {ds acc : List D}, acc.length + (ds.flatMap fun d => (es d).map (f d)).length ≤ 1000 →
    (∀ d ∈ ds, ∃ envc, gz d envb = some envc ∧ zi1 envc M = .ok (es d) M ∧ noOwn envc vs1 = true ∧ ∀ e ∈ es d, ∃ envd, gz1 e (wipeE envc vs1) = some envd ∧ ze envd M = .ok (f d e) M) →
    zLc2L gz yes zi1 gz1 yes ze vs1 envb ds acc M = .ok (.lst (acc ++ ds.flatMap fun d => (es d).map (f d))) M
  | [], acc, _, _ => by simp [zLc2L]
  | d :: ds, acc, hl, h => by
    obtain ⟨envc, e1, e2, e3, e4⟩ := h d List.mem_cons_self
    rw [List.flatMap_cons, List.length_append, List.length_map] at hl
    have q := lcL_map (acc := acc) (es := es d) (f := f d) (M := M) (ze := ze) (gz := gz1) (envb := wipeE envc vs1) (by omega) e4
    unfold zLc2L
    simp only [e1, e2, if_pos e3, q, lcK]
    rw [lc2L_map (by rw [List.length_append, List.length_map]; omega) fun x hx => h x (List.mem_cons_of_mem _ hx)]
    simp
theorem zLc2_map {zi zi1 : ZL} {gz gz1 : ZTg} {vs1 : List Nat} {ds : List D} (es : D → List D) (f : D → D → D) (hi : zi env M = .ok ds M) (hno : noOwn env vs = true) (hl : (ds.flatMap fun d => (es d).map (f d)).length ≤ 1000)
    (st : ∀ d ∈ ds, ∃ envc, gz d (wipeE env vs) = some envc ∧ zi1 envc M = .ok (es d) M ∧ noOwn envc vs1 = true ∧ ∀ e ∈ es d, ∃ envd, gz1 e (wipeE envc vs1) = some envd ∧ ze envd M = .ok (f d e) M) :
    zLc2 zi gz yes zi1 gz1 yes ze vs vs1 env M = .ok (.lst (ds.flatMap fun d => (es d).map (f d))) M := by
  unfold zLc2
  rw [hi]
  show (if noOwn env vs = true then zLc2L gz yes zi1 gz1 yes ze vs1 (wipeE env vs) ds [] M else .fail) = _
  rw [if_pos hno, lc2L_map (by simpa using hl) st]
  simp
end
@[simp] theorem zSl_z {z : ZX} {zl zh : ZO} {env : Ev} {M : Sto} : zSl z zl zh env M = (z env M).bind fun d M1 => (zl env M1).bind fun lo M2 => (zh env M2).bind fun hi M3 => match (deref M3 d).bind fun c => slD c lo hi with
  | some r => .ok r M3
  | none => .fail := id rfl
@[simp] theorem zIdx_z {z y : ZX} {env : Ev} {M : Sto} : zIdx z y env M = (z env M).bind fun d M1 => match deref M1 d with
  | some (.lst _) => (y env M1).bind fun e M2 => gIdx d e M2
  | _ => .fail := id rfl
theorem zCh_z {g g' : G2} {za zb zc : ZX} {env : Ev} {M : Sto} : zCh g g' za zb zc env M = (za env M).bind fun d M1 => (zb env M1).bind fun e M2 => (g d e M2).bind fun k M3 => match k with
  | .bl true => (zc env M3).bind fun c M4 => g' e c M4
  | .bl false => .ok (.bl false) M3
  | _ => .fail := id rfl
/-- slices of rows of integers -/
theorem cut_mid {ds : List D} {l h : Nat} : cutD ds (some (l : Int)) (some (h : Int)) = (ds.take h).drop l := by
  unfold cutD
  rw [HT.sIx_nat, HT.sIx_nat, List.drop_take]
  by_cases hl : l ≤ ds.length
  · rw [Nat.min_eq_left hl]
    by_cases hh : h ≤ ds.length
    · rw [Nat.min_eq_left hh]
    · rw [Nat.min_eq_right (by omega), List.take_of_length_le (by rw [List.length_drop]; omega), List.take_of_length_le (by rw [List.length_drop]; omega)]
  · rw [Nat.min_eq_right (show ds.length ≤ l by omega), List.drop_eq_nil_of_le (Nat.le_refl _), List.drop_eq_nil_of_le (show ds.length ≤ l by omega), List.take_nil, List.take_nil]
theorem cut_from {ds : List D} {l : Nat} : cutD ds (some (l : Int)) none = ds.drop l := by
  unfold cutD
  rw [HT.sIx_nat, HT.sIx_none]
  by_cases hl : l ≤ ds.length
  · rw [Nat.min_eq_left hl, List.take_of_length_le (by rw [List.length_drop]; omega)]
  · rw [Nat.min_eq_right (show ds.length ≤ l by omega), Nat.sub_self, List.take_zero, List.drop_eq_nil_of_le (show ds.length ≤ l by omega)]
theorem VecD.mid {d : D} {c : Vec} (h : VecD d c) (l k : Nat) : ∃ d', slD d (some (l : Int)) (some (k : Int)) = some d' ∧ VecD d' ((c.take k).drop l) := by
  rcases h with rfl | rfl
  · exact ⟨_, rfl, .inl (by rw [cut_mid, List.map_drop, List.map_take])⟩
  · exact ⟨_, rfl, .inr (by rw [cut_mid, List.map_drop, List.map_take])⟩
theorem VecD.from {d : D} {c : Vec} (h : VecD d c) (l : Nat) : ∃ d', slD d (some (l : Int)) none = some d' ∧ VecD d' (c.drop l) := by
  rcases h with rfl | rfl
  · exact ⟨_, rfl, .inl (by rw [cut_from, List.map_drop])⟩
  · exact ⟨_, rfl, .inr (by rw [cut_from, List.map_drop])⟩
theorem VecD.deref {d : D} {c : Vec} {M : Sto} (h : VecD d c) : deref M d = some d := deref_items h.items
theorem VecD.sum {d : D} {c : Vec} {M : Sto} (h : VecD d c) : gSum [d] M = .ok (.int c.sum) M := by
  simp [gSum, h.deref, h.items, intsD_ints]
theorem VecD.len {lf : Lens} {d : D} {c : Vec} {M : Sto} (h : VecD d c) : lenR lf (.val d) M = .ok (.int (c.length : Nat)) M := by
  rcases h with rfl | rfl <;> simp
theorem VecD.at {d : D} {c : Vec} {M : Sto} {i : Nat} {x : Int} (h : VecD d c) (hx : c[i]? = some x) : gIx d (.int (i : Nat)) M = .ok (.int x) M := gIx_map hx h.items
end Zy
set_option maxHeartbeats 2000000
namespace Zy
open PySem PySem.Spec PyProof.Rows L2
/-! repr and == of trees of numbers -/
theorem RD.mono {k w k' w' : Nat} {d : D} (h : RD k w d) (hk : k ≤ k') (hw : w ≤ w') : RD k' w' d := by
  obtain ⟨p, e, s⟩ := h
  exact ⟨p, e, s.sh, s.hd, Nat.le_trans s.dp hk, s.lv, Nat.le_trans s.we hw⟩
theorem RD.map {α : Type} {g : α → D} {k w m : Nat} {l : List α} (h : ∀ x ∈ l, RD k w (g x)) (hl : l.length ≤ m) : RD (k + 1) (m * (w + 1)) (.tup (l.map g)) := RD.tup (fun d hd => by
  obtain ⟨x, hx, rfl⟩ := List.mem_map.mp hd
  exact h x hx) (by rw [List.length_map]; exact hl)
theorem RD.two {k w : Nat} {a b : D} (ha : RD k w a) (hb : RD k w b) : RD (k + 1) (2 * (w + 1)) (.tup [a, b]) := RD.tup (m := 2) (fun d hd => by
  simp only [List.mem_cons, List.not_mem_nil, or_false] at hd
  rcases hd with rfl | rfl
  · exact ha
  · exact hb) (Nat.le_refl 2)
theorem RD.l3 {k w : Nat} {a b c : D} (ha : RD k w a) (hb : RD k w b) (hc : RD k w c) : RD (k + 1) (3 * (w + 1)) (.lst [a, b, c]) := RD.lst (m := 3) (fun d hd => by
  simp only [List.mem_cons, List.not_mem_nil, or_false] at hd
  rcases hd with rfl | rfl | rfl
  · exact ha
  · exact hb
  · exact hc) (Nat.le_refl 3)
theorem gEq_strs {M : Sto} {a : Str} : gEq (.str a) (.str a) M = .ok (.bl true) M := by
  have : gEq (.str a) (.str a) M = .ok (.bl (decide (a = a))) M := rfl
  rw [this, decide_eq_true rfl]
/-- what == answers for a value and itself -/
def QD (k : Nat) (d : D) : Prop := ∃ p, toPy d = some p ∧ p.canLay0 = true ∧ p.depth ≤ k ∧ PyData.eqv p p = true
theorem QD.all {k : Nat} : ∀ {ds : List D}, (∀ d ∈ ds, QD k d) → ∃ ps, toPys ds = some ps ∧ PyData.canLayAll0 ps = true ∧ PyData.depthAll ps ≤ k ∧ PyData.eqvAll ps ps = true
  | [], _ => ⟨[], rfl, rfl, Nat.zero_le _, by simp [PyData.eqvAll]⟩
  | d :: ds, h => by
    obtain ⟨ps, e, a1, a2, a3⟩ := QD.all fun y m => h y (List.mem_cons_of_mem _ m)
    obtain ⟨p, e1, b1, b2, b3⟩ := h d (List.mem_cons_self ..)
    refine ⟨p :: ps, by simp [toPys, e, e1], by simp [PyData.canLayAll0, a1, b1], ?_, by simp [PyData.eqvAll, a3, b3]⟩
    simp only [PyData.depthAll]
    omega
theorem QD.tup {k : Nat} {ds : List D} (h : ∀ d ∈ ds, QD k d) : QD (k + 1) (.tup ds) := by
  obtain ⟨ps, e, a1, a2, a3⟩ := QD.all h
  refine ⟨.tuple ps, by simp [toPy, e], by simpa [PyData.canLay0] using a1, ?_, by simpa [PyData.eqv] using a3⟩
  simp only [PyData.depth]
  omega
theorem QD.lst {k : Nat} {ds : List D} (h : ∀ d ∈ ds, QD k d) : QD (k + 1) (.lst ds) := by
  obtain ⟨ps, e, a1, a2, a3⟩ := QD.all h
  refine ⟨.list ps, by simp [toPy, e], by simpa [PyData.canLay0] using a1, ?_, by simpa [PyData.eqv] using a3⟩
  simp only [PyData.depth]
  omega
theorem QD.int (i : Int) : QD 0 (.int i) := ⟨.int i, rfl, rfl, Nat.le_refl _, by simp [PyData.eqv]⟩
theorem QD.row (v : Vec) : QD 1 (rowD v) := QD.tup fun d hd => by
  obtain ⟨x, _, rfl⟩ := List.mem_map.mp hd
  exact QD.int x
theorem QD.eq2 {k : Nat} {d : D} (h : QD k d) (hk : k ≤ 64) : eqD d d = some true := by
  obtain ⟨p, e, a1, a2, a3⟩ := h
  have hs : SeqAt.shaped p = true := by simp [SeqAt.shaped, a1]; omega
  unfold eqD
  simp [e, hs, a3]
theorem QD.drf {k : Nat} {d : D} (h : QD k d) {M : Sto} : deref M d = some d := by
  obtain ⟨p, e, _⟩ := h
  exact toPy_deref e
theorem strP_self {d : D} (h : eqD d d = some true) : eqD2 d d = some true := by
  cases d with
  | str a =>
    show some (decide (a = a)) = _
    rw [decide_eq_true rfl]
  | _ => exact h
theorem QD.ne {k : Nat} {d : D} (h : QD k d) (hk : k ≤ 64) {M : Sto} : gNe d d M = .ok (.bl false) M := by
  have e : (deref M d).bind (fun c => (deref M d).bind fun c' => eqD2 c c') = some true := by rw [h.drf, Option.bind_some, Option.bind_some, strP_self (h.eq2 hk)]
  show (match (deref M d).bind (fun c => (deref M d).bind fun c' => eqD2 c c') with
    | some b => Res.ok (D.bl (if true then !b else b)) M
    | none => .fail) = _
  rw [e]
  rfl
theorem QD.eq {k : Nat} {d : D} (h : QD k d) (hk : k ≤ 64) {M : Sto} : gEq d d M = .ok (.bl true) M := by
  have e : (deref M d).bind (fun c => (deref M d).bind fun c' => eqD2 c c') = some true := by rw [h.drf, Option.bind_some, Option.bind_some, strP_self (h.eq2 hk)]
  show (match (deref M d).bind (fun c => (deref M d).bind fun c' => eqD2 c c') with
    | some b => Res.ok (D.bl (if false then !b else b)) M
    | none => .fail) = _
  rw [e]
  rfl
def DrOk (f : Sem1) (m : Nat) : Prop := ∀ M (ns : List Int), ns.length ≤ 1000 → ∃ ds : List Int, f [.val (.scr ns), .val (.int m)] M = .ok (.lst (ds.map .int)) M
end Zy
set_option maxHeartbeats 2000000
namespace Zy
open PySem PySem.Spec PyProof.Rows L2
/-! own errors: rules, refused values -/
section
variable {env : Ev} {M : Sto} {y z : ZS} {x : ZX} {l : ZL} {i : Nat}
def raiseR (c : String) (flds : List Str) (env : Ev) (ds : List D) (M1 : Sto) : Out := if ds.length = flds.length then .exc c (flds.zip ds).reverse env M1 else .fail
@[simp] theorem zRaise_z {c : String} {flds : List Str} : zRaise c flds l env M = (l env M).toS env (raiseR c flds env) := id rfl
@[simp] theorem raiseR_one {c : String} {f : Str} {d : D} : raiseR c [f] env [d] M = .exc c [(f, d)] env M := id rfl
@[simp] theorem raiseR_two {c : String} {f g : Str} {d e : D} : raiseR c [f, g] env [d, e] M = .exc c [(g, e), (f, d)] env M := id rfl
def xatR (ok : String → Str → Bool) (f : Str) (d : D) (M1 : Sto) : Res D := match d with
  | .exn c fs => if realC c = true ∧ ok c f = true then (match fs.lookup f with
    | some v => .ok v M1
    | none => .fail) else .fail
  | _ => .fail
@[simp] theorem zXat_z {ok : String → Str → Bool} {f : Str} : zXat ok f x env M = (x env M).bind (xatR ok f) := id rfl
theorem xatR_ok {ok : String → Str → Bool} {c : String} {f : Str} {fs : List (Str × D)} {v : D} (h1 : realC c = true) (h2 : ok c f = true) (h3 : fs.lookup f = some v) : xatR ok f (.exn c fs) M = .ok v M := by
  unfold xatR
  simp only [h1, h2, h3, and_self, if_true]
def xisR (sub : String → Option Bool) (d : D) (M1 : Sto) : Res D := match d with
  | .exn c _ => if realC c = true then (match sub c with
    | some b => .ok (.bl b) M1
    | none => .fail) else .fail
  | _ => .fail
@[simp] theorem zXis_z {sub : String → Option Bool} : zXis sub x env M = (x env M).bind (xisR sub) := id rfl
theorem xisR_ok {sub : String → Option Bool} {c : String} {fs : List (Str × D)} {b : Bool} (h1 : realC c = true) (h2 : sub c = some b) : xisR sub (.exn c fs) M = .ok (.bl b) M := by
  unfold xisR
  simp only [h1, h2, if_true]
theorem zTry_nx {sub : String → Option Bool} {env' : Ev} {M' : Sto} (h : y env M = .nx env' M') : zTry sub i y z env M = .nx env' M' := by
  unfold zTry
  rw [h]
theorem zTry_rt {sub : String → Option Bool} {d : D} {M' : Sto} (h : y env M = .rt d M') : zTry sub i y z env M = .rt d M' := by
  unfold zTry
  rw [h]
theorem zTry_exc {sub : String → Option Bool} {c : String} {fs : List (Str × D)} {env' : Ev} {M' : Sto} {d : D} {M2 : Sto} (h : y env M = .exc c fs env' M') (hs : sub c = some true) (hz : z (env'.set i (.val (.exn c fs))) M' = .rt d M2) (h1 : purD d = true) (h2 : M2.all purD = true) :
    zTry sub i y z env M = .rt d M2 := by
  unfold zTry
  rw [h]
  simp only [hs, hz, catchO, h1, h2, and_self, if_true]
theorem purL_ints : ∀ ns : List Int, purL (ns.map .int) = true
  | [] => rfl
  | n :: ns => by
    rw [List.map_cons]
    simp only [purL, purD, purL_ints ns, Bool.and_self]
theorem Hd.pur {M : Sto} (h : Hd M) : M.all purD = true := by
  obtain ⟨ns, p, rfl, _⟩ := h
  simp [purD, purL, purL_ints]
end
/-! integers among plain values -/
def isI : D → Bool
  | .int _ => true
  | _ => false
def inB (d : D) (a b : Int) : Bool := match d with
  | .int i => decide (a ≤ i) && decide (i ≤ b)
  | _ => false
def IntP (f : Sem1) : Prop := ∀ M d, pl d = true → f [.val d] M = .ok (.bl (isI d)) M
def BetP (f : Sem1) : Prop := ∀ M d (a b : Int), pl d = true → f [.val d, .val (.int a), .val (.int b)] M = .ok (.bl (inB d a b)) M
def oIsInt : ZS := (zSeq (zFrz [] (zRet (zAndV (zIsi ["int"] (zCv 0)) (zNotV (zIsi ["bool"] (zCv 0)))))) zNx)
def oBetween (C : Str → Sem1) : ZS := (zSeq (zFrz [] (zRet (zAndV (zCall (C "is_integer") 1 0 [0] [] (sCons (zSv 0) sNil) sNil) (zCh gLe gLe (zCv 1) (zCv 0) (zCv 2))))) zNx)
theorem isiD_pl {d : D} {T : String} (h : pl d = true) : ∃ t, tyD d = some t ∧ isiD [T] d = some ([T].any (isTy t)) := by
  cases d <;> first | (cases h; done) | exact ⟨_, rfl, rfl⟩
theorem intP : IntP (zFun 1 1 oIsInt) := fun M d h => by
  have hd := pl_deref (M := M) h
  cases d <;> first
    | (cases h; done)
    | (simp [zFun, oIsInt, hd, isiD, tyD, isTy, isI]; done)
theorem betP {C : Str → Sem1} (h : IntP (C "is_integer")) : BetP (zFun 3 3 (oBetween C)) := fun M d a b hp => by
  have hi := h M d hp
  unfold zFun
  cases d <;> first
    | (cases hp; done)
    | (simp only [isI] at hi; simp [oBetween, hi, inB]; done)
    | (rename_i i
       simp only [isI] at hi
       by_cases h1 : a ≤ i <;> simp [oBetween, hi, zCh, h1, inB])
/-! what is shown of a refused value -/
def shB (d : D) : Bool := pl d && match reprD d with
  | some s => PyData.canLay0 (.str s) && PyData.eqv (.str s) (.str s)
  | none => false
structure ShOk (d : D) (s : Str) : Prop where
  p : pl d = true
  r : ∀ M, gRepr [d] M = .ok (.str s) M
  l : PyData.canLay0 (.str s) = true
  e : PyData.eqv (.str s) (.str s) = true
theorem shB_ok {d : D} (h : shB d = true) : ∃ s, ShOk d s := by
  unfold shB at h
  rw [Bool.and_eq_true] at h
  obtain ⟨h1, h2⟩ := h
  split at h2
  · rename_i s hs
    rw [Bool.and_eq_true] at h2
    refine ⟨s, h1, fun M => ?_, h2.1, h2.2⟩
    unfold gRepr
    simp only [pl_deref h1, Option.bind_some, hs]
  · cases h2
theorem eqD_strs {s : Str} {b c : Bool} (h1 : PyData.canLay0 (.str s) = true) (h2 : PyData.eqv (.str s) (.str s) = true) : eqD (.lst [.str s, .bl b]) (.lst [.str s, .bl c]) = some (b == c) := by
  unfold eqD
  simp [toPy, toPys, SeqAt.shaped, PyData.canLay0, PyData.canLayAll0, PyData.depth, PyData.depthAll, PyData.eqv, PyData.eqvAll] at *
  simp [h1, h2, PyData.eqv, PyData.eqvAll]
theorem RD.int3 {i : Int} (h0 : -1000000 ≤ i) (h : i ≤ 1000000) : RD 0 20 (.int i) := by
  have lg : i.natAbs.log2 < 20 := by
    by_cases hn : i.natAbs = 0
    · rw [hn]; decide
    · exact (Nat.log2_lt hn).mpr (Nat.lt_of_le_of_lt (show i.natAbs ≤ 1000000 by omega) (by decide))
  refine ⟨.int i, rfl, ?_, rfl, Nat.le_refl _, ?_, ?_⟩
  · simp only [PyData.showable, decide_eq_true_eq]
    exact Nat.lt_trans lg (by decide)
  · simp only [PyData.leavesShort, decide_eq_true_eq]
    exact PyData.shown_int_le (Nat.lt_of_le_of_lt (show i.natAbs ≤ 1000000 by omega) (by decide))
  · simp only [PyData.weight]
    split
    · decide
    · omega
theorem RD.non : RD 0 20 .non := ⟨.none, rfl, by decide +kernel, rfl, Nat.le_refl _, by decide +kernel, by decide +kernel⟩
theorem ReprOk.of {k w : Nat} {d : D} (h : RD k w d) (hk : k ≤ 60 := by decide) (hw : w ≤ 2 ^ 20 := by decide) : ReprOk d := h.repr hk hw
end Zy
set_option maxHeartbeats 2000000
namespace Zy
/-! two machines: Johnson's order is best, pure -/
def mxI (i j : Int) : Int := if j > i then j else i
theorem mxI_l {i j : Int} : i ≤ mxI i j := by unfold mxI; split <;> omega
theorem mxI_r {i j : Int} : j ≤ mxI i j := by unfold mxI; split <;> omega
theorem mxI_or {i j : Int} : mxI i j = i ∨ mxI i j = j := by unfold mxI; split <;> simp
theorem mxI_comm {i j : Int} : mxI i j = mxI j i := by unfold mxI; split <;> split <;> omega
def sm (n : Nat) (f : Nat → Int) : Int := ((List.range n).map f).sum
theorem sum_map_le {l : List Nat} {f g : Nat → Int} (h : ∀ j ∈ l, f j ≤ g j) : (l.map f).sum ≤ (l.map g).sum := by
  induction l with
  | nil => simp
  | cons a l ih =>
    have h1 := h a List.mem_cons_self
    have h2 := ih fun j hj => h j (List.mem_cons_of_mem _ hj)
    simp only [List.map_cons, List.sum_cons]
    omega
theorem sum_map_add {l : List Nat} {f g : Nat → Int} : (l.map fun j => f j + g j).sum = (l.map f).sum + (l.map g).sum := by
  induction l with
  | nil => simp
  | cons a l ih =>
    simp only [List.map_cons, List.sum_cons, ih]
    omega
theorem perm_sum {l l' : List Nat} (h : l.Perm l') (f : Nat → Int) : (l.map f).sum = (l'.map f).sum := by
  induction h with
  | nil => rfl
  | cons x _ ih => simp only [List.map_cons, List.sum_cons, ih]
  | swap x y l => simp only [List.map_cons, List.sum_cons]; omega
  | trans _ _ h1 h2 => rw [h1, h2]
theorem sm_perm {n : Nat} {l : List Nat} (h : l.Perm (List.range n)) (f : Nat → Int) : (l.map f).sum = sm n f := perm_sum h f
theorem sm_le {n : Nat} {f g : Nat → Int} (h : ∀ j, j < n → f j ≤ g j) : sm n f ≤ sm n g := sum_map_le fun j hj => h j (by simpa using hj)
theorem sum_zero {l : List Nat} {f : Nat → Int} (h : ∀ j ∈ l, f j = 0) : (l.map f).sum = 0 := by
  induction l with
  | nil => rfl
  | cons a l ih =>
    rw [List.map_cons, List.sum_cons, h a List.mem_cons_self, ih fun j hj => h j (List.mem_cons_of_mem _ hj)]
    rfl
theorem sum_same {l : List Nat} {f g : Nat → Int} (h : ∀ j ∈ l, f j = g j) : (l.map f).sum = (l.map g).sum := by
  rw [List.map_congr_left h]
theorem sm_one {n y : Nat} (hy : y < n) (c : Int) : sm n (fun j => if j = y then c else 0) = c := by
  have hp : (List.range n).Perm (y :: (List.range n).erase y) := List.perm_cons_erase (by simpa using hy)
  unfold sm
  rw [perm_sum hp, List.map_cons, List.sum_cons, if_pos rfl, sum_zero fun j hj => ?_]
  · omega
  · have : j ≠ y := fun z => by
      subst z
      exact (List.nodup_range.not_mem_erase) hj
    rw [if_neg this]
section
variable {A B : Nat → Int}
def stpJ (A B : Nat → Int) (q : Int × Int) (j : Nat) : Int × Int := (q.1 + A j, mxI (q.1 + A j) q.2 + B j)
/-- where the end comes from -/
theorem crit : ∀ {J : List Nat} {q : Int × Int}, (J.foldl (stpJ A B) q).2 = q.2 + (J.map B).sum ∨ ∃ P x S, J = P ++ x :: S ∧ (J.foldl (stpJ A B) q).2 = q.1 + (P.map A).sum + A x + B x + (S.map B).sum
  | [], q => .inl (by simp)
  | j :: J, q => by
    rcases crit (J := J) (q := stpJ A B q j) with h | ⟨P, x, S, e, h⟩
    · rw [List.foldl_cons, h]
      unfold stpJ
      rcases mxI_or (i := q.1 + A j) (j := q.2) with m | m
      · refine .inr ⟨[], j, J, rfl, ?_⟩
        simp only [m, List.map_nil, List.sum_nil]
        omega
      · refine .inl ?_
        simp only [m, List.map_cons, List.sum_cons]
        omega
    · refine .inr ⟨j :: P, x, S, by rw [e]; rfl, ?_⟩
      rw [List.foldl_cons, h]
      unfold stpJ
      simp only [List.map_cons, List.sum_cons]
      omega
/-- the end by two orders; E tells when each leaves the first machine -/
def lendE (E B : Nat → Int) (l : List Nat) (t : Int) : Int := l.foldl (fun t j => mxI t (E j) + B j) t
theorem lend_grow {E : Nat → Int} (hB : ∀ j, 0 ≤ B j) : ∀ {l : List Nat} {t : Int}, t + (l.map B).sum ≤ lendE E B l t
  | [], t => by simp [lendE]
  | j :: l, t => by
    have := lend_grow (E := E) hB (l := l) (t := mxI t (E j) + B j)
    have h := mxI_l (i := t) (j := E j)
    unfold lendE at this ⊢
    rw [List.foldl_cons]
    simp only [List.map_cons, List.sum_cons]
    omega
theorem lend_at {E : Nat → Int} (hB : ∀ j, 0 ≤ B j) {P S : List Nat} {z : Nat} {t : Int} : E z + B z + (S.map B).sum ≤ lendE E B (P ++ z :: S) t := by
  unfold lendE
  rw [List.foldl_append, List.foldl_cons]
  have := lend_grow (E := E) hB (l := S) (t := mxI (P.foldl (fun t j => mxI t (E j) + B j) t) (E z) + B z)
  have h := mxI_r (i := P.foldl (fun t j => mxI t (E j) + B j) t) (j := E z)
  unfold lendE at this
  omega
theorem argmin (p : Nat → Nat) {U : Nat → Prop} : ∀ k u, U u → p u ≤ k → ∃ y, U y ∧ ∀ v, U v → p y ≤ p v := by
  intro k
  induction k with
  | zero => exact fun u hu h => ⟨u, hu, fun v _ => by omega⟩
  | succ k ih =>
    intro u hu h
    by_cases g : ∃ v, U v ∧ p v ≤ k
    · obtain ⟨v, h1, h2⟩ := g
      exact ih v h1 h2
    · refine ⟨u, hu, fun v hv => ?_⟩
      rcases Nat.lt_or_ge k (p v) with z | z
      · omega
      · exact absurd ⟨v, hv, z⟩ g
theorem argmax (p : Nat → Nat) {U : Nat → Prop} {b : Nat} (hb : ∀ v, U v → p v ≤ b) {u : Nat} (hu : U u) : ∃ y, U y ∧ ∀ v, U v → p v ≤ p y := by
  obtain ⟨y, h1, h2⟩ := argmin (fun v => b - p v) (U := U) (b - p u) u hu (Nat.le_refl _)
  refine ⟨y, h1, fun v hv => ?_⟩
  have a := h2 v hv
  have c := hb v hv
  have d := hb y h1
  omega
/-- sums by places in an order -/
theorem split_at {l : List Nat} {z : Nat} (hz : z ∈ l) (hn : l.Nodup) : ∃ P S, l = P ++ z :: S ∧ (∀ j ∈ P, l.idxOf j < l.idxOf z) ∧ (∀ j ∈ S, l.idxOf z < l.idxOf j) := by
  obtain ⟨P, S, rfl⟩ := List.append_of_mem hz
  refine ⟨P, S, rfl, fun j hj => ?_, fun j hj => ?_⟩
  · have hnz : z ∉ P := fun h => (List.nodup_append.mp hn).2.2 z h z (by simp) rfl
    rw [List.idxOf_append, List.idxOf_append, if_pos hj, if_neg hnz, List.idxOf_cons_self]
    have := List.idxOf_lt_length_of_mem hj
    omega
  · have hnz : z ∉ P := fun h => (List.nodup_append.mp hn).2.2 z h z (by simp) rfl
    have hjP : j ∉ P := fun h => (List.nodup_append.mp hn).2.2 j h j (by simp [hj]) rfl
    have hjz : z ≠ j := fun e => by
      subst e
      exact (List.nodup_cons.mp (List.nodup_append.mp hn).2.1).1 hj
    have hq : (z == j) = false := by simpa using hjz
    rw [List.idxOf_append, List.idxOf_append, if_neg hnz, if_neg hjP, List.idxOf_cons_self, List.idxOf_cons, hq]
    simp only [cond_false]
    omega
def endA (A : Nat → Int) (n : Nat) (l : List Nat) (z : Nat) : Int := sm n fun j => if l.idxOf j ≤ l.idxOf z then A j else 0
variable {n : Nat} {l l2 : List Nat}
theorem lend_z (hB : ∀ j, 0 ≤ B j) (h2 : l2.Perm (List.range n)) {E : Nat → Int} {z : Nat} (hz : z < n) : E z + sm n (fun j => if l2.idxOf z ≤ l2.idxOf j then B j else 0) ≤ lendE E B l2 0 := by
  have hn : l2.Nodup := h2.nodup_iff.mpr List.nodup_range
  obtain ⟨P, S, e, hP, hS⟩ := split_at (l := l2) (z := z) (h2.mem_iff.mpr (by simpa using hz)) hn
  have g := lend_at (E := E) hB (P := P) (S := S) (z := z) (t := 0)
  rw [← e] at g
  have s : sm n (fun j => if l2.idxOf z ≤ l2.idxOf j then B j else 0) = B z + (S.map B).sum := by
    rw [← sm_perm h2]
    have : l2.map (fun j => if l2.idxOf z ≤ l2.idxOf j then B j else 0) = (P ++ z :: S).map (fun j => if l2.idxOf z ≤ l2.idxOf j then B j else 0) := by rw [← e]
    rw [this, List.map_append, List.sum_append, List.map_cons, List.sum_cons, if_pos (Nat.le_refl _), sum_zero (l := P) fun j hj => if_neg (by have := hP j hj; omega), sum_same (l := S) (g := B) fun j hj => if_pos (by have := hS j hj; omega)]
    omega
  omega
theorem key_pi (hA : ∀ j, 0 ≤ A j) (hB : ∀ j, 0 ≤ B j) (h1 : l.Perm (List.range n)) (h2 : l2.Perm (List.range n)) {y : Nat} (hy : y < n) : sm n (fun j => (if l.idxOf j ≤ l.idxOf y then A j else 0) + (if l.idxOf y ≤ l.idxOf j then B j else 0)) ≤ lendE (endA A n l) B l2 0 := by
  obtain ⟨z, ⟨z1, z2⟩, hz⟩ := argmin (fun v => l2.idxOf v) (U := fun v => v < n ∧ l.idxOf y ≤ l.idxOf v) (l2.idxOf y) y ⟨hy, Nat.le_refl _⟩ (Nat.le_refl _)
  have g := lend_z hB h2 (E := endA A n l) z1
  have e : sm n (fun j => (if l.idxOf j ≤ l.idxOf y then A j else 0) + (if l.idxOf y ≤ l.idxOf j then B j else 0)) ≤ sm n (fun j => (if l.idxOf j ≤ l.idxOf z then A j else 0) + (if l2.idxOf z ≤ l2.idxOf j then B j else 0)) := sm_le fun j hj => by
    have a := hA j
    have b := hB j
    have c : l.idxOf y ≤ l.idxOf j → l2.idxOf z ≤ l2.idxOf j := fun h => hz j ⟨hj, h⟩
    split <;> split <;> split <;> split <;> omega
  have s : sm n (fun j => (if l.idxOf j ≤ l.idxOf z then A j else 0) + (if l2.idxOf z ≤ l2.idxOf j then B j else 0)) = endA A n l z + sm n (fun j => if l2.idxOf z ≤ l2.idxOf j then B j else 0) := sum_map_add
  omega
theorem key_si (hA : ∀ j, 0 ≤ A j) (hB : ∀ j, 0 ≤ B j) (h1 : l.Perm (List.range n)) (h2 : l2.Perm (List.range n)) {y : Nat} (hy : y < n) : sm n (fun j => (if l2.idxOf j ≤ l2.idxOf y then A j else 0) + (if l2.idxOf y ≤ l2.idxOf j then B j else 0)) ≤ lendE (endA A n l) B l2 0 := by
  obtain ⟨z, ⟨z1, z2⟩, hz⟩ := argmax (fun v => l.idxOf v) (U := fun v => v < n ∧ l2.idxOf v ≤ l2.idxOf y) (b := l.length) (fun v _ => List.idxOf_le_length) (u := y) ⟨hy, Nat.le_refl _⟩
  have g := lend_z hB h2 (E := endA A n l) z1
  have e : sm n (fun j => (if l2.idxOf j ≤ l2.idxOf y then A j else 0) + (if l2.idxOf y ≤ l2.idxOf j then B j else 0)) ≤ sm n (fun j => (if l.idxOf j ≤ l.idxOf z then A j else 0) + (if l2.idxOf z ≤ l2.idxOf j then B j else 0)) := sm_le fun j hj => by
    have a := hA j
    have b := hB j
    have c : l2.idxOf j ≤ l2.idxOf y → l.idxOf j ≤ l.idxOf z := fun h => hz j ⟨hj, h⟩
    split <;> split <;> split <;> split <;> omega
  have s : sm n (fun j => (if l.idxOf j ≤ l.idxOf z then A j else 0) + (if l2.idxOf z ≤ l2.idxOf j then B j else 0)) = endA A n l z + sm n (fun j => if l2.idxOf z ≤ l2.idxOf j then B j else 0) := sum_map_add
  omega
/-- Johnson's order -/
def JR (A B : Nat → Int) (j k : Nat) : Prop := (A j < B j ∧ A k < B k ∧ A j ≤ A k) ∨ (A j < B j ∧ B k ≤ A k) ∨ (B j ≤ A j ∧ B k ≤ A k ∧ B k ≤ B j)
theorem johnson (hA : ∀ j, 0 ≤ A j) (hB : ∀ j, 0 ≤ B j) (h1 : l.Perm (List.range n)) (h2 : l2.Perm (List.range n)) {J : List Nat} (hJ : J.Perm (List.range n)) (hR : J.Pairwise (JR A B)) : (J.foldl (stpJ A B) (0, 0)).2 ≤ lendE (endA A n l) B l2 0 := by
  rcases crit (A := A) (B := B) (J := J) (q := (0, 0)) with h | ⟨P, x, S, e, h⟩
  · rw [h, perm_sum (hJ.trans h2.symm)]
    have := lend_grow (E := endA A n l) hB (l := l2) (t := 0)
    simpa using this
  · rw [h]
    subst e
    have hn : (P ++ x :: S).Nodup := hJ.nodup_iff.mpr List.nodup_range
    have hxn : x < n := by
      have := hJ.mem_iff.mp (show x ∈ P ++ x :: S by simp)
      simpa using this
    have rP : ∀ p ∈ P, JR A B p x := fun p hp => (List.pairwise_append.mp hR).2.2 p hp x (by simp)
    have rS : ∀ s ∈ S, JR A B x s := (List.pairwise_cons.mp (List.pairwise_append.mp hR).2.1).1
    have inP : ∀ p ∈ P, p ≠ x ∧ p ∉ S := fun p hp => ⟨fun z => (List.nodup_append.mp hn).2.2 p hp x (by simp) z, fun z => (List.nodup_append.mp hn).2.2 p hp p (by simp [z]) rfl⟩
    have xS : x ∉ S := (List.nodup_cons.mp (List.nodup_append.mp hn).2.1).1
    have all : ∀ j, j < n → j ∈ P ∨ j = x ∨ j ∈ S := fun j hj => by
      have := hJ.mem_iff.mpr (show j ∈ List.range n by simpa using hj)
      simpa using this
    have mP : ∀ p ∈ P, p < n := fun p hp => by
      have := hJ.mem_iff.mp (show p ∈ P ++ x :: S by simp [hp])
      simpa using this
    by_cases hx : A x < B x
    · obtain ⟨y, ⟨y1, y2, y3⟩, hy⟩ := argmin (fun v => l.idxOf v) (U := fun v => v < n ∧ (v = x ∨ v ∈ S) ∧ A v < B v) (l.idxOf x) x ⟨hxn, .inl rfl, hx⟩ (Nat.le_refl _)
      have g := key_pi hA hB h1 h2 y1
      have ay : A x ≤ A y := by
        rcases y2 with rfl | y2
        · omega
        · rcases rS y y2 with r | r | r <;> omega
      have s : sm n (fun j => (if j ∈ P then A j else B j) + (if j = y then A x else 0)) ≤ sm n (fun j => (if l.idxOf j ≤ l.idxOf y then A j else 0) + (if l.idxOf y ≤ l.idxOf j then B j else 0)) := sm_le fun j hj => by
        have a := hA j
        have b := hB j
        by_cases hjy : j = y
        · subst hjy
          have : j ∉ P := fun z => by
            rcases y2 with rfl | y2
            · exact (inP _ z).1 rfl
            · exact (inP _ z).2 y2
          rw [if_neg this, if_pos rfl, if_pos (Nat.le_refl _), if_pos (Nat.le_refl _)]
          omega
        · rw [if_neg hjy]
          by_cases hjP : j ∈ P
          · rw [if_pos hjP]
            have : A j < B j := by rcases rP j hjP with r | r | r <;> omega
            split <;> split <;> omega
          · rw [if_neg hjP]
            have hjS : j = x ∨ j ∈ S := (all j hj).resolve_left hjP
            by_cases hf : A j < B j
            · have := hy j ⟨hj, hjS, hf⟩
              rw [if_pos this]
              split <;> omega
            · split <;> split <;> omega
      have t : sm n (fun j => (if j ∈ P then A j else B j) + (if j = y then A x else 0)) = sm n (fun j => if j ∈ P then A j else B j) + A x := by
        have e := sum_map_add (l := List.range n) (f := fun j => if j ∈ P then A j else B j) (g := fun j => if j = y then A x else 0)
        have o := sm_one y1 (A x)
        unfold sm at o ⊢
        rw [e, o]
      have u : sm n (fun j => if j ∈ P then A j else B j) = (P.map A).sum + (B x + (S.map B).sum) := by
        rw [← sm_perm hJ, List.map_append, List.sum_append, List.map_cons, List.sum_cons, sum_same (l := P) (g := A) fun j hj => if_pos hj, if_neg fun z => (inP x z).1 rfl, sum_same (l := S) (g := B) fun j hj => if_neg fun z => (inP j z).2 hj]
      omega
    · obtain ⟨y, ⟨y1, y2, y3⟩, hy⟩ := argmax (fun v => l2.idxOf v) (U := fun v => v < n ∧ (v = x ∨ v ∈ P) ∧ B v ≤ A v) (b := l2.length) (fun v _ => List.idxOf_le_length) (u := x) ⟨hxn, .inl rfl, by omega⟩
      have g := key_si hA hB h1 h2 y1
      have by' : B x ≤ B y := by
        rcases y2 with rfl | y2
        · omega
        · rcases rP y y2 with r | r | r <;> omega
      have s : sm n (fun j => (if j ∈ S then B j else A j) + (if j = y then B x else 0)) ≤ sm n (fun j => (if l2.idxOf j ≤ l2.idxOf y then A j else 0) + (if l2.idxOf y ≤ l2.idxOf j then B j else 0)) := sm_le fun j hj => by
        have a := hA j
        have b := hB j
        by_cases hjy : j = y
        · subst hjy
          have : j ∉ S := fun z => by
            rcases y2 with rfl | y2
            · exact xS z
            · exact (inP _ y2).2 z
          rw [if_neg this, if_pos rfl, if_pos (Nat.le_refl _), if_pos (Nat.le_refl _)]
          omega
        · rw [if_neg hjy]
          by_cases hjS : j ∈ S
          · rw [if_pos hjS]
            have : B j ≤ A j := by rcases rS j hjS with r | r | r <;> omega
            split <;> split <;> omega
          · rw [if_neg hjS]
            have hjP : j = x ∨ j ∈ P := by
              rcases all j hj with z | z | z
              · exact .inr z
              · exact .inl z
              · exact absurd z hjS
            by_cases hf : A j < B j
            · split <;> split <;> omega
            · have := hy j ⟨hj, hjP, by omega⟩
              rw [if_pos this]
              split <;> omega
      have t : sm n (fun j => (if j ∈ S then B j else A j) + (if j = y then B x else 0)) = sm n (fun j => if j ∈ S then B j else A j) + B x := by
        have e := sum_map_add (l := List.range n) (f := fun j => if j ∈ S then B j else A j) (g := fun j => if j = y then B x else 0)
        have o := sm_one y1 (B x)
        unfold sm at o ⊢
        rw [e, o]
      have u : sm n (fun j => if j ∈ S then B j else A j) = (P.map A).sum + (A x + (S.map B).sum) := by
        rw [← sm_perm hJ, List.map_append, List.sum_append, List.map_cons, List.sum_cons, sum_same (l := P) (g := A) fun j hj => if_neg (inP j hj).2, if_neg xS, sum_same (l := S) (g := B) fun j hj => if_pos hj]
      omega
end
end Zy
set_option maxHeartbeats 2000000
namespace Zy
open PySem PySem.Spec PyProof.Rows L2
/-! two machines: makespan, the law's end -/
abbrev Wk := List (Int × Int)
def natsD (k : List Nat) : List D := k.map fun m => .int (m : Nat)
theorem natsD_len {k : List Nat} : (natsD k).length = k.length := List.length_map ..
theorem natsD_app {k : List Nat} {r : Nat} : natsD (k ++ [r]) = natsD k ++ [.int (r : Nat)] := by simp [natsD]
def WksD (d : D) (W : Wk) : Prop := ∃ g : (Int × Int) → D, itemsD d = some (W.map g) ∧ ∀ w, itemsD (g w) = some [.int w.1, .int w.2]
def aW (W : Wk) (j : Nat) : Int := (W.getD j (0, 0)).1
def bW (W : Wk) (j : Nat) : Int := (W.getD j (0, 0)).2
def OrdS (s : Sl) (l : List Nat) : Prop := ∃ d, (s = .val d ∨ s = .bor d) ∧ itemsD d = some (natsD l)
theorem WksD.at {d : D} {W : Wk} (h : WksD d W) {j : Nat} (hj : j < W.length) {M : Sto} : ∃ w, gIx d (.int (j : Nat)) M = .ok w M ∧ itemsD w = some [.int (aW W j), .int (bW W j)] ∧ gIx w (.int 0) M = .ok (.int (aW W j)) M ∧ gIx w (.int 1) M = .ok (.int (bW W j)) M := by
  obtain ⟨g, h1, h2⟩ := h
  have hw : W[j]? = some (W.getD j (0, 0)) := by rw [List.getD_eq_getElem?_getD, List.getElem?_eq_getElem hj]; rfl
  have h3 := h2 (W.getD j (0, 0))
  refine ⟨g (W.getD j (0, 0)), gIx_map hw h1, h3, ?_, ?_⟩
  · exact gIx_of h3 (n := 0) rfl (deref_items h3)
  · exact gIx_of h3 (n := 1) rfl (deref_items h3)
def msB : ZS := (zSeq (zFrz [] (zAsg (tgT [5, 6]) (zOp gIx (zCv 0) (zCv 4))))
      (zSeq (zFrz [] (zAugN 2 (fun i j => i + j) (zVar 5)))
      (zSeq (zFrz [] (zSet 3 (zOp gAdd (zBf gMax2 (zCons (zCv 2) (zCons (zCv 3) zNil))) (zCv 6))))
      zNx)))
theorem gMax2_mx {a b : Int} {M : Sto} : gMax2 [.int a, .int b] M = .ok (.int (mxI a b)) M := rfl
theorem msB_ok {dw : D} {W : Wk} {s e5 e6 : Sl} {a e : Int} {j : Nat} {M : Sto} (h : WksD dw W) (hj : j < W.length) : ∃ e5' e6', msB [.val dw, s, .val (.int a), .val (.int e), .val (.int (j : Nat)), e5, e6] M = .nx [.val dw, s, .val (.int (stpJ (aW W) (bW W) (a, e) j).1), .val (.int (stpJ (aW W) (bW W) (a, e) j).2), .val (.int (j : Nat)), e5', e6'] M := by
  obtain ⟨w, h1, h2, _⟩ := h.at (M := M) hj
  have tt : tgT [5, 6] w [.val dw, s, .val (.int a), .val (.int e), .val (.int (j : Nat)), e5, e6] = some [.val dw, s, .val (.int a), .val (.int e), .val (.int (j : Nat)), .val (.int (aW W j)), .val (.int (bW W j))] := by
    unfold tgT
    rw [h2]
    rfl
  refine ⟨.val (.int (aW W j)), .val (.int (bW W j)), ?_⟩
  unfold stpJ
  simp only [zSeq_z, zFrz_z, zSet_z, zSetO_z, zRet_z, zDrop_z, zIfS_z, zTst_z, zTru_z, zNot_z, zAnd_z, zOr_z, zAndV_z, zNotV_z, zIf_z, zOp_z, zBf_z, zCons_z, zNil_z, zCall_z, sCons_z, sNil_z, zSv_z, zVl_z, zCv_z, zBv_z, zVar_z, zK_z, zNeg_z, zTup_z, zLst_z, zTupOf_z, zLstOf_z, zLen_z, zAt_z, zProp_z, zApp_z, zAugN_z, zSeqI_z, zRng1_z, zRng2_z, zAsg_z, zPart_z, zNoP_z, getPl, setPl, wipeE, List.getElem?_cons_succ, List.getElem?_cons_zero, List.set_cons_succ, List.set_cons_zero, Res.bind_ok, Res.toS_ok, callR1, callR2, callR3, callR0_4, callRk1, callRk2, callRk3', callRk4', List.length_cons, List.length_nil, Nat.zero_add, Nat.reduceAdd, sz1, sz2, sz3, sz4, sz5, sz6, sz7, sz8, if_true, if_false, Bool.false_eq_true, Bool.not_true, Bool.not_false, zNx_z, zBk_z, zCt_z, itemsD_lst, itemsD_tup, deref_bl, deref_int, deref_str, deref_tup, deref_lst, Option.bind_some, truD, gAdd_int, gSub_int, gMul_int, gMod_int, gCmpI_int, gEq_int, gInt_int, lenR_lst, lenR_blst, lenR_tup, decide_true, decide_false, true_or, or_true, List.map_cons, List.map_nil, msB, h1, tt, gMax2_mx]
def mkS (W : Wk) (l : List Nat) : Int := (l.foldl (stpJ (aW W) (bW W)) (0, 0)).2
theorem ord_zi {s : Sl} {l : List Nat} (h : OrdS s l) {i : Nat} {env : Ev} {M : Sto} (he : env[i]? = some s) : zSeqI (zBv i) env M = .ok (natsD l) M := by
  obtain ⟨d, h1, h2⟩ := h
  rcases h1 with rfl | rfl <;> simp [he, h2]
theorem nats_at {l : List Nat} {i : Nat} {d : D} (h : (natsD l)[i]? = some d) : ∃ j, l[i]? = some j ∧ d = .int (j : Nat) := by
  unfold natsD at h
  rw [List.getElem?_map] at h
  cases q : l[i]? with
  | none => rw [q] at h; cases h
  | some j => rw [q] at h; cases h; exact ⟨j, rfl, rfl⟩
theorem take_next {l : List Nat} {i j : Nat} (h : l[i]? = some j) : l.take (i + 1) = l.take i ++ [j] := by rw [List.take_add_one, h]; rfl
theorem ms_loop {dw : D} {W : Wk} {s : Sl} {l : List Nat} {M : Sto} (h : WksD dw W) (hs : OrdS s l) (hl : ∀ j ∈ l, j < W.length) : ∃ a e4 e5 e6, zFor (zSeqI (zBv 1)) (tgN 4) msB [.val dw, s, .val (.int 0), .val (.int 0), .no, .no, .no] M = .nx [.val dw, s, .val (.int a), .val (.int (mkS W l)), e4, e5, e6] M := by
  have hb := fun (a e : Int) (j : Nat) (e5 e6 : Sl) hj => msB_ok (s := s) (e5 := e5) (e6 := e6) (a := a) (e := e) (j := j) (M := M) h hj
  generalize msB = y at hb
  refine zFor_gen (ord_zi hs rfl) (I := fun i env M' => ∃ e4 e5 e6, M' = M ∧ env = [.val dw, s, .val (.int ((l.take i).foldl (stpJ (aW W) (bW W)) (0, 0)).1), .val (.int ((l.take i).foldl (stpJ (aW W) (bW W)) (0, 0)).2), e4, e5, e6]) (Q := fun o => ∃ a e4 e5 e6, o = .nx [.val dw, s, .val (.int a), .val (.int (mkS W l)), e4, e5, e6] M) ⟨.no, .no, .no, rfl, rfl⟩ (fun i x env M' hx hI => ?_) fun env M' hI => ?_
  · obtain ⟨e4, e5, e6, rfl, rfl⟩ := hI
    obtain ⟨j, hj, rfl⟩ := nats_at hx
    obtain ⟨f5, f6, q⟩ := hb ((l.take i).foldl (stpJ (aW W) (bW W)) (0, 0)).1 ((l.take i).foldl (stpJ (aW W) (bW W)) (0, 0)).2 j e5 e6 (hl j (List.mem_of_getElem? hj))
    refine ⟨_, rfl, ?_⟩
    show stepO _ _ (y [.val dw, s, _, _, .val (.int (j : Nat)), e5, e6] M')
    rw [q]
    refine ⟨.val (.int (j : Nat)), f5, f6, rfl, ?_⟩
    rw [take_next hj, List.foldl_append]
    rfl
  · obtain ⟨e4, e5, e6, rfl, rfl⟩ := hI
    rw [natsD_len, List.take_length]
    exact ⟨_, e4, e5, e6, rfl⟩
def MsOk (f : Sem1) : Prop := ∀ M dw W s l, WksD dw W → OrdS s l → (∀ j ∈ l, j < W.length) → f [.val dw, s] M = .ok (.int (mkS W l)) M
def kMs (y : ZS) : ZS :=
  (zSeq (zFrz [] (zSet 2 (zK (.int 0))))
      (zSeq (zFrz [] (zSet 3 (zK (.int 0))))
      (zSeq (zFrz [] y)
      (zSeq (zFrz [] (zRet (zVar 3)))
      zNx))))
theorem ms_seq {y : ZS} {dw : D} {s e4 e5 e6 : Sl} {a r : Int} {M : Sto} (h : y [.val dw, s, .val (.int 0), .val (.int 0), .no, .no, .no] M = .nx [.val dw, s, .val (.int a), .val (.int r), e4, e5, e6] M) : zFun 2 7 (kMs y) [.val dw, s] M = .ok (.int r) M := by
  unfold zFun
  simp [kMs, h]
theorem msOk : MsOk (zFun 2 7 (kMs (zFor (zSeqI (zBv 1)) (tgN 4) msB))) := fun M dw W s l h hs hl => by
  obtain ⟨a, e4, e5, e6, q⟩ := ms_loop (M := M) h hs hl
  exact ms_seq q
/-! the law's end -/
def kvs (A : Nat → Int) : Int → List Nat → List (Key × D)
  | _, [] => []
  | t, j :: l => (.inl (j : Nat), .int (t + A j)) :: kvs A (t + A j) l
theorem kvs_app {A : Nat → Int} : ∀ {l : List Nat} {t : Int} {j : Nat}, kvs A t (l ++ [j]) = kvs A t l ++ [(.inl (j : Nat), .int (t + (l.map A).sum + A j))]
  | [], t, j => by simp [kvs]
  | a :: l, t, j => by
    simp only [List.cons_append, kvs, kvs_app, List.map_cons, List.sum_cons]
    rw [show t + A a + (l.map A).sum + A j = t + (A a + (l.map A).sum) + A j by omega]
theorem kvs_len {A : Nat → Int} : ∀ {l : List Nat} {t : Int}, (kvs A t l).length = l.length
  | [], _ => rfl
  | a :: l, t => by simp [kvs, kvs_len]
theorem kvs_new {A : Nat → Int} {j : Nat} : ∀ {l : List Nat} {t : Int}, j ∉ l → ((kvs A t l).any fun kv => decide (kv.1 = (.inl ((j : Nat) : Int) : Key))) = false
  | [], _, _ => rfl
  | a :: l, t, h => by
    simp only [List.mem_cons, not_or] at h
    simp only [kvs, List.any_cons, kvs_new h.2, Bool.or_false, decide_eq_false_iff_not]
    intro e
    have := Sum.inl.inj e
    omega
theorem kvs_put {A : Nat → Int} {j : Nat} {l : List Nat} {t : Int} {v : D} (h : j ∉ l) : dputD (kvs A t l) (.inl ((j : Nat) : Int) : Key) v = kvs A t l ++ [(.inl ((j : Nat) : Int), v)] := by
  unfold dputD
  rw [kvs_new h]
  rfl
theorem kvs_val {A : Nat → Int} {z : Nat} : ∀ {P S : List Nat} {t : Int}, z ∉ P → valD (kvs A t (P ++ z :: S)) (.inl ((z : Nat) : Int) : Key) = some (.int (t + (P.map A).sum + A z))
  | [], S, t, _ => by simp [kvs, valD]
  | a :: P, S, t, h => by
    simp only [List.mem_cons, not_or] at h
    have ih := kvs_val (A := A) (P := P) (S := S) (t := t + A a) h.2
    unfold valD at ih ⊢
    simp only [List.cons_append, kvs, List.find?_cons]
    have : decide ((.inl ((a : Nat) : Int) : Key) = .inl ((z : Nat) : Int)) = false := by
      rw [decide_eq_false_iff_not]
      intro e
      have := Sum.inl.inj e
      omega
    rw [this]
    simp only
    rw [ih]
    simp only [List.map_cons, List.sum_cons]
    rw [show t + A a + (P.map A).sum + A z = t + (A a + (P.map A).sum) + A z by omega]
theorem endA_split {A : Nat → Int} {n : Nat} {l P S : List Nat} {z : Nat} (h : l.Perm (List.range n)) (e : l = P ++ z :: S) : endA A n l z = (P.map A).sum + A z ∧ z ∉ P := by
  have hn : l.Nodup := h.nodup_iff.mpr List.nodup_range
  have hnz : z ∉ P := fun q => by
    rw [e] at hn
    exact (List.nodup_append.mp hn).2.2 z q z (by simp) rfl
  obtain ⟨P', S', e', hP, hS⟩ := split_at (l := l) (z := z) (by rw [e]; simp) hn
  have iz : l.idxOf z = P.length := by rw [e, List.idxOf_append, if_neg hnz, List.idxOf_cons_self]; omega
  have iz' : l.idxOf z = P'.length := by
    have hz' : z ∉ P' := fun q => by
      rw [e'] at hn
      exact (List.nodup_append.mp hn).2.2 z q z (by simp) rfl
    rw [e', List.idxOf_append, if_neg hz', List.idxOf_cons_self]
    omega
  have pp : P' = P := by
    have a1 : l.take P.length = P := by rw [e]; simp
    have a2 : l.take P'.length = P' := by rw [e']; simp
    rw [← a2, ← a1, ← iz, ← iz']
  subst pp
  refine ⟨?_, hnz⟩
  unfold endA
  rw [← sm_perm h]
  have : l.map (fun j => if l.idxOf j ≤ l.idxOf z then A j else 0) = (P' ++ z :: S').map (fun j => if l.idxOf j ≤ l.idxOf z then A j else 0) := by rw [← e']
  rw [this, List.map_append, List.sum_append, List.map_cons, List.sum_cons, if_pos (Nat.le_refl _), sum_same (l := P') (g := A) fun j hj => if_pos (by have := hP j hj; omega), sum_zero (l := S') fun j hj => if_neg (by have := hS j hj; omega)]
  omega
abbrev leE (dw : D) (s1 s2 : Sl) (kv : List (Key × D)) (t : Int) (e5 : Sl) : Ev := [.val dw, s1, s2, .own (.dK kv), .val (.int t), e5]
def leX : ZS := (zSeq (zFrz [] (zSet 4 (zOp gAdd (zCv 4) (zOp gIx (zOp gIx (zCv 0) (zCv 5)) (zK (.int 0))))))
      (zSeq (zFrz [] (zPut 3 (zVar 4) (zVar 5)))
      zNx))
theorem leX_ok {dw : D} {W : Wk} {s1 s2 : Sl} {kv : List (Key × D)} {t : Int} {j : Nat} {M : Sto} (h : WksD dw W) (hj : j < W.length) (hk : kv.length ≤ 1000) : leX (leE dw s1 s2 kv t (.val (.int (j : Nat)))) M = .nx (leE dw s1 s2 (dputD kv (.inl ((j : Nat) : Int)) (.int (t + aW W j))) (t + aW W j) (.val (.int (j : Nat)))) M := by
  obtain ⟨w, h1, _, h3, _⟩ := h.at (M := M) hj
  have hl : kv.length < sizeLine := Nat.lt_of_lt_of_le (show kv.length < 1001 by omega) (by decide)
  simp only [zSeq_z, zFrz_z, zSet_z, zSetO_z, zRet_z, zDrop_z, zIfS_z, zTst_z, zTru_z, zNot_z, zAnd_z, zOr_z, zAndV_z, zNotV_z, zIf_z, zOp_z, zBf_z, zCons_z, zNil_z, zCall_z, sCons_z, sNil_z, zSv_z, zVl_z, zCv_z, zBv_z, zVar_z, zK_z, zNeg_z, zTup_z, zLst_z, zTupOf_z, zLstOf_z, zLen_z, zAt_z, zProp_z, zApp_z, zAugN_z, zSeqI_z, zRng1_z, zRng2_z, zAsg_z, zPart_z, zNoP_z, getPl, setPl, wipeE, List.getElem?_cons_succ, List.getElem?_cons_zero, List.set_cons_succ, List.set_cons_zero, Res.bind_ok, Res.toS_ok, callR1, callR2, callR3, callR0_4, callRk1, callRk2, callRk3', callRk4', List.length_cons, List.length_nil, Nat.zero_add, Nat.reduceAdd, sz1, sz2, sz3, sz4, sz5, sz6, sz7, sz8, if_true, if_false, Bool.false_eq_true, Bool.not_true, Bool.not_false, zNx_z, zBk_z, zCt_z, itemsD_lst, itemsD_tup, deref_bl, deref_int, deref_str, deref_tup, deref_lst, Option.bind_some, truD, gAdd_int, gSub_int, gMul_int, gMod_int, gCmpI_int, gEq_int, gInt_int, lenR_lst, lenR_blst, lenR_tup, decide_true, decide_false, true_or, or_true, List.map_cons, List.map_nil, leX, zPut_z, putL, putDk, keyD, h1, h3, hl]
def leY : ZS := (zSeq (zFrz [] (zSet 4 (zOp gAdd (zBf gMax2 (zCons (zCv 4) (zCons (zOp gIx (zCv 3) (zCv 5)) zNil))) (zOp gIx (zOp gIx (zCv 0) (zCv 5)) (zK (.int 1))))))
      zNx)
theorem leY_ok {dw : D} {W : Wk} {s1 s2 : Sl} {kv : List (Key × D)} {t e : Int} {j : Nat} {M : Sto} (h : WksD dw W) (hj : j < W.length) (hv : valD kv (.inl ((j : Nat) : Int) : Key) = some (.int e)) : leY (leE dw s1 s2 kv t (.val (.int (j : Nat)))) M = .nx (leE dw s1 s2 kv (mxI t e + bW W j) (.val (.int (j : Nat)))) M := by
  obtain ⟨w, h1, _, _, h4⟩ := h.at (M := M) hj
  have g : gIx (.dK kv) (.int (j : Nat)) M = .ok (.int e) M := by
    show dgR (.dK kv) (.int (j : Nat)) M = _
    unfold dgR dgetD
    simp only [keyD, Option.map_some, hv]
  simp only [zSeq_z, zFrz_z, zSet_z, zSetO_z, zRet_z, zDrop_z, zIfS_z, zTst_z, zTru_z, zNot_z, zAnd_z, zOr_z, zAndV_z, zNotV_z, zIf_z, zOp_z, zBf_z, zCons_z, zNil_z, zCall_z, sCons_z, sNil_z, zSv_z, zVl_z, zCv_z, zBv_z, zVar_z, zK_z, zNeg_z, zTup_z, zLst_z, zTupOf_z, zLstOf_z, zLen_z, zAt_z, zProp_z, zApp_z, zAugN_z, zSeqI_z, zRng1_z, zRng2_z, zAsg_z, zPart_z, zNoP_z, getPl, setPl, wipeE, List.getElem?_cons_succ, List.getElem?_cons_zero, List.set_cons_succ, List.set_cons_zero, Res.bind_ok, Res.toS_ok, callR1, callR2, callR3, callR0_4, callRk1, callRk2, callRk3', callRk4', List.length_cons, List.length_nil, Nat.zero_add, Nat.reduceAdd, sz1, sz2, sz3, sz4, sz5, sz6, sz7, sz8, if_true, if_false, Bool.false_eq_true, Bool.not_true, Bool.not_false, zNx_z, zBk_z, zCt_z, itemsD_lst, itemsD_tup, deref_bl, deref_int, deref_str, deref_tup, deref_lst, Option.bind_some, truD, gAdd_int, gSub_int, gMul_int, gMod_int, gCmpI_int, gEq_int, gInt_int, lenR_lst, lenR_blst, lenR_tup, decide_true, decide_false, true_or, or_true, List.map_cons, List.map_nil, leY, h1, h4, g, gMax2_mx]
theorem leX_loop {dw : D} {W : Wk} {s1 s2 : Sl} {l : List Nat} {M : Sto} (h : WksD dw W) (hs : OrdS s1 l) (hl : ∀ j ∈ l, j < W.length) (hn : l.Nodup) (hlen : l.length ≤ 1000) : ∃ t e5, zFor (zSeqI (zBv 1)) (tgN 5) leX (leE dw s1 s2 [] 0 .no) M = .nx (leE dw s1 s2 (kvs (aW W) 0 l) t e5) M := by
  have hb := fun (kv : List (Key × D)) (t : Int) (j : Nat) hj hk => leX_ok (s1 := s1) (s2 := s2) (kv := kv) (t := t) (j := j) (M := M) h hj hk
  generalize leX = y at hb
  refine zFor_gen (ord_zi hs rfl) (I := fun i env M' => ∃ e5, M' = M ∧ env = leE dw s1 s2 (kvs (aW W) 0 (l.take i)) ((l.take i).map (aW W)).sum e5) (Q := fun o => ∃ t e5, o = .nx (leE dw s1 s2 (kvs (aW W) 0 l) t e5) M) ⟨.no, rfl, rfl⟩ (fun i x env M' hx hI => ?_) fun env M' hI => ?_
  · obtain ⟨e5, rfl, rfl⟩ := hI
    obtain ⟨j, hj, rfl⟩ := nats_at hx
    refine ⟨leE dw s1 s2 (kvs (aW W) 0 (l.take i)) ((l.take i).map (aW W)).sum (.val (.int (j : Nat))), rfl, ?_⟩
    rw [hb _ _ j (hl j (List.mem_of_getElem? hj)) (by rw [kvs_len, List.length_take]; omega)]
    refine ⟨.val (.int (j : Nat)), rfl, ?_⟩
    have nj : j ∉ l.take i := fun q => by
      have e : l = l.take i ++ j :: l.drop (i + 1) := by
        obtain ⟨h1, h2⟩ := List.getElem?_eq_some_iff.mp hj
        rw [← h2, ← List.drop_eq_getElem_cons h1, List.take_append_drop]
      rw [e] at hn
      exact (List.nodup_append.mp hn).2.2 j q j (by simp) rfl
    rw [kvs_put nj, take_next hj, kvs_app, List.map_append, List.sum_append]
    simp
  · obtain ⟨e5, rfl, rfl⟩ := hI
    rw [natsD_len, List.take_length]
    exact ⟨_, e5, rfl⟩
theorem leY_loop {dw : D} {W : Wk} {s1 s2 : Sl} {l l2 : List Nat} {e5 : Sl} {M : Sto} (h : WksD dw W) (hs : OrdS s2 l2) (h1 : l.Perm (List.range W.length)) (h2 : l2.Perm (List.range W.length)) : ∃ e5', zFor (zSeqI (zBv 2)) (tgN 5) leY (leE dw s1 s2 (kvs (aW W) 0 l) 0 e5) M = .nx (leE dw s1 s2 (kvs (aW W) 0 l) (lendE (endA (aW W) W.length l) (bW W) l2 0) e5') M := by
  have hb := fun (t e : Int) (j : Nat) hj hv => leY_ok (s1 := s1) (s2 := s2) (kv := kvs (aW W) 0 l) (t := t) (e := e) (j := j) (M := M) h hj hv
  generalize leY = y at hb
  have ev : ∀ j, j < W.length → valD (kvs (aW W) 0 l) (.inl ((j : Nat) : Int) : Key) = some (.int (endA (aW W) W.length l j)) := fun j hj => by
    obtain ⟨P, S, e⟩ := List.append_of_mem (h1.mem_iff.mpr (show j ∈ List.range W.length by simpa using hj))
    obtain ⟨a, b⟩ := endA_split (A := aW W) h1 e
    rw [a, e, kvs_val b, Int.zero_add]
  refine zFor_gen (ord_zi hs rfl) (I := fun i env M' => ∃ e5', M' = M ∧ env = leE dw s1 s2 (kvs (aW W) 0 l) (lendE (endA (aW W) W.length l) (bW W) (l2.take i) 0) e5') (Q := fun o => ∃ e5', o = .nx (leE dw s1 s2 (kvs (aW W) 0 l) (lendE (endA (aW W) W.length l) (bW W) l2 0) e5') M) ⟨e5, rfl, rfl⟩ (fun i x env M' hx hI => ?_) fun env M' hI => ?_
  · obtain ⟨f5, rfl, rfl⟩ := hI
    obtain ⟨j, hj, rfl⟩ := nats_at hx
    have jn : j < W.length := by simpa using h2.mem_iff.mp (List.mem_of_getElem? hj)
    refine ⟨leE dw s1 s2 (kvs (aW W) 0 l) (lendE (endA (aW W) W.length l) (bW W) (l2.take i) 0) (.val (.int (j : Nat))), rfl, ?_⟩
    rw [hb _ _ j jn (ev j jn)]
    refine ⟨.val (.int (j : Nat)), rfl, ?_⟩
    rw [take_next hj]
    unfold lendE
    rw [List.foldl_append]
    rfl
  · obtain ⟨f5, rfl, rfl⟩ := hI
    rw [natsD_len, List.take_length]
    exact ⟨f5, rfl⟩
def EdOk (f : Sem1) : Prop := ∀ M dw W s1 s2 l l2, WksD dw W → OrdS s1 l → OrdS s2 l2 → l.Perm (List.range W.length) → l2.Perm (List.range W.length) → W.length ≤ 1000 → f [.val dw, s1, s2] M = .ok (.int (lendE (endA (aW W) W.length l) (bW W) l2 0)) M
def kEd (x y : ZS) : ZS :=
  (zSeq (zFrz [] (zSetO 3 (zDNew false)))
      (zSeq (zFrz [] (zSet 4 (zK (.int 0))))
      (zSeq (zFrz [] x)
      (zSeq (zFrz [] (zSet 4 (zK (.int 0))))
      (zSeq (zFrz [] y)
      (zSeq (zFrz [] (zRet (zVar 4)))
      zNx))))))
theorem ed_seq {x y : ZS} {dw : D} {s1 s2 e5 e5' : Sl} {kv : List (Key × D)} {t r : Int} {M : Sto} (h1 : x (leE dw s1 s2 [] 0 .no) M = .nx (leE dw s1 s2 kv t e5) M) (h2 : y (leE dw s1 s2 kv 0 e5) M = .nx (leE dw s1 s2 kv r e5') M) : zFun 3 6 (kEd x y) [.val dw, s1, s2] M = .ok (.int r) M := by
  unfold zFun
  simp [kEd, h1, h2]
theorem edOk : EdOk (zFun 3 6 (kEd (zFor (zSeqI (zBv 1)) (tgN 5) leX) (zFor (zSeqI (zBv 2)) (tgN 5) leY))) := fun M dw W s1 s2 l l2 h hs1 hs2 p1 p2 hw => by
  obtain ⟨t, e5, q1⟩ := leX_loop (s2 := s2) (M := M) h hs1 (fun j hj => by simpa using p1.mem_iff.mp hj) (p1.nodup_iff.mpr List.nodup_range) (by rw [p1.length_eq, List.length_range]; exact hw)
  obtain ⟨e5', q2⟩ := leY_loop (s1 := s1) (e5 := e5) (M := M) h hs2 p1 p2
  exact ed_seq q1 q2
/-- the two ends are one -/
theorem mk_lend {W : Wk} {l : List Nat} (h : l.Perm (List.range W.length)) : mkS W l = lendE (endA (aW W) W.length l) (bW W) l 0 := by
  have key : ∀ (S P : List Nat) (t : Int), l = P ++ S → (S.foldl (stpJ (aW W) (bW W)) ((P.map (aW W)).sum, t)).2 = lendE (endA (aW W) W.length l) (bW W) S t := by
    intro S
    induction S with
    | nil => intro P t _; rfl
    | cons j S ih =>
      intro P t e
      have a := (endA_split (A := aW W) h e).1
      have := ih (P ++ [j]) (mxI ((P.map (aW W)).sum + aW W j) t + bW W j) (by rw [e]; simp)
      unfold lendE at this ⊢
      rw [List.foldl_cons, List.foldl_cons, a, mxI_comm, ← this, List.map_append, List.sum_append]
      simp [stpJ]
  exact key l [] 0 rfl
end Zy
set_option maxHeartbeats 2000000
namespace Zy
open PySem PySem.Spec PyProof.Rows L2
open PySem.W (alike AllAlike Sortable dataLe EachIs)
/-! two machines: the order that is due -/
def prD (q : Int × Nat) : D := .tup [.int q.1, .int (q.2 : Nat)]
def prP (q : Int × Nat) : PyData := .tuple [.int q.1, .int (q.2 : Nat)]
def lePr (p q : Int × Nat) : Bool := dataLe (β := D × PyData) false (·.2) (prD p, prP p) (prD q, prP q)
def sortPr (L : List (Int × Nat)) : List (Int × Nat) := isortB lePr L
theorem insSt_map {α β : Type} {le : β → β → Bool} {f : α → β} {a : α} : ∀ {l : List α}, insSt le (f a) (l.map f) = (insSt (fun x y => le (f x) (f y)) a l).map f
  | [] => rfl
  | b :: l => by
    simp only [List.map_cons, insSt]
    split
    · rfl
    · rw [insSt_map]
      rfl
theorem isortB_map {α β : Type} {le : β → β → Bool} {f : α → β} : ∀ {l : List α}, isortB le (l.map f) = (isortB (fun x y => le (f x) (f y)) l).map f
  | [] => rfl
  | a :: l => by
    simp only [List.map_cons, isortB]
    rw [isortB_map, insSt_map]
theorem insSt_perm {α : Type} {le : α → α → Bool} {a : α} : ∀ {l : List α}, (insSt le a l).Perm (a :: l)
  | [] => List.Perm.refl _
  | b :: l => by
    unfold insSt
    split
    · exact List.Perm.refl _
    · exact (List.Perm.cons b insSt_perm).trans (List.Perm.swap a b l)
theorem isortB_perm {α : Type} {le : α → α → Bool} : ∀ {l : List α}, (isortB le l).Perm l
  | [] => List.Perm.refl _
  | a :: l => insSt_perm.trans (List.Perm.cons a isortB_perm)
theorem sortPr_perm (L : List (Int × Nat)) : (sortPr L).Perm L := isortB_perm
theorem lePr_gt {p q : Int × Nat} (h : q.1 < p.1) : lePr p q = false := by
  unfold lePr prP
  show (!(decide (q.1 < p.1) || (!decide (p.1 < q.1) && _))) = false
  rw [decide_eq_true h]
  rfl
theorem sortPr_pw (L : List (Int × Nat)) : (sortPr L).Pairwise fun p q => p.1 ≤ q.1 := by
  have T : PySem.W.TotalLe (dataLe (β := D × PyData) false (·.2)) := PySem.W.sortLe_total _ _ _
  have h := List.pairwise_mergeSort (le := dataLe (β := D × PyData) false (·.2)) T.trans (fun a b => by
    rcases T.total a b with h | h
    · exact Bool.or_eq_true _ _ |>.mpr (.inl h)
    · exact Bool.or_eq_true _ _ |>.mpr (.inr h)) (L.map fun q => (prD q, prP q))
  rw [← dataSort, isortB_map] at h
  have h := List.pairwise_map.mp h
  refine h.imp fun {a b} h => ?_
  rcases Int.lt_or_le b.1 a.1 with z | z
  · have := lePr_gt z
    unfold lePr at this
    rw [this] at h
    cases h
  · exact z
theorem pr_py : ∀ l : List (Int × Nat), toPys (l.map prD) = some (l.map prP)
  | [] => rfl
  | q :: l => by
    have h : toPy (prD q) = some (prP q) := rfl
    rw [List.map_cons, List.map_cons, toPys, h, pr_py l]
theorem pr_ok (l : List (Int × Nat)) : okSort (l.map prP) = true := by
  unfold okSort
  simp only [Bool.and_eq_true, List.all_eq_true]
  refine ⟨fun x hx y hy => ?_, fun x hx => ?_, fun x hx => ?_⟩
  · obtain ⟨p, _, rfl⟩ := List.mem_map.mp hx
    obtain ⟨q, _, rfl⟩ := List.mem_map.mp hy
    rfl
  · obtain ⟨p, _, rfl⟩ := List.mem_map.mp hx
    rfl
  · obtain ⟨p, _, rfl⟩ := List.mem_map.mp hx
    rfl
theorem sortP_pr (L : List (Int × Nat)) : sortP (L.map prD) = some ((sortPr L).map prD) := by
  unfold sortP
  rw [pr_py]
  simp only [pr_ok, if_true]
  have z : (L.map prD).zip (L.map prP) = L.map fun q => (prD q, prP q) := List.zip_map'
  rw [z, isortB_map, List.map_map]
  rfl
theorem sortU_pr {z : ZX} {env : Ev} {M M1 : Sto} {L : List (Int × Nat)} (h : z env M = .ok (.lst (L.map prD)) M1) : zSortU z env M = .ok (.lst ((sortPr L).map prD)) M1 := by
  rw [zSortU_z, h, Res.bind_ok]
  cases L with
  | nil => rfl
  | cons q L =>
    have h1 : (deref M1 (.lst ((q :: L).map prD))).bind sortD = none := rfl
    have h2 : (deref M1 (.lst ((q :: L).map prD))).bind sortPD = some ((sortPr (q :: L)).map prD) := sortP_pr (q :: L)
    rw [h1, h2]
def fsL (W : Wk) : List (Int × Nat) := ((List.range W.length).filter fun j => decide (aW W j < bW W j)).map fun j => (aW W j, j)
def otL (W : Wk) : List (Int × Nat) := ((List.range W.length).filter fun j => decide (bW W j ≤ aW W j)).map fun j => (-bW W j, j)
def dueJ (W : Wk) : List Nat := (sortPr (fsL W) ++ sortPr (otL W)).map (·.2)
theorem due_perm (W : Wk) : (dueJ W).Perm (List.range W.length) := by
  unfold dueJ
  refine ((((sortPr_perm _).append (sortPr_perm _))).map _).trans ?_
  rw [List.map_append]
  unfold fsL otL
  rw [List.map_map, List.map_map]
  have e1 : ((List.range W.length).filter fun j => decide (aW W j < bW W j)).map ((fun q : Int × Nat => q.2) ∘ fun j => (aW W j, j)) = (List.range W.length).filter fun j => decide (aW W j < bW W j) := List.map_id _
  have e2 : ((List.range W.length).filter fun j => decide (bW W j ≤ aW W j)).map ((fun q : Int × Nat => q.2) ∘ fun j => (-bW W j, j)) = (List.range W.length).filter fun j => !decide (aW W j < bW W j) := by
    rw [show (((fun q : Int × Nat => q.2) ∘ fun j => (-bW W j, j)) : Nat → Nat) = id from rfl, List.map_id]
    congr 1
    funext j
    by_cases h : aW W j < bW W j
    · rw [decide_eq_true h, decide_eq_false (by omega)]; rfl
    · rw [decide_eq_false h, decide_eq_true (by omega)]; rfl
  rw [e1, e2]
  exact List.filter_append_perm _ _
theorem due_JR (W : Wk) : (dueJ W).Pairwise (JR (aW W) (bW W)) := by
  have mf : ∀ q ∈ sortPr (fsL W), aW W q.2 < bW W q.2 ∧ q.1 = aW W q.2 := fun q hq => by
    have := (sortPr_perm _).mem_iff.mp hq
    unfold fsL at this
    obtain ⟨j, hj, rfl⟩ := List.mem_map.mp this
    rw [List.mem_filter] at hj
    exact ⟨by simpa using hj.2, rfl⟩
  have mo : ∀ q ∈ sortPr (otL W), bW W q.2 ≤ aW W q.2 ∧ q.1 = -bW W q.2 := fun q hq => by
    have := (sortPr_perm _).mem_iff.mp hq
    unfold otL at this
    obtain ⟨j, hj, rfl⟩ := List.mem_map.mp this
    rw [List.mem_filter] at hj
    exact ⟨by simpa using hj.2, rfl⟩
  unfold dueJ
  rw [List.pairwise_map, List.pairwise_append]
  refine ⟨(sortPr_pw _).imp_of_mem fun {p q} hp hq h => ?_, (sortPr_pw _).imp_of_mem fun {p q} hp hq h => ?_, fun p hp q hq => ?_⟩
  · have a := mf p hp
    have b := mf q hq
    exact .inl ⟨a.1, b.1, by rw [← a.2, ← b.2]; exact h⟩
  · have a := mo p hp
    have b := mo q hq
    refine .inr (.inr ⟨a.1, b.1, ?_⟩)
    have := a.2
    have := b.2
    omega
  · exact .inr (.inl ⟨(mf p hp).1, (mo q hq).1⟩)
/-- a comprehension by the turn -/
theorem lcGz {zi : ZL} {gz : ZTg} {zt : ZB} {ze : ZX} {env : Ev} {vs : List Nat} {M M1 : Sto} {ds : List D} (p : Nat → Bool) (f : Nat → D) (hi : zi env M = .ok ds M1) (hno : noOwn env vs = true) (hl : ds.length ≤ 1000)
    (h : ∀ i d, ds[i]? = some d → ∃ envc, gz d (wipeE env vs) = some envc ∧ zt envc M1 = .ok (p i) M1 ∧ (p i = true → ze envc M1 = .ok (f i) M1)) : zLc zi gz zt ze vs env M = .ok (.lst (((List.range ds.length).filter p).map f)) M1 := by
  obtain ⟨acc, M', e0, h1, h2⟩ := zLc_gen (zt := zt) (ze := ze) (gz := gz) (ds := ds) (M1 := M1) hi hno (fun k acc M => acc = ((List.range k).filter p).map f ∧ M = M1) ⟨by simp, rfl⟩ fun k x acc M hx h' => by
    obtain ⟨rfl, rfl⟩ := h'
    obtain ⟨envc, g1, g2, g3⟩ := h k x hx
    have hk := (List.getElem?_eq_some_iff.mp hx).1
    refine ⟨envc, p k, M, g1, g2, ?_⟩
    by_cases hp : p k = true
    · rw [if_pos hp]
      refine ⟨f k, M, g3 hp, ?_, ?_, rfl⟩
      · rw [List.length_map]
        have := List.length_filter_le p (List.range k)
        rw [List.length_range] at this
        exact Nat.lt_of_lt_of_le (show _ < 1001 by omega) (by decide)
      · rw [List.range_succ]
        simp [hp]
    · rw [if_neg hp]
      refine ⟨?_, rfl⟩
      rw [List.range_succ]
      simp [hp]
  rw [e0, h1, h2]
theorem gAdd_lst {a b : List D} {M : Sto} (h : a.length + b.length ≤ 1000) : gAdd (.lst a) (.lst b) M = .ok (.lst (a ++ b)) M := by
  show (if a.length + b.length ≤ sizeLine then Res.ok (D.lst (a ++ b)) M else .fail) = _
  rw [if_pos (Nat.le_trans h (by decide))]
theorem fs_len {W : Wk} : (sortPr (fsL W)).length ≤ W.length := by
  rw [(sortPr_perm _).length_eq]
  unfold fsL
  rw [List.length_map]
  have := List.length_filter_le (fun j => decide (aW W j < bW W j)) (List.range W.length)
  rwa [List.length_range] at this
theorem ot_len {W : Wk} : (sortPr (otL W)).length ≤ W.length := by
  rw [(sortPr_perm _).length_eq]
  unfold otL
  rw [List.length_map]
  have := List.length_filter_le (fun j => decide (bW W j ≤ aW W j)) (List.range W.length)
  rwa [List.length_range] at this
theorem filter_all {n : Nat} {f : Nat → D} : ((List.range n).filter fun _ => true).map f = (List.range n).map f := by rw [List.filter_eq_self.mpr fun _ _ => rfl]
theorem range_map {α : Type} {L : List α} {f : Nat → D} {g : α → D} (h : ∀ i x, L[i]? = some x → f i = g x) : (List.range L.length).map f = L.map g := by
  apply List.ext_getElem?
  intro i
  rw [List.getElem?_map, List.getElem?_map]
  by_cases hi : i < L.length
  · rw [List.getElem?_range hi, List.getElem?_eq_getElem hi]
    exact congrArg some (h i _ (List.getElem?_eq_getElem hi))
  · rw [List.getElem?_eq_none (by rw [List.length_range]; omega), List.getElem?_eq_none (by omega)]
    rfl
def BoOk (f : Sem1) : Prop := ∀ M dw W, WksD dw W → W.length ≤ 20 → f [.val dw] M = .ok (.tup (natsD (dueJ W))) M
/-! the law's -/
def duA (lf : Lens) : ZX := (zLc (zRng1 (zCons (zLen lf (zSv 0)) zNil)) (tgN 3) (zTst (zOp gLt (zOp gIx (zOp gIx (zCv 0) (zCv 3)) (zK (.int 0))) (zOp gIx (zOp gIx (zCv 0) (zCv 3)) (zK (.int 1))))) (zTup (zCons (zOp gIx (zOp gIx (zCv 0) (zCv 3)) (zK (.int 0))) (zCons (zVar 3) zNil))) [3])
def duB (lf : Lens) : ZX := (zLc (zRng1 (zCons (zLen lf (zSv 0)) zNil)) (tgN 3) (zTst (zOp gGe (zOp gIx (zOp gIx (zCv 0) (zCv 3)) (zK (.int 0))) (zOp gIx (zOp gIx (zCv 0) (zCv 3)) (zK (.int 1))))) (zTup (zCons (zOp gSub (zK (.int 0)) (zOp gIx (zOp gIx (zCv 0) (zCv 3)) (zK (.int 1)))) (zCons (zVar 3) zNil))) [3])
theorem wk_len {lf : Lens} {dw : D} {W : Wk} (h : WksD dw W) {M : Sto} : ∃ ds, itemsD dw = some ds ∧ ds.length = W.length := by
  obtain ⟨g, h1, _⟩ := h
  exact ⟨_, h1, List.length_map ..⟩
theorem len_items {lf : Lens} {d : D} {ds : List D} {M : Sto} (h : itemsD d = some ds) (hs : ∀ ns, d ≠ .scr ns) : lenR lf (.val d) M = .ok (.int (ds.length : Nat)) M := by
  cases d with
  | tup a => cases h; rfl
  | lst a => cases h; rfl
  | scr ns => exact absurd rfl (hs ns)
  | _ => cases h
theorem duA_ok {lf : Lens} {dw : D} {W : Wk} {e1 e2 e4 : Sl} {M : Sto} (h : WksD dw W) (hs : ∀ ns, dw ≠ .scr ns) (hl : W.length ≤ 20) : duA lf [.val dw, e1, e2, .no, e4] M = .ok (.lst ((fsL W).map prD)) M := by
  obtain ⟨ds, h1, h2⟩ := wk_len (lf := lf) (M := M) h
  have hv := len_items (lf := lf) (M := M) h1 hs
  rw [h2] at hv
  have hz : zRng1 (zCons (zLen lf (zSv 0)) zNil) [.val dw, e1, e2, .no, e4] M = .ok (stpD 0 1 W.length) M := by
    have := rngR_nat (M := M) W.length (by omega)
    simp only [zSeq_z, zFrz_z, zSet_z, zSetO_z, zRet_z, zDrop_z, zIfS_z, zTst_z, zTru_z, zNot_z, zAnd_z, zOr_z, zAndV_z, zNotV_z, zIf_z, zOp_z, zBf_z, zCons_z, zNil_z, zCall_z, sCons_z, sNil_z, zSv_z, zVl_z, zCv_z, zBv_z, zVar_z, zK_z, zNeg_z, zTup_z, zLst_z, zTupOf_z, zLstOf_z, zLen_z, zAt_z, zProp_z, zApp_z, zAugN_z, zSeqI_z, zRng1_z, zRng2_z, zAsg_z, zPart_z, zNoP_z, getPl, setPl, wipeE, List.getElem?_cons_succ, List.getElem?_cons_zero, List.set_cons_succ, List.set_cons_zero, Res.bind_ok, Res.toS_ok, callR1, callR2, callR3, callR0_4, callRk1, callRk2, callRk3', callRk4', List.length_cons, List.length_nil, Nat.zero_add, Nat.reduceAdd, sz1, sz2, sz3, sz4, sz5, sz6, sz7, sz8, if_true, if_false, Bool.false_eq_true, Bool.not_true, Bool.not_false, zNx_z, zBk_z, zCt_z, itemsD_lst, itemsD_tup, deref_bl, deref_int, deref_str, deref_tup, deref_lst, Option.bind_some, truD, gAdd_int, gSub_int, gMul_int, gMod_int, gCmpI_int, gEq_int, gInt_int, lenR_lst, lenR_blst, lenR_tup, decide_true, decide_false, true_or, or_true, List.map_cons, List.map_nil, hv, this]
  have q := lcGz (zi := zRng1 (zCons (zLen lf (zSv 0)) zNil)) (gz := tgN 3) (vs := [3]) (env := [.val dw, e1, e2, .no, e4]) (zt := (zTst (zOp gLt (zOp gIx (zOp gIx (zCv 0) (zCv 3)) (zK (.int 0))) (zOp gIx (zOp gIx (zCv 0) (zCv 3)) (zK (.int 1)))))) (ze := (zTup (zCons (zOp gIx (zOp gIx (zCv 0) (zCv 3)) (zK (.int 0))) (zCons (zVar 3) zNil)))) (M1 := M) (fun j => decide (aW W j < bW W j)) (fun j => prD (aW W j, j)) hz rfl (by rw [stpD_len]; omega) fun i d hd => by
    obtain ⟨rfl, hlt⟩ := stpD_get hd
    rw [show (0 : Int) + (i : Int) * 1 = (i : Nat) by omega]
    obtain ⟨w, g1, g2, g3, g4⟩ := h.at (M := M) hlt
    refine ⟨[.val dw, e1, e2, .val (.int (i : Nat)), e4], rfl, ?_, fun _ => ?_⟩
    · simp only [zSeq_z, zFrz_z, zSet_z, zSetO_z, zRet_z, zDrop_z, zIfS_z, zTst_z, zTru_z, zNot_z, zAnd_z, zOr_z, zAndV_z, zNotV_z, zIf_z, zOp_z, zBf_z, zCons_z, zNil_z, zCall_z, sCons_z, sNil_z, zSv_z, zVl_z, zCv_z, zBv_z, zVar_z, zK_z, zNeg_z, zTup_z, zLst_z, zTupOf_z, zLstOf_z, zLen_z, zAt_z, zProp_z, zApp_z, zAugN_z, zSeqI_z, zRng1_z, zRng2_z, zAsg_z, zPart_z, zNoP_z, getPl, setPl, wipeE, List.getElem?_cons_succ, List.getElem?_cons_zero, List.set_cons_succ, List.set_cons_zero, Res.bind_ok, Res.toS_ok, callR1, callR2, callR3, callR0_4, callRk1, callRk2, callRk3', callRk4', List.length_cons, List.length_nil, Nat.zero_add, Nat.reduceAdd, sz1, sz2, sz3, sz4, sz5, sz6, sz7, sz8, if_true, if_false, Bool.false_eq_true, Bool.not_true, Bool.not_false, zNx_z, zBk_z, zCt_z, itemsD_lst, itemsD_tup, deref_bl, deref_int, deref_str, deref_tup, deref_lst, Option.bind_some, truD, gAdd_int, gSub_int, gMul_int, gMod_int, gCmpI_int, gEq_int, gInt_int, lenR_lst, lenR_blst, lenR_tup, decide_true, decide_false, true_or, or_true, List.map_cons, List.map_nil, g1, g3, g4, gLt]
    · simp only [zSeq_z, zFrz_z, zSet_z, zSetO_z, zRet_z, zDrop_z, zIfS_z, zTst_z, zTru_z, zNot_z, zAnd_z, zOr_z, zAndV_z, zNotV_z, zIf_z, zOp_z, zBf_z, zCons_z, zNil_z, zCall_z, sCons_z, sNil_z, zSv_z, zVl_z, zCv_z, zBv_z, zVar_z, zK_z, zNeg_z, zTup_z, zLst_z, zTupOf_z, zLstOf_z, zLen_z, zAt_z, zProp_z, zApp_z, zAugN_z, zSeqI_z, zRng1_z, zRng2_z, zAsg_z, zPart_z, zNoP_z, getPl, setPl, wipeE, List.getElem?_cons_succ, List.getElem?_cons_zero, List.set_cons_succ, List.set_cons_zero, Res.bind_ok, Res.toS_ok, callR1, callR2, callR3, callR0_4, callRk1, callRk2, callRk3', callRk4', List.length_cons, List.length_nil, Nat.zero_add, Nat.reduceAdd, sz1, sz2, sz3, sz4, sz5, sz6, sz7, sz8, if_true, if_false, Bool.false_eq_true, Bool.not_true, Bool.not_false, zNx_z, zBk_z, zCt_z, itemsD_lst, itemsD_tup, deref_bl, deref_int, deref_str, deref_tup, deref_lst, Option.bind_some, truD, gAdd_int, gSub_int, gMul_int, gMod_int, gCmpI_int, gEq_int, gInt_int, lenR_lst, lenR_blst, lenR_tup, decide_true, decide_false, true_or, or_true, List.map_cons, List.map_nil, g1, g3, prD]
  rw [stpD_len] at q
  unfold fsL duA
  rw [List.map_map]
  exact q
theorem duB_ok {lf : Lens} {dw : D} {W : Wk} {e1 e2 e4 : Sl} {M : Sto} (h : WksD dw W) (hs : ∀ ns, dw ≠ .scr ns) (hl : W.length ≤ 20) : duB lf [.val dw, e1, e2, .no, e4] M = .ok (.lst ((otL W).map prD)) M := by
  obtain ⟨ds, h1, h2⟩ := wk_len (lf := lf) (M := M) h
  have hv := len_items (lf := lf) (M := M) h1 hs
  rw [h2] at hv
  have hz : zRng1 (zCons (zLen lf (zSv 0)) zNil) [.val dw, e1, e2, .no, e4] M = .ok (stpD 0 1 W.length) M := by
    have := rngR_nat (M := M) W.length (by omega)
    simp only [zSeq_z, zFrz_z, zSet_z, zSetO_z, zRet_z, zDrop_z, zIfS_z, zTst_z, zTru_z, zNot_z, zAnd_z, zOr_z, zAndV_z, zNotV_z, zIf_z, zOp_z, zBf_z, zCons_z, zNil_z, zCall_z, sCons_z, sNil_z, zSv_z, zVl_z, zCv_z, zBv_z, zVar_z, zK_z, zNeg_z, zTup_z, zLst_z, zTupOf_z, zLstOf_z, zLen_z, zAt_z, zProp_z, zApp_z, zAugN_z, zSeqI_z, zRng1_z, zRng2_z, zAsg_z, zPart_z, zNoP_z, getPl, setPl, wipeE, List.getElem?_cons_succ, List.getElem?_cons_zero, List.set_cons_succ, List.set_cons_zero, Res.bind_ok, Res.toS_ok, callR1, callR2, callR3, callR0_4, callRk1, callRk2, callRk3', callRk4', List.length_cons, List.length_nil, Nat.zero_add, Nat.reduceAdd, sz1, sz2, sz3, sz4, sz5, sz6, sz7, sz8, if_true, if_false, Bool.false_eq_true, Bool.not_true, Bool.not_false, zNx_z, zBk_z, zCt_z, itemsD_lst, itemsD_tup, deref_bl, deref_int, deref_str, deref_tup, deref_lst, Option.bind_some, truD, gAdd_int, gSub_int, gMul_int, gMod_int, gCmpI_int, gEq_int, gInt_int, lenR_lst, lenR_blst, lenR_tup, decide_true, decide_false, true_or, or_true, List.map_cons, List.map_nil, hv, this]
  have q := lcGz (zi := zRng1 (zCons (zLen lf (zSv 0)) zNil)) (gz := tgN 3) (vs := [3]) (env := [.val dw, e1, e2, .no, e4]) (zt := (zTst (zOp gGe (zOp gIx (zOp gIx (zCv 0) (zCv 3)) (zK (.int 0))) (zOp gIx (zOp gIx (zCv 0) (zCv 3)) (zK (.int 1)))))) (ze := (zTup (zCons (zOp gSub (zK (.int 0)) (zOp gIx (zOp gIx (zCv 0) (zCv 3)) (zK (.int 1)))) (zCons (zVar 3) zNil)))) (M1 := M) (fun j => decide (bW W j ≤ aW W j)) (fun j => prD (-bW W j, j)) hz rfl (by rw [stpD_len]; omega) fun i d hd => by
    obtain ⟨rfl, hlt⟩ := stpD_get hd
    rw [show (0 : Int) + (i : Int) * 1 = (i : Nat) by omega]
    obtain ⟨w, g1, g2, g3, g4⟩ := h.at (M := M) hlt
    refine ⟨[.val dw, e1, e2, .val (.int (i : Nat)), e4], rfl, ?_, fun _ => ?_⟩
    · simp only [zSeq_z, zFrz_z, zSet_z, zSetO_z, zRet_z, zDrop_z, zIfS_z, zTst_z, zTru_z, zNot_z, zAnd_z, zOr_z, zAndV_z, zNotV_z, zIf_z, zOp_z, zBf_z, zCons_z, zNil_z, zCall_z, sCons_z, sNil_z, zSv_z, zVl_z, zCv_z, zBv_z, zVar_z, zK_z, zNeg_z, zTup_z, zLst_z, zTupOf_z, zLstOf_z, zLen_z, zAt_z, zProp_z, zApp_z, zAugN_z, zSeqI_z, zRng1_z, zRng2_z, zAsg_z, zPart_z, zNoP_z, getPl, setPl, wipeE, List.getElem?_cons_succ, List.getElem?_cons_zero, List.set_cons_succ, List.set_cons_zero, Res.bind_ok, Res.toS_ok, callR1, callR2, callR3, callR0_4, callRk1, callRk2, callRk3', callRk4', List.length_cons, List.length_nil, Nat.zero_add, Nat.reduceAdd, sz1, sz2, sz3, sz4, sz5, sz6, sz7, sz8, if_true, if_false, Bool.false_eq_true, Bool.not_true, Bool.not_false, zNx_z, zBk_z, zCt_z, itemsD_lst, itemsD_tup, deref_bl, deref_int, deref_str, deref_tup, deref_lst, Option.bind_some, truD, gAdd_int, gSub_int, gMul_int, gMod_int, gCmpI_int, gEq_int, gInt_int, lenR_lst, lenR_blst, lenR_tup, decide_true, decide_false, true_or, or_true, List.map_cons, List.map_nil, g1, g3, g4, gGe]
    · simp only [zSeq_z, zFrz_z, zSet_z, zSetO_z, zRet_z, zDrop_z, zIfS_z, zTst_z, zTru_z, zNot_z, zAnd_z, zOr_z, zAndV_z, zNotV_z, zIf_z, zOp_z, zBf_z, zCons_z, zNil_z, zCall_z, sCons_z, sNil_z, zSv_z, zVl_z, zCv_z, zBv_z, zVar_z, zK_z, zNeg_z, zTup_z, zLst_z, zTupOf_z, zLstOf_z, zLen_z, zAt_z, zProp_z, zApp_z, zAugN_z, zSeqI_z, zRng1_z, zRng2_z, zAsg_z, zPart_z, zNoP_z, getPl, setPl, wipeE, List.getElem?_cons_succ, List.getElem?_cons_zero, List.set_cons_succ, List.set_cons_zero, Res.bind_ok, Res.toS_ok, callR1, callR2, callR3, callR0_4, callRk1, callRk2, callRk3', callRk4', List.length_cons, List.length_nil, Nat.zero_add, Nat.reduceAdd, sz1, sz2, sz3, sz4, sz5, sz6, sz7, sz8, if_true, if_false, Bool.false_eq_true, Bool.not_true, Bool.not_false, zNx_z, zBk_z, zCt_z, itemsD_lst, itemsD_tup, deref_bl, deref_int, deref_str, deref_tup, deref_lst, Option.bind_some, truD, gAdd_int, gSub_int, gMul_int, gMod_int, gCmpI_int, gEq_int, gInt_int, lenR_lst, lenR_blst, lenR_tup, decide_true, decide_false, true_or, or_true, List.map_cons, List.map_nil, g1, g4, prD, Int.zero_sub]
  rw [stpD_len] at q
  unfold otL duB
  rw [List.map_map]
  exact q
theorem snd_lc {zi : ZL} {gz : ZTg} {ze : ZX} {env : Ev} {vs : List Nat} {M : Sto} {L : List (Int × Nat)} (hi : zi env M = .ok (L.map prD) M) (hno : noOwn env vs = true) (hl : L.length ≤ 1000)
    (h : ∀ q ∈ L, ∃ envc, gz (prD q) (wipeE env vs) = some envc ∧ ze envc M = .ok (.int (q.2 : Nat)) M) : zLc zi gz (fun _ M => .ok true M) ze vs env M = .ok (.lst (natsD (L.map (·.2)))) M := by
  have q := lcGz (zi := zi) (gz := gz) (vs := vs) (env := env) (zt := fun _ M => .ok true M) (ze := ze) (M := M) (M1 := M) (fun _ => true) (fun i => match L[i]? with
    | some q => D.int (q.2 : Nat)
    | none => .non) hi hno (by rw [List.length_map]; exact hl) fun i d hd => by
    rw [List.getElem?_map] at hd
    cases q : L[i]? with
    | none => rw [q] at hd; cases hd
    | some x =>
      rw [q] at hd
      cases hd
      obtain ⟨envc, g1, g2⟩ := h x (List.mem_of_getElem? q)
      exact ⟨envc, g1, rfl, fun _ => g2⟩
  rw [q, filter_all, List.length_map, range_map (g := fun q : Int × Nat => D.int (q.2 : Nat)) fun i x hx => by rw [hx]]
  unfold natsD
  rw [List.map_map]
  rfl
def duC (zs : ZX) : ZX := (zLc (zSeqI zs) (tgN 4) (fun _ M => .ok true M) (zOp gIx (zCv 4) (zK (.int 1))) [4])
def kDue (a b c : ZX) : ZS :=
  (zSeq (zFrz [] (zSet 1 (zSortU a)))
      (zSeq (zFrz [] (zSet 2 (zSortU b)))
      (zSeq (zFrz [] (zRet (zTupOf c)))
      zNx)))
theorem due_seq {a b c : ZX} {dw : D} {L1 L2 : List (Int × Nat)} {r : List D} {M : Sto} (ha : a [.val dw, .no, .no, .no, .no] M = .ok (.lst (L1.map prD)) M) (hb : b [.val dw, .val (.lst ((sortPr L1).map prD)), .no, .no, .no] M = .ok (.lst (L2.map prD)) M)
    (hc : c [.val dw, .val (.lst ((sortPr L1).map prD)), .val (.lst ((sortPr L2).map prD)), .no, .no] M = .ok (.lst r) M) : zFun 1 5 (kDue a b c) [.val dw] M = .ok (.tup r) M := by
  have ha := sortU_pr ha
  have hb := sortU_pr hb
  unfold zFun kDue
  generalize zSortU a = a at *
  generalize zSortU b = b at *
  simp [ha, hb, hc]
theorem dueOk {lf : Lens} (f : Sem1) (hf : f = zFun 1 5 (kDue (duA lf) (duB lf) (duC (zOp gAdd (zCv 1) (zCv 2))))) : ∀ M dw W, WksD dw W → (∀ ns, dw ≠ .scr ns) → W.length ≤ 20 → f [.val dw] M = .ok (.tup (natsD (dueJ W))) M := fun M dw W h hs hl => by
  rw [hf]
  refine due_seq (duA_ok h hs hl) (duB_ok h hs hl) ?_
  have l1 := fs_len (W := W)
  have l2 := ot_len (W := W)
  refine snd_lc (L := sortPr (fsL W) ++ sortPr (otL W)) ?_ rfl (by rw [List.length_append]; omega) fun q _ => ⟨_, rfl, ?_⟩
  · have g := gAdd_lst (a := (sortPr (fsL W)).map prD) (b := (sortPr (otL W)).map prD) (M := M) (by rw [List.length_map, List.length_map]; omega)
    rw [List.map_append]
    simp only [zSeq_z, zFrz_z, zSet_z, zSetO_z, zRet_z, zDrop_z, zIfS_z, zTst_z, zTru_z, zNot_z, zAnd_z, zOr_z, zAndV_z, zNotV_z, zIf_z, zOp_z, zBf_z, zCons_z, zNil_z, zCall_z, sCons_z, sNil_z, zSv_z, zVl_z, zCv_z, zBv_z, zVar_z, zK_z, zNeg_z, zTup_z, zLst_z, zTupOf_z, zLstOf_z, zLen_z, zAt_z, zProp_z, zApp_z, zAugN_z, zSeqI_z, zRng1_z, zRng2_z, zAsg_z, zPart_z, zNoP_z, getPl, setPl, wipeE, List.getElem?_cons_succ, List.getElem?_cons_zero, List.set_cons_succ, List.set_cons_zero, Res.bind_ok, Res.toS_ok, callR1, callR2, callR3, callR0_4, callRk1, callRk2, callRk3', callRk4', List.length_cons, List.length_nil, Nat.zero_add, Nat.reduceAdd, sz1, sz2, sz3, sz4, sz5, sz6, sz7, sz8, if_true, if_false, Bool.false_eq_true, Bool.not_true, Bool.not_false, zNx_z, zBk_z, zCt_z, itemsD_lst, itemsD_tup, deref_bl, deref_int, deref_str, deref_tup, deref_lst, Option.bind_some, truD, gAdd_int, gSub_int, gMul_int, gMod_int, gCmpI_int, gEq_int, gInt_int, lenR_lst, lenR_blst, lenR_tup, decide_true, decide_false, true_or, or_true, List.map_cons, List.map_nil, g]
  · have g : gIx (prD q) (.int 1) M = .ok (.int (q.2 : Nat)) M := gIx_tup (by decide) rfl
    simp only [zSeq_z, zFrz_z, zSet_z, zSetO_z, zRet_z, zDrop_z, zIfS_z, zTst_z, zTru_z, zNot_z, zAnd_z, zOr_z, zAndV_z, zNotV_z, zIf_z, zOp_z, zBf_z, zCons_z, zNil_z, zCall_z, sCons_z, sNil_z, zSv_z, zVl_z, zCv_z, zBv_z, zVar_z, zK_z, zNeg_z, zTup_z, zLst_z, zTupOf_z, zLstOf_z, zLen_z, zAt_z, zProp_z, zApp_z, zAugN_z, zSeqI_z, zRng1_z, zRng2_z, zAsg_z, zPart_z, zNoP_z, getPl, setPl, wipeE, List.getElem?_cons_succ, List.getElem?_cons_zero, List.set_cons_succ, List.set_cons_zero, Res.bind_ok, Res.toS_ok, callR1, callR2, callR3, callR0_4, callRk1, callRk2, callRk3', callRk4', List.length_cons, List.length_nil, Nat.zero_add, Nat.reduceAdd, sz1, sz2, sz3, sz4, sz5, sz6, sz7, sz8, if_true, if_false, Bool.false_eq_true, Bool.not_true, Bool.not_false, zNx_z, zBk_z, zCt_z, itemsD_lst, itemsD_tup, deref_bl, deref_int, deref_str, deref_tup, deref_lst, Option.bind_some, truD, gAdd_int, gSub_int, gMul_int, gMod_int, gCmpI_int, gEq_int, gInt_int, lenR_lst, lenR_blst, lenR_tup, decide_true, decide_false, true_or, or_true, List.map_cons, List.map_nil, g]
/-! the program's -/
def boA : ZX := (zLc (zEnumA (zBv 0)) (tgTN [.n 3, .t [4, 5]]) (zTst (zOp gLt (zCv 4) (zCv 5))) (zTup (zCons (zVar 4) (zCons (zVar 3) zNil))) [3, 4, 5])
def boB : ZX := (zLc (zEnumA (zBv 0)) (tgTN [.n 3, .t [4, 5]]) (zTst (zOp gGe (zCv 4) (zCv 5))) (zTup (zCons (zNeg (zVar 5)) (zCons (zVar 3) zNil))) [3, 4, 5])
theorem en_at {dw : D} {W : Wk} (h : WksD dw W) : ∃ ds, itemsD dw = some ds ∧ ds.length = W.length ∧ ∀ i d, (enumD ds)[i]? = some d → ∀ env : Ev, tgTN [.n 3, .t [4, 5]] d env = some (((env.set 3 (.val (.int (i : Nat)))).set 4 (.val (.int (aW W i)))).set 5 (.val (.int (bW W i)))) := by
  obtain ⟨g, h1, h2⟩ := h
  refine ⟨_, h1, List.length_map .., fun i d hd env => ?_⟩
  obtain ⟨y, hy, rfl⟩ := enumD_at hd
  rw [List.getElem?_map] at hy
  cases q : W[i]? with
  | none => rw [q] at hy; cases hy
  | some w =>
    rw [q] at hy
    cases hy
    have ew : W.getD i (0, 0) = w := by rw [List.getD_eq_getElem?_getD, q]; rfl
    have h3 := h2 w
    show ((itemsD (g w)).bind (setAll (env.set 3 (.val (.int (i : Nat)))) [4, 5])).bind _ = _
    rw [h3]
    unfold aW bW
    rw [ew]
    rfl
theorem boA_ok {dw : D} {W : Wk} {e1 e2 : Sl} {M : Sto} (h : WksD dw W) (hl : W.length ≤ 20) : boA [.val dw, e1, e2, .no, .no, .no, .no] M = .ok (.lst ((fsL W).map prD)) M := by
  obtain ⟨ds, h1, h2, h3⟩ := en_at h
  have hz : zEnumA (zBv 0) [.val dw, e1, e2, .no, .no, .no, .no] M = .ok (enumD ds) M := by
    simp only [zEnumA_z, zBv_z, List.getElem?_cons_zero, Res.bind_ok, h1]
  have q := lcGz (zi := zEnumA (zBv 0)) (gz := tgTN [.n 3, .t [4, 5]]) (vs := [3, 4, 5]) (env := [.val dw, e1, e2, .no, .no, .no, .no]) (zt := zTst (zOp gLt (zCv 4) (zCv 5))) (ze := zTup (zCons (zVar 4) (zCons (zVar 3) zNil))) (M1 := M) (fun j => decide (aW W j < bW W j)) (fun j => prD (aW W j, j)) hz rfl (by rw [enumD_len]; omega) fun i d hd => by
    refine ⟨_, h3 i d hd _, ?_, fun _ => ?_⟩
    · simp only [zSeq_z, zFrz_z, zSet_z, zSetO_z, zRet_z, zDrop_z, zIfS_z, zTst_z, zTru_z, zNot_z, zAnd_z, zOr_z, zAndV_z, zNotV_z, zIf_z, zOp_z, zBf_z, zCons_z, zNil_z, zCall_z, sCons_z, sNil_z, zSv_z, zVl_z, zCv_z, zBv_z, zVar_z, zK_z, zNeg_z, zTup_z, zLst_z, zTupOf_z, zLstOf_z, zLen_z, zAt_z, zProp_z, zApp_z, zAugN_z, zSeqI_z, zRng1_z, zRng2_z, zAsg_z, zPart_z, zNoP_z, getPl, setPl, wipeE, List.getElem?_cons_succ, List.getElem?_cons_zero, List.set_cons_succ, List.set_cons_zero, Res.bind_ok, Res.toS_ok, callR1, callR2, callR3, callR0_4, callRk1, callRk2, callRk3', callRk4', List.length_cons, List.length_nil, Nat.zero_add, Nat.reduceAdd, sz1, sz2, sz3, sz4, sz5, sz6, sz7, sz8, if_true, if_false, Bool.false_eq_true, Bool.not_true, Bool.not_false, zNx_z, zBk_z, zCt_z, itemsD_lst, itemsD_tup, deref_bl, deref_int, deref_str, deref_tup, deref_lst, Option.bind_some, truD, gAdd_int, gSub_int, gMul_int, gMod_int, gCmpI_int, gEq_int, gInt_int, lenR_lst, lenR_blst, lenR_tup, decide_true, decide_false, true_or, or_true, List.map_cons, List.map_nil, gLt]
    · simp only [zSeq_z, zFrz_z, zSet_z, zSetO_z, zRet_z, zDrop_z, zIfS_z, zTst_z, zTru_z, zNot_z, zAnd_z, zOr_z, zAndV_z, zNotV_z, zIf_z, zOp_z, zBf_z, zCons_z, zNil_z, zCall_z, sCons_z, sNil_z, zSv_z, zVl_z, zCv_z, zBv_z, zVar_z, zK_z, zNeg_z, zTup_z, zLst_z, zTupOf_z, zLstOf_z, zLen_z, zAt_z, zProp_z, zApp_z, zAugN_z, zSeqI_z, zRng1_z, zRng2_z, zAsg_z, zPart_z, zNoP_z, getPl, setPl, wipeE, List.getElem?_cons_succ, List.getElem?_cons_zero, List.set_cons_succ, List.set_cons_zero, Res.bind_ok, Res.toS_ok, callR1, callR2, callR3, callR0_4, callRk1, callRk2, callRk3', callRk4', List.length_cons, List.length_nil, Nat.zero_add, Nat.reduceAdd, sz1, sz2, sz3, sz4, sz5, sz6, sz7, sz8, if_true, if_false, Bool.false_eq_true, Bool.not_true, Bool.not_false, zNx_z, zBk_z, zCt_z, itemsD_lst, itemsD_tup, deref_bl, deref_int, deref_str, deref_tup, deref_lst, Option.bind_some, truD, gAdd_int, gSub_int, gMul_int, gMod_int, gCmpI_int, gEq_int, gInt_int, lenR_lst, lenR_blst, lenR_tup, decide_true, decide_false, true_or, or_true, List.map_cons, List.map_nil, prD]
  rw [enumD_len, h2] at q
  unfold fsL boA
  rw [List.map_map]
  exact q
theorem boB_ok {dw : D} {W : Wk} {e1 e2 : Sl} {M : Sto} (h : WksD dw W) (hl : W.length ≤ 20) : boB [.val dw, e1, e2, .no, .no, .no, .no] M = .ok (.lst ((otL W).map prD)) M := by
  obtain ⟨ds, h1, h2, h3⟩ := en_at h
  have hz : zEnumA (zBv 0) [.val dw, e1, e2, .no, .no, .no, .no] M = .ok (enumD ds) M := by
    simp only [zEnumA_z, zBv_z, List.getElem?_cons_zero, Res.bind_ok, h1]
  have q := lcGz (zi := zEnumA (zBv 0)) (gz := tgTN [.n 3, .t [4, 5]]) (vs := [3, 4, 5]) (env := [.val dw, e1, e2, .no, .no, .no, .no]) (zt := zTst (zOp gGe (zCv 4) (zCv 5))) (ze := zTup (zCons (zNeg (zVar 5)) (zCons (zVar 3) zNil))) (M1 := M) (fun j => decide (bW W j ≤ aW W j)) (fun j => prD (-bW W j, j)) hz rfl (by rw [enumD_len]; omega) fun i d hd => by
    refine ⟨_, h3 i d hd _, ?_, fun _ => ?_⟩
    · simp only [zSeq_z, zFrz_z, zSet_z, zSetO_z, zRet_z, zDrop_z, zIfS_z, zTst_z, zTru_z, zNot_z, zAnd_z, zOr_z, zAndV_z, zNotV_z, zIf_z, zOp_z, zBf_z, zCons_z, zNil_z, zCall_z, sCons_z, sNil_z, zSv_z, zVl_z, zCv_z, zBv_z, zVar_z, zK_z, zNeg_z, zTup_z, zLst_z, zTupOf_z, zLstOf_z, zLen_z, zAt_z, zProp_z, zApp_z, zAugN_z, zSeqI_z, zRng1_z, zRng2_z, zAsg_z, zPart_z, zNoP_z, getPl, setPl, wipeE, List.getElem?_cons_succ, List.getElem?_cons_zero, List.set_cons_succ, List.set_cons_zero, Res.bind_ok, Res.toS_ok, callR1, callR2, callR3, callR0_4, callRk1, callRk2, callRk3', callRk4', List.length_cons, List.length_nil, Nat.zero_add, Nat.reduceAdd, sz1, sz2, sz3, sz4, sz5, sz6, sz7, sz8, if_true, if_false, Bool.false_eq_true, Bool.not_true, Bool.not_false, zNx_z, zBk_z, zCt_z, itemsD_lst, itemsD_tup, deref_bl, deref_int, deref_str, deref_tup, deref_lst, Option.bind_some, truD, gAdd_int, gSub_int, gMul_int, gMod_int, gCmpI_int, gEq_int, gInt_int, lenR_lst, lenR_blst, lenR_tup, decide_true, decide_false, true_or, or_true, List.map_cons, List.map_nil, gGe]
    · simp only [zSeq_z, zFrz_z, zSet_z, zSetO_z, zRet_z, zDrop_z, zIfS_z, zTst_z, zTru_z, zNot_z, zAnd_z, zOr_z, zAndV_z, zNotV_z, zIf_z, zOp_z, zBf_z, zCons_z, zNil_z, zCall_z, sCons_z, sNil_z, zSv_z, zVl_z, zCv_z, zBv_z, zVar_z, zK_z, zNeg_z, zTup_z, zLst_z, zTupOf_z, zLstOf_z, zLen_z, zAt_z, zProp_z, zApp_z, zAugN_z, zSeqI_z, zRng1_z, zRng2_z, zAsg_z, zPart_z, zNoP_z, getPl, setPl, wipeE, List.getElem?_cons_succ, List.getElem?_cons_zero, List.set_cons_succ, List.set_cons_zero, Res.bind_ok, Res.toS_ok, callR1, callR2, callR3, callR0_4, callRk1, callRk2, callRk3', callRk4', List.length_cons, List.length_nil, Nat.zero_add, Nat.reduceAdd, sz1, sz2, sz3, sz4, sz5, sz6, sz7, sz8, if_true, if_false, Bool.false_eq_true, Bool.not_true, Bool.not_false, zNx_z, zBk_z, zCt_z, itemsD_lst, itemsD_tup, deref_bl, deref_int, deref_str, deref_tup, deref_lst, Option.bind_some, truD, gAdd_int, gSub_int, gMul_int, gMod_int, gCmpI_int, gEq_int, gInt_int, lenR_lst, lenR_blst, lenR_tup, decide_true, decide_false, true_or, or_true, List.map_cons, List.map_nil, prD]
  rw [enumD_len, h2] at q
  unfold otL boB
  rw [List.map_map]
  exact q
def boC (zs : ZX) : ZX := (zLc (zSeqI zs) (tgT [6, 3]) (fun _ M => .ok true M) (zVar 3) [6, 3])
def kBo (a b c : ZX) : ZS :=
  (zSeq (zFrz [] (zSet 1 a))
      (zSeq (zFrz [] (zSet 2 b))
      (zSeq (zFrz [] (zRet (zTupOf c)))
      zNx)))
theorem bo_seq {a b c : ZX} {dw d1 d2 : D} {r : List D} {M : Sto} (ha : a [.val dw, .no, .no, .no, .no, .no, .no] M = .ok d1 M) (hb : b [.val dw, .val d1, .no, .no, .no, .no, .no] M = .ok d2 M)
    (hc : c [.val dw, .val d1, .val d2, .no, .no, .no, .no] M = .ok (.lst r) M) : zFun 1 7 (kBo a b c) [.val dw] M = .ok (.tup r) M := by
  unfold zFun kBo
  simp [ha, hb, hc]
theorem boOk : BoOk (zFun 1 7 (kBo boA boB (boC (zOp gAdd (zSortU (zCv 1)) (zSortU (zCv 2)))))) := fun M dw W h hl => by
  refine bo_seq (boA_ok h hl) (boB_ok h hl) ?_
  have l1 := fs_len (W := W)
  have l2 := ot_len (W := W)
  refine snd_lc (L := sortPr (fsL W) ++ sortPr (otL W)) ?_ rfl (by rw [List.length_append]; omega) fun q _ => ⟨_, rfl, ?_⟩
  · have g := gAdd_lst (a := (sortPr (fsL W)).map prD) (b := (sortPr (otL W)).map prD) (M := M) (by rw [List.length_map, List.length_map]; omega)
    have s1 := sortU_pr (z := zCv 1) (env := [.val dw, .val (.lst ((fsL W).map prD)), .val (.lst ((otL W).map prD)), .no, .no, .no, .no]) (M := M) (M1 := M) (L := fsL W) (by simp only [zSeq_z, zFrz_z, zSet_z, zSetO_z, zRet_z, zDrop_z, zIfS_z, zTst_z, zTru_z, zNot_z, zAnd_z, zOr_z, zAndV_z, zNotV_z, zIf_z, zOp_z, zBf_z, zCons_z, zNil_z, zCall_z, sCons_z, sNil_z, zSv_z, zVl_z, zCv_z, zBv_z, zVar_z, zK_z, zNeg_z, zTup_z, zLst_z, zTupOf_z, zLstOf_z, zLen_z, zAt_z, zProp_z, zApp_z, zAugN_z, zSeqI_z, zRng1_z, zRng2_z, zAsg_z, zPart_z, zNoP_z, getPl, setPl, wipeE, List.getElem?_cons_succ, List.getElem?_cons_zero, List.set_cons_succ, List.set_cons_zero, Res.bind_ok, Res.toS_ok, callR1, callR2, callR3, callR0_4, callRk1, callRk2, callRk3', callRk4', List.length_cons, List.length_nil, Nat.zero_add, Nat.reduceAdd, sz1, sz2, sz3, sz4, sz5, sz6, sz7, sz8, if_true, if_false, Bool.false_eq_true, Bool.not_true, Bool.not_false, zNx_z, zBk_z, zCt_z, itemsD_lst, itemsD_tup, deref_bl, deref_int, deref_str, deref_tup, deref_lst, Option.bind_some, truD, gAdd_int, gSub_int, gMul_int, gMod_int, gCmpI_int, gEq_int, gInt_int, lenR_lst, lenR_blst, lenR_tup, decide_true, decide_false, true_or, or_true, List.map_cons, List.map_nil])
    have s2 := sortU_pr (z := zCv 2) (env := [.val dw, .val (.lst ((fsL W).map prD)), .val (.lst ((otL W).map prD)), .no, .no, .no, .no]) (M := M) (M1 := M) (L := otL W) (by simp only [zSeq_z, zFrz_z, zSet_z, zSetO_z, zRet_z, zDrop_z, zIfS_z, zTst_z, zTru_z, zNot_z, zAnd_z, zOr_z, zAndV_z, zNotV_z, zIf_z, zOp_z, zBf_z, zCons_z, zNil_z, zCall_z, sCons_z, sNil_z, zSv_z, zVl_z, zCv_z, zBv_z, zVar_z, zK_z, zNeg_z, zTup_z, zLst_z, zTupOf_z, zLstOf_z, zLen_z, zAt_z, zProp_z, zApp_z, zAugN_z, zSeqI_z, zRng1_z, zRng2_z, zAsg_z, zPart_z, zNoP_z, getPl, setPl, wipeE, List.getElem?_cons_succ, List.getElem?_cons_zero, List.set_cons_succ, List.set_cons_zero, Res.bind_ok, Res.toS_ok, callR1, callR2, callR3, callR0_4, callRk1, callRk2, callRk3', callRk4', List.length_cons, List.length_nil, Nat.zero_add, Nat.reduceAdd, sz1, sz2, sz3, sz4, sz5, sz6, sz7, sz8, if_true, if_false, Bool.false_eq_true, Bool.not_true, Bool.not_false, zNx_z, zBk_z, zCt_z, itemsD_lst, itemsD_tup, deref_bl, deref_int, deref_str, deref_tup, deref_lst, Option.bind_some, truD, gAdd_int, gSub_int, gMul_int, gMod_int, gCmpI_int, gEq_int, gInt_int, lenR_lst, lenR_blst, lenR_tup, decide_true, decide_false, true_or, or_true, List.map_cons, List.map_nil])
    rw [List.map_append]
    simp only [zSeq_z, zFrz_z, zSet_z, zSetO_z, zRet_z, zDrop_z, zIfS_z, zTst_z, zTru_z, zNot_z, zAnd_z, zOr_z, zAndV_z, zNotV_z, zIf_z, zOp_z, zBf_z, zCons_z, zNil_z, zCall_z, sCons_z, sNil_z, zSv_z, zVl_z, zCv_z, zBv_z, zVar_z, zK_z, zNeg_z, zTup_z, zLst_z, zTupOf_z, zLstOf_z, zLen_z, zAt_z, zProp_z, zApp_z, zAugN_z, zSeqI_z, zRng1_z, zRng2_z, zAsg_z, zPart_z, zNoP_z, getPl, setPl, wipeE, List.getElem?_cons_succ, List.getElem?_cons_zero, List.set_cons_succ, List.set_cons_zero, Res.bind_ok, Res.toS_ok, callR1, callR2, callR3, callR0_4, callRk1, callRk2, callRk3', callRk4', List.length_cons, List.length_nil, Nat.zero_add, Nat.reduceAdd, sz1, sz2, sz3, sz4, sz5, sz6, sz7, sz8, if_true, if_false, Bool.false_eq_true, Bool.not_true, Bool.not_false, zNx_z, zBk_z, zCt_z, itemsD_lst, itemsD_tup, deref_bl, deref_int, deref_str, deref_tup, deref_lst, Option.bind_some, truD, gAdd_int, gSub_int, gMul_int, gMod_int, gCmpI_int, gEq_int, gInt_int, lenR_lst, lenR_blst, lenR_tup, decide_true, decide_false, true_or, or_true, List.map_cons, List.map_nil, s1, s2, g]
  · simp only [zSeq_z, zFrz_z, zSet_z, zSetO_z, zRet_z, zDrop_z, zIfS_z, zTst_z, zTru_z, zNot_z, zAnd_z, zOr_z, zAndV_z, zNotV_z, zIf_z, zOp_z, zBf_z, zCons_z, zNil_z, zCall_z, sCons_z, sNil_z, zSv_z, zVl_z, zCv_z, zBv_z, zVar_z, zK_z, zNeg_z, zTup_z, zLst_z, zTupOf_z, zLstOf_z, zLen_z, zAt_z, zProp_z, zApp_z, zAugN_z, zSeqI_z, zRng1_z, zRng2_z, zAsg_z, zPart_z, zNoP_z, getPl, setPl, wipeE, List.getElem?_cons_succ, List.getElem?_cons_zero, List.set_cons_succ, List.set_cons_zero, Res.bind_ok, Res.toS_ok, callR1, callR2, callR3, callR0_4, callRk1, callRk2, callRk3', callRk4', List.length_cons, List.length_nil, Nat.zero_add, Nat.reduceAdd, sz1, sz2, sz3, sz4, sz5, sz6, sz7, sz8, if_true, if_false, Bool.false_eq_true, Bool.not_true, Bool.not_false, zNx_z, zBk_z, zCt_z, itemsD_lst, itemsD_tup, deref_bl, deref_int, deref_str, deref_tup, deref_lst, Option.bind_some, truD, gAdd_int, gSub_int, gMul_int, gMod_int, gCmpI_int, gEq_int, gInt_int, lenR_lst, lenR_blst, lenR_tup, decide_true, decide_false, true_or, or_true, List.map_cons, List.map_nil, prD]
end Zy
set_option maxHeartbeats 2000000
namespace Zy
open PySem PySem.Spec PyProof.Rows L2
/-! two machines: the law's works, what it asks of them -/
def wkT (w : Int × Int) : D := .tup [.int w.1, .int w.2]
def wkL (w : Int × Int) : D := .lst [.int w.1, .int w.2]
def InW (W : Wk) : Prop := ∀ w ∈ W, 0 ≤ w.1 ∧ w.1 ≤ 101 ∧ 0 ≤ w.2 ∧ w.2 ≤ 101
theorem InW.a {W : Wk} (h : InW W) (j : Nat) : 0 ≤ aW W j ∧ aW W j ≤ 101 ∧ 0 ≤ bW W j ∧ bW W j ≤ 101 := by
  unfold aW bW
  rw [List.getD_eq_getElem?_getD]
  cases q : W[j]? with
  | none => exact ⟨by decide, by decide, by decide, by decide⟩
  | some w => exact h w (List.mem_of_getElem? q)
abbrev wksE (m most : Int) (W : Wk) (e4 e5 : Sl) : Ev := [.val (.ref 0), .val (.int m), .val (.int most), .own (.lst (W.map wkT)), e4, e5]
def wksB (lf : Lens) (T : Sem1) : ZS := (zSeq (zFrz [] (zSet 5 (zTup (zCons (zCall T 2 0 [0, 1] [] (sCons (zSv 0) (sCons (zSv 2) sNil)) sNil) (zCons (zCall T 2 0 [0, 1] [] (sCons (zSv 0) (sCons (zSv 2) sNil)) sNil) zNil)))))
      (zSeq (zFrz [] (zIfS (zAnd (zTst (zOp gGt (zLen lf (zSv 3)) (zK (.int 0)))) (zTst (zOp gEq (zCall T 2 0 [0, 1] [] (sCons (zSv 0) (sCons (zVl (zK (.int 4))) sNil)) sNil) (zK (.int 0)))))
    (zSeq (zFrz [] (zSet 5 (zOp gIx (zCv 3) (zCall T 2 0 [0, 1] [] (sCons (zSv 0) (sCons (zVl (zLen lf (zSv 3))) sNil)) sNil))))
      zNx)
    zNx))
      (zSeq (zFrz [] (zApp 3 (zVar 5)))
      zNx)))
theorem wksB_ok {lf : Lens} {T : Sem1} (hT : TakeOk T) {m most : Int} {W : Wk} {e4 e5 : Sl} {M : Sto} (hM : Hd M) (h1 : 0 < most) (h2 : most ≤ 101) (hW : InW W) (hl : W.length ≤ 100) : ∃ W' e5' M', Hd M' ∧ W'.length = W.length + 1 ∧ InW W' ∧ wksB lf T (wksE m most W e4 e5) M = .nx (wksE m most W' e4 e5') M' := by
  have hls : W.length < sizeLine := Nat.lt_of_lt_of_le (show W.length < 1001 by omega) (by decide)
  obtain ⟨a, M1, a1, a2, k1, t1⟩ := hT M most hM h1
  obtain ⟨b, M2, b1, b2, k2, t2⟩ := hT M1 most k1 h1
  have app : ∀ w : Int × Int, (0 ≤ w.1 ∧ w.1 ≤ 101 ∧ 0 ≤ w.2 ∧ w.2 ≤ 101) → InW (W ++ [w]) := fun w h x hx => by
    rcases List.mem_append.mp hx with hx | hx
    · exact hW x hx
    · rw [List.mem_singleton] at hx
      rw [hx]
      exact h
  have s2 : 2 ≤ sizeLine := by decide
  by_cases h0 : W.length = 0
  · have gt : gGt (.int (W.length : Nat)) (.int 0) M2 = .ok (.bl false) M2 := by simp [gGt, h0]
    refine ⟨W ++ [(a, b)], .val (wkT (a, b)), M2, k2, by simp, app _ ⟨a1, by omega, b1, by omega⟩, ?_⟩
    rw [wksE, wksE, List.map_append]
    simp only [zSeq_z, zFrz_z, zSet_z, zSetO_z, zRet_z, zDrop_z, zIfS_z, zTst_z, zTru_z, zNot_z, zAnd_z, zOr_z, zAndV_z, zNotV_z, zIf_z, zOp_z, zBf_z, zCons_z, zNil_z, zCall_z, sCons_z, sNil_z, zSv_z, zVl_z, zCv_z, zBv_z, zVar_z, zK_z, zNeg_z, zTup_z, zLst_z, zTupOf_z, zLstOf_z, zLen_z, zAt_z, zProp_z, zApp_z, zAugN_z, zSeqI_z, zRng1_z, zRng2_z, zAsg_z, zPart_z, zNoP_z, getPl, setPl, wipeE, List.getElem?_cons_succ, List.getElem?_cons_zero, List.set_cons_succ, List.set_cons_zero, Res.bind_ok, Res.toS_ok, callR1, callR2, callR3, callR0_4, callRk1, callRk2, callRk3', callRk4', List.length_cons, List.length_nil, Nat.zero_add, Nat.reduceAdd, sz1, sz2, sz3, sz4, sz5, sz6, sz7, sz8, if_true, if_false, Bool.false_eq_true, Bool.not_true, Bool.not_false, zNx_z, zBk_z, zCt_z, itemsD_lst, itemsD_tup, deref_bl, deref_int, deref_str, deref_tup, deref_lst, Option.bind_some, truD, gAdd_int, gSub_int, gMul_int, gMod_int, gCmpI_int, gEq_int, gInt_int, lenR_lst, lenR_blst, lenR_tup, decide_true, decide_false, true_or, or_true, List.map_cons, List.map_nil, wksB, t1, t2, List.length_map, gt, hls, wkT]
  · have h0' : 0 < W.length := by omega
    have gt : gGt (.int (W.length : Nat)) (.int 0) M2 = .ok (.bl true) M2 := by simp [gGt, h0']
    obtain ⟨c, M3, c1, c2, k3, t3⟩ := hT M2 4 k2 (by decide)
    by_cases hc : c = 0
    · subst hc
      obtain ⟨j, M4, j1, j2, k4, t4⟩ := hT M3 (W.length : Nat) k3 (by omega)
      have hj : j.toNat < W.length := by omega
      have g : gIx (.lst (W.map wkT)) (.int j) M4 = .ok (wkT W[j.toNat]) M4 := gIx_lst j1 (by rw [List.getElem?_map, List.getElem?_eq_getElem hj]; rfl)
      refine ⟨W ++ [W[j.toNat]], .val (wkT W[j.toNat]), M4, k4, by simp, app _ (hW _ (List.getElem_mem hj)), ?_⟩
      rw [wksE, wksE, List.map_append]
      simp only [zSeq_z, zFrz_z, zSet_z, zSetO_z, zRet_z, zDrop_z, zIfS_z, zTst_z, zTru_z, zNot_z, zAnd_z, zOr_z, zAndV_z, zNotV_z, zIf_z, zOp_z, zBf_z, zCons_z, zNil_z, zCall_z, sCons_z, sNil_z, zSv_z, zVl_z, zCv_z, zBv_z, zVar_z, zK_z, zNeg_z, zTup_z, zLst_z, zTupOf_z, zLstOf_z, zLen_z, zAt_z, zProp_z, zApp_z, zAugN_z, zSeqI_z, zRng1_z, zRng2_z, zAsg_z, zPart_z, zNoP_z, getPl, setPl, wipeE, List.getElem?_cons_succ, List.getElem?_cons_zero, List.set_cons_succ, List.set_cons_zero, Res.bind_ok, Res.toS_ok, callR1, callR2, callR3, callR0_4, callRk1, callRk2, callRk3', callRk4', List.length_cons, List.length_nil, Nat.zero_add, Nat.reduceAdd, sz1, sz2, sz3, sz4, sz5, sz6, sz7, sz8, if_true, if_false, Bool.false_eq_true, Bool.not_true, Bool.not_false, zNx_z, zBk_z, zCt_z, itemsD_lst, itemsD_tup, deref_bl, deref_int, deref_str, deref_tup, deref_lst, Option.bind_some, truD, gAdd_int, gSub_int, gMul_int, gMod_int, gCmpI_int, gEq_int, gInt_int, lenR_lst, lenR_blst, lenR_tup, decide_true, decide_false, true_or, or_true, List.map_cons, List.map_nil, wksB, t1, t2, List.length_map, gt, t3, t4, g, hls]
    · have eq : gEq (.int c) (.int 0) M3 = .ok (.bl false) M3 := by simp [hc]
      refine ⟨W ++ [(a, b)], .val (wkT (a, b)), M3, k3, by simp, app _ ⟨a1, by omega, b1, by omega⟩, ?_⟩
      rw [wksE, wksE, List.map_append]
      simp only [zSeq_z, zFrz_z, zSet_z, zSetO_z, zRet_z, zDrop_z, zIfS_z, zTst_z, zTru_z, zNot_z, zAnd_z, zOr_z, zAndV_z, zNotV_z, zIf_z, zOp_z, zBf_z, zCons_z, zNil_z, zCall_z, sCons_z, sNil_z, zSv_z, zVl_z, zCv_z, zBv_z, zVar_z, zK_z, zNeg_z, zTup_z, zLst_z, zTupOf_z, zLstOf_z, zLen_z, zAt_z, zProp_z, zApp_z, zAugN_z, zSeqI_z, zRng1_z, zRng2_z, zAsg_z, zPart_z, zNoP_z, getPl, setPl, wipeE, List.getElem?_cons_succ, List.getElem?_cons_zero, List.set_cons_succ, List.set_cons_zero, Res.bind_ok, Res.toS_ok, callR1, callR2, callR3, callR0_4, callRk1, callRk2, callRk3', callRk4', List.length_cons, List.length_nil, Nat.zero_add, Nat.reduceAdd, sz1, sz2, sz3, sz4, sz5, sz6, sz7, sz8, if_true, if_false, Bool.false_eq_true, Bool.not_true, Bool.not_false, zNx_z, zBk_z, zCt_z, itemsD_lst, itemsD_tup, deref_bl, deref_int, deref_str, deref_tup, deref_lst, Option.bind_some, truD, gAdd_int, gSub_int, gMul_int, gMod_int, gCmpI_int, gEq_int, gInt_int, lenR_lst, lenR_blst, lenR_tup, decide_true, decide_false, true_or, or_true, List.map_cons, List.map_nil, wksB, t1, t2, List.length_map, gt, t3, hc, hls, wkT]
theorem wks_loop {lf : Lens} {T : Sem1} (hT : TakeOk T) {m : Nat} {most : Int} {M : Sto} (hM : Hd M) (h1 : 0 < most) (h2 : most ≤ 101) (hm : m ≤ 20) : ∃ W e4 e5 M', Hd M' ∧ W.length = m ∧ InW W ∧ zFor (zRng1 (zCons (zVar 1) zNil)) (tgN 4) (wksB lf T) (wksE m most [] .no .no) M = .nx (wksE m most W e4 e5) M' := by
  have hb := fun (W : Wk) (e4 e5 : Sl) (M : Sto) hM hW hl => wksB_ok (lf := lf) hT (m := m) (most := most) (W := W) (e4 := e4) (e5 := e5) (M := M) hM h1 h2 hW hl
  generalize wksB lf T = y at hb
  have hz : zRng1 (zCons (zVar 1) zNil) (wksE m most [] .no .no) M = .ok (stpD 0 1 m) M := by
    have := rngR_nat (M := M) m (by omega)
    simp only [zSeq_z, zFrz_z, zSet_z, zSetO_z, zRet_z, zDrop_z, zIfS_z, zTst_z, zTru_z, zNot_z, zAnd_z, zOr_z, zAndV_z, zNotV_z, zIf_z, zOp_z, zBf_z, zCons_z, zNil_z, zCall_z, sCons_z, sNil_z, zSv_z, zVl_z, zCv_z, zBv_z, zVar_z, zK_z, zNeg_z, zTup_z, zLst_z, zTupOf_z, zLstOf_z, zLen_z, zAt_z, zProp_z, zApp_z, zAugN_z, zSeqI_z, zRng1_z, zRng2_z, zAsg_z, zPart_z, zNoP_z, getPl, setPl, wipeE, List.getElem?_cons_succ, List.getElem?_cons_zero, List.set_cons_succ, List.set_cons_zero, Res.bind_ok, Res.toS_ok, callR1, callR2, callR3, callR0_4, callRk1, callRk2, callRk3', callRk4', List.length_cons, List.length_nil, Nat.zero_add, Nat.reduceAdd, sz1, sz2, sz3, sz4, sz5, sz6, sz7, sz8, if_true, if_false, Bool.false_eq_true, Bool.not_true, Bool.not_false, zNx_z, zBk_z, zCt_z, itemsD_lst, itemsD_tup, deref_bl, deref_int, deref_str, deref_tup, deref_lst, Option.bind_some, truD, gAdd_int, gSub_int, gMul_int, gMod_int, gCmpI_int, gEq_int, gInt_int, lenR_lst, lenR_blst, lenR_tup, decide_true, decide_false, true_or, or_true, List.map_cons, List.map_nil, this]
  refine zFor_gen (I := fun i env M' => ∃ W e4 e5, i ≤ m ∧ W.length = i ∧ InW W ∧ Hd M' ∧ env = wksE m most W e4 e5) (Q := fun o => ∃ W e4 e5 M', Hd M' ∧ W.length = m ∧ InW W ∧ o = .nx (wksE m most W e4 e5) M') hz ⟨[], .no, .no, by omega, rfl, (fun w hw => by cases hw), hM, rfl⟩ (fun i x env M' hx hI => ?_) fun env M' hI => ?_
  · obtain ⟨W, e4, e5, hi, hl, hW, h, rfl⟩ := hI
    obtain ⟨rfl, hlt⟩ := stpD_get hx
    obtain ⟨W2, f5, M2, k2, l2, w2, q⟩ := hb W (.val (.int (0 + (i : Int) * 1))) e5 M' h hW (by omega)
    refine ⟨wksE m most W (.val (.int (0 + (i : Int) * 1))) e5, rfl, ?_⟩
    rw [q]
    exact ⟨W2, _, f5, by omega, by omega, w2, k2, rfl⟩
  · obtain ⟨W, e4, e5, hi, hl, hW, h, rfl⟩ := hI
    rw [stpD_len] at hl
    exact ⟨W, e4, e5, M', h, hl, hW, rfl⟩
def WkOk (f : Sem1) : Prop := ∀ M (n : Nat), Hd M → n ≤ 20 → ∃ W M', Hd M' ∧ W.length = n ∧ InW W ∧ f [.val (.ref 0), .val (.int (n : Nat))] M = .ok (.lst (W.map wkT)) M'
def kWk (T : Sem1) (y : ZS) : ZS :=
  (zSeq (zFrz [] (zSet 2 (zOp gIx (zLst (zCons (zK (.int 3)) (zCons (zK (.int 10)) (zCons (zK (.int 101)) zNil)))) (zCall T 2 0 [0, 1] [] (sCons (zSv 0) (sCons (zVl (zK (.int 3))) sNil)) sNil))))
      (zSeq (zFrz [] (zSetO 3 (zLst zNil)))
      (zSeq (zFrz [] y)
      (zSeq (zFrz [3] (zRet (zVar 3)))
      zNx))))
theorem wk_seq {T : Sem1} {y : ZS} {m most r : Int} {W : Wk} {e4 e5 : Sl} {M M1 M2 : Sto} (t : T [.val (.ref 0), .val (.int 3)] M = .ok (.int r) M1) (g : gIx (.lst [.int 3, .int 10, .int 101]) (.int r) M1 = .ok (.int most) M1) (h : y (wksE m most [] .no .no) M1 = .nx (wksE m most W e4 e5) M2) : zFun 2 6 (kWk T y) [.val (.ref 0), .val (.int m)] M = .ok (.lst (W.map wkT)) M2 := by
  have h : y [.val (.ref 0), .val (.int m), .val (.int most), .own (.lst []), .no, .no] M1 = .nx (wksE m most W e4 e5) M2 := h
  unfold zFun
  simp [kWk, t, g, h, zFrz, frz]
theorem wkOk {lf : Lens} {T : Sem1} (hT : TakeOk T) : WkOk (zFun 2 6 (kWk T (zFor (zRng1 (zCons (zVar 1) zNil)) (tgN 4) (wksB lf T)))) := fun M n hM hn => by
  obtain ⟨r, M1, a1, b1, k1, t1⟩ := hT M 3 hM (by decide)
  obtain ⟨most, h0, h1, g⟩ : ∃ most : Int, 0 < most ∧ most ≤ 101 ∧ gIx (.lst [.int 3, .int 10, .int 101]) (.int r) M1 = .ok (.int most) M1 := by
    have : r = 0 ∨ r = 1 ∨ r = 2 := by omega
    rcases this with rfl | rfl | rfl
    · exact ⟨3, by decide, by decide, gIx_lst (by decide) rfl⟩
    · exact ⟨10, by decide, by decide, gIx_lst (by decide) rfl⟩
    · exact ⟨101, by decide, by decide, gIx_lst (by decide) rfl⟩
  obtain ⟨W, e4, e5, M2, k2, l2, w2, q⟩ := wks_loop (lf := lf) hT k1 h0 h1 hn
  exact ⟨W, M2, k2, l2, w2, wk_seq t1 g q⟩
/-! the ends are small -/
theorem mk_bnd {W : Wk} (h : InW W) : ∀ {l : List Nat} {q : Int × Int} {m : Int}, 0 ≤ q.1 → q.1 ≤ 101 * m → 0 ≤ q.2 → q.2 ≤ 202 * m → 0 ≤ (l.foldl (stpJ (aW W) (bW W)) q).2 ∧ (l.foldl (stpJ (aW W) (bW W)) q).2 ≤ 202 * (m + l.length)
  | [], q, m, _, _, h3, h4 => ⟨h3, by simpa using h4⟩
  | j :: l, q, m, h1, h2, h3, h4 => by
    obtain ⟨a1, a2, b1, b2⟩ := h.a j
    have hm := mxI_or (i := q.1 + aW W j) (j := q.2)
    have := mk_bnd h (l := l) (q := stpJ (aW W) (bW W) q j) (m := m + 1) (by unfold stpJ; simp only; omega) (by unfold stpJ; simp only; omega) (by unfold stpJ; simp only; omega) (by unfold stpJ; simp only; omega)
    rw [List.foldl_cons, List.length_cons]
    omega
theorem mk_repr {W : Wk} (h : InW W) {l : List Nat} (hl : l.length ≤ 20) : ReprOk (.int (mkS W l)) := by
  have := mk_bnd h (l := l) (q := (0, 0)) (m := 0) (by decide) (by decide) (by decide) (by decide)
  unfold mkS
  exact .of (RD.int3 (by omega) (by omega))
theorem nats_repr {l : List Nat} (hl : l.length ≤ 20) (h : ∀ j ∈ l, j < 100) : ReprOk (.tup (natsD l)) := .of (RD.tup (k := 0) (w := 20) (m := 20) (fun d hd => by
  unfold natsD at hd
  obtain ⟨x, hx, rfl⟩ := List.mem_map.mp hd
  have := h x hx
  exact RD.int3 (by omega) (by omega)) (by rw [natsD_len]; exact hl))
/-! what the law asks of works -/
theorem wksT {W : Wk} : WksD (.lst (W.map wkT)) W := ⟨wkT, rfl, fun _ => rfl⟩
abbrev isE (W : Wk) (due dp : D) (O : List Nat) (e5 e6 : Sl) : Ev := [.val (.ref 0), .val (.lst (W.map wkT)), .val due, .val dp, .own (.lst (natsD O)), e5, e6, .no]
def isB (lf : Lens) (T : Sem1) : ZS := (zSeq (zFrz [] (zSet 6 (zCall T 2 0 [0, 1] [] (sCons (zSv 0) (sCons (zVl (zLen lf (zSv 4))) sNil)) sNil)))
      (zSeq (zFrz [] (zSw2 4 4 (zTup (zCons (zOp gIx (zCv 4) (zCv 6)) (zCons (zOp gIx (zCv 4) (zCv 5)) zNil))) (zVar 5) (zVar 6)))
      zNx))
theorem ixN_nat {n m : Nat} (h : m < n) : ixN n ((m : Nat) : Int) = some m := by
  unfold ixN
  rw [if_pos (by omega), if_pos (by omega), Int.toNat_natCast]
theorem isB_ok {lf : Lens} {T : Sem1} (hT : TakeOk T) {W : Wk} {due dp : D} {O : List Nat} {i : Nat} {e6 : Sl} {M : Sto} (hM : Hd M) (hi : i < O.length) : ∃ O' e6' M', Hd M' ∧ O'.Perm O ∧ isB lf T (isE W due dp O (.val (.int (i : Nat))) e6) M = .nx (isE W due dp O' (.val (.int (i : Nat))) e6') M' := by
  obtain ⟨r, M1, a1, b1, k1, t1⟩ := hT M (O.length : Nat) hM (by omega)
  obtain ⟨j, rfl⟩ : ∃ n : Nat, r = n := ⟨r.toNat, by omega⟩
  have hj : j < O.length := by omega
  have g1 : gIx (.lst (natsD O)) (.int (j : Nat)) M1 = .ok (.int (O[j] : Nat)) M1 := gIx_map (r := O) (ga := fun m : Nat => D.int m) (List.getElem?_eq_getElem hj) rfl
  have g2 : gIx (.lst (natsD O)) (.int (i : Nat)) M1 = .ok (.int (O[i] : Nat)) M1 := gIx_map (r := O) (ga := fun m : Nat => D.int m) (List.getElem?_eq_getElem hi) rfl
  have x1 : ixN O.length ((i : Nat) : Int) = some i := ixN_nat hi
  have x2 : ixN O.length ((j : Nat) : Int) = some j := ixN_nat hj
  have e : ((natsD O).set i (.int (O[j] : Nat))).set j (.int (O[i] : Nat)) = natsD ((O.set i O[j]).set j O[i]) := by
    unfold natsD
    rw [List.map_set, List.map_set]
  refine ⟨(O.set i O[j]).set j O[i], .val (.int (j : Nat)), M1, k1, List.set_set_perm hi hj, ?_⟩
  rw [show isE W due dp ((O.set i O[j]).set j O[i]) (.val (.int (i : Nat))) (.val (.int (j : Nat))) = [.val (.ref 0), .val (.lst (W.map wkT)), .val due, .val dp, .own (.lst (((natsD O).set i (.int (O[j] : Nat))).set j (.int (O[i] : Nat)))), .val (.int (i : Nat)), .val (.int (j : Nat)), .no] by rw [isE, e]]
  simp only [zSeq_z, zFrz_z, zSet_z, zSetO_z, zRet_z, zDrop_z, zIfS_z, zTst_z, zTru_z, zNot_z, zAnd_z, zOr_z, zAndV_z, zNotV_z, zIf_z, zOp_z, zBf_z, zCons_z, zNil_z, zCall_z, sCons_z, sNil_z, zSv_z, zVl_z, zCv_z, zBv_z, zVar_z, zK_z, zNeg_z, zTup_z, zLst_z, zTupOf_z, zLstOf_z, zLen_z, zAt_z, zProp_z, zApp_z, zAugN_z, zSeqI_z, zRng1_z, zRng2_z, zAsg_z, zPart_z, zNoP_z, getPl, setPl, wipeE, List.getElem?_cons_succ, List.getElem?_cons_zero, List.set_cons_succ, List.set_cons_zero, Res.bind_ok, Res.toS_ok, callR1, callR2, callR3, callR0_4, callRk1, callRk2, callRk3', callRk4', List.length_cons, List.length_nil, Nat.zero_add, Nat.reduceAdd, sz1, sz2, sz3, sz4, sz5, sz6, sz7, sz8, if_true, if_false, Bool.false_eq_true, Bool.not_true, Bool.not_false, zNx_z, zBk_z, zCt_z, itemsD_lst, itemsD_tup, deref_bl, deref_int, deref_str, deref_tup, deref_lst, Option.bind_some, truD, gAdd_int, gSub_int, gMul_int, gMod_int, gCmpI_int, gEq_int, gInt_int, lenR_lst, lenR_blst, lenR_tup, decide_true, decide_false, true_or, or_true, List.map_cons, List.map_nil, isB, zSw2_z, putL, natsD_len, t1, g1, g2, x1, x2, List.length_set]
theorem is_loop {lf : Lens} {T : Sem1} (hT : TakeOk T) {W : Wk} {due dp : D} {O : List Nat} {M : Sto} (hM : Hd M) (hl : O.length ≤ 20) : ∃ O' e5 e6 M', Hd M' ∧ O'.Perm O ∧ zFor (zRng1 (zCons (zLen lf (zSv 4)) zNil)) (tgN 5) (isB lf T) (isE W due dp O .no .no) M = .nx (isE W due dp O' e5 e6) M' := by
  have hb := fun (O : List Nat) (i : Nat) (e6 : Sl) (M : Sto) hM hi => isB_ok (lf := lf) hT (W := W) (due := due) (dp := dp) (O := O) (i := i) (e6 := e6) (M := M) hM hi
  generalize isB lf T = y at hb
  have hz : zRng1 (zCons (zLen lf (zSv 4)) zNil) (isE W due dp O .no .no) M = .ok (stpD 0 1 O.length) M := by
    have := rngR_nat (M := M) O.length (by omega)
    simp only [zSeq_z, zFrz_z, zSet_z, zSetO_z, zRet_z, zDrop_z, zIfS_z, zTst_z, zTru_z, zNot_z, zAnd_z, zOr_z, zAndV_z, zNotV_z, zIf_z, zOp_z, zBf_z, zCons_z, zNil_z, zCall_z, sCons_z, sNil_z, zSv_z, zVl_z, zCv_z, zBv_z, zVar_z, zK_z, zNeg_z, zTup_z, zLst_z, zTupOf_z, zLstOf_z, zLen_z, zAt_z, zProp_z, zApp_z, zAugN_z, zSeqI_z, zRng1_z, zRng2_z, zAsg_z, zPart_z, zNoP_z, getPl, setPl, wipeE, List.getElem?_cons_succ, List.getElem?_cons_zero, List.set_cons_succ, List.set_cons_zero, Res.bind_ok, Res.toS_ok, callR1, callR2, callR3, callR0_4, callRk1, callRk2, callRk3', callRk4', List.length_cons, List.length_nil, Nat.zero_add, Nat.reduceAdd, sz1, sz2, sz3, sz4, sz5, sz6, sz7, sz8, if_true, if_false, Bool.false_eq_true, Bool.not_true, Bool.not_false, zNx_z, zBk_z, zCt_z, itemsD_lst, itemsD_tup, deref_bl, deref_int, deref_str, deref_tup, deref_lst, Option.bind_some, truD, gAdd_int, gSub_int, gMul_int, gMod_int, gCmpI_int, gEq_int, gInt_int, lenR_lst, lenR_blst, lenR_tup, decide_true, decide_false, true_or, or_true, List.map_cons, List.map_nil, natsD_len, this]
  refine zFor_gen (I := fun i env M' => ∃ O' e5 e6, O'.Perm O ∧ Hd M' ∧ env = isE W due dp O' e5 e6) (Q := fun o => ∃ O' e5 e6 M', Hd M' ∧ O'.Perm O ∧ o = .nx (isE W due dp O' e5 e6) M') hz ⟨O, .no, .no, List.Perm.refl _, hM, rfl⟩ (fun i x env M' hx hI => ?_) fun env M' hI => ?_
  · obtain ⟨O', e5, e6, hp, h, rfl⟩ := hI
    obtain ⟨rfl, hlt⟩ := stpD_get hx
    have e : (0 : Int) + (i : Int) * 1 = (i : Nat) := by omega
    rw [e]
    obtain ⟨O2, f6, M2, k2, p2, q⟩ := hb O' i e6 M' h (by rw [hp.length_eq]; exact hlt)
    refine ⟨isE W due dp O' (.val (.int (i : Nat))) e6, rfl, ?_⟩
    rw [q]
    exact ⟨O2, _, f6, p2.trans hp, k2, rfl⟩
  · obtain ⟨O', e5, e6, hp, h, rfl⟩ := hI
    exact ⟨O', e5, e6, M', h, hp, rfl⟩
end Zy
set_option maxHeartbeats 0
namespace Zy.stagesfull_k53_whole_two_machines
open PySem PySem.Spec PyProof.Rows L2 Zy
def top (i : Nat) : Stmt := PySem.Challenge.pw_stagesfull_k53_whole_two_machines.main.body.getD i (.Pass ⟨0, 0, 0, 0⟩)
abbrev s_makespan : Stmt := top 1
def f_makespan : Fi := ⟨⟨.glo "makespan", "makespan", "makespan", defArgs s_makespan, defBody s_makespan, defScope s_makespan, [], []⟩, ["works", "order"], ["works", "order", "ahead", "end", "place", "one", "two"], [], []⟩
abbrev s_best_order : Stmt := top 2
def f_best_order : Fi := ⟨⟨.glo "best_order", "best_order", "best_order", defArgs s_best_order, defBody s_best_order, defScope s_best_order, [], []⟩, ["works"], ["works", "firsts", "others", "place", "one", "two", "time"], [], []⟩
abbrev s__law_draws : Stmt := top 4
def f__law_draws : Fi := ⟨⟨.glo "_law_draws", "_law_draws", "_law_draws", defArgs s__law_draws, defBody s__law_draws, defScope s__law_draws, [], []⟩, ["script", "many"], ["script", "many", "rests", "draws", "k", "cell", "mixed", "spot"], ["draws", "rests"], []⟩
abbrev s__law_take : Stmt := top 5
def f__law_take : Fi := ⟨⟨.glo "_law_take", "_law_take", "_law_take", defArgs s__law_take, defBody s__law_take, defScope s__law_take, [], []⟩, ["hand", "many"], ["hand", "many", "spot", "draws"], [], []⟩
abbrev s__law_orders : Stmt := top 6
def f__law_orders : Fi := ⟨⟨.glo "_law_orders", "_law_orders", "_law_orders", defArgs s__law_orders, defBody s__law_orders, defScope s__law_orders, [], []⟩, ["many"], ["many", "orders", "k", "longer", "order", "j"], [], []⟩
abbrev s__law_end : Stmt := top 7
def f__law_end : Fi := ⟨⟨.glo "_law_end", "_law_end", "_law_end", defArgs s__law_end, defBody s__law_end, defScope s__law_end, [], []⟩, ["works", "order", "second"], ["works", "order", "second", "ends", "time", "j"], ["ends"], []⟩
abbrev s__law_due : Stmt := top 8
def f__law_due : Fi := ⟨⟨.glo "_law_due", "_law_due", "_law_due", defArgs s__law_due, defBody s__law_due, defScope s__law_due, [], []⟩, ["works"], ["works", "first", "last", "j", "pair"], [], []⟩
abbrev s__law_works : Stmt := top 9
def f__law_works : Fi := ⟨⟨.glo "_law_works", "_law_works", "_law_works", defArgs s__law_works, defBody s__law_works, defScope s__law_works, [], []⟩, ["hand", "many"], ["hand", "many", "most", "works", "k", "work"], ["works"], []⟩
abbrev s__law_is : Stmt := top 10
def f__law_is : Fi := ⟨⟨.glo "_law_is", "_law_is", "_law_is", defArgs s__law_is, defBody s__law_is, defScope s__law_is, [], []⟩, ["hand", "works"], ["hand", "works", "due", "passed", "other", "k", "spot", "work"], ["other"], []⟩
abbrev s_law : Stmt := top 11
def f_law : Fi := ⟨⟨.glo "law", "law", "law", defArgs s_law, defBody s_law, defScope s_law, [], []⟩, ["script"], ["script", "hand", "many", "works", "best", "orders", "order", "end", "second"], [], ["hand"]⟩
def fns : List Fi := [f_makespan, f_best_order, f__law_draws, f__law_take, f__law_orders, f__law_end, f__law_due, f__law_works, f__law_is, f_law]
def p_0 : Pt := ⟨"_law_take", 2, [], [0, 1], []⟩
def p_1 : Pt := ⟨"_law_due", 1, [], [0], []⟩
def p_2 : Pt := ⟨"best_order", 0, ["works"], [0], []⟩
def p_3 : Pt := ⟨"makespan", 0, ["works", "order"], [0, 1], []⟩
def p_4 : Pt := ⟨"_law_end", 3, [], [0, 1, 2], []⟩
def p_5 : Pt := ⟨"makespan", 2, [], [0, 1], []⟩
def p_6 : Pt := ⟨"_law_works", 2, [], [0, 1], []⟩
def p_7 : Pt := ⟨"_law_orders", 1, [], [0], []⟩
def p_8 : Pt := ⟨"_law_draws", 2, [], [0, 1], []⟩
def p_9 : Pt := ⟨"best_order", 1, [], [0], []⟩
def p_10 : Pt := ⟨"_law_is", 2, [], [0, 1], []⟩
def px : Px := ⟨["len", "int", "abs", "sum", "max", "min", "all", "any", "repr", "tuple", "list", "range", "isinstance", "bool", "str", "dict", "sorted", "enumerate", "zip", "reversed"], [p_0, p_1, p_2, p_3, p_4, p_5, p_6, p_7, p_8, p_9, p_10], [], [], PySem.Challenge.pw_stagesfull_k53_whole_two_machines.main.file, []⟩
theorem b_0 : Bnd f__law_take 2 [] p_0.is := ⟨rfl, rfl, fun _ _ _ _ _ _ us ws h1 h2 => match us, ws, h1, h2 with | [a0, a1], [], _, _ => ⟨_, rfl, rfl⟩⟩
theorem b_1 : Bnd f__law_due 1 [] p_1.is := ⟨rfl, rfl, fun _ _ _ _ _ _ us ws h1 h2 => match us, ws, h1, h2 with | [a0], [], _, _ => ⟨_, rfl, rfl⟩⟩
theorem b_2 : Bnd f_best_order 0 ["works"] p_2.is := ⟨rfl, rfl, fun _ _ _ _ _ _ us ws h1 h2 => match us, ws, h1, h2 with | [], [b0], _, _ => ⟨_, rfl, rfl⟩⟩
theorem b_3 : Bnd f_makespan 0 ["works", "order"] p_3.is := ⟨rfl, rfl, fun _ _ _ _ _ _ us ws h1 h2 => match us, ws, h1, h2 with | [], [b0, b1], _, _ => ⟨_, rfl, rfl⟩⟩
theorem b_4 : Bnd f__law_end 3 [] p_4.is := ⟨rfl, rfl, fun _ _ _ _ _ _ us ws h1 h2 => match us, ws, h1, h2 with | [a0, a1, a2], [], _, _ => ⟨_, rfl, rfl⟩⟩
theorem b_5 : Bnd f_makespan 2 [] p_5.is := ⟨rfl, rfl, fun _ _ _ _ _ _ us ws h1 h2 => match us, ws, h1, h2 with | [a0, a1], [], _, _ => ⟨_, rfl, rfl⟩⟩
theorem b_6 : Bnd f__law_works 2 [] p_6.is := ⟨rfl, rfl, fun _ _ _ _ _ _ us ws h1 h2 => match us, ws, h1, h2 with | [a0, a1], [], _, _ => ⟨_, rfl, rfl⟩⟩
theorem b_7 : Bnd f__law_orders 1 [] p_7.is := ⟨rfl, rfl, fun _ _ _ _ _ _ us ws h1 h2 => match us, ws, h1, h2 with | [a0], [], _, _ => ⟨_, rfl, rfl⟩⟩
theorem b_8 : Bnd f__law_draws 2 [] p_8.is := ⟨rfl, rfl, fun _ _ _ _ _ _ us ws h1 h2 => match us, ws, h1, h2 with | [a0, a1], [], _, _ => ⟨_, rfl, rfl⟩⟩
theorem b_9 : Bnd f_best_order 1 [] p_9.is := ⟨rfl, rfl, fun _ _ _ _ _ _ us ws h1 h2 => match us, ws, h1, h2 with | [a0], [], _, _ => ⟨_, rfl, rfl⟩⟩
theorem b_10 : Bnd f__law_is 2 [] p_10.is := ⟨rfl, rfl, fun _ _ _ _ _ _ us ws h1 h2 => match us, ws, h1, h2 with | [a0, a1], [], _, _ => ⟨_, rfl, rfl⟩⟩
theorem text : TextOk fns px := by
  refine ⟨?_, ?_, ?_, ?_, by kernel_rfl⟩
  · exact all_cons (by decide +kernel) (all_cons (by decide +kernel) (all_cons (by decide +kernel) (all_cons (by decide +kernel) (all_cons (by decide +kernel) (all_cons (by decide +kernel) (all_cons (by decide +kernel) (all_cons (by decide +kernel) (all_cons (by decide +kernel) (all_cons (by decide +kernel) (all_nil))))))))))
  · exact all_cons ⟨f__law_take, at_ok 3 rfl rfl rfl rfl, .inl ⟨rfl, b_0⟩⟩ (all_cons ⟨f__law_due, at_ok 6 rfl rfl rfl rfl, .inl ⟨rfl, b_1⟩⟩ (all_cons ⟨f_best_order, at_ok 1 rfl rfl rfl rfl, .inl ⟨rfl, b_2⟩⟩ (all_cons ⟨f_makespan, at_ok 0 rfl rfl rfl rfl, .inl ⟨rfl, b_3⟩⟩ (all_cons ⟨f__law_end, at_ok 5 rfl rfl rfl rfl, .inl ⟨rfl, b_4⟩⟩ (all_cons ⟨f_makespan, at_ok 0 rfl rfl rfl rfl, .inl ⟨rfl, b_5⟩⟩ (all_cons ⟨f__law_works, at_ok 7 rfl rfl rfl rfl, .inl ⟨rfl, b_6⟩⟩ (all_cons ⟨f__law_orders, at_ok 4 rfl rfl rfl rfl, .inl ⟨rfl, b_7⟩⟩ (all_cons ⟨f__law_draws, at_ok 2 rfl rfl rfl rfl, .inl ⟨rfl, b_8⟩⟩ (all_cons ⟨f_best_order, at_ok 1 rfl rfl rfl rfl, .inl ⟨rfl, b_9⟩⟩ (all_cons ⟨f__law_is, at_ok 8 rfl rfl rfl rfl, .inl ⟨rfl, b_10⟩⟩ (all_nil)))))))))))
  · exact all_nil
  · exact all_nil
abbrev R : PySem.W.OpenRow := PySem.W.OpenLaw.row PySem.Challenge.rw_stagesfull_k53_whole_two_machines
def gl : List Str := ["_law_take", "_law_due", "best_order", "makespan", "_law_end", "_law_works", "_law_orders", "_law_draws", "_law_is", "law"]
theorem hgl : ∀ p ∈ px.pats, p.name ∈ gl := by decide +kernel
def dfs : List DfZ := fns.map (·.d)
def ers : Ers := ersOf px.exs
theorem prog : ProgOk PySem.Challenge.pw_stagesfull_k53_whole_two_machines px := ⟨fun _ => rfl, fun _ => by kernel_rfl⟩
abbrev hk : PySem.W.Hook := hookZ 6 (fxB px gl) dfs ers
def ob (s : PySem.W.SharedT) : AlZ := tellG 6 (fxB px gl) dfs ers (HandSHeadRun.getT s)
theorem ob_eq (s : PySem.W.SharedT) : ob s = hk.obs s.abs := tellG_eq (HandSHeadRun.getT_eq s)
def loose : List PySem.Str := ["makespan", "best_order", "_law_draws", "_law_take", "_law_orders", "_law_end", "_law_due", "_law_works", "_law_is"]
theorem run (w : World) : HandSHeadRun.RunEq R (PySem.W.view R.prog [11]) hk ob 4000 loose w := by
  intro os
  kernel_rfl
def meaning : Prop := ∀ ns : List Int, ns.length ≤ 63 → ∃ M, callF fns px 3 "law" [.val (.scr ns)] [] = .ok (.bl true) M
end Zy.stagesfull_k53_whole_two_machines
open PySem PySem.W PySem.Calls PyProof.Rows
theorem Zy.stagesfull_k53_whole_two_machines.ends (h : Zy.stagesfull_k53_whole_two_machines.meaning) : PySem.Challenge.rw_stagesfull_k53_whole_two_machines.Holds := by
  w_on; o_law
  refine HandSHeadRun.head_any (r := OpenLaw.row PySem.Challenge.rw_stagesfull_k53_whole_two_machines) (q := view (OpenLaw.row PySem.Challenge.rw_stagesfull_k53_whole_two_machines).prog [11]) (H := Zy.stagesfull_k53_whole_two_machines.hk) (ob := Zy.stagesfull_k53_whole_two_machines.ob) (M := 4000) (loose := Zy.stagesfull_k53_whole_two_machines.loose) (d := HandSHeadRun.topDef (OpenLaw.row PySem.Challenge.rw_stagesfull_k53_whole_two_machines).prog 11) (kwd := []) Zy.stagesfull_k53_whole_two_machines.ob_eq
    (by kernel_rfl) (fun s => by kernel_rfl) Zy.stagesfull_k53_whole_two_machines.run (by kernel_rfl) (by kernel_rfl) (by kernel_rfl) (by rfl) (by first | assumption | decide +kernel) (by decide +kernel) ⟨rfl, rfl, rfl, rfl, rfl, by decide +kernel⟩ ?hw ?hc
  case hw => w_witness2
  case hc =>
    exact Zy.law_end (l := PySem.Challenge.rw_stagesfull_k53_whole_two_machines) (k := 3) (x := "script") (lf := Zy.stagesfull_k53_whole_two_machines.f_law) rfl (by kernel_rfl) ⟨rfl, by decide, by decide⟩ Zy.stagesfull_k53_whole_two_machines.hgl Zy.stagesfull_k53_whole_two_machines.text Zy.stagesfull_k53_whole_two_machines.prog (List.mem_of_getElem? (i := 9) rfl) rfl rfl ⟨rfl, rfl⟩ (by kernel_rfl) rfl (by decide +kernel) (fun _ _ _ _ _ _ us hl => match us, hl with | [_], _ => rfl) h
set_option maxHeartbeats 0
namespace Zy.stagesfull_k53_whole_two_machines
open PySem PySem.Spec PyProof.Rows L2 Zy
def y_makespan (C : Str → Sem1) : ZS :=
  (zSeq (zFrz [] (zSet 2 (zK (.int 0))))
      (zSeq (zFrz [] (zSet 3 (zK (.int 0))))
      (zSeq (zFrz [] (zFor (zSeqI (zBv 1)) (tgN 4)
    (zSeq (zFrz [] (zAsg (tgT [5, 6]) (zOp gIx (zCv 0) (zCv 4))))
      (zSeq (zFrz [] (zAugN 2 (fun i j => i + j) (zVar 5)))
      (zSeq (zFrz [] (zSet 3 (zOp gAdd (zBf gMax2 (zCons (zCv 2) (zCons (zCv 3) zNil))) (zCv 6))))
      zNx)))))
      (zSeq (zFrz [] (zRet (zVar 3)))
      zNx))))
theorem e_makespan (k : Nat) : callF fns px (k + 1) "makespan" = zFun 2 7 (y_makespan (callF fns px k)) := by kernel_rfl
def y_best_order (C : Str → Sem1) : ZS :=
  (zSeq (zFrz [] (zSet 1 (zLc (zEnumA (zBv 0)) (tgTN [.n 3, .t [4, 5]]) (zTst (zOp gLt (zCv 4) (zCv 5))) (zTup (zCons (zVar 4) (zCons (zVar 3) zNil))) [3, 4, 5])))
      (zSeq (zFrz [] (zSet 2 (zLc (zEnumA (zBv 0)) (tgTN [.n 3, .t [4, 5]]) (zTst (zOp gGe (zCv 4) (zCv 5))) (zTup (zCons (zNeg (zVar 5)) (zCons (zVar 3) zNil))) [3, 4, 5])))
      (zSeq (zFrz [] (zRet (zTupOf (zLc (zSeqI (zOp gAdd (zSortU (zCv 1)) (zSortU (zCv 2)))) (tgT [6, 3]) (fun _ M => .ok true M) (zVar 3) [6, 3]))))
      zNx)))
theorem e_best_order (k : Nat) : callF fns px (k + 1) "best_order" = zFun 1 7 (y_best_order (callF fns px k)) := by kernel_rfl
def y__law_draws (C : Str → Sem1) : ZS :=
  (zSeq (zFrz [] (zSetO 2 (zLc (zSeqI (zBv 0)) (tgN 5) (fun _ M => .ok true M) (zBf gAbs (zCons (zBf gInt (zCons (zCv 5) zNil)) zNil)) [5])))
      (zSeq (zFrz [] (zSetO 3 (zLst zNil)))
      (zSeq (zFrz [] (zFor (zRng1 (zCons (zVar 1) zNil)) (tgN 4)
    (zSeq (zFrz [] (zSet 5 (zVar 4)))
      (zSeq (zFrz [] (zIfS (zTst (zOp gGt (zLen (lensP px C) (zSv 0)) (zK (.int 0))))
    (zSeq (zFrz [] (zSet 7 (zOp gMod (zCv 4) (zLen (lensP px C) (zSv 0)))))
      (zSeq (zFrz [] (zSet 5 (zBf gInt (zCons (zOp gIx (zCv 0) (zCv 7)) zNil))))
      (zSeq (zFrz [] (zIfS (zAnd (zTst (zOp gGe (zCv 5) (zOp gPow (zK (.int 10)) (zK (.int 18))))) (zTst (zOp gGt (zOp gIx (zCv 2) (zCv 7)) (zK (.int 0)))))
    (zSeq (zFrz [] (zApp 3 (zOp gMod (zBf gInt (zCons (zOp gIx (zCv 2) (zCv 7)) zNil)) (zK (.int 1000003)))))
      (zSeq (zFrz [] (zPut 2 (zOp gFdiv (zBf gInt (zCons (zOp gIx (zCv 2) (zCv 7)) zNil)) (zK (.int 1000003))) (zVar 7)))
      (zSeq (zFrz [] zCt)
      zNx)))
    zNx))
      zNx)))
    zNx))
      (zSeq (zFrz [] (zSet 6 (zOp gMod (zBf gInt (zCons (zOp gAdd (zOp gAdd (zOp gMul (zCv 5) (zK (.int 48271))) (zOp gMul (zCv 4) (zK (.int 69621)))) (zK (.int 11))) zNil)) (zK (.int 2147483647)))))
      (zSeq (zFrz [] (zSet 6 (zOp gMod (zBf gInt (zCons (zOp gAdd (zOp gFdiv (zOp gMul (zCv 6) (zCv 6)) (zK (.int 4096))) (zCv 6)) zNil)) (zK (.int 2147483629)))))
      (zSeq (zFrz [] (zApp 3 (zOp gMod (zBf gInt (zCons (zOp gAdd (zOp gFdiv (zOp gMul (zCv 6) (zCv 6)) (zK (.int 4096))) (zOp gMul (zCv 4) (zK (.int 7919)))) zNil)) (zK (.int 2147483629)))))
      zNx)))))))
      (zSeq (zFrz [3] (zRet (zVar 3)))
      zNx))))
theorem e__law_draws (k : Nat) : callF fns px (k + 1) "_law_draws" = zFun 2 8 (y__law_draws (callF fns px k)) := by kernel_rfl
def y__law_take (C : Str → Sem1) : ZS :=
  (zSeq (zFrz [] (zSet 2 (zOp gIx (zCv 0) (zK (.int 1)))))
      (zSeq (zFrz [] (zPut 0 (zOp gAdd (zCv 2) (zK (.int 1))) (zK (.int 1))))
      (zSeq (zFrz [] (zSet 3 (zOp gIx (zCv 0) (zK (.int 0)))))
      (zSeq (zFrz [] (zIfS (zTst (zOp gGe (zCv 2) (zLen (lensP px C) (zSv 3))))
    (zSeq (zFrz [] (zRet (zK (.int 0))))
      zNx)
    zNx))
      (zSeq (zFrz [] (zRet (zOp gMod (zOp gFdiv (zBf gInt (zCons (zOp gIx (zCv 3) (zCv 2)) zNil)) (zK (.int 7))) (zCv 1))))
      zNx)))))
theorem e__law_take (k : Nat) : callF fns px (k + 1) "_law_take" = zFun 2 4 (y__law_take (callF fns px k)) := by kernel_rfl
def y__law_orders (C : Str → Sem1) : ZS :=
  (zSeq (zFrz [] (zSet 1 (zLst (zCons (zTup zNil) zNil))))
      (zSeq (zFrz [] (zFor (zRng1 (zCons (zVar 0) zNil)) (tgN 2)
    (zSeq (zFrz [] (zSet 3 (zLst zNil)))
      (zSeq (zFrz [] (zFor (zSeqI (zBv 1)) (tgN 4)
    (zSeq (zFrz [] (zSet 3 (zOp gAdd (zCv 3) (zLc (zRng1 (zCons (zVar 0) zNil)) (tgN 5) (zTst (zOp gNotIn (zCv 5) (zCv 4))) (zOp gAdd (zCv 4) (zTup (zCons (zVar 5) zNil))) [5]))))
      zNx)))
      (zSeq (zFrz [] (zSet 1 (zVar 3)))
      zNx)))))
      (zSeq (zFrz [] (zRet (zVar 1)))
      zNx)))
theorem e__law_orders (k : Nat) : callF fns px (k + 1) "_law_orders" = zFun 1 6 (y__law_orders (callF fns px k)) := by kernel_rfl
def y__law_end (C : Str → Sem1) : ZS :=
  (zSeq (zFrz [] (zSetO 3 (zDNew false)))
      (zSeq (zFrz [] (zSet 4 (zK (.int 0))))
      (zSeq (zFrz [] (zFor (zSeqI (zBv 1)) (tgN 5)
    (zSeq (zFrz [] (zSet 4 (zOp gAdd (zCv 4) (zOp gIx (zOp gIx (zCv 0) (zCv 5)) (zK (.int 0))))))
      (zSeq (zFrz [] (zPut 3 (zVar 4) (zVar 5)))
      zNx))))
      (zSeq (zFrz [] (zSet 4 (zK (.int 0))))
      (zSeq (zFrz [] (zFor (zSeqI (zBv 2)) (tgN 5)
    (zSeq (zFrz [] (zSet 4 (zOp gAdd (zBf gMax2 (zCons (zCv 4) (zCons (zOp gIx (zCv 3) (zCv 5)) zNil))) (zOp gIx (zOp gIx (zCv 0) (zCv 5)) (zK (.int 1))))))
      zNx)))
      (zSeq (zFrz [] (zRet (zVar 4)))
      zNx))))))
theorem e__law_end (k : Nat) : callF fns px (k + 1) "_law_end" = zFun 3 6 (y__law_end (callF fns px k)) := by kernel_rfl
def y__law_due (C : Str → Sem1) : ZS :=
  (zSeq (zFrz [] (zSet 1 (zSortU (zLc (zRng1 (zCons (zLen (lensP px C) (zSv 0)) zNil)) (tgN 3) (zTst (zOp gLt (zOp gIx (zOp gIx (zCv 0) (zCv 3)) (zK (.int 0))) (zOp gIx (zOp gIx (zCv 0) (zCv 3)) (zK (.int 1))))) (zTup (zCons (zOp gIx (zOp gIx (zCv 0) (zCv 3)) (zK (.int 0))) (zCons (zVar 3) zNil))) [3]))))
      (zSeq (zFrz [] (zSet 2 (zSortU (zLc (zRng1 (zCons (zLen (lensP px C) (zSv 0)) zNil)) (tgN 3) (zTst (zOp gGe (zOp gIx (zOp gIx (zCv 0) (zCv 3)) (zK (.int 0))) (zOp gIx (zOp gIx (zCv 0) (zCv 3)) (zK (.int 1))))) (zTup (zCons (zOp gSub (zK (.int 0)) (zOp gIx (zOp gIx (zCv 0) (zCv 3)) (zK (.int 1)))) (zCons (zVar 3) zNil))) [3]))))
      (zSeq (zFrz [] (zRet (zTupOf (zLc (zSeqI (zOp gAdd (zCv 1) (zCv 2))) (tgN 4) (fun _ M => .ok true M) (zOp gIx (zCv 4) (zK (.int 1))) [4]))))
      zNx)))
theorem e__law_due (k : Nat) : callF fns px (k + 1) "_law_due" = zFun 1 5 (y__law_due (callF fns px k)) := by kernel_rfl
def y__law_works (C : Str → Sem1) : ZS :=
  (zSeq (zFrz [] (zSet 2 (zOp gIx (zLst (zCons (zK (.int 3)) (zCons (zK (.int 10)) (zCons (zK (.int 101)) zNil)))) (zCall (C "_law_take") 2 0 [0, 1] [] (sCons (zSv 0) (sCons (zVl (zK (.int 3))) sNil)) sNil))))
      (zSeq (zFrz [] (zSetO 3 (zLst zNil)))
      (zSeq (zFrz [] (zFor (zRng1 (zCons (zVar 1) zNil)) (tgN 4)
    (zSeq (zFrz [] (zSet 5 (zTup (zCons (zCall (C "_law_take") 2 0 [0, 1] [] (sCons (zSv 0) (sCons (zSv 2) sNil)) sNil) (zCons (zCall (C "_law_take") 2 0 [0, 1] [] (sCons (zSv 0) (sCons (zSv 2) sNil)) sNil) zNil)))))
      (zSeq (zFrz [] (zIfS (zAnd (zTst (zOp gGt (zLen (lensP px C) (zSv 3)) (zK (.int 0)))) (zTst (zOp gEq (zCall (C "_law_take") 2 0 [0, 1] [] (sCons (zSv 0) (sCons (zVl (zK (.int 4))) sNil)) sNil) (zK (.int 0)))))
    (zSeq (zFrz [] (zSet 5 (zOp gIx (zCv 3) (zCall (C "_law_take") 2 0 [0, 1] [] (sCons (zSv 0) (sCons (zVl (zLen (lensP px C) (zSv 3))) sNil)) sNil))))
      zNx)
    zNx))
      (zSeq (zFrz [] (zApp 3 (zVar 5)))
      zNx)))))
      (zSeq (zFrz [3] (zRet (zVar 3)))
      zNx))))
theorem e__law_works (k : Nat) : callF fns px (k + 1) "_law_works" = zFun 2 6 (y__law_works (callF fns px k)) := by kernel_rfl
def y__law_is (C : Str → Sem1) : ZS :=
  (zSeq (zFrz [] (zSet 2 (zCall (C "_law_due") 1 0 [0] [] (sCons (zSv 1) sNil) sNil)))
      (zSeq (zFrz [] (zSet 3 (zOp gIx (zLst (zCons (zVar 1) (zCons (zTupOf (zCv 1)) (zCons (zLc (zSeqI (zBv 1)) (tgN 7) (fun _ M => .ok true M) (zLstOf (zCv 7)) [7]) zNil)))) (zCall (C "_law_take") 2 0 [0, 1] [] (sCons (zSv 0) (sCons (zVl (zK (.int 3))) sNil)) sNil))))
      (zSeq (zFrz [] (zIfS (zTst (zOp gNe (zBf gRepr (zCons (zCall (C "best_order") 0 1 [0] [] sNil (sCons (zSv 3) sNil)) zNil)) (zBf gRepr (zCons (zCv 2) zNil))))
    (zSeq (zFrz [] (zRet (zK (.bl false))))
      zNx)
    zNx))
      (zSeq (zFrz [] (zIfS (zTst (zOp gNe (zBf gRepr (zCons (zCall (C "makespan") 0 2 [0, 1] [] sNil (sCons (zSv 3) (sCons (zSv 2) sNil))) zNil)) (zBf gRepr (zCons (zCall (C "_law_end") 3 0 [0, 1, 2] [] (sCons (zSv 1) (sCons (zSv 2) (sCons (zSv 2) sNil))) sNil) zNil))))
    (zSeq (zFrz [] (zRet (zK (.bl false))))
      zNx)
    zNx))
      (zSeq (zFrz [] (zSetO 4 (zLstOf (zCv 2))))
      (zSeq (zFrz [] (zFor (zRng1 (zCons (zLen (lensP px C) (zSv 4)) zNil)) (tgN 5)
    (zSeq (zFrz [] (zSet 6 (zCall (C "_law_take") 2 0 [0, 1] [] (sCons (zSv 0) (sCons (zVl (zLen (lensP px C) (zSv 4))) sNil)) sNil)))
      (zSeq (zFrz [] (zSw2 4 4 (zTup (zCons (zOp gIx (zCv 4) (zCv 6)) (zCons (zOp gIx (zCv 4) (zCv 5)) zNil))) (zVar 5) (zVar 6)))
      zNx))))
      (zSeq (zFrz [] (zRet (zOp gEq (zBf gRepr (zCons (zCall (C "makespan") 2 0 [0, 1] [] (sCons (zSv 3) (sCons (zSv 4) sNil)) sNil) zNil)) (zBf gRepr (zCons (zCall (C "_law_end") 3 0 [0, 1, 2] [] (sCons (zSv 1) (sCons (zSv 4) (sCons (zSv 4) sNil))) sNil) zNil)))))
      zNx)))))))
theorem e__law_is (k : Nat) : callF fns px (k + 1) "_law_is" = zFun 2 8 (y__law_is (callF fns px k)) := by kernel_rfl
def y_law (C : Str → Sem1) : ZS :=
  (zSeq (zFrz [] (zSetC 1 (zLst (zCons (zCall (C "_law_draws") 2 0 [0, 1] [] (sCons (zSv 0) (sCons (zVl (zK (.int 100))) sNil)) sNil) (zCons (zK (.int 0)) zNil)))))
      (zSeq (zFrz [] (zSet 2 (zOp gAdd (zK (.int 1)) (zOp gIx (zLst (zCons (zCall (C "_law_take") 2 0 [0, 1] [] (sCons (zSv 1) (sCons (zVl (zK (.int 4))) sNil)) sNil) (zCons (zCall (C "_law_take") 2 0 [0, 1] [] (sCons (zSv 1) (sCons (zVl (zK (.int 5))) sNil)) sNil) zNil))) (zBf gInt (zCons (zOp gEq (zCall (C "_law_take") 2 0 [0, 1] [] (sCons (zSv 1) (sCons (zVl (zK (.int 4))) sNil)) sNil) (zK (.int 0))) zNil))))))
      (zSeq (zFrz [] (zSet 3 (zCall (C "_law_works") 2 0 [0, 1] [] (sCons (zSv 1) (sCons (zSv 2) sNil)) sNil)))
      (zSeq (zFrz [] (zIfS (zOr (zNot (zTru (zCall (C "_law_is") 2 0 [0, 1] [] (sCons (zSv 1) (sCons (zSv 3) sNil)) sNil))) (zNot (zTru (zCall (C "_law_is") 2 0 [0, 1] [] (sCons (zSv 1) (sCons (zVl (zCall (C "_law_works") 2 0 [0, 1] [] (sCons (zSv 1) (sCons (zVl (zK (.int 8))) sNil)) sNil)) sNil)) sNil))))
    (zSeq (zFrz [] (zRet (zK (.bl false))))
      zNx)
    zNx))
      (zSeq (zFrz [] (zSet 4 (zCall (C "makespan") 2 0 [0, 1] [] (sCons (zSv 3) (sCons (zVl (zCall (C "best_order") 1 0 [0] [] (sCons (zSv 3) sNil) sNil)) sNil)) sNil)))
      (zSeq (zFrz [] (zSet 5 (zCall (C "_law_orders") 1 0 [0] [] (sCons (zSv 2) sNil) sNil)))
      (zSeq (zFrz [] (zFor (zSeqI (zBv 5)) (tgN 6)
    (zSeq (zFrz [] (zSet 7 (zCall (C "makespan") 2 0 [0, 1] [] (sCons (zSv 3) (sCons (zSv 6) sNil)) sNil)))
      (zSeq (zFrz [] (zIfS (zOr (zTst (zOp gNe (zBf gRepr (zCons (zCv 7) zNil)) (zBf gRepr (zCons (zCall (C "_law_end") 3 0 [0, 1, 2] [] (sCons (zSv 3) (sCons (zSv 6) (sCons (zSv 6) sNil))) sNil) zNil)))) (zTst (zOp gLt (zCv 7) (zCv 4))))
    (zSeq (zFrz [] (zRet (zK (.bl false))))
      zNx)
    zNx))
      (zSeq (zFrz [] (zIfS (zAnd (zTst (zOp gLt (zCv 2) (zK (.int 4)))) (zTst (zOp gLt (zBf gMin (zCons (zLc (zSeqI (zBv 5)) (tgN 8) (fun _ M => .ok true M) (zCall (C "_law_end") 3 0 [0, 1, 2] [] (sCons (zSv 3) (sCons (zSv 6) (sCons (zSv 8) sNil))) sNil) [8]) zNil)) (zCv 4))))
    (zSeq (zFrz [] (zRet (zK (.bl false))))
      zNx)
    zNx))
      zNx)))))
      (zSeq (zFrz [] (zRet (zK (.bl true))))
      zNx))))))))
theorem e_law (k : Nat) : callF fns px (k + 1) "law" = zFun 1 9 (y_law (callF fns px k)) := by kernel_rfl
end Zy.stagesfull_k53_whole_two_machines
set_option maxRecDepth 1000000
set_option maxHeartbeats 0
namespace Zy
open PySem PySem.Spec PyProof.Rows L2
def ordN (n : Nat) : Nat → List (List Nat)
  | 0 => [[]]
  | k + 1 => (ordN n k).flatMap fun o => ((List.range n).filter fun j => !o.contains j).map fun j => o ++ [j]
namespace stagesfull_k53_whole_two_machines
theorem ord1 (C : Str → Sem1) (M : Sto) : zFun 1 6 (y__law_orders C) [.val (.int 1)] M = .ok (.lst ((ordN 1 1).map fun l => .tup (natsD l))) M := by kernel_rfl
theorem ord2 (C : Str → Sem1) (M : Sto) : zFun 1 6 (y__law_orders C) [.val (.int 2)] M = .ok (.lst ((ordN 2 2).map fun l => .tup (natsD l))) M := by kernel_rfl
theorem ord3 (C : Str → Sem1) (M : Sto) : zFun 1 6 (y__law_orders C) [.val (.int 3)] M = .ok (.lst ((ordN 3 3).map fun l => .tup (natsD l))) M := by kernel_rfl
theorem ord4 (C : Str → Sem1) (M : Sto) : zFun 1 6 (y__law_orders C) [.val (.int 4)] M = .ok (.lst ((ordN 4 4).map fun l => .tup (natsD l))) M := by kernel_rfl
theorem ord5 (C : Str → Sem1) (M : Sto) : zFun 1 6 (y__law_orders C) [.val (.int 5)] M = .ok (.lst ((ordN 5 5).map fun l => .tup (natsD l))) M := by kernel_rfl
end stagesfull_k53_whole_two_machines
theorem ord_all : ∀ n < 6, (ordN n n).all (fun l => l.isPerm (List.range n)) = true := by decide +kernel
theorem ord_ne : ∀ n < 6, (ordN n n).length ≤ 120 ∧ ordN n n ≠ [] := by decide +kernel
end Zy
set_option maxHeartbeats 2000000
namespace Zy
open PySem PySem.Spec PyProof.Rows L2
/-! k53: two machines -/
def isL : ZX := (zLc (zSeqI (zBv 1)) (tgN 7) (fun _ M => .ok true M) (zLstOf (zCv 7)) [7])
theorem isL_ok {W : Wk} {due : D} {M : Sto} (hl : W.length ≤ 20) : isL [.val (.ref 0), .val (.lst (W.map wkT)), .val due, .no, .no, .no, .no, .no] M = .ok (.lst (W.map wkL)) M := by
  refine lcSeq (d := .lst (W.map wkT)) (M1 := M) (r := W) (ga := wkT) wkL (by simp only [zSeq_z, zFrz_z, zSet_z, zSetO_z, zRet_z, zDrop_z, zIfS_z, zTst_z, zTru_z, zNot_z, zAnd_z, zOr_z, zAndV_z, zNotV_z, zIf_z, zOp_z, zBf_z, zCons_z, zNil_z, zCall_z, sCons_z, sNil_z, zSv_z, zVl_z, zCv_z, zBv_z, zVar_z, zK_z, zNeg_z, zTup_z, zLst_z, zTupOf_z, zLstOf_z, zLen_z, zAt_z, zProp_z, zApp_z, zAugN_z, zSeqI_z, zRng1_z, zRng2_z, zAsg_z, zPart_z, zNoP_z, getPl, setPl, wipeE, List.getElem?_cons_succ, List.getElem?_cons_zero, List.set_cons_succ, List.set_cons_zero, Res.bind_ok, Res.toS_ok, callR1, callR2, callR3, callR0_4, callRk1, callRk2, callRk3', callRk4', List.length_cons, List.length_nil, Nat.zero_add, Nat.reduceAdd, sz1, sz2, sz3, sz4, sz5, sz6, sz7, sz8, if_true, if_false, Bool.false_eq_true, Bool.not_true, Bool.not_false, zNx_z, zBk_z, zCt_z, itemsD_lst, itemsD_tup, deref_bl, deref_int, deref_str, deref_tup, deref_lst, Option.bind_some, truD, gAdd_int, gSub_int, gMul_int, gMod_int, gCmpI_int, gEq_int, gInt_int, lenR_lst, lenR_blst, lenR_tup, decide_true, decide_false, true_or, or_true, List.map_cons, List.map_nil]) rfl rfl (by omega) fun w _ => ?_
  show zLstOf (zCv 7) _ M = _
  simp only [zSeq_z, zFrz_z, zSet_z, zSetO_z, zRet_z, zDrop_z, zIfS_z, zTst_z, zTru_z, zNot_z, zAnd_z, zOr_z, zAndV_z, zNotV_z, zIf_z, zOp_z, zBf_z, zCons_z, zNil_z, zCall_z, sCons_z, sNil_z, zSv_z, zVl_z, zCv_z, zBv_z, zVar_z, zK_z, zNeg_z, zTup_z, zLst_z, zTupOf_z, zLstOf_z, zLen_z, zAt_z, zProp_z, zApp_z, zAugN_z, zSeqI_z, zRng1_z, zRng2_z, zAsg_z, zPart_z, zNoP_z, getPl, setPl, wipeE, List.getElem?_cons_succ, List.getElem?_cons_zero, List.set_cons_succ, List.set_cons_zero, Res.bind_ok, Res.toS_ok, callR1, callR2, callR3, callR0_4, callRk1, callRk2, callRk3', callRk4', List.length_cons, List.length_nil, Nat.zero_add, Nat.reduceAdd, sz1, sz2, sz3, sz4, sz5, sz6, sz7, sz8, if_true, if_false, Bool.false_eq_true, Bool.not_true, Bool.not_false, zNx_z, zBk_z, zCt_z, itemsD_lst, itemsD_tup, deref_bl, deref_int, deref_str, deref_tup, deref_lst, Option.bind_some, truD, gAdd_int, gSub_int, gMul_int, gMod_int, gCmpI_int, gEq_int, gInt_int, lenR_lst, lenR_blst, lenR_tup, decide_true, decide_false, true_or, or_true, List.map_cons, List.map_nil, wkT, wkL]
def kIs (T DU BO MS ED : Sem1) (z : ZX) (y : ZS) : ZS :=
  (zSeq (zFrz [] (zSet 2 (zCall DU 1 0 [0] [] (sCons (zSv 1) sNil) sNil)))
      (zSeq (zFrz [] (zSet 3 (zOp gIx (zLst (zCons (zVar 1) (zCons (zTupOf (zCv 1)) (zCons z zNil)))) (zCall T 2 0 [0, 1] [] (sCons (zSv 0) (sCons (zVl (zK (.int 3))) sNil)) sNil))))
      (zSeq (zFrz [] (zIfS (zTst (zOp gNe (zBf gRepr (zCons (zCall BO 0 1 [0] [] sNil (sCons (zSv 3) sNil)) zNil)) (zBf gRepr (zCons (zCv 2) zNil))))
    (zSeq (zFrz [] (zRet (zK (.bl false))))
      zNx)
    zNx))
      (zSeq (zFrz [] (zIfS (zTst (zOp gNe (zBf gRepr (zCons (zCall MS 0 2 [0, 1] [] sNil (sCons (zSv 3) (sCons (zSv 2) sNil))) zNil)) (zBf gRepr (zCons (zCall ED 3 0 [0, 1, 2] [] (sCons (zSv 1) (sCons (zSv 2) (sCons (zSv 2) sNil))) sNil) zNil))))
    (zSeq (zFrz [] (zRet (zK (.bl false))))
      zNx)
    zNx))
      (zSeq (zFrz [] (zSetO 4 (zLstOf (zCv 2))))
      (zSeq (zFrz [] y)
      (zSeq (zFrz [] (zRet (zOp gEq (zBf gRepr (zCons (zCall MS 2 0 [0, 1] [] (sCons (zSv 3) (sCons (zSv 4) sNil)) sNil) zNil)) (zBf gRepr (zCons (zCall ED 3 0 [0, 1, 2] [] (sCons (zSv 1) (sCons (zSv 4) (sCons (zSv 4) sNil))) sNil) zNil)))))
      zNx)))))))
theorem is_seq {T DU BO MS ED : Sem1} {z : ZX} {y : ZS} {W : Wk} {J O : List Nat} {dp : D} {r m1 m2 : Int} {s1 s2 s3 : Str} {e5 e6 : Sl} {M M1 M2 : Sto}
    (h1 : DU [.val (.lst (W.map wkT))] M = .ok (.tup (natsD J)) M) (hz : z [.val (.ref 0), .val (.lst (W.map wkT)), .val (.tup (natsD J)), .no, .no, .no, .no, .no] M = .ok (.lst (W.map wkL)) M)
    (t : T [.val (.ref 0), .val (.int 3)] M = .ok (.int r) M1) (g : gIx (.lst [.lst (W.map wkT), .tup (W.map wkT), .lst (W.map wkL)]) (.int r) M1 = .ok dp M1)
    (h2 : BO [.val dp] M1 = .ok (.tup (natsD J)) M1) (r1 : gRepr [.tup (natsD J)] M1 = .ok (.str s1) M1)
    (h3 : MS [.val dp, .val (.tup (natsD J))] M1 = .ok (.int m1) M1) (h4 : ED [.val (.lst (W.map wkT)), .val (.tup (natsD J)), .val (.tup (natsD J))] M1 = .ok (.int m1) M1) (r2 : gRepr [.int m1] M1 = .ok (.str s2) M1)
    (hy : y (isE W (.tup (natsD J)) dp J .no .no) M1 = .nx (isE W (.tup (natsD J)) dp O e5 e6) M2)
    (h5 : MS [.val dp, .bor (.lst (natsD O))] M2 = .ok (.int m2) M2) (h6 : ED [.val (.lst (W.map wkT)), .bor (.lst (natsD O)), .bor (.lst (natsD O))] M2 = .ok (.int m2) M2) (r3 : gRepr [.int m2] M2 = .ok (.str s3) M2) :
    zFun 2 8 (kIs T DU BO MS ED z y) [.val (.ref 0), .val (.lst (W.map wkT))] M = .ok (.bl true) M2 := by
  unfold zFun kIs
  simp only [zSeq_z, zFrz_z, zSet_z, zSetO_z, zRet_z, zDrop_z, zIfS_z, zTst_z, zTru_z, zNot_z, zAnd_z, zOr_z, zAndV_z, zNotV_z, zIf_z, zOp_z, zBf_z, zCons_z, zNil_z, zCall_z, sCons_z, sNil_z, zSv_z, zVl_z, zCv_z, zBv_z, zVar_z, zK_z, zNeg_z, zTup_z, zLst_z, zTupOf_z, zLstOf_z, zLen_z, zAt_z, zProp_z, zApp_z, zAugN_z, zSeqI_z, zRng1_z, zRng2_z, zAsg_z, zPart_z, zNoP_z, getPl, setPl, wipeE, List.getElem?_cons_succ, List.getElem?_cons_zero, List.set_cons_succ, List.set_cons_zero, Res.bind_ok, Res.toS_ok, callR1, callR2, callR3, callR0_4, callRk1, callRk2, callRk3', callRk4', List.length_cons, List.length_nil, Nat.zero_add, Nat.reduceAdd, sz1, sz2, sz3, sz4, sz5, sz6, sz7, sz8, if_true, if_false, Bool.false_eq_true, Bool.not_true, Bool.not_false, zNx_z, zBk_z, zCt_z, itemsD_lst, itemsD_tup, deref_bl, deref_int, deref_str, deref_tup, deref_lst, Option.bind_some, truD, gAdd_int, gSub_int, gMul_int, gMod_int, gCmpI_int, gEq_int, gInt_int, lenR_lst, lenR_blst, lenR_tup, decide_true, decide_false, true_or, or_true, List.map_cons, List.map_nil, h1, hz, t, g, h2, r1, h3, h4, r2, hy, h5, h6, r3, gNe_strs, gEq_strs, List.replicate_succ, List.replicate_zero, List.cons_append, List.nil_append, Nat.reduceSub]
def IsOk (f : Sem1) : Prop := ∀ M W, Hd M → InW W → W.length ≤ 20 → ∃ M', Hd M' ∧ f [.val (.ref 0), .val (.lst (W.map wkT))] M = .ok (.bl true) M'
def DueOk (f : Sem1) : Prop := ∀ M dw W, WksD dw W → (∀ ns, dw ≠ .scr ns) → W.length ≤ 20 → f [.val dw] M = .ok (.tup (natsD (dueJ W))) M
theorem isOk {lf : Lens} {T DU BO MS ED : Sem1} (hT : TakeOk T) (hD : DueOk DU) (hB : BoOk BO) (hM : MsOk MS) (hE : EdOk ED) : IsOk (zFun 2 8 (kIs T DU BO MS ED isL (zFor (zRng1 (zCons (zLen lf (zSv 4)) zNil)) (tgN 5) (isB lf T)))) := fun M W hm hW hl => by
  have pj := due_perm W
  have jl : (dueJ W).length = W.length := by rw [pj.length_eq, List.length_range]
  have jm : ∀ j ∈ dueJ W, j < W.length := fun j hj => by simpa using pj.mem_iff.mp hj
  obtain ⟨r, M1, a1, b1, k1, t1⟩ := hT M 3 hm (by decide)
  obtain ⟨dp, hp, g⟩ : ∃ dp, WksD dp W ∧ gIx (.lst [.lst (W.map wkT), .tup (W.map wkT), .lst (W.map wkL)]) (.int r) M1 = .ok dp M1 := by
    have : r = 0 ∨ r = 1 ∨ r = 2 := by omega
    rcases this with rfl | rfl | rfl
    · exact ⟨_, wksT, gIx_lst (by decide) rfl⟩
    · exact ⟨_, ⟨wkT, rfl, fun _ => rfl⟩, gIx_lst (by decide) rfl⟩
    · exact ⟨_, ⟨wkL, rfl, fun _ => rfl⟩, gIx_lst (by decide) rfl⟩
  have d1 := hD M (.lst (W.map wkT)) W wksT (fun _ z => nomatch z) hl
  have z1 := isL_ok (W := W) (due := .tup (natsD (dueJ W))) (M := M) hl
  have b2 := hB M1 dp W hp hl
  obtain ⟨s1, r1⟩ := nats_repr (l := dueJ W) (by omega) fun j hj => by have := jm j hj; omega
  have oj : OrdS (.val (.tup (natsD (dueJ W)))) (dueJ W) := ⟨_, .inl rfl, rfl⟩
  have h3 := hM M1 dp W _ (dueJ W) hp oj jm
  have h4 := hE M1 (.lst (W.map wkT)) W _ _ (dueJ W) (dueJ W) wksT oj oj pj pj (by omega)
  rw [← mk_lend pj] at h4
  obtain ⟨s2, r2⟩ := mk_repr hW (l := dueJ W) (by omega)
  obtain ⟨O, e5, e6, M2, k2, po, q⟩ := is_loop (lf := lf) hT (W := W) (due := .tup (natsD (dueJ W))) (dp := dp) (O := dueJ W) k1 (by omega)
  have po' := po.trans pj
  have oo : OrdS (.bor (.lst (natsD O))) O := ⟨_, .inr rfl, rfl⟩
  have h5 := hM M2 dp W _ O hp oo fun j hj => by simpa using po'.mem_iff.mp hj
  have h6 := hE M2 (.lst (W.map wkT)) W _ _ O O wksT oo oo po' po' (by omega)
  rw [← mk_lend po'] at h6
  obtain ⟨s3, r3⟩ := mk_repr hW (l := O) (by rw [po.length_eq]; omega)
  exact ⟨M2, k2, is_seq d1 z1 t1 g b2 (r1 M1) h3 h4 (r2 M1) q h5 h6 (r3 M2)⟩
/-! the law -/
abbrev l53 (a : D) (n : Int) (W : Wk) (b : Int) (L : List (List Nat)) (e6 e7 : Sl) : Ev := [.val a, .val (.ref 0), .val (.int n), .val (.lst (W.map wkT)), .val (.int b), .val (.lst (L.map fun l => .tup (natsD l))), e6, e7, .no]
def l53c (ED : Sem1) : ZX := (zLc (zSeqI (zBv 5)) (tgN 8) (fun _ M => .ok true M) (zCall ED 3 0 [0, 1, 2] [] (sCons (zSv 3) (sCons (zSv 6) (sCons (zSv 8) sNil))) sNil) [8])
def l53b (MS ED : Sem1) (z : ZX) : ZS := (zSeq (zFrz [] (zSet 7 (zCall MS 2 0 [0, 1] [] (sCons (zSv 3) (sCons (zSv 6) sNil)) sNil)))
      (zSeq (zFrz [] (zIfS (zOr (zTst (zOp gNe (zBf gRepr (zCons (zCv 7) zNil)) (zBf gRepr (zCons (zCall ED 3 0 [0, 1, 2] [] (sCons (zSv 3) (sCons (zSv 6) (sCons (zSv 6) sNil))) sNil) zNil)))) (zTst (zOp gLt (zCv 7) (zCv 4))))
    (zSeq (zFrz [] (zRet (zK (.bl false))))
      zNx)
    zNx))
      (zSeq (zFrz [] (zIfS (zAnd (zTst (zOp gLt (zCv 2) (zK (.int 4)))) (zTst (zOp gLt (zBf gMin (zCons z zNil)) (zCv 4))))
    (zSeq (zFrz [] (zRet (zK (.bl false))))
      zNx)
    zNx))
      zNx)))
theorem l53b_ok {MS ED : Sem1} (hM : MsOk MS) (hE : EdOk ED) {a : D} {n b : Int} {W : Wk} {L : List (List Nat)} {l : List Nat} {e7 : Sl} {M : Sto} (hW : InW W) (hw : W.length ≤ 20) (hl : l.Perm (List.range W.length)) (hL : ∀ l ∈ L, l.Perm (List.range W.length)) (hne : L ≠ []) (hlen : L.length ≤ 1000)
    (hb : ∀ l l2, l.Perm (List.range W.length) → l2.Perm (List.range W.length) → b ≤ lendE (endA (aW W) W.length l) (bW W) l2 0) :
    ∃ e7', l53b MS ED (l53c ED) (l53 a n W b L (.val (.tup (natsD l))) e7) M = .nx (l53 a n W b L (.val (.tup (natsD l))) e7') M := by
  have ol : OrdS (.val (.tup (natsD l))) l := ⟨_, .inl rfl, rfl⟩
  have h1 := hM M (.lst (W.map wkT)) W _ l wksT ol fun j hj => by simpa using hl.mem_iff.mp hj
  have h2 := hE M (.lst (W.map wkT)) W _ _ l l wksT ol ol hl hl (by omega)
  have hbl := hb l l hl hl
  rw [← mk_lend hl] at h2 hbl
  obtain ⟨s, r⟩ := mk_repr hW (l := l) (by rw [hl.length_eq, List.length_range]; exact hw)
  have r := r M
  generalize mkS W l = v at h1 h2 hbl r
  have lt1 : decide (v < b) = false := decide_eq_false (by omega)
  have c : l53c ED (l53 a n W b L (.val (.tup (natsD l))) (.val (.int v))) M = .ok (.lst (L.map fun l2 => D.int (lendE (endA (aW W) W.length l) (bW W) l2 0))) M := by
    refine lcSeq (d := .lst (L.map fun l => .tup (natsD l))) (M1 := M) (r := L) (ga := fun l => .tup (natsD l)) (fun l2 => D.int (lendE (endA (aW W) W.length l) (bW W) l2 0)) (by simp only [zSeq_z, zFrz_z, zSet_z, zSetO_z, zRet_z, zDrop_z, zIfS_z, zTst_z, zTru_z, zNot_z, zAnd_z, zOr_z, zAndV_z, zNotV_z, zIf_z, zOp_z, zBf_z, zCons_z, zNil_z, zCall_z, sCons_z, sNil_z, zSv_z, zVl_z, zCv_z, zBv_z, zVar_z, zK_z, zNeg_z, zTup_z, zLst_z, zTupOf_z, zLstOf_z, zLen_z, zAt_z, zProp_z, zApp_z, zAugN_z, zSeqI_z, zRng1_z, zRng2_z, zAsg_z, zPart_z, zNoP_z, getPl, setPl, wipeE, List.getElem?_cons_succ, List.getElem?_cons_zero, List.set_cons_succ, List.set_cons_zero, Res.bind_ok, Res.toS_ok, callR1, callR2, callR3, callR0_4, callRk1, callRk2, callRk3', callRk4', List.length_cons, List.length_nil, Nat.zero_add, Nat.reduceAdd, sz1, sz2, sz3, sz4, sz5, sz6, sz7, sz8, if_true, if_false, Bool.false_eq_true, Bool.not_true, Bool.not_false, zNx_z, zBk_z, zCt_z, itemsD_lst, itemsD_tup, deref_bl, deref_int, deref_str, deref_tup, deref_lst, Option.bind_some, truD, gAdd_int, gSub_int, gMul_int, gMod_int, gCmpI_int, gEq_int, gInt_int, lenR_lst, lenR_blst, lenR_tup, decide_true, decide_false, true_or, or_true, List.map_cons, List.map_nil]) rfl rfl hlen fun l2 hl2 => ?_
    have ol2 : OrdS (.val (.tup (natsD l2))) l2 := ⟨_, .inl rfl, rfl⟩
    have h := hE M (.lst (W.map wkT)) W _ _ l l2 wksT ol ol2 hl (hL l2 hl2) (by omega)
    simp only [zSeq_z, zFrz_z, zSet_z, zSetO_z, zRet_z, zDrop_z, zIfS_z, zTst_z, zTru_z, zNot_z, zAnd_z, zOr_z, zAndV_z, zNotV_z, zIf_z, zOp_z, zBf_z, zCons_z, zNil_z, zCall_z, sCons_z, sNil_z, zSv_z, zVl_z, zCv_z, zBv_z, zVar_z, zK_z, zNeg_z, zTup_z, zLst_z, zTupOf_z, zLstOf_z, zLen_z, zAt_z, zProp_z, zApp_z, zAugN_z, zSeqI_z, zRng1_z, zRng2_z, zAsg_z, zPart_z, zNoP_z, getPl, setPl, wipeE, List.getElem?_cons_succ, List.getElem?_cons_zero, List.set_cons_succ, List.set_cons_zero, Res.bind_ok, Res.toS_ok, callR1, callR2, callR3, callR0_4, callRk1, callRk2, callRk3', callRk4', List.length_cons, List.length_nil, Nat.zero_add, Nat.reduceAdd, sz1, sz2, sz3, sz4, sz5, sz6, sz7, sz8, if_true, if_false, Bool.false_eq_true, Bool.not_true, Bool.not_false, zNx_z, zBk_z, zCt_z, itemsD_lst, itemsD_tup, deref_bl, deref_int, deref_str, deref_tup, deref_lst, Option.bind_some, truD, gAdd_int, gSub_int, gMul_int, gMod_int, gCmpI_int, gEq_int, gInt_int, lenR_lst, lenR_blst, lenR_tup, decide_true, decide_false, true_or, or_true, List.map_cons, List.map_nil, h]
  have em : (L.map fun l2 => D.int (lendE (endA (aW W) W.length l) (bW W) l2 0)) = (L.map fun l2 => lendE (endA (aW W) W.length l) (bW W) l2 0).map .int := by rw [List.map_map]; rfl
  rw [em] at c
  obtain ⟨m0, hm0⟩ : ∃ m0, (L.map fun l2 => lendE (endA (aW W) W.length l) (bW W) l2 0).min? = some m0 := by
    cases q : (L.map fun l2 => lendE (endA (aW W) W.length l) (bW W) l2 0).min? with
    | none =>
      rw [List.min?_eq_none_iff, List.map_eq_nil_iff] at q
      exact absurd q hne
    | some m0 => exact ⟨m0, rfl⟩
  have gm := gMin_ints (M := M) hm0
  have bm : b ≤ m0 := by
    have := (List.min?_eq_some_iff.mp hm0).1
    obtain ⟨l2, hl2, rfl⟩ := List.mem_map.mp this
    exact hb l l2 hl (hL l2 hl2)
  have lt2 : decide (m0 < b) = false := decide_eq_false (by omega)
  generalize l53c ED = z at c
  generalize (L.map fun l2 => lendE (endA (aW W) W.length l) (bW W) l2 0).map D.int = R at c gm
  refine ⟨.val (.int v), ?_⟩
  by_cases h4 : n < 4
  · have lt3 : decide (n < 4) = true := decide_eq_true h4
    simp only [zSeq_z, zFrz_z, zSet_z, zSetO_z, zRet_z, zDrop_z, zIfS_z, zTst_z, zTru_z, zNot_z, zAnd_z, zOr_z, zAndV_z, zNotV_z, zIf_z, zOp_z, zBf_z, zCons_z, zNil_z, zCall_z, sCons_z, sNil_z, zSv_z, zVl_z, zCv_z, zBv_z, zVar_z, zK_z, zNeg_z, zTup_z, zLst_z, zTupOf_z, zLstOf_z, zLen_z, zAt_z, zProp_z, zApp_z, zAugN_z, zSeqI_z, zRng1_z, zRng2_z, zAsg_z, zPart_z, zNoP_z, getPl, setPl, wipeE, List.getElem?_cons_succ, List.getElem?_cons_zero, List.set_cons_succ, List.set_cons_zero, Res.bind_ok, Res.toS_ok, callR1, callR2, callR3, callR0_4, callRk1, callRk2, callRk3', callRk4', List.length_cons, List.length_nil, Nat.zero_add, Nat.reduceAdd, sz1, sz2, sz3, sz4, sz5, sz6, sz7, sz8, if_true, if_false, Bool.false_eq_true, Bool.not_true, Bool.not_false, zNx_z, zBk_z, zCt_z, itemsD_lst, itemsD_tup, deref_bl, deref_int, deref_str, deref_tup, deref_lst, Option.bind_some, truD, gAdd_int, gSub_int, gMul_int, gMod_int, gCmpI_int, gEq_int, gInt_int, lenR_lst, lenR_blst, lenR_tup, decide_true, decide_false, true_or, or_true, List.map_cons, List.map_nil, l53b, h1, h2, r, gNe_strs, lt1, lt3, c, gm, lt2]
  · have lt3 : decide (n < 4) = false := decide_eq_false h4
    simp only [zSeq_z, zFrz_z, zSet_z, zSetO_z, zRet_z, zDrop_z, zIfS_z, zTst_z, zTru_z, zNot_z, zAnd_z, zOr_z, zAndV_z, zNotV_z, zIf_z, zOp_z, zBf_z, zCons_z, zNil_z, zCall_z, sCons_z, sNil_z, zSv_z, zVl_z, zCv_z, zBv_z, zVar_z, zK_z, zNeg_z, zTup_z, zLst_z, zTupOf_z, zLstOf_z, zLen_z, zAt_z, zProp_z, zApp_z, zAugN_z, zSeqI_z, zRng1_z, zRng2_z, zAsg_z, zPart_z, zNoP_z, getPl, setPl, wipeE, List.getElem?_cons_succ, List.getElem?_cons_zero, List.set_cons_succ, List.set_cons_zero, Res.bind_ok, Res.toS_ok, callR1, callR2, callR3, callR0_4, callRk1, callRk2, callRk3', callRk4', List.length_cons, List.length_nil, Nat.zero_add, Nat.reduceAdd, sz1, sz2, sz3, sz4, sz5, sz6, sz7, sz8, if_true, if_false, Bool.false_eq_true, Bool.not_true, Bool.not_false, zNx_z, zBk_z, zCt_z, itemsD_lst, itemsD_tup, deref_bl, deref_int, deref_str, deref_tup, deref_lst, Option.bind_some, truD, gAdd_int, gSub_int, gMul_int, gMod_int, gCmpI_int, gEq_int, gInt_int, lenR_lst, lenR_blst, lenR_tup, decide_true, decide_false, true_or, or_true, List.map_cons, List.map_nil, l53b, h1, h2, r, gNe_strs, lt1, lt3]
theorem l53_loop {MS ED : Sem1} (hM : MsOk MS) (hE : EdOk ED) {a : D} {n b : Int} {W : Wk} {L : List (List Nat)} {M : Sto} (hW : InW W) (hw : W.length ≤ 20) (hL : ∀ l ∈ L, l.Perm (List.range W.length)) (hne : L ≠ []) (hlen : L.length ≤ 1000)
    (hb : ∀ l l2, l.Perm (List.range W.length) → l2.Perm (List.range W.length) → b ≤ lendE (endA (aW W) W.length l) (bW W) l2 0) :
    ∃ e6 e7, zFor (zSeqI (zBv 5)) (tgN 6) (l53b MS ED (l53c ED)) (l53 a n W b L .no .no) M = .nx (l53 a n W b L e6 e7) M := by
  have hbd := fun (l : List Nat) (e7 : Sl) hl => l53b_ok hM hE (a := a) (n := n) (b := b) (W := W) (L := L) (l := l) (e7 := e7) (M := M) hW hw hl hL hne hlen hb
  generalize l53b MS ED (l53c ED) = y at hbd
  have hz : zSeqI (zBv 5) (l53 a n W b L .no .no) M = .ok (L.map fun l => .tup (natsD l)) M := by simp only [zSeq_z, zFrz_z, zSet_z, zSetO_z, zRet_z, zDrop_z, zIfS_z, zTst_z, zTru_z, zNot_z, zAnd_z, zOr_z, zAndV_z, zNotV_z, zIf_z, zOp_z, zBf_z, zCons_z, zNil_z, zCall_z, sCons_z, sNil_z, zSv_z, zVl_z, zCv_z, zBv_z, zVar_z, zK_z, zNeg_z, zTup_z, zLst_z, zTupOf_z, zLstOf_z, zLen_z, zAt_z, zProp_z, zApp_z, zAugN_z, zSeqI_z, zRng1_z, zRng2_z, zAsg_z, zPart_z, zNoP_z, getPl, setPl, wipeE, List.getElem?_cons_succ, List.getElem?_cons_zero, List.set_cons_succ, List.set_cons_zero, Res.bind_ok, Res.toS_ok, callR1, callR2, callR3, callR0_4, callRk1, callRk2, callRk3', callRk4', List.length_cons, List.length_nil, Nat.zero_add, Nat.reduceAdd, sz1, sz2, sz3, sz4, sz5, sz6, sz7, sz8, if_true, if_false, Bool.false_eq_true, Bool.not_true, Bool.not_false, zNx_z, zBk_z, zCt_z, itemsD_lst, itemsD_tup, deref_bl, deref_int, deref_str, deref_tup, deref_lst, Option.bind_some, truD, gAdd_int, gSub_int, gMul_int, gMod_int, gCmpI_int, gEq_int, gInt_int, lenR_lst, lenR_blst, lenR_tup, decide_true, decide_false, true_or, or_true, List.map_cons, List.map_nil]
  refine zFor_gen (I := fun i env M' => ∃ e6 e7, M' = M ∧ env = l53 a n W b L e6 e7) (Q := fun o => ∃ e6 e7, o = .nx (l53 a n W b L e6 e7) M) hz ⟨.no, .no, rfl, rfl⟩ (fun i x env M' hx hI => ?_) fun env M' hI => ?_
  · obtain ⟨e6, e7, rfl, rfl⟩ := hI
    rw [List.getElem?_map] at hx
    cases q : L[i]? with
    | none => rw [q] at hx; cases hx
    | some l =>
      rw [q] at hx
      cases hx
      obtain ⟨f7, w⟩ := hbd l e7 (hL l (List.mem_of_getElem? q))
      refine ⟨l53 a n W b L (.val (.tup (natsD l))) e7, rfl, ?_⟩
      rw [w]
      exact ⟨_, f7, rfl, rfl⟩
  · obtain ⟨e6, e7, rfl, rfl⟩ := hI
    exact ⟨e6, e7, rfl⟩
theorem gInt_bl {b : Bool} {M : Sto} : gInt [.bl b] M = .ok (.int (if b then 1 else 0)) M := by cases b <;> rfl
def OrOk5 (f : Sem1) : Prop := ∀ M (n : Nat), 1 ≤ n → n ≤ 5 → f [.val (.int n)] M = .ok (.lst ((ordN n n).map fun l => .tup (natsD l))) M
theorem ord_perm {n : Nat} (h : n < 6) : ∀ l ∈ ordN n n, l.Perm (List.range n) := fun l hl => by
  exact List.isPerm_iff.mp (List.all_eq_true.mp (ord_all n h) l hl)
def l53a (DR T WK IS BO MS OR : Sem1) (y : ZS) : ZS :=
  (zSeq (zFrz [] (zSetC 1 (zLst (zCons (zCall DR 2 0 [0, 1] [] (sCons (zSv 0) (sCons (zVl (zK (.int 100))) sNil)) sNil) (zCons (zK (.int 0)) zNil)))))
      (zSeq (zFrz [] (zSet 2 (zOp gAdd (zK (.int 1)) (zOp gIx (zLst (zCons (zCall T 2 0 [0, 1] [] (sCons (zSv 1) (sCons (zVl (zK (.int 4))) sNil)) sNil) (zCons (zCall T 2 0 [0, 1] [] (sCons (zSv 1) (sCons (zVl (zK (.int 5))) sNil)) sNil) zNil))) (zBf gInt (zCons (zOp gEq (zCall T 2 0 [0, 1] [] (sCons (zSv 1) (sCons (zVl (zK (.int 4))) sNil)) sNil) (zK (.int 0))) zNil))))))
      (zSeq (zFrz [] (zSet 3 (zCall WK 2 0 [0, 1] [] (sCons (zSv 1) (sCons (zSv 2) sNil)) sNil)))
      (zSeq (zFrz [] (zIfS (zOr (zNot (zTru (zCall IS 2 0 [0, 1] [] (sCons (zSv 1) (sCons (zSv 3) sNil)) sNil))) (zNot (zTru (zCall IS 2 0 [0, 1] [] (sCons (zSv 1) (sCons (zVl (zCall WK 2 0 [0, 1] [] (sCons (zSv 1) (sCons (zVl (zK (.int 8))) sNil)) sNil)) sNil)) sNil))))
    (zSeq (zFrz [] (zRet (zK (.bl false))))
      zNx)
    zNx))
      (zSeq (zFrz [] (zSet 4 (zCall MS 2 0 [0, 1] [] (sCons (zSv 3) (sCons (zVl (zCall BO 1 0 [0] [] (sCons (zSv 3) sNil) sNil)) sNil)) sNil)))
      (zSeq (zFrz [] (zSet 5 (zCall OR 1 0 [0] [] (sCons (zSv 2) sNil) sNil)))
      (zSeq (zFrz [] y)
      (zSeq (zFrz [] (zRet (zK (.bl true))))
      zNx))))))))
theorem law53_seq {DR T WK IS BO MS OR : Sem1} {y : ZS} {a0 : D} {ds : List Int} {r1 r2 r3 n0 b : Int} {W W8 : Wk} {J : List Nat} {L : List (List Nat)} {e6 e7 : Sl} {M0 M1 M2 M3 M4 M5 M6 M7 : Sto} (hM0 : M0 = [.lst [.lst (ds.map .int), .int 0]])
    (hd : DR [.val a0, .val (.int 100)] [] = .ok (.lst (ds.map .int)) []) (t1 : T [.val (.ref 0), .val (.int 4)] M0 = .ok (.int r1) M1) (t2 : T [.val (.ref 0), .val (.int 5)] M1 = .ok (.int r2) M2) (t3 : T [.val (.ref 0), .val (.int 4)] M2 = .ok (.int r3) M3)
    (g : gIx (.lst [.int r1, .int r2]) (.int (if decide (r3 = 0) then 1 else 0)) M3 = .ok (.int n0) M3) (w1 : WK [.val (.ref 0), .val (.int (1 + n0))] M3 = .ok (.lst (W.map wkT)) M4) (i1 : IS [.val (.ref 0), .val (.lst (W.map wkT))] M4 = .ok (.bl true) M5)
    (w2 : WK [.val (.ref 0), .val (.int 8)] M5 = .ok (.lst (W8.map wkT)) M6) (i2 : IS [.val (.ref 0), .val (.lst (W8.map wkT))] M6 = .ok (.bl true) M7) (bo : BO [.val (.lst (W.map wkT))] M7 = .ok (.tup (natsD J)) M7)
    (ms : MS [.val (.lst (W.map wkT)), .val (.tup (natsD J))] M7 = .ok (.int b) M7) (or : OR [.val (.int (1 + n0))] M7 = .ok (.lst (L.map fun l => .tup (natsD l))) M7) (hy : y (l53 a0 (1 + n0) W b L .no .no) M7 = .nx (l53 a0 (1 + n0) W b L e6 e7) M7) :
    zFun 1 9 (l53a DR T WK IS BO MS OR y) [.val a0] [] = .ok (.bl true) M7 := by
  subst hM0
  unfold zFun l53a
  simp only [zSeq_z, zFrz_z, zSet_z, zSetO_z, zRet_z, zDrop_z, zIfS_z, zTst_z, zTru_z, zNot_z, zAnd_z, zOr_z, zAndV_z, zNotV_z, zIf_z, zOp_z, zBf_z, zCons_z, zNil_z, zCall_z, sCons_z, sNil_z, zSv_z, zVl_z, zCv_z, zBv_z, zVar_z, zK_z, zNeg_z, zTup_z, zLst_z, zTupOf_z, zLstOf_z, zLen_z, zAt_z, zProp_z, zApp_z, zAugN_z, zSeqI_z, zRng1_z, zRng2_z, zAsg_z, zPart_z, zNoP_z, getPl, setPl, wipeE, List.getElem?_cons_succ, List.getElem?_cons_zero, List.set_cons_succ, List.set_cons_zero, Res.bind_ok, Res.toS_ok, callR1, callR2, callR3, callR0_4, callRk1, callRk2, callRk3', callRk4', List.length_cons, List.length_nil, Nat.zero_add, Nat.reduceAdd, sz1, sz2, sz3, sz4, sz5, sz6, sz7, sz8, if_true, if_false, Bool.false_eq_true, Bool.not_true, Bool.not_false, zNx_z, zBk_z, zCt_z, itemsD_lst, itemsD_tup, deref_bl, deref_int, deref_str, deref_tup, deref_lst, Option.bind_some, truD, gAdd_int, gSub_int, gMul_int, gMod_int, gCmpI_int, gEq_int, gInt_int, lenR_lst, lenR_blst, lenR_tup, decide_true, decide_false, true_or, or_true, List.map_cons, List.map_nil, zSetC_z, hd, t1, t2, t3, gInt_bl, g, w1, i1, w2, i2, bo, ms, or, hy, List.nil_append, List.replicate_succ, List.replicate_zero, List.cons_append, Nat.reduceSub]
namespace stagesfull_k53_whole_two_machines
theorem take_at (k : Nat) : TakeOk (callF fns px (k + 1) "_law_take") := by
  rw [e__law_take k]
  exact takeOk
theorem draws_at (k : Nat) : DrOk (callF fns px (k + 1) "_law_draws") 100 := by
  rw [e__law_draws k]
  exact fun M ns h => draws_ok (m := 100) h (by decide)
theorem ms_at (k : Nat) : MsOk (callF fns px (k + 1) "makespan") := by
  rw [e_makespan k]
  exact msOk
theorem bo_at (k : Nat) : BoOk (callF fns px (k + 1) "best_order") := by
  rw [e_best_order k]
  exact boOk
theorem ed_at (k : Nat) : EdOk (callF fns px (k + 1) "_law_end") := by
  rw [e__law_end k]
  exact edOk
theorem due_at (k : Nat) : DueOk (callF fns px (k + 1) "_law_due") := by
  rw [e__law_due k]
  exact dueOk _ rfl
theorem wk_at (k : Nat) : WkOk (callF fns px (k + 1 + 1) "_law_works") := by
  rw [e__law_works (k + 1)]
  exact wkOk (take_at k)
theorem is_at (k : Nat) : IsOk (callF fns px (k + 1 + 1) "_law_is") := by
  rw [e__law_is (k + 1)]
  exact isOk (take_at k) (due_at k) (bo_at k) (ms_at k) (ed_at k)
theorem or_at (k : Nat) : OrOk5 (callF fns px (k + 1) "_law_orders") := by
  rw [e__law_orders k]
  intro M n h1 h2
  have : n = 1 ∨ n = 2 ∨ n = 3 ∨ n = 4 ∨ n = 5 := by omega
  rcases this with rfl | rfl | rfl | rfl | rfl
  · exact ord1 _ M
  · exact ord2 _ M
  · exact ord3 _ M
  · exact ord4 _ M
  · exact ord5 _ M
theorem law_true (C : Str → Sem1) (h1 : DrOk (C "_law_draws") 100) (h2 : TakeOk (C "_law_take")) (h3 : WkOk (C "_law_works")) (h4 : IsOk (C "_law_is")) (h5 : BoOk (C "best_order")) (h6 : MsOk (C "makespan")) (h7 : EdOk (C "_law_end")) (h8 : OrOk5 (C "_law_orders")) {ns : List Int} (hns : ns.length ≤ 1000) : ∃ M', zFun 1 9 (y_law C) [.val (.scr ns)] [] = .ok (.bl true) M' := by
  obtain ⟨ds, d1⟩ := h1 [] ns hns
  have h0 : Hd [.lst [.lst (ds.map .int), .int 0]] := ⟨ds, 0, rfl, Int.le_refl _⟩
  obtain ⟨r1, M1, a1, b1, k1, t1⟩ := h2 _ 4 h0 (by decide)
  obtain ⟨r2, M2, a2, b2, k2, t2⟩ := h2 _ 5 k1 (by decide)
  obtain ⟨r3, M3, a3, b3, k3, t3⟩ := h2 _ 4 k2 (by decide)
  obtain ⟨n0, n1, n2, g⟩ : ∃ n0 : Nat, 0 ≤ n0 ∧ n0 ≤ 4 ∧ gIx (.lst [.int r1, .int r2]) (.int (if decide (r3 = 0) then 1 else 0)) M3 = .ok (.int (n0 : Nat)) M3 := by
    by_cases h : r3 = 0
    · refine ⟨r2.toNat, by omega, by omega, ?_⟩
      rw [Int.toNat_of_nonneg a2, decide_eq_true h]
      exact gIx_lst (by decide) rfl
    · refine ⟨r1.toNat, by omega, by omega, ?_⟩
      rw [Int.toNat_of_nonneg a1, decide_eq_false h]
      exact gIx_lst (by decide) rfl
  have en : (1 : Int) + (n0 : Nat) = ((1 + n0 : Nat) : Int) := by omega
  obtain ⟨W, M4, k4, wl, wi, w1⟩ := h3 M3 (1 + n0) k3 (by omega)
  obtain ⟨M5, k5, i1⟩ := h4 M4 W k4 wi (by omega)
  obtain ⟨W8, M6, k6, wl8, wi8, w2⟩ := h3 M5 8 k5 (by decide)
  obtain ⟨M7, k7, i2⟩ := h4 M6 W8 k6 wi8 (by omega)
  have pj := due_perm W
  have bo := h5 M7 (.lst (W.map wkT)) W wksT (by omega)
  have ms := h6 M7 (.lst (W.map wkT)) W (.val (.tup (natsD (dueJ W)))) (dueJ W) wksT ⟨_, .inl rfl, rfl⟩ fun j hj => by simpa using pj.mem_iff.mp hj
  have or := h8 M7 (1 + n0) (by omega) (by omega)
  have best : ∀ l l2, l.Perm (List.range W.length) → l2.Perm (List.range W.length) → mkS W (dueJ W) ≤ lendE (endA (aW W) W.length l) (bW W) l2 0 := fun l l2 p1 p2 => johnson (fun j => (wi.a j).1) (fun j => (wi.a j).2.2.1) p1 p2 pj (due_JR W)
  obtain ⟨e6, e7, q⟩ := l53_loop h6 h7 (a := .scr ns) (n := ((1 + n0 : Nat) : Int)) (b := mkS W (dueJ W)) (W := W) (L := ordN (1 + n0) (1 + n0)) (M := M7) wi (by omega) (fun l hl => by rw [wl]; exact ord_perm (by omega) l hl) (ord_ne (1 + n0) (by omega)).2 (by have := (ord_ne (1 + n0) (by omega)).1; omega) best
  rw [← en] at w1 or q
  exact ⟨M7, law53_seq rfl d1 t1 t2 t3 g w1 i1 w2 i2 bo ms or q⟩
theorem means : meaning := fun ns h => by
  rw [e_law 2]
  exact law_true _ (draws_at 1) (take_at 1) (wk_at 0) (is_at 0) (bo_at 1) (ms_at 1) (ed_at 1) (or_at 1) (by omega)
end stagesfull_k53_whole_two_machines
end Zy
theorem PySem.Challenge.cw_stagesfull_k53_whole_two_machines_holds : PySem.Challenge.rw_stagesfull_k53_whole_two_machines.Holds := by
  exact Zy.stagesfull_k53_whole_two_machines.ends Zy.stagesfull_k53_whole_two_machines.means
