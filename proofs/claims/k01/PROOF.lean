import PyProof.Rows.All
import Wide.All
import OpenK.AllK
import Wide.FinOn
import HandS.ForMost
import HandS.IsInst
import HandS.RaiseMore
import PySem.Challenge.RW_handedworld_k01_names
set_option Elab.async false
set_option linter.all false
set_option maxRecDepth 100000
set_option maxHeartbeats 4000000
/-! a layer of data over the hand layer: values as data (D), the visible heap, readings by data -/
namespace DL
open PySem PySem.Spec PyProof.Rows L2

/-- a value as data -/
inductive D where
  | non | bl (b : Bool) | int (i : Int) | str (x : Str)
  | lst (xs : List D) | tup (xs : List D)
  | dic (kvs : List (Key × D))
  | obj (C : Addr) (fs : List (Str × D))
  | raw (v : V)
abbrev Dl := List D

mutual
inductive Rep (K : PySem.W.Frag) (G : Hp) : V → D → Prop
  | non : Rep K G .non .non
  | bl (b : Bool) : Rep K G (.bl b) (.bl b)
  | int (i : Int) : Rep K G (.int i) (.int i)
  | str (x : Str) : Rep K G (.str x) (.str x)
  | lst {a : Addr} {xs : List V} {ds : List D} : SqL K G a xs → RepL K G xs ds → Rep K G (.ref a) (.lst ds)
  | tup {a : Addr} {xs : List V} {ds : List D} : SqT K G a xs → RepL K G xs ds → Rep K G (.ref a) (.tup ds)
  | dic {a : Addr} {xs : List (Key × V)} {ds : List (Key × D)} : Rd G a (.dK xs) → RepK K G xs ds → Rep K G (.ref a) (.dic ds)
  | obj {a C dx : Addr} {xs : List (Str × V)} {ds : List (Str × D)} : G a = some (.ins C dx xs) → RepS K G xs ds → Rep K G (.ref a) (.obj C ds)
  | raw (v : V) : Rep K G v (.raw v)
inductive RepL (K : PySem.W.Frag) (G : Hp) : List V → List D → Prop
  | nil : RepL K G [] []
  | cons {v : V} {vs : List V} {d : D} {ds : List D} : Rep K G v d → RepL K G vs ds → RepL K G (v :: vs) (d :: ds)
inductive RepK (K : PySem.W.Frag) (G : Hp) : List (Key × V) → List (Key × D) → Prop
  | nil : RepK K G [] []
  | cons {k : Key} {v : V} {vs : List (Key × V)} {d : D} {ds : List (Key × D)} : Rep K G v d → RepK K G vs ds → RepK K G ((k, v) :: vs) ((k, d) :: ds)
inductive RepS (K : PySem.W.Frag) (G : Hp) : List (Str × V) → List (Str × D) → Prop
  | nil : RepS K G [] []
  | cons {k : Str} {v : V} {vs : List (Str × V)} {d : D} {ds : List (Str × D)} : Rep K G v d → RepS K G vs ds → RepS K G ((k, v) :: vs) ((k, d) :: ds)
end

section
variable {K : PySem.W.Frag} {G G' : Hp}
theorem rd_mono (e : Same G G') {a : Addr} {u : HO} (h : Rd G a u) : Rd G' a u := by
  rcases h with h | ⟨o, h⟩
  · exact .inl (e _ _ h)
  · exact .inr ⟨o, e _ _ h⟩
theorem sqt_mono (e : Same G G') {a : Addr} {xs : List V} (h : SqT K G a xs) : SqT K G' a xs := by
  rcases h with h | h
  · exact .inl (rd_mono e h)
  · exact .inr h
mutual
theorem Rep.mono (e : Same G G') : ∀ {v : V} {d : D}, Rep K G v d → Rep K G' v d
  | _, _, .non => .non
  | _, _, .bl b => .bl b
  | _, _, .int i => .int i
  | _, _, .str x => .str x
  | _, _, .lst h r => .lst (e.seq h) (RepL.mono e r)
  | _, _, .tup h r => .tup (sqt_mono e h) (RepL.mono e r)
  | _, _, .dic h r => .dic (rd_mono e h) (RepK.mono e r)
  | _, _, .obj h r => .obj (e _ _ h) (RepS.mono e r)
  | _, _, .raw v => .raw v
theorem RepL.mono (e : Same G G') : ∀ {v : List V} {d : List D}, RepL K G v d → RepL K G' v d
  | _, _, .nil => .nil
  | _, _, .cons a b => .cons (Rep.mono e a) (RepL.mono e b)
theorem RepK.mono (e : Same G G') : ∀ {v : List (Key × V)} {d : List (Key × D)}, RepK K G v d → RepK K G' v d
  | _, _, .nil => .nil
  | _, _, .cons a b => .cons (Rep.mono e a) (RepK.mono e b)
theorem RepS.mono (e : Same G G') : ∀ {v : List (Str × V)} {d : List (Str × D)}, RepS K G v d → RepS K G' v d
  | _, _, .nil => .nil
  | _, _, .cons a b => .cons (Rep.mono e a) (RepS.mono e b)
end
theorem RepL.length : ∀ {v : List V} {d : List D}, RepL K G v d → v.length = d.length
  | _, _, .nil => rfl
  | _, _, .cons _ b => congrArg (· + 1) (RepL.length b)
theorem RepL.append : ∀ {v w : List V} {d e : List D}, RepL K G v d → RepL K G w e → RepL K G (v ++ w) (d ++ e)
  | _, _, _, _, .nil, b => b
  | _, _, _, _, .cons a b, c => .cons a (RepL.append b c)
theorem RepL.get : ∀ {v : List V} {d : List D} {i : Nat} {x : D}, RepL K G v d → d[i]? = some x → ∃ u, v[i]? = some u ∧ Rep K G u x
  | _, _, _, _, .nil, h => by simp at h
  | _, _, 0, _, .cons a _, h => by simp at h; subst h; exact ⟨_, rfl, a⟩
  | _, _, i + 1, _, .cons _ b, h => by
    obtain ⟨u, e, r⟩ := RepL.get (i := i) b (by simpa using h)
    exact ⟨u, by simpa using e, r⟩
theorem RepL.get' : ∀ {v : List V} {d : List D} {i : Nat} {u : V}, RepL K G v d → v[i]? = some u → ∃ x, d[i]? = some x ∧ Rep K G u x
  | _, _, _, _, .nil, h => by simp at h
  | _, _, 0, _, .cons a _, h => by simp at h; subst h; exact ⟨_, rfl, a⟩
  | _, _, i + 1, _, .cons _ b, h => by
    obtain ⟨u, e, r⟩ := RepL.get' (i := i) b (by simpa using h)
    exact ⟨u, by simpa using e, r⟩
theorem RepL.take : ∀ {v : List V} {d : List D} (n : Nat), RepL K G v d → RepL K G (v.take n) (d.take n)
  | _, _, 0, _ => .nil
  | _, _, _ + 1, .nil => .nil
  | _, _, n + 1, .cons a b => .cons a (RepL.take n b)
theorem RepL.drop : ∀ {v : List V} {d : List D} (n : Nat), RepL K G v d → RepL K G (v.drop n) (d.drop n)
  | _, _, 0, r => r
  | _, _, _ + 1, .nil => .nil
  | _, _, n + 1, .cons _ b => RepL.drop n b
theorem RepL.set {x : V} {d : D} (r : Rep K G x d) : ∀ {v : List V} {ds : List D} (i : Nat), RepL K G v ds → RepL K G (v.set i x) (ds.set i d)
  | _, _, _, .nil => .nil
  | _, _, 0, .cons _ b => .cons r b
  | _, _, i + 1, .cons a b => .cons a (RepL.set r i b)
theorem RepL.strs : ∀ (l : List Str), RepL K G (l.map V.str) (l.map D.str)
  | [] => .nil
  | x :: r => .cons (.str x) (RepL.strs r)
theorem RepL.of_strs : ∀ {l : List Str} {v : List V}, RepL K G v (l.map D.str) → v = l.map V.str
  | [], _, h => by cases h; rfl
  | x :: r, _, h => by
    cases h with
    | cons a b => cases a; rw [RepL.of_strs b]; rfl
theorem RepL.of_ints : ∀ {l : List Int} {v : List V}, RepL K G v (l.map D.int) → v = l.map V.int
  | [], _, h => by cases h; rfl
  | x :: r, _, h => by
    cases h with
    | cons a b => cases a; rw [RepL.of_ints b]; rfl
theorem RepL.ints : ∀ (l : List Int), RepL K G (l.map V.int) (l.map D.int)
  | [] => .nil
  | x :: r => .cons (.int x) (RepL.ints r)
theorem RepL.of_bls : ∀ {l : List Bool} {v : List V}, RepL K G v (l.map D.bl) → v = l.map V.bl
  | [], _, h => by cases h; rfl
  | x :: r, _, h => by
    cases h with
    | cons a b => cases a; rw [RepL.of_bls b]; rfl
end

/-! ### what may change beside: mutable objects by address -/
inductive MO where
  | die
  | lst (xs : List D)
  | dic (kvs : List (Key × D))
  | ins (C : Addr) (fs : List (Str × D))
abbrev Mem := Addr → Option MO
abbrev Fm := Addr → Bool
inductive RepO (K : PySem.W.Frag) (G : Hp) : HO → MO → Prop
  | die (i j k : Int) : RepO K G (.lst [.int i, .int j, .int k]) .die
  | lst {xs : List V} {ds : List D} : RepL K G xs ds → RepO K G (.lst xs) (.lst ds)
  | dic {xs : List (Key × V)} {ds : List (Key × D)} : RepK K G xs ds → RepO K G (.dK xs) (.dic ds)
  | ins {C dx : Addr} {xs : List (Str × V)} {ds : List (Str × D)} : RepS K G xs ds → RepO K G (.ins C dx xs) (.ins C ds)
def vis (H : Hp) (M : Mem) (F : Fm) : Hp := fun b => if F b || (M b).isSome then none else H b
def mup (M : Mem) (a : Addr) (o : MO) : Mem := fun b => if b = a then some o else M b
theorem mup_same {M : Mem} {a : Addr} {o : MO} : mup M a o a = some o := by unfold mup; rw [if_pos rfl]
theorem mup_ne {M : Mem} {a b : Addr} {o : MO} (h : b ≠ a) : mup M a o b = M b := by unfold mup; rw [if_neg h]
theorem mup_mup {M : Mem} {a : Addr} {o u : MO} : mup (mup M a o) a u = mup M a u := by
  funext b; unfold mup; split <;> rfl
theorem mup_self {M : Mem} {a : Addr} {o : MO} (h : M a = some o) : mup M a o = M := by
  funext b; unfold mup; split
  · subst_vars; exact h.symm
  · rfl
section
variable {K : PySem.W.Frag} {H H' H1 H2 : Hp} {M M' M1 M2 : Mem} {F : Fm} {a b p : Addr} {o u : HO} {m : MO}
theorem vis_of (h : vis H M F b = some o) : H b = some o ∧ F b = false ∧ M b = none := by
  unfold vis at h
  split at h
  · cases h
  · rename_i q
    simp only [Bool.or_eq_true, not_or, Bool.not_eq_true] at q
    refine ⟨h, q.1, ?_⟩
    cases e : M b with
    | none => rfl
    | some _ => rw [e] at q; exact nomatch q.2
theorem vis_mk (h : H b = some o) (f : F b = false) (n : M b = none) : vis H M F b = some o := by
  unfold vis
  rw [f, n]
  exact h
theorem vis_at (f : F b = false) (n : M b = none) : vis H M F b = H b := by
  unfold vis
  rw [f, n]
  rfl
theorem vis_le : Same (vis H M F) H := fun _ _ h => (vis_of h).1
structure MOk (K : PySem.W.Frag) (F : Fm) (M : Mem) (H : Hp) : Prop where
  fr : ∀ b, F b = true → H b ≠ none ∧ M b = none
  mo : ∀ a m, M a = some m → ∃ ho, H a = some ho ∧ RepO K (vis H M F) ho m
structure Go (K : PySem.W.Frag) (F : Fm) (M : Mem) (H : Hp) (M' : Mem) (H' : Hp) : Prop where
  ok : MOk K F M' H'
  ex : Same (vis H M F) (vis H' M' F)
  fr : ∀ b, F b = true → H' b = H b
theorem Go.refl (k : MOk K F M H) : Go K F M H M H := ⟨k, Same.refl _, fun _ _ => rfl⟩
theorem Go.trans (a : Go K F M H M1 H1) (b : Go K F M1 H1 M2 H2) : Go K F M H M2 H2 := ⟨b.ok, a.ex.trans b.ex, fun c h => (b.fr c h).trans (a.fr c h)⟩
theorem RepO.mono (e : Same H H') (r : RepO K H o m) : RepO K H' o m := by
  cases r with
  | die i j k => exact .die i j k
  | lst r => exact .lst (r.mono e)
  | dic r => exact .dic (r.mono e)
  | ins r => exact .ins (r.mono e)
theorem MOk.new (k : MOk K F M H) (h : H p = none) : F p = false ∧ M p = none := by
  constructor
  · cases e : F p with
    | false => rfl
    | true => exact absurd h (k.fr p e).1
  · cases e : M p with
    | none => rfl
    | some m =>
      obtain ⟨ho, q, _⟩ := k.mo p m e
      rw [h] at q; cases q
/-- a new object, seen -/
theorem go_new (k : MOk K F M H) (h : H p = none) : Go K F M H M (upd H p o) ∧ vis (upd H p o) M F p = some o := by
  obtain ⟨f, n⟩ := k.new h
  have ex : Same (vis H M F) (vis (upd H p o) M F) := fun b u e => by
    obtain ⟨e1, e2, e3⟩ := vis_of e
    exact vis_mk (by rw [upd_ne (ne_of_none e1 h)]; exact e1) e2 e3
  refine ⟨⟨⟨fun b hb => ?_, fun a m hm => ?_⟩, ex, fun b hb => ?_⟩, vis_mk upd_same f n⟩
  · have hne : b ≠ p := fun e => by subst e; rw [f] at hb; cases hb
    rw [upd_ne hne]; exact k.fr b hb
  · obtain ⟨ho, q, r⟩ := k.mo a m hm
    exact ⟨ho, by rw [upd_ne (ne_of_none q h)]; exact q, r.mono ex⟩
  · have hne : b ≠ p := fun e => by subst e; rw [f] at hb; cases hb
    exact upd_ne hne
/-- a new object that may change -/
theorem go_newM (k : MOk K F M H) (h : H p = none) (r : RepO K (vis H M F) o m) : Go K F M H (mup M p m) (upd H p o) := by
  obtain ⟨f, n⟩ := k.new h
  have ex : Same (vis H M F) (vis (upd H p o) (mup M p m) F) := fun b u e => by
    obtain ⟨e1, e2, e3⟩ := vis_of e
    have hne := ne_of_none e1 h
    exact vis_mk (by rw [upd_ne hne]; exact e1) e2 (by rw [mup_ne hne]; exact e3)
  refine ⟨⟨fun b hb => ?_, fun a m' hm => ?_⟩, ex, fun b hb => ?_⟩
  · have hne : b ≠ p := fun e => by subst e; rw [f] at hb; cases hb
    rw [upd_ne hne, mup_ne hne]; exact k.fr b hb
  · by_cases e : a = p
    · subst e
      rw [mup_same] at hm; cases hm
      exact ⟨o, upd_same, r.mono ex⟩
    · rw [mup_ne e] at hm
      obtain ⟨ho, q, r'⟩ := k.mo a m' hm
      exact ⟨ho, by rw [upd_ne e]; exact q, r'.mono ex⟩
  · have hne : b ≠ p := fun e => by subst e; rw [f] at hb; cases hb
    exact upd_ne hne
/-- a mutable object changed -/
theorem go_mut {m0 : MO} (k : MOk K F M H) (h : M p = some m0) (r : RepO K (vis H M F) o m) : Go K F M H (mup M p m) (upd H p o) := by
  obtain ⟨h0, e0, _⟩ := k.mo p m0 h
  have ex : Same (vis H M F) (vis (upd H p o) (mup M p m) F) := fun b u e => by
    obtain ⟨e1, e2, e3⟩ := vis_of e
    have hne : b ≠ p := fun z => by subst z; rw [h] at e3; cases e3
    exact vis_mk (by rw [upd_ne hne]; exact e1) e2 (by rw [mup_ne hne]; exact e3)
  have fne : ∀ b, F b = true → b ≠ p := fun b hb e => by
    subst e
    have := (k.fr b hb).2
    rw [h] at this; cases this
  refine ⟨⟨fun b hb => ?_, fun a m' hm => ?_⟩, ex, fun b hb => upd_ne (fne b hb)⟩
  · rw [upd_ne (fne b hb), mup_ne (fne b hb)]; exact k.fr b hb
  · by_cases e : a = p
    · subst e
      rw [mup_same] at hm; cases hm
      exact ⟨o, upd_same, r.mono ex⟩
    · rw [mup_ne e] at hm
      obtain ⟨ho, q, r'⟩ := k.mo a m' hm
      exact ⟨ho, by rw [upd_ne e]; exact q, r'.mono ex⟩
/-- the die turned: the same memory -/
theorem go_die (k : MOk K F M H) (h : M p = some .die) (i j l : Int) : Go K F M H M (upd H p (.lst [.int i, .int j, .int l])) := by
  have g := go_mut (m := .die) k h (.die i j l)
  rw [mup_self h] at g
  exact g
/-- a mutable list seen from now on as data -/
def mdel (M : Mem) (a : Addr) : Mem := fun b => if b = a then none else M b
theorem mdel_ne {a b : Addr} (h : b ≠ a) : mdel M a b = M b := by unfold mdel; rw [if_neg h]
theorem mdel_same {a : Addr} : mdel M a a = none := by unfold mdel; rw [if_pos rfl]
theorem mdel_mup {a : Addr} {o : MO} (h : M a = none) : mdel (mup M a o) a = M := by
  funext b; unfold mdel mup; split
  · subst_vars; exact h.symm
  · rfl
theorem go_frz (k : MOk K F M H) (h : M p = some m) : Go K F M H (mdel M p) H ∧ F p = false := by
  have ex : Same (vis H M F) (vis H (mdel M p) F) := fun b u e => by
    obtain ⟨e1, e2, e3⟩ := vis_of e
    have hne : b ≠ p := fun z => by subst z; rw [h] at e3; cases e3
    exact vis_mk e1 e2 (by rw [mdel_ne hne]; exact e3)
  have fne : ∀ b, F b = true → b ≠ p := fun b hb e => by
    subst e
    have := (k.fr b hb).2
    rw [h] at this; cases this
  refine ⟨⟨⟨fun b hb => ?_, fun a m' hm => ?_⟩, ex, fun _ _ => rfl⟩, ?_⟩
  · rw [mdel_ne (fne b hb)]; exact k.fr b hb
  · by_cases e : a = p
    · subst e; rw [mdel_same] at hm; cases hm
    · rw [mdel_ne e] at hm
      obtain ⟨ho, q, r'⟩ := k.mo a m' hm
      exact ⟨ho, q, r'.mono ex⟩
  · cases e : F p with
    | false => rfl
    | true => exact absurd rfl (fne p e)
end
/-- a part hidden more: D, where it is seen -/
def fadd (F : Fm) (p : Addr) : Fm := fun b => F b || (b == p)
section
variable {K : PySem.W.Frag} {H H' H1 H2 : Hp} {M M' M1 M2 : Mem} {F : Fm} {a b p : Addr} {o u : HO} {m : MO}
theorem fadd_of (h : fadd F p b = true) : F b = true ∨ b = p := by
  unfold fadd at h
  rcases Bool.or_eq_true_iff.mp h with h | h
  · exact .inl h
  · exact .inr (by simpa using h)
theorem fadd_no (h : fadd F p b = false) : F b = false ∧ b ≠ p := by
  unfold fadd at h
  obtain ⟨h1, h2⟩ := Bool.or_eq_false_iff.mp h
  exact ⟨h1, by simpa using h2⟩
theorem fadd_self : fadd F p p = true := by unfold fadd; simp
theorem fadd_mk (h : F b = true) : fadd F p b = true := by unfold fadd; rw [h]; rfl
theorem fadd_mkno (h : F b = false) (e : b ≠ p) : fadd F p b = false := by unfold fadd; rw [h]; simpa using e
end

/-! ### slots -/
abbrev Sg := L2.St
abbrev En := List (Option D)
def EnvR (K : PySem.W.Frag) (G : Hp) (σ : Sg) (δ : En) : Prop := σ.length = δ.length ∧ ∀ (i : Nat) (d : D), δ[i]? = some (some d) → ∃ v, σ[i]? = some (some v) ∧ Rep K G v d
section
variable {K : PySem.W.Frag} {G G' : Hp} {σ : Sg} {δ : En} {v : V} {d : D} {i : Nat}
theorem EnvR.mono (e : Same G G') (r : EnvR K G σ δ) : EnvR K G' σ δ := ⟨r.1, fun i d h => let ⟨v, q, z⟩ := r.2 i d h; ⟨v, q, z.mono e⟩⟩
theorem EnvR.set (r : EnvR K G σ δ) (x : Rep K G v d) (i : Nat) : EnvR K G (σ.set i (some v)) (δ.set i (some d)) := by
  refine ⟨by rw [List.length_set, List.length_set]; exact r.1, fun j e h => ?_⟩
  by_cases hj : i = j
  · subst hj
    by_cases hl : i < δ.length
    · rw [List.getElem?_set_self hl] at h
      cases h
      exact ⟨v, List.getElem?_set_self (by have := r.1; omega), x⟩
    · rw [List.getElem?_eq_none (by rw [List.length_set]; omega)] at h; cases h
  · rw [List.getElem?_set_ne hj] at h
    rw [List.getElem?_set_ne hj]
    exact r.2 j e h
theorem EnvR.unset (r : EnvR K G σ δ) (i : Nat) : EnvR K G (σ.set i none) (δ.set i none) := by
  refine ⟨by rw [List.length_set, List.length_set]; exact r.1, fun j e h => ?_⟩
  by_cases hj : i = j
  · subst hj
    by_cases hl : i < δ.length
    · rw [List.getElem?_set_self hl] at h; cases h
    · rw [List.getElem?_eq_none (by rw [List.length_set]; omega)] at h; cases h
  · rw [List.getElem?_set_ne hj] at h
    rw [List.getElem?_set_ne hj]
    exact r.2 j e h
def wipeD (δ : En) : List Nat → En
  | [] => δ
  | v :: vs => (wipeD δ vs).set v none
theorem EnvR.wipe (r : EnvR K G σ δ) : ∀ vs : List Nat, EnvR K G (wipe σ vs) (wipeD δ vs)
  | [] => r
  | v :: vs => (EnvR.wipe r vs).unset v
theorem EnvR.start {N : List Str} {vs : List V} {ds : List D} (r : RepL K G vs ds) : EnvR K G (L2.start N vs) (ds.map some ++ List.replicate (N.length - ds.length) none) := by
  have hl := r.length
  refine ⟨by unfold L2.start; simp [hl], fun i d h => ?_⟩
  unfold L2.start
  by_cases hi : i < ds.length
  · rw [List.getElem?_append_left (by simpa using hi), List.getElem?_map] at h
    cases q : ds[i]? with
    | none => rw [q] at h; cases h
    | some e =>
      rw [q] at h; cases h
      obtain ⟨u, e1, r1⟩ := r.get q
      refine ⟨u, ?_, r1⟩
      rw [List.getElem?_append_left (by simp; omega), List.getElem?_map, e1]
      rfl
  · rw [List.getElem?_append_right (by simp; omega), List.getElem?_replicate] at h
    split at h <;> cases h
end
theorem wipe_wipe (σ : Sg) : ∀ (vs us : List Nat), (∀ j ∈ us, j ∈ vs) → wipe (wipe σ vs) us = wipe σ vs := by
  have one : ∀ (vs : List Nat) (j : Nat), j ∈ vs → (wipe σ vs).set j none = wipe σ vs := by
    intro vs
    induction vs with
    | nil => intro j h; cases h
    | cons v vs ih =>
      intro j h
      show ((wipe σ vs).set v none).set j none = (wipe σ vs).set v none
      by_cases e : v = j
      · subst e; rw [List.set_set]
      · rw [List.set_comm _ _ e, ih j (by
          rcases List.mem_cons.mp h with h | h
          · exact absurd h.symm e
          · exact h)]
  intro vs us
  induction us with
  | nil => intro _; rfl
  | cons u us ih =>
    intro h
    show (wipe (wipe σ vs) us).set u none = wipe σ vs
    rw [ih fun j hj => h j (List.mem_cons_of_mem _ hj)]
    exact one vs u (h u List.mem_cons_self)
theorem wipe_set (σ : Sg) (j : Nat) (x : Option V) : ∀ (vs : List Nat), j ∈ vs → wipe (σ.set j x) vs = wipe σ vs
  | [], h => by cases h
  | v :: vs, h => by
    show (wipe (σ.set j x) vs).set v none = (wipe σ vs).set v none
    by_cases hm : j ∈ vs
    · rw [wipe_set σ j x vs hm]
    · have e : j = v := by
        rcases List.mem_cons.mp h with h | h
        · exact h
        · exact absurd h hm
      subst e
      have go : ∀ (us : List Nat), (wipe (σ.set j x) us).set j none = (wipe σ us).set j none := by
        intro us
        induction us with
        | nil => show (σ.set j x).set j none = σ.set j none; rw [List.set_set]
        | cons u us ih =>
          show ((wipe (σ.set j x) us).set u none).set j none = ((wipe σ us).set u none).set j none
          by_cases eu : u = j
          · subst eu; rw [List.set_set, List.set_set]; exact ih
          · rw [List.set_comm _ _ eu, ih, List.set_comm _ _ (Ne.symm eu)]
      exact go vs
end DL

set_option Elab.async false
set_option linter.all false
set_option maxRecDepth 100000
set_option maxHeartbeats 4000000
/-! readings by data: expressions, tests, arguments, statements, loops, calls -/
namespace DL
open PySem PySem.Spec PyProof.Rows L2

def DE (K : PySem.W.Frag) (te : TE) (δ : En) (M : Mem) (Q : D → Mem → Prop) : Prop :=
  ∀ (F : Fm) (σ : Sg) (H : Hp), EnvR K (vis H M F) σ δ → MOk K F M H → ∀ QV : VK, (∀ d M' v H', Q d M' → Go K F M H M' H' → Rep K (vis H' M' F) v d → QV v H') → te σ H QV
def DT (K : PySem.W.Frag) (tt : TT) (δ : En) (M : Mem) (Q : Bool → Mem → Prop) : Prop :=
  ∀ (F : Fm) (σ : Sg) (H : Hp), EnvR K (vis H M F) σ δ → MOk K F M H → ∀ QV : Bool → Hp → Prop, (∀ b M' H', Q b M' → Go K F M H M' H' → QV b H') → tt σ H QV
def DA (K : PySem.W.Frag) (ta : TA) (δ : En) (M : Mem) (Q : List D → Mem → Prop) : Prop :=
  ∀ (F : Fm) (σ : Sg) (H : Hp), EnvR K (vis H M F) σ δ → MOk K F M H → ∀ QV : List V → Hp → Prop, (∀ ds M' vs H', Q ds M' → Go K F M H M' H' → RepL K (vis H' M' F) vs ds → QV vs H') → ta σ H QV
/-- a two-place operation on data, a one-place one, a built-in's call -/
def DR (K : PySem.W.Frag) (r : R2) (d e : D) (M : Mem) (Q : D → Mem → Prop) : Prop :=
  ∀ (F : Fm) (H : Hp) (v u : V), MOk K F M H → Rep K (vis H M F) v d → Rep K (vis H M F) u e → ∀ QV : VK, (∀ x M' z H', Q x M' → Go K F M H M' H' → Rep K (vis H' M' F) z x → QV z H') → r v u H QV
def DU (K : PySem.W.Frag) (r : V → Hp → VK → Prop) (d : D) (M : Mem) (Q : D → Mem → Prop) : Prop :=
  ∀ (F : Fm) (H : Hp) (v : V), MOk K F M H → Rep K (vis H M F) v d → ∀ QV : VK, (∀ x M' z H', Q x M' → Go K F M H M' H' → Rep K (vis H' M' F) z x → QV z H') → r v H QV
def DC (K : PySem.W.Frag) (r : List V → Hp → VK → Prop) (ds : List D) (M : Mem) (Q : D → Mem → Prop) : Prop :=
  ∀ (F : Fm) (H : Hp) (vs : List V), MOk K F M H → RepL K (vis H M F) vs ds → ∀ QV : VK, (∀ x M' z H', Q x M' → Go K F M H M' H' → Rep K (vis H' M' F) z x → QV z H') → r vs H QV
/-- a built-in's method: the object, its arguments -/
def DM (K : PySem.W.Frag) (r : V → List V → Hp → VK → Prop) (d : D) (ds : List D) (M : Mem) (Q : D → Mem → Prop) : Prop :=
  ∀ (F : Fm) (H : Hp) (v : V) (vs : List V), MOk K F M H → Rep K (vis H M F) v d → RepL K (vis H M F) vs ds → ∀ QV : VK, (∀ x M' z H', Q x M' → Go K F M H M' H' → Rep K (vis H' M' F) z x → QV z H') → r v vs H QV

section
variable {K : PySem.W.Frag} {δ : En} {M : Mem} {Q : D → Mem → Prop} {ta tb tc te : TE} {tt tu : TT} {d e : D}
theorem DE.imp {Q' : D → Mem → Prop} (h : DE K te δ M Q) (k : ∀ d M', Q d M' → Q' d M') : DE K te δ M Q' := fun F σ H e m QV q => h F σ H e m QV fun d M' v H' z => q d M' v H' (k d M' z)
theorem DT.imp {R R' : Bool → Mem → Prop} (h : DT K tt δ M R) (k : ∀ d M', R d M' → R' d M') : DT K tt δ M R' := fun F σ H e m QV q => h F σ H e m QV fun d M' H' z => q d M' H' (k d M' z)
/-! ### names, constants -/
theorem de_var {i : Nat} (h : δ[i]? = some (some d)) (q : Q d M) : DE K (tVar i) δ M Q := fun F σ H en m QV k => by
  obtain ⟨v, hv, r⟩ := en.2 i d h
  exact ⟨v, hv, k d M v H q (Go.refl m) r⟩
theorem de_c {v : V} (h : ∀ G, Rep K G v d) (q : Q d M) : DE K (tC v) δ M Q := fun F σ H en m QV k => k d M v H q (Go.refl m) (h _)
theorem de_int {i : Int} (q : Q (.int i) M) : DE K (tC (.int i)) δ M Q := de_c (fun _ => .int i) q
theorem de_bl {b : Bool} (q : Q (.bl b) M) : DE K (tC (.bl b)) δ M Q := de_c (fun _ => .bl b) q
theorem de_non (q : Q .non M) : DE K (tC .non) δ M Q := de_c (fun _ => .non) q
theorem de_str {x : Str} (q : Q (.str x) M) : DE K (tC (.str x)) δ M Q := de_c (fun _ => .str x) q
theorem de_raw {v : V} (q : Q (.raw v) M) : DE K (tC v) δ M Q := de_c (fun _ => .raw v) q
/-! ### operators -/
theorem de_op {r : R2} (h : DE K ta δ M fun d M1 => DE K tb δ M1 fun e M2 => DR K r d e M2 Q) : DE K (tOp r ta tb) δ M Q := fun F σ H en m QV k => by
  refine h F σ H en m _ fun d M1 v H1 hb g1 r1 => ?_
  refine hb F σ H1 (en.mono g1.ex) g1.ok _ fun e M2 u H2 hr g2 r2 => ?_
  exact hr F H2 v u g2.ok (r1.mono g2.ex) r2 _ fun x M3 z H3 q g3 r3 => k x M3 z H3 q ((g1.trans g2).trans g3) r3
theorem de_un {r : V → Hp → VK → Prop} (h : DE K ta δ M fun d M1 => DU K r d M1 Q) : DE K (tUn r ta) δ M Q := fun F σ H en m QV k => by
  refine h F σ H en m _ fun d M1 v H1 hb g1 r1 => ?_
  exact hb F H1 v g1.ok r1 _ fun x M3 z H3 q g3 r3 => k x M3 z H3 q (g1.trans g3) r3
theorem dr_I0 {f : Int → Int → Int} {i j : Int} (q : Q (.int (f i j)) M) : DR K (rI0 fun i j => .int (f i j)) (.int i) (.int j) M Q := fun F H v u m a b QV k => by
  cases a; cases b
  exact ⟨i, j, rfl, rfl, k _ M _ H q (Go.refl m) (.int _)⟩
theorem dr_B0 {f : Int → Int → Bool} {i j : Int} (q : Q (.bl (f i j)) M) : DR K (rI0 fun i j => .bl (f i j)) (.int i) (.int j) M Q := fun F H v u m a b QV k => by
  cases a; cases b
  exact ⟨i, j, rfl, rfl, k _ M _ H q (Go.refl m) (.bl _)⟩
theorem dr_I {C : Int → Int → Prop} {f : Int → Int → Int} {i j : Int} (hc : C i j) (q : Q (.int (f i j)) M) : DR K (rI C fun i j => .int (f i j)) (.int i) (.int j) M Q := fun F H v u m a b QV k => by
  cases a; cases b
  exact ⟨i, j, rfl, rfl, hc, k _ M _ H q (Go.refl m) (.int _)⟩
theorem du_I {f : Int → Int} {i : Int} (q : Q (.int (f i)) M) : DU K (rU fun i => .int (f i)) (.int i) M Q := fun F H v m a QV k => by
  cases a
  exact ⟨i, rfl, k _ M _ H q (Go.refl m) (.int _)⟩
/-- scalars -/
def vOf : D → Option V
  | .non => some .non | .bl b => some (.bl b) | .int i => some (.int i) | .str x => some (.str x) | .raw v => some v | _ => none
theorem vOf_rep {G : Hp} {v x : V} (r : Rep K G v d) (h : vOf d = some x) : v = x := by
  cases r <;> first | cases h; rfl | cases h
theorem dr_eq {x y : V} (hx : vOf d = some x) (hy : vOf e = some y) (hs : scal x y = true) (q : Q (.bl (decide (x = y))) M) : DR K rEq d e M Q := fun F H v u m a b QV k => by
  obtain rfl := vOf_rep a hx
  obtain rfl := vOf_rep b hy
  exact ⟨hs, k _ M _ H q (Go.refl m) (.bl _)⟩
theorem dr_ne {x y : V} (hx : vOf d = some x) (hy : vOf e = some y) (hs : scal x y = true) (q : Q (.bl (!decide (x = y))) M) : DR K rNe d e M Q := fun F H v u m a b QV k => by
  obtain rfl := vOf_rep a hx
  obtain rfl := vOf_rep b hy
  exact ⟨hs, k _ M _ H q (Go.refl m) (.bl _)⟩
theorem dr_or1 {r r' : R2} (h : DR K r d e M Q) : DR K (fun x y H Q => r x y H Q ∨ r' x y H Q) d e M Q := fun F H v u m a b QV k => .inl (h F H v u m a b QV k)
theorem dr_or2 {r r' : R2} (h : DR K r' d e M Q) : DR K (fun x y H Q => r x y H Q ∨ r' x y H Q) d e M Q := fun F H v u m a b QV k => .inr (h F H v u m a b QV k)
/-! data without dicts and objects, as the library says it -/
mutual
def toPy : D → Option PyData
  | .non => some .none | .bl b => some (.bool b) | .int i => some (.int i) | .str x => some (.str x)
  | .lst xs => (toPyL xs).map .list | .tup xs => (toPyL xs).map .tuple
  | _ => none
def toPyL : List D → Option (List PyData)
  | [] => some []
  | x :: r => match toPy x, toPyL r with | some a, some b => some (a :: b) | _, _ => none
end
mutual
theorem toPy_dp {G : Hp} : ∀ {v : V} {d : D} {p : PyData}, Rep K G v d → toPy d = some p → Dp K G v p
  | _, _, _, .non, h => by cases h; exact .non
  | _, _, _, .bl b, h => by cases h; exact .bl b
  | _, _, _, .int b, h => by cases h; exact .int b
  | _, _, _, .str b, h => by cases h; exact .str b
  | _, _, _, .lst (ds := ds) s r, h => by
    cases e : toPyL ds with
    | none => rw [toPy, e] at h; cases h
    | some l => rw [toPy, e] at h; cases h; exact .lst s (toPyL_dp r e)
  | _, _, _, .tup (ds := ds) s r, h => by
    cases e : toPyL ds with
    | none => rw [toPy, e] at h; cases h
    | some l => rw [toPy, e] at h; cases h; exact .tup s (toPyL_dp r e)
  | _, _, _, .dic _ _, h => by cases h
  | _, _, _, .obj _ _, h => by cases h
  | _, _, _, .raw _, h => by cases h
theorem toPyL_dp {G : Hp} : ∀ {v : List V} {d : List D} {p : List PyData}, RepL K G v d → toPyL d = some p → DpAll K G v p
  | _, _, _, .nil, h => by cases h; exact .nil
  | _, _, _, .cons (d := d) (ds := ds) a b, h => by
    cases e1 : toPy d with
    | none => rw [toPyL, e1] at h; cases h
    | some x =>
      cases e2 : toPyL ds with
      | none => rw [toPyL, e1, e2] at h; cases h
      | some l => rw [toPyL, e1, e2] at h; cases h; exact .cons (toPy_dp a e1) (toPyL_dp b e2)
end
theorem dr_eqD {x y : PyData} (hx : toPy d = some x) (hy : toPy e = some y) (sx : SeqAt.shaped x = true) (sy : SeqAt.shaped y = true) (q : Q (.bl (PyData.eqv x y)) M) : DR K (rEqD K) d e M Q := fun F H v u m a b QV k =>
  ⟨x, y, toPy_dp (a.mono vis_le) hx, toPy_dp (b.mono vis_le) hy, sx, sy, k _ M _ H q (Go.refl m) (.bl _)⟩
theorem dr_neD {x y : PyData} (hx : toPy d = some x) (hy : toPy e = some y) (sx : SeqAt.shaped x = true) (sy : SeqAt.shaped y = true) (q : Q (.bl (!PyData.eqv x y)) M) : DR K (rNeD K) d e M Q := fun F H v u m a b QV k =>
  ⟨x, y, toPy_dp (a.mono vis_le) hx, toPy_dp (b.mono vis_le) hy, sx, sy, k _ M _ H q (Go.refl m) (.bl _)⟩
/-! ### tests -/
end
section
variable {K : PySem.W.Frag} {δ : En} {M : Mem} {Q : D → Mem → Prop} {R : Bool → Mem → Prop} {ta tb tc te : TE} {tt tu : TT} {d e : D}
/-- d is a bool, then R -/
def isB (R : Bool → Mem → Prop) (d : D) (M : Mem) : Prop := ∃ b, d = .bl b ∧ R b M
theorem isB_mk {b : Bool} (h : R b M) : isB R (.bl b) M := ⟨b, rfl, h⟩
theorem dt_test' (h : DE K te δ M (isB R)) : DT K (tTest te) δ M R := fun F σ H en m QV k => by
  refine h F σ H en m _ fun d M1 v H1 hb g1 r1 => ?_
  obtain ⟨b, rfl, q⟩ := hb
  cases r1
  exact ⟨b, rfl, k b M1 H1 q g1⟩
theorem dt_B (h : DE K te δ M (isB R)) : DT K (tB te) δ M R := fun F σ H en m QV k => by
  refine h F σ H en m _ fun d M1 v H1 hb g1 r1 => ?_
  obtain ⟨b, rfl, q⟩ := hb
  cases r1
  exact ⟨b, rfl, k b M1 H1 q g1⟩
theorem dt_not (h : DT K tt δ M fun b M1 => R (!b) M1) : DT K (tNot tt) δ M R := fun F σ H en m QV k => h F σ H en m _ fun b M1 H1 q g => k (!b) M1 H1 q g
theorem dt_and (h : DT K tt δ M fun b M1 => if b = true then DT K tu δ M1 R else R false M1) : DT K (tAnd tt tu) δ M R := fun F σ H en m QV k => by
  refine h F σ H en m _ fun b M1 H1 q g => ?_
  cases b with
  | true =>
    show tu σ H1 QV
    rw [if_pos rfl] at q
    exact q F σ H1 (en.mono g.ex) g.ok _ fun b2 M2 H2 q2 g2 => k b2 M2 H2 q2 (g.trans g2)
  | false =>
    rw [if_neg Bool.false_ne_true] at q
    exact k false M1 H1 q g
theorem dt_or (h : DT K tt δ M fun b M1 => if b = true then R true M1 else DT K tu δ M1 R) : DT K (tOr tt tu) δ M R := fun F σ H en m QV k => by
  refine h F σ H en m _ fun b M1 H1 q g => ?_
  cases b with
  | false =>
    show tu σ H1 QV
    rw [if_neg Bool.false_ne_true] at q
    exact q F σ H1 (en.mono g.ex) g.ok _ fun b2 M2 H2 q2 g2 => k b2 M2 H2 q2 (g.trans g2)
  | true =>
    rw [if_pos rfl] at q
    exact k true M1 H1 q g
/-- a value's truth -/
def tTru (K : PySem.W.Frag) (ta : TE) : TT := fun σ H Q => ta σ H fun x H' => ∃ k, TruV K x H' k ∧ Q k H'
theorem pt_tru {X : Cx} {a : Expr} (ha : PE X a ta) (he : ∀ whole, isTrue a X.env whole = (do let v ← whole; standAt a.pos; holding [v] (truthy v))) : PT X a (tTru X.K ta) := pt_truth ha he
/-- the truth of data: its size where it has one -/
def truD : D → Option Bool
  | .non => some false | .bl b => some b | .int i => some (i != 0) | .str x => some ((x.length : Int) != 0)
  | .lst xs => some (!xs.isEmpty) | .tup xs => some (!xs.isEmpty) | _ => none
theorem dt_tru (h : DE K te δ M fun d M1 => ∃ b, truD d = some b ∧ (∀ x, d = .str x → x.length ≤ sizeLine) ∧ R b M1) : DT K (tTru K te) δ M R := fun F σ H en m QV k => by
  refine h F σ H en m _ fun d M1 v H1 hb g1 r1 => ?_
  obtain ⟨b, hd, hz, q⟩ := hb
  refine ⟨b, ?_, k b M1 H1 q g1⟩
  cases r1 with
  | non => cases hd; rfl
  | bl _ => cases hd; rfl
  | int _ => cases hd; rfl
  | str x => cases hd; exact ⟨hz x rfl, rfl⟩
  | lst s r =>
    cases hd
    refine .inl ⟨_, vis_le.seq s, ?_⟩
    cases r <;> rfl
  | tup s r =>
    cases hd
    refine .inr (.inl ⟨_, sqt_mono vis_le s, ?_⟩)
    cases r <;> rfl
  | dic _ _ => cases hd
  | obj _ _ => cases hd
  | raw _ => cases hd
theorem de_chain {r r' : R2} (h : DE K ta δ M fun d M1 => DE K tb δ M1 fun e M2 => DR K r d e M2 (isB fun b M3 => if b = true then DE K tc δ M3 (fun z M4 => DR K r' e z M4 Q) else Q (.bl false) M3)) : DE K (tChain r r' ta tb tc) δ M Q := fun F σ H en m QV k => by
  refine h F σ H en m _ fun d M1 v H1 hb g1 r1 => ?_
  refine hb F σ H1 (en.mono g1.ex) g1.ok _ fun e M2 u H2 hr g2 r2 => ?_
  refine hr F H2 v u g2.ok (r1.mono g2.ex) r2 _ fun x M3 z H3 q g3 r3 => ?_
  obtain ⟨b, rfl, q⟩ := q
  cases r3
  refine ⟨b, rfl, ?_⟩
  have g := (g1.trans g2).trans g3
  cases b with
  | true =>
    rw [if_pos rfl] at q
    rw [if_pos rfl]
    refine q F σ H3 (en.mono g.ex) g3.ok _ fun x M4 w H4 q4 g4 r4 => ?_
    exact q4 F H4 u w g4.ok ((r2.mono g3.ex).mono g4.ex) r4 _ fun y M5 w5 H5 q5 g5 r5 => k y M5 w5 H5 q5 ((g.trans g4).trans g5) r5
  | false =>
    rw [if_neg Bool.false_ne_true] at q
    rw [if_neg Bool.false_ne_true]
    exact k _ M3 _ H3 q g (.bl false)
theorem de_if (h : DT K tt δ M fun b M1 => if b = true then DE K ta δ M1 Q else DE K tb δ M1 Q) : DE K (tIf tt ta tb) δ M Q := fun F σ H en m QV k => by
  refine h F σ H en m _ fun b M1 H1 q g => ?_
  cases b with
  | true =>
    show ta σ H1 QV
    rw [if_pos rfl] at q
    exact q F σ H1 (en.mono g.ex) g.ok _ fun d M2 v H2 q2 g2 r2 => k d M2 v H2 q2 (g.trans g2) r2
  | false =>
    show tb σ H1 QV
    rw [if_neg Bool.false_ne_true] at q
    exact q F σ H1 (en.mono g.ex) g.ok _ fun d M2 v H2 q2 g2 r2 => k d M2 v H2 q2 (g.trans g2) r2
theorem de_andV (h : DE K ta δ M (isB fun b M1 => if b = true then DE K tb δ M1 Q else Q (.bl false) M1)) : DE K (tAndV ta tb) δ M Q := fun F σ H en m QV k => by
  refine h F σ H en m _ fun d M1 v H1 hb g r1 => ?_
  obtain ⟨b, rfl, q⟩ := hb
  cases r1
  refine ⟨b, rfl, ?_⟩
  cases b with
  | true =>
    rw [if_pos rfl] at q
    rw [if_pos rfl]
    exact q F σ H1 (en.mono g.ex) g.ok _ fun d M2 v H2 q2 g2 r2 => k d M2 v H2 q2 (g.trans g2) r2
  | false =>
    rw [if_neg Bool.false_ne_true] at q
    rw [if_neg Bool.false_ne_true]
    exact k _ M1 _ H1 q g (.bl false)
theorem de_orV (h : DE K ta δ M (isB fun b M1 => if b = true then Q (.bl true) M1 else DE K tb δ M1 Q)) : DE K (tOrV ta tb) δ M Q := fun F σ H en m QV k => by
  refine h F σ H en m _ fun d M1 v H1 hb g r1 => ?_
  obtain ⟨b, rfl, q⟩ := hb
  cases r1
  refine ⟨b, rfl, ?_⟩
  cases b with
  | false =>
    rw [if_neg Bool.false_ne_true] at q
    rw [if_neg Bool.false_ne_true]
    exact q F σ H1 (en.mono g.ex) g.ok _ fun d M2 v H2 q2 g2 r2 => k d M2 v H2 q2 (g.trans g2) r2
  | true =>
    rw [if_pos rfl] at q
    rw [if_pos rfl]
    exact k _ M1 _ H1 q g (.bl true)
theorem de_notV (h : DE K ta δ M (isB fun b M1 => Q (.bl (!b)) M1)) : DE K (tNotV ta) δ M Q := fun F σ H en m QV k => by
  refine h F σ H en m _ fun d M1 v H1 hb g r1 => ?_
  obtain ⟨b, rfl, q⟩ := hb
  cases r1
  exact ⟨b, rfl, k _ M1 _ H1 q g (.bl _)⟩
/-! ### arguments, displays -/
variable {A : List D → Mem → Prop} {tr : TA}
theorem da_nil (q : A [] M) : DA K tNil δ M A := fun F σ H en m QV k => k [] M [] H q (Go.refl m) .nil
theorem da_cons (h : DE K te δ M fun d M1 => DA K tr δ M1 fun ds M2 => A (d :: ds) M2) : DA K (tCons te tr) δ M A := fun F σ H en m QV k => by
  refine h F σ H en m _ fun d M1 v H1 hb g1 r1 => ?_
  refine hb F σ H1 (en.mono g1.ex) g1.ok _ fun ds M2 vs H2 q g2 r2 => ?_
  exact k (d :: ds) M2 (v :: vs) H2 q (g1.trans g2) (.cons (r1.mono g2.ex) r2)
theorem de_tup (h : DA K tr δ M fun ds M1 => ds.length ≤ sizeLine ∧ Q (.tup ds) M1) : DE K (tTup tr) δ M Q := fun F σ H en m QV k => by
  refine h F σ H en m _ fun ds M1 vs H1 q g r => ⟨by rw [r.length]; exact q.1, fun p hp => ?_⟩
  obtain ⟨g2, e⟩ := go_new (o := .tup vs) g.ok hp
  exact k (.tup ds) M1 _ _ q.2 (g.trans g2) (.tup (.inl (.inl e)) (r.mono g2.ex))
theorem de_lst (h : DA K tr δ M fun ds M1 => ds.length ≤ sizeLine ∧ Q (.lst ds) M1) : DE K (tLst tr) δ M Q := fun F σ H en m QV k => by
  refine h F σ H en m _ fun ds M1 vs H1 q g r => ⟨by rw [r.length]; exact q.1, fun p hp => ?_⟩
  obtain ⟨g2, e⟩ := go_new (o := .lst vs) g.ok hp
  exact k (.lst ds) M1 _ _ q.2 (g.trans g2) (.lst (.inl (.inl e)) (r.mono g2.ex))
/-- a list that will change -/
theorem de_lstM (h : DA K tr δ M fun ds M1 => ds.length ≤ sizeLine ∧ ∀ p, M1 p = none → Q (.raw (.ref p)) (mup M1 p (.lst ds))) : DE K (tLst tr) δ M Q := fun F σ H en m QV k => by
  refine h F σ H en m _ fun ds M1 vs H1 q g r => ⟨by rw [r.length]; exact q.1, fun p hp => ?_⟩
  have g2 := go_newM (o := .lst vs) (m := .lst ds) g.ok hp (.lst r)
  exact k _ _ _ _ (q.2 p (g.ok.new hp).2) (g.trans g2) (.raw _)
/-- the die's list -/
theorem de_lstD (h : DA K tr δ M fun ds M1 => (∃ i j k : Int, ds = [.int i, .int j, .int k]) ∧ ∀ p, M1 p = none → Q (.raw (.ref p)) (mup M1 p .die)) : DE K (tLst tr) δ M Q := fun F σ H en m QV k => by
  refine h F σ H en m _ fun ds M1 vs H1 q g r => ?_
  obtain ⟨⟨i, j, l, rfl⟩, q⟩ := q
  obtain rfl := RepL.of_ints (l := [i, j, l]) r
  refine ⟨by show 3 ≤ sizeLine; decide, fun p hp => ?_⟩
  have g2 := go_newM (o := .lst [.int i, .int j, .int l]) (m := .die) g.ok hp (.die i j l)
  exact k _ _ _ _ (q p (g.ok.new hp).2) (g.trans g2) (.raw _)
/-! ### calls -/
/-- a promise by data -/
def spD (K : PySem.W.Frag) (f : List D → Mem → (D → Mem → Prop) → Prop) : Sp := fun vs H Q _ => ∃ (F : Fm) (M : Mem) (ds : List D) (R : D → Mem → Prop), RepL K (vis H M F) vs ds ∧ MOk K F M H ∧ f ds M R ∧
  ∀ d M' v H', R d M' → Go K F M H M' H' → Rep K (vis H' M' F) v d → Q v H'
theorem de_call {f : List D → Mem → (D → Mem → Prop) → Prop} {E : XK} (h : DA K tr δ M fun ds M1 => f ds M1 Q) : DE K (tCall (spD K f) [] E tr) δ M Q := fun F σ H en m QV k => by
  refine h F σ H en m _ fun ds M1 vs H1 q g r => ?_
  show spD K f (vs ++ []) H1 QV E
  rw [List.append_nil]
  exact ⟨F, M1, ds, Q, r, g.ok, q, fun d M2 v H2 q2 g2 r2 => k d M2 v H2 q2 (g.trans g2) r2⟩
theorem de_CB {r : List V → Hp → VK → Prop} (h : DA K tr δ M fun ds M1 => DC K r ds M1 Q) : DE K (tCB r tr) δ M Q := fun F σ H en m QV k => by
  refine h F σ H en m _ fun ds M1 vs H1 q g r => ?_
  exact q F H1 vs g.ok r _ fun d M2 v H2 q2 g2 r2 => k d M2 v H2 q2 (g.trans g2) r2
end
end DL

set_option Elab.async false
set_option linter.all false
set_option maxRecDepth 100000
set_option maxHeartbeats 4000000
/-! readings by data: statements, targets, what is walked, loops, comprehensions, a def -/
namespace DL
open PySem PySem.Spec PyProof.Rows L2

structure DK where
  nx : En → Mem → Prop
  rt : D → Mem → Prop
  bk : En → Mem → Prop := fun _ _ => False
  ct : En → Mem → Prop := fun _ _ => False
def DS (K : PySem.W.Frag) (ts : TS) (δ : En) (M : Mem) (q : DK) : Prop :=
  ∀ (F : Fm) (σ : Sg) (H : Hp), EnvR K (vis H M F) σ δ → MOk K F M H → ∀ E : Ends,
    (∀ δ' M' σ' H', q.nx δ' M' → Go K F M H M' H' → EnvR K (vis H' M' F) σ' δ' → E.nx σ' H') →
    (∀ d M' v H', q.rt d M' → Go K F M H M' H' → Rep K (vis H' M' F) v d → E.rt v H') →
    (∀ δ' M' σ' H', q.bk δ' M' → Go K F M H M' H' → EnvR K (vis H' M' F) σ' δ' → E.bk σ' H') →
    (∀ δ' M' σ' H', q.ct δ' M' → Go K F M H M' H' → EnvR K (vis H' M' F) σ' δ' → E.ct σ' H') → ts E σ H
/-- a target: js the slots that it stores -/
def DG (K : PySem.W.Frag) (js : List Nat) (g : TG) (d : D) (δ : En) (M : Mem) (Q : En → Mem → Prop) : Prop :=
  ∀ (F : Fm) (σ : Sg) (H : Hp) (v : V), EnvR K (vis H M F) σ δ → MOk K F M H → Rep K (vis H M F) v d → ∀ QG : Sg → Hp → Prop,
    (∀ δ' M' σ' H', Q δ' M' → Go K F M H M' H' → EnvR K (vis H' M' F) σ' δ' → (∀ vs : List Nat, (∀ j ∈ js, j ∈ vs) → wipe σ' vs = wipe σ vs) → QG σ' H') → g v σ H QG
def DGs (K : PySem.W.Frag) (js : List Nat) (g : TGs) (ds : List D) (δ : En) (M : Mem) (Q : En → Mem → Prop) : Prop :=
  ∀ (F : Fm) (σ : Sg) (H : Hp) (vs : List V), EnvR K (vis H M F) σ δ → MOk K F M H → RepL K (vis H M F) vs ds → ∀ QG : Sg → Hp → Prop,
    (∀ δ' M' σ' H', Q δ' M' → Go K F M H M' H' → EnvR K (vis H' M' F) σ' δ' → (∀ vs : List Nat, (∀ j ∈ js, j ∈ vs) → wipe σ' vs = wipe σ vs) → QG σ' H') → g vs σ H QG
/-- what is walked gives these items, whatever becomes of the rest -/
structure Sq (K : PySem.W.Frag) (F : Fm) (M0 : Mem) (H0 : Hp) (J : It) (ds : List D) : Prop where
  go : ∀ i M H, i < ds.length → MOk K F M H → Same (vis H0 M0 F) (vis H M F) → J.go i H
  stop : ∀ i M H, i = ds.length → MOk K F M H → Same (vis H0 M0 F) (vis H M F) → J.stop i H
  yl : ∀ i M H x H' d, ds[i]? = some d → MOk K F M H → Same (vis H0 M0 F) (vis H M F) → J.yld i H x H' → Go K F M H M H' ∧ Rep K (vis H' M F) x d
def DI (K : PySem.W.Frag) (wi : TI) (δ : En) (M : Mem) (Q : List D → Mem → Prop) : Prop :=
  ∀ (F : Fm) (σ : Sg) (H : Hp), EnvR K (vis H M F) σ δ → MOk K F M H → ∀ R : It → Hp → Prop,
    (∀ ds M' J H', Q ds M' → Go K F M H M' H' → (∀ p o, H' p = none → Sq K (fadd F p) M' (upd H' p o) J ds) → Sq K F M' H' J ds → R J H') → wi σ H R

section
variable {K : PySem.W.Frag} {δ : En} {M : Mem} {Q : D → Mem → Prop} {R : Bool → Mem → Prop} {ta tb tc te : TE} {tt tu : TT} {d e : D} {t u : TS} {q : DK} {g : TG} {gs : TGs} {G : En → Mem → Prop} {js : List Nat}
theorem DS.imp {q' : DK} (h : DS K t δ M q) (h1 : ∀ δ M, q.nx δ M → q'.nx δ M) (h2 : ∀ d M, q.rt d M → q'.rt d M) (h3 : ∀ δ M, q.bk δ M → q'.bk δ M) (h4 : ∀ δ M, q.ct δ M → q'.ct δ M) : DS K t δ M q' :=
  fun F σ H en m E n r b c => h F σ H en m E (fun _ _ _ _ z => n _ _ _ _ (h1 _ _ z)) (fun _ _ _ _ z => r _ _ _ _ (h2 _ _ z)) (fun _ _ _ _ z => b _ _ _ _ (h3 _ _ z)) (fun _ _ _ _ z => c _ _ _ _ (h4 _ _ z))
theorem ds_next (h : q.nx δ M) : DS K tNext δ M q := fun F σ H en m E n r b c => n δ M σ H h (Go.refl m) en
theorem ds_seq (h : DS K t δ M { q with nx := fun δ1 M1 => DS K u δ1 M1 q }) : DS K (tSeq t u) δ M q := fun F σ H en m E n r b c =>
  h F σ H en m { E with nx := u E } (fun δ1 M1 σ1 H1 z g en1 => z F σ1 H1 en1 g.ok E (fun _ _ _ _ z2 g2 => n _ _ _ _ z2 (g.trans g2)) (fun _ _ _ _ z2 g2 => r _ _ _ _ z2 (g.trans g2)) (fun _ _ _ _ z2 g2 => b _ _ _ _ z2 (g.trans g2)) (fun _ _ _ _ z2 g2 => c _ _ _ _ z2 (g.trans g2))) r b c
theorem ds_brk (h : q.bk δ M) : DS K tBreak δ M q := fun F σ H en m E n r b c => b δ M σ H h (Go.refl m) en
theorem ds_cont (h : q.ct δ M) : DS K tCont δ M q := fun F σ H en m E n r b c => c δ M σ H h (Go.refl m) en
theorem ds_drop (h : DE K te δ M fun _ M1 => q.nx δ M1) : DS K (tDrop te) δ M q := fun F σ H en m E n r b c =>
  h F σ H en m _ fun d M1 v H1 z g _ => n δ M1 σ H1 z g (en.mono g.ex)
theorem ds_ret (h : DE K te δ M q.rt) : DS K (tRet te) δ M q := fun F σ H en m E n r b c => h F σ H en m _ fun d M1 v H1 z g rp => r d M1 v H1 z g rp
theorem ds_retN (h : q.rt .non M) : DS K tRetN δ M q := fun F σ H en m E n r b c => r .non M .non H h (Go.refl m) .non
theorem ds_if (h : DT K tt δ M fun b M1 => if b = true then DS K t δ M1 q else DS K u δ M1 q) : DS K (tIfS tt t u) δ M q := fun F σ H en m E n r b c => by
  refine h F σ H en m _ fun k M1 H1 z g => ?_
  cases k with
  | true =>
    rw [if_pos rfl] at z
    rw [if_pos rfl]
    exact z F σ H1 (en.mono g.ex) g.ok E (fun _ _ _ _ z2 g2 => n _ _ _ _ z2 (g.trans g2)) (fun _ _ _ _ z2 g2 => r _ _ _ _ z2 (g.trans g2)) (fun _ _ _ _ z2 g2 => b _ _ _ _ z2 (g.trans g2)) (fun _ _ _ _ z2 g2 => c _ _ _ _ z2 (g.trans g2))
  | false =>
    rw [if_neg Bool.false_ne_true] at z
    rw [if_neg Bool.false_ne_true]
    exact z F σ H1 (en.mono g.ex) g.ok E (fun _ _ _ _ z2 g2 => n _ _ _ _ z2 (g.trans g2)) (fun _ _ _ _ z2 g2 => r _ _ _ _ z2 (g.trans g2)) (fun _ _ _ _ z2 g2 => b _ _ _ _ z2 (g.trans g2)) (fun _ _ _ _ z2 g2 => c _ _ _ _ z2 (g.trans g2))
theorem ds_asg (h : DE K te δ M fun d M1 => DG K js g d δ M1 q.nx) : DS K (tAsg te g) δ M q := fun F σ H en m E n r b c => by
  refine h F σ H en m _ fun d M1 v H1 z g1 r1 => ?_
  exact z F σ H1 v (en.mono g1.ex) g1.ok r1 _ fun δ' M' σ' H' z2 g2 en2 _ => n δ' M' σ' H' z2 (g1.trans g2) en2
theorem ds_asgx (h : DE K te δ M fun d M1 => ∃ js, DG K js g d δ M1 q.nx) : DS K (tAsg te g) δ M q := fun F σ H en m E n r b c => by
  refine h F σ H en m _ fun d M1 v H1 z g1 r1 => ?_
  obtain ⟨js, z⟩ := z
  exact z F σ H1 v (en.mono g1.ex) g1.ok r1 _ fun δ' M' σ' H' z2 g2 en2 _ => n δ' M' σ' H' z2 (g1.trans g2) en2
theorem ds_set {i : Nat} (h : DE K te δ M fun d M1 => q.nx (δ.set i (some d)) M1) : DS K (tAsg te (gName i)) δ M q := fun F σ H en m E n r b c => by
  refine h F σ H en m _ fun d M1 v H1 z g1 r1 => ?_
  exact n _ M1 _ H1 z g1 ((en.mono g1.ex).set r1 i)
theorem dg_name {i : Nat} (h : G (δ.set i (some d)) M) : DG K [i] (gName i) d δ M G := fun F σ H v en m r QG k =>
  k _ M _ H h (Go.refl m) (en.set r i) fun vs hv => wipe_set σ i _ vs (hv i (by simp))
theorem dgs_nil (h : G δ M) : DGs K [] gNil [] δ M G := fun F σ H vs en m r QG k => by
  cases r
  exact ⟨rfl, k δ M σ H h (Go.refl m) en fun _ _ => rfl⟩
theorem dgs_cons {js1 js2 : List Nat} {d : D} {ds : List D} (h : DG K js1 g d δ M fun δ1 M1 => DGs K js2 gs ds δ1 M1 G) : DGs K (js1 ++ js2) (gCons g gs) (d :: ds) δ M G := fun F σ H vs en m r QG k => by
  cases r with
  | cons a b =>
    refine ⟨_, _, rfl, h F σ H _ en m a _ fun δ1 M1 σ1 H1 z g1 en1 w1 => ?_⟩
    refine z F σ1 H1 _ en1 g1.ok (b.mono g1.ex) _ fun δ2 M2 σ2 H2 z2 g2 en2 w2 => ?_
    exact k δ2 M2 σ2 H2 z2 (g1.trans g2) en2 fun vs hv => (w2 vs fun j hj => hv j (List.mem_append_right _ hj)).trans (w1 vs fun j hj => hv j (List.mem_append_left _ hj))
theorem dg_tup {n : Nat} {ds : List D} (hl : ds.length = n) (h : DGs K js gs ds δ M G) : DG K js (gTup K n gs) (.tup ds) δ M G := fun F σ H v en m r QG k => by
  cases r with
  | tup s r => exact ⟨_, _, rfl, sqt_mono vis_le s, by rw [r.length, hl], h F σ H _ en m r QG k⟩
theorem dg_drop (h : DG K js g d δ M G) (js' : List Nat) (hj : ∀ j ∈ js, j ∈ js') : DG K js' g d δ M G := fun F σ H v en m r QG k =>
  h F σ H v en m r QG fun δ' M' σ' H' z g1 e w => k δ' M' σ' H' z g1 e fun vs hv => w vs fun j hm => hv j (hj j hm)
theorem ds_par {i j : Nat} {tr : TA} (h : DA K tr δ M fun ds M1 => ∃ x y, ds = [x, y] ∧ q.nx ((δ.set i (some x)).set j (some y)) M1) : DS K (tPar i j tr) δ M q := fun F σ H en m E n r b c => by
  refine h F σ H en m _ fun ds M1 vs H1 z g1 r1 => ?_
  obtain ⟨x, y, rfl, z⟩ := z
  cases r1 with
  | cons a b =>
    cases b with
    | cons b c =>
      cases c
      exact ⟨_, _, rfl, n _ M1 _ H1 z g1 (((en.mono g1.ex).set a i).set b j)⟩
theorem ds_aug {i : Nat} {f : Int → Int → Int} {x : Int} (hx : δ[i]? = some (some (.int x))) (h : DE K te δ M fun d M1 => ∃ y, d = .int y ∧ q.nx (δ.set i (some (.int (f x y)))) M1) : DS K (tAug i te (ipI f)) δ M q := fun F σ H en m E n r b c => by
  obtain ⟨v, hv, rv⟩ := en.2 i _ hx
  cases rv
  refine ⟨_, hv, h F σ H en m _ fun d M1 w H1 z g1 r1 => ?_⟩
  obtain ⟨y, rfl, z⟩ := z
  cases r1
  exact ⟨x, y, rfl, rfl, n _ M1 _ H1 z g1 ((en.mono g1.ex).set (.int _) i)⟩
/-- what stands behind may be known less -/
theorem ds_weak {δ' : En} (h : DS K t δ' M q) (hl : δ'.length = δ.length) (w : ∀ (i : Nat) d, δ'[i]? = some (some d) → δ[i]? = some (some d)) : DS K t δ M q := fun F σ H en m E n r b c =>
  h F σ H ⟨en.1.trans hl.symm, fun i d hd => en.2 i d (w i d hd)⟩ m E n r b c
/-- a mutable list is seen as data from now on, at slot i -/
theorem ds_frz {i : Nat} {p : Addr} {ds : List D} (hi : δ[i]? = some (some (.raw (.ref p)))) (hp : M p = some (.lst ds)) (h : DS K t (δ.set i (some (.lst ds))) (mdel M p) q) : DS K t δ M q := fun F σ H en m E n r b c => by
  obtain ⟨g1, f⟩ := go_frz m hp
  obtain ⟨v, hv, rv⟩ := en.2 i _ hi
  have rl : Rep K (vis H (mdel M p) F) (.ref p) (.lst ds) := by
    obtain ⟨ho, e, ro⟩ := m.mo p _ hp
    cases ro with
    | lst ro => exact .lst (.inl (.inl (vis_mk e f mdel_same))) (ro.mono g1.ex)
  have en2 : EnvR K (vis H (mdel M p) F) σ (δ.set i (some (.lst ds))) := by
    refine ⟨by rw [List.length_set]; exact en.1, fun j d hd => ?_⟩
    by_cases hj : i = j
    · subst hj
      have hl : i < δ.length := (List.getElem?_eq_some_iff.mp hi).1
      rw [List.getElem?_set_self hl] at hd
      cases hd
      refine ⟨v, hv, ?_⟩
      cases rv
      exact rl
    · rw [List.getElem?_set_ne hj] at hd
      obtain ⟨w, hw, rw'⟩ := en.2 j d hd
      exact ⟨w, hw, rw'.mono g1.ex⟩
  exact h F σ H en2 g1.ok E (fun _ _ _ _ z2 g2 => n _ _ _ _ z2 (g1.trans g2)) (fun _ _ _ _ z2 g2 => r _ _ _ _ z2 (g1.trans g2)) (fun _ _ _ _ z2 g2 => b _ _ _ _ z2 (g1.trans g2)) (fun _ _ _ _ z2 g2 => c _ _ _ _ z2 (g1.trans g2))

/-! ### what is walked -/
variable {I : List D → Mem → Prop}
theorem sq_sub {F : Fm} {M0 : Mem} {H0 : Hp} {J : It} {ds : List D} (h : ∀ M H, MOk K F M H → Same (vis H0 M0 F) (vis H M F) → ∀ i, (i < ds.length → J.go i H) ∧ (i = ds.length → J.stop i H) ∧ ∀ x H' d, ds[i]? = some d → J.yld i H x H' → Go K F M H M H' ∧ Rep K (vis H' M F) x d) : Sq K F M0 H0 J ds :=
  ⟨fun i M H l m e => (h M H m e i).1 l, fun i M H l m e => (h M H m e i).2.1 l, fun i M H x H' d hd m e y => (h M H m e i).2.2 x H' d hd y⟩
/-- hidden more: what is seen ahead of a new object is seen with it hidden -/
theorem vis_new {F : Fm} {H : Hp} {p : Addr} {o : HO} (hn : H p = none) : Same (vis H M F) (vis (upd H p o) M (fadd F p)) := fun b u h => by
  obtain ⟨h1, h2, h3⟩ := vis_of h
  have hne := ne_of_none h1 hn
  exact vis_mk (by rw [upd_ne hne]; exact h1) (fadd_mkno h2 hne) h3
theorem sqAt {xs : List V} {ds : List D} {H : Hp} (r : RepL K H xs ds) {i : Nat} {d : D} (hd : ds[i]? = some d) : ∃ x, xs[i]? = some x ∧ Rep K H x d := r.get hd
theorem sq_list {F : Fm} {H : Hp} {a : Addr} {xs : List V} {ds : List D} (s : SqL K (vis H M F) a xs) (r : RepL K (vis H M F) xs ds) : Sq K F M H (Itl K a) ds := by
  refine sq_sub fun M' H' m e i => ⟨fun hl => ?_, fun hl => ?_, fun x H2 d hd y => ?_⟩
  · have hx : i < xs.length := by rw [r.length]; exact hl
    exact ⟨xs, xs[i], vis_le.seq (e.seq s), by simp [hx]⟩
  · exact ⟨xs, vis_le.seq (e.seq s), by rw [r.length]; omega⟩
  · obtain ⟨rfl, f⟩ := y
    have h1 := f xs (vis_le.seq (e.seq s))
    obtain ⟨x2, h2, r2⟩ := r.get hd
    rw [h1] at h2; cases h2
    exact ⟨Go.refl m, r2.mono e⟩
theorem sq_tup {F : Fm} {H : Hp} {a : Addr} {xs : List V} {ds : List D} (s : SqT K (vis H M F) a xs) (r : RepL K (vis H M F) xs ds) : Sq K F M H (Itt K a) ds := by
  refine sq_sub fun M' H' m e i => ⟨fun hl => ?_, fun hl => ?_, fun x H2 d hd y => ?_⟩
  · have hx : i < xs.length := by rw [r.length]; exact hl
    exact ⟨xs, xs[i], sqt_mono vis_le (sqt_mono e s), by simp [hx]⟩
  · exact ⟨xs, sqt_mono vis_le (sqt_mono e s), by rw [r.length]; omega⟩
  · obtain ⟨rfl, f⟩ := y
    have h1 := f xs (sqt_mono vis_le (sqt_mono e s))
    obtain ⟨x2, h2, r2⟩ := r.get hd
    rw [h1] at h2; cases h2
    exact ⟨Go.refl m, r2.mono e⟩
theorem di_list (h : DE K te δ M fun d M1 => ∃ ds, d = .lst ds ∧ I ds M1) : DI K (iList K te) δ M I := fun F σ H en m R k => by
  refine h F σ H en m _ fun d M1 v H1 z g1 r1 => ?_
  obtain ⟨ds, rfl, z⟩ := z
  cases r1 with
  | lst s r =>
    refine ⟨_, rfl, ⟨_, vis_le.seq s⟩, k ds M1 _ H1 z g1 (fun p o hp => ?_) (sq_list s r)⟩
    exact sq_list ((vis_new hp).seq s) (r.mono (vis_new hp))
theorem di_tup (h : DE K te δ M fun d M1 => ∃ ds, d = .tup ds ∧ I ds M1) : DI K (iTup K te) δ M I := fun F σ H en m R k => by
  refine h F σ H en m _ fun d M1 v H1 z g1 r1 => ?_
  obtain ⟨ds, rfl, z⟩ := z
  cases r1 with
  | tup s r =>
    refine ⟨_, rfl, ⟨_, sqt_mono vis_le s⟩, k ds M1 _ H1 z g1 (fun p o hp => ?_) (sq_tup s r)⟩
    exact sq_tup (sqt_mono (vis_new hp) s) (r.mono (vis_new hp))
/-- the items of range(lo, lo + n) -/
def rngD (lo : Int) (n : Nat) : List D := (List.range n).map fun (i : Nat) => D.int (lo + (i : Int))
theorem rngD_get {lo : Int} {n i : Nat} {d : D} (h : (rngD lo n)[i]? = some d) : i < n ∧ d = .int (lo + i) := by
  unfold rngD at h
  rw [List.getElem?_map] at h
  cases e : (List.range n)[i]? with
  | none => rw [e] at h; cases h
  | some j =>
    rw [e] at h; cases h
    obtain ⟨h1, h2⟩ := List.getElem?_eq_some_iff.mp e
    rw [List.getElem_range] at h2
    subst h2
    exact ⟨by simpa using h1, rfl⟩
theorem rngD_len (lo : Int) (n : Nat) : (rngD lo n).length = n := by unfold rngD; simp
theorem sq_rng {F : Fm} {H : Hp} {lo : Int} {n : Nat} : Sq K F M H (Itr lo n) (rngD lo n) := by
  refine sq_sub fun M' H' m e i => ⟨fun hl => ?_, fun hl => ?_, fun x H2 d hd y => ?_⟩
  · rw [rngD_len] at hl; exact hl
  · rw [rngD_len] at hl; show n ≤ i; omega
  · obtain ⟨rfl, rfl⟩ := y
    obtain ⟨_, rfl⟩ := rngD_get hd
    exact ⟨Go.refl m, .int _⟩
theorem di_rng1 {tr : TA} (h : DA K tr δ M fun ds M1 => ∃ j : Int, ds = [.int j] ∧ -(2 ^ 62) ≤ j ∧ j < 2 ^ 62 ∧ I (rngD 0 j.toNat) M1) : DI K (iRng1 tr) δ M I := fun F σ H en m R k => by
  refine h F σ H en m _ fun ds M1 vs H1 z g1 r1 => ?_
  obtain ⟨j, rfl, h1, h2, z⟩ := z
  obtain rfl := RepL.of_ints (l := [j]) r1
  exact ⟨j, rfl, h1, h2, k _ M1 _ H1 z g1 (fun _ _ _ => sq_rng) sq_rng⟩
theorem di_rng2 {tr : TA} (h : DA K tr δ M fun ds M1 => ∃ i j : Int, ds = [.int i, .int j] ∧ (-(2 ^ 62) ≤ i ∧ i < 2 ^ 62 ∧ -(2 ^ 62) ≤ j ∧ j < 2 ^ 62) ∧ I (rngD i (j - i).toNat) M1) : DI K (iRng2 tr) δ M I := fun F σ H en m R k => by
  refine h F σ H en m _ fun ds M1 vs H1 z g1 r1 => ?_
  obtain ⟨i, j, rfl, h1, z⟩ := z
  obtain rfl := RepL.of_ints (l := [i, j]) r1
  exact ⟨i, j, rfl, h1, k _ M1 _ H1 z g1 (fun _ _ _ => sq_rng) sq_rng⟩
/-- a text's signs -/
def sigs (x : Str) : List D := x.cps.toList.map fun c => D.str ⟨#[c]⟩
theorem sigs_len (x : Str) : (sigs x).length = x.cps.size := by unfold sigs; simp
theorem sq_str {F : Fm} {H : Hp} {x : Str} : Sq K F M H (Its x) (sigs x) := by
  refine sq_sub fun M' H' m e i => ⟨fun hl => ?_, fun hl => ?_, fun v H2 d hd y => ?_⟩
  · rw [sigs_len] at hl; exact hl
  · rw [sigs_len] at hl; show x.cps.size ≤ i; omega
  · obtain ⟨rfl, c, hc, rfl⟩ := y
    unfold sigs at hd
    rw [List.getElem?_map, Array.getElem?_toList, hc] at hd
    cases hd
    exact ⟨Go.refl m, .str _⟩
theorem di_str (h : DE K te δ M fun d M1 => ∃ x, d = .str x ∧ I (sigs x) M1) : DI K (iStr te) δ M I := fun F σ H en m R k => by
  refine h F σ H en m _ fun d M1 v H1 z g1 r1 => ?_
  obtain ⟨x, rfl, z⟩ := z
  cases r1
  exact ⟨x, rfl, k _ M1 _ H1 z g1 (fun _ _ _ => sq_str) sq_str⟩

/-! ### loops -/
theorem ds_for {wi : TI} (h : DI K wi δ M fun ds M1 => ∃ Pv : Nat → En → Mem → Prop, Pv 0 δ M1 ∧
      (∀ i d δ' M', ds[i]? = some d → Pv i δ' M' → DG K js g d δ' M' fun δ2 M2 => DS K t δ2 M2 { q with nx := Pv (i + 1), ct := Pv (i + 1), bk := q.nx }) ∧ ∀ δ' M', Pv ds.length δ' M' → q.nx δ' M') :
    DS K (tFor wi g t) δ M q := fun F σ H en m E n r b c => by
  refine h F σ H en m _ fun ds M1 J H1 z g1 _ S => ?_
  obtain ⟨Pv, p0, pt, pe⟩ := z
  refine ⟨fun i k σ' H' => i ≤ ds.length ∧ k = ds.length - i ∧ ∃ δ' M', Pv i δ' M' ∧ Go K F M1 H1 M' H' ∧ EnvR K (vis H' M' F) σ' δ', ⟨ds.length, Nat.zero_le _, rfl, δ, M1, p0, Go.refl g1.ok, en.mono g1.ex⟩, ?_⟩
  rintro i k σ' H' ⟨hi, rfl, δ', M', pv, g2, en2⟩
  by_cases hl : i < ds.length
  · refine .inr ⟨S.go i M' H' hl g2.ok g2.ex, fun σ3 H3 => ∃ δ3 M3, Pv (i + 1) δ3 M3 ∧ Go K F M1 H1 M3 H3 ∧ EnvR K (vis H3 M3 F) σ3 δ3, fun σ3 H3 w => ⟨ds.length - (i + 1), by omega, by omega, rfl, w⟩, fun x H3 y => ?_⟩
    have hd : ds[i]? = some ds[i] := List.getElem?_eq_getElem hl
    obtain ⟨g3, rx⟩ := S.yl i M' H' x H3 _ hd g2.ok g2.ex y
    have gg := g2.trans g3
    refine pt i _ δ' M' hd pv F σ' H3 x (en2.mono g3.ex) g3.ok rx _ fun δ4 M4 σ4 H4 z4 g4 en4 _ => ?_
    have gh := gg.trans g4
    refine z4 F σ4 H4 en4 g4.ok _ ?_ ?_ ?_ ?_
    · exact fun δ5 M5 σ5 H5 z5 g5 en5 => ⟨δ5, M5, z5, gh.trans g5, en5⟩
    · exact fun d5 M5 v5 H5 z5 g5 r5 => r d5 M5 v5 H5 z5 (g1.trans (gh.trans g5)) r5
    · exact fun δ5 M5 σ5 H5 z5 g5 en5 => n δ5 M5 σ5 H5 z5 (g1.trans (gh.trans g5)) en5
    · exact fun δ5 M5 σ5 H5 z5 g5 en5 => ⟨δ5, M5, z5, gh.trans g5, en5⟩
  · have hi' : i = ds.length := by omega
    subst hi'
    exact .inl ⟨S.stop _ M' H' rfl g2.ok g2.ex, n δ' M' σ' H' (pe δ' M' pv) (g1.trans g2) en2⟩
theorem ds_while (Pv : Nat → En → Mem → Prop) (k : Nat) (h0 : Pv k δ M)
    (hs : ∀ k δ' M', Pv k δ' M' → DT K tt δ' M' fun b M1 => if b = true then DS K t δ' M1 { q with nx := fun δ2 M2 => ∃ k', k' < k ∧ Pv k' δ2 M2, ct := fun δ2 M2 => ∃ k', k' < k ∧ Pv k' δ2 M2, bk := q.nx } else q.nx δ' M1) : DS K (tWhile tt t) δ M q := fun F σ H en m E n r b c => by
  refine ⟨fun k' σ' H' => ∃ δ' M', Pv k' δ' M' ∧ Go K F M H M' H' ∧ EnvR K (vis H' M' F) σ' δ', ⟨k, δ, M, h0, Go.refl m, en⟩, ?_⟩
  rintro k' σ' H' ⟨δ', M', pv, g1, en1⟩
  refine hs k' δ' M' pv F σ' H' en1 g1.ok _ fun z M2 H2 z2 g2 => ?_
  cases z with
  | true =>
    rw [if_pos rfl] at z2
    rw [if_pos rfl]
    refine ⟨fun σ3 H3 => ∃ k3, k3 < k' ∧ ∃ δ3 M3, Pv k3 δ3 M3 ∧ Go K F M H M3 H3 ∧ EnvR K (vis H3 M3 F) σ3 δ3, fun σ3 H3 w => w, ?_⟩
    refine z2 F σ' H2 (en1.mono g2.ex) g2.ok _ ?_ ?_ ?_ ?_
    · exact fun δ5 M5 σ5 H5 ⟨k5, l5, z5⟩ g5 en5 => ⟨k5, l5, δ5, M5, z5, (g1.trans g2).trans g5, en5⟩
    · exact fun d5 M5 v5 H5 z5 g5 r5 => r d5 M5 v5 H5 z5 ((g1.trans g2).trans g5) r5
    · exact fun δ5 M5 σ5 H5 z5 g5 en5 => n δ5 M5 σ5 H5 z5 ((g1.trans g2).trans g5) en5
    · exact fun δ5 M5 σ5 H5 ⟨k5, l5, z5⟩ g5 en5 => ⟨k5, l5, δ5, M5, z5, (g1.trans g2).trans g5, en5⟩
  | false =>
    rw [if_neg Bool.false_ne_true] at z2
    rw [if_neg Bool.false_ne_true]
    exact n δ' M2 σ' H2 z2 (g1.trans g2) (en1.mono g2.ex)

/-! ### comprehensions: the memory stays -/
theorem dt_yes (h : R true M) : DT K tYes δ M R := fun F σ H en m QV k => k true M H h (Go.refl m)
theorem de_lc {wi : TI} {vs : List Nat} (hj : ∀ j ∈ js, j ∈ vs) (h : DI K wi δ M fun ds M1 => ∃ Ac : Nat → List D → Prop, Ac 0 [] ∧
      (∀ i d acc, ds[i]? = some d → Ac i acc → DG K js g d (wipeD δ vs) M1 fun δ2 M2 => M2 = M1 ∧ DT K tt δ2 M1 fun b M3 => M3 = M1 ∧ if b = true then DE K te δ2 M1 (fun e M4 => M4 = M1 ∧ acc.length < sizeLine ∧ Ac (i + 1) (acc ++ [e])) else Ac (i + 1) acc) ∧
      ∀ acc, Ac ds.length acc → Q (.lst acc) M1) : DE K (tLc wi g tt te vs) δ M Q := fun F σ H en m QV k => by
  refine h F σ H en m _ fun ds M1 J H1 z g1 Sn S0 => ?_
  obtain ⟨Ac, a0, at', ae⟩ := z
  intro Dl hD
  have S := Sn Dl (.lst []) hD
  obtain ⟨fD, mD⟩ := g1.ok.new hD
  have vn : Same (vis H1 M1 F) (vis (upd H1 Dl (.lst [])) M1 (fadd F Dl)) := vis_new hD
  have ok0 : MOk K (fadd F Dl) M1 (upd H1 Dl (.lst [])) := by
    obtain ⟨g, _⟩ := go_new (o := .lst []) g1.ok hD
    refine ⟨fun b hb => ?_, fun a mo hm => ?_⟩
    · rcases fadd_of hb with hb | rfl
      · exact g.ok.fr b hb
      · exact ⟨by rw [upd_same]; simp, mD⟩
    · obtain ⟨ho, e, ro⟩ := g1.ok.mo a mo hm
      exact ⟨ho, by rw [upd_ne (ne_of_none e hD)]; exact e, ro.mono vn⟩
  refine ⟨fun i n H' => i ≤ ds.length ∧ n = ds.length - i ∧ ∃ acc xs, Ac i acc ∧ MOk K (fadd F Dl) M1 H' ∧ Same (vis (upd H1 Dl (.lst [])) M1 (fadd F Dl)) (vis H' M1 (fadd F Dl)) ∧ (∀ b, F b = true → H' b = H1 b) ∧ H' Dl = some (.lst xs) ∧ RepL K (vis H' M1 (fadd F Dl)) xs acc,
    ⟨ds.length, Nat.zero_le _, rfl, [], [], a0, ok0, Same.refl _, fun b hb => upd_ne (fun e => by subst e; rw [fD] at hb; cases hb), upd_same, .nil⟩, ?_⟩
  rintro i n H' ⟨hi, rfl, acc, xs, ac, ok, ex, fr, hDl, rl⟩
  by_cases hl : i < ds.length
  · refine .inr ⟨S.go i M1 H' hl ok ex, fun H3 => ∃ acc xs, Ac (i + 1) acc ∧ MOk K (fadd F Dl) M1 H3 ∧ Same (vis (upd H1 Dl (.lst [])) M1 (fadd F Dl)) (vis H3 M1 (fadd F Dl)) ∧ (∀ b, F b = true → H3 b = H1 b) ∧ H3 Dl = some (.lst xs) ∧ RepL K (vis H3 M1 (fadd F Dl)) xs acc, fun H3 w => ⟨ds.length - (i + 1), by omega, by omega, rfl, w⟩, fun x H3 y => ?_⟩
    have hd : ds[i]? = some ds[i] := List.getElem?_eq_getElem hl
    obtain ⟨g3, rx⟩ := S.yl i M1 H' x H3 _ hd ok ex y
    have en3 : EnvR K (vis H3 M1 (fadd F Dl)) (wipe σ vs) (wipeD δ vs) := ((((en.mono g1.ex).mono vn).mono ex).mono g3.ex).wipe vs
    have back : ∀ H5, Go K (fadd F Dl) M1 H3 M1 H5 → Same (vis (upd H1 Dl (.lst [])) M1 (fadd F Dl)) (vis H5 M1 (fadd F Dl)) ∧ (∀ b, F b = true → H5 b = H1 b) ∧ H5 Dl = some (.lst xs) ∧ RepL K (vis H5 M1 (fadd F Dl)) xs acc := fun H5 g5 =>
      ⟨(ex.trans g3.ex).trans g5.ex, fun b hb => ((g5.fr b (fadd_mk hb)).trans (g3.fr b (fadd_mk hb))).trans (fr b hb), ((g5.fr Dl fadd_self).trans (g3.fr Dl fadd_self)).trans hDl, (rl.mono g3.ex).mono g5.ex⟩
    refine at' i _ acc hd ac (fadd F Dl) (wipe σ vs) H3 x en3 g3.ok rx _ fun δ4 M4 σ4 H4 z4 g4 en4 w4 => ⟨?_, ?_⟩
    · rw [w4 vs hj, wipe_wipe σ vs vs fun _ h => h]
    · obtain ⟨rfl, z4⟩ := z4
      refine z4 (fadd F Dl) σ4 H4 en4 g4.ok _ fun bb M5 H5 z5 g5 => ?_
      obtain ⟨rfl, z5⟩ := z5
      have g45 := g4.trans g5
      cases bb with
      | false =>
        rw [if_neg Bool.false_ne_true] at z5
        rw [if_neg Bool.false_ne_true]
        obtain ⟨b1, b2, b3, b4⟩ := back H5 g45
        exact ⟨acc, xs, z5, g45.ok, b1, b2, b3, b4⟩
      | true =>
        rw [if_pos rfl] at z5
        rw [if_pos rfl]
        refine z5 (fadd F Dl) σ4 H5 (en4.mono g5.ex) g5.ok _ fun e M6 v H6 z6 g6 r6 => ?_
        obtain ⟨rfl, hz, z6⟩ := z6
        have g456 := g45.trans g6
        obtain ⟨b1, b2, b3, b4⟩ := back H6 g456
        have hv : ∀ o, Same (vis H6 M6 (fadd F Dl)) (vis (upd H6 Dl o) M6 (fadd F Dl)) := fun o b u hb => by
          obtain ⟨h1, h2, h3⟩ := vis_of hb
          have hne := (fadd_no h2).2
          exact vis_mk (by rw [upd_ne hne]; exact h1) h2 h3
        refine ⟨xs, b3, by rw [b4.length]; exact hz, acc ++ [e], xs ++ [v], z6, ⟨fun b hb => ?_, fun a mo hm => ?_⟩, b1.trans (hv _), fun b hb => ?_, upd_same, (b4.mono (hv _)).append (.cons (r6.mono (hv _)) .nil)⟩
        · rcases fadd_of hb with hb' | rfl
          · have hne : b ≠ Dl := fun e => by subst e; rw [fD] at hb'; cases hb'
            rw [upd_ne hne]; exact g456.ok.fr b hb
          · exact ⟨by rw [upd_same]; simp, mD⟩
        · obtain ⟨ho, e1, ro⟩ := g456.ok.mo a mo hm
          have hne : a ≠ Dl := fun z => by subst z; rw [mD] at hm; cases hm
          exact ⟨ho, by rw [upd_ne hne]; exact e1, ro.mono (hv _)⟩
        · have hne : b ≠ Dl := fun e => by subst e; rw [fD] at hb; cases hb
          rw [upd_ne hne]; exact b2 b hb
  · have hi' : i = ds.length := by omega
    subst hi'
    refine .inl ⟨S.stop _ M1 H' rfl ok ex, ?_⟩
    have sv : Same (vis H' M1 (fadd F Dl)) (vis H' M1 F) := fun b u hb => by
      obtain ⟨h1, h2, h3⟩ := vis_of hb
      exact vis_mk h1 (fadd_no h2).1 h3
    have g2 : Go K F M1 H1 M1 H' := by
      refine ⟨⟨fun b hb => ok.fr b (fadd_mk hb), fun a mo hm => ?_⟩, (vn.trans ex).trans sv, fr⟩
      obtain ⟨ho, e1, ro⟩ := ok.mo a mo hm
      exact ⟨ho, e1, ro.mono sv⟩
    exact k (.lst acc) M1 _ H' (ae acc ac) (g1.trans g2) (.lst (.inl (.inl (vis_mk hDl fD mD))) (rl.mono sv))
end
/-! ### a def -/
/-- a def's body by data -/
theorem fun_ok {P : Program} {w : World} {K : PySem.W.Frag} {mg : Str → Option Value} {base : Heap} {x qual : Str} {st : Stmt} {f : Addr} {fd : FuncData} {N ps : List Str} {k : Nat} {p : List D → Mem → (D → Mem → Prop) → Prop} (Fu : Fun K x qual st f fd) (S : FnScope N ps (defScope st))
    (len : ∀ ds M R, p ds M R → ds.length = ps.length)
    (body : ∀ (cdv : Value) (A : Around) (outer : List Env) (s : Shared) (H : Hp) (E : XK), Room k (A.deeper (envOfC qual (defScope st) s.heap.objs.size f cdv)) →
      ∃ t, PSs (cxOf CX0 P w K mg base N qual (defScope st) f cdv A outer s H E).nox (defBody st) t ∧ ∀ ds M R, p ds M R → DS K t (ds.map some ++ List.replicate (N.length - ds.length) none) M { nx := fun _ M' => R .non M', rt := R }) :
    FnOk P w K mg base CX0 (k + 1) f fd ps (spD K p) := by
  refine Fu.ok S (fun vs H Q E h => ?_) (fun cdv A outer s H vs Q E hr h => ?_)
  · obtain ⟨F, M, ds, R, r, m, hp, _⟩ := h
    rw [r.length]
    exact len ds M R hp
  · obtain ⟨F, M, ds, R, r, m, hp, q⟩ := h
    obtain ⟨t, ht, hd⟩ := body cdv A outer s H E hr
    refine ⟨t, ht, hd ds M R hp F _ H (EnvR.start r) m _ ?_ ?_ ?_ ?_⟩
    · exact fun δ' M' σ' H' z g _ => q _ _ _ _ z g .non
    · exact fun d M' v H' z g rp => q _ _ _ _ z g rp
    · exact fun _ _ _ _ z => z.elim
    · exact fun _ _ _ _ z => z.elim
end DL

set_option Elab.async false
set_option linter.all false
set_option maxRecDepth 100000
set_option maxHeartbeats 4000000
/-! built-ins by data -/
namespace DL
open PySem PySem.Spec PyProof.Rows L2

section
variable {X : Cx}
/-- list + list, either of them also one of the module -/
def rCatS (K : PySem.W.Frag) : R2 := fun x y H Q => ∃ l b xs zs, x = .ref l ∧ y = .ref b ∧ SqL K H l xs ∧ SqL K H b zs ∧ xs.length + zs.length ≤ sizeLine ∧ ∀ p, H p = none → Q (.ref p) (upd H p (.lst (xs ++ zs)))
theorem op_catS : OpR X (binaryOp .Add) (rCatS X.K) := by
  intro pins s σ H x y v u Q I rx ry h
  obtain ⟨l, b, xs, zs, rfl, rfl, hH, hB, hz, q⟩ := h
  cases rx
  cases ry
  obtain ⟨its, r, pl, _⟩ := I.list hH
  obtain ⟨its2, r2, pl2, _⟩ := I.list hB
  have hl := r.length
  have hl2 := r2.length
  obtain ⟨⟨cls, dd, data, sl⟩, ho, hc, n, hd⟩ := pl.isList
  obtain ⟨⟨cls2, dd2, data2, sl2⟩, ho2, hc2, n2, hd2⟩ := pl2.isList
  simp only at hc hd hc2 hd2
  subst hc hd hc2 hd2
  have e : its.toArray ++ its2.toArray = (its ++ its2).toArray := by simp
  refine concat_meets ⟨_, ho, rfl⟩ ⟨_, ho2, rfl⟩ noFill_list_add seq_list_add PySem.F.slot_list_add PySem.F.entry_list_add (PySem.F.args_list_add_2 _ _) (list_addW l b its.toArray its2.toArray n n2 dd dd2 sl sl2 (by simp only [List.size_toArray]; omega)) ⟨ho, ho2, ?_⟩
  rw [e]
  exact ⟨.ref _, _, I.lnew (t' := s.toks) (r.append r2) (by rw [List.length_append]; omega), rfl, q _ I.fresh⟩
/-- + of ints, texts, lists, tuples -/
def rAddA (K : PySem.W.Frag) : R2 := fun x y H Q => rI0 (fun i j => .int (i + j)) x y H Q ∨ ((∃ i j, x = .str i ∧ y = .str j ∧ i.length + j.length ≤ sizeLine ∧ Q (.str (i ++ j)) H) ∨ (rCatS K x y H Q ∨ rCatT K x y H Q))
theorem op_addA : OpR X (binaryOp .Add) (rAddA X.K) := op_add.or (op_add_str.or (op_catS.or op_catT))
theorem op_powN : OpR X (binaryOp .Pow) (rI (fun i j => 0 ≤ j ∧ (Builtin.Int.intBits i : Int) * j ≤ 2 ^ 27) fun i j => .int (i ^ j.toNat)) := opI fun _ _ _ _ _ _ _ hc q => pow_int hc.1 hc.2 q
theorem call_repr_bl : CallR X (.builtin "repr") (fun xs H Q => ∃ b : Bool, xs = [.bl b] ∧ Q (.str (if b then "True" else "False")) H) := by
  intro pins s σ H xs us Q I r h
  obtain ⟨b, rfl, q⟩ := h
  cases r with
  | cons r1 r2 =>
    cases r2
    cases r1
    exact PySem.P.repr_of_bool ⟨.str _, H, I.tok _, ⟨_, rfl⟩, q⟩
end

section
variable {K : PySem.W.Frag} {δ : En} {M : Mem} {Q : D → Mem → Prop} {R : Bool → Mem → Prop} {te : TE} {d e : D} {A : List D → Mem → Prop} {tr : TA}
/-! ### + -/
theorem dr_addI {i j : Int} (q : Q (.int (i + j)) M) : DR K (rAddA K) (.int i) (.int j) M Q := dr_or1 (dr_I0 q)
theorem dr_addS {i j : Str} (hz : i.length + j.length ≤ sizeLine) (q : Q (.str (i ++ j)) M) : DR K (rAddA K) (.str i) (.str j) M Q := dr_or2 (dr_or1 fun F H v u m a b QV k => by
  cases a; cases b
  exact ⟨i, j, rfl, rfl, hz, k _ M _ H q (Go.refl m) (.str _)⟩)
theorem dr_addL {xs ys : List D} (hz : xs.length + ys.length ≤ sizeLine) (q : Q (.lst (xs ++ ys)) M) : DR K (rAddA K) (.lst xs) (.lst ys) M Q := dr_or2 (dr_or2 (dr_or1 fun F H v u m a b QV k => by
  cases a with
  | lst s r =>
    cases b with
    | lst s2 r2 =>
      refine ⟨_, _, _, _, rfl, rfl, vis_le.seq s, vis_le.seq s2, by rw [r.length, r2.length]; exact hz, fun p hp => ?_⟩
      obtain ⟨g, e⟩ := go_new (o := .lst _) m hp
      exact k _ M _ _ q g (.lst (.inl (.inl e)) ((r.mono g.ex).append (r2.mono g.ex)))))
theorem dr_addT {xs ys : List D} (hn : xs ≠ []) (hz : xs.length + ys.length ≤ sizeLine) (q : Q (.tup (xs ++ ys)) M) : DR K (rAddA K) (.tup xs) (.tup ys) M Q := dr_or2 (dr_or2 (dr_or2 fun F H v u m a b QV k => by
  cases a with
  | @tup a1 vs1 _ s r =>
    cases b with
    | @tup a2 vs2 _ s2 r2 =>
      refine ⟨a1, a2, vs1, vs2, rfl, rfl, sqt_mono vis_le s, sqt_mono vis_le s2, ?_, by rw [r.length, r2.length]; exact hz, ?_⟩
      · intro z; subst z; cases r; exact hn rfl
      · refine ⟨fun hy => ?_, fun hy p hp => ?_⟩
        · subst hy
          cases r2
          rw [List.append_nil] at q
          exact k _ M _ H q (Go.refl m) (.tup s r)
        · obtain ⟨g, e⟩ := go_new (o := .tup _) m hp
          exact k _ M _ _ q g (.tup (.inl (.inl e)) ((r.mono g.ex).append (r2.mono g.ex)))))
/-! ### items -/
theorem atI_rep {G : Hp} {xs : List V} {ds : List D} {i : Int} (r : RepL K G xs ds) (h : atI ds i = some d) : ∃ v, atI xs i = some v ∧ Rep K G v d := by
  unfold atI at h ⊢
  rw [r.length]
  cases e : ixN ds.length i with
  | none => rw [e] at h; cases h
  | some j =>
    rw [e] at h
    obtain ⟨u, hu, ru⟩ := r.get (show ds[j]? = some d from h)
    exact ⟨u, hu, ru⟩
theorem dr_ixL {xs : List D} {i : Int} (h : atI xs i = some d) (q : Q d M) : DR K (rIx K) (.lst xs) (.int i) M Q := dr_or1 fun F H v u m a b QV k => by
  cases b
  cases a with
  | lst s r =>
    obtain ⟨w, hw, rw'⟩ := atI_rep r h
    exact ⟨_, _, i, w, rfl, rfl, vis_le.seq s, hw, k d M w H q (Go.refl m) rw'⟩
theorem dr_ixT {xs : List D} {i : Int} (h : atI xs i = some d) (q : Q d M) : DR K (rIx K) (.tup xs) (.int i) M Q := dr_or2 (dr_or1 fun F H v u m a b QV k => by
  cases b
  cases a with
  | tup s r =>
    obtain ⟨w, hw, rw'⟩ := atI_rep r h
    exact ⟨_, _, i, w, rfl, rfl, sqt_mono vis_le s, hw, k d M w H q (Go.refl m) rw'⟩)
theorem dr_ixS {x : Str} {i : Int} {c : Nat} (hz : x.length ≤ sizeLine) (h : atI x.cps.toList i = some c) (q : Q (.str ⟨#[c]⟩) M) : DR K (rIx K) (.str x) (.int i) M Q := dr_or2 (dr_or2 fun F H v u m a b QV k => by
  cases a; cases b
  exact ⟨x, i, c, rfl, rfl, hz, h, k _ M _ H q (Go.refl m) (.str _)⟩)
/-- the die's item -/
theorem dr_ixD {p : Addr} {j : Nat} (hp : M p = some .die) (hj : j < 3) (q : ∀ i : Int, Q (.int i) M) : DR K (rIx K) (.raw (.ref p)) (.int (j : Int)) M Q := dr_or1 fun F H v u m a b QV k => by
  cases a; cases b
  obtain ⟨ho, e, r⟩ := m.mo p _ hp
  cases r with
  | die x y z =>
    have h3 : ∃ i : Int, atI [V.int x, V.int y, V.int z] (j : Int) = some (.int i) := by
      match j, hj with
      | 0, _ => exact ⟨x, rfl⟩
      | 1, _ => exact ⟨y, rfl⟩
      | 2, _ => exact ⟨z, rfl⟩
    obtain ⟨i, hi⟩ := h3
    exact ⟨p, _, _, _, rfl, rfl, SqL.of e, hi, k _ M _ H (q i) (Go.refl m) (.int _)⟩
theorem dr_ixD0 {p : Addr} (hp : M p = some .die) (q : ∀ i : Int, Q (.int i) M) : DR K (rIx K) (.raw (.ref p)) (.int 0) M Q := dr_ixD (j := 0) hp (by decide) q
theorem dr_ixD1 {p : Addr} (hp : M p = some .die) (q : ∀ i : Int, Q (.int i) M) : DR K (rIx K) (.raw (.ref p)) (.int 1) M Q := dr_ixD (j := 1) hp (by decide) q
theorem dr_ixD2 {p : Addr} (hp : M p = some .die) (q : ∀ i : Int, Q (.int i) M) : DR K (rIx K) (.raw (.ref p)) (.int 2) M Q := dr_ixD (j := 2) hp (by decide) q
/-- a store into the die -/
theorem dg_die {js : List Nat} {to ti : TE} {G : En → Mem → Prop} {p : Addr} {x : Int} {j : Nat} (hj : j < 3) (h : DE K to δ M fun o M1 => o = .raw (.ref p) ∧ DE K ti δ M1 fun i M2 => i = .int (j : Int) ∧ M2 p = some .die ∧ G δ M2) : DG K js (gSub to ti rSetL) (.int x) δ M G := fun F σ H v en m r QG k => by
  cases r
  refine h F σ H en m _ fun o M1 w H1 z g1 r1 => ?_
  obtain ⟨rfl, z⟩ := z
  cases r1
  refine z F σ H1 (en.mono g1.ex) g1.ok _ fun i M2 w2 H2 z2 g2 r2 => ?_
  obtain ⟨rfl, hd, z2⟩ := z2
  cases r2
  obtain ⟨ho, e, ro⟩ := g2.ok.mo p _ hd
  cases ro with
  | die a b c =>
    have h3 : ∃ a' b' c' : Int, ixN [V.int a, V.int b, V.int c].length (j : Int) = some j ∧ [V.int a, V.int b, V.int c].set j (.int x) = [.int a', .int b', .int c'] := by
      match j, hj with
      | 0, _ => exact ⟨x, b, c, rfl, rfl⟩
      | 1, _ => exact ⟨a, x, c, rfl, rfl⟩
      | 2, _ => exact ⟨a, b, x, rfl, rfl⟩
    obtain ⟨a', b', c', h4, h5⟩ := h3
    refine ⟨p, _, _, j, rfl, rfl, e, h4, ?_⟩
    rw [h5]
    have g3 := go_die g2.ok hd a' b' c'
    exact k δ M2 σ _ z2 ((g1.trans g2).trans g3) (((en.mono g1.ex).mono g2.ex).mono g3.ex) fun _ _ => rfl
/-- a store into a list that changes -/
theorem dg_setL {js : List Nat} {to ti : TE} {G : En → Mem → Prop} {x : D} (h : DE K to δ M fun o M1 => DE K ti δ M1 fun i M2 => ∃ (p : Addr) (xs : List D) (n : Int) (j : Nat), o = .raw (.ref p) ∧ i = .int n ∧ M2 p = some (.lst xs) ∧ ixN xs.length n = some j ∧ G δ (mup M2 p (.lst (xs.set j x)))) : DG K js (gSub to ti rSetL) x δ M G := fun F σ H v en m r QG k => by
  refine h F σ H en m _ fun o M1 w H1 z g1 r1 => ?_
  refine z F σ H1 (en.mono g1.ex) g1.ok _ fun i M2 w2 H2 z2 g2 r2 => ?_
  obtain ⟨p, xs, n, j, rfl, rfl, hd, hj, z2⟩ := z2
  cases r1
  cases r2
  obtain ⟨ho, e, ro⟩ := g2.ok.mo p _ hd
  cases ro with
  | lst rl =>
    refine ⟨p, _, n, j, rfl, rfl, e, by rw [rl.length]; exact hj, ?_⟩
    have g3 := go_mut (m := .lst (xs.set j x)) g2.ok hd (.lst (rl.set ((r.mono g1.ex).mono g2.ex) j))
    exact k δ _ σ _ z2 ((g1.trans g2).trans g3) (((en.mono g1.ex).mono g2.ex).mono g3.ex) fun _ _ => rfl
/-- the items of a list, a tuple, a text -/
def itemsD : D → Option (List D)
  | .lst xs => some xs | .tup xs => some xs | .str x => some (sigs x) | _ => none
/-! ### slices -/
def DO (K : PySem.W.Frag) (to : TO) (δ : En) (M : Mem) (Q : Option Int → Mem → Prop) : Prop :=
  ∀ (F : Fm) (σ : Sg) (H : Hp), EnvR K (vis H M F) σ δ → MOk K F M H → ∀ QV : Option Int → Hp → Prop, (∀ o M' H', Q o M' → Go K F M H M' H' → QV o H') → to σ H QV
theorem do_no {O : Option Int → Mem → Prop} (q : O none M) : DO K tNoPart δ M O := fun F σ H en m QV k => k none M H q (Go.refl m)
theorem do_pt {O : Option Int → Mem → Prop} (h : DE K te δ M fun d M1 => ∃ i, d = .int i ∧ O (some i) M1) : DO K (tPart te) δ M O := fun F σ H en m QV k => by
  refine h F σ H en m _ fun d M1 v H1 z g r => ?_
  obtain ⟨i, rfl, z⟩ := z
  cases r
  exact ⟨i, rfl, k _ M1 H1 z g⟩
theorem de_slS {tl th : TO} (h : DE K te δ M fun d M1 => ∃ x, d = .str x ∧ x.length ≤ sizeLine ∧ DO K tl δ M1 fun l M2 => DO K th δ M2 fun u M3 => Q (.str (cutS x l u)) M3) : DE K (tSl rSlS te tl th) δ M Q := fun F σ H en m QV k => by
  refine h F σ H en m _ fun d M1 v H1 z g1 r => ?_
  obtain ⟨x, rfl, hz, z⟩ := z
  cases r
  refine z F σ H1 (en.mono g1.ex) g1.ok _ fun l M2 H2 z2 g2 => ?_
  refine z2 F σ H2 ((en.mono g1.ex).mono g2.ex) g2.ok _ fun u M3 H3 z3 g3 => ?_
  exact ⟨x, rfl, hz, k _ M3 _ H3 z3 ((g1.trans g2).trans g3) (.str _)⟩
/-! ### built-in functions -/
theorem dc_one {r : List V → Hp → VK → Prop} {x : D} (h : DU K (fun v H Q => r [v] H Q) x M Q) : DC K r [x] M Q := fun F H vs m rl QV k => by
  cases rl with
  | cons a b =>
    cases b
    exact h F H _ m a QV k
def lenD : D → Option Nat
  | .str x => some x.length | .lst xs => some xs.length | .tup xs => some xs.length | _ => none
theorem dc_len {n : Nat} (h : lenD d = some n) (hz : ∀ x, d = .str x → x.length ≤ sizeLine) (q : Q (.int (n : Int)) M) : DC K (fun xs H Q => ∃ x n, xs = [x] ∧ LenV K x H n ∧ Q (.int n) H) [d] M Q := fun F H vs m r QV k => by
  cases r with
  | cons a b =>
    cases b
    refine ⟨_, n, rfl, ?_, k _ M _ H q (Go.refl m) (.int _)⟩
    cases a <;> first | cases h; done | skip
    · cases h; exact ⟨hz _ rfl, rfl⟩
    · rename_i s r
      cases h
      exact .inl ⟨_, vis_le.seq s, r.length.symm⟩
    · rename_i s r
      cases h
      exact .inr ⟨_, sqt_mono vis_le s, r.length.symm⟩
theorem dc_abs {i : Int} (q : Q (.int (if i < 0 then -i else i)) M) : DC K (fun xs H Q => ∃ i, xs = [.int i] ∧ Q (.int (if i < 0 then -i else i)) H) [.int i] M Q := fun F H vs m r QV k => by
  obtain rfl := RepL.of_ints (l := [i]) r
  exact ⟨i, rfl, k _ M _ H q (Go.refl m) (.int _)⟩
theorem dc_max2 {i j : Int} (q : Q (.int (if j > i then j else i)) M) : DC K (fun xs H Q => ∃ i j, xs = [.int i, .int j] ∧ Q (.int (if j > i then j else i)) H) [.int i, .int j] M Q := fun F H vs m r QV k => by
  obtain rfl := RepL.of_ints (l := [i, j]) r
  exact ⟨i, j, rfl, k _ M _ H q (Go.refl m) (.int _)⟩
theorem dc_min2 {i j : Int} (q : Q (.int (if j < i then j else i)) M) : DC K (fun xs H Q => ∃ i j, xs = [.int i, .int j] ∧ Q (.int (if j < i then j else i)) H) [.int i, .int j] M Q := fun F H vs m r QV k => by
  obtain rfl := RepL.of_ints (l := [i, j]) r
  exact ⟨i, j, rfl, k _ M _ H q (Go.refl m) (.int _)⟩
theorem dc_intI {i : Int} (q : Q (.int i) M) : DC K (fun xs H Q => (∃ i, xs = [.int i] ∧ Q (.int i) H) ∨ ∃ k, xs = [.bl k] ∧ Q (.int (if k then 1 else 0)) H) [.int i] M Q := fun F H vs m r QV k => by
  obtain rfl := RepL.of_ints (l := [i]) r
  exact .inl ⟨i, rfl, k _ M _ H q (Go.refl m) (.int _)⟩
theorem dc_intB {b : Bool} (q : Q (.int (if b then 1 else 0)) M) : DC K (fun xs H Q => (∃ i, xs = [.int i] ∧ Q (.int i) H) ∨ ∃ k, xs = [.bl k] ∧ Q (.int (if k then 1 else 0)) H) [.bl b] M Q := fun F H vs m r QV k => by
  obtain rfl := RepL.of_bls (l := [b]) r
  exact .inr ⟨b, rfl, k _ M _ H q (Go.refl m) (.int _)⟩
theorem dc_reprB {b : Bool} (q : Q (.str (if b then "True" else "False")) M) : DC K (fun xs H Q => ∃ b : Bool, xs = [.bl b] ∧ Q (.str (if b then "True" else "False")) H) [.bl b] M Q := fun F H vs m r QV k => by
  obtain rfl := RepL.of_bls (l := [b]) r
  exact ⟨b, rfl, k _ M _ H q (Go.refl m) (.str _)⟩
theorem dc_all {bs : List Bool} (h : d = .lst (bs.map D.bl)) (q : Q (.bl (bs.all id)) M) : DC K (rAll K) [d] M Q := fun F H vs m r QV k => by
  subst h
  cases r with
  | cons a b =>
    cases b
    cases a with
    | lst s r =>
      obtain rfl := RepL.of_bls r
      exact ⟨_, bs, rfl, vis_le.seq s, k _ M _ H q (Go.refl m) (.bl _)⟩
theorem dc_any {bs : List Bool} (h : d = .lst (bs.map D.bl)) (q : Q (.bl (bs.any id)) M) : DC K (rAny K) [d] M Q := fun F H vs m r QV k => by
  subst h
  cases r with
  | cons a b =>
    cases b
    cases a with
    | lst s r =>
      obtain rfl := RepL.of_bls r
      exact ⟨_, bs, rfl, vis_le.seq s, k _ M _ H q (Go.refl m) (.bl _)⟩
/-- a value's built-in type -/
def tyD : D → Option String
  | .non => some "NoneType" | .bl _ => some "bool" | .int _ => some "int" | .str _ => some "str" | .lst _ => some "list" | .tup _ => some "tuple" | .dic _ => some "dict" | _ => none
theorem tyX_of {F : Fm} {H : Hp} {v : V} {T : String} (r : Rep K (vis H M F) v d) (h : tyD d = some T) : TyX K H v (.type T) := by
  cases r with
  | non => cases h; exact .base .non
  | bl b => cases h; exact .base (.bl b)
  | int b => cases h; exact .base (.int b)
  | str b => cases h; exact .base (.str b)
  | lst s r =>
    cases h
    rcases s with (s | ⟨o, s⟩) | ⟨o, its, n, s, hc, _⟩
    · exact .base (.lst (vis_le _ _ s))
    · exact .base (.frz (vis_le _ _ s))
    · exact .kList s hc
  | tup s r =>
    cases h
    rcases s with (s | ⟨o, s⟩) | ⟨o, its, n, s, hc, _⟩
    · exact .base (.tup (vis_le _ _ s))
    · exact .fTuple (vis_le _ _ s)
    · exact .kTuple s hc
  | dic s r =>
    cases h
    rcases s with s | ⟨o, s⟩
    · exact .base (.dK (vis_le _ _ s))
    · exact .fDict (vis_le _ _ s)
  | obj _ _ => cases h
  | raw _ => cases h
theorem dc_isi {T U : String} {b : Bool} (h : tyD d = some T) (hb : kitB T U = some b) (q : Q (.bl b) M) : DC K (rIsi K) [d, .raw (.ty U)] M Q := fun F H vs m r QV k => by
  cases r with
  | cons a r =>
    cases r with
    | cons c r =>
      cases r
      cases c
      exact ⟨_, _, .type T, .type U, b, rfl, .ty U, tyX_of a h, kit_ty hb, k _ M _ H q (Go.refl m) (.bl _)⟩
/-! ### methods of built-ins -/
theorem de_M0 {r : V → List V → Hp → VK → Prop} (h : DE K te δ M fun d M1 => (∃ x, d = .str x) ∧ DM K r d [] M1 Q) : DE K (tM0 r te) δ M Q := fun F σ H en m QV k => by
  refine h F σ H en m _ fun d M1 v H1 z g1 r1 => ?_
  obtain ⟨⟨x, rfl⟩, z⟩ := z
  refine ⟨⟨x, by cases r1; rfl⟩, z F H1 v [] g1.ok r1 .nil _ fun x M2 z H2 q g2 r2 => k x M2 z H2 q (g1.trans g2) r2⟩
theorem de_M1 {r : V → List V → Hp → VK → Prop} {ta : TE} (h : DE K te δ M fun d M1 => (∃ x, d = .str x) ∧ DE K ta δ M1 fun a M2 => DM K r d [a] M2 Q) : DE K (tM1 r te ta) δ M Q := fun F σ H en m QV k => by
  refine h F σ H en m _ fun d M1 v H1 z g1 r1 => ?_
  obtain ⟨⟨x, rfl⟩, z⟩ := z
  refine ⟨⟨x, by cases r1; rfl⟩, z F σ H1 (en.mono g1.ex) g1.ok _ fun a M2 u H2 z2 g2 r2 => ?_⟩
  exact z2 F H2 v [u] g2.ok (r1.mono g2.ex) (.cons r2 .nil) _ fun x M3 z H3 q g3 r3 => k x M3 z H3 q ((g1.trans g2).trans g3) r3
theorem dm_upper {x : Str} (hz : x.length ≤ 5592405) (q : Q (.str (Txt.upper x)) M) : DM K (fun x xs H Q => ∃ a, x = .str a ∧ xs = [] ∧ a.length ≤ 5592405 ∧ Q (.str (Txt.upper a)) H) (.str x) [] M Q := fun F H v vs m a r QV k => by
  cases a; cases r
  exact ⟨x, rfl, rfl, hz, k _ M _ H q (Go.refl m) (.str _)⟩
theorem dm_join {x : Str} {ys : List Str} (hz : (ys.map (·.length)).sum + ys.length * x.length ≤ 16777216) (q : Q (.str (Txt.join x ys)) M) : DM K (fun x xs H Q => ∃ a p, ∃ ys : List Str, x = .str a ∧ xs = [.ref p] ∧ (SqL K H p (ys.map V.str) ∨ SqT K H p (ys.map V.str)) ∧
    (ys.map (·.length)).sum + ys.length * a.length ≤ 16777216 ∧ Q (.str (Txt.join a ys)) H) (.str x) [.lst (ys.map D.str)] M Q := fun F H v vs m a r QV k => by
  cases a
  cases r with
  | cons b r =>
    cases r
    cases b with
    | lst s r =>
      obtain rfl := RepL.of_strs r
      exact ⟨x, _, ys, rfl, rfl, .inl (vis_le.seq s), hz, k _ M _ H q (Go.refl m) (.str _)⟩
/-! ### texts compared -/
theorem dr_leS {x y : Str} (q : Q (.bl (!decide (y.cps.toList < x.cps.toList))) M) : DR K (fun x y H Q => ∃ i j, x = .str i ∧ y = .str j ∧ Q (.bl (!decide (j.cps.toList < i.cps.toList))) H) (.str x) (.str y) M Q := fun F H v u m a b QV k => by
  cases a; cases b
  exact ⟨x, y, rfl, rfl, k _ M _ H q (Go.refl m) (.bl _)⟩
theorem dr_inS {c : Nat} {y : Str} (q : Q (.bl (decide (c ∈ y.cps.toList))) M) : DR K (fun x y H Q => ∃ (c : Nat) (z : Str), x = .str ⟨#[c]⟩ ∧ y = .str z ∧ Q (.bl (decide (c ∈ z.cps.toList))) H) (.str ⟨#[c]⟩) (.str y) M Q := fun F H v u m a b QV k => by
  cases a; cases b
  exact ⟨c, y, rfl, rfl, k _ M _ H q (Go.refl m) (.bl _)⟩
/-- {} -/
theorem de_dnew (q : Q (.dic []) M) : DE K tDNewK δ M Q := fun F σ H en m QV k => fun p hp => by
  obtain ⟨g, e⟩ := go_new (o := .dK []) m hp
  exact k _ M _ _ q g (.dic (.inl e) .nil)
end
end DL

set_option Elab.async false
set_option linter.all false
set_option maxRecDepth 100000
set_option maxHeartbeats 4000000
/-! defs of the text with their promises, the law's end -/
namespace DL
open PySem PySem.Spec PyProof.Rows L2
abbrev PT0 := List D → Mem → (D → Mem → Prop) → Prop
/-- the def x of the text stands behind the top -/
structure Tx (K : PySem.W.Frag) (mg : Str → Option Value) (x : Str) (st : Stmt) : Prop where
  ex : ∃ (f : Addr) (fd : FuncData), Fun K x x st f fd ∧ mg x = some (.ref f)
/-- it keeps its promise -/
structure Df (P : Program) (w : World) (K : PySem.W.Frag) (mg : Str → Option Value) (base : Heap) (k : Nat) (x : Str) (ps : List Str) (p : PT0) : Prop where
  ex : ∃ (f : Addr) (fd : FuncData), FnOk P w K mg base CX0 k f fd ps (spD K p) ∧ mg x = some (.ref f) ∧ PySem.W.keepIn K (.ref f) = true ∧ Binds K fd ps [] ∧ ∃ oc od osl, K.lookup f = some ⟨oc, od, .func fd, osl⟩
theorem tx_mk {K : PySem.W.Frag} {mg : Str → Option Value} {x : Str} {st : Stmt} {f : Addr} {oc : Value} {od an : Option Addr} {osl : Array (Option Value)} {kV doc pm cdv ct : Value} (l : K.lookup f = some ⟨oc, od, .func (PySem.W.fnOf x x (defArgs st) (defBody st) (defScope st) .none kV doc pm an cdv ct), osl⟩)
    (c : PySem.W.codeIn K cdv x = true) (k : PySem.W.keepIn K (.ref f) = true) (g : mg x = some (.ref f)) : Tx K mg x st := ⟨f, _, fun_mk l c k, g⟩
section
variable {P : Program} {w : World} {K : PySem.W.Frag} {mg : Str → Option Value} {base : Heap}
theorem df_ok {x : Str} {st : Stmt} {N ps : List Str} {k : Nat} {p : PT0} (T : Tx K mg x st) (S : FnScope N ps (defScope st)) (len : ∀ ds M R, p ds M R → ds.length = ps.length)
    (hb : ∀ (kV doc pm : Value) (an : Option Addr) (cdv ct : Value) (us : List Value), us.length = ps.length → bindArgs (PySem.W.fnOf x x (defArgs st) (defBody st) (defScope st) .none kV doc pm an cdv ct) ⟨us, []⟩ = pure (ps.zip us))
    (body : ∀ (cdv : Value) (A : Around) (outer : List Env) (s : Shared) (H : Hp) (E : XK) {f : Addr}, Room k (A.deeper (envOfC x (defScope st) s.heap.objs.size f cdv)) →
      ∃ t, PSs (cxOf CX0 P w K mg base N x (defScope st) f cdv A outer s H E).nox (defBody st) t ∧ ∀ ds M R, p ds M R → DS K t (ds.map some ++ List.replicate (N.length - ds.length) none) M { nx := fun _ M' => R .non M', rt := R }) :
    Df P w K mg base (k + 1) x ps p := by
  obtain ⟨f, fd, Fu, g⟩ := T.ex
  have b := Fu.binds (ps := ps) hb
  have kp := Fu.kp
  have G := fun_ok (P := P) (w := w) (mg := mg) (base := base) (k := k) (p := p) Fu S len (fun cdv A outer s H E hr => body cdv A outer s H E hr)
  obtain ⟨oc, od, kV, doc, pm, an, cdv, ct, osl, rfl, lk, _⟩ := Fu.ex
  exact ⟨f, _, G, g, kp, b, oc, od, osl, lk⟩
end
section
variable {X : Cx} {K : PySem.W.Frag} {P : Program} {w : World} {mg : Str → Option Value} {base : Heap} {k : Nat} {x : Str} {ps : List Str} {p : PT0} {e a b l : Expr} {es : List Expr} {t : TA} {ta tb tl : TE} {pp pos : Pos}
/-- the context is one over these -/
structure Is (X : Cx) (P : Program) (w : World) (K : PySem.W.Frag) (mg : Str → Option Value) (base : Heap) : Prop where
  p : X.prog = P
  w : X.w = w
  k : X.K = K
  m : X.mg = mg
  b : X.base = base
theorem pe_callD (h : Df P w K mg base k x ps p) (hr : Room k X.A) (hg : Gl X x) (ha : PA X (e :: es) t) (hX : Is X P w K mg base := by exact ⟨rfl, rfl, rfl, rfl, rfl⟩) (hd : (x == ("__debug__" : Str)) = false := by decide) (hpl : (backTo pos (starEach es X.env)).any (·.1) = false := by rfl)
    (hne : starEach (e :: es) X.env = (false, eval e X.env) :: starEach es X.env := by rfl) : PE X (.Call (.Name x pp) (e :: es) [] pos) (tCall (spD K p) [] E0 t) := by
  obtain ⟨rfl, rfl, rfl, rfl, rfl⟩ := hX
  obtain ⟨f, fd, G, g, kp, b, _⟩ := h.ex
  exact pe_call (hdb := hd) (he := hne) (hpl := hpl) G hr hg g kp b .nil pass0 ha
theorem pe_callD0 (h : Df P w K mg base k x ps p) (hr : Room k X.A) (hg : Gl X x) (hX : Is X P w K mg base := by exact ⟨rfl, rfl, rfl, rfl, rfl⟩) (hd : (x == ("__debug__" : Str)) = false := by decide) : PE X (.Call (.Name x pp) [] [] pos) (tCall (spD K p) [] E0 tNil) := by
  obtain ⟨rfl, rfl, rfl, rfl, rfl⟩ := hX
  obtain ⟨f, fd, G, g, kp, b, _⟩ := h.ex
  exact pe_call0 (hdb := hd) G hr hg g kp b .nil pass0
/-! rules that name the written part, with its name given -/
theorem op_addK (K : PySem.W.Frag) (h : X.K = K := by rfl) : OpR X (binaryOp .Add) (rAddA K) := by subst h; exact op_addA
theorem op_eqK (K : PySem.W.Frag) (hu : X.A.units + 64 < cLine) (h : X.K = K := by rfl) : OpR X (compareOp .Eq) (rEqD K) := by subst h; exact op_eqD hu
theorem op_neK (K : PySem.W.Frag) (hu : X.A.units + 64 < cLine) (h : X.K = K := by rfl) : OpR X (compareOp .NotEq) (rNeD K) := by subst h; exact op_neD hu
theorem op_inK (K : PySem.W.Frag) (h : X.K = K := by rfl) : OpR X (compareOp .In) (rIn K false) := by subst h; exact op_in_seq
theorem op_ninK (K : PySem.W.Frag) (h : X.K = K := by rfl) : OpR X (compareOp .NotIn) (rIn K true) := by subst h; exact op_notIn_seq
theorem ix_K (K : PySem.W.Frag) (h : X.K = K := by rfl) : IxR X (rIx K) := by subst h; exact ix_seq
theorem call_lenK (K : PySem.W.Frag) (h : X.K = K := by rfl) : CallR X (.builtin "len") (fun xs H Q => ∃ x n, xs = [x] ∧ LenV K x H n ∧ Q (.int n) H) := by subst h; exact call_len
theorem call_isiKK (K : PySem.W.Frag) (h : X.K = K := by rfl) : CallR X (.builtin "isinstance") (rIsi K) := by subst h; exact call_isi
theorem call_allK (K : PySem.W.Frag) (hc : X.calm = true := by rfl) (h : X.K = K := by rfl) : CallR X (.builtin "all") (rAll K) := by subst h; exact cr_all hc
theorem call_anyK (K : PySem.W.Frag) (hc : X.calm = true := by rfl) (h : X.K = K := by rfl) : CallR X (.builtin "any") (rAny K) := by subst h; exact cr_any hc
theorem pi_listK (K : PySem.W.Frag) {tg : Expr} (hl : PE X l tl) (h : X.K = K := by rfl) : PI X tg l (iList K tl) := by subst h; exact pi_list hl
theorem pi_tupK (K : PySem.W.Frag) {tg : Expr} (hl : PE X l tl) (h : X.K = K := by rfl) : PI X tg l (iTup K tl) := by subst h; exact pi_tup hl
theorem pg_tupK (K : PySem.W.Frag) {gs : List Expr} {n : Nat} {kk : Nat} {tt : TGs} (hc : X.calm = true) (hs : PGs X gs tt) (hn : (assignEach gs X.env).length = n := by rfl) (hst : (assignEach gs X.env).findIdx? (·.1) = none := by rfl) (h : X.K = K := by rfl) : PG X (.Tuple gs kk pos) (gTup K n tt) := by subst h; exact pg_tup hc hs hn hst
theorem pt_truK (K : PySem.W.Frag) (ha : PE X a ta) (he : ∀ whole, isTrue a X.env whole = (do let v ← whole; standAt a.pos; holding [v] (truthy v))) (h : X.K = K := by rfl) : PT X a (tTru K ta) := by subst h; exact pt_tru ha he
theorem pe_joinK (K : PySem.W.Frag) {apos : Pos} (ho : PE X a ta) (he : PE X b tb) (hs : starEach [b] X.env = [(false, eval b X.env)] := by rfl) (hbase : attributeBase a "join" X.env (eval a X.env) = eval a X.env := by rfl) (hline : (apos.endLine == pos.line) = true := by rfl) (h : X.K = K := by rfl) :
    PE X (.Call (.Attribute a "join" apos) [b] [] pos) (tM1 (fun x xs H Q => ∃ a p, ∃ ys : List Str, x = .str a ∧ xs = [.ref p] ∧ (SqL K H p (ys.map V.str) ∨ SqT K H p (ys.map V.str)) ∧
      (ys.map (·.length)).sum + ys.length * a.length ≤ 16777216 ∧ Q (.str (Txt.join a ys)) H) ta tb) := by subst h; exact pe_join ho he hs hbase hline
end
/-- a constant of the module -/
def GlK (mg : Str → Option Value) (x : Str) (v : V) : Prop := ∃ u, mg x = some u ∧ RelV v u
theorem pe_globK {X : Cx} {mg : Str → Option Value} {x : Str} {v : V} {pos : Pos} (h : GlK mg x v) (hg : Gl X x) (hm : X.mg = mg := by rfl) (hd : (x == ("__debug__" : Str)) = false := by decide) : PE X (.Name x pos) (tC v) := by
  subst hm
  obtain ⟨u, h1, h2⟩ := h
  exact pe_glob hg h1 h2 hd
/-! ### the law's end -/
def p_law : PT0 := fun ds M R => ∃ ns : List Int, ds = [.lst (ns.map D.int)] ∧ ns.length ≤ 63 ∧ (∀ a, M a = none) ∧ ∀ M', R (.bl true) M'
def spLaw (K : PySem.W.Frag) : Sp := fun vs H Q _ => ∃ (a : Addr) (ns : List Int), vs = [.ref a] ∧ SqL K H a (ns.map V.int) ∧ ns.length ≤ 63 ∧ Only H ∧ ∀ H', Q (.bl true) H'
theorem law_end {P : Program} {w : World} {K : PySem.W.Frag} {mg : Str → Option Value} {base : Heap} {k : Nat} {x : Str} {ps : List Str} {f : Addr} {fd : FuncData} {oc : Value} {od : Option Addr} {osl : Array (Option Value)} (h : Df P w K mg base k x ps p_law) (g : mg x = some (.ref f))
    (l : K.lookup f = some ⟨oc, od, .func fd, osl⟩) : FnOk P w K mg base CX0 k f fd ps (spLaw K) := by
  obtain ⟨f', fd', G, g', _, _, oc', od', osl', l'⟩ := h.ex
  rw [g] at g'
  cases g'
  rw [l] at l'
  cases l'
  refine G.imp fun vs H Q E h => ?_
  obtain ⟨a, ns, rfl, hS, hl, ho, q⟩ := h
  have em : Same H (vis H (fun _ => none) (fun _ => false)) := fun b o e => vis_mk e rfl rfl
  refine ⟨fun _ => false, fun _ => none, [.lst (ns.map D.int)], fun d M => d = .bl true, .cons (.lst (em.seq hS) (RepL.ints ns)) .nil, ⟨fun b hb => (nomatch hb), fun a m hm => (nomatch hm)⟩, ⟨ns, rfl, hl, fun _ => rfl, fun _ => rfl⟩, fun d M' v H' hd _ r => ?_⟩
  subst hd
  cases r
  exact q H'
theorem sz_and {n : Nat} {P : Prop} (h : n ≤ 1000000) (q : P) : n ≤ sizeLine ∧ P := ⟨by rw [sizeLine_eq]; omega, q⟩
theorem ex_str {a : Str} {P : Str → Prop} (h : P a) : ∃ x, D.str a = .str x ∧ P x := ⟨a, rfl, h⟩
theorem ex_lst {a : List D} {P : List D → Prop} (h : P a) : ∃ x, D.lst a = .lst x ∧ P x := ⟨a, rfl, h⟩
theorem ex_tup {a : List D} {P : List D → Prop} (h : P a) : ∃ x, D.tup a = .tup x ∧ P x := ⟨a, rfl, h⟩
theorem ex_int {a : Int} {P : Int → Prop} (h : P a) : ∃ x, D.int a = .int x ∧ P x := ⟨a, rfl, h⟩
theorem ex_i1 {a : Int} {P : Int → Prop} (h : P a) : ∃ x, [D.int a] = [.int x] ∧ P x := ⟨a, rfl, h⟩
theorem ex_i2 {a b : Int} {P : Int → Int → Prop} (h : P a b) : ∃ x y, [D.int a, D.int b] = [.int x, .int y] ∧ P x y := ⟨a, b, rfl, h⟩
theorem ex_p2 {a b : D} {P : D → D → Prop} (h : P a b) : ∃ x y, [a, b] = [x, y] ∧ P x y := ⟨a, b, rfl, h⟩
theorem ex_s0 {a : Str} : ∃ x, D.str a = .str x := ⟨a, rfl⟩
theorem tru_bl {b : Bool} {P : Bool → Prop} (h : P b) : ∃ k, truD (.bl b) = some k ∧ (∀ x, D.bl b = .str x → x.length ≤ sizeLine) ∧ P k := ⟨b, rfl, (fun _ e => nomatch e), h⟩
theorem tru_int {b : Int} {P : Bool → Prop} (h : P (b != 0)) : ∃ k, truD (.int b) = some k ∧ (∀ x, D.int b = .str x → x.length ≤ sizeLine) ∧ P k := ⟨_, rfl, (fun _ e => nomatch e), h⟩
theorem tru_non {P : Bool → Prop} (h : P false) : ∃ k, truD .non = some k ∧ (∀ x, D.non = .str x → x.length ≤ sizeLine) ∧ P k := ⟨_, rfl, (fun _ e => nomatch e), h⟩
theorem tru_lst {b : List D} {P : Bool → Prop} (h : P (!b.isEmpty)) : ∃ k, truD (.lst b) = some k ∧ (∀ x, D.lst b = .str x → x.length ≤ sizeLine) ∧ P k := ⟨_, rfl, (fun _ e => nomatch e), h⟩
theorem tru_tup {b : List D} {P : Bool → Prop} (h : P (!b.isEmpty)) : ∃ k, truD (.tup b) = some k ∧ (∀ x, D.tup b = .str x → x.length ≤ sizeLine) ∧ P k := ⟨_, rfl, (fun _ e => nomatch e), h⟩
theorem dg_ex {K : PySem.W.Frag} {js : List Nat} {g : TG} {d : D} {δ : En} {M : Mem} {G : En → Mem → Prop} (h : DG K js g d δ M G) : ∃ js, DG K js g d δ M G := ⟨js, h⟩
theorem atI_in {α : Type} {l : List α} {i : Int} (a : 0 ≤ i) (b : i < (l.length : Int)) : ∃ x, atI l i = some x ∧ x ∈ l := by
  obtain ⟨j, rfl⟩ := Int.eq_ofNat_of_zero_le a
  have hl : j < l.length := by omega
  exact ⟨l[j], atI_nat (List.getElem?_eq_getElem hl), List.getElem_mem hl⟩
/-! ### steps -/
section
variable {K : PySem.W.Frag} {δ : En} {M : Mem} {Q : D → Mem → Prop} {d e : D}
theorem de_varE {i : Nat} (h : ∃ d, δ[i]? = some (some d) ∧ Q d M) : DE K (tVar i) δ M Q := let ⟨_, a, b⟩ := h; de_var a b
theorem dr_IE {C : Int → Int → Prop} {f : Int → Int → Int} {i j : Int} (h : C i j ∧ Q (.int (f i j)) M) : DR K (rI C fun i j => .int (f i j)) (.int i) (.int j) M Q := dr_I h.1 h.2
theorem dr_ixDE0 {p : Addr} (h : M p = some .die ∧ ∀ i : Int, Q (.int i) M) : DR K (rIx K) (.raw (.ref p)) (.int 0) M Q := dr_ixD0 h.1 h.2
theorem dr_ixDE1 {p : Addr} (h : M p = some .die ∧ ∀ i : Int, Q (.int i) M) : DR K (rIx K) (.raw (.ref p)) (.int 1) M Q := dr_ixD1 h.1 h.2
theorem dr_ixDE2 {p : Addr} (h : M p = some .die ∧ ∀ i : Int, Q (.int i) M) : DR K (rIx K) (.raw (.ref p)) (.int 2) M Q := dr_ixD2 h.1 h.2
theorem dc_lenE (h : ∃ n : Nat, lenD d = some n ∧ (∀ x, d = .str x → x.length ≤ sizeLine) ∧ Q (.int (n : Int)) M) : DC K (fun xs H Q => ∃ x n, xs = [x] ∧ LenV K x H n ∧ Q (.int n) H) [d] M Q := let ⟨_, a, b, c⟩ := h; dc_len a b c
theorem dc_len_lst {xs : List D} (h : Q (.int (xs.length : Int)) M) : DC K (fun xs H Q => ∃ x n, xs = [x] ∧ LenV K x H n ∧ Q (.int n) H) [.lst xs] M Q := dc_len (n := xs.length) rfl (fun _ e => nomatch e) h
theorem dc_len_tup {xs : List D} (h : Q (.int (xs.length : Int)) M) : DC K (fun xs H Q => ∃ x n, xs = [x] ∧ LenV K x H n ∧ Q (.int n) H) [.tup xs] M Q := dc_len (n := xs.length) rfl (fun _ e => nomatch e) h
theorem dc_len_str {x : Str} (h : x.length ≤ sizeLine ∧ Q (.int (x.length : Int)) M) : DC K (fun xs H Q => ∃ x n, xs = [x] ∧ LenV K x H n ∧ Q (.int n) H) [.str x] M Q := dc_len (n := x.length) rfl (fun _ e => by cases e; exact h.1) h.2
theorem dr_ixLE {xs : List D} {i : Int} (h : ∃ d, atI xs i = some d ∧ Q d M) : DR K (rIx K) (.lst xs) (.int i) M Q := let ⟨_, a, b⟩ := h; dr_ixL a b
theorem dr_ixTE {xs : List D} {i : Int} (h : ∃ d, atI xs i = some d ∧ Q d M) : DR K (rIx K) (.tup xs) (.int i) M Q := let ⟨_, a, b⟩ := h; dr_ixT a b
theorem dr_ixSE {x : Str} {i : Int} (h : ∃ c, x.length ≤ sizeLine ∧ atI x.cps.toList i = some c ∧ Q (.str ⟨#[c]⟩) M) : DR K (rIx K) (.str x) (.int i) M Q := let ⟨_, a, b, c⟩ := h; dr_ixS a b c
theorem dr_addSE {i j : Str} (h : i.length + j.length ≤ sizeLine ∧ Q (.str (i ++ j)) M) : DR K (rAddA K) (.str i) (.str j) M Q := dr_addS h.1 h.2
theorem dr_addLE {xs ys : List D} (h : xs.length + ys.length ≤ sizeLine ∧ Q (.lst (xs ++ ys)) M) : DR K (rAddA K) (.lst xs) (.lst ys) M Q := dr_addL h.1 h.2
theorem dr_eqDE (h : ∃ x y, toPy d = some x ∧ toPy e = some y ∧ SeqAt.shaped x = true ∧ SeqAt.shaped y = true ∧ Q (.bl (PyData.eqv x y)) M) : DR K (rEqD K) d e M Q := let ⟨_, _, a, b, c, f, g⟩ := h; dr_eqD a b c f g
theorem dr_neDE (h : ∃ x y, toPy d = some x ∧ toPy e = some y ∧ SeqAt.shaped x = true ∧ SeqAt.shaped y = true ∧ Q (.bl (!PyData.eqv x y)) M) : DR K (rNeD K) d e M Q := let ⟨_, _, a, b, c, f, g⟩ := h; dr_neD a b c f g
theorem dc_isiE {U : String} (h : ∃ T b, tyD d = some T ∧ kitB T U = some b ∧ Q (.bl b) M) : DC K (rIsi K) [d, .raw (.ty U)] M Q := let ⟨_, _, a, b, c⟩ := h; dc_isi a b c
theorem dc_allE {d : D} (h : ∃ bs : List Bool, d = .lst (bs.map D.bl) ∧ Q (.bl (bs.all id)) M) : DC K (rAll K) [d] M Q := let ⟨_, a, b⟩ := h; dc_all a b
end
theorem ite_b {b : Bool} {A B : Prop} (h1 : b = true → A) (h2 : b = false → B) : if b = true then A else B := by
  cases b with
  | true => rw [if_pos rfl]; exact h1 rfl
  | false => rw [if_neg Bool.false_ne_true]; exact h2 rfl
theorem ite_d {p : Prop} [Decidable p] {A B : Prop} (h1 : p → A) (h2 : ¬ p → B) : if decide p = true then A else B := ite_b (fun h => h1 (of_decide_eq_true h)) fun h => h2 (of_decide_eq_false h)
theorem ite_dn {p : Prop} [Decidable p] {A B : Prop} (h1 : ¬ p → A) (h2 : p → B) : if (!decide p) = true then A else B := ite_b (fun h => h1 (of_decide_eq_false (by simpa using h))) fun h => h2 (of_decide_eq_true (by simpa using h))
theorem ite_nn {b : Bool} {A B : Prop} (h : if b = true then B else A) : if (!b) = true then A else B := by cases b <;> exact h
theorem ite_1 {A B : Prop} (h : A) : if true = true then A else B := by rw [if_pos rfl]; exact h
theorem ite_0 {A B : Prop} (h : B) : if false = true then A else B := by rw [if_neg Bool.false_ne_true]; exact h
end DL

set_option Elab.async false
set_option linter.all false
set_option maxRecDepth 100000
set_option maxHeartbeats 4000000
/-! comprehensions and loops in the usual forms -/
namespace DL
open PySem PySem.Spec PyProof.Rows L2
section
variable {K : PySem.W.Frag} {δ : En} {M : Mem} {Q : D → Mem → Prop} {te : TE} {tt : TT} {wi : TI} {vs : List Nat} {j : Nat} {t : TS} {q : DK}
theorem take_snoc {α : Type} {l : List α} {i : Nat} {x : α} (h : l[i]? = some x) : l.take (i + 1) = l.take i ++ [x] := by
  rw [List.take_add_one, h]
  rfl
theorem take_lt {α : Type} {l : List α} {i : Nat} {x : α} (h : l[i]? = some x) : i < l.length := (List.getElem?_eq_some_iff.mp h).1
theorem mem_of_get {α : Type} {l : List α} {i : Nat} {x : α} (h : l[i]? = some x) : x ∈ l := List.mem_of_getElem? h
/-- [e for x in xs], e a function of x -/
theorem de_map (hj : j ∈ vs) (h : DI K wi δ M fun ds M1 => ds.length < sizeLine ∧ ∃ f : D → D, (∀ d, d ∈ ds → DE K te ((wipeD δ vs).set j (some d)) M1 fun e M4 => M4 = M1 ∧ e = f d) ∧ Q (.lst (ds.map f)) M1) : DE K (tLc wi (gName j) tYes te vs) δ M Q := by
  refine de_lc (js := [j]) (fun i hi => by rw [List.mem_singleton] at hi; rw [hi]; exact hj) ?_
  intro F σ H en m R k
  refine h F σ H en m R fun ds M1 J H1 z => k ds M1 J H1 ?_
  obtain ⟨hz, f, hf, q⟩ := z
  refine ⟨fun i acc => acc = (ds.take i).map f, rfl, fun i d acc hd hacc => dg_name ⟨rfl, dt_yes ⟨rfl, ?_⟩⟩, fun acc hacc => ?_⟩
  · rw [if_pos rfl]
    refine (hf d (mem_of_get hd)).imp fun e M4 he => ⟨he.1, ?_, ?_⟩
    · have := take_lt hd
      rw [hacc, List.length_map, List.length_take]; omega
    · dsimp only at hacc ⊢
      rw [hacc, he.2, take_snoc hd, List.map_append]; rfl
  · dsimp only at hacc
    rw [hacc, List.take_length]; exact q
/-- .. one of several values -/
theorem de_rel (hj : j ∈ vs) (h : DI K wi δ M fun ds M1 => ds.length < sizeLine ∧ ∃ r : D → D → Prop, (∀ d, d ∈ ds → DE K te ((wipeD δ vs).set j (some d)) M1 fun e M4 => M4 = M1 ∧ r d e) ∧ ∀ es, Paired r ds es → Q (.lst es) M1) : DE K (tLc wi (gName j) tYes te vs) δ M Q := by
  refine de_lc (js := [j]) (fun i hi => by rw [List.mem_singleton] at hi; rw [hi]; exact hj) ?_
  intro F σ H en m R k
  refine h F σ H en m R fun ds M1 J H1 z => k ds M1 J H1 ?_
  obtain ⟨hz, r, hf, q⟩ := z
  refine ⟨fun i acc => Paired r (ds.take i) acc, .nil, fun i d acc hd hacc => dg_name ⟨rfl, dt_yes ⟨rfl, ?_⟩⟩, fun acc hacc => ?_⟩
  · rw [if_pos rfl]
    refine (hf d (mem_of_get hd)).imp fun e M4 he => ⟨he.1, ?_, ?_⟩
    · have := take_lt hd
      have := Paired.length hacc
      rw [List.length_take] at this; omega
    · dsimp only at hacc ⊢
      rw [take_snoc hd]
      exact pair_snoc hacc he.2
  · dsimp only at hacc
    rw [List.take_length] at hacc; exact q acc hacc
where
  pair_snoc {α β : Type} {r : α → β → Prop} : ∀ {xs : List α} {ys : List β} {x : α} {y : β}, Paired r xs ys → r x y → Paired r (xs ++ [x]) (ys ++ [y])
    | _, _, _, _, .nil, h => .cons h .nil
    | _, _, _, _, .cons a b, h => .cons a (pair_snoc b h)
/-- [e for x in xs if c] -/
theorem de_filt (hj : j ∈ vs) (h : DI K wi δ M fun ds M1 => ds.length < sizeLine ∧ ∃ (c : D → Bool) (f : D → D), (∀ d, d ∈ ds → DT K tt ((wipeD δ vs).set j (some d)) M1 fun b M3 => M3 = M1 ∧ b = c d) ∧ (∀ d, d ∈ ds → c d = true → DE K te ((wipeD δ vs).set j (some d)) M1 fun e M4 => M4 = M1 ∧ e = f d) ∧ Q (.lst ((ds.filter c).map f)) M1) : DE K (tLc wi (gName j) tt te vs) δ M Q := by
  refine de_lc (js := [j]) (fun i hi => by rw [List.mem_singleton] at hi; rw [hi]; exact hj) ?_
  intro F σ H en m R k
  refine h F σ H en m R fun ds M1 J H1 z => k ds M1 J H1 ?_
  obtain ⟨hz, c, f, hc, hf, q⟩ := z
  refine ⟨fun i acc => acc = ((ds.take i).filter c).map f, rfl, fun i d acc hd hacc => dg_name ⟨rfl, (hc d (mem_of_get hd)).imp fun b M3 hb => ⟨hb.1, ?_⟩⟩, fun acc hacc => ?_⟩
  · obtain ⟨_, hb⟩ := hb
    cases b with
    | true =>
      rw [if_pos rfl]
      refine (hf d (mem_of_get hd) hb.symm).imp fun e M4 he => ⟨he.1, ?_, ?_⟩
      · have := take_lt hd
        have h2 := List.length_filter_le c (ds.take i)
        rw [List.length_take] at h2
        rw [hacc, List.length_map]; omega
      · dsimp only at hacc ⊢
        rw [hacc, he.2, take_snoc hd, List.filter_append, List.map_append]
        simp [← hb]
    | false =>
      rw [if_neg Bool.false_ne_true]
      dsimp only at hacc ⊢
      rw [hacc, take_snoc hd, List.filter_append, List.map_append]
      simp [← hb]
  · dsimp only at hacc
    rw [hacc, List.take_length]; exact q
/-- a loop that keeps a word; the slot of its target and all that it stores beside: known no more, unless the word says so -/
theorem ds_forN (h : DI K wi δ M fun ds M1 => ∃ Pv : Nat → En → Mem → Prop, Pv 0 δ M1 ∧ (∀ i d δ' M', ds[i]? = some d → Pv i δ' M' → DS K t (δ'.set j (some d)) M' { q with nx := Pv (i + 1), ct := Pv (i + 1), bk := q.nx }) ∧ ∀ δ' M', Pv ds.length δ' M' → q.nx δ' M') : DS K (tFor wi (gName j) t) δ M q := by
  refine ds_for (js := [j]) ?_
  intro F σ H en m R k
  refine h F σ H en m R fun ds M1 J H1 z => k ds M1 J H1 ?_
  obtain ⟨Pv, p0, pt, pe⟩ := z
  exact ⟨Pv, p0, fun i d δ' M' hd pv => dg_name (pt i d δ' M' hd pv), pe⟩
theorem weakD {G : Hp} {σ : Sg} {δ : En} (r : EnvR K G σ δ) : ∀ js : List Nat, EnvR K G σ (wipeD δ js) := by
  have one : ∀ (δ : En) (j : Nat), EnvR K G σ δ → EnvR K G σ (δ.set j none) := fun δ j r => by
    refine ⟨by rw [List.length_set]; exact r.1, fun i d h => ?_⟩
    by_cases hj : j = i
    · subst hj
      by_cases hl : j < δ.length
      · rw [List.getElem?_set_self hl] at h; cases h
      · rw [List.getElem?_eq_none (by rw [List.length_set]; omega)] at h; cases h
    · rw [List.getElem?_set_ne hj] at h
      exact r.2 i d h
  intro js
  induction js with
  | nil => exact r
  | cons j js ih => exact one _ j ih
/-- slots may be forgotten behind a statement -/
theorem ds_fgt (js : List Nat) (h : DS K t δ M { q with nx := fun δ2 M2 => q.nx (wipeD δ2 js) M2, ct := fun δ2 M2 => q.ct (wipeD δ2 js) M2, bk := fun δ2 M2 => q.bk (wipeD δ2 js) M2 }) : DS K t δ M q := fun F σ H en m E n r b c =>
  h F σ H en m E (fun δ' M' σ' H' z g e => n _ M' σ' H' z g (weakD e js)) r (fun δ' M' σ' H' z g e => b _ M' σ' H' z g (weakD e js)) (fun δ' M' σ' H' z g e => c _ M' σ' H' z g (weakD e js))
/-- .. ahead of one -/
theorem ds_fgt0 (js : List Nat) (h : DS K t (wipeD δ js) M q) : DS K t δ M q := fun F σ H en m E n r b c => h F σ H (weakD en js) m E n r b c
/-- a loop whose turns store in the slots js alone what nobody asks later, and change nothing else -/
theorem ds_for1 (js : List Nat) (h : DI K wi (wipeD δ js) M fun ds M1 => (∀ d, d ∈ ds → DS K t ((wipeD δ js).set j (some d)) M1 { q with nx := fun δ2 M2 => wipeD δ2 js = wipeD δ js ∧ M2 = M1, ct := fun δ2 M2 => wipeD δ2 js = wipeD δ js ∧ M2 = M1, bk := fun δ2 M2 => q.nx (wipeD δ2 js) M2 }) ∧ q.nx (wipeD δ js) M1) : DS K (tFor wi (gName j) t) δ M q := by
  refine ds_fgt0 js (ds_forN ?_)
  intro F σ H en m R k
  refine h F σ H en m R fun ds M1 J H1 z => k ds M1 J H1 ?_
  obtain ⟨ht, he⟩ := z
  refine ⟨fun i δ' M' => δ' = wipeD δ js ∧ M' = M1, ⟨rfl, rfl⟩, fun i d δ' M' hd pv => ?_, fun δ' M' pv => ?_⟩
  · obtain ⟨rfl, rfl⟩ := pv
    exact ds_fgt js ((ht d (mem_of_get hd)).imp (fun _ _ z => z) (fun _ _ z => z) (fun _ _ z => z) (fun _ _ z => z))
  · obtain ⟨rfl, rfl⟩ := pv
    exact he
/-- .. that keep a word about the memory -/
theorem ds_forM (js : List Nat) (W : Mem → Prop) (h : DI K wi (wipeD δ js) M fun ds M1 => W M1 ∧ (∀ d, d ∈ ds → ∀ M2, W M2 → DS K t ((wipeD δ js).set j (some d)) M2 { q with nx := fun δ2 M3 => wipeD δ2 js = wipeD δ js ∧ W M3, ct := fun δ2 M3 => wipeD δ2 js = wipeD δ js ∧ W M3, bk := fun δ2 M3 => q.nx (wipeD δ2 js) M3 }) ∧ ∀ M2, W M2 → q.nx (wipeD δ js) M2) : DS K (tFor wi (gName j) t) δ M q := by
  refine ds_fgt0 js (ds_forN ?_)
  intro F σ H en m R k
  refine h F σ H en m R fun ds M1 J H1 z => k ds M1 J H1 ?_
  obtain ⟨w0, ht, he⟩ := z
  refine ⟨fun i δ' M' => δ' = wipeD δ js ∧ W M', ⟨rfl, w0⟩, fun i d δ' M' hd pv => ?_, fun δ' M' pv => ?_⟩
  · obtain ⟨rfl, w⟩ := pv
    exact ds_fgt js ((ht d (mem_of_get hd) M' w).imp (fun _ _ z => z) (fun _ _ z => z) (fun _ _ z => z) (fun _ _ z => z))
  · obtain ⟨rfl, w⟩ := pv
    exact he M' w
end
end DL

set_option Elab.async false
set_option linter.all false
set_option maxRecDepth 100000
set_option maxHeartbeats 4000000
namespace K01
open PySem PySem.Spec PyProof.Rows L2 DL
def topS (i : Nat) : Stmt := PySem.Challenge.pw_handedworld_k01_names.main.body.getD i (.Pass ⟨0, 0, 0, 0⟩)
abbrev s_is_name : Stmt := topS 3
abbrev N_is_name : List Str := ["value", "letter"]
theorem sc_is_name : FnScope N_is_name ["value"] (defScope s_is_name) := ⟨rfl, rfl, rfl, by decide +kernel, rfl, by decide +kernel, by decide +kernel⟩
abbrev s__law_numbers : Stmt := topS 5
abbrev N__law_numbers : List Str := ["_law_script", "_law_at", "_law_cell", "_law_whole", "_law_mixed"]
theorem sc__law_numbers : FnScope N__law_numbers ["_law_script", "_law_at"] (defScope s__law_numbers) := ⟨rfl, rfl, rfl, by decide +kernel, rfl, by decide +kernel, by decide +kernel⟩
abbrev s__law_cast : Stmt := topS 6
abbrev N__law_cast : List Str := ["_law_die", "_law_total", "_law_found", "_law_one", "_law_two"]
theorem sc__law_cast : FnScope N__law_cast ["_law_die", "_law_total"] (defScope s__law_cast) := ⟨rfl, rfl, rfl, by decide +kernel, rfl, by decide +kernel, by decide +kernel⟩
abbrev s__law_pick : Stmt := topS 7
abbrev N__law_pick : List Str := ["_law_die", "_law_items"]
theorem sc__law_pick : FnScope N__law_pick ["_law_die", "_law_items"] (defScope s__law_pick) := ⟨rfl, rfl, rfl, by decide +kernel, rfl, by decide +kernel, by decide +kernel⟩
abbrev s__law_is_word : Stmt := topS 8
abbrev N__law_is_word : List Str := ["_law_value", "_law_one"]
theorem sc__law_is_word : FnScope N__law_is_word ["_law_value"] (defScope s__law_is_word) := ⟨rfl, rfl, rfl, by decide +kernel, rfl, by decide +kernel, by decide +kernel⟩
abbrev s__law_odd_one : Stmt := topS 9
abbrev N__law_odd_one : List Str := ["_law_die", "_law_some"]
theorem sc__law_odd_one : FnScope N__law_odd_one ["_law_die"] (defScope s__law_odd_one) := ⟨rfl, rfl, rfl, by decide +kernel, rfl, by decide +kernel, by decide +kernel⟩
abbrev s__law_right : Stmt := topS 10
abbrev N__law_right : List Str := ["_law_die", "_law_letters", "_law_word", "_law_at", "_law_odd", "_law_some", "_law_value", "_law_turn"]
theorem sc__law_right : FnScope N__law_right ["_law_die"] (defScope s__law_right) := ⟨rfl, rfl, rfl, by decide +kernel, rfl, by decide +kernel, by decide +kernel⟩
abbrev s_law : Stmt := topS 11
abbrev N_law : List Str := ["_law_script", "_law_at", "_law_die", "_law_turn", "_law_told", "_law_word"]
theorem sc_law : FnScope N_law ["_law_script"] (defScope s_law) := ⟨rfl, rfl, rfl, by decide +kernel, rfl, by decide +kernel, by decide +kernel⟩
local macro_rules | `(tactic| walk_at "mul") => `(tactic| first | exact Or.inl ⟨by decide, by decide⟩ | exact Or.inr ⟨by decide, by decide⟩ | exact Or.inl ⟨by omega, by omega⟩ | exact Or.inr ⟨by omega, by omega⟩)
local macro_rules | `(tactic| walk_at "dx") => `(tactic| first
  | (with_reducible refine' de_int ?_) | (with_reducible refine' de_bl ?_) | (with_reducible refine' de_non ?_) | (with_reducible refine' de_str ?_)
  | (with_reducible refine' de_varE ?_; refine' ⟨_, rfl, ?_⟩)
  | (with_reducible refine' de_raw ?_) | (with_reducible refine' de_dnew ?_)
  | (with_reducible refine' de_op ?_) | (with_reducible refine' de_un ?_)
  | (with_reducible refine' dr_addI ?_) | (with_reducible refine' dr_I0 ?_) | (with_reducible refine' dr_B0 ?_) | (with_reducible refine' dr_IE ?_; refine' ⟨?_, ?_⟩) | (with_reducible refine' du_I ?_)
  | (with_reducible refine' dt_test' ?_) | (with_reducible refine' dt_B ?_) | (with_reducible refine' dt_not ?_) | (with_reducible refine' dt_and ?_) | (with_reducible refine' dt_or ?_) | (with_reducible refine' dt_tru ?_)
  | (with_reducible refine' isB_mk ?_) | (with_reducible refine' tru_bl ?_) | (with_reducible refine' tru_int ?_) | (with_reducible refine' tru_lst ?_) | (with_reducible refine' tru_tup ?_) | (with_reducible refine' tru_non ?_)
  | (with_reducible refine' ex_str ?_) | (with_reducible refine' ex_lst ?_) | (with_reducible refine' ex_tup ?_) | (with_reducible refine' ex_int ?_) | (with_reducible refine' ex_i1 ?_) | (with_reducible refine' ex_i2 ?_) | (with_reducible refine' ex_p2 ?_)
  | (with_reducible refine' di_list ?_) | (with_reducible refine' di_tup ?_) | (with_reducible refine' di_str ?_) | (with_reducible refine' di_rng1 ?_) | (with_reducible refine' di_rng2 ?_)
  | (with_reducible refine' de_chain ?_) | (with_reducible refine' de_if ?_) | (with_reducible refine' de_andV ?_) | (with_reducible refine' de_orV ?_) | (with_reducible refine' de_notV ?_)
  | (with_reducible refine' da_nil ?_) | (with_reducible refine' da_cons ?_)
  | (with_reducible refine' de_call ?_) | (with_reducible refine' de_CB ?_)
  | (with_reducible refine' ds_next ?_) | (with_reducible refine' ds_seq ?_) | (with_reducible refine' ds_drop ?_) | (with_reducible refine' ds_ret ?_) | (with_reducible refine' ds_retN ?_) | (with_reducible refine' ds_if ?_) | (with_reducible refine' ds_set ?_; dsimp only [List.set_cons_succ, List.set_cons_zero]) | (with_reducible refine' ds_asgx ?_) | (with_reducible refine' ds_par ?_)
  | (with_reducible refine' dg_name ?_; dsimp only [List.set_cons_succ, List.set_cons_zero])
  | (with_reducible refine' dr_ixDE0 ?_; refine' ⟨by assumption, fun i => ?_⟩) | (with_reducible refine' dr_ixDE1 ?_; refine' ⟨by assumption, fun i => ?_⟩) | (with_reducible refine' dr_ixDE2 ?_; refine' ⟨by assumption, fun i => ?_⟩)
  | (with_reducible refine' ite_1 ?_) | (with_reducible refine' ite_0 ?_)
  | (with_reducible refine' ite_d ?_ ?_ <;> intro hb) | (with_reducible refine' ite_nn ?_)
  | (with_reducible refine' dc_len_lst ?_) | (with_reducible refine' dc_len_tup ?_) | (with_reducible refine' dc_abs ?_) | (with_reducible refine' dc_max2 ?_) | (with_reducible refine' dc_min2 ?_) | (with_reducible refine' dc_intI ?_) | (with_reducible refine' dc_intB ?_) | (with_reducible refine' dc_reprB ?_))
/-- all steps that need no word -/
local macro_rules | `(tactic| walk_at "go") => `(tactic| repeat' walk_at "dx")
/-- .. displays of written length too -/
local macro_rules | `(tactic| walk_at "gol") => `(tactic| repeat' first | walk_at "dx" | (with_reducible refine' de_tup ?_) | (with_reducible refine' de_lst ?_) | (with_reducible refine' sz_and ?_ ?_; exact Nat.le_of_ble_eq_true rfl))
local macro_rules | `(tactic| walk_at "x0") => `(tactic| try dsimp only [cxOf, Cx.nox, Cx.wish, List.map_cons, List.map_nil, wipeD, List.set_cons_succ, List.set_cons_zero])
/-! ### the draws -/
def p__law_numbers : PT0 := fun ds M R => ∃ (ns : List Int) (k : Nat), ds = [.lst (ns.map D.int), .int (k : Int)] ∧ ns.length ≤ 63 ∧ ∀ p, M p = none → R (.raw (.ref p)) (mup M p .die)
def p__law_cast : PT0 := fun ds M R => ∃ (p : Addr) (n : Int), ds = [.raw (.ref p), .int n] ∧ M p = some .die ∧ 0 < n ∧ n < 1000000 ∧ ∀ i : Int, 0 ≤ i → i < n → R (.int i) M
def p__law_pick : PT0 := fun ds M R => ∃ (p : Addr) (d : D) (its : List D), ds = [.raw (.ref p), d] ∧ M p = some .die ∧ itemsD d = some its ∧ its ≠ [] ∧ its.length < 1000000 ∧ ∀ x, x ∈ its → R x M
theorem len__law_numbers : ∀ ds M R, p__law_numbers ds M R → ds.length = 2 := fun _ _ _ ⟨_, _, e, _⟩ => by rw [e]; rfl
theorem len__law_cast : ∀ ds M R, p__law_cast ds M R → ds.length = 2 := fun _ _ _ ⟨_, _, e, _⟩ => by rw [e]; rfl
theorem len__law_pick : ∀ ds M R, p__law_pick ds M R → ds.length = 2 := fun _ _ _ ⟨_, _, _, e, _⟩ => by rw [e]; rfl
theorem ok__law_numbers {P : Program} {w : World} {K : PySem.W.Frag} {mg : Str → Option Value} {base : Heap} (T : Tx K mg "_law_numbers" s__law_numbers) (m_len : mg "len" = none) (m_int : mg "int" = none) (m_abs : mg "abs" = none) (m_max : mg "max" = none) : Df P w K mg base 1 "_law_numbers" ["_law_script", "_law_at"] p__law_numbers := by
  refine df_ok T sc__law_numbers (len__law_numbers) (fun _ _ _ _ _ _ us hl => match us, hl with | [_, _], _ => rfl) (fun cdv A outer s H E fa hr => ⟨_, (pss_cons (ps_set (i := 2) sc__law_numbers.nd rfl (.inl rfl) (pe_ifExp (pt_cmpR op_lt (pv 1) (pe_callB (call_lenK K) (by rfl) m_len (by decide +kernel) (pa_cons (pv 0) pa_nil)) (nomark _)) (pe_ix (ix_K K) (pv 0) (pv 1) (fun _ _ => rfl)) (pe_op (op_addK K) (pe_op op_mul pe_int (pv 1)) pe_int))) (pss_cons (ps_set (i := 3) sc__law_numbers.nd rfl (.inl rfl) (pe_op op_mod (pe_callTy call_int1 (by rfl) m_int (by decide +kernel) (pa_cons (pe_callB call_abs (by rfl) m_abs (by decide +kernel) (pa_cons (pv 2) pa_nil)) pa_nil)) (pe_op op_powN (pe_op op_powN pe_int pe_int) pe_int))) (pss_cons (ps_set (i := 4) sc__law_numbers.nd rfl (.inl rfl) (pe_op (op_addK K) (pe_op (op_addK K) (pe_op (op_addK K) (pe_op op_mul (pv 3) pe_int) (pe_op op_mul pe_int (pv 1))) (pe_op op_mul pe_int (pe_callTy call_int1 (by rfl) m_int (by decide +kernel) (pa_cons (pe_cmpR op_lt (pv 2) pe_int (nomark _)) pa_nil)))) pe_int)) (pss_one (ps_ret (pe_lst (pa_cons (pe_callB (call_max2 rfl) (by rfl) m_max (by decide +kernel) (pa_cons pe_int (pa_cons (pe_op op_sub (pv 3) (pe_op op_powN pe_int pe_int)) pa_nil))) (pa_cons (pe_op op_mod (pe_callTy call_int1 (by rfl) m_int (by decide +kernel) (pa_cons (pv 4) pa_nil)) pe_int) (pa_cons pe_int pa_nil))))))))), ?_⟩)
  rintro ds M R ⟨ns, k, rfl, hl, q⟩
  show DS K _ [some (.lst (ns.map D.int)), some (.int (k : Int)), none, none, none] M _
  walk_at "x0"
  have hk : ∀ h : k < ns.length, atI (ns.map D.int) (k : Int) = some (.int ns[k]) := fun h => by
    rw [atI_nat (j := k) (v := .int ns[k]) (by rw [List.getElem?_map, List.getElem?_eq_getElem h]; rfl)]
  walk_at "go"
  all_goals try (refine dr_ixLE ⟨_, hk (by rw [List.length_map] at *; omega), ?_⟩; walk_at "go")
  all_goals first
    | walk_at "mul"
    | exact ⟨by decide, by decide +kernel⟩
    | decide +kernel
    | (refine de_lstD ?_
       walk_at "go"
       all_goals first
         | exact ⟨by decide, by decide +kernel⟩
         | decide
         | exact ⟨⟨_, _, _, rfl⟩, fun p hp => q p hp⟩)
theorem ok__law_cast {P : Program} {w : World} {K : PySem.W.Frag} {mg : Str → Option Value} {base : Heap} (T : Tx K mg "_law_cast" s__law_cast) (m_int : mg "int" = none) : Df P w K mg base 1 "_law_cast" ["_law_die", "_law_total"] p__law_cast := by
  refine df_ok T sc__law_cast (len__law_cast) (fun _ _ _ _ _ _ us hl => match us, hl with | [_, _], _ => rfl) (fun cdv A outer s H E fa hr => ⟨_, (pss_cons (ps_if (pt_cmpR op_gt (pe_ix (ix_K K) (pv 0) pe_int (fun _ _ => rfl)) pe_int (nomark _)) (pss_cons (ps_set (i := 2) sc__law_cast.nd rfl (.inl rfl) (pe_op op_mod (pe_callTy call_int1 (by rfl) m_int (by decide +kernel) (pa_cons (pe_ix (ix_K K) (pv 0) pe_int (fun _ _ => rfl)) pa_nil)) (pv 1))) (pss_cons (ps_asg (pe_op op_fdiv (pe_ix (ix_K K) (pv 0) pe_int (fun _ _ => rfl)) (pv 1)) (pg_sub (pv 0) pe_int set_list)) (pss_one (ps_ret (pv 2))))) pss_nil) (pss_cons (ps_asg (pe_op (op_addK K) (pe_ix (ix_K K) (pv 0) pe_int (fun _ _ => rfl)) pe_int) (pg_sub (pv 0) pe_int set_list)) (pss_cons (ps_set (i := 3) sc__law_cast.nd rfl (.inl rfl) (pe_op op_mod (pe_callTy call_int1 (by rfl) m_int (by decide +kernel) (pa_cons (pe_op (op_addK K) (pe_ix (ix_K K) (pv 0) pe_int (fun _ _ => rfl)) (pe_op op_mul pe_int (pe_ix (ix_K K) (pv 0) pe_int (fun _ _ => rfl)))) pa_nil)) pe_int)) (pss_cons (ps_set (i := 4) sc__law_cast.nd rfl (.inl rfl) (pe_op (op_addK K) (pe_op op_mul (pe_op op_mod (pe_callTy call_int1 (by rfl) m_int (by decide +kernel) (pa_cons (pe_op op_mul (pv 3) (pv 3)) pa_nil)) pe_int) (pv 3)) (pe_op op_mul pe_int (pe_ix (ix_K K) (pv 0) pe_int (fun _ _ => rfl))))) (pss_one (ps_ret (pe_op op_mod (pe_callTy call_int1 (by rfl) m_int (by decide +kernel) (pa_cons (pe_op op_fdiv (pe_op op_mod (pe_callTy call_int1 (by rfl) m_int (by decide +kernel) (pa_cons (pe_op (op_addK K) (pv 4) (pe_ix (ix_K K) (pv 0) pe_int (fun _ _ => rfl))) pa_nil)) pe_int) pe_int) pa_nil)) (pv 1)))))))), ?_⟩)
  rintro ds M R ⟨p, n, rfl, hp, h0, h1, q⟩
  show DS K _ [some (.raw (.ref p)), some (.int n), none, none, none] M _
  walk_at "x0"
  walk_at "go"
  · exact h0
  · exact ⟨h0, by omega⟩
  · refine ⟨[], dg_die (p := p) (j := 0) (by decide) ?_⟩
    walk_at "go"
    refine ⟨rfl, ?_⟩
    walk_at "go"
    refine ⟨rfl, hp, ?_⟩
    walk_at "go"
    exact q _ (Int.emod_nonneg _ (by omega)) (Int.emod_lt_of_pos _ h0)
  · refine ⟨[], dg_die (p := p) (j := 2) (by decide) ?_⟩
    walk_at "go"
    refine ⟨rfl, ?_⟩
    walk_at "go"
    refine ⟨rfl, hp, ?_⟩
    walk_at "go"
    · walk_at "mul"
    · decide
    · rename_i a b
      have l0 := Int.emod_nonneg (a + 681463489 * b) (show (2305843009213693879 : Int) ≠ 0 by decide)
      have l1 := Int.emod_lt_of_pos (a + 681463489 * b) (show (0 : Int) < 2305843009213693879 by decide)
      exact Or.inl ⟨by omega, by omega⟩
    · decide
    · rename_i a b
      have l0 := Int.emod_nonneg (a + 681463489 * b) (show (2305843009213693879 : Int) ≠ 0 by decide)
      have l1 := Int.emod_lt_of_pos (a + 681463489 * b) (show (0 : Int) < 2305843009213693879 by decide)
      exact Or.inr ⟨by omega, by omega⟩
    · walk_at "mul"
    · decide
    · exact ⟨by decide, by decide⟩
    · exact h0
    · exact q _ (Int.emod_nonneg _ (by omega)) (Int.emod_lt_of_pos _ h0)
theorem use_cast {M : Mem} {Q : D → Mem → Prop} {p : Addr} {n : Int} (h : M p = some .die ∧ 0 < n ∧ n < 1000000 ∧ ∀ i : Int, 0 ≤ i → i < n → Q (.int i) M) : p__law_cast [.raw (.ref p), .int n] M Q := ⟨p, n, rfl, h⟩
theorem ok__law_pick {P : Program} {w : World} {K : PySem.W.Frag} {mg : Str → Option Value} {base : Heap} (T : Tx K mg "_law_pick" s__law_pick) (d__law_cast : Df P w K mg base 1 "_law_cast" ["_law_die", "_law_total"] p__law_cast) (m_len : mg "len" = none) : Df P w K mg base 2 "_law_pick" ["_law_die", "_law_items"] p__law_pick := by
  refine df_ok T sc__law_pick (len__law_pick) (fun _ _ _ _ _ _ us hl => match us, hl with | [_, _], _ => rfl) (fun cdv A outer s H E fa hr => ⟨_, (pss_one (ps_ret (pe_ix (ix_K K) (pv 1) (pe_callD d__law_cast (hr.mono (by decide)) (by rfl) (pa_cons (pv 0) (pa_cons (pe_callB (call_lenK K) (by rfl) m_len (by decide +kernel) (pa_cons (pv 1) pa_nil)) pa_nil))) (fun _ _ => rfl)))), ?_⟩)
  rintro ds M R ⟨p, d, its, rfl, hp, hi, h0, h1, q⟩
  show DS K _ [some (.raw (.ref p)), some d] M _
  walk_at "x0"
  have pos : 0 < (its.length : Int) := by cases its with | nil => exact absurd rfl h0 | cons _ _ => simp
  cases d with
  | lst xs =>
    cases hi
    walk_at "go"
    refine use_cast ⟨hp, pos, by omega, fun i a b => ?_⟩
    obtain ⟨x, e, hx⟩ := atI_in a b
    exact dr_ixLE ⟨x, e, q x hx⟩
  | tup xs =>
    cases hi
    walk_at "go"
    refine use_cast ⟨hp, pos, by omega, fun i a b => ?_⟩
    obtain ⟨x, e, hx⟩ := atI_in a b
    exact dr_ixTE ⟨x, e, q x hx⟩
  | str z =>
    cases hi
    have hz : z.length < 1000000 := by rw [sigs_len] at h1; exact h1
    have hz2 : z.length ≤ sizeLine := by rw [sizeLine_eq]; omega
    walk_at "go"
    refine dc_len_str ⟨hz2, ?_⟩
    walk_at "go"
    refine use_cast ⟨hp, by rw [sigs_len] at pos; exact pos, by omega, fun i a b => ?_⟩
    obtain ⟨c, e, hc⟩ := atI_in (l := z.cps.toList) a (by rw [Array.length_toList]; exact b)
    exact dr_ixSE ⟨c, hz2, e, q _ (List.mem_map.mpr ⟨c, hc, rfl⟩)⟩
  | _ => cases hi
theorem use_pick {M : Mem} {Q : D → Mem → Prop} {p : Addr} {d : D} (h : ∃ its, M p = some .die ∧ itemsD d = some its ∧ its ≠ [] ∧ its.length < 1000000 ∧ ∀ x, x ∈ its → Q x M) : p__law_pick [.raw (.ref p), d] M Q := let ⟨its, h⟩ := h; ⟨p, d, its, rfl, h⟩

/-! ### the mathematics -/
def lets : Str := "abcdefghijklmnopqrstuvwxyz"
theorem lets_eq : lets.cps.toList = List.range' 97 26 := by decide +kernel
theorem mem_lets (c : Nat) : c ∈ lets.cps.toList ↔ 97 ≤ c ∧ c ≤ 122 := by
  rw [lets_eq, List.mem_range']
  constructor
  · rintro ⟨i, h, rfl⟩; omega
  · intro h; exact ⟨c - 97, by omega, by omega⟩
def isW (x : Str) : Bool := decide (1 ≤ x.length ∧ x.length ≤ 8) && x.cps.toList.all fun c => decide (c ∈ lets.cps.toList)
def isN : D → Bool
  | .str x => isW x | _ => false
def okS (x : Str) : Prop := x.length ≤ 1000 ∧ ∀ c, c ∈ x.cps.toList → c < 128
def okD (d : D) : Prop := (∃ T, tyD d = some T) ∧ ∀ x, d = .str x → okS x
def p_is_name : PT0 := fun ds M R => ∃ d, ds = [d] ∧ okD d ∧ R (.bl (isN d)) M
def p__law_is_word : PT0 := p_is_name
theorem len_is_name : ∀ ds M R, p_is_name ds M R → ds.length = 1 := fun _ _ _ ⟨_, e, _⟩ => by rw [e]; rfl
theorem len__law_is_word : ∀ ds M R, p__law_is_word ds M R → ds.length = 1 := len_is_name
theorem z100 {n : Nat} (h : n ≤ 100000) : n ≤ sizeLine := by rw [sizeLine_eq]; omega
def inF : D → D
  | .str y => (match y.cps.toList with | [c] => .bl (decide (c ∈ lets.cps.toList)) | _ => .non) | _ => .non
theorem isW_no {x : Str} (h : ¬ (1 ≤ x.length ∧ x.length ≤ 8)) : isW x = false := by unfold isW; rw [decide_eq_false h]; rfl
theorem kit_no {d : D} {T : String} (h : tyD d = some T) (hs : ∀ x, d ≠ .str x) : kitB T "str" = some false := by
  cases d <;> first | (cases h; done) | (cases h; decide +kernel) | exact absurd rfl (hs _)
theorem isN_no {d : D} (hs : ∀ x, d ≠ .str x) : isN d = false := by
  cases d <;> first | rfl | exact absurd rfl (hs _)
theorem ok_is_name {P : Program} {w : World} {K : PySem.W.Frag} {mg : Str → Option Value} {base : Heap} (T : Tx K mg "is_name" s_is_name) (m_isinstance : mg "isinstance" = none) (m_str : mg "str" = none) (m_len : mg "len" = none) (c_MAX_LETTERS : GlK mg "MAX_LETTERS" (.int 8)) (m_all : mg "all" = none) (c_LETTERS : GlK mg "LETTERS" (.str "abcdefghijklmnopqrstuvwxyz")) : Df P w K mg base 1 "is_name" ["value"] p_is_name := by
  refine df_ok T sc_is_name (len_is_name) (fun _ _ _ _ _ _ us hl => match us, hl with | [_], _ => rfl) (fun cdv A outer s H E fa hr => ⟨_, (pss_cons (ps_if (PW.pt (pw_or (pt_not (pt_truK K (pe_callB (call_isiKK K) (by rfl) m_isinstance (by decide +kernel) (pa_cons (pv 0) (pa_cons (pe_bltn (v := .ty "str") (by rfl) m_str (by decide +kernel) rfl) pa_nil))) (fun _ => rfl))) (pw_or1 (pt_not (pt_chain op_le op_le pe_int (pe_callB (call_lenK K) (by rfl) m_len (by decide +kernel) (pa_cons (pv 0) pa_nil)) (pe_globK c_MAX_LETTERS (by rfl))))))) (pss_one (ps_ret pe_bl)) pss_nil) (pss_one (ps_ret (pe_callB (call_allK K) (by rfl) m_all (by decide +kernel) (pa_cons (pe_lc (own := [("letter", 1)]) rfl sc_is_name.nd (pi_str (pv 0)) (blkOk_by (N := N_is_name) (sc := defScope s_is_name) (by decide +kernel)) (fun _ _ _ _ _ => (pg_name (i := 1) sc_is_name.nd rfl (.inl rfl))) (fun _ _ _ _ _ => pts_nil) (fun _ _ _ _ _ => (pe_cmpR op_in_sign (pv 1) (pe_globK c_LETTERS (by rfl)) (by rfl)))) pa_nil))))), ?_⟩)
  rintro ds M R ⟨d, rfl, ⟨⟨T, hT⟩, hz⟩, q⟩
  show DS K _ [some d, none] M _
  walk_at "x0"
  walk_at "go"
  by_cases hd : ∃ x, d = .str x
  · obtain ⟨x, rfl⟩ := hd
    have hx : x.length ≤ 100000 := by have := (hz x rfl).1; omega
    have q : R (.bl (isW x)) M := q
    refine dc_isi (T := "str") rfl (b := true) (by decide +kernel) ?_
    walk_at "go"
    · refine dc_len_str ⟨z100 hx, ?_⟩
      walk_at "go"
      · refine de_map (by simp) ?_
        walk_at "go"
        refine ⟨by rw [sigs_len]; show x.length < _; rw [sizeLine_eq]; omega, inF, fun d hd => ?_, ?_⟩
        · unfold sigs at hd
          obtain ⟨c, hc, rfl⟩ := List.mem_map.mp hd
          walk_at "x0"
          walk_at "go"
          exact dr_inS ⟨rfl, rfl⟩
        · walk_at "go"
          refine dc_allE ⟨(x.cps.toList.map fun c => decide (c ∈ lets.cps.toList)), ?_, ?_⟩
          · unfold sigs
            rw [List.map_map, List.map_map]
            rfl
          · rw [List.all_map]
            unfold isW at q
            rw [decide_eq_true (show 1 ≤ x.length ∧ x.length ≤ 8 from ⟨by omega, by omega⟩)] at q
            exact q
      · rw [isW_no (fun h => by omega)] at q
        exact q
      · rw [isW_no (fun h => by omega)] at q
        exact q
  · have hs : ∀ x, d ≠ .str x := fun x e => hd ⟨x, e⟩
    rw [isN_no hs] at q
    refine dc_isi hT (kit_no hT hs) ?_
    walk_at "go"
    exact q
theorem toPyL_strs : ∀ l : List Str, toPyL (l.map D.str) = some (l.map PyData.str)
  | [] => rfl
  | x :: r => by
    show (match toPy (.str x), toPyL (r.map D.str) with | some a, some b => some (a :: b) | _, _ => none) = _
    rw [toPyL_strs r]; rfl
theorem canAll_strs : ∀ l : List Str, (∀ x, x ∈ l → okS x) → PyData.canLayAll0 (l.map PyData.str) = true
  | [], _ => rfl
  | x :: r, h => by
    show (PyData.strOk x && PyData.canLayAll0 (r.map PyData.str)) = true
    rw [canAll_strs r fun y hy => h y (List.mem_cons_of_mem _ hy), Bool.and_true]
    unfold PyData.strOk
    rw [Array.all_eq_true']
    intro c hc
    have := (h x List.mem_cons_self).2 c (Array.mem_toList_iff.mpr hc)
    exact decide_eq_true (by omega)
theorem depth_strs : ∀ l : List Str, PyData.depthAll (l.map PyData.str) = 0
  | [] => rfl
  | x :: r => by
    show max (PyData.depth (.str x)) (PyData.depthAll (r.map PyData.str)) = 0
    rw [depth_strs r]; rfl
theorem shaped_strs (l : List Str) (h : ∀ x, x ∈ l → okS x) : SeqAt.shaped (.list (l.map PyData.str)) = true := by
  unfold SeqAt.shaped
  rw [show (PyData.list (l.map PyData.str)).canLay0 = PyData.canLayAll0 (l.map PyData.str) from by rw [PyData.canLay0], canAll_strs l h, show (PyData.list (l.map PyData.str)).depth = PyData.depthAll (l.map PyData.str) + 1 from by rw [PyData.depth], depth_strs]
  rfl
theorem eqv_nil (l : List PyData) : PyData.eqv (.list l) (.list []) = l.isEmpty := by
  cases l <;> (rw [PyData.eqv, PyData.eqvAll]; rfl)
theorem lt1 (c d : Nat) : ([c] : List Nat) < [d] ↔ c < d := by simp [List.cons_lt_cons_iff]
def notIn : D → Bool
  | .str y => (match y.cps.toList with | [c] => !decide (c ∈ lets.cps.toList) | _ => false) | _ => false
theorem okS_sig {x : Str} (h : okS x) {d : D} (hd : d ∈ sigs x) : ∃ c, d = .str ⟨#[c]⟩ ∧ c < 128 := by
  unfold sigs at hd
  obtain ⟨c, hc, rfl⟩ := List.mem_map.mp hd
  exact ⟨c, rfl, h.2 c hc⟩
theorem sigs_filter (x : Str) : (sigs x).filter notIn = ((x.cps.toList.filter fun c => !decide (c ∈ lets.cps.toList)).map fun c => (⟨#[c]⟩ : Str)).map D.str := by
  unfold sigs
  rw [List.filter_map, List.map_map]
  rfl
theorem ok__law_is_word {P : Program} {w : World} {K : PySem.W.Frag} {mg : Str → Option Value} {base : Heap} (T : Tx K mg "_law_is_word" s__law_is_word) (m_isinstance : mg "isinstance" = none) (m_str : mg "str" = none) (m_len : mg "len" = none) : Df P w K mg base 1 "_law_is_word" ["_law_value"] p__law_is_word := by
  refine df_ok T sc__law_is_word (len__law_is_word) (fun _ _ _ _ _ _ us hl => match us, hl with | [_], _ => rfl) (fun cdv A outer s H E fa hr => ⟨_, (pss_cons (ps_if (PW.pt (pw_or (pt_not (pt_truK K (pe_callB (call_isiKK K) (by rfl) m_isinstance (by decide +kernel) (pa_cons (pv 0) (pa_cons (pe_bltn (v := .ty "str") (by rfl) m_str (by decide +kernel) rfl) pa_nil))) (fun _ => rfl))) (pw_or1 (pt_not (pt_chain op_le op_le pe_int (pe_callB (call_lenK K) (by rfl) m_len (by decide +kernel) (pa_cons (pv 0) pa_nil)) pe_int))))) (pss_one (ps_ret pe_bl)) pss_nil) (pss_one (ps_ret (pe_cmpR (op_eqK K hr.units) (pe_lc (own := [("_law_one", 1)]) rfl sc__law_is_word.nd (pi_str (pv 0)) (blkOk_by (N := N__law_is_word) (sc := defScope s__law_is_word) (by decide +kernel)) (fun _ _ _ _ _ => (pg_name (i := 1) sc__law_is_word.nd rfl (.inl rfl))) (fun _ _ _ _ _ => (pts_one (pt_not (pt_chain op_le_str op_le_str pe_str (pv 1) pe_str)))) (fun _ _ _ _ _ => (pv 1))) (pe_lst pa_nil) (nomark _))))), ?_⟩)
  rintro ds M R ⟨d, rfl, ⟨⟨T, hT⟩, hz⟩, q⟩
  show DS K _ [some d, none] M _
  walk_at "x0"
  walk_at "go"
  by_cases hd : ∃ x, d = .str x
  · obtain ⟨x, rfl⟩ := hd
    have ho := hz x rfl
    have hx : x.length ≤ 100000 := by have := ho.1; omega
    have q : R (.bl (isW x)) M := q
    refine dc_isi (T := "str") rfl (b := true) (by decide +kernel) ?_
    walk_at "go"
    · refine dc_len_str ⟨z100 hx, ?_⟩
      walk_at "go"
      · refine de_filt (by simp) ?_
        walk_at "go"
        refine ⟨by rw [sigs_len]; show x.length < _; rw [sizeLine_eq]; omega, notIn, id, fun d hd => ?_, fun d hd _ => ?_, ?_⟩
        · obtain ⟨c, rfl, hc⟩ := okS_sig ho hd
          walk_at "x0"
          walk_at "go"
          refine dr_leS ?_
          walk_at "go"
          · rename_i h
            refine ⟨rfl, ?_⟩
            show true = !decide (c ∈ lets.cps.toList)
            have h' : ([c] : List Nat) < [97] := h
            rw [lt1] at h'
            rw [decide_eq_false (fun z => by rw [mem_lets] at z; omega)]
            rfl
          · rename_i h
            refine dr_leS ?_
            walk_at "go"
            refine ⟨rfl, ?_⟩
            show (!(!decide (([122] : List Nat) < [c]))) = !decide (c ∈ lets.cps.toList)
            have h' : ¬ ([c] : List Nat) < [97] := h
            rw [lt1] at h'
            rw [Bool.not_not, ← decide_not]
            refine decide_eq_decide.mpr ?_
            rw [lt1, mem_lets]; omega
        · walk_at "x0"
          walk_at "go"
          exact ⟨rfl, rfl⟩
        · rw [List.map_id, sigs_filter]
          walk_at "go"
          refine de_lst ?_
          walk_at "go"
          refine ⟨Nat.zero_le _, dr_eqDE ⟨_, _, congrArg (Option.map PyData.list) (toPyL_strs _), rfl, shaped_strs _ (fun y hy => ?_), rfl, ?_⟩⟩
          · obtain ⟨c, hc, rfl⟩ := List.mem_map.mp hy
            refine ⟨by show 1 ≤ 1000; decide, fun c' hc' => ?_⟩
            have e : c' = c := List.mem_singleton.mp hc'
            rw [e]
            exact ho.2 c (List.mem_filter.mp hc).1
          · rw [eqv_nil]
            unfold isW at q
            rw [decide_eq_true (show 1 ≤ x.length ∧ x.length ≤ 8 from ⟨by omega, by omega⟩), Bool.true_and] at q
            have e : (((x.cps.toList.filter fun c => !decide (c ∈ lets.cps.toList)).map fun c => (⟨#[c]⟩ : Str)).map PyData.str).isEmpty = x.cps.toList.all fun c => decide (c ∈ lets.cps.toList) := by
              rw [List.isEmpty_map, List.isEmpty_map]
              rw [Bool.eq_iff_iff, List.isEmpty_iff, List.filter_eq_nil_iff, List.all_eq_true]
              simp
            rw [e]
            exact q
      · rw [isW_no (fun h => by omega)] at q
        exact q
      · rw [isW_no (fun h => by omega)] at q
        exact q
  · have hs : ∀ x, d ≠ .str x := fun x e => hd ⟨x, e⟩
    rw [isN_no hs] at q
    refine dc_isi hT (kit_no hT hs) ?_
    walk_at "go"
    exact q
theorem use_isn {M : Mem} {Q : D → Mem → Prop} {d : D} (h : okD d) (q : Q (.bl (isN d)) M) : p_is_name [d] M Q := ⟨d, rfl, h, q⟩
theorem use_isw {M : Mem} {Q : D → Mem → Prop} {d : D} (h : okD d) (q : Q (.bl (isN d)) M) : p__law_is_word [d] M Q := ⟨d, rfl, h, q⟩
def p__law_odd_one : PT0 := fun ds M R => ∃ p, ds = [.raw (.ref p)] ∧ M p = some .die ∧ ∀ d, okD d → R d M
def p__law_right : PT0 := fun ds M R => ∃ p, ds = [.raw (.ref p)] ∧ M p = some .die ∧ R (.bl true) M
theorem len__law_odd_one : ∀ ds M R, p__law_odd_one ds M R → ds.length = 1 := fun _ _ _ ⟨_, e, _⟩ => by rw [e]; rfl
theorem len__law_right : ∀ ds M R, p__law_right ds M R → ds.length = 1 := fun _ _ _ ⟨_, e, _⟩ => by rw [e]; rfl
theorem len_law : ∀ ds M R, p_law ds M R → ds.length = 1 := fun _ _ _ ⟨_, e, _⟩ => by rw [e]; rfl
def okB : D → Bool
  | .str x => decide (x.length ≤ 1000) && x.cps.toList.all fun c => decide (c < 128)
  | d => (tyD d).isSome
theorem okD_of {d : D} (h : okB d = true) : okD d := by
  cases d with
  | str x =>
    obtain ⟨h1, h2⟩ := Bool.and_eq_true_iff.mp h
    refine ⟨⟨"str", rfl⟩, fun y e => ?_⟩
    cases e
    exact ⟨of_decide_eq_true h1, fun c hc => of_decide_eq_true (List.all_eq_true.mp h2 c hc)⟩
  | raw _ => cases h
  | obj _ _ => cases h
  | _ => exact ⟨⟨_, rfl⟩, fun _ e => nomatch e⟩
theorem okD_all {l : List D} (h : l.all okB = true) : ∀ d, d ∈ l → okD d := fun d hd => okD_of (List.all_eq_true.mp h d hd)
theorem ok__law_odd_one {P : Program} {w : World} {K : PySem.W.Frag} {mg : Str → Option Value} {base : Heap} (T : Tx K mg "_law_odd_one" s__law_odd_one) (d__law_pick : Df P w K mg base 2 "_law_pick" ["_law_die", "_law_items"] p__law_pick) : Df P w K mg base 3 "_law_odd_one" ["_law_die"] p__law_odd_one := by
  refine df_ok T sc__law_odd_one (len__law_odd_one) (fun _ _ _ _ _ _ us hl => match us, hl with | [_], _ => rfl) (fun cdv A outer s H E fa hr => ⟨_, (pss_cons (ps_set (i := 1) sc__law_odd_one.nd rfl (.inl rfl) (pe_lst (pa_cons pe_non (pa_cons pe_int (pa_cons pe_int (pa_cons pe_int (pa_cons pe_int (pa_cons (pe_un un_neg pe_int) (pa_cons pe_bl (pa_cons pe_bl (pa_cons pe_str (pa_cons pe_str (pa_cons pe_str (pa_cons pe_str (pa_cons (pe_tup pa_nil) (pa_cons (pe_tup (pa_cons pe_int pa_nil)) (pa_cons (pe_tup (pa_cons pe_int (pa_cons pe_int pa_nil))) (pa_cons (pe_tup (pa_cons pe_str pa_nil)) (pa_cons (pe_lst (pa_cons pe_int pa_nil)) (pa_cons pe_dnewK (pa_cons pe_str pa_nil))))))))))))))))))))) (pss_cons (ps_set (i := 1) sc__law_odd_one.nd rfl (.inl rfl) (pe_op (op_addK K) (pv 1) (pe_lst (pa_cons (pe_op op_powN pe_int pe_int) (pa_cons (pe_tup (pa_cons pe_non pa_nil)) (pa_cons (pe_tup (pa_cons pe_str (pa_cons pe_str pa_nil))) (pa_cons (pe_tup (pa_cons pe_str (pa_cons pe_str pa_nil))) (pa_cons (pe_tup (pa_cons pe_str (pa_cons pe_str pa_nil))) (pa_cons (pe_tup (pa_cons pe_str (pa_cons pe_str pa_nil))) (pa_cons (pe_lst (pa_cons pe_str pa_nil)) (pa_cons (pe_tup (pa_cons pe_str pa_nil)) pa_nil))))))))))) (pss_one (ps_ret (pe_callD d__law_pick (hr.mono (by decide)) (by rfl) (pa_cons (pv 0) (pa_cons (pv 1) pa_nil))))))), ?_⟩)
  rintro ds M R ⟨p, rfl, hp, q⟩
  show DS K _ [some (.raw (.ref p)), none] M _
  walk_at "x0"
  repeat' first | walk_at "dx" | refine de_tup ?_ | refine de_lst ?_ | refine' ⟨by rw [sizeLine_eq]; decide, ?_⟩ | refine' dr_addLE ⟨by rw [sizeLine_eq]; decide, ?_⟩
  · exact ⟨by decide, by decide +kernel⟩
  · exact use_pick ⟨_, hp, rfl, List.cons_ne_nil _ _, by decide, fun x hx => q x (okD_all (by decide +kernel) x hx)⟩
theorem use_odd {M : Mem} {Q : D → Mem → Prop} {p : Addr} (hp : M p = some .die) (q : ∀ d, okD d → Q d M) : p__law_odd_one [.raw (.ref p)] M Q := ⟨p, rfl, hp, q⟩
/-! what is drawn -/
def rOne (_ e : D) : Prop := ∃ c, (97 ≤ c ∧ c ≤ 122) ∧ e = .str ⟨#[c]⟩
theorem ones_of : ∀ {ds es : List D}, Paired rOne ds es → ∃ cs : List Nat, (∀ c, c ∈ cs → 97 ≤ c ∧ c ≤ 122) ∧ es = (cs.map fun c => (⟨#[c]⟩ : Str)).map D.str ∧ cs.length = ds.length
  | _, _, .nil => ⟨[], (fun _ h => nomatch h), rfl, rfl⟩
  | _, _, .cons ⟨c, hc, e⟩ r => by
    obtain ⟨cs, h1, h2, h3⟩ := ones_of r
    refine ⟨c :: cs, fun x hx => ?_, by rw [e, h2]; rfl, by rw [List.length_cons, List.length_cons, h3]⟩
    rcases List.mem_cons.mp hx with rfl | hx
    · exact hc
    · exact h1 x hx
theorem fold_nil : ∀ (cs : List Nat) (a : Array Nat), ((cs.map fun c => (⟨#[c]⟩ : Str)).foldl (fun acc p => acc ++ (⟨#[]⟩ : Str).cps ++ p.cps) a).toList = a.toList ++ cs
  | [], a => by simp
  | c :: cs, a => by
    show ((cs.map fun c => (⟨#[c]⟩ : Str)).foldl (fun acc p => acc ++ (⟨#[]⟩ : Str).cps ++ p.cps) (a ++ #[] ++ #[c])).toList = _
    rw [fold_nil cs]
    simp
theorem join_ones (cs : List Nat) : (Txt.join (Str.ofString "") (cs.map fun c => (⟨#[c]⟩ : Str))).cps.toList = cs := by
  have e0 : Str.ofString "" = ⟨#[]⟩ := rfl
  rw [e0]
  unfold Txt.join Builtin.Str.glued
  cases cs with
  | nil => rfl
  | cons c cs =>
    show ((cs.map fun c => (⟨#[c]⟩ : Str)).foldl (fun acc p => acc ++ (⟨#[]⟩ : Str).cps ++ p.cps) #[c]).toList = _
    rw [fold_nil]
    rfl
theorem len_list (x : Str) : x.length = x.cps.toList.length := by rw [Array.length_toList]; rfl
theorem app_list (x y : Str) : (x ++ y).cps.toList = x.cps.toList ++ y.cps.toList := by
  show (x.cps ++ y.cps).toList = _
  rw [Array.toList_append]
def okT (n : Nat) (x : Str) : Prop := x.length ≤ n ∧ ∀ c, c ∈ x.cps.toList → c < 128
theorem okT_of {n : Nat} {x : Str} (h : (decide (x.length ≤ n) && x.cps.toList.all fun c => decide (c < 128)) = true) : okT n x := by
  obtain ⟨h1, h2⟩ := Bool.and_eq_true_iff.mp h
  exact ⟨of_decide_eq_true h1, fun c hc => of_decide_eq_true (List.all_eq_true.mp h2 c hc)⟩
theorem okT_app {n m : Nat} {x y : Str} (a : okT n x) (b : okT m y) : okT (n + m) (x ++ y) := by
  have a1 := a.1
  have b1 := b.1
  refine ⟨by rw [len_list, app_list, List.length_append, ← len_list, ← len_list]; omega, fun c hc => ?_⟩
  rw [app_list] at hc
  rcases List.mem_append.mp hc with h | h
  · exact a.2 c h
  · exact b.2 c h
theorem okT_cut {n : Nat} {x : Str} (a : okT n x) (l u : Option Int) : okT n (cutS x l u) := by
  have a1 := a.1
  refine ⟨Nat.le_trans (cutS_length x l u) a1, fun c hc => ?_⟩
  unfold cutS at hc
  exact a.2 c (List.mem_of_mem_drop (List.mem_of_mem_take hc))
theorem okT_up {n : Nat} {x : Str} (a : okT n x) : okT (3 * n) (Txt.upper x) := by
  have a1 := a.1
  refine ⟨by have := PyProof.Rows.len_upper x; omega, fun c hc => ?_⟩
  rw [PyProof.Rows.upper_ascii a.2] at hc
  show c < 128
  have hc : c ∈ (x.cps.map PyProof.Rows.up1).toList := hc
  rw [Array.toList_map] at hc
  obtain ⟨d, hd, rfl⟩ := List.mem_map.mp hc
  have h := a.2 d hd
  unfold PyProof.Rows.up1
  split <;> omega
theorem okS_of {n : Nat} {x : Str} (a : okT n x) (h : n ≤ 1000) : okS x := ⟨by have := a.1; omega, a.2⟩
theorem okD_str {x : Str} (h : okS x) : okD (.str x) := ⟨⟨_, rfl⟩, fun y e => by cases e; exact h⟩
theorem okD_lst (l : List D) : okD (.lst l) := ⟨⟨_, rfl⟩, fun _ e => nomatch e⟩
theorem okD_tup (l : List D) : okD (.tup l) := ⟨⟨_, rfl⟩, fun _ e => nomatch e⟩
theorem ok__law_right {P : Program} {w : World} {K : PySem.W.Frag} {mg : Str → Option Value} {base : Heap} (T : Tx K mg "_law_right" s__law_right) (m_range : mg "range" = none) (d__law_cast : Df P w K mg base 1 "_law_cast" ["_law_die", "_law_total"] p__law_cast) (d__law_pick : Df P w K mg base 2 "_law_pick" ["_law_die", "_law_items"] p__law_pick) (m_len : mg "len" = none) (d__law_odd_one : Df P w K mg base 3 "_law_odd_one" ["_law_die"] p__law_odd_one) (m_repr : mg "repr" = none) (d_is_name : Df P w K mg base 1 "is_name" ["value"] p_is_name) (d__law_is_word : Df P w K mg base 1 "_law_is_word" ["_law_value"] p__law_is_word) : Df P w K mg base 4 "_law_right" ["_law_die"] p__law_right := by
  refine df_ok T sc__law_right (len__law_right) (fun _ _ _ _ _ _ us hl => match us, hl with | [_], _ => rfl) (fun cdv A outer s H E fa hr => ⟨_, (pss_cons (ps_set (i := 1) sc__law_right.nd rfl (.inr rfl) pe_str) (pss_cons (ps_set (i := 2) sc__law_right.nd rfl (.inl rfl) (pe_joinK K pe_str (pe_lc (own := [("_law_turn", 7)]) rfl sc__law_right.nd (pi_range1 (by rfl) m_range (pa_cons (pe_callD d__law_cast (hr.mono (by decide)) (by rfl) (pa_cons (pv 0) (pa_cons pe_int pa_nil))) pa_nil)) (blkOk_by (N := N__law_right) (sc := defScope s__law_right) (by decide +kernel)) (fun _ _ _ _ _ => (pg_name (i := 7) sc__law_right.nd rfl (.inl rfl))) (fun _ _ _ _ _ => pts_nil) (fun _ _ _ _ _ => (pe_callD d__law_pick (hr.mono (by decide)) (by rfl) (pa_cons (pv 0) (pa_cons (pv 1) pa_nil))))))) (pss_cons (ps_par (i := 3) (j := 4) (by rfl) sc__law_right.nd rfl rfl (by decide) rfl rfl (pa_cons (pe_callD d__law_cast (hr.mono (by decide)) (by rfl) (pa_cons (pv 0) (pa_cons (pe_op (op_addK K) (pe_callB (call_lenK K) (by rfl) m_len (by decide +kernel) (pa_cons (pv 2) pa_nil)) pe_int) pa_nil))) (pa_cons (pe_callD d__law_pick (hr.mono (by decide)) (by rfl) (pa_cons (pv 0) (pa_cons (pe_lst (pa_cons pe_str (pa_cons pe_str (pa_cons pe_str (pa_cons pe_str (pa_cons pe_str (pa_cons pe_str (pa_cons pe_str (pa_cons pe_str (pa_cons pe_str (pa_cons pe_str pa_nil))))))))))) pa_nil))) pa_nil)) (by rfl)) (pss_cons (ps_set (i := 5) sc__law_right.nd rfl (.inl rfl) (pe_lst (pa_cons (pv 2) (pa_cons (pe_op (op_addK K) (pe_op (op_addK K) (pe_slice sl_str (pv 2) po_none (po_some (pv 3))) (pv 4)) (pe_slice sl_str (pv 2) (po_some (pv 3)) po_none)) (pa_cons (pe_slice sl_str (pv 2) po_none (po_some (pv 3))) (pa_cons (pe_upper (pv 2)) (pa_cons (pe_op (op_addK K) (pv 2) (pv 2)) (pa_cons (pe_lst (pa_cons (pv 2) pa_nil)) (pa_cons (pe_tup (pa_cons (pv 2) pa_nil)) (pa_cons (pe_callD d__law_odd_one (hr.mono (by decide)) (by rfl) (pa_cons (pv 0) pa_nil)) pa_nil)))))))))) (pss_cons (ps_for PassesOwn.never rfl (pi_listK K (pv 5)) (pg_name (i := 6) sc__law_right.nd rfl (.inl rfl)) (pss_one (ps_if (pt_cmpR (op_neK K hr.units) (pe_callB call_repr_bl (by rfl) m_repr (by decide +kernel) (pa_cons (pe_callD d_is_name (hr.mono (by decide)) (by rfl) (pa_cons (pv 6) pa_nil)) pa_nil)) (pe_callB call_repr_bl (by rfl) m_repr (by decide +kernel) (pa_cons (pe_callD d__law_is_word (hr.mono (by decide)) (by rfl) (pa_cons (pv 6) pa_nil)) pa_nil)) (nomark _)) (pss_one (ps_ret pe_bl)) pss_nil))) (pss_one (ps_ret pe_bl))))))), ?_⟩)
  rintro ds M R ⟨p, rfl, hp, q⟩
  show DS K _ [some (.raw (.ref p)), none, none, none, none, none, none, none] M _
  walk_at "x0"
  walk_at "go"
  refine de_M1 ?_
  walk_at "go"
  refine ⟨⟨_, rfl⟩, de_rel (by simp) ?_⟩
  walk_at "go"
  refine use_cast ⟨hp, by decide, by decide, fun k a b => ?_⟩
  walk_at "go"
  refine ⟨by omega, by omega, by rw [rngD_len, sizeLine_eq]; omega, rOne, fun d hd => ?_, fun es he => ?_⟩
  · walk_at "x0"
    walk_at "go"
    refine use_pick ⟨sigs lets, hp, rfl, (by decide +kernel), (by decide +kernel), fun x hx => ⟨rfl, ?_⟩⟩
    unfold sigs at hx
    obtain ⟨c, hc, rfl⟩ := List.mem_map.mp hx
    exact ⟨c, (mem_lets c).mp hc, rfl⟩
  obtain ⟨cs, hcs, rfl, hl⟩ := ones_of he
  rw [rngD_len] at hl
  have hw : okT 9 (Txt.join (Str.ofString "") (cs.map fun c => (⟨#[c]⟩ : Str))) := by
    refine ⟨by rw [len_list, join_ones]; omega, fun c hc => ?_⟩
    rw [join_ones] at hc
    have := (hcs c hc).2
    omega
  refine dm_join ?_ ?_
  · rw [List.map_map, List.length_map]
    have e1 : ((cs.map ((fun x => x.length) ∘ fun c => (⟨#[c]⟩ : Str)))).sum ≤ cs.length := by
      clear hw hcs he hl
      induction cs with
      | nil => exact Nat.le_refl _
      | cons c r ih =>
        rw [List.map_cons, List.sum_cons, List.length_cons]
        have h1 : ((fun x : Str => x.length) ∘ fun c : Nat => (⟨#[c]⟩ : Str)) c = 1 := rfl
        omega
    have e2 : (Str.ofString "").length = 0 := rfl
    rw [e2]; omega
  generalize Txt.join (Str.ofString "") (cs.map fun c => (⟨#[c]⟩ : Str)) = word at hw
  walk_at "go"
  refine dc_len_str ⟨by rw [sizeLine_eq]; have := hw.1; omega, ?_⟩
  walk_at "go"
  refine use_cast ⟨hp, by omega, by have := hw.1; omega, fun n a2 b2 => ?_⟩
  walk_at "gol"
  refine use_pick ⟨_, hp, rfl, List.cons_ne_nil _ _, by decide, fun x hx => ?_⟩
  obtain ⟨odd, rfl, ho⟩ : ∃ odd, x = .str odd ∧ okT 2 odd := by
    have h8 : ∀ d : D, d ∈ [D.str "A", .str " ", .str "0", .str "_", .str "-", .str "{", .str "`", .str "\n", .str "z", .str "aa"] → ∃ y, d = .str y ∧ okT 2 y := by
      intro d hd
      simp only [List.mem_cons, List.not_mem_nil, or_false] at hd
      rcases hd with rfl | rfl | rfl | rfl | rfl | rfl | rfl | rfl | rfl | rfl <;> exact ⟨_, rfl, okT_of (by decide +kernel)⟩
    exact h8 x hx
  have hs : ∀ {n : Nat} {y : Str}, okT n y → n ≤ 1000 → y.length ≤ sizeLine := fun a b => by rw [sizeLine_eq]; have := a.1; omega
  have hs2 : ∀ {n m : Nat} {y z : Str}, okT n y → okT m z → n + m ≤ 1000 → y.length + z.length ≤ sizeLine := fun a a' b => by rw [sizeLine_eq]; have := a.1; have := a'.1; omega
  walk_at "gol"
  refine de_slS ?_
  walk_at "go"
  refine ⟨hs hw (by decide), do_no (do_pt ?_)⟩
  walk_at "go"
  have c1 := okT_cut hw none (some n)
  refine dr_addSE ⟨hs2 c1 ho (by decide), ?_⟩
  refine de_slS ?_
  walk_at "go"
  refine ⟨hs hw (by decide), do_pt ?_⟩
  walk_at "go"
  refine do_no ?_
  have c2 := okT_cut hw (some n) none
  refine dr_addSE ⟨hs2 (okT_app c1 ho) c2 (by decide), ?_⟩
  walk_at "go"
  refine de_slS ?_
  walk_at "go"
  refine ⟨hs hw (by decide), do_no (do_pt ?_)⟩
  walk_at "go"
  refine de_M0 ?_
  walk_at "go"
  refine ⟨⟨_, rfl⟩, dm_upper (by have := hw.1; omega) ?_⟩
  have c3 := okT_up hw
  walk_at "go"
  have c4 := okT_app hw hw
  refine dr_addSE ⟨hs2 hw hw (by decide), ?_⟩
  walk_at "gol"
  refine use_odd hp fun dd hdd => ?_
  walk_at "gol"
  refine ds_for1 [6] ?_
  walk_at "x0"
  walk_at "go"
  refine ⟨fun d hd => ?_, ?_⟩
  · have hok : okD d := by
      simp only [List.mem_cons, List.not_mem_nil, or_false] at hd
      rcases hd with rfl | rfl | rfl | rfl | rfl | rfl | rfl | rfl
      · exact okD_str (okS_of hw (by decide))
      · exact okD_str (okS_of (okT_app (okT_app c1 ho) c2) (by decide))
      · exact okD_str (okS_of c1 (by decide))
      · exact okD_str (okS_of c3 (by decide))
      · exact okD_str (okS_of c4 (by decide))
      · exact okD_lst _
      · exact okD_tup _
      · exact hdd
    walk_at "go"
    refine use_isn hok ?_
    walk_at "go"
    refine use_isw hok ?_
    walk_at "go"
    refine dr_neDE ⟨_, _, rfl, rfl, by cases isN d <;> decide +kernel, by cases isN d <;> decide +kernel, ?_⟩
    have e : PyData.eqv (.str (if isN d = true then Str.ofString "True" else Str.ofString "False")) (.str (if isN d = true then Str.ofString "True" else Str.ofString "False")) = true := by
      rw [PyData.eqv]
      exact beq_self_eq_true _
    rw [e]
    walk_at "go"
    exact ⟨rfl, rfl⟩
  · walk_at "go"
    exact q
theorem use_right {M : Mem} {Q : D → Mem → Prop} {p : Addr} (hp : M p = some .die) (q : Q (.bl true) M) : p__law_right [.raw (.ref p)] M Q := ⟨p, rfl, hp, q⟩
theorem use_numbers {M : Mem} {Q : D → Mem → Prop} {ns : List Int} {k : Int} (hk : 0 ≤ k) (hl : ns.length ≤ 63) (q : ∀ p, M p = none → Q (.raw (.ref p)) (mup M p .die)) : p__law_numbers [.lst (ns.map D.int), .int k] M Q := by
  obtain ⟨j, rfl⟩ := Int.eq_ofNat_of_zero_le hk
  exact ⟨ns, j, rfl, hl, q⟩
theorem ok_law {P : Program} {w : World} {K : PySem.W.Frag} {mg : Str → Option Value} {base : Heap} (T : Tx K mg "law" s_law) (m_range : mg "range" = none) (m_max : mg "max" = none) (m_min : mg "min" = none) (m_len : mg "len" = none) (d__law_numbers : Df P w K mg base 1 "_law_numbers" ["_law_script", "_law_at"] p__law_numbers) (d__law_right : Df P w K mg base 4 "_law_right" ["_law_die"] p__law_right) (d_is_name : Df P w K mg base 1 "is_name" ["value"] p_is_name) : Df P w K mg base 5 "law" ["_law_script"] p_law := by
  refine df_ok T sc_law (len_law) (fun _ _ _ _ _ _ us hl => match us, hl with | [_], _ => rfl) (fun cdv A outer s H E fa hr => ⟨_, (pss_cons (ps_for PassesOwn.never rfl (pi_range1 (by rfl) m_range (pa_cons (pe_callB (call_max2 rfl) (by rfl) m_max (by decide +kernel) (pa_cons pe_int (pa_cons (pe_callB (call_min2 rfl) (by rfl) m_min (by decide +kernel) (pa_cons pe_int (pa_cons (pe_callB (call_lenK K) (by rfl) m_len (by decide +kernel) (pa_cons (pv 0) pa_nil)) pa_nil))) pa_nil))) pa_nil)) (pg_name (i := 1) sc_law.nd rfl (.inl rfl)) (pss_cons (ps_set (i := 2) sc_law.nd rfl (.inl rfl) (pe_callD d__law_numbers (hr.mono (by decide)) (by rfl) (pa_cons (pv 0) (pa_cons (pv 1) pa_nil)))) (pss_one (ps_for PassesOwn.never rfl (pi_range1 (by rfl) m_range (pa_cons pe_int pa_nil)) (pg_name (i := 3) sc_law.nd rfl (.inl rfl)) (pss_one (ps_if (pt_not (pt_truK K (pe_callD d__law_right (hr.mono (by decide)) (by rfl) (pa_cons (pv 2) pa_nil)) (fun _ => rfl))) (pss_one (ps_ret pe_bl)) pss_nil)))))) (pss_cons (ps_setLc (own := [("_law_word", 5)]) (i := 4) rfl sc_law.nd rfl rfl (sw_true rfl rfl rfl (by decide +kernel)) (pi_tupK K (pe_tup (pa_cons pe_str (pa_cons pe_str (pa_cons pe_str (pa_cons pe_str (pa_cons pe_str (pa_cons pe_str (pa_cons pe_str (pa_cons pe_str pa_nil)))))))))) (blkOk_by (N := N_law) (sc := defScope s_law) (by decide +kernel)) (fun _ _ _ _ _ => (pg_name (i := 5) sc_law.nd rfl (.inl rfl))) (fun _ _ _ _ _ => pts_nil) (fun _ _ _ _ _ => (pe_callD d_is_name (hr.mono (by decide)) (by rfl) (pa_cons (pv 5) pa_nil)))) (pss_one (ps_ret (pe_cmpR (op_eqK K hr.units) (pv 4) (pe_lst (pa_cons pe_bl (pa_cons pe_bl (pa_cons pe_bl (pa_cons pe_bl (pa_cons pe_bl (pa_cons pe_bl (pa_cons pe_bl (pa_cons pe_bl pa_nil))))))))) (nomark _)))))), ?_⟩)
  rintro ds M R ⟨ns, rfl, hl, hm, q⟩
  show DS K _ [some (.lst (ns.map D.int)), none, none, none, none, none] M _
  walk_at "x0"
  walk_at "go"
  refine ds_forM [1, 2, 3] (fun _ => True) ?_
  walk_at "x0"
  walk_at "go"
  have hlen : (ns.map D.int).length ≤ 63 := by rw [List.length_map]; exact hl
  have hr1 : ∀ x : Int, (if (if x < 8 then x else (8 : Int)) > 1 then (if x < 8 then x else (8 : Int)) else 1) ≤ 8 ∧ 1 ≤ (if (if x < 8 then x else (8 : Int)) > 1 then (if x < 8 then x else (8 : Int)) else 1) := fun x => by split <;> split at * <;> omega
  refine ⟨by have := (hr1 ((ns.map D.int).length : Int)).2; omega, by have := (hr1 ((ns.map D.int).length : Int)).1; omega, trivial, fun d hd M2 _ => ?_, fun M2 _ => ?_⟩
  · obtain ⟨i, hi⟩ := List.mem_iff_getElem?.mp hd
    obtain ⟨_, rfl⟩ := rngD_get hi
    walk_at "go"
    refine use_numbers (by omega) hl fun p hp => ?_
    walk_at "go"
    refine ds_for1 [3] ?_
    walk_at "x0"
    walk_at "go"
    refine ⟨by decide, by decide, fun d hd => ?_, ⟨rfl, trivial⟩⟩
    walk_at "go"
    refine use_right mup_same ?_
    walk_at "go"
    exact ⟨rfl, rfl⟩
  · walk_at "go"
    refine de_map (by simp) ?_
    walk_at "gol"
    refine ⟨by rw [sizeLine_eq]; decide, fun d => .bl (isN d), fun d hd => ?_, ?_⟩
    · walk_at "x0"
      walk_at "go"
      refine use_isn (okD_all (l := [.str "a", .str "zzzzzzzz", .str "aaaaaaaaa", .str "", .str "block", .str "Run", .str "a1", .str "blocking"]) (by decide +kernel) d hd) ?_
      exact ⟨rfl, rfl⟩
    · walk_at "gol"
      have e : ([.str "a", .str "zzzzzzzz", .str "aaaaaaaaa", .str "", .str "block", .str "Run", .str "a1", .str "blocking"] : List D).map (fun d => D.bl (isN d)) = [.bl true, .bl true, .bl false, .bl false, .bl true, .bl false, .bl false, .bl true] := by
        have e1 : ([.str "a", .str "zzzzzzzz", .str "aaaaaaaaa", .str "", .str "block", .str "Run", .str "a1", .str "blocking"] : List D).map isN = [true, true, false, false, true, false, false, true] := by decide +kernel
        have e2 := congrArg (List.map D.bl) e1
        rw [List.map_map] at e2
        exact e2
      rw [e]
      exact dr_eqDE ⟨_, _, rfl, rfl, rfl, rfl, q _⟩
theorem all_mk {l : PySem.W.OpenLaw} {w : World} {K : PySem.W.Frag} {h : Heap} {mg : Str → Option Value} {fa : Addr} (X : K.In h) (G : h.Ns mainGlobals mg) (hfa : mg "law" = some (.ref fa))
    {f0 : Addr} {od0 an0 : Option Addr} {sl0 : Array (Option Value)} {oc0 kV0 dc0 pm0 cd0 ct0 : Value}
    {f1 : Addr} {od1 an1 : Option Addr} {sl1 : Array (Option Value)} {oc1 kV1 dc1 pm1 cd1 ct1 : Value}
    {f2 : Addr} {od2 an2 : Option Addr} {sl2 : Array (Option Value)} {oc2 kV2 dc2 pm2 cd2 ct2 : Value}
    {f3 : Addr} {od3 an3 : Option Addr} {sl3 : Array (Option Value)} {oc3 kV3 dc3 pm3 cd3 ct3 : Value}
    {f4 : Addr} {od4 an4 : Option Addr} {sl4 : Array (Option Value)} {oc4 kV4 dc4 pm4 cd4 ct4 : Value}
    {f5 : Addr} {od5 an5 : Option Addr} {sl5 : Array (Option Value)} {oc5 kV5 dc5 pm5 cd5 ct5 : Value}
    {f6 : Addr} {od6 an6 : Option Addr} {sl6 : Array (Option Value)} {oc6 kV6 dc6 pm6 cd6 ct6 : Value}
    {f7 : Addr} {od7 an7 : Option Addr} {sl7 : Array (Option Value)} {oc7 kV7 dc7 pm7 cd7 ct7 : Value}
    (a0 : PySem.W.nsIn K mainGlobals "_law_numbers" = some (some (.ref f0))) (l0 : K.lookup f0 = some ⟨oc0, od0, .func (PySem.W.fnOf "_law_numbers" "_law_numbers" (defArgs s__law_numbers) (defBody s__law_numbers) (defScope s__law_numbers) .none kV0 dc0 pm0 an0 cd0 ct0), sl0⟩) (e0 : PySem.W.codeIn K cd0 "_law_numbers" = true) (k0 : PySem.W.keepIn K (.ref f0) = true)
    (a1 : PySem.W.nsIn K mainGlobals "_law_cast" = some (some (.ref f1))) (l1 : K.lookup f1 = some ⟨oc1, od1, .func (PySem.W.fnOf "_law_cast" "_law_cast" (defArgs s__law_cast) (defBody s__law_cast) (defScope s__law_cast) .none kV1 dc1 pm1 an1 cd1 ct1), sl1⟩) (e1 : PySem.W.codeIn K cd1 "_law_cast" = true) (k1 : PySem.W.keepIn K (.ref f1) = true)
    (a2 : PySem.W.nsIn K mainGlobals "_law_pick" = some (some (.ref f2))) (l2 : K.lookup f2 = some ⟨oc2, od2, .func (PySem.W.fnOf "_law_pick" "_law_pick" (defArgs s__law_pick) (defBody s__law_pick) (defScope s__law_pick) .none kV2 dc2 pm2 an2 cd2 ct2), sl2⟩) (e2 : PySem.W.codeIn K cd2 "_law_pick" = true) (k2 : PySem.W.keepIn K (.ref f2) = true)
    (a3 : PySem.W.nsIn K mainGlobals "_law_odd_one" = some (some (.ref f3))) (l3 : K.lookup f3 = some ⟨oc3, od3, .func (PySem.W.fnOf "_law_odd_one" "_law_odd_one" (defArgs s__law_odd_one) (defBody s__law_odd_one) (defScope s__law_odd_one) .none kV3 dc3 pm3 an3 cd3 ct3), sl3⟩) (e3 : PySem.W.codeIn K cd3 "_law_odd_one" = true) (k3 : PySem.W.keepIn K (.ref f3) = true)
    (a4 : PySem.W.nsIn K mainGlobals "is_name" = some (some (.ref f4))) (l4 : K.lookup f4 = some ⟨oc4, od4, .func (PySem.W.fnOf "is_name" "is_name" (defArgs s_is_name) (defBody s_is_name) (defScope s_is_name) .none kV4 dc4 pm4 an4 cd4 ct4), sl4⟩) (e4 : PySem.W.codeIn K cd4 "is_name" = true) (k4 : PySem.W.keepIn K (.ref f4) = true)
    (a5 : PySem.W.nsIn K mainGlobals "_law_is_word" = some (some (.ref f5))) (l5 : K.lookup f5 = some ⟨oc5, od5, .func (PySem.W.fnOf "_law_is_word" "_law_is_word" (defArgs s__law_is_word) (defBody s__law_is_word) (defScope s__law_is_word) .none kV5 dc5 pm5 an5 cd5 ct5), sl5⟩) (e5 : PySem.W.codeIn K cd5 "_law_is_word" = true) (k5 : PySem.W.keepIn K (.ref f5) = true)
    (a6 : PySem.W.nsIn K mainGlobals "_law_right" = some (some (.ref f6))) (l6 : K.lookup f6 = some ⟨oc6, od6, .func (PySem.W.fnOf "_law_right" "_law_right" (defArgs s__law_right) (defBody s__law_right) (defScope s__law_right) .none kV6 dc6 pm6 an6 cd6 ct6), sl6⟩) (e6 : PySem.W.codeIn K cd6 "_law_right" = true) (k6 : PySem.W.keepIn K (.ref f6) = true)
    (a7 : PySem.W.nsIn K mainGlobals "law" = some (some (.ref f7))) (l7 : K.lookup f7 = some ⟨oc7, od7, .func (PySem.W.fnOf "law" "law" (defArgs s_law) (defBody s_law) (defScope s_law) .none kV7 dc7 pm7 an7 cd7 ct7), sl7⟩) (e7 : PySem.W.codeIn K cd7 "law" = true) (k7 : PySem.W.keepIn K (.ref f7) = true)
    (m_len : PySem.W.nsIn K mainGlobals "len" = some none)
    (m_int : PySem.W.nsIn K mainGlobals "int" = some none)
    (m_abs : PySem.W.nsIn K mainGlobals "abs" = some none)
    (m_max : PySem.W.nsIn K mainGlobals "max" = some none)
    (m_isinstance : PySem.W.nsIn K mainGlobals "isinstance" = some none)
    (m_str : PySem.W.nsIn K mainGlobals "str" = some none)
    {tc_MAX_LETTERS : Tok} (c_MAX_LETTERS : PySem.W.nsIn K mainGlobals "MAX_LETTERS" = some (some (.int 8 tc_MAX_LETTERS)))
    (m_all : PySem.W.nsIn K mainGlobals "all" = some none)
    {tc_LETTERS : Tok} (c_LETTERS : PySem.W.nsIn K mainGlobals "LETTERS" = some (some (.str "abcdefghijklmnopqrstuvwxyz" tc_LETTERS)))
    (m_range : PySem.W.nsIn K mainGlobals "range" = some none)
    (m_repr : PySem.W.nsIn K mainGlobals "repr" = some none)
    (m_min : PySem.W.nsIn K mainGlobals "min" = some none) :
    ∃ fd : FuncData, (∀ (s : Shared) (v : Value), BindsTo s fd ⟨[v], []⟩ [("_law_script", v)]) ∧ ∀ base : Heap, K.In base → base.Ns mainGlobals mg → FnOk l.prog w K mg base CX0 5 fa fd ["_law_script"] (spLaw K) := by
  have e := hfa.symm.trans (PySem.W.mg_of X G a7)
  cases e
  refine ⟨PySem.W.fnOf "law" "law" (defArgs s_law) (defBody s_law) (defScope s_law) .none kV7 dc7 pm7 an7 cd7 ct7, fun s v => .of_eq rfl, fun base _ _ => ?_⟩
  have m_len := PySem.W.mg_none_of X G m_len
  have m_int := PySem.W.mg_none_of X G m_int
  have m_abs := PySem.W.mg_none_of X G m_abs
  have m_max := PySem.W.mg_none_of X G m_max
  have m_isinstance := PySem.W.mg_none_of X G m_isinstance
  have m_str := PySem.W.mg_none_of X G m_str
  have c_MAX_LETTERS : GlK mg "MAX_LETTERS" (.int 8) := ⟨_, PySem.W.mg_of X G c_MAX_LETTERS, ⟨_, rfl⟩⟩
  have m_all := PySem.W.mg_none_of X G m_all
  have c_LETTERS : GlK mg "LETTERS" (.str "abcdefghijklmnopqrstuvwxyz") := ⟨_, PySem.W.mg_of X G c_LETTERS, ⟨_, rfl⟩⟩
  have m_range := PySem.W.mg_none_of X G m_range
  have m_repr := PySem.W.mg_none_of X G m_repr
  have m_min := PySem.W.mg_none_of X G m_min
  have d__law_numbers : Df l.prog w K mg base 1 "_law_numbers" ["_law_script", "_law_at"] p__law_numbers := ok__law_numbers (tx_mk l0 e0 k0 (PySem.W.mg_of X G a0)) m_len m_int m_abs m_max
  have d__law_cast : Df l.prog w K mg base 1 "_law_cast" ["_law_die", "_law_total"] p__law_cast := ok__law_cast (tx_mk l1 e1 k1 (PySem.W.mg_of X G a1)) m_int
  have d__law_pick : Df l.prog w K mg base 2 "_law_pick" ["_law_die", "_law_items"] p__law_pick := ok__law_pick (tx_mk l2 e2 k2 (PySem.W.mg_of X G a2)) d__law_cast m_len
  have d__law_odd_one : Df l.prog w K mg base 3 "_law_odd_one" ["_law_die"] p__law_odd_one := ok__law_odd_one (tx_mk l3 e3 k3 (PySem.W.mg_of X G a3)) d__law_pick
  have d_is_name : Df l.prog w K mg base 1 "is_name" ["value"] p_is_name := ok_is_name (tx_mk l4 e4 k4 (PySem.W.mg_of X G a4)) m_isinstance m_str m_len c_MAX_LETTERS m_all c_LETTERS
  have d__law_is_word : Df l.prog w K mg base 1 "_law_is_word" ["_law_value"] p__law_is_word := ok__law_is_word (tx_mk l5 e5 k5 (PySem.W.mg_of X G a5)) m_isinstance m_str m_len
  have d__law_right : Df l.prog w K mg base 4 "_law_right" ["_law_die"] p__law_right := ok__law_right (tx_mk l6 e6 k6 (PySem.W.mg_of X G a6)) m_range d__law_cast d__law_pick m_len d__law_odd_one m_repr d_is_name d__law_is_word
  have d_law : Df l.prog w K mg base 5 "law" ["_law_script"] p_law := ok_law (tx_mk l7 e7 k7 (PySem.W.mg_of X G a7)) m_range m_max m_min m_len d__law_numbers d__law_right d_is_name
  exact law_end d_law (PySem.W.mg_of X G a7) l7
end K01
open PySem PySem.W PyProof.Rows
set_option maxHeartbeats 0 in
theorem PySem.Challenge.cw_handedworld_k01_names_holds : PySem.Challenge.rw_handedworld_k01_names.Holds := by
  w_on; o_law; k_head; (case hw => w_witness2)
  k_fill
  refine L2.walk_of (l := PySem.Challenge.rw_handedworld_k01_names) (n := 63) (k := 5) (x := "_law_script") (CX := fun _ => L2.CX0) (sp := fun w => DL.spLaw _) rfl (by decide) rfl ⟨rfl, by decide, by decide⟩ (fun w h Y => PySem.W.kIn_of Y) ?F (fun _ _ a ns hl ho hS => ⟨a, ns, rfl, hS, hl, ho, fun _ => rfl⟩) (fun _ _ _ _ _ h => h)
  case F =>
    intro w mg fa h KX G hmg
    refine' K01.all_mk KX G hmg ?a0 ?l0 ?e0 ?k0 ?a1 ?l1 ?e1 ?k1 ?a2 ?l2 ?e2 ?k2 ?a3 ?l3 ?e3 ?k3 ?a4 ?l4 ?e4 ?k4 ?a5 ?l5 ?e5 ?k5 ?a6 ?l6 ?e6 ?k6 ?a7 ?l7 ?e7 ?k7 ?m_len ?m_int ?m_abs ?m_max ?m_isinstance ?m_str ?c_MAX_LETTERS ?m_all ?c_LETTERS ?m_range ?m_repr ?m_min
    (case a0 => k_is); (case l0 => k_is); (case e0 => k_is); (case k0 => k_is); (case a1 => k_is); (case l1 => k_is); (case e1 => k_is); (case k1 => k_is); (case a2 => k_is); (case l2 => k_is); (case e2 => k_is); (case k2 => k_is); (case a3 => k_is); (case l3 => k_is); (case e3 => k_is); (case k3 => k_is); (case a4 => k_is); (case l4 => k_is); (case e4 => k_is); (case k4 => k_is); (case a5 => k_is); (case l5 => k_is); (case e5 => k_is); (case k5 => k_is); (case a6 => k_is); (case l6 => k_is); (case e6 => k_is); (case k6 => k_is); (case a7 => k_is); (case l7 => k_is); (case e7 => k_is); (case k7 => k_is); (case m_len => k_is); (case m_int => k_is); (case m_abs => k_is); (case m_max => k_is); (case m_isinstance => k_is); (case m_str => k_is); (case c_MAX_LETTERS => k_is); (case m_all => k_is); (case c_LETTERS => k_is); (case m_range => k_is); (case m_repr => k_is); (case m_min => k_is)

